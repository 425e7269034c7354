import PyProof.Rows.All
import Wide.All
import OpenK.AllK
import Wide.FinOn
import Lean
import PyProof.EqAt
import PyProof.EqKinds
import PyProof.TupleCall
import PySem.Challenge.RW_rootcourt_k15_whole_layers
set_option maxHeartbeats 4000000
set_option Elab.async false
set_option linter.all false
set_option maxRecDepth 100000
namespace L2
open PySem PySem.Spec PyProof.Rows
abbrev Key:=Sum Int Str
def Ak4:Key->Value->Bool
  | .inl k,v=>Value.isInt k v
  | .inr x,v=>Value.isStrOf x v
def Ao1 (w:World):Key->Int
  | .inl k=>hashInt k
  | .inr x=>hashStr w x
theorem Gh:∀ {k:Key}{v:Value},Ak4 k v=true->(∃i t,k=Sum.inl i/\v=Value.int i t)\/(∃x t,k=Sum.inr x/\v=Value.str x t)
  | .inl i,v,h=>by
    obtain⟨t,e⟩:=Value.isInt_shape (k:=i) (v:=v) h
    exact .inl ⟨i,t,rfl,e⟩
  | .inr x,v,h=>by
    obtain⟨t,e⟩:=Value.isStrOf_shape (x:=x) (v:=v) h
    exact .inr ⟨x,t,rfl,e⟩
theorem Amk (a b:Int):decide ((Sum.inl a:Key)=Sum.inl b)=(a==b):=by
  by_cases e:a=b
  . subst e;simp
  . have h:¬(Sum.inl a:Key)=Sum.inl b:=fun q=>e (Sum.inl.inj q)
    rw [decide_eq_false h]
    exact(beq_eq_false_iff_ne.mpr e).symm
theorem Alm (a b:Str):decide ((Sum.inr a:Key)=Sum.inr b)=decide (a=b):=by
  by_cases e:a=b
  . subst e;simp
  . have h:¬(Sum.inr a:Key)=Sum.inr b:=fun q=>e (Sum.inr.inj q)
    rw [decide_eq_false h,decide_eq_false e]
theorem Ak8 (a:Int) (b:Str):decide ((Sum.inl a:Key)=Sum.inr b)=false:=decide_eq_false (fun q=>nomatch q)
theorem Amf (a:Str) (b:Int):decide ((Sum.inr a:Key)=Sum.inl b)=false:=decide_eq_false (fun q=>nomatch q)
def Afc (prog:Program) (w:World):PySem.KeyKind prog w Key where
  is:=Ak4
  hash:=Ao1 w
  inj:=fun v a b ha hb=>by
    rcases Gh ha with⟨i,t,rfl,rfl⟩ | ⟨x,t,rfl,rfl⟩
    . rcases Gh hb with⟨j,u,rfl,e⟩ | ⟨y,u,rfl,e⟩
      . injection e with e1 _;rw [e1]
      . exact nomatch e
    . rcases Gh hb with⟨j,u,rfl,e⟩ | ⟨y,u,rfl,e⟩
      . exact nomatch e
      . injection e with e1 _;rw [e1]
  byValue:=fun k v h=>by
    rcases Gh h with⟨i,t,rfl,rfl⟩ | ⟨x,t,rfl,rfl⟩<;>rfl
  pyHash:=fun hv h=>by
    rcases Gh hv with⟨i,t,rfl,rfl⟩ | ⟨x,t,rfl,rfl⟩
    . exact wpAny_pyHash_int h
    . exact wpAny_pyHash_str h
  eqBool:=fun hu hv h=>by
    rcases Gh hu with⟨i,t,rfl,rfl⟩ | ⟨x,t,rfl,rfl⟩
    . rcases Gh hv with⟨j,u,rfl,rfl⟩ | ⟨y,u,rfl,rfl⟩
      . rw [Amk]at h;exact wpAny_eqBool_int h
      . rw [Ak8]at h;exact SeqAt.EqAt.int_str i t y u _ _ _ _ h
    . rcases Gh hv with⟨j,u,rfl,rfl⟩ | ⟨y,u,rfl,rfl⟩
      . rw [Amf]at h;exact SeqAt.EqAt.str_int x t j u _ _ _ _ h
      . rw [Alm]at h;exact wpAny_eqBool_str h
  «strs» :=fun k x t v h=>by
    rcases Gh h with⟨i,u,rfl,e⟩ | ⟨y,u,rfl,e⟩
    . exact nomatch e
    . injection e with e1 _
      subst e1
      cases v<;>rfl
end L2
namespace L2
open PySem PySem.Spec PyProof.Rows
inductive V where
  | non | bl (b:Bool) | int (i:Int) | str (x:Str) | byt (b:Array UInt8) | flt (b:UInt64) | ref (a:Addr) | ty (n:String)
  deriving DecidableEq
def RelV:V->Value->Prop
  | .non,u=>u=Value.none
  | .bl b,u=>u=Value.bool b
  | .int i,u=>∃t,u=Value.int i t
  | .str x,u=>∃t,u=Value.str x t
  | .byt b,u=>∃t,u=Value.bytes b t
  | .flt b,u=>∃t,u=Value.float b t
  | .ref a,u=>u=Value.ref a
  | .ty n,u=>u=Value.type n
abbrev Vals:List V->List Value->Prop:=Paired RelV
theorem Vals.length {xs:List V}{us:List Value} (r:Vals xs us):xs.length=us.length:=Paired.length r
theorem Vals.get:∀ {xs:List V}{us:List Value}{i:Nat}{x:V},Vals xs us->xs[i]? =some x->∃u,us[i]? =some u/\RelV x u
  | _,_,_,_,.nil,e=>by simp at e
  | _,_,0,_,.cons r _,e=>by simp at e;subst e;exact⟨_,rfl,r⟩
  | _,_,i+1,x,.cons _ t,e=>by
    obtain⟨u,h1,h2⟩:=Vals.get (i:=i) (x:=x) t (by simpa using e)
    exact⟨u,by simpa using h1,h2⟩
theorem Vals.set {x:V}{u:Value} (r:RelV x u):∀ {xs:List V}{us:List Value} (i:Nat),Vals xs us->Vals (xs.set i x) (us.set i u)
  | _,_,_,.nil=> .nil
  | _,_,0,.cons _ t=> .cons r t
  | _,_,i+1,.cons q t=> .cons q (Vals.set r i t)
theorem Vals.append:∀ {xs ys:List V}{us ws:List Value},Vals xs us->Vals ys ws->Vals (xs++ys) (us++ws)
  | _,_,_,_,.nil,s=>s
  | _,_,_,_,.cons r t,s=> .cons r (Vals.append t s)
theorem Vals.take:∀ {xs:List V}{us:List Value} (n:Nat),Vals xs us->Vals (xs.take n) (us.take n)
  | _,_,0,_=> .nil
  | _,_,_+1,.nil=> .nil
  | _,_,n+1,.cons r t=> .cons r (Vals.take n t)
theorem Vals.drop:∀ {xs:List V}{us:List Value} (n:Nat),Vals xs us->Vals (xs.drop n) (us.drop n)
  | _,_,0,r=>r
  | _,_,_+1,.nil=> .nil
  | _,_,n+1,.cons _ t=>Vals.drop n t
def Afp:Option V->Option Value->Prop
  | some v,some u=>RelV v u
  | none,none=>True
  | _,_=>False
def KV {κ:Type}:List (κ × V)->List (κ × Value)->Prop:=Paired fun(p:κ × V) (q:κ × Value)=>p.1=q.1/\RelV p.2 q.2
def kV:Key->V
  | .inl i=> .int i
  | .inr x=> .str x
inductive HO where
  | lst (xs:List V)
  | tup (xs:List V)
  | dK (kvs:List (Key × V)) | dT (kvs:List (List Key × V))
  | set (S:Int->Bool) (n:Nat)
  | ins (C dx:Addr) (fs:List (Str × V))
  | own (x:Addr)
  | xd (fs:List (Str × V))
  | met (f x:Addr)
  | rng (lo hi:Int)
  | frz (o:Obj) (u:HO)
  | tbl (ps:Array Value)
  | ext (φ:Heap->Prop)
abbrev Hp:=Addr->Option HO
def upd (H:Hp) (a:Addr) (o:HO):Hp:=fun b=>if b=a then some o else H b
theorem Af {H:Hp}{a:Addr}{o:HO}:upd H a o a=some o:=by unfold upd;rw [if_pos rfl]
theorem Bv {H:Hp}{a b:Addr}{o:HO} (h:b≠a):upd H a o b=H b:=by unfold upd;rw [if_neg h]
theorem Zt {H:Hp}{a b:Addr}{o u:HO} (h:H a=some o) (h':H b=some u) (d:o≠u):a≠b:=by
  intro e;subst e;rw [h]at h';exact d (Option.some.inj h')
theorem Bt {H:Hp}{a b:Addr}{o:HO} (h:H a=some o) (h':H b=none):a≠b:=by
  intro e;subst e;rw [h]at h';cases h'
section
variable (P:Program) (w:World)
def Ke (H:Hp) (h:Heap) (a:Addr):HO->Prop
  | .lst xs=>xs.length<=sizeLine/\∃(its:List Value) (n:Nat),Vals xs its/\h.get? a=some { cls:= .type "list",data:= .seq its.toArray n}
  | .tup xs=>xs.length<=sizeLine/\∃its:List Value,Vals xs its/\IsTup h a its.toArray
  | .dK kvs=>kvs.length<=sizeLine/\(a==sysModules)=false/\∃vs,KV kvs vs/\h.DictOf (Afc P w) a vs
  | .dT kvs=>kvs.length<=sizeLine/\(a==sysModules)=false/\∃xs:List (List Key × Addr × Value),
      Paired (fun(p:List Key × V) (q:List Key × Addr × Value)=>p.1=q.1/\H q.2.1=some (.tup (p.1.map kV))/\RelV p.2 q.2.2) kvs xs/\
      ∃o es ep,h.get? a=some o/\o.ExactDict/\o.data= .dict es ep/\es.toList=xs.map (entryOfKey (tupleKind (Afc P w)))/\(xs.map (·.1)).Nodup
  | .set S n=>h.SetOf (intKind P w) a S n
  | .ins C dx fs=>H dx=some (.own a)/\fs.length<=1000/\dx≠a/\h.get? a=some (PySem.W.instObj C dx)/\
      ∃mA,h.Ns1 dx mA/\(∀f,Afp (fs.lookup f) (mA f))/\PySem.Within mA (fs.map (·.1))
  | .own _=>∃o,h.get? a=some o
  | .xd fs=>∃mA,h.Ns1 a mA/\∀f,Afp (fs.lookup f) (mA f)
  | .rng lo hi=>∃t u v,h.get? a=some { cls:= .type "range",data:= .fields #[.int lo t,.int hi u,.int 1 v]}
  | .frz o u=>h.get? a=some o/\Ke H h a u
  | .tbl ps=>h.get? a=some { cls:= .none,data:= .fields ps}
  | .met f x=>h.get? a=some (PySem.W.methodObj (.ref f) (.ref x))
  | .ext φ=>φ h/\(∃o,h.get? a=some o)/\∀h1 h2:Heap,φ h1->(∀o,h1.get? a=some o->h2.get? a=some o)->φ h2
def HOk (H:Hp) (h:Heap):Prop:=∀a o,H a=some o->Ke P w H h a o
end
section
variable {P:Program}{w:World}{H H':Hp}{h h':Heap}{a:Addr}{o:HO}
theorem Ke.lt (x:Ke P w H h a o):a<h.objs.size:=by
  cases o with
  | lst xs=>obtain⟨_,_,_,_,e⟩:=x;exact Heap.lt_size e
  | tup xs=>obtain⟨_,_,_,p⟩:=x;exact p.lt
  | dK kvs=>obtain⟨_,_,_,_,o,_,_,e,_⟩:=x;exact Heap.lt_size e
  | dT kvs=>obtain⟨_,_,_,_,o,_,_,e,_⟩:=x;exact Heap.lt_size e
  | set S n=>obtain⟨o,_,_,_,e,_⟩:=x;exact Heap.lt_size e
  | ins C dx fs=>obtain⟨_,_,_,e,_⟩:=x;exact Heap.lt_size e
  | own y=>obtain⟨_,e⟩:=x;exact Heap.lt_size e
  | xd fs=>obtain⟨_,⟨_,_,_,e,_⟩,_⟩:=x;exact Heap.lt_size e
  | rng lo hi=>obtain⟨_,_,_,e⟩:=x;exact Heap.lt_size e
  | frz ob u=>obtain⟨e,_⟩:=x;exact Heap.lt_size e
  | tbl ps=>exact Heap.lt_size (show h.get? a=some _ from x)
  | met f y=>exact Heap.lt_size (show h.get? a=some _ from x)
  | ext φ=>obtain⟨_,⟨_,e⟩,_⟩:=x;exact Heap.lt_size e
theorem Paired.mapP {α β:Type}{F G:α->β->Prop}:∀ {l₁:List α}{l₂:List β},Paired F l₁ l₂->(∀a b,F a b->G a b)->Paired G l₁ l₂
  | _,_,.nil,_=> .nil
  | _,_,.cons r t,f=> .cons (f _ _ r) (Paired.mapP t f)
theorem Ke.stay (x:Ke P w H h a o) (k:∀b u,(b=a\/H b=some (.own a))->h.get? b=some u->h'.get? b=some u)
    (ho:∀b,H b=some (.own a)->H' b=some (.own a)) (ht:∀b xs,H b=some (.tup xs)->H' b=some (.tup xs)):Ke P w H' h' a o:=by
  induction o with
  | lst xs=>obtain⟨z,its,n,r,e⟩:=x;exact⟨z,its,n,r,k _ _ (.inl rfl) e⟩
  | tup xs=>obtain⟨z,its,r,ob,e,c⟩:=x;exact⟨z,its,r,ob,k _ _ (.inl rfl) e,c⟩
  | dK kvs=>obtain⟨z,y,vs,r,ob,es,ep,e,c⟩:=x;exact⟨z,y,vs,r,ob,es,ep,k _ _ (.inl rfl) e,c⟩
  | dT kvs=>
    obtain⟨z,y,xs,r,ob,es,ep,e,c⟩:=x
    exact⟨z,y,xs,Paired.mapP r fun p q z=>⟨z.1,ht _ _ z.2.1,z.2.2⟩,ob,es,ep,k _ _ (.inl rfl) e,c⟩
  | set S n=>obtain⟨ob,es,ep,t,e,c⟩:=x;exact⟨ob,es,ep,t,k _ _ (.inl rfl) e,c⟩
  | ins C dx fs=>
    obtain⟨d,z,ne,e,mA,⟨od,es,ep,e2,c⟩,r⟩:=x
    exact⟨ho _ d,z,ne,k _ _ (.inl rfl) e,mA,⟨od,es,ep,k _ _ (.inr d) e2,c⟩,r⟩
  | own y=>obtain⟨ob,e⟩:=x;exact⟨ob,k _ _ (.inl rfl) e⟩
  | xd fs=>obtain⟨mA,⟨od,es,ep,e,c⟩,r⟩:=x;exact⟨mA,⟨od,es,ep,k _ _ (.inl rfl) e,c⟩,r⟩
  | rng lo hi=>obtain⟨t,u,v,e⟩:=x;exact⟨t,u,v,k _ _ (.inl rfl) e⟩
  | frz ob u ih=>obtain⟨e,q⟩:=x;exact⟨k _ _ (.inl rfl) e,ih q⟩
  | tbl ps=>
    have e:h.get? a=some { cls:= .none,data:= .fields ps}:=x
    show h'.get? a=some { cls:= .none,data:= .fields ps}
    exact k a _ (.inl rfl) e
  | met f y=>
    have e:h.get? a=some (PySem.W.methodObj (.ref f) (.ref y)):=x
    show h'.get? a=some (PySem.W.methodObj (.ref f) (.ref y))
    exact k a _ (.inl rfl) e
  | ext φ=>obtain⟨p,⟨o,e⟩,st⟩:=x;exact⟨st _ _ p fun o q=>k _ _ (.inl rfl) q,⟨o,k _ _ (.inl rfl) e⟩,st⟩
theorem HOk.lt (x:HOk P w H h) (e:H a=some o):a<h.objs.size:=(x a o e).lt
theorem HOk.fresh (x:HOk P w H h) (e:h.objs.size<=a):H a=none:=by
  cases q:H a with
  | none=>rfl
  | some u=>exact absurd (Nat.lt_of_lt_of_le (x.lt q) e) (Nat.lt_irrefl _)
theorem HOk.kept (x:HOk P w H h) (k:∀b u,h.get? b=some u->h'.get? b=some u):HOk P w H h':=fun a o e=>
  (x a o e).stay (fun b u _ q=>k b u q) (fun _ q=>q) fun _ _ q=>q
theorem HOk.laid (x:HOk P w H h) (k:∀b u,h.get? b=some u->h'.get? b=some u) (hp:h.objs.size<=a) (new:Ke P w (upd H a o) h' a o):HOk P w (upd H a o) h':=fun b u e=>by
  have hn:=x.fresh hp
  by_cases hb:b=a
  . subst hb;rw [Af]at e;cases e;exact new
  . rw [Bv hb]at e
    exact(x b u e).stay (fun c v _ q=>k c v q) (fun c q=>by rw [Bv (Bt q hn)];exact q) fun c xs q=>by rw [Bv (Bt q hn)];exact q
end
def Rd (H:Hp) (a:Addr) (u:HO):Prop:=H a=some u\/∃o,H a=some (.frz o u)
theorem Rd.of {H:Hp}{a:Addr}{u:HO} (h:H a=some u):Rd H a u:= .inl h
theorem Rd.ok {P:Program}{w:World}{H:Hp}{h:Heap}{a:Addr}{u:HO} (r:Rd H a u) (x:HOk P w H h):Ke P w H h a u:=by
  rcases r with r | ⟨o,r⟩
  . exact x a u r
  . obtain⟨_,q⟩:=x a _ r
    exact q
def Mut:Option HO->Prop
  | some (.lst _)=>True
  | some (.dK _)=>True
  | some (.dT _)=>True
  | some (.set _ _)=>True
  | some (.ins _ _ _)=>True
  | some (.ext _)=>True
  | _=>False
section
variable {P:Program}{w:World}{H:Hp}{h h':Heap}{x e:Addr}{o':HO}
theorem HOk.write (ok:HOk P w H h) (mu:Mut (H x)) (he:e=x\/H e=some (.own x)) (k:∀b u,b≠e->h.get? b=some u->h'.get? b=some u) (heo:∃u,h'.get? e=some u)
    (new:Ke P w (upd H x o') h' x o'):HOk P w (upd H x o') h':=fun b u q=>by
  have nown:∀c y,H c=some (.own y)->c≠x:=fun c y r z=>by subst z;rw [r]at mu;exact mu
  have ntup:∀c xs,H c=some (.tup xs)->c≠x:=fun c xs r z=>by subst z;rw [r]at mu;exact mu
  by_cases hb:b=x
  . subst hb;rw [Af]at q;cases q;exact new
  . rw [Bv hb]at q
    by_cases hbe:b=e
    . have q':H b=some (.own x):=by
        rcases he with z | z
        . exact absurd (hbe.trans z) hb
        . rw [hbe];exact z
      rw [q]at q';cases q'
      obtain⟨v,hv⟩:=heo
      exact⟨v,by rw [hbe];exact hv⟩
    . refine(ok b u q).stay (fun c v hc r=>k c v ?_ r) (fun c r=>by rw [Bv (nown c b r)];exact r) fun c xs r=>by rw [Bv (ntup c xs r)];exact r
      rcases hc with rfl | hc
      . exact hbe
      . rintro rfl
        rcases he with z | z
        . exact nown c b hc z
        . rw [hc]at z;cases z;exact hb rfl
end
structure Un (fs ex:List Addr) (H H':Hp) (h h':Heap):Prop where
  keep:∀b o,h.get? b=some o->H b=none->b∉fs->b∉ex->h'.get? b=some o
  slot:∀b o,h.get? b=some o->H b=none->b∈fs->b∉ex->∃sl,h'.get? b=some { o with slots:=sl}
  free:∀b o,h.get? b=some o->H b=none->b∉ex->H' b=none
  there:∀b o,h.get? b=some o->b∉ex->∃o',h'.get? b=some o'
  tups:∀b xs,H b=some (.tup xs)->H' b=some (.tup xs)
  frzs:∀b o u,H b=some (.frz o u)->H' b=some (.frz o u)
  tbls:∀b ps,H b=some (.tbl ps)->∃more,H' b=some (.tbl (ps++more))
section
variable {fs fs' ex ex':List Addr}{H H1 H2:Hp}{h h1 h2 h':Heap}{a x e:Addr}{o:HO}
theorem Un.any (u:Un fs ex H H1 h h1) {b:Addr}{ob:Obj} (q:h.get? b=some ob) (n:H b=none) (hx:b∉ex):∃sl,h1.get? b=some { ob with slots:=sl}:=by
  by_cases hb:b∈fs
  . exact u.slot b ob q n hb hx
  . exact⟨ob.slots,u.keep b ob q n hb hx⟩
theorem Un.trans (a:Un fs ex H H1 h h1) (b:Un fs ex H1 H2 h1 h2):Un fs ex H H2 h h2 where
  keep:=fun c ob q n hc hx=>b.keep c ob (a.keep c ob q n hc hx) (a.free c ob q n hx) hc hx
  slot:=fun c ob q n hc hx=>by
    obtain⟨sl,e1⟩:=a.slot c ob q n hc hx
    obtain⟨sl',e2⟩:=b.slot c _ e1 (a.free c ob q n hx) hc hx
    exact⟨sl',e2⟩
  free:=fun c ob q n hx=>by
    obtain⟨o',e1⟩:=a.there c ob q hx
    exact b.free c o' e1 (a.free c ob q n hx) hx
  there:=fun c ob q hx=>by
    obtain⟨o',e1⟩:=a.there c ob q hx
    exact b.there c o' e1 hx
  tups:=fun c xs q=>b.tups c xs (a.tups c xs q)
  frzs:=fun c ob xs q=>b.frzs c ob xs (a.frzs c ob xs q)
  tbls:=fun c ps q=>by
    obtain⟨m1,e1⟩:=a.tbls c ps q
    obtain⟨m2,e2⟩:=b.tbls c _ e1
    exact⟨m1++m2,by rw [e2,Array.append_assoc]⟩
theorem Un.kept (k:∀b u,h.get? b=some u->h'.get? b=some u):Un fs ex H H h h':=
  ⟨fun b ob q _ _ _=>k b ob q,fun b ob q _ _ _=>⟨ob.slots,k b ob q⟩,fun _ _ _ n _=>n,fun b ob q _=>⟨ob,k b ob q⟩,fun _ _ q=>q,fun _ _ _ q=>q,fun _ ps q=>⟨#[],by rw [q];simp⟩⟩
theorem Un.refl:Un fs ex H H h h:=Un.kept fun _ _ q=>q
theorem Un.laid (k:∀b u,h.get? b=some u->h'.get? b=some u) (hp:h.objs.size<=a) (hn:H a=none):Un fs ex H (upd H a o) h h' where
  keep:=fun b u q _ _ _=>k b u q
  slot:=fun b u q _ _ _=>⟨u.slots,k b u q⟩
  free:=fun b u q n _=>by rw [Bv (Nat.ne_of_lt (Nat.lt_of_lt_of_le (Heap.lt_size q) hp))];exact n
  there:=fun b u q _=>⟨u,k b u q⟩
  tups:=fun b xs q=>by rw [Bv (Bt q hn)];exact q
  frzs:=fun b u xs q=>by rw [Bv (Bt q hn)];exact q
  tbls:=fun b ps q=>⟨#[],by rw [Bv (Bt q hn),q];simp⟩
theorem Un.write (mu:Mut (H x)) (he:e=x\/H e=some (.own x)) (k:∀b u,b≠e->h.get? b=some u->h'.get? b=some u) (heo:∃u,h'.get? e=some u):Un fs ex H (upd H x o) h h':=by
  have hx:∀b,H b=none->b≠x:=fun b n z=>by subst z;rw [n]at mu;exact mu
  have hb:∀b,H b=none->b≠e:=fun b n z=>by
    subst z
    rcases he with r | r
    . exact hx b n r
    . rw [n]at r;cases r
  have hm:∀b u,H b=some u->¬Mut (some u)->b≠x:=fun b u q nm z=>by subst z;rw [q]at mu;exact nm mu
  refine⟨fun b u q n _ _=>k b u (hb b n) q,fun b u q n _ _=>⟨u.slots,k b u (hb b n) q⟩,fun b u q n _=>by rw [Bv (hx b n)];exact n,fun b u q _=> ?_,
    fun b xs q=>by rw [Bv (hm b _ q fun z=>z)];exact q,fun b u xs q=>by rw [Bv (hm b _ q fun z=>z)];exact q,fun b ps q=>⟨#[],by rw [Bv (hm b _ q fun z=>z),q];simp⟩⟩
  by_cases hbe:b=e
  . subst hbe;exact heo
  . exact⟨u,k b u hbe q⟩
theorem Un.mono (u:Un fs ex H H1 h h1) (hs:∀b∈fs,b∈fs') (hx:∀b∈ex,b∈ex'):Un fs' ex' H H1 h h1:=
  ⟨fun b ob q n hb he=>u.keep b ob q n (fun z=>hb (hs b z)) fun z=>he (hx b z),fun _ _ q n _ he=>u.any q n fun z=>he (hx _ z),fun b ob q n he=>u.free b ob q n fun z=>he (hx b z),fun b ob q he=>u.there b ob q fun z=>he (hx b z),u.tups,u.frzs,u.tbls⟩
end
def trk (h:Heap) (H:Hp):List Addr:=(List.range h.objs.size).filter fun a=>(H a).isSome
def Ab3 (h:Heap) (H:Hp):Heap:=PySem.W.hideAll h (trk h H)
theorem Adc (h:Heap) (H:Hp):(Ab3 h H).objs.size=h.objs.size:=PySem.W.hideAll_size _ _
theorem Zy {h:Heap}{H:Hp}{b:Addr}{o:Obj} (e:h.get? b=some o) (n:H b=none):(Ab3 h H).get? b=some o:=
  PySem.W.hideAll_get _ e fun hm=>by
    have q:(H b).isSome=true:=(List.mem_filter.mp hm).2
    rw [n]at q;simp at q
theorem Aju {h:Heap}{H:Hp}{b:Addr}{o:Obj} (e:(Ab3 h H).get? b=some o):h.get? b=some o/\H b=none:=by
  have e':h.get? b=some o:=PySem.W.of_hideAll (trk h H) e
  refine⟨e',?_⟩
  cases q:H b with
  | none=>rfl
  | some x=>
    have hm:b∈trk h H:=List.mem_filter.mpr ⟨List.mem_range.mpr (Heap.lt_size e'),by simp [q]⟩
    have z:(Ab3 h H).get? b=none:=PySem.W.hideAll_none (trk h H) hm
    rw [z]at e;cases e
def Ajf (g h:Heap) (L:Addr):List (Addr × Obj):=(List.range h.objs.size).filterMap fun a=>if a=L\/(g.get? a).isSome=true then none else(h.get? a).map fun o=>(a,o)
def rest (g h:Heap) (L d:Addr):List (Addr × Obj):=(Ajf g h L).filter fun p=>decide (p.1≠d)
end L2
namespace L2
open PySem PySem.Spec PyProof.Rows
structure Mod (K:PySem.W.Frag) (mg:Str->Option Value) (base:Heap):Prop where
  kin:K.In base
  glob:base.Ns mainGlobals mg
  blt:∃mb,base.Ns builtinsNs mb/\∀x:Str,x≠"__name__"->mb x=bootBuiltins x
  nolimit:base.NoLimit
structure Cx where
  prog:Program
  w:World
  K:PySem.W.Frag
  mg:Str->Option Value
  base:Heap
  A:Around
  N:List Str
  s₀:Shared
  H₀:Hp
  env:Env
  outer:List Env
  stack:List Env
  ex:List Addr
  fn:Str->Bool
  calm:Bool
  pn:List (Addr × Obj)
  xe:Value->Shared->Prop
def frs (l:List Env):List Addr:=l.filterMap (·.frame)
abbrev Cx.fs (X:Cx):List Addr:=frs X.outer
def Vis (sc:Scope) (x:Str):Prop:=sc.names.lookup x=some .local \/sc.names.lookup x=some .cell\/sc.names.lookup x=some .free
def Loc (sc:Scope) (x:Str):Prop:=sc.names.lookup x=some .local \/sc.names.lookup x=some .cell
def Look (env:Env) (h:Heap) (m:Str->Option Value) (x:Str) (u:Value):Prop:=
  (env.kindOf x=some .local /\m x=some u)\/((env.kindOf x=some .cell\/env.kindOf x=some .free)/\∃c,env.cells.lookup x=some c/\h.IsCell c (some u))
structure Cx.Ok (X:Cx):Prop where
  mod:Mod X.K X.mg X.base
  kind:X.env.scope.kind= .function
  glob:X.env.globals=mainGlobals
  blt:X.env.builtins=builtinsNs
  above:X.s₀.heap.objs.size<=X.env.locals
  inj:∀x y c,X.env.cells.lookup x=some c->X.env.cells.lookup y=some c->x=y
  has:∀x,(X.env.kindOf x=some .cell\/X.env.kindOf x=some .free)->∃c,X.env.cells.lookup x=some c
  cab:∀x c,X.fn x=true->X.env.cells.lookup x=some c->X.s₀.heap.objs.size<=c
  hd:X.calm=true->X.A.handled=none
  frames:X.A.frames=some X.stack
  stk:X.stack=X.outer\/(X.stack=X.env::X.outer/\X.env.frame=some X.env.locals)
  exf:∀b∈X.ex,b≠X.env.locals/\∀x c,X.env.cells.lookup x=some c->c≠b
  bs:∀b o,X.base.get? b=some o->X.s₀.heap.get? b=some o/\X.H₀ b=none
  bsz:X.base.objs.size<=X.s₀.heap.objs.size
  noex:∀b o,X.base.get? b=some o->b∉X.ex
  exfs:∀b∈X.ex,b∉X.fs
  funs:X.s₀.heap.FunFrames X.base X.outer
  frf:∀b∈X.fs,X.H₀ b=none
structure Inv (X:Cx) (pins:List (Addr × Obj)) (σ:List (Option V)) (H:Hp) (s:Shared):Prop where
  ok:X.Ok
  os:s.os=X.s₀.os
  bare:AllBare s.gens
  base:Un X.fs X.ex X.H₀ H X.s₀.heap s.heap
  loc:∃m,s.heap.Ns X.env.locals m/\∀(i:Nat) (x:Str) (v:V),X.N[i]? =some x->σ[i]? =some (some v)->Vis X.env.scope x->∃u,RelV v u/\Look X.env s.heap m x u
  cell:∀x c,X.env.cells.lookup x=some c->∃v,s.heap.IsCell c v
  free:H X.env.locals=none
  freeC:∀x c,X.env.cells.lookup x=some c->H c=none
  pin:∀p∈X.pn++pins,s.heap.get? p.1=some p.2/\H p.1=none/\p.1≠X.env.locals/\p.1∉X.fs/\∀v,p.2.data≠ .cell v
  hok:HOk X.prog X.w H s.heap
  len:σ.length=X.N.length
section
variable {X:Cx}{pins:List (Addr × Obj)}{σ:List (Option V)}{H H':Hp}{s:Shared}{h':Heap}
theorem Cx.Ok.nofr (ok:X.Ok) {b:Addr}{o:Obj} (e:X.base.get? b=some o):b∉X.fs:=fun hb=>by
  have:=(ok.funs.mem hb).1
  rw [e]at this;cases this
theorem Inv.bs (I:Inv X pins σ H s):∀b o,X.base.get? b=some o->s.heap.get? b=some o/\H b=none:=fun b o e=>
  ⟨I.base.keep b o (I.ok.bs b o e).1 (I.ok.bs b o e).2 (I.ok.nofr e) (I.ok.noex b o e),I.base.free b o (I.ok.bs b o e).1 (I.ok.bs b o e).2 (I.ok.noex b o e)⟩
theorem Inv.bk (I:Inv X pins σ H s):∀b o,X.base.get? b=some o->s.heap.get? b=some o:=fun b o e=>(I.bs b o e).1
theorem Inv.mod (I:Inv X pins σ H s):Mod X.K X.mg X.base:=I.ok.mod
theorem Inv.kIn (I:Inv X pins σ H s):X.K.In s.heap:=I.ok.mod.kin.keeps I.bk
theorem Inv.nolimit (I:Inv X pins σ H s):s.heap.NoLimit:=I.ok.mod.nolimit.keeps I.bk
theorem Inv.fr (I:Inv X pins σ H s):∃m,Fr X.base X.env.locals s.heap m:=
  let ⟨m,hn,_⟩:=I.loc
  ⟨m,hn,I.bk,Nat.le_trans I.ok.bsz I.ok.above⟩
theorem Inv.lt (I:Inv X pins σ H s):X.env.locals<s.heap.objs.size:=let ⟨_,hn,_⟩:=I.loc;hn.lt
theorem Inv.sz (I:Inv X pins σ H s):X.s₀.heap.objs.size<=s.heap.objs.size:=Nat.le_trans I.ok.above (Nat.le_of_lt I.lt)
theorem Inv.nofs (I:Inv X pins σ H s) {a:Addr} (h:s.heap.objs.size<=a):a∉X.fs:=fun hb=>by
  obtain⟨_,o,ho,_⟩:=I.ok.funs.mem hb
  exact absurd (Nat.lt_of_lt_of_le (Heap.lt_size ho) (Nat.le_trans I.sz h)) (Nat.lt_irrefl _)
theorem Inv.cne (I:Inv X pins σ H s):∀x c,X.env.cells.lookup x=some c->c≠X.env.locals:=fun x c e z=>by
  obtain⟨v,o,ho,hd⟩:=I.cell x c e
  obtain⟨m,⟨o',es,ep,ho',hd',_⟩,_⟩:=I.loc
  rw [z,ho']at ho;cases ho;rw [hd']at hd;cases hd
theorem Inv.funs (I:Inv X pins σ H s):s.heap.FunFrames X.base X.outer:=by
  have all:∀(l:List Env),(∀b∈frs l,b∈X.fs)->X.s₀.heap.FunFrames X.base l->s.heap.FunFrames X.base l:=by
    intro l
    induction l with
    | nil=>intro _ _;trivial
    | cons env r ih=>
      intro hs hl
      obtain⟨hk,⟨L,o,hf,hn,ho,hd⟩,hr⟩:=hl
      have hL:L∈X.fs:=hs L (by unfold frs;rw [List.filterMap_cons,hf];exact List.mem_cons_self)
      obtain⟨sl,e⟩:=I.base.slot L o ho (I.ok.frf L hL) hL fun z=>I.ok.exfs L z hL
      exact⟨hk,⟨L,_,hf,hn,e,hd⟩,ih (fun b hb=>hs b (by unfold frs;rw [List.filterMap_cons,hf];exact List.mem_cons_of_mem _ hb)) hr⟩
  exact all X.outer (fun _ hb=>hb) I.ok.funs
theorem Inv.stack (I:Inv X pins σ H s):s.heap.FunFrames X.base X.stack:=by
  rcases I.ok.stk with e | ⟨e,hf⟩
  . rw [e];exact I.funs
  . rw [e]
    obtain⟨m,hn,_⟩:=I.loc
    refine .cons (by rw [I.ok.kind];decide) hf hn ?_ I.funs
    exact Heap.get?_none_of_le (Nat.le_trans I.ok.bsz I.ok.above)
theorem Inv.stkSub (I:Inv X pins σ H s):∀b∈frs X.stack,b∈X.env.locals::X.fs:=fun b hb=>by
  rcases I.ok.stk with e | ⟨e,hf⟩
  . rw [e]at hb;exact List.mem_cons_of_mem _ hb
  . rw [e]at hb
    unfold frs at hb
    rw [List.filterMap_cons,hf]at hb
    exact hb
theorem Inv.stkFree (I:Inv X pins σ H s):∀b∈frs X.stack,H b=none:=fun b hb=>by
  rcases List.mem_cons.mp (I.stkSub b hb)with e | hb
  . rw [e];exact I.free
  . obtain⟨_,o,ho,_⟩:=I.ok.funs.mem hb
    exact I.base.free b o ho (I.ok.frf b hb) fun z=>I.ok.exfs b z hb
theorem Inv.step {g':Array GenState}{t':Nat}{d':Drawn}{ch:List Addr} (I:Inv X pins σ H s)
    (hch:∀b∈ch,(b∈X.ex\/X.s₀.heap.objs.size<=b)/\b≠X.env.locals/\(∀x c,X.env.cells.lookup x=some c->c≠b)/\∀p∈X.pn++pins,p.1≠b)
    (keep:∀b o,b≠X.env.locals->b∉X.fs->b∉ch->s.heap.get? b=some o->H b=none->h'.get? b=some o)
    (slot:∀b o,b≠X.env.locals->b∈X.fs->b∉ch->s.heap.get? b=some o->H b=none->∃sl,h'.get? b=some { o with slots:=sl}) (free:∀b o,b∉ch->s.heap.get? b=some o->H b=none->H' b=none)
    (there:∀b o,b∉ch->s.heap.get? b=some o->∃o',h'.get? b=some o')
    (tups:∀b xs,H b=some (.tup xs)->H' b=some (.tup xs)) (frzs:∀b o u,H b=some (.frz o u)->H' b=some (.frz o u)) (tbls:∀b ps,H b=some (.tbl ps)->∃more,H' b=some (.tbl (ps++more)))
    (ns:∀m,s.heap.Ns X.env.locals m->h'.Ns X.env.locals m) (hok:HOk X.prog X.w H' h') (hg:AllBare g'):
    Inv X pins σ H' { s with heap:=h',gens:=g',drawn:=d',toks:=t'}:=by
  have neL:∀b o,X.s₀.heap.get? b=some o->b≠X.env.locals:=fun b o e=>Nat.ne_of_lt (Nat.lt_of_lt_of_le (Heap.lt_size e) I.ok.above)
  have neC:∀b o,X.s₀.heap.get? b=some o->b∉X.ex->b∉ch:=fun b o e hx hb=>by
    rcases(hch b hb).1 with z | z
    . exact hx z
    . exact absurd (Nat.lt_of_lt_of_le (Heap.lt_size e) z) (Nat.lt_irrefl _)
  have cellK:∀x c,X.env.cells.lookup x=some c->∀v,s.heap.IsCell c v->h'.IsCell c v:=fun x c e v ⟨o,ho,hd⟩=>by
    have nch:c∉ch:=fun z=>(hch c z).2.2.1 x c e rfl
    by_cases hc:c∈X.fs
    . obtain⟨sl,q⟩:=slot c o (I.cne x c e) hc nch ho (I.freeC x c e)
      exact⟨_,q,hd⟩
    . exact⟨o,keep c o (I.cne x c e) hc nch ho (I.freeC x c e),hd⟩
  refine⟨I.ok,I.os,hg,⟨fun b o e n hb hx=> ?_,fun b o e n hb hx=> ?_,fun b o e n hx=> ?_,fun b o e hx=> ?_,fun b xs e=>tups b xs (I.base.tups b xs e),fun b o xs e=>frzs b o xs (I.base.frzs b o xs e),fun b ps e=> ?_⟩,?_,fun x c e=> ?_,?_,fun x c e=> ?_,fun p hp=> ?_,hok,I.len⟩
  . exact keep b o (neL b o e) hb (neC b o e hx) (I.base.keep b o e n hb hx) (I.base.free b o e n hx)
  . obtain⟨sl,e1⟩:=I.base.slot b o e n hb hx
    obtain⟨sl',e2⟩:=slot b _ (neL b o e) hb (neC b o e hx) e1 (I.base.free b o e n hx)
    exact⟨sl',e2⟩
  . obtain⟨o',e1⟩:=I.base.there b o e hx
    exact free b o' (neC b o e hx) e1 (I.base.free b o e n hx)
  . obtain⟨o',e1⟩:=I.base.there b o e hx
    exact there b o' (neC b o e hx) e1
  . obtain⟨m1,e1⟩:=I.base.tbls b ps e
    obtain⟨m2,e2⟩:=tbls b _ e1
    exact⟨m1++m2,by rw [e2,Array.append_assoc]⟩
  . obtain⟨m,hn,hl⟩:=I.loc
    refine⟨m,ns m hn,fun i x v e1 e2 e3=> ?_⟩
    obtain⟨u,r,l⟩:=hl i x v e1 e2 e3
    refine⟨u,r,?_⟩
    rcases l with l | ⟨k,c,e,z⟩
    . exact .inl l
    . exact .inr ⟨k,c,e,cellK x c e _ z⟩
  . obtain⟨v,z⟩:=I.cell x c e
    exact⟨v,cellK x c e v z⟩
  . obtain⟨m,⟨o,_,_,ho,_⟩,_⟩:=I.loc
    exact free _ o (fun z=>(hch _ z).2.1 rfl) ho I.free
  . obtain⟨v,o,ho,hd⟩:=I.cell x c e
    exact free c o (fun z=>(hch c z).2.2.1 x c e rfl) ho (I.freeC x c e)
  . obtain⟨e,n,ne,nf,d⟩:=I.pin p hp
    have nch:p.1∉ch:=fun z=>(hch p.1 z).2.2.2 p hp rfl
    exact⟨keep p.1 p.2 ne nf nch e n,free p.1 p.2 nch e n,ne,nf,d⟩
theorem Inv.un {t':Nat} (I:Inv X pins σ H s) (u:Un X.fs [] H H' s.heap h') (hok:HOk X.prog X.w H' h'):Inv X pins σ H' { s with heap:=h',toks:=t'}:=by
  obtain⟨m,⟨o,es,ep,ho,r⟩,_⟩:=id I.loc
  obtain⟨sl,hL⟩:=u.any ho I.free (by simp)
  exact I.step (g':=s.gens) (d':=s.drawn) (ch:=[]) (fun _ z=>nomatch z) (fun b o _ hb _ e n=>u.keep b o e n hb (by simp)) (fun b o _ hb _ e n=>u.slot b o e n hb (by simp)) (fun b o _ e n=>u.free b o e n (by simp)) (fun b o _ e=>u.there b o e (by simp)) u.tups u.frzs u.tbls (fun m' hm=>by
    obtain⟨o',es',ep',ho',r'⟩:=hm
    rw [ho]at ho';cases ho'
    exact⟨_,es',ep',hL,r'⟩) hok I.bare
theorem Inv.call {g':Array GenState}{t':Nat}{d':Drawn}{ch:List Addr} (I:Inv X pins σ H s) (u:Un (frs X.stack) ch H H' s.heap h') (hok:HOk X.prog X.w H' h') (hg:AllBare g')
    (hch:∀b∈ch,(b∈X.ex\/X.s₀.heap.objs.size<=b)/\b≠X.env.locals/\(∀x c,X.env.cells.lookup x=some c->c≠b)/\∀p∈X.pn++pins,p.1≠b):
    Inv X pins σ H' { s with heap:=h',gens:=g',drawn:=d',toks:=t'}:=by
  obtain⟨m,⟨o,es,ep,ho,r⟩,_⟩:=id I.loc
  obtain⟨sl,hL⟩:=u.any ho I.free fun z=>(hch _ z).2.1 rfl
  exact I.step (ch:=ch) hch (fun b o hL hb hc e n=>u.keep b o e n (fun z=>(List.mem_cons.mp (I.stkSub b z)).elim hL hb) hc) (fun b o _ _ hc e n=>u.any e n hc) (fun b o hc e n=>u.free b o e n hc) (fun b o hc e=>u.there b o e hc) u.tups u.frzs u.tbls (fun m' hm=>by
    obtain⟨o',es',ep',ho',r'⟩:=hm
    rw [ho]at ho';cases ho'
    exact⟨_,es',ep',hL,r'⟩) hok hg
theorem Inv.turned {t':Nat}{it:Addr} (I:Inv X pins σ H s) (k:∀b o,b≠it->s.heap.get? b=some o->h'.get? b=some o) (hn:H it=none) (hL:it≠X.env.locals)
    (h1:it∈X.ex\/X.s₀.heap.objs.size<=it) (h2:∀x c,X.env.cells.lookup x=some c->c≠it) (h3:∀p∈X.pn++pins,p.1≠it):Inv X pins σ H { s with heap:=h',toks:=t'}:=by
  have nit:∀b u,H b=some u->b≠it:=fun b u e z=>by rw [z,hn]at e;cases e
  refine I.step (g':=s.gens) (d':=s.drawn) (ch:=[it]) (fun b hb=> ?_) (fun b o _ _ hc e _=>k b o (fun z=>hc (by simp [z])) e) (fun b o _ _ hc e _=>⟨o.slots,k b o (fun z=>hc (by simp [z])) e⟩) (fun _ _ _ _ n=>n)
    (fun b o hc e=>⟨o,k b o (fun z=>hc (by simp [z])) e⟩) (fun _ _ e=>e) (fun _ _ _ e=>e) (fun b ps e=>⟨#[],by rw [e];simp⟩) (fun m hm=> ?_) (fun b u e=> ?_) I.bare
  . have e:b=it:=by simpa using hb
    subst e
    exact⟨h1,hL,h2,h3⟩
  . obtain⟨o,es,ep,ho,r⟩:=hm
    exact⟨o,es,ep,k _ o (Ne.symm hL) ho,r⟩
  . refine(I.hok b u e).stay (fun c v hc q=>k c v ?_ q) (fun _ q=>q) fun _ _ q=>q
    rcases hc with z | z
    . rw [z];exact nit b u e
    . exact nit c _ z
theorem Inv.tok (I:Inv X pins σ H s) (t:Nat):Inv X pins σ H { s with toks:=t}:=I.un (h':=s.heap) (t':=t) Un.refl I.hok
theorem Inv.kept {t':Nat} (I:Inv X pins σ H s) (k:∀b u,s.heap.get? b=some u->h'.get? b=some u):Inv X pins σ H { s with heap:=h',toks:=t'}:=I.un (Un.kept k) (I.hok.kept k)
theorem Inv.laid {a:Addr}{o:HO}{t':Nat} (I:Inv X pins σ H s) (k:∀b u,s.heap.get? b=some u->h'.get? b=some u) (hp:s.heap.objs.size<=a) (new:Ke X.prog X.w (upd H a o) h' a o):
    Inv X pins σ (upd H a o) { s with heap:=h',toks:=t'}:=I.un (Un.laid k hp (I.hok.fresh hp)) (I.hok.laid k hp new)
theorem Inv.write {x e:Addr}{o:HO}{t':Nat} (I:Inv X pins σ H s) (mu:Mut (H x)) (he:e=x\/H e=some (.own x)) (k:∀b u,b≠e->s.heap.get? b=some u->h'.get? b=some u) (heo:∃u,h'.get? e=some u)
    (new:Ke X.prog X.w (upd H x o) h' x o):Inv X pins σ (upd H x o) { s with heap:=h',toks:=t'}:=I.un (Un.write mu he k heo) (I.hok.write mu he k heo new)
theorem Inv.weak {σ':List (Option V)} (I:Inv X pins σ H s) (hl:σ'.length=σ.length) (w:∀(i:Nat) v,σ'[i]? =some (some v)->σ[i]? =some (some v)):Inv X pins σ' H s:=
  ⟨I.ok,I.os,I.bare,I.base,let ⟨m,hn,hl'⟩:=I.loc;⟨m,hn,fun i x v e1 e2 e3=>hl' i x v e1 (w i v e2) e3⟩,I.cell,I.free,I.freeC,I.pin,I.hok,hl.trans I.len⟩
theorem Inv.pins_of {pins':List (Addr × Obj)} (I:Inv X pins σ H s) (h:∀p∈pins',s.heap.get? p.1=some p.2/\H p.1=none/\p.1≠X.env.locals/\p.1∉X.fs/\∀v,p.2.data≠ .cell v):Inv X pins' σ H s:=
  ⟨I.ok,I.os,I.bare,I.base,I.loc,I.cell,I.free,I.freeC,fun p hp=>(List.mem_append.mp hp).elim (fun z=>I.pin p (List.mem_append_left _ z)) (h p),I.hok,I.len⟩
theorem Ws {N:List Str} (hN:N.Nodup) {i j:Nat}{x:Str} (a:N[i]? =some x) (b:N[j]? =some x):i=j:=by
  obtain⟨h1,e1⟩:=List.getElem?_eq_some_iff.mp a
  obtain⟨h2,e2⟩:=List.getElem?_eq_some_iff.mp b
  exact(List.getElem_inj hN).mp (e1.trans e2.symm)
theorem Acy {M:Model}{A:Around}{E:Value->Shared->Prop}{i:Nat}{x:Str}{v:V}{u:Value}{Q:Unit->Shared->Prop} (I:Inv X pins σ H s) (hN:X.N.Nodup) (hi:X.N[i]? =some x) (hx:Loc X.env.scope x) (r:RelV v u)
    (h:∀s',Inv X pins (σ.set i (some v)) H s'->(∃a,Heap.SameBut a s.heap s'.heap/\(a=X.env.locals\/X.env.cells.lookup x=some a))->Q () s') (hf:X.fn x=true\/X.env.scope.names.lookup x=some .local :=by first | exact .inl rfl | exact .inr rfl | assumption):wpAny M A (storeName X.env x u) Q E s:=by
  obtain⟨m,hn,hl⟩:=id I.loc
  have hcls:(X.env.scope.kind== .class||(X.env.scope.kind== .module&&X.env.locals != X.env.globals))=false:=by rw [I.ok.kind];rfl
  have hiσ:i<σ.length:=by rw [I.len];exact(List.getElem?_eq_some_iff.mp hi).1
  have cne:=I.cne
  have tracked:∀ {a:Addr}{h':Heap},(∃o,s.heap.get? a=some o/\H a=none)->Heap.SameBut a s.heap h'->HOk X.prog X.w H h':=fun {a h'} ha hs b ob e=>by
    obtain⟨_,_,hfree⟩:=ha
    refine(I.hok b ob e).stay (fun c w' hc q=>(hs.2 c ?_).trans q) (fun _ q=>q) fun _ _ q=>q
    rintro rfl
    rcases hc with rfl | hc
    . rw [hfree]at e;cases e
    . rw [hfree]at hc;cases hc
  rcases hx with hk | hk
  . refine wpAny_storeName_local hk hn (fun h' hn' hs=> ?_) hcls
    obtain⟨oL,_,_,hoL,_⟩:=id hn
    refine h _ ⟨I.ok,I.os,I.bare,⟨fun b o e n hb hx=> ?_,fun b o e n hb hx=> ?_,I.base.free,fun b o e hx=> ?_,I.base.tups,I.base.frzs,I.base.tbls⟩,⟨_,hn',fun j y v' e1 e2 e3=> ?_⟩,fun y c e=> ?_,I.free,I.freeC,fun p hp=> ?_,tracked ⟨oL,hoL,I.free⟩ hs,by simpa using I.len⟩ ⟨_,hs,.inl rfl⟩
    . exact(hs.2 b (Nat.ne_of_lt (Nat.lt_of_lt_of_le (Heap.lt_size e) I.ok.above))).trans (I.base.keep b o e n hb hx)
    . obtain⟨sl,e1⟩:=I.base.slot b o e n hb hx
      exact⟨sl,(hs.2 b (Nat.ne_of_lt (Nat.lt_of_lt_of_le (Heap.lt_size e) I.ok.above))).trans e1⟩
    . obtain⟨o',e1⟩:=I.base.there b o e hx
      exact⟨o',(hs.2 b (Nat.ne_of_lt (Nat.lt_of_lt_of_le (Heap.lt_size e) I.ok.above))).trans e1⟩
    . by_cases hj:j=i
      . subst hj
        rw [hi]at e1;cases e1
        rw [List.getElem?_set_self hiσ]at e2
        cases e2
        exact⟨u,r,.inl ⟨hk,by simp⟩⟩
      . rw [List.getElem?_set_ne (Ne.symm hj)]at e2
        obtain⟨u',r',q⟩:=hl j y v' e1 e2 e3
        refine⟨u',r',?_⟩
        rcases q with⟨k,e⟩ | ⟨k,c,e,z⟩
        . refine .inl ⟨k,?_⟩
          have:y≠x:=fun e=>hj (Ws hN e1 (e▸hi))
          simp [this,e]
        . exact .inr ⟨k,c,e,z.sameBut hs (cne y c e)⟩
    . obtain⟨w',z⟩:=I.cell y c e
      exact⟨w',z.sameBut hs (cne y c e)⟩
    . obtain⟨e,n,ne,nf,d⟩:=I.pin p hp
      exact⟨(hs.2 p.1 ne).trans e,n,ne,nf,d⟩
  . have hfn:X.fn x=true:=by
      rcases hf with z | z
      . exact z
      . rw [z]at hk;cases hk
    obtain⟨c,hc⟩:=I.ok.has x (.inl hk)
    obtain⟨w',z⟩:=I.cell x c hc
    refine wpAny_storeName_cell I.ok.kind hk hc z (fun h' hc' hs=> ?_)
    obtain⟨oc,hoc,hocd⟩:=id z
    refine h { s with heap:=h'} ⟨I.ok,I.os,I.bare,⟨fun b o e n hb hx=> ?_,fun b o e n hb hx=> ?_,I.base.free,fun b o e hx=> ?_,I.base.tups,I.base.frzs,I.base.tbls⟩,⟨m,hn.sameBut hs (Ne.symm (cne x c hc)),fun j y v' e1 e2 e3=> ?_⟩,fun y c' e=> ?_,I.free,I.freeC,fun p hp=> ?_,tracked ⟨oc,hoc,I.freeC x c hc⟩ hs,by simpa using I.len⟩ ⟨c,hs,.inr hc⟩
    . exact(hs.2 b (Nat.ne_of_lt (Nat.lt_of_lt_of_le (Heap.lt_size e) (I.ok.cab x c hfn hc)))).trans (I.base.keep b o e n hb hx)
    . obtain⟨sl,e1⟩:=I.base.slot b o e n hb hx
      exact⟨sl,(hs.2 b (Nat.ne_of_lt (Nat.lt_of_lt_of_le (Heap.lt_size e) (I.ok.cab x c hfn hc)))).trans e1⟩
    . obtain⟨o',e1⟩:=I.base.there b o e hx
      exact⟨o',(hs.2 b (Nat.ne_of_lt (Nat.lt_of_lt_of_le (Heap.lt_size e) (I.ok.cab x c hfn hc)))).trans e1⟩
    . by_cases hj:j=i
      . subst hj
        rw [hi]at e1;cases e1
        rw [List.getElem?_set_self hiσ]at e2
        cases e2
        exact⟨u,r,.inr ⟨.inl hk,c,hc,hc'⟩⟩
      . rw [List.getElem?_set_ne (Ne.symm hj)]at e2
        obtain⟨u',r',q⟩:=hl j y v' e1 e2 e3
        refine⟨u',r',?_⟩
        rcases q with q | ⟨k,c',e,z'⟩
        . exact .inl q
        . refine .inr ⟨k,c',e,z'.sameBut hs ?_⟩
          rintro rfl
          exact hj (Ws hN e1 (I.ok.inj _ _ _ e hc▸hi))
    . by_cases hcc:c'=c
      . subst hcc;exact⟨_,hc'⟩
      . obtain⟨w2,z2⟩:=I.cell y c' e
        exact⟨w2,z2.sameBut hs hcc⟩
    . obtain⟨e,n,ne,nf,d⟩:=I.pin p hp
      refine⟨(hs.2 p.1 ?_).trans e,n,ne,nf,d⟩
      intro q
      rw [q,hoc]at e
      have q':oc=p.2:=Option.some.inj e
      exact d w' (by rw [<-q'];exact hocd)
theorem Pz {M:Model}{A:Around}{E:Value->Shared->Prop}{i:Nat}{x:Str}{v:V}{u:Value}{Q:Unit->Shared->Prop} (I:Inv X pins σ H s) (hN:X.N.Nodup) (hi:X.N[i]? =some x) (hx:Loc X.env.scope x) (r:RelV v u)
    (h:∀s',Inv X pins (σ.set i (some v)) H s'->Q () s') (hf:X.fn x=true\/X.env.scope.names.lookup x=some .local :=by first | exact .inl rfl | exact .inr rfl | assumption):wpAny M A (storeName X.env x u) Q E s:=
  Acy I hN hi hx r (fun s' I' _=>h s' I') hf
theorem Inv.call' {s':Shared}{ch:List Addr} (I:Inv X pins σ H s) (ho:s'.os=s.os) (u:Un (frs X.stack) ch H H' s.heap s'.heap) (hok:HOk X.prog X.w H' s'.heap) (hg:AllBare s'.gens)
    (hch:∀b∈ch,(b∈X.ex\/X.s₀.heap.objs.size<=b)/\b≠X.env.locals/\(∀x c,X.env.cells.lookup x=some c->c≠b)/\∀p∈X.pn++pins,p.1≠b):Inv X pins σ H' s':=by
  obtain⟨h',g',d',t',o'⟩:=s'
  have e:o'=s.os:=ho
  subst e
  exact I.call (g':=g') (t':=t') (d':=d') u hok hg hch
end
abbrev XK:=Value->Option Addr->Hp->Prop
abbrev St:=List (Option V)
abbrev VK:=V->Hp->Prop
abbrev TE:=St->Hp->VK->Prop
abbrev TT:=St->Hp->(Bool->Hp->Prop)->Prop
abbrev TA:=St->Hp->(List V->Hp->Prop)->Prop
structure Ends where
  nx:St->Hp->Prop
  rt:VK
  bk:St->Hp->Prop:=fun _ _=>False
  ct:St->Hp->Prop:=fun _ _=>False
abbrev TS:=Ends->St->Hp->Prop
def EP (X:Cx) (pins:List (Addr × Obj)) (σ:St) (Q:VK) (u:Value) (s':Shared):Prop:=∃v H',Inv X pins σ H' s'/\RelV v u/\Q v H'
def TP (X:Cx) (pins:List (Addr × Obj)) (σ:St) (Q:Bool->Hp->Prop) (b:Bool) (s':Shared):Prop:=∃H',Inv X pins σ H' s'/\Q b H'
def AP (X:Cx) (pins:List (Addr × Obj)) (σ:St) (Q:List V->Hp->Prop) (us:List Value) (s':Shared):Prop:=∃vs H',Inv X pins σ H' s'/\Vals vs us/\Q vs H'
def SP (X:Cx) (pins:List (Addr × Obj)) (D:Ends) (f:Flow) (s':Shared):Prop:=
  match f with
  | .next=>∃σ' H',Inv X pins σ' H' s'/\D.nx σ' H'
  | .brk=>∃σ' H',Inv X pins σ' H' s'/\D.bk σ' H'
  | .cont=>∃σ' H',Inv X pins σ' H' s'/\D.ct σ' H'
  | .ret u=>∃v σ' H',Inv X pins σ' H' s'/\RelV v u/\D.rt v H'
def PE (X:Cx) (e:Expr) (t:TE):Prop:=
  ∀(pins:List (Addr × Obj)) (s:Shared) (σ:St) (H:Hp) (Q:VK),Inv X pins σ H s->t σ H Q->wpAny (model X.prog X.w) X.A (eval e X.env) (EP X pins σ Q) X.xe s
def PT (X:Cx) (e:Expr) (t:TT):Prop:=
  ∀(pins:List (Addr × Obj)) (s:Shared) (σ:St) (H:Hp) (Q:Bool->Hp->Prop),Inv X pins σ H s->t σ H Q->wpAny (model X.prog X.w) X.A (isTrue e X.env (eval e X.env)) (TP X pins σ Q) X.xe s
def PW (X:Cx) (e:Expr) (t:TT):Prop:=
  ∀(whole:Sem Value) (pins:List (Addr × Obj)) (s:Shared) (σ:St) (H:Hp) (Q:Bool->Hp->Prop),Inv X pins σ H s->t σ H Q->wpAny (model X.prog X.w) X.A (isTrue e X.env whole) (TP X pins σ Q) X.xe s
theorem PW.pt {X:Cx}{e:Expr}{t:TT} (h:PW X e t):PT X e t:=h _
def PA (X:Cx) (es:List Expr) (t:TA):Prop:=
  ∀(pos:Pos) (pins:List (Addr × Obj)) (s:Shared) (σ:St) (H:Hp) (Q:List V->Hp->Prop),Inv X pins σ H s->t σ H Q->wpAny (model X.prog X.w) X.A (spliced (backTo pos (starEach es X.env))) (AP X pins σ Q) X.xe s
def PS (X:Cx) (st:Stmt) (t:TS):Prop:=
  ∀(pins:List (Addr × Obj)) (s:Shared) (σ:St) (H:Hp) (D:Ends),Inv X pins σ H s->t D σ H->wpAny (model X.prog X.w) X.A (exec st X.env) (SP X pins D) X.xe s
def PSs (X:Cx) (st:List Stmt) (t:TS):Prop:=
  ∀(pins:List (Addr × Obj)) (s:Shared) (σ:St) (H:Hp) (D:Ends),Inv X pins σ H s->t D σ H->wpAny (model X.prog X.w) X.A (execs st X.env) (SP X pins D) X.xe s
theorem thn {α:Type}{t:Sem α}{Q Q':α->Shared->Prop}{M:Model}{A:Around}{E:Value->Shared->Prop}{s:Shared} (h:wpAny M A t Q E s) (hQ:∀a s,Q a s->Q' a s):wpAny M A t Q' E s:=wpAny_mono h hQ fun _ _ x=>x
end L2
namespace L2
open PySem PySem.Spec PyProof.Rows
section
variable {X:Cx}
def Ahc (i:Nat):TE:=fun σ H Q=>∃v,σ[i]? =some (some v)/\Q v H
def tC (v:V):TE:=fun _ H Q=>Q v H
theorem Amh {i:Nat}{x:Str}{pos:Pos} (hN:X.N[i]? =some x) (hv:Vis X.env.scope x) (hd:(x==("__debug__":Str))=false:=by decide) (hcd:(x==("__classdict__":Str))=false:=by decide):PE X (.Name x pos) (Ahc i):=by
  intro pins s σ H Q I h
  obtain⟨v,e,h⟩:=h
  obtain⟨m,hn,hl⟩:=I.loc
  obtain⟨u,r,l⟩:=hl i x v hN e hv
  have fin:EP X pins σ Q u s:=⟨v,H,I,r,h⟩
  rcases l with⟨hk,hm⟩ | ⟨hk,c,hc,hcell⟩
  . exact wpAny_Name (wpAny_loadName_local I.ok.kind hk hn hm fin) hd
  . rcases hk with hk | hk
    . exact wpAny_Name (wpAny_loadName_cell I.ok.kind hk hc hcell fin) hd
    . exact wpAny_Name (wpAny_loadName_free I.ok.kind hk hc hcell fin hcd) hd
theorem Ad {i j pos}:PE X (.Constant (.int i) j pos) (tC (.int i)):=fun _ _ _ H _ I h=>wpAny_Constant_int ⟨.int i,H,I.tok _,⟨_,rfl⟩,h⟩
theorem O5 {b j pos}:PE X (.Constant (.bool b) j pos) (tC (.bl b)):=fun _ _ _ H _ I h=>Constant_bool ⟨.bl b,H,I,rfl,h⟩
theorem X5 {j pos}:PE X (.Constant .none j pos) (tC .non):=fun _ _ _ H _ I h=>Constant_none ⟨.non,H,I,rfl,h⟩
theorem K8 {x j pos}:PE X (.Constant (.str x) j pos) (tC (.str x)):=fun _ _ _ H _ I h=>Calls.Constant_str ⟨.str x,H,I.tok _,⟨_,rfl⟩,h⟩
def Gl (X:Cx) (x:Str):Prop:=X.env.kindOf x=some .globalImplicit
theorem Rb {E:Value->Shared->Prop}{pins:List (Addr × Obj)}{s:Shared}{σ:St}{H:Hp}{x:Str}{u:Value}{pos:Pos}{Q:Value->Shared->Prop} (I:Inv X pins σ H s) (hg:Gl X x) (hm:X.mg x=some u) (h:Q u s)
    (hd:(x==("__debug__":Str))=false:=by decide):wpAny (model X.prog X.w) X.A (eval (.Name x pos) X.env) Q E s:=
  Calls.Name_function_global I.ok.kind hg (Calls.loadGlobal_global (by rw [I.ok.glob];exact I.mod.glob.keeps I.bk) hm h) hd
theorem Py {E:Value->Shared->Prop}{pins:List (Addr × Obj)}{s:Shared}{σ:St}{H:Hp}{x:Str}{u:Value}{pos:Pos}{Q:Value->Shared->Prop} (I:Inv X pins σ H s) (hg:Gl X x) (hm:X.mg x=none) (hv:bootBuiltins x=some u) (h:Q u s)
    (hn:x≠"__name__":=by decide) (hd:(x==("__debug__":Str))=false:=by decide):wpAny (model X.prog X.w) X.A (eval (.Name x pos) X.env) Q E s:=by
  obtain⟨mb,h1,h2⟩:=I.mod.blt
  exact Calls.Name_function_global I.ok.kind hg (Calls.loadGlobal_builtin (by rw [I.ok.glob];exact I.mod.glob.keeps I.bk) hm (by rw [I.ok.blt];exact h1.keeps I.bk) ((h2 x hn).trans hv) h) hd
theorem O9 {x:Str}{v:V}{u:Value}{pos:Pos} (hg:Gl X x) (hm:X.mg x=some u) (r:RelV v u) (hd:(x==("__debug__":Str))=false:=by decide):PE X (.Name x pos) (tC v):=
  fun _ _ _ H _ I h=>Rb I hg hm ⟨v,H,I,r,h⟩ hd
theorem Lr {x:Str}{v:V}{u:Value}{pos:Pos} (hg:Gl X x) (hm:X.mg x=none) (hv:bootBuiltins x=some u) (r:RelV v u) (hn:x≠"__name__":=by decide) (hd:(x==("__debug__":Str))=false:=by decide):PE X (.Name x pos) (tC v):=
  fun _ _ _ H _ I h=>Py I hg hm hv ⟨v,H,I,r,h⟩ hn hd
variable {a b:Expr}{ta tb:TE}{pos:Pos}
def tB (t:TE):TT:=fun σ H Q=>t σ H fun x H1=>∃c,x= .bl c/\Q c H1
theorem Jp {e:Expr}{t:TE} (h:PE X e t) (he:∀whole,isTrue e X.env whole=(do let v<-whole;standAt e.pos;holding [v] (truthy v)):=by intro _;rfl):PT X e (tB t):=by
  intro pins s σ H Q I hw
  refine isTrue_plain (thn (h pins s σ H _ I hw) fun v s1 ⟨x,H1,I1,r1,q1⟩=> ?_) (he _)
  obtain⟨d,rfl,q⟩:=q1
  cases r1
  exact wpAny_truthy_bool ⟨H1,I1,q⟩
variable {tA tB':TT}{rest:List Expr}
def Anl (t u:TT):TT:=fun σ H Q=>t σ H fun c H1=>if c=true then u σ H1 Q else Q false H1
def tOr (t u:TT):TT:=fun σ H Q=>t σ H fun c H1=>if c=true then Q true H1 else u σ H1 Q
def An9 (t:TT):TT:=fun σ H Q=>t σ H fun c H1=>Q (!c) H1
theorem Ng (ha:PT X a tA):PW X (.BoolOp .And [a] pos) tA:=by
  intro wh pins s σ H Q I h
  refine isTrue_and (thn (ha pins s σ H Q I h) fun c s1 e=> ?_)
  cases c with
  | true=>exact isTrue_and_nil e
  | false=>exact e
theorem Nh (ha:PT X a tA):PW X (.BoolOp .Or [a] pos) tA:=by
  intro wh pins s σ H Q I h
  refine isTrue_or (thn (ha pins s σ H Q I h) fun c s1 e=> ?_)
  cases c with
  | false=>exact isTrue_or_nil e
  | true=>exact e
theorem Rv (ha:PT X a tA) (hb:PW X (.BoolOp .And (b::rest) pos) tB'):PW X (.BoolOp .And (a::b::rest) pos) (Anl tA tB'):=by
  intro wh pins s σ H Q I h
  refine isTrue_and (thn (ha pins s σ H _ I h) fun c s1 ⟨H1,I1,q1⟩=> ?_)
  cases c with
  | true=>exact hb wh pins s1 σ H1 Q I1 q1
  | false=>exact⟨H1,I1,q1⟩
theorem N7 (ha:PT X a tA) (hb:PW X (.BoolOp .Or (b::rest) pos) tB'):PW X (.BoolOp .Or (a::b::rest) pos) (tOr tA tB'):=by
  intro wh pins s σ H Q I h
  refine isTrue_or (thn (ha pins s σ H _ I h) fun c s1 ⟨H1,I1,q1⟩=> ?_)
  cases c with
  | true=>exact⟨H1,I1,q1⟩
  | false=>exact hb wh pins s1 σ H1 Q I1 q1
theorem K9 (ha:PT X a tA):PT X (.UnaryOp .Not a pos) (An9 tA):=by
  intro pins s σ H Q I h
  exact isTrue_not (ha pins s σ H (fun c H1=>Q (!c) H1) I h)
def Ais (ta tb:TE):TE:=fun σ H Q=>ta σ H fun x H1=>∃c,x= .bl c/\if c=true then tb σ H1 Q else Q (.bl false) H1
def An4 (ta tb:TE):TE:=fun σ H Q=>ta σ H fun x H1=>∃c,x= .bl c/\if c=true then Q (.bl true) H1 else tb σ H1 Q
def Ajh (ta:TE):TE:=fun σ H Q=>ta σ H fun x H1=>∃c,x= .bl c/\Q (.bl (!c)) H1
theorem Rx {op}{t:TE} (h:PE X a t):PE X (.BoolOp op [a] pos) t:=fun pins s σ H Q I hw=>BoolOp_one (h pins s σ H Q I hw)
theorem Tq (ha:PE X a ta) (hb:PE X (.BoolOp .And (b::rest) pos) tb):PE X (.BoolOp .And (a::b::rest) pos) (Ais ta tb):=by
  intro pins s σ H Q I h
  refine BoolOp_and (thn (ha pins s σ H _ I h) fun v s1 ⟨x,H1,I1,r1,q1⟩=> ?_)
  obtain⟨c,rfl,q1⟩:=q1
  cases r1
  refine wpAny_truthy_bool ?_
  cases c with
  | true=>exact hb pins s1 σ H1 Q I1 q1
  | false=>exact⟨.bl false,H1,I1,rfl,q1⟩
theorem Ajr (ha:PE X a ta) (hb:PE X (.BoolOp .Or (b::rest) pos) tb):PE X (.BoolOp .Or (a::b::rest) pos) (An4 ta tb):=by
  intro pins s σ H Q I h
  refine BoolOp_or (thn (ha pins s σ H _ I h) fun v s1 ⟨x,H1,I1,r1,q1⟩=> ?_)
  obtain⟨c,rfl,q1⟩:=q1
  cases r1
  refine wpAny_truthy_bool ?_
  cases c with
  | false=>exact hb pins s1 σ H1 Q I1 q1
  | true=>exact⟨.bl true,H1,I1,rfl,q1⟩
theorem Z8 (ha:PE X a ta):PE X (.UnaryOp .Not a pos) (Ajh ta):=by
  intro pins s σ H Q I h
  refine UnaryOp_ (thn (ha pins s σ H _ I h) fun v s1 ⟨x,H1,I1,r1,q1⟩=> ?_)
  obtain⟨c,rfl,q1⟩:=q1
  cases r1
  exact not_of (wpAny_truthy_bool ⟨.bl (!c),H1,I1,rfl,q1⟩)
def tIf (t:TT) (ta tb:TE):TE:=fun σ H Q=>t σ H fun c H1=>if c=true then ta σ H1 Q else tb σ H1 Q
theorem Ny {c:Expr} (hc:PT X c tA) (ha:PE X a ta) (hb:PE X b tb):PE X (.IfExp c a b pos) (tIf tA ta tb):=by
  intro pins s σ H Q I h
  refine wpAny_IfExp (thn (hc pins s σ H _ I h) fun d s1 ⟨H1,I1,q1⟩=> ?_)
  cases d with
  | true=>exact ha pins s1 σ H1 Q I1 q1
  | false=>exact hb pins s1 σ H1 Q I1 q1
end
end L2
namespace L2
open PySem PySem.Spec PyProof.Rows
def SqL (K:PySem.W.Frag) (H:Hp) (a:Addr) (xs:List V):Prop:=
  Rd H a (.lst xs)\/
    ∃(o:Obj) (its:Array Value) (n:Nat),K.lookup a=some o/\o.cls= .type "list"/\o.dict=none/\o.data= .seq its n/\its.size<=sizeLine/\Vals xs its.toList
def SqT (K:PySem.W.Frag) (H:Hp) (a:Addr) (xs:List V):Prop:=
  Rd H a (.tup xs)\/
    ∃(o:Obj) (its:Array Value) (n:Nat),K.lookup a=some o/\o.cls= .type "tuple"/\o.data= .seq its n/\its.size<=sizeLine/\Vals xs its.toList
def Aox:Value->Option V
  | .none=>some .non
  | .bool b=>some (.bl b)
  | .int i _=>some (.int i)
  | .str x _=>some (.str x)
  | .bytes b _=>some (.byt b)
  | .float b _=>some (.flt b)
  | .ref a=>some (.ref a)
  | .type n=>some (.ty n)
  | _=>none
theorem RelV.abs {x:V}{u:Value} (r:RelV x u):Aox u=some x:=by
  cases x with
  | non=>cases r;rfl
  | bl _=>cases r;rfl
  | int _=>obtain⟨t,rfl⟩:=r;rfl
  | str _=>obtain⟨t,rfl⟩:=r;rfl
  | byt _=>obtain⟨t,rfl⟩:=r;rfl
  | flt _=>obtain⟨t,rfl⟩:=r;rfl
  | ref _=>cases r;rfl
  | ty _=>cases r;rfl
theorem RelV.inj {x y:V}{u:Value} (r:RelV x u) (q:RelV y u):x=y:=Option.some.inj (r.abs.symm.trans q.abs)
theorem Vals.inj:∀ {xs ys:List V}{us:List Value},Vals xs us->Vals ys us->xs=ys
  | _,_,_,.nil,.nil=>rfl
  | _,_,_,.cons r t,.cons r' t'=>by rw [r.inj r',Vals.inj t t']
section
variable {X:Cx}{pins:List (Addr × Obj)}{σ:St}{H:Hp}{s:Shared}{a:Addr}{xs ys:List V}
theorem SqL.of {K:PySem.W.Frag} (h:H a=some (.lst xs)):SqL K H a xs:= .inl (.inl h)
theorem SqT.of {K:PySem.W.Frag} (h:H a=some (.tup xs)):SqT K H a xs:= .inl (.inl h)
theorem Inv.list (I:Inv X pins σ H s) (h:SqL X.K H a xs):∃its:List Value,Vals xs its/\PlainL s.heap a its.toArray/\xs.length<=sizeLine:=by
  rcases h with h | ⟨o,its,n,hk,hc,hd,hs,hz,r⟩
  . obtain⟨z,its,n,r,e⟩:=h.ok I.hok
    exact⟨its,r,⟨_,n,e,rfl,rfl,rfl⟩,z⟩
  . refine⟨its.toList,r,⟨o,n,I.kIn a o hk,hc,hd,by simpa using hs⟩,?_⟩
    have e:=r.length
    simp only [Array.length_toList]at e
    omega
theorem Inv.tuple (I:Inv X pins σ H s) (h:SqT X.K H a xs):∃its:List Value,Vals xs its/\IsTup s.heap a its.toArray/\xs.length<=sizeLine:=by
  rcases h with h | ⟨o,its,n,hk,hc,hs,hz,r⟩
  . obtain⟨z,its,r,p⟩:=h.ok I.hok
    exact⟨its,r,p,z⟩
  . refine⟨its.toList,r,⟨o,I.kIn a o hk,hc,n,by simpa using hs⟩,?_⟩
    have e:=r.length
    simp only [Array.length_toList]at e
    omega
theorem Inv.list_inj (I:Inv X pins σ H s) (h:SqL X.K H a xs) (h':SqL X.K H a ys):xs=ys:=by
  obtain⟨its,r,⟨o,n,e,_,_,d⟩,_⟩:=I.list h
  obtain⟨its',r',⟨o',n',e',_,_,d'⟩,_⟩:=I.list h'
  rw [e]at e';cases e'
  rw [d]at d'
  injection d' with d1 _
  have:its=its':=by simpa using congrArg Array.toList d1
  subst this
  exact r.inj r'
theorem Inv.tuple_inj (I:Inv X pins σ H s) (h:SqT X.K H a xs) (h':SqT X.K H a ys):xs=ys:=by
  obtain⟨its,r,⟨o,e,_,n,d⟩,_⟩:=I.tuple h
  obtain⟨its',r',⟨o',e',_,n',d'⟩,_⟩:=I.tuple h'
  rw [e]at e';cases e'
  rw [d]at d'
  injection d' with d1 _
  have:its=its':=by simpa using congrArg Array.toList d1
  subst this
  exact r.inj r'
end
abbrev Cx.wish (X:Cx) (E:Value->Shared->Prop):Cx:={ X with xe:=E}
abbrev Cx.nox (X:Cx):Cx:=X.wish fun _ _=>False
theorem Cx.Ok.wish {X:Cx} (ok:X.Ok) (E:Value->Shared->Prop):(X.wish E).Ok:=
  ⟨ok.mod,ok.kind,ok.glob,ok.blt,ok.above,ok.inj,ok.has,ok.cab,ok.hd,ok.frames,ok.stk,ok.exf,ok.bs,ok.bsz,ok.noex,ok.exfs,ok.funs,ok.frf⟩
theorem Cx.Ok.unwish {X:Cx}{E:Value->Shared->Prop} (ok:(X.wish E).Ok):X.Ok:=
  ⟨ok.mod,ok.kind,ok.glob,ok.blt,ok.above,ok.inj,ok.has,ok.cab,ok.hd,ok.frames,ok.stk,ok.exf,ok.bs,ok.bsz,ok.noex,ok.exfs,ok.funs,ok.frf⟩
section
variable {X:Cx}{pins:List (Addr × Obj)}{σ:St}{H:Hp}{s:Shared}{E:Value->Shared->Prop}
theorem Inv.wish (I:Inv X pins σ H s) (E:Value->Shared->Prop):Inv (X.wish E) pins σ H s:=⟨I.ok.wish E,I.os,I.bare,I.base,I.loc,I.cell,I.free,I.freeC,I.pin,I.hok,I.len⟩
theorem Inv.unwish (I:Inv (X.wish E) pins σ H s):Inv X pins σ H s:=⟨I.ok.unwish,I.os,I.bare,I.base,I.loc,I.cell,I.free,I.freeC,I.pin,I.hok,I.len⟩
theorem SP.unwish {D:Ends}{f:Flow}{s':Shared} (h:SP (X.wish E) pins D f s'):SP X pins D f s':=by
  cases f with
  | next=>obtain⟨σ',H',I,q⟩:=h;exact⟨σ',H',I.unwish,q⟩
  | brk=>obtain⟨σ',H',I,q⟩:=h;exact⟨σ',H',I.unwish,q⟩
  | cont=>obtain⟨σ',H',I,q⟩:=h;exact⟨σ',H',I.unwish,q⟩
  | ret u=>obtain⟨v,σ',H',I,r,q⟩:=h;exact⟨v,σ',H',I.unwish,r,q⟩
theorem PE.nox {e:Expr}{t:TE} (h:PE X.nox e t):PE X e t:=fun pins s σ H Q I hw=>
  wpAny_mono (h pins s σ H Q (I.wish _) hw) (fun _ _ ⟨v,H',I',r,q⟩=>⟨v,H',I'.unwish,r,q⟩) fun _ _ z=>False.elim z
theorem PT.nox {e:Expr}{t:TT} (h:PT X.nox e t):PT X e t:=fun pins s σ H Q I hw=>
  wpAny_mono (h pins s σ H Q (I.wish _) hw) (fun _ _ ⟨H',I',q⟩=>⟨H',I'.unwish,q⟩) fun _ _ z=>False.elim z
theorem PSs.nox {st:List Stmt}{t:TS} (h:PSs X.nox st t):PSs X st t:=fun pins s σ H D I hw=>
  wpAny_mono (h pins s σ H D (I.wish _) hw) (fun _ _ q=>q.unwish) fun _ _ z=>False.elim z
end
section
variable {X:Cx}{st:Stmt}{rest:List Stmt}{t u:TS}{e:Expr}{te:TE}{pos:Pos}
def Ajq:TS:=fun D σ H=>D.nx σ H
def Amo (t u:TS):TS:=fun D σ H=>t { D with nx:=u D} σ H
theorem Ay:PSs X [] Ajq:=fun _ _ σ H _ I h=>wpAny_execs_nil ⟨σ,H,I,h⟩
theorem Ac (h1:PS X st t) (h2:PSs X rest u):PSs X (st::rest) (Amo t u):=by
  intro pins s σ H D I h
  refine wpAny_execs_cons (thn (h1 pins s σ H { D with nx:=u D} I h) fun f s1 q=> ?_)
  cases f with
  | next=>
    obtain⟨σ',H',I',q⟩:=q
    exact h2 pins s1 σ' H' D I' q
  | ret v=>exact q
  | brk=>exact q
  | cont=>exact q
theorem Ae (h1:PS X st t):PSs X [st] t:=by
  intro pins s σ H D I h
  refine wpAny_execs_cons (thn (h1 pins s σ H D I h) fun f s1 q=> ?_)
  cases f with
  | next=>exact wpAny_execs_nil q
  | ret v=>exact q
  | brk=>exact q
  | cont=>exact q
theorem Inv.quiet {pins:List (Addr × Obj)}{σ:St}{H:Hp}{s:Shared} (I:Inv X pins σ H s):interactive X.env=false:=by simp [interactive,I.ok.kind]
def Aiz (te:TE):TS:=fun D σ H=>te σ H fun _ H1=>D.nx σ H1
theorem Kz (he:PE X e te) (hs:swapsWith e none pos.line X.env=pure false:=by rfl):PS X (.Expr e pos) (Aiz te):=by
  intro pins s σ H D I h
  exact wpAny_Expr_any (thn (he pins s σ H _ I h) fun v s1 ⟨x,H1,I1,r1,q1⟩=>⟨σ,H1,I1,q1⟩) I.quiet hs
def Amv (te:TE):TS:=fun D σ H=>te σ H D.rt
theorem Ao (he:PE X e te):PS X (.Return (some e) pos) (Amv te):=by
  intro pins s σ H D I h
  exact wpAny_Return_some (thn (he pins s σ H _ I h) fun v s1 ⟨x,H1,I1,r1,q1⟩=>⟨x,σ,H1,I1,r1,q1⟩)
def An1 (c:TT) (t u:TS):TS:=fun D σ H=>c σ H fun b H1=>if b=true then t D σ H1 else u D σ H1
theorem Du {c:Expr}{a b:List Stmt}{tc:TT} (hc:PT X c tc) (ha:PSs X a t) (hb:PSs X b u):PS X (.If c a b pos) (An1 tc t u):=by
  intro pins s σ H D I h
  refine wpAny_If (thn (hc pins s σ H _ I h) fun d s1 ⟨H1,I1,q1⟩=> ?_)
  cases d with
  | true=>exact ha pins s1 σ H1 D I1 q1
  | false=>exact hb pins s1 σ H1 D I1 q1
def Ahu:TS:=fun _ _ _=>False
theorem Lj:PS X st Ahu:=fun _ _ _ _ _ _ h=>h.elim
end
abbrev TG:=V->St->Hp->(St->Hp->Prop)->Prop
abbrev TGs:=List V->St->Hp->(St->Hp->Prop)->Prop
def PG (X:Cx) (target:Expr) (t:TG):Prop:=
  ∀(pins:List (Addr × Obj)) (s:Shared) (σ:St) (H:Hp) (v:V) (u:Value) (Q:St->Hp->Prop),Inv X pins σ H s->RelV v u->t v σ H Q->
    wpAny (model X.prog X.w) X.A (assign target X.env u) (fun _ s'=>∃σ' H',Inv X pins σ' H' s'/\Q σ' H') X.xe s
def PGs (X:Cx) (ts:List Expr) (t:TGs):Prop:=
  ∀(pins:List (Addr × Obj)) (s:Shared) (σ:St) (H:Hp) (vs:List V) (us:List Value) (Q:St->Hp->Prop),Inv X pins σ H s->Vals vs us->t vs σ H Q->
    wpAny (model X.prog X.w) X.A (assignInOrder ((assignEach ts X.env).map (·.2)) us) (fun _ s'=>∃σ' H',Inv X pins σ' H' s'/\Q σ' H') X.xe s
abbrev Ak9:=V->V->V->Hp->(Hp->Prop)->Prop
def Aoa (X:Cx) (t:Ak9):Prop:=
  ∀(pins:List (Addr × Obj)) (s:Shared) (σ:St) (H:Hp) (o i v:V) (ov iv u:Value) (Q:Hp->Prop),Inv X pins σ H s->RelV o ov->RelV i iv->RelV v u->t o i v H Q->
    wpAny (model X.prog X.w) X.A (setItem ov iv u) (fun _ s'=>∃H',Inv X pins σ H' s'/\Q H') X.xe s
section
variable {X:Cx}{pos:Pos}
def Ys (i:Nat):TG:=fun v σ H Q=>Q (σ.set i (some v)) H
theorem Aw {i:Nat}{x:Str} (hN:X.N.Nodup) (hi:X.N[i]? =some x) (hx:Loc X.env.scope x) (hf:X.fn x=true\/X.env.scope.names.lookup x=some .local :=by first | exact .inl rfl | exact .inr rfl | assumption):PG X (.Name x pos) (Ys i):=by
  intro pins s σ H v u Q I r h
  exact wpAny_assign_Name (Pz I hN hi hx r (fun s' I'=>⟨_,H,I',h⟩) hf)
def An6:TGs:=fun vs σ H Q=>vs=[]/\Q σ H
def Afy (t:TG) (u:TGs):TGs:=fun vs σ H Q=>∃v r,vs=v::r/\t v σ H fun σ' H'=>u r σ' H' Q
theorem Gv:PGs X [] An6:=by
  intro pins s σ H vs us Q I r h
  obtain⟨e,h⟩:=h
  subst e
  cases r
  exact assignInOrder_nil ⟨σ,H,I,h⟩
theorem Bd {e:Expr}{es:List Expr}{t:TG}{u:TGs} (h1:PG X e t) (h2:PGs X es u)
    (hs:(assignEach (e::es) X.env).map (·.2)=assign e X.env::(assignEach es X.env).map (·.2):=by rfl):PGs X (e::es) (Afy t u):=by
  intro pins s σ H vs us Q I r h
  obtain⟨v,vr,e1,h⟩:=h
  subst e1
  cases r with
  | cons r rr=>
    rw [hs]
    refine assignInOrder_cons (thn (h1 pins s σ H _ _ _ I r h) fun _ s1 ⟨σ1,H1,I1,q1⟩=> ?_)
    exact h2 pins s1 σ1 H1 _ _ Q I1 rr q1
def Ami (K:PySem.W.Frag) (n:Nat) (t:TGs):TG:=fun v σ H Q=>∃a xs,v= .ref a/\SqT K H a xs/\xs.length=n/\t xs σ H Q
theorem Jd {es:List Expr}{k:Nat}{t:TGs}{n:Nat} (hc:X.calm=true) (h:PGs X es t)
    (hn:(assignEach es X.env).length=n:=by rfl) (hst:(assignEach es X.env).findIdx? (·.1)=none:=by rfl):PG X (.Tuple es k pos) (Ami X.K n t):=by
  intro pins s σ H v u Q I r hw
  obtain⟨a,xs,e1,hq,hl,hw⟩:=hw
  subst e1
  cases r
  obtain⟨its,rv,ht,hz⟩:=I.tuple hq
  refine assign_Tuple_tuple (I.ok.hd hc) ht (by simp [hn,<-hl,rv.length]) hst fun h' hx=> ?_
  have I1:Inv X pins σ H { s with heap:=h'}:=I.kept (t':=s.toks) fun b o e=>hx b o (Nat.ne_of_lt (Heap.lt_size e)) e
  exact h pins _ σ H xs _ Q I1 (by simpa using rv) hw
def An0 (to ti:TE) (t:Ak9):TG:=fun v σ H Q=>to σ H fun o H1=>ti σ H1 fun i H2=>t o i v H2 fun H3=>Q σ H3
theorem Ms {o i:Expr}{to ti:TE}{t:Ak9} (ho:PE X o to) (hi:PE X i ti) (hs:Aoa X t)
    (ha:∀v,assign (.Subscript o i pos) X.env v=(do
      let ov<-holding [v] (eval o X.env)
      let iv<-holding [v,ov] (eval i X.env)
      standAt pos
      holding [v,ov,iv] (setItem ov iv v)
      release [v,ov,iv] []):=by intro _;rfl):PG X (.Subscript o i pos) (An0 to ti t):=by
  intro pins s σ H v u Q I r h
  rw [ha]
  refine wpAny_bind (wpAny_holding (thn (ho pins s σ H _ I h) fun ov s1 ⟨x,H1,I1,r1,q1⟩=> ?_))
  refine wpAny_bind (wpAny_holding (thn (hi pins s1 σ H1 _ I1 q1) fun iv s2 ⟨y,H2,I2,r2,q2⟩=> ?_))
  refine wpAny_bind (wpAny_standAt (wpAny_bind (wpAny_holding (thn (hs pins s2 σ H2 x y v ov iv u _ I2 r1 r2 r q2) fun _ s3 ⟨H3,I3,q3⟩=> ?_))))
  exact wpAny_release ⟨σ,H3,I3,q3⟩
def Ai5 (te:TE) (g:TG):TS:=fun D σ H=>te σ H fun x H1=>g x σ H1 D.nx
theorem Jq {tg e:Expr}{te:TE}{g:TG} (he:PE X e te) (hg:PG X tg g) (hs:swapsWithSole [tg] e pos.line X.env=pure false:=by rfl) (hw:swappedStores [tg] e X.env=pure none:=by rfl)
    (h1:(assignEach [tg] X.env).map (·.2)=[assign tg X.env]:=by rfl):PS X (.Assign [tg] e pos) (Ai5 te g):=by
  intro pins s σ H D I h
  refine wpAny_Assign_stores (thn (he pins s σ H _ I h) fun v s1 ⟨x,H1,I1,r1,q1⟩=> ?_) hs hw
  rw [h1]
  exact thn (hg pins s1 σ H1 x v _ I1 r1 q1) fun _ s2 q=>q
theorem Ah {i:Nat}{x:Str}{e:Expr}{te:TE}{pos':Pos} (hN:X.N.Nodup) (hi:X.N[i]? =some x) (hx:Loc X.env.scope x) (he:PE X e te) (hs:swapsWith e (some (.Name x pos')) pos.line X.env=pure false:=by rfl) (hf:X.fn x=true\/X.env.scope.names.lookup x=some .local :=by first | exact .inl rfl | exact .inr rfl | assumption):
    PS X (.Assign [.Name x pos'] e pos) (Ai5 te (Ys i)):=by
  intro pins s σ H D I h
  refine wpAny_Assign_Name (thn (he pins s σ H _ I h) fun v s1 ⟨y,H1,I1,r1,q1⟩=> ?_) hs
  exact Pz I1 hN hi hx r1 (fun s2 I2=>⟨_,H1,I2,q1⟩) hf
def An7 (i j:Nat) (ta:TA):TS:=fun D σ H=>ta σ H fun vs H1=>∃v w,vs=[v,w]/\D.nx ((σ.set i (some v)).set j (some w)) H1
theorem Qi {i j:Nat}{x y:Str}{a b:Expr}{ta:TA}{px py pt:Pos}{kt k2 pt2} (hc:X.calm=true) (hN:X.N.Nodup) (hi:X.N[i]? =some x) (hj:X.N[j]? =some y) (hij:i≠j)
    (hx:X.env.scope.names.lookup x=some .local) (hy:X.env.scope.names.lookup y=some .local) (ha:PA X [a,b] ta)
    (hw:swappedStores [.Tuple [.Name x px,.Name y py] kt pt] (.Tuple [a,b] k2 pt2) X.env=pure (some [x,y]))
    (hs:swapsWithSole [.Tuple [.Name x px,.Name y py] kt pt] (.Tuple [a,b] k2 pt2) pos.line X.env=pure false:=by rfl):
    PS X (.Assign [.Tuple [.Name x px,.Name y py] kt pt] (.Tuple [a,b] k2 pt2) pos) (An7 i j ta):=by
  intro pins s σ H D I h
  rw [exec_Assign_arm]
  refine wpAny_bind (wpAny_standAt ?_)
  rw [hs]
  refine wpAny_bind (wpAny_pure ?_)
  rw [if_neg (by decide)]
  refine wpAny_bind (Tuple_ (thn (ha _ pins s σ H _ I h) fun us s1 ⟨vs,H1,I1,r1,q1⟩=> ?_))
  obtain⟨v,w,e1,q1⟩:=q1
  subst e1
  obtain⟨u1,u2,rfl,rv,rw'⟩:∃u1 u2,us=[u1,u2]/\RelV v u1/\RelV w u2:=by
    cases r1 with
    | cons p q=>
      cases q with
      | cons p' q'=>
        cases q'
        exact⟨_,_,rfl,p,p'⟩
  refine wpAny_newObj_type ?_ (by show 2<=sizeLine;decide)
  have I2:Inv X pins σ H1 { s1 with heap:=s1.heap.push { cls:= .type "tuple",data:= .seq [u1,u2].toArray}}:=I1.kept (t':=s1.toks) fun b o e=>Heap.get?_push_of_some _ e
  rw [hw]
  refine wpAny_bind (wpAny_pure ?_)
  show wpAny (model X.prog X.w) X.A (do rule "assign.swapped-stores";let items<-unpackItems (.ref s1.heap.objs.size) 2 none;assignInOrder [fun v=>bindName X.env y v,fun v=>bindName X.env x v] items.reverse;pure Flow.next) _ _ _
  refine wpAny_bind (wpAny_rule (wpAny_bind (unpackItems_tuple (items:= #[u1,u2]) (I.ok.hd hc) (IsTup.new s1.heap _) fun h' hx'=> ?_)))
  have I3:=I2.kept (h':=h') (t':=s1.toks) fun b o e=>hx' b o (Nat.ne_of_lt (Heap.lt_size e)) e
  show wpAny _ _ (assignInOrder [fun v=>bindName X.env y v,fun v=>bindName X.env x v] [u2,u1]>>=fun _=>pure Flow.next) _ _ _
  refine wpAny_bind (assignInOrder_cons (wpAny_bindName (Pz I3 hN hj (.inl hy) rw' (fun s2 I4=> ?_) (.inr hy))))
  refine assignInOrder_cons (wpAny_bindName (Pz I4 hN hi (.inl hx) rv (fun s3 I5=>assignInOrder_nil (wpAny_pure ?_)) (.inr hx)))
  rw [List.set_comm _ _ (Ne.symm hij)]at I5
  exact⟨_,H1,I5,q1⟩
end
section
variable {X:Cx}{pos:Pos}
def W3 (c:TT) (tb:TS):TS:=fun D σ H=>∃W:Nat->St->Hp->Prop,(∃m,W m σ H)/\∀m σ H,W m σ H->
  c σ H fun b H1=>if b=true then ∃N:St->Hp->Prop,(∀σ' H',N σ' H'->∃m',m'<m/\W m' σ' H')/\tb { D with nx:=N,ct:=N,bk:=D.nx} σ H1 else D.nx σ H1
theorem Hh {c:Expr}{body:List Stmt}{tc:TT}{tb:TS} (hp:PassesOwn (model X.prog X.w) X.A X.env X.xe) (hc:PT X c tc) (hb:PSs X body tb):PS X (.While c body [] pos) (W3 tc tb):=by
  intro pins s σ H D I h
  obtain⟨W,⟨m0,w0⟩,turn⟩:=h
  refine wpAny_While (codeAny_whileLoop (fun n s'=>∃σ' H',Inv X pins σ' H' s'/\W n σ' H') ?_ m0 ⟨σ,H,I,w0⟩)
  rintro n s1 ⟨σ1,H1,I1,w1⟩
  refine wpAny_passesOwn hp (thn (hc pins s1 σ1 H1 _ I1 (turn n σ1 H1 w1)) fun b s2 ⟨H2,I2,q2⟩=> ?_)
  cases b with
  | true=>
    obtain⟨N,hN,q2⟩:=q2
    rw [if_pos rfl]
    refine wpAny_passesOwn hp (thn (hb pins s2 σ1 H2 _ I2 q2) fun f s3 q3=> ?_)
    cases f with
    | next=>
      obtain⟨σ3,H3,I3,n3⟩:=q3
      obtain⟨m',hm,w3⟩:=hN σ3 H3 n3
      exact⟨m',hm,σ3,H3,I3,w3⟩
    | cont=>
      obtain⟨σ3,H3,I3,n3⟩:=q3
      obtain⟨m',hm,w3⟩:=hN σ3 H3 n3
      exact⟨m',hm,σ3,H3,I3,w3⟩
    | brk=>exact q3
    | ret v=>exact q3
  | false=>
    rw [if_neg Bool.false_ne_true]
    exact wpAny_execs_nil ⟨σ1,H2,I2,q2⟩
end
structure It where
  go:Nat->Hp->Prop
  yld:Nat->Hp->V->Hp->Prop
  stop:Nat->Hp->Prop
def Yl (X:Cx) (pins:List (Addr × Obj)) (H:Hp) (b:Addr):Prop:=
  H b=none/\b≠X.env.locals/\b∉X.fs/\(b∈X.ex\/X.s₀.heap.objs.size<=b)/\(∀x c,X.env.cells.lookup x=some c->c≠b)/\∀p∈X.pn++pins,p.1≠b
theorem Inv.fpOk {X:Cx}{pins:List (Addr × Obj)}{σ:St}{H H':Hp}{s:Shared}{b:Addr} (I:Inv X pins σ H s) (hb:s.heap.objs.size<=b) (hn:H' b=none):Yl X pins H' b:=by
  refine⟨hn,Nat.ne_of_gt (Nat.lt_of_lt_of_le I.lt hb),I.nofs hb,.inr (Nat.le_trans I.sz hb),fun x c e z=> ?_,fun p hp z=> ?_⟩
  . obtain⟨v,q⟩:=I.cell x c e
    exact absurd (Nat.lt_of_lt_of_le q.lt (by rw [z];exact hb)) (Nat.lt_irrefl _)
  . exact absurd (Nat.lt_of_lt_of_le (Heap.lt_size (I.pin p hp).1) (by rw [z];exact hb)) (Nat.lt_irrefl _)
structure Turn (P:Program) (w:World) (K:PySem.W.Frag) (tg:Expr) (J:It) (fp:List Addr) (it:Addr) (tn:Nat->Heap->Prop):Prop where
  mem:it∈fp
  obj:∀i h,tn i h->∀b∈fp,∃o,h.get? b=some o/\∀v,o.data≠ .cell v
  keep:∀i h h',tn i h->(∀b∈fp,∀o,h.get? b=some o->h'.get? b=some o)->tn i h'
  item:∀(X:Cx),X.prog=P->X.w=w->X.K=K->X.calm=true->∀(i:Nat) (pins:List (Addr × Obj)) (s:Shared) (σ:St) (H:Hp) (E:Value->Shared->Prop),Inv X pins σ H s->(∀b∈fp,Yl X pins H b)->tn i s.heap->J.go i H->
    wpAny (model P w) X.A (pyNext (.ref it)) (fun r s1=>∃u,r=some u/\
      wpAny (model P w) X.A (letOwnedTupleGo tg (.ref it) u) (fun _ s2=>∃x H',Inv X pins σ H' s2/\RelV x u/\J.yld i H x H'/\tn (i+1) s2.heap/\∀b∈fp,H' b=none) E s1) E s
  done:∀(X:Cx),X.prog=P->X.w=w->X.K=K->X.calm=true->∀(i:Nat) (pins:List (Addr × Obj)) (s:Shared) (σ:St) (H:Hp) (E:Value->Shared->Prop),Inv X pins σ H s->(∀b∈fp,Yl X pins H b)->tn i s.heap->J.stop i H->
    wpAny (model P w) X.A (pyNext (.ref it)) (fun r s1=>r=none/\Inv X pins σ H s1) E s
  self:∀(A:Around) (i:Nat) (s:Shared) (Q:Value->Shared->Prop) (E:Value->Shared->Prop),tn i s.heap->Q (.ref it) s->wpAny (model P w) A (pyIter (.ref it)) Q E s
abbrev TI:=St->Hp->(It->Hp->Prop)->Prop
def PIE (X:Cx) (pins:List (Addr × Obj)) (σ:St) (tg:Expr) (R:It->Hp->Prop) (itv:Value) (s2:Shared):Prop:=
  ∃(it:Addr) (fp:List Addr) (tn:Nat->Heap->Prop) (J:It) (H':Hp),itv= .ref it/\Inv X pins σ H' s2/\Turn X.prog X.w X.K tg J fp it tn/\tn 0 s2.heap/\(∀b∈fp,Yl X pins H' b)/\R J H'
def PI (X:Cx) (tg iter:Expr) (wi:TI):Prop:=
  ∀(pins:List (Addr × Obj)) (s:Shared) (σ:St) (H:Hp) (R:It->Hp->Prop),Inv X pins σ H s->wi σ H R->
    wpAny (model X.prog X.w) X.A (eval iter X.env) (fun v s1=>wpAny (model X.prog X.w) X.A (pyIter v) (PIE X pins σ tg R) X.xe s1) X.xe s
theorem Ae5 {M:Model}{A:Around}{E:Value->Shared->Prop}{s:Shared}{tg:Expr}{it:Addr}{u:Value}{o:Obj}{n:String}{vs:Array Value}{Q:Unit->Shared->Prop} (ho:s.heap.get? it=some o) (hc:o.cls= .type n) (hd:o.data= .fields vs)
    (hn:["enumerate","zip","dict_itemiterator","dict_reverseitemiterator","odict_iterator","itertools.zip_longest","itertools.pairwise"].contains n=false) (hQ:Q () s):wpAny M A (letOwnedTupleGo tg (.ref it) u) Q E s:=by
  unfold letOwnedTupleGo
  cases tg<;>first
    | exact wpAny_pure hQ
    | (cases u<;>first
        | exact wpAny_pure hQ
        | (refine wpAny_bind (wpAny_load ho ?_)
           rw [hc,hd]
           show wpAny M A (if(["enumerate","zip","dict_itemiterator","dict_reverseitemiterator","odict_iterator","itertools.zip_longest","itertools.pairwise"].contains n&&vs[0]? ==some (rawInt _))=true then _ else _) Q E s
           rw [if_neg (by intro h;rw [hn,Bool.false_and]at h;cases h)]
           exact wpAny_pure hQ))
def Itl (K:PySem.W.Frag) (a:Addr):It:=
  ⟨fun i H=>∃xs x,SqL K H a xs/\xs[i]? =some x,fun i H x H'=>H'=H/\∀xs,SqL K H a xs->xs[i]? =some x,fun i H=>∃xs,SqL K H a xs/\xs.length<=i⟩
def Itt (K:PySem.W.Frag) (a:Addr):It:=
  ⟨fun i H=>∃xs x,SqT K H a xs/\xs[i]? =some x,fun i H x H'=>H'=H/\∀xs,SqT K H a xs->xs[i]? =some x,fun i H=>∃xs,SqT K H a xs/\xs.length<=i⟩
def Itr (lo:Int) (n:Nat):It:=⟨fun i _=>i<n,fun i H x H'=>H'=H/\x= .int (lo+i),fun i _=>n<=i⟩
theorem Ac1 {P:Program}{w:World}{K:PySem.W.Frag}{tg:Expr} (a it:Addr):Turn P w K tg (Itl K a) [it] it (fun i h=>h.IsListIter it a i) where
  mem:=by simp
  obj:=fun i h st b hb=>by
    have e:b=it:=by simpa using hb
    subst e
    obtain⟨o,e,c,d⟩:=st
    exact⟨o,e,fun v z=>by rw [d]at z;cases z⟩
  keep:=fun i h h' st k=>st.at fun o e=>k it (by simp) o e
  item:=by
    intro X hP hw hK hc i pins s σ H E I hf st hg
    subst hP hw hK
    obtain⟨xs,x,hq,hx⟩:=hg
    obtain⟨its,rv,p,hz⟩:=I.list hq
    obtain⟨u,hu,ru⟩:=rv.get hx
    obtain⟨f0,f1,f2,f3,f4,f5⟩:=hf it (by simp)
    refine wpAny_pyNext_list_item st p.isList (x:=u) (by simpa using hu) fun h' st' sb=> ?_
    have I1:Inv X pins σ H { s with heap:=h'}:=I.turned (t':=s.toks) (fun b o hb e=>(sb.2 b hb).trans e) f0 f1 f3 f4 f5
    obtain⟨o,e,c,d⟩:=id st'
    exact⟨u,rfl,Ae5 (s:={ s with heap:=h'}) e c d (by decide) ⟨x,H,I1,ru,⟨rfl,fun ys hy=>by rw [I.list_inj hy hq];exact hx⟩,st',fun b hb=>(hf b hb).1⟩⟩
  done:=by
    intro X hP hw hK hc i pins s σ H E I hf st hg
    subst hP hw hK
    obtain⟨xs,hq,hx⟩:=hg
    obtain⟨its,rv,p,hz⟩:=I.list hq
    obtain⟨f0,f1,f2,f3,f4,f5⟩:=hf it (by simp)
    have hl:=rv.length
    exact wpAny_pyNext_list_end (I.ok.hd hc) st p.isList (by simp;omega) fun h' eb=>⟨rfl,I.turned (t':=s.toks) (fun b o hb e=>eb b o hb e) f0 f1 f3 f4 f5⟩
  self:=fun _ _ _ _ _ st h=>wpAny_pyIter_listiter st h
theorem Abn {P:Program}{w:World}{K:PySem.W.Frag}{tg:Expr} (a it:Addr):Turn P w K tg (Itt K a) [it] it (fun i h=>h.IsTupleIter it a i) where
  mem:=by simp
  obj:=fun i h st b hb=>by
    have e:b=it:=by simpa using hb
    subst e
    obtain⟨o,e,c,d⟩:=st
    exact⟨o,e,fun v z=>by rw [d]at z;cases z⟩
  keep:=fun i h h' st k=>st.at fun o e=>k it (by simp) o e
  item:=by
    intro X hP hw hK hc i pins s σ H E I hf st hg
    subst hP hw hK
    obtain⟨xs,x,hq,hx⟩:=hg
    obtain⟨its,rv,p,hz⟩:=I.tuple hq
    obtain⟨u,hu,ru⟩:=rv.get hx
    obtain⟨f0,f1,f2,f3,f4,f5⟩:=hf it (by simp)
    refine wpAny_pyNext_tuple_item st (show s.heap.IsTuple a its.toArray from p) (x:=u) (by simpa using hu) fun h' st' sb=> ?_
    have I1:Inv X pins σ H { s with heap:=h'}:=I.turned (t':=s.toks) (fun b o hb e=>(sb.2 b hb).trans e) f0 f1 f3 f4 f5
    obtain⟨o,e,c,d⟩:=id st'
    exact⟨u,rfl,Ae5 (s:={ s with heap:=h'}) e c d (by decide) ⟨x,H,I1,ru,⟨rfl,fun ys hy=>by rw [I.tuple_inj hy hq];exact hx⟩,st',fun b hb=>(hf b hb).1⟩⟩
  done:=by
    intro X hP hw hK hc i pins s σ H E I hf st hg
    subst hP hw hK
    obtain⟨xs,hq,hx⟩:=hg
    obtain⟨its,rv,p,hz⟩:=I.tuple hq
    obtain⟨f0,f1,f2,f3,f4,f5⟩:=hf it (by simp)
    have hl:=rv.length
    exact wpAny_pyNext_tuple_end (I.ok.hd hc) st (show s.heap.IsTuple a its.toArray from p) (by simp;omega) fun h' eb=>⟨rfl,I.turned (t':=s.toks) (fun b o hb e=>eb b o hb e) f0 f1 f3 f4 f5⟩
  self:=fun _ _ _ _ _ st h=>wpAny_pyIter_tupleiter st h
theorem Ab2 {P:Program}{w:World}{K:PySem.W.Frag}{tg:Expr} (it:Addr) (lo:Int) (n:Nat):Turn P w K tg (Itr lo n) [it] it (fun i h=>IsRangeIter h it (lo+(i:Nat)*1) ((n:Int)-(i:Nat)) 1) where
  mem:=by simp
  obj:=fun i h st b hb=>by
    have e:b=it:=by simpa using hb
    subst e
    exact⟨_,st,fun v z=>by
      have z':Data.fields _=Data.cell v:=z
      cases z'⟩
  keep:=fun i h h' st k=>k it (by simp) _ st
  item:=by
    intro X hP hw hK hc i pins s σ H E I hf st hg
    subst hP hw hK
    obtain⟨f0,f1,f2,f3,f4,f5⟩:=hf it (by simp)
    have W:=Walks.range (prog:=X.prog) (w:=X.w) (I.ok.hd hc) it lo 1 n
    refine W.item i s _ _ hg st fun v h' tk hv st' kk=> ?_
    obtain⟨t,rfl⟩:=hv
    have I1:Inv X pins σ H { s with heap:=h',toks:=tk}:=I.turned (fun b o hb e=>kk b o (by simpa using hb) e) f0 f1 f3 f4 f5
    refine⟨_,rfl,Ae5 (s:={ s with heap:=h',toks:=tk}) (n:="range_iterator") st' rfl rfl (by decide) ⟨.int (lo+i),H,I1,⟨t,?_⟩,⟨rfl,rfl⟩,st',fun b hb=>(hf b hb).1⟩⟩
    rw [Int.mul_one]
  done:=by
    intro X hP hw hK hc i pins s σ H E I hf st hg
    subst hP hw hK
    obtain⟨f0,f1,f2,f3,f4,f5⟩:=hf it (by simp)
    exact wpAny_pyNext_range_end (I.ok.hd hc) st (by have:n<=i:=hg;omega) fun h' eb=>⟨rfl,I.turned (t':=s.toks) (fun b o hb e=>eb b o hb e) f0 f1 f3 f4 f5⟩
  self:=fun _ _ _ _ _ st h=>wpAny_pyIter_rangeiter st h
end L2
namespace L2
open PySem PySem.Spec PyProof.Rows
section
variable {X:Cx}{tg:Expr}
def Ajy (K:PySem.W.Frag) (tl:TE):TI:=fun σ H R=>tl σ H fun x H1=>∃a,x= .ref a/\(∃xs,SqL K H1 a xs)/\R (Itl K a) H1
def Anh (K:PySem.W.Frag) (tl:TE):TI:=fun σ H R=>tl σ H fun x H1=>∃a,x= .ref a/\(∃xs,SqT K H1 a xs)/\R (Itt K a) H1
theorem Ly {l:Expr}{tl:TE} (hl:PE X l tl):PI X tg l (Ajy X.K tl):=by
  intro pins s σ H R I h
  refine thn (hl pins s σ H _ I h) fun v s1 ⟨x,H1,I1,r1,q1⟩=> ?_
  obtain⟨a,e,⟨xs,hq⟩,q⟩:=q1
  subst e
  cases r1
  obtain⟨its,rv,p,hz⟩:=I1.list hq
  refine wpAny_pyIter_list p.isList ?_
  refine⟨s1.heap.objs.size,[s1.heap.objs.size],_,_,H1,rfl,I1.kept (t':=s1.toks) fun b o e=>Heap.get?_push_of_some _ e,Ac1 a _,⟨_,Heap.get?_push_size _ rfl,rfl,rfl⟩,fun b hb=> ?_,q⟩
  have e:b=s1.heap.objs.size:=by simpa using hb
  subst e
  exact I1.fpOk (Nat.le_refl _) (I1.hok.fresh (Nat.le_refl _))
theorem Ug {l:Expr}{tl:TE} (hl:PE X l tl):PI X tg l (Anh X.K tl):=by
  intro pins s σ H R I h
  refine thn (hl pins s σ H _ I h) fun v s1 ⟨x,H1,I1,r1,q1⟩=> ?_
  obtain⟨a,e,⟨xs,hq⟩,q⟩:=q1
  subst e
  cases r1
  obtain⟨its,rv,p,hz⟩:=I1.tuple hq
  refine wpAny_pyIter_tuple (show s1.heap.IsTuple a its.toArray from p) ?_
  refine⟨s1.heap.objs.size,[s1.heap.objs.size],_,_,H1,rfl,I1.kept (t':=s1.toks) fun b o e=>Heap.get?_push_of_some _ e,Abn a _,⟨_,Heap.get?_push_size _ rfl,rfl,rfl⟩,fun b hb=> ?_,q⟩
  have e:b=s1.heap.objs.size:=by simpa using hb
  subst e
  exact I1.fpOk (Nat.le_refl _) (I1.hok.fresh (Nat.le_refl _))
theorem Aau {pins:List (Addr × Obj)}{σ:St}{H:Hp}{s:Shared}{R:It->Hp->Prop}{E:Value->Shared->Prop}{lo hi:Int}{t u v:Tok}{tk:Nat} (I:Inv X pins σ H s) (h1: -(2^62)<=lo) (h2:lo<2^62) (h3: -(2^62)<=hi) (h4:hi<2^62)
    (q:R (Itr lo (hi-lo).toNat) H):wpAny (model X.prog X.w) X.A (pyIter (.ref s.heap.objs.size)) (PIE X pins σ tg R) E { s with heap:=s.heap.push { cls:= .type "range",data:= .fields #[.int lo t,.int hi u,.int 1 v]},toks:=tk}:=by
  refine wpAny_pyIter_range (IsRange.new ..) (small_one h1 h2 h3 h4) ?_
  have I1:Inv X pins σ H { s with heap:=s.heap.push { cls:= .type "range",data:= .fields #[.int lo t,.int hi u,.int 1 v]},toks:=tk}:=I.kept fun b o e=>Heap.get?_push_of_some _ e
  refine⟨(s.heap.push { cls:= .type "range",data:= .fields #[.int lo t,.int hi u,.int 1 v]}).objs.size,[(s.heap.push { cls:= .type "range",data:= .fields #[.int lo t,.int hi u,.int 1 v]}).objs.size],_,_,H,rfl,
    I1.kept (t':=tk) fun b o e=>Heap.get?_push_of_some _ e,Ab2 _ lo (hi-lo).toNat,?_,fun b hb=> ?_,q⟩
  . have e1:lo+((0:Nat):Int)*1=lo:=by simp
    have e2:(((hi-lo).toNat:Nat):Int)-((0:Nat):Int)=Builtin.Range.rangeSize lo hi 1:=by rw [rangeSize_one];split<;>omega
    show IsRangeIter _ _ (lo+((0:Nat):Int)*1) ((((hi-lo).toNat:Nat):Int)-((0:Nat):Int)) 1
    rw [e1,e2]
    exact Heap.get?_push_size _ rfl
  . have e:b=(s.heap.push { cls:= .type "range",data:= .fields #[.int lo t,.int hi u,.int 1 v]}).objs.size:=by simpa using hb
    subst e
    exact I1.fpOk (Nat.le_refl _) (I1.hok.fresh (Nat.le_refl _))
def Ajm (ta:TA):TI:=fun σ H R=>ta σ H fun vs H1=>∃j:Int,vs=[.int j]/\ -(2^62)<=j/\j<2^62/\R (Itr 0 j.toNat) H1
def Aim (ta:TA):TI:=fun σ H R=>ta σ H fun vs H1=>∃i j:Int,vs=[.int i,.int j]/\(-(2^62)<=i/\i<2^62/\ -(2^62)<=j/\j<2^62)/\R (Itr i (j-i).toNat) H1
theorem Kd {a:Expr}{ta:TA}{p pos:Pos} (hg:Gl X "range") (hm:X.mg "range"=none) (ha:PA X [a] ta) (hs:starEach [a] X.env=[(false,eval a X.env)]:=by rfl):PI X tg (.Call (.Name "range" p) [a] [] pos) (Ajm ta):=by
  intro pins s σ H R I h
  refine Call_ (Py I hg hm boot_range (PyProof.Rows.callWith_type1 (thn (ha pos pins s σ H _ I h) fun us s1 ⟨vs,H1,I1,r1,q1⟩=> ?_) hs rfl))
  obtain⟨j,e,q1,q2,q⟩:=q1
  subst e
  cases r1 with
  | cons r rr=>
    cases rr
    obtain⟨t,rfl⟩:=r
    exact call_range_1 (Aau I1 (by omega) (by omega) q1 q2 (by simpa using q))
theorem Mz {a b:Expr}{ta:TA}{p pos:Pos} (hg:Gl X "range") (hm:X.mg "range"=none) (ha:PA X [a,b] ta) (hs:starEach [a,b] X.env=[(false,eval a X.env),(false,eval b X.env)]:=by rfl) (hs2:starEach [b] X.env=[(false,eval b X.env)]:=by rfl):
    PI X tg (.Call (.Name "range" p) [a,b] [] pos) (Aim ta):=by
  intro pins s σ H R I h
  refine Call_ (Py I hg hm boot_range (PyProof.Rows.callWith_type1 (thn (ha pos pins s σ H _ I h) fun us s1 ⟨vs,H1,I1,r1,q1⟩=> ?_) (by rw [hs,hs2]) (by rw [hs2];rfl)))
  obtain⟨i,j,e,⟨q1,q2,q3,q4⟩,q⟩:=q1
  subst e
  cases r1 with
  | cons r rr=>
    cases rr with
    | cons r' rr=>
      cases rr
      obtain⟨t,rfl⟩:=r
      obtain⟨t',rfl⟩:=r'
      exact call_range_2 (Aau I1 q1 q2 q3 q4 q)
def Ana (wi:TI) (g:TG) (tb:TS):TS:=fun D σ H=>wi σ H fun J H1=>∃W:Nat->Nat->St->Hp->Prop,(∃m,W 0 m σ H1)/\∀i m σ H,W i m σ H->
  (J.stop i H/\D.nx σ H)\/(J.go i H/\∃N:St->Hp->Prop,(∀σ' H',N σ' H'->∃m',m'<m/\W (i+1) m' σ' H')/\∀x H',J.yld i H x H'->g x σ H' fun σ2 H2=>tb { D with nx:=N,ct:=N,bk:=D.nx} σ2 H2)
def Yb (fp:List Addr) (h:Heap):List (Addr × Obj):=fp.filterMap fun b=>(h.get? b).map fun o=>(b,o)
theorem K5 {fp:List Addr}{h:Heap}{b:Addr}{o:Obj} (hb:b∈fp) (e:h.get? b=some o):(b,o)∈Yb fp h:=List.mem_filterMap.mpr ⟨b,hb,by rw [e];rfl⟩
theorem Ae3 {fp:List Addr}{h:Heap}{p:Addr × Obj} (hp:p∈Yb fp h):p.1∈fp/\h.get? p.1=some p.2:=by
  obtain⟨b,hb,e⟩:=List.mem_filterMap.mp hp
  cases q:h.get? b with
  | none=>rw [q]at e;cases e
  | some o=>
    rw [q]at e
    have e':(b,o)=p:=Option.some.inj e
    subst e'
    exact⟨hb,q⟩
theorem Inv.pinned {pins:List (Addr × Obj)}{σ:St}{H:Hp}{s:Shared}{fp:List Addr} (I:Inv X pins σ H s) (hf:∀b∈fp,Yl X pins H b) (ho:∀b∈fp,∃o,s.heap.get? b=some o/\∀v,o.data≠ .cell v):Inv X (pins++Yb fp s.heap) σ H s:=
  I.pins_of fun p hp=>(List.mem_append.mp hp).elim (fun z=>I.pin p (List.mem_append_right _ z)) fun z=>by
    obtain⟨hb,e⟩:=Ae3 z
    obtain⟨f0,f1,f2,_⟩:=hf p.1 hb
    obtain⟨o,e',d⟩:=ho p.1 hb
    rw [e]at e';cases e'
    exact⟨e,f0,f1,f2,d⟩
theorem Inv.unpinned {pins pl:List (Addr × Obj)}{σ:St}{H:Hp}{s:Shared} (I:Inv X (pins++pl) σ H s):Inv X pins σ H s:=I.pins_of fun p hp=>I.pin p (List.mem_append_right _ (List.mem_append_left _ hp))
theorem Gq {iter:Expr}{body:List Stmt}{wi:TI}{g:TG}{tb:TS}{pos:Pos} (hp:PassesOwn (model X.prog X.w) X.A X.env X.xe) (hc:X.calm=true) (hi:PI X tg iter wi) (hg:PG X tg g) (hb:PSs X body tb)
    (hs:∀x,foldedSetIterable iter X.env x=pure x:=by intro _;rfl):PS X (.For tg iter body [] pos) (Ana wi g tb):=by
  intro pins s σ H D I h
  refine wpAny_For (thn (hi pins s σ H _ I h) fun v s1 h1=>thn h1 fun itv s2 h2=> ?_) hs
  obtain⟨it,fp,tn,J,H2,e,I2,T,st2,f2,W,⟨m0,w0⟩,turn⟩:=h2
  subst e
  have stat:∀ {H':Hp},(∀b∈fp,H' b=none)->∀b∈fp,Yl X pins H' b:=fun hn b hb=>⟨hn b hb,(f2 b hb).2⟩
  refine codeAny_forLoop_any (fun n s'=>∃i σ' H',Inv X pins σ' H' s'/\tn i s'.heap/\(∀b∈fp,H' b=none)/\W i n σ' H') ?_ m0 ⟨0,σ,H2,I2,st2,fun b hb=>(f2 b hb).1,w0⟩
  rintro n s3 ⟨i,σ3,H3,I3,st3,fr3,w3⟩
  rcases turn i n σ3 H3 w3 with⟨stop,qn⟩ | ⟨go,N,hN,step⟩
  . refine wpAny_passesOwn hp (thn (T.done X rfl rfl rfl hc i pins s3 σ3 H3 X.xe I3 (stat fr3) st3 stop) fun r s4 ⟨hr,I4⟩=> ?_)
    subst hr
    exact wpAny_execs_nil ⟨σ3,H3,I4,qn⟩
  . refine wpAny_passesOwn hp (thn (T.item X rfl rfl rfl hc i pins s3 σ3 H3 X.xe I3 (stat fr3) st3 go) fun r s4 ⟨u,hr,h4⟩=> ?_)
    subst hr
    refine wpAny_passesOwn hp (thn h4 fun _ s5 ⟨x,H5,I5,r5,y5,st5,fr5⟩=> ?_)
    have I5':=I5.pinned (stat fr5) (T.obj _ _ st5)
    refine wpAny_passesOwn hp (thn (hg _ s5 σ3 H5 x u _ I5' r5 (step x H5 y5)) fun _ s6 ⟨σ6,H6,I6,q6⟩=> ?_)
    refine wpAny_passesOwn hp (thn (hb _ s6 σ6 H6 _ I6 q6) fun f s7 q7=> ?_)
    have again:∀ {σ7:St}{H7:Hp},Inv X (pins++Yb fp s5.heap) σ7 H7 s7->N σ7 H7->∃m,m<n/\∃i σ' H',Inv X pins σ' H' s7/\tn i s7.heap/\(∀b∈fp,H' b=none)/\W i m σ' H':=fun {σ7 H7} I7 n7=>by
      obtain⟨m',hm,w7⟩:=hN σ7 H7 n7
      refine⟨m',hm,i+1,σ7,H7,I7.unpinned,T.keep _ _ _ st5 fun b hb o e=>(I7.pin (b,o) (List.mem_append_right _ (List.mem_append_right _ (K5 hb e)))).1,fun b hb=> ?_,w7⟩
      obtain⟨o,e,d⟩:=T.obj _ _ st5 b hb
      exact(I7.pin (b,o) (List.mem_append_right _ (List.mem_append_right _ (K5 hb e)))).2.1
    cases f with
    | next=>obtain⟨σ7,H7,I7,n7⟩:=q7;exact again I7 n7
    | cont=>obtain⟨σ7,H7,I7,n7⟩:=q7;exact again I7 n7
    | brk=>obtain⟨σ7,H7,I7,q7⟩:=q7;exact⟨σ7,H7,I7.unpinned,q7⟩
    | ret v=>obtain⟨x7,σ7,H7,I7,r7,q7⟩:=q7;exact⟨x7,σ7,H7,I7.unpinned,r7,q7⟩
end
theorem Afk {c:TT}{tb:TS}{D:Ends}{σ:St}{H:Hp} (Pv:St->Hp->Prop) (μ:St->Hp->Nat) (h0:Pv σ H)
    (hs:∀σ H,Pv σ H->c σ H fun b H1=>if b=true then tb { D with nx:=fun σ' H'=>Pv σ' H'/\μ σ' H'<μ σ H,ct:=fun σ' H'=>Pv σ' H'/\μ σ' H'<μ σ H,bk:=D.nx} σ H1 else D.nx σ H1)
    (mono:∀σ H Q Q',(∀b H1,Q b H1->Q' b H1)->c σ H Q->c σ H Q'):W3 c tb D σ H:=by
  refine⟨fun m σ H=>m=μ σ H/\Pv σ H,⟨_,rfl,h0⟩,?_⟩
  rintro m σ H ⟨rfl,p⟩
  refine mono σ H _ _ (fun b H1 q=> ?_) (hs σ H p)
  cases b with
  | true=>exact⟨_,fun σ' H' ⟨p',l⟩=>⟨_,l,rfl,p'⟩,q⟩
  | false=>exact q
end L2
namespace L2
open PySem PySem.Spec PyProof.Rows
abbrev R2:=V->V->Hp->VK->Prop
def OpR (X:Cx) (f:Value->Value->Sem Value) (r:R2):Prop:=
  ∀(pins:List (Addr × Obj)) (s:Shared) (σ:St) (H:Hp) (x y:V) (v u:Value) (Q:VK),Inv X pins σ H s->RelV x v->RelV y u->r x y H Q->
    wpAny (model X.prog X.w) X.A (f v u) (EP X pins σ Q) X.xe s
def UnR (X:Cx) (f:Value->Sem Value) (r:V->Hp->VK->Prop):Prop:=
  ∀(pins:List (Addr × Obj)) (s:Shared) (σ:St) (H:Hp) (x:V) (v:Value) (Q:VK),Inv X pins σ H s->RelV x v->r x H Q->
    wpAny (model X.prog X.w) X.A (f v) (EP X pins σ Q) X.xe s
def K6 (X:Cx) (f:Value) (r:List V->Hp->VK->Prop):Prop:=
  ∀(pins:List (Addr × Obj)) (s:Shared) (σ:St) (H:Hp) (xs:List V) (us:List Value) (Q:VK),Inv X pins σ H s->Vals xs us->r xs H Q->
    wpAny (model X.prog X.w) X.A (call f us) (EP X pins σ Q) X.xe s
def tOp (r:R2) (ta tb:TE):TE:=fun σ H Q=>ta σ H fun x H1=>tb σ H1 fun y H2=>r x y H2 Q
def tUn (r:V->Hp->VK->Prop) (ta:TE):TE:=fun σ H Q=>ta σ H fun x H1=>r x H1 Q
def rI (C:Int->Int->Prop) (g:Int->Int->V):R2:=fun x y H Q=>∃i j,x= .int i/\y= .int j/\C i j/\Q (g i j) H
def rI0 (g:Int->Int->V):R2:=fun x y H Q=>∃i j,x= .int i/\y= .int j/\Q (g i j) H
def rU (g:Int->V):V->Hp->VK->Prop:=fun x H Q=>∃i,x= .int i/\Q (g i) H
section
variable {X:Cx}{a b c:Expr}{ta tb tc:TE}{pos:Pos}
theorem Am6 (ha:PE X a ta) (hb:PE X b tb) {pins:List (Addr × Obj)}{s:Shared}{σ:St}{H:Hp}{R:V->V->Hp->Prop} (I:Inv X pins σ H s)
    (h:ta σ H fun x H1=>tb σ H1 fun y H2=>R x y H2) {Q:Value->Shared->Prop}{f:Value->Value->Sem Value}
    (hf:∀v u s2 x y H2,Inv X pins σ H2 s2->RelV x v->RelV y u->R x y H2->wpAny (model X.prog X.w) X.A (f v u) Q X.xe s2):
    wpAny (model X.prog X.w) X.A (eval a X.env) (fun v s₁=>wpAny (model X.prog X.w) X.A (eval b X.env) (fun u s₂=>wpAny (model X.prog X.w) X.A (f v u) Q X.xe s₂) X.xe s₁) X.xe s:=by
  refine thn (ha pins s σ H _ I h) fun v s1 ⟨x,H1,I1,r1,q1⟩=> ?_
  refine thn (hb pins s1 σ H1 _ I1 q1) fun u s2 ⟨y,H2,I2,r2,q2⟩=> ?_
  exact hf v u s2 x y H2 I2 r1 r2 q2
theorem Ai {op:Operator}{r:R2} (ho:OpR X (binaryOp op) r) (ha:PE X a ta) (hb:PE X b tb):PE X (.BinOp a op b pos) (tOp r ta tb):=by
  intro pins s σ H Q I h
  exact wpAny_BinOp (Am6 ha hb I h fun v u s2 x y H2 I2 rx ry q=>ho pins s2 σ H2 x y v u Q I2 rx ry q)
theorem Hv {op:UnaryOp}{r:V->Hp->VK->Prop} (ho:UnR X (unaryOp op) r) (ha:PE X a ta):PE X (.UnaryOp op a pos) (tUn r ta):=by
  intro pins s σ H Q I h
  exact UnaryOp_ (thn (ha pins s σ H _ I h) fun v s1 ⟨x,H1,I1,r1,q1⟩=>ho pins s1 σ H1 x v Q I1 r1 q1)
theorem opI {f:Value->Value->Sem Value}{C:Int->Int->Prop}{g:Int->Int->Int}
    (rule:∀(i j:Int) (t u:Tok) (s:Shared) (Q:Value->Shared->Prop) (E:Value->Shared->Prop),C i j->Q (.int (g i j) s.toks) { s with toks:=s.toks+1}->wpAny (model X.prog X.w) X.A (f (.int i t) (.int j u)) Q E s):
    OpR X f (rI C fun i j=> .int (g i j)):=by
  intro pins s σ H x y v u Q I rx ry h
  obtain⟨i,j,rfl,rfl,hc,q⟩:=h
  obtain⟨t,rfl⟩:=rx
  obtain⟨t',rfl⟩:=ry
  exact rule i j t t' s _ _ hc ⟨.int (g i j),H,I.tok _,⟨_,rfl⟩,q⟩
theorem Anp {f:Value->Value->Sem Value}{g:Int->Int->Int}
    (rule:∀(i j:Int) (t u:Tok) (s:Shared) (Q:Value->Shared->Prop) (E:Value->Shared->Prop),Q (.int (g i j) s.toks) { s with toks:=s.toks+1}->wpAny (model X.prog X.w) X.A (f (.int i t) (.int j u)) Q E s):
    OpR X f (rI0 fun i j=> .int (g i j)):=by
  intro pins s σ H x y v u Q I rx ry h
  obtain⟨i,j,rfl,rfl,q⟩:=h
  obtain⟨t,rfl⟩:=rx
  obtain⟨t',rfl⟩:=ry
  exact rule i j t t' s _ _ ⟨.int (g i j),H,I.tok _,⟨_,rfl⟩,q⟩
theorem Amr {f:Value->Value->Sem Value}{g:Int->Int->Bool}
    (rule:∀(i j:Int) (t u:Tok) (s:Shared) (Q:Value->Shared->Prop) (E:Value->Shared->Prop),Q (.bool (g i j)) s->wpAny (model X.prog X.w) X.A (f (.int i t) (.int j u)) Q E s):
    OpR X f (rI0 fun i j=> .bl (g i j)):=by
  intro pins s σ H x y v u Q I rx ry h
  obtain⟨i,j,rfl,rfl,q⟩:=h
  obtain⟨t,rfl⟩:=rx
  obtain⟨t',rfl⟩:=ry
  exact rule i j t t' s _ _ ⟨.bl (g i j),H,I,rfl,q⟩
def Ao4 (i j:Int):Prop:=0<=j/\j<=1000000/\i.natAbs<2^64
def Aop (i j:Int):Prop:=(-(2^64)<i/\i<2^64)\/(-(2^64)<j/\j<2^64)
theorem Aop.ok {i j:Int} (h:Aop i j):IntMulOk i j:=by
  rcases h with⟨h1,h2⟩ | ⟨h1,h2⟩
  . exact .of_left (intBits_le_64 h1 h2)
  . exact .of_right (intBits_le_64 h1 h2)
theorem Aa3 (k:Nat):(0:Int)<=2^k:=by
  rw [two_pow_cast]
  exact Int.natCast_nonneg _
theorem Cj:OpR X (binaryOp .Add) (rI0 fun i j=> .int (i+j)):=Anp fun _ _ _ _ _ _ _ q=>add_int q
theorem Gg:OpR X (binaryOp .Sub) (rI0 fun i j=> .int (i-j)):=Anp fun _ _ _ _ _ _ _ q=>sub_int q
theorem Dz:OpR X (binaryOp .Mod) (rI (fun _ j=>0<j) fun i j=> .int (i%j)):=opI fun i j _ _ _ _ _ hc q=>by
  have h1:(0:Int)<j:=hc
  exact mod_int' (by omega) (by rw [Int.fmod_eq_emod_of_nonneg i (by omega)];exact q)
theorem Ae9:OpR X (binaryOp .Pow) (rI Ao4 fun i j=> .int (i^j.toNat)):=opI fun _ _ _ _ _ _ _ hc q=>pow_int_small hc.1 hc.2.1 hc.2.2 q
theorem Aks:OpR X (binaryOp .RShift) (rI (fun _ j=>0<=j) fun i j=> .int (i/2^j.toNat)):=opI fun i j _ _ _ _ _ hc q=>
  rshift_int hc (by rw [Int.fdiv_eq_ediv_of_nonneg i (Aa3 _)];exact q)
theorem Akk:OpR X (binaryOp .BitAnd) (rI0 fun i j=> .int (Builtin.bitAnd i j)):=Anp fun _ _ _ _ _ _ _ q=>and_int q
theorem unI {f:Value->Sem Value}{g:Int->Int}
    (rule:∀(i:Int) (t:Tok) (s:Shared) (Q:Value->Shared->Prop) (E:Value->Shared->Prop),Q (.int (g i) s.toks) { s with toks:=s.toks+1}->wpAny (model X.prog X.w) X.A (f (.int i t)) Q E s):
    UnR X f (rU fun i=> .int (g i)):=by
  intro pins s σ H x v Q I rx h
  obtain⟨i,rfl,q⟩:=h
  obtain⟨t,rfl⟩:=rx
  exact rule i t s _ _ ⟨.int (g i),H,I.tok _,⟨_,rfl⟩,q⟩
theorem Gf:UnR X (unaryOp .USub) (rU fun i=> .int (-i)):=unI fun _ _ _ _ _ q=>neg_int q
end
def Ake:V->V->Bool
  | .non,.non=>true | .non,.int _=>true | .int _,.non=>true | .non,.bl _=>true | .bl _,.non=>true | .non,.str _=>true | .str _,.non=>true
  | .int _,.int _=>true | .bl _,.bl _=>true | .str _,.str _=>true | .byt _,.byt _=>true
  | .int _,.str _=>true | .str _,.int _=>true | .bl _,.str _=>true | .str _,.bl _=>true
  | _,_=>false
def rEq:R2:=fun x y H Q=>Ake x y=true/\Q (.bl (decide (x=y))) H
def rNe:R2:=fun x y H Q=>Ake x y=true/\Q (.bl (!decide (x=y))) H
theorem Ab9 {i j:Int}:decide (V.int i=V.int j)=(i==j):=by
  rw [Bool.eq_iff_iff]
  simp
theorem Ah3 {i j:Bool}:decide (V.bl i=V.bl j)=(i==j):=by
  rw [Bool.eq_iff_iff]
  simp
theorem Aci {i j:Str}:decide (V.str i=V.str j)=(i==j):=by
  rw [Bool.eq_iff_iff]
  simp
theorem Ad2 {i j:Array UInt8}:decide (V.byt i=V.byt j)=(i.toList==j.toList):=by
  rw [Bool.eq_iff_iff]
  cases i
  cases j
  simp
section
variable {X:Cx}{a b c:Expr}{ta tb tc:TE}{pos:Pos}
theorem Dq {pins:List (Addr × Obj)}{σ:St}{H:Hp}{s:Shared}{Q:VK}{k k':Bool} (I:Inv X pins σ H s) (q:Q (.bl k) H) (e:k=k'):EP X pins σ Q (.bool k') s:=by
  subst e
  exact⟨.bl k,H,I,rfl,q⟩
theorem N6:OpR X (compareOp .Eq) rEq:=by
  intro pins s σ H x y v u Q I rx ry h
  obtain⟨hs,q⟩:=h
  cases x with
  | non=>
    cases rx
    cases y with
    | non=>cases ry;exact PySem.EqNone.eq_none_none (Dq I q (by simp))
    | bl j=>cases ry;exact PySem.EqNone.eq_none_bool (Dq I q (by simp))
    | int j=>obtain⟨t',rfl⟩:=ry;exact PySem.EqNone.eq_none_int (Dq I q (by simp))
    | str j=>obtain⟨t',rfl⟩:=ry;exact PySem.EqNone.eq_none_str (Dq I q (by simp))
    | _=>exact absurd (show false=true from hs) Bool.false_ne_true
  | bl i=>
    cases rx
    cases y with
    | non=>cases ry;exact PySem.EqNone.eq_bool_none (Dq I q (by simp))
    | bl j=>cases ry;exact eq_bool (Dq I q Ah3)
    | str j=>obtain⟨t',rfl⟩:=ry;exact PySem.EqMixed.eq_bool_str (Dq I q (by simp))
    | _=>exact absurd (show false=true from hs) Bool.false_ne_true
  | int i=>
    obtain⟨t,rfl⟩:=rx
    cases y with
    | non=>cases ry;exact PySem.EqNone.eq_int_none (Dq I q (by simp))
    | int j=>obtain⟨t',rfl⟩:=ry;exact eq_int (Dq I q Ab9)
    | str j=>obtain⟨t',rfl⟩:=ry;exact PySem.EqMixed.eq_int_str (Dq I q (by simp))
    | _=>exact absurd (show false=true from hs) Bool.false_ne_true
  | str i=>
    obtain⟨t,rfl⟩:=rx
    cases y with
    | non=>cases ry;exact PySem.EqNone.eq_str_none (Dq I q (by simp))
    | bl j=>cases ry;exact PySem.EqMixed.eq_str_bool (Dq I q (by simp))
    | int j=>obtain⟨t',rfl⟩:=ry;exact PySem.EqMixed.eq_str_int (Dq I q (by simp))
    | str j=>obtain⟨t',rfl⟩:=ry;exact eq_str (Dq I q Aci)
    | _=>exact absurd (show false=true from hs) Bool.false_ne_true
  | byt i=>
    obtain⟨t,rfl⟩:=rx
    cases y with
    | byt j=>obtain⟨t',rfl⟩:=ry;exact PySem.W.eq_bytes (Dq I q Ad2)
    | _=>exact absurd (show false=true from hs) Bool.false_ne_true
  | _=>cases y<;>exact absurd (show false=true from hs) Bool.false_ne_true
theorem Q6:OpR X (compareOp .NotEq) rNe:=by
  intro pins s σ H x y v u Q I rx ry h
  obtain⟨hs,q⟩:=h
  cases x with
  | non=>
    cases rx
    cases y with
    | non=>cases ry;exact PySem.EqNone.ne_none_none (Dq I q (by simp))
    | bl j=>cases ry;exact PySem.EqNone.ne_none_bool (Dq I q (by simp))
    | int j=>obtain⟨t',rfl⟩:=ry;exact PySem.EqNone.ne_none_int (Dq I q (by simp))
    | str j=>obtain⟨t',rfl⟩:=ry;exact PySem.EqNone.ne_none_str (Dq I q (by simp))
    | _=>exact absurd (show false=true from hs) Bool.false_ne_true
  | bl i=>
    cases rx
    cases y with
    | non=>cases ry;exact PySem.EqNone.ne_bool_none (Dq I q (by simp))
    | bl j=>cases ry;exact ne_bool (Dq I q (congrArg not Ah3))
    | str j=>obtain⟨t',rfl⟩:=ry;exact PySem.EqMixed.ne_bool_str (Dq I q (by simp))
    | _=>exact absurd (show false=true from hs) Bool.false_ne_true
  | int i=>
    obtain⟨t,rfl⟩:=rx
    cases y with
    | non=>cases ry;exact PySem.EqNone.ne_int_none (Dq I q (by simp))
    | int j=>obtain⟨t',rfl⟩:=ry;exact ne_int (Dq I q (congrArg not Ab9))
    | str j=>obtain⟨t',rfl⟩:=ry;exact PySem.EqMixed.ne_int_str (Dq I q (by simp))
    | _=>exact absurd (show false=true from hs) Bool.false_ne_true
  | str i=>
    obtain⟨t,rfl⟩:=rx
    cases y with
    | non=>cases ry;exact PySem.EqNone.ne_str_none (Dq I q (by simp))
    | bl j=>cases ry;exact PySem.EqMixed.ne_str_bool (Dq I q (by simp))
    | int j=>obtain⟨t',rfl⟩:=ry;exact PySem.EqMixed.ne_str_int (Dq I q (by simp))
    | str j=>obtain⟨t',rfl⟩:=ry;exact ne_str (Dq I q (congrArg not Aci))
    | _=>exact absurd (show false=true from hs) Bool.false_ne_true
  | byt i=>
    obtain⟨t,rfl⟩:=rx
    cases y with
    | byt j=>obtain⟨t',rfl⟩:=ry;exact PySem.W.ne_bytes (Dq I q (congrArg not Ad2))
    | _=>exact absurd (show false=true from hs) Bool.false_ne_true
  | _=>cases y<;>exact absurd (show false=true from hs) Bool.false_ne_true
theorem Wf:OpR X (compareOp .Lt) (rI0 fun i j=> .bl (decide (i<j))):=Amr fun _ _ _ _ _ _ _ q=>lt_int q
theorem Alq:OpR X (compareOp .LtE) (rI0 fun i j=> .bl (decide (i<=j))):=Amr fun _ _ _ _ _ _ _ q=>le_int q
theorem R7:OpR X (compareOp .Gt) (rI0 fun i j=> .bl (decide (j<i))):=Amr fun _ _ _ _ _ _ _ q=>gt_int q
theorem Anm:OpR X (compareOp .GtE) (rI0 fun i j=> .bl (decide (j<=i))):=Amr fun _ _ _ _ _ _ _ q=>ge_int q
theorem Amb:OpR X (compareOp .Is) (fun x y H Q=>y= .non/\Q (.bl (decide (x= .non))) H):=by
  intro pins s σ H x y v u Q I rx ry h
  obtain⟨rfl,q⟩:=h
  cases ry
  refine is_none_gen (Dq I q ?_)
  cases x<;>first
    | (cases rx;rfl)
    | (obtain⟨t,rfl⟩:=rx;rfl)
theorem OpR.or {f:Value->Value->Sem Value}{r r':R2} (h:OpR X f r) (h':OpR X f r'):OpR X f (fun x y H Q=>r x y H Q\/r' x y H Q):=by
  intro pins s σ H x y v u Q I rx ry q
  rcases q with q | q
  . exact h pins s σ H x y v u Q I rx ry q
  . exact h' pins s σ H x y v u Q I rx ry q
theorem Ar (b:Expr) {op:CmpOp} (h:op≠ .In:=by decide) (h2:op≠ .NotIn:=by decide):behindInMarks op b=false:=by
  have e1:(op==CmpOp.In)=false:=by cases op<;>first | rfl | exact absurd rfl h
  have e2:(op==CmpOp.NotIn)=false:=by cases op<;>first | rfl | exact absurd rfl h2
  cases b<;>simp [behindInMarks,e1,e2]
theorem Gz {op:CmpOp}{r:R2} (ho:OpR X (compareOp op) r) (ha:PE X a ta) (hb:PE X b tb) (hm:behindInMarks op b=false):PE X (.Compare a [op] [b] pos) (tOp r ta tb):=by
  intro pins s σ H Q I h
  exact wpAny_Compare1 (Am6 ha hb I h fun v u s2 x y H2 I2 rx ry q=>ho pins s2 σ H2 x y v u Q I2 rx ry q) hm
def Akc (t:TE):TT:=fun σ H Q=>t σ H fun x H'=>∃k,x= .bl k/\Q k H'
theorem Al {op:CmpOp}{r:R2} (ho:OpR X (compareOp op) r) (ha:PE X a ta) (hb:PE X b tb) (hm:behindInMarks op b=false):PT X (.Compare a [op] [b] pos) (Akc (tOp r ta tb)):=by
  intro pins s σ H Q I h
  refine wpAny_isTrue_Compare1 (thn (ha pins s σ H _ I h) fun v s1 ⟨x,H1,I1,r1,q1⟩=>thn (hb pins s1 σ H1 _ I1 q1) fun u s2 ⟨y,H2,I2,r2,q2⟩=>
    thn (ho pins s2 σ H2 x y v u _ I2 r1 r2 q2) fun c s3 ⟨z,H3,I3,r3,k,e,q3⟩=> ?_) hm
  subst e
  cases r3
  exact wpAny_truthy_bool ⟨H3,I3,q3⟩
def Ak6 (r r':R2) (ta tb tc:TE):TE:=fun σ H Q=>ta σ H fun x H1=>tb σ H1 fun y H2=>r x y H2 fun z H3=>∃k,z= .bl k/\
  (if k=true then tc σ H3 fun w' H4=>r' y w' H4 Q else Q (.bl false) H3)
theorem Ve:(sizeLine:Nat)<2^63:=by rw [sizeLine_eq];decide
theorem Q0:OpR X (binaryOp .Add) (fun x y H Q=>∃i j,x= .str i/\y= .str j/\i.length+j.length<=sizeLine/\Q (.str (i++j)) H):=by
  intro pins s σ H x y v u Q I rx ry h
  obtain⟨i,j,rfl,rfl,hz,q⟩:=h
  obtain⟨t,rfl⟩:=rx
  obtain⟨t',rfl⟩:=ry
  exact add_str (fun t' tk=>⟨.str (i++j),H,I.tok _,⟨_,rfl⟩,q⟩) hz
theorem vals1 {x:V}{us:List Value} (r:Vals [x] us):∃u,us=[u]/\RelV x u:=by
  cases r with
  | cons r1 r2=>cases r2;exact⟨_,rfl,r1⟩
theorem vals2 {x y:V}{us:List Value} (r:Vals [x,y] us):∃u w',us=[u,w']/\RelV x u/\RelV y w':=by
  cases r with
  | cons r1 r2=>
    cases r2 with
    | cons r3 r4=>cases r4;exact⟨_,_,rfl,r1,r3⟩
theorem Vr:K6 X (.builtin "abs") (fun xs H Q=>∃i,xs=[.int i]/\Q (.int (if i<0 then-i else i)) H):=by
  intro pins s σ H xs us Q I r h
  obtain⟨i,rfl,q⟩:=h
  obtain⟨u,rfl,t,rfl⟩:=vals1 r
  exact call_abs_int fun u tk=>⟨.int (if i<0 then-i else i),H,I.tok _,⟨_,rfl⟩,q⟩
theorem Xj (hc:X.calm=true):K6 X (.builtin "max") (fun xs H Q=>∃i j,xs=[.int i,.int j]/\Q (.int (if j>i then j else i)) H):=by
  intro pins s σ H xs us Q I r h
  obtain⟨i,j,rfl,q⟩:=h
  obtain⟨u,w',rfl,⟨t,rfl⟩,⟨t',rfl⟩⟩:=vals2 r
  refine max_two_ints (I.ok.hd hc) fun h' tk k=>⟨_,H,I.kept k,?_,q⟩
  by_cases hj:j>i
  . rw [if_pos hj,if_pos hj];exact⟨_,rfl⟩
  . rw [if_neg hj,if_neg hj];exact⟨_,rfl⟩
theorem Adl:K6 X (.type "int") (fun xs H Q=>(∃i,xs=[.int i]/\Q (.int i) H)\/∃k,xs=[.bl k]/\Q (.int (if k then 1 else 0)) H):=by
  intro pins s σ H xs us Q I r h
  rcases h with⟨i,rfl,q⟩ | ⟨k,rfl,q⟩
  . obtain⟨u,rfl,t,rfl⟩:=vals1 r
    exact call_int_int ⟨.int i,H,I,⟨_,rfl⟩,q⟩
  . obtain⟨u,rfl,r1⟩:=vals1 r
    cases r1
    exact call_int_bool ⟨.int (if k then 1 else 0),H,I.tok _,⟨_,rfl⟩,q⟩
end
end L2
namespace L2
open PySem PySem.Spec PyProof.Rows
structure Amy (h:Heap) (x dx C:Addr) (mA:Str->Option Value):Prop where
  obj:h.get? x=some (PySem.W.instObj C dx)
  ns:h.Ns1 dx mA
  ne:dx≠x
theorem Ade {h:Heap}{dx:Addr}{mA:Str->Option Value} (n:h.Ns1 dx mA):∃od,h.get? dx=some od/\∀name,PySem.W.lookIn name od=some (mA name):=by
  obtain⟨o,es,ep,ho,hd,hk,_,hm⟩:=n
  refine⟨o,ho,fun name=> ?_⟩
  have e:=hm name
  unfold nsFind findBy at e
  rw [<-Array.find?_toList]at e
  unfold PySem.W.lookIn
  rw [hd]
  dsimp only
  split
  . rename_i y q
    rw [q]at e
    exact congrArg some e
  . rename_i q
    rw [q]at e
    have a:es.toList.any (·.refKey)=false:=by
      rw [List.any_eq_false]
      intro y hy
      obtain⟨z,t,hkey⟩:=hk y (Array.mem_toList_iff.mp hy)
      simp [DictEntry.refKey,hkey]
    have a':¬es.toList.any (·.refKey)=true:=by rw [a];exact Bool.false_ne_true
    rw [if_neg a']
    exact congrArg some e
theorem Amy.look {h:Heap}{x dx C:Addr}{mA:Str->Option Value} (I:Amy h x dx C mA):∃od,PySem.W.InstAt h x (PySem.W.instObj C dx) C (some od)/\∀name,PySem.W.lookIn name od=some (mA name):=
  let ⟨od,ho,hl⟩:=Ade I.ns
  ⟨od,⟨I.obj,rfl,rfl,ho⟩,hl⟩
section
variable {P:Program}{w:World}{H H':Hp}{h h':Heap}{a C dx:Addr}{fs fs':List (Str × V)}
theorem Ai1 (hok:HOk P w H h) (e:H a=some (.ins C dx fs)):∃mA,Amy h a dx C mA/\(∀f,Afp (fs.lookup f) (mA f))/\PySem.Within mA (fs.map (·.1))/\fs.length<=1000/\H dx=some (.own a):=by
  obtain⟨d,z,ne,ob,mA,n,r,q⟩:=(show Ke P w H h a (.ins C dx fs)from hok a _ e)
  exact⟨mA,⟨ob,n,ne⟩,r,q,z,d⟩
end
structure Cls (K:PySem.W.Frag) (C:Addr):Prop where
  pg:PySem.W.plainGet K C Str.empty=true
  hd:PySem.W.hasDictIn K C=true
  po:PySem.W.plainOver K C=true
  sa:PySem.W.findIn K (.ref C) "__setattr__"=some (some (.builtin "object.__setattr__"))
theorem Cls.get {K:PySem.W.Frag}{C:Addr} (c:Cls K C) (f:Str):PySem.W.plainGet K C f=true:=c.pg
structure Con (K:PySem.W.Frag) (C:Addr) (f:Str) (v:V) (u:Value):Prop where
  at_:PySem.W.findIn K (.ref C) f=some (some u)
  rel:RelV v u
  get:PySem.W.specialIn K u "__get__"=some none
  cp:PySem.W.copiedNames.contains f=false
structure Meth (K:PySem.W.Frag) (C:Addr) (m:Str) (f:Addr):Prop where
  at_:PySem.W.findIn K (.ref C) m=some (some (.ref f))
  fn:PySem.W.isFn K (.ref f)=true
  kp:PySem.W.keepIn K (.ref f)=true
section
variable {X:Cx}{pins:List (Addr × Obj)}{σ:St}{H:Hp}{s:Shared}{A:Around}{E:Value->Shared->Prop}{Q:Value->Shared->Prop}{c:Value}{b:Bool}
inductive Yr (K:PySem.W.Frag) (H:Hp):V->Value->Prop where
  | non:Yr K H .non (.type "NoneType")
  | bl (x:Bool):Yr K H (.bl x) (.type "bool")
  | int (i:Int):Yr K H (.int i) (.type "int")
  | str (x:Str):Yr K H (.str x) (.type "str")
  | flt (x:UInt64):Yr K H (.flt x) (.type "float")
  | lst {a:Addr}{xs:List V} (e:H a=some (.lst xs)):Yr K H (.ref a) (.type "list")
  | frz {a:Addr}{o:Obj}{xs:List V} (e:H a=some (.frz o (.lst xs))):Yr K H (.ref a) (.type "list")
  | tup {a:Addr}{xs:List V} (e:H a=some (.tup xs)):Yr K H (.ref a) (.type "tuple")
  | dK {a:Addr}{kvs:List (Key × V)} (e:H a=some (.dK kvs)):Yr K H (.ref a) (.type "dict")
  | dT {a:Addr}{kvs:List (List Key × V)} (e:H a=some (.dT kvs)):Yr K H (.ref a) (.type "dict")
  | ins {a C dx:Addr}{fs:List (Str × V)} (e:H a=some (.ins C dx fs)) (cl:Cls K C) (ha:PySem.W.findIn K (.ref C) "__class__"=some (some (.builtin "object.__class__")))
      (hn:PySem.W.specialIn K (.builtin "object.__class__") "__get__"=some (some (.builtin "getset_descriptor.__get__"))) (htk:PySem.W.takesIn K (.builtin "object.__class__")=some true)
      (hm:PySem.W.mroIn K C (.type "object")=some true):Yr K H (.ref a) (.ref C)
theorem Acg {x:V}{u t:Value} (I:Inv X pins σ H s) (rx:RelV x u) (ty:Yr X.K H x t) (e:PySem.W.kitOne X.K t c=some b) (h:∀tk,Q (.bool b) { s with toks:=tk}):
    wpAny (model X.prog X.w) A (call (.builtin "isinstance") [u,c]) Q E s:=by
  cases ty with
  | non=>cases(show u=Value.none from rx);exact PySem.W.kia_one PySem.W.kitx_none I.kIn True.intro e (fun z=>nomatch z) h
  | bl y=>cases(show u=Value.bool y from rx);exact PySem.W.kia_one PySem.W.kitx_bool I.kIn True.intro e (fun z=>nomatch z) h
  | int i=>obtain⟨t,q⟩:=(show ∃t,u=Value.int i t from rx);cases q;exact PySem.W.kia_one PySem.W.kitx_int I.kIn True.intro e (fun z=>nomatch z) h
  | str y=>obtain⟨t,q⟩:=(show ∃t,u=Value.str y t from rx);cases q;exact PySem.W.kia_one PySem.W.kitx_str I.kIn True.intro e (fun z=>nomatch z) h
  | flt y=>obtain⟨t,q⟩:=(show ∃t,u=Value.float y t from rx);cases q;exact PySem.W.kia_one PySem.W.kitx_float I.kIn True.intro e (fun z=>nomatch z) h
  | @lst a xs ea=>
    cases(show u=Value.ref a from rx)
    obtain⟨_,_,n,_,h1⟩:=(show Ke X.prog X.w H s.heap a (.lst xs)from I.hok a _ ea)
    exact PySem.W.kia_one PySem.W.kitx_list I.kIn ⟨_,h1,rfl⟩ e (fun z=>nomatch z) h
  | @frz a ob xs ea=>
    cases(show u=Value.ref a from rx)
    obtain⟨_,_,_,n,_,h1⟩:=(show Ke X.prog X.w H s.heap a (.frz ob (.lst xs))from I.hok a _ ea)
    exact PySem.W.kia_one PySem.W.kitx_list I.kIn ⟨_,h1,rfl⟩ e (fun z=>nomatch z) h
  | @tup a xs ea=>
    cases(show u=Value.ref a from rx)
    obtain⟨_,_,_,p⟩:=(show Ke X.prog X.w H s.heap a (.tup xs)from I.hok a _ ea)
    obtain⟨o,h1,h2,_⟩:=p
    exact PySem.W.kia_one PySem.W.kitx_tuple I.kIn ⟨o,h1,h2⟩ e (fun z=>nomatch z) h
  | @dK a kvs ea=>
    cases(show u=Value.ref a from rx)
    obtain⟨_,_,vs,_,p⟩:=(show Ke X.prog X.w H s.heap a (.dK kvs)from I.hok a _ ea)
    obtain⟨o,es,ep,h1,h2,_⟩:=p
    exact PySem.W.kia_one PySem.W.kitx_dict I.kIn ⟨o,h1,h2.1⟩ e (fun z=>nomatch z) h
  | @dT a kvs ea=>
    cases(show u=Value.ref a from rx)
    obtain⟨_,_,xs,_,o,es,ep,h1,h2,_⟩:=(show Ke X.prog X.w H s.heap a (.dT kvs)from I.hok a _ ea)
    exact PySem.W.kia_one PySem.W.kitx_dict I.kIn ⟨o,h1,h2.1⟩ e (fun z=>nomatch z) h
  | @ins a C dx fs ea cl ha hn htk hm=>
    cases(show u=Value.ref a from rx)
    obtain⟨mA,O,_⟩:=Ai1 I.hok ea
    obtain⟨od,J,_⟩:=O.look
    exact PySem.W.kia_one (PySem.W.kitx_own (cl.get _) cl.hd ha hn htk hm) I.kIn J e (fun z=>nomatch z) h
end
end L2
namespace L2
open PySem PySem.Spec PyProof.Rows
structure Mg (k:Nat) (A:Around):Prop where
  hd:A.handled=none
  dp:A.depth+3*k+5<recursionLimit
  un:A.units+16*k+200<cLine
theorem Mg.mono {j k:Nat}{A:Around} (r:Mg k A) (h:j<=k):Mg j A:=⟨r.hd,by have:=r.dp;omega,by have:=r.un;omega⟩
theorem Mg.deeper {k:Nat}{A:Around} (r:Mg (k+1) A) (env:Env):Mg k (A.deeper env):=
  ⟨r.hd,by have:=r.dp;show A.depth+1+3*k+5<_;omega,by have:=r.un;show A.units+3+16*k+200<_;omega⟩
theorem Mg.in1 {k:Nat}{A:Around} (r:Mg (k+1) A):Mg k A.in1:=
  ⟨r.hd,by have:=r.dp;show A.depth+3*k+5<_;omega,by have:=r.un;show A.units+1+16*k+200<_;omega⟩
theorem Mg.depth {k:Nat}{A:Around} (r:Mg k A):A.depth<recursionLimit:=by have:=r.dp;omega
theorem Mg.units {k:Nat}{A:Around} (r:Mg k A):A.units+64<cLine:=by have:=r.un;omega
def Akh:TA:=fun _ H Q=>Q [] H
def Af5 (ta:TE) (tr:TA):TA:=fun σ H Q=>ta σ H fun x H1=>tr σ H1 fun xs H2=>Q (x::xs) H2
section
variable {X:Cx}{e:Expr}{es:List Expr}{te:TE}{t:TA}{pos:Pos}
theorem Ab:PA X [] Akh:=fun _ _ _ _ H Q I h=>Calls.spliced_nil ⟨[],H,I,.nil,h⟩
theorem Ajl (ha:PE X e te) (hr:PA X es t) (hs:starEach (e::es) X.env=(false,eval e X.env)::starEach es X.env:=by rfl):PA X (e::es) (Af5 te t):=by
  intro pos pins s σ H Q I h
  rw [hs]
  show wpAny _ _ (spliced ((false,eval e X.env)::backTo pos (starEach es X.env))) _ _ s
  refine Calls.spliced_cons (thn (ha pins s σ H _ I h) fun u s1 ⟨x,H1,I1,r1,q1⟩=> ?_)
  exact thn (hr pos pins s1 σ H1 _ I1 q1) fun us s2 ⟨xs,H2,I2,r2,q2⟩=>⟨x::xs,H2,I2,.cons r1 r2,q2⟩
def Amz (t:TA):TE:=fun σ H Q=>t σ H fun xs H1=>xs.length<=sizeLine/\∀p,H1 p=none->Q (.ref p) (upd H1 p (.tup xs))
def Am2 (t:TA):TE:=fun σ H Q=>t σ H fun xs H1=>xs.length<=sizeLine/\∀p,H1 p=none->Q (.ref p) (upd H1 p (.lst xs))
theorem Bq {x1} (h:PA X es t):PE X (.Tuple es x1 pos) (Amz t):=by
  intro pins s σ H Q I hq
  refine wpAny_Tuple_spliced (thn (h pos pins s σ H _ I hq) fun us s1 ⟨xs,H1,I1,r,z,q⟩=>⟨by rw [<-r.length];exact z,?_⟩)
  have hf:H1 s1.heap.objs.size=none:=I1.hok.fresh (Nat.le_refl _)
  refine⟨.ref s1.heap.objs.size,upd H1 s1.heap.objs.size (.tup xs),I1.laid (t':=s1.toks) (fun b u e=>Heap.get?_push_of_some _ e) (Nat.le_refl _) ?_,rfl,q _ hf⟩
  exact⟨z,us,r,⟨_,Heap.get?_push_size _ rfl,rfl,_,rfl⟩⟩
theorem Ka (h:PA X es t):PE X (.List es pos) (Am2 t):=by
  intro pins s σ H Q I hq
  refine wpAny_List_spliced (thn (h pos pins s σ H _ I hq) fun us s1 ⟨xs,H1,I1,r,z,q⟩=>⟨by rw [<-r.length];exact z,?_⟩)
  have hf:H1 s1.heap.objs.size=none:=I1.hok.fresh (Nat.le_refl _)
  refine⟨.ref s1.heap.objs.size,upd H1 s1.heap.objs.size (.lst xs),I1.laid (t':=s1.toks) (fun b u e=>Heap.get?_push_of_some _ e) (Nat.le_refl _) ?_,rfl,q _ hf⟩
  exact⟨z,us,0,r,Heap.get?_push_size _ rfl⟩
end
abbrev Sp:=List V->Hp->VK->XK->Prop
abbrev CXT:=List Env->Hp->Shared->XK->Value->Shared->Prop
structure Aip (P:Program) (w:World) (K:PySem.W.Frag) (mg:Str->Option Value) (base:Heap) (A:Around) (outer:List Env) (s:Shared) (H:Hp):Prop where
  frames:A.frames=some outer
  mod:Mod K mg base
  bs:∀b o,base.get? b=some o->s.heap.get? b=some o/\H b=none
  bsz:base.objs.size<=s.heap.objs.size
  funs:s.heap.FunFrames base outer
  frf:∀b∈frs outer,H b=none
  hok:HOk P w H s.heap
  bare:AllBare s.gens
def CE (outer:List Env) (P:Program) (w:World) (H:Hp) (s:Shared) (Q:VK) (u:Value) (s':Shared):Prop:=
  ∃v H',s'.os=s.os/\AllBare s'.gens/\Un (frs outer) [] H H' s.heap s'.heap/\HOk P w H' s'.heap/\RelV v u/\Q v H'
def CR (CX:CXT) (outer:List Env) (P:Program) (w:World) (H:Hp) (s:Shared) (Q:VK) (E:XK) (r:Result) (s':Shared):Prop:=
  match r with
  | .ok (.ret u)=>CE outer P w H s Q u s'
  | .ok _=>False
  | .error e=>CX outer H s E e s'
structure Uw (P:Program) (w:World) (K:PySem.W.Frag) (mg:Str->Option Value) (base:Heap) (CX:CXT) (k:Nat) (f:Addr) (fd:FuncData) (ps:List Str) (sp:Sp):Prop where
  len:∀vs H Q E,sp vs H Q E->vs.length=ps.length
  run:∀(A:Around) (outer:List Env) (s:Shared) (H:Hp) (args:Args) (us:List Value) (vs:List V) (Q:VK) (E:XK),Mg k A->Aip P w K mg base A outer s H->BindsTo s fd args (ps.zip us)->Vals vs us->sp vs H Q E->
    codeAny (model P w) A (.call (.ref f) args) (CR CX outer P w H s Q E) s
theorem Uw.mono {P:Program}{w:World}{K:PySem.W.Frag}{mg:Str->Option Value}{base:Heap}{CX:CXT}{j k:Nat}{f:Addr}{fd:FuncData}{ps:List Str}{sp:Sp} (F:Uw P w K mg base CX j f fd ps sp) (h:j<=k):
    Uw P w K mg base CX k f fd ps sp:=⟨F.len,fun A outer s H args us vs Q E hr=>F.run A outer s H args us vs Q E (hr.mono h)⟩
theorem Aip.in1 {P:Program}{w:World}{K:PySem.W.Frag}{mg:Str->Option Value}{base:Heap}{A:Around}{outer:List Env}{s:Shared}{H:Hp} (e:Aip P w K mg base A outer s H):
    Aip P w K mg base A.in1 outer s H:=⟨e.frames,e.mod,e.bs,e.bsz,e.funs,e.frf,e.hok,e.bare⟩
section
variable {X:Cx}{pins:List (Addr × Obj)}{σ:St}{H:Hp}{s s':Shared}
theorem Inv.env0 (I:Inv X pins σ H s):Aip X.prog X.w X.K X.mg X.base X.A X.stack s H:=
  ⟨I.ok.frames,I.ok.mod,I.bs,Nat.le_trans I.ok.bsz I.sz,I.stack,I.stkFree,I.hok,I.bare⟩
theorem Inv.after {Q:VK}{u:Value} (I:Inv X pins σ H s) (h:CE X.stack X.prog X.w H s Q u s'):EP X pins σ Q u s':=by
  obtain⟨v,H',os,bare,un,hok,r,q⟩:=h
  obtain⟨hh,g,d,t,os'⟩:=s'
  obtain rfl:os'=s.os:=os
  exact⟨v,H',I.call (h':=hh) (g':=g) (d':=d) (t':=t) (ch:=[]) un hok bare (fun b z=>absurd z (by simp)),r,q⟩
end
def U0 (sp:Sp) (dvs:List V) (E:XK) (t:TA):TE:=fun σ H Q=>t σ H fun vs H1=>sp (vs++dvs) H1 Q E
def Binds (K:PySem.W.Frag) (fd:FuncData) (ps:List Str) (ds:List Value):Prop:=
  ∀(s:Shared) (us:List Value),K.In s.heap->(us++ds).length=ps.length->BindsTo s fd ⟨us,[]⟩ (ps.zip (us++ds))
theorem Binds.all {K:PySem.W.Frag}{fd:FuncData}{ps:List Str} (h:∀us:List Value,us.length=ps.length->bindArgs fd ⟨us,[]⟩=pure (ps.zip us)):Binds K fd ps []:=fun s us _ hl=>by
  rw [List.append_nil]at hl ⊢
  exact .of_eq (h us hl)
def Passes (CX:CXT) (X:Cx) (E:XK):Prop:=∀(pins:List (Addr × Obj)) (σ:St) (H:Hp) (s:Shared) (e:Value) (s':Shared),Inv X pins σ H s->CX X.stack H s E e s'->X.xe e s'
section
variable {X:Cx}{CX:CXT}{k:Nat}{f C:Addr}{fd:FuncData}{ps:List Str}{sp:Sp}{dvs:List V}{ds:List Value}{E:XK}{x m:Str}{p pos apos:Pos}{e o:Expr}{es:List Expr}{ta:TE}{t:TA}
theorem Ae0 {pins:List (Addr × Obj)}{σ:St}{H:Hp}{s:Shared}{Q:VK}{us:List Value}{vs:List V} (F:Uw X.prog X.w X.K X.mg X.base CX k f fd ps sp) (hr:Mg k X.A) (hb:Binds X.K fd ps ds) (hd:Vals dvs ds) (hx:Passes CX X E)
    (I:Inv X pins σ H s) (r:Vals vs us) (h:sp (vs++dvs) H Q E):wpAny (model X.prog X.w) X.A (call (.ref f) us) (EP X pins σ Q) X.xe s:=by
  have r2:Vals (vs++dvs) (us++ds):=r.append hd
  have hl:(us++ds).length=ps.length:=by rw [<-r2.length];exact F.len _ _ _ _ h
  refine wpAny_call (codeAny_mono (F.run X.A X.stack s H ⟨us,[]⟩ (us++ds) (vs++dvs) Q E hr I.env0 (hb s us I.kIn hl) r2 h) fun r s' hq=> ?_)
  cases r with
  | error e=>exact hx pins σ H s e s' I hq
  | ok fl=>
    cases fl with
    | ret u=>exact I.after hq
    | next=>exact False.elim hq
    | brk=>exact False.elim hq
    | cont=>exact False.elim hq
theorem Aev (F:Uw X.prog X.w X.K X.mg X.base CX k f fd ps sp) (hr:Mg k X.A) (hg:Gl X x) (hm:X.mg x=some (.ref f)) (hk:PySem.W.keepIn X.K (.ref f)=true) (hb:Binds X.K fd ps ds) (hd:Vals dvs ds) (hx:Passes CX X E)
    (ha:PA X (e::es) t) (hdb:(x==("__debug__":Str))=false:=by decide) (he:starEach (e::es) X.env=(false,eval e X.env)::starEach es X.env:=by rfl) (hpl:(backTo pos (starEach es X.env)).any (·.1)=false:=by rfl):
    PE X (.Call (.Name x p) (e::es) [] pos) (U0 sp dvs E t):=by
  intro pins s σ H Q I h
  refine wpAny_Call_Name_kw (Rb I hg hm ?_ hdb)
  refine PySem.W.callWith_K (h₀:=X.base) I.ok.mod.kin hk (thn (ha pos pins s σ H _ I h) fun us s1 ⟨vs,H1,I1,r,q⟩=>⟨I1.kIn,?_⟩) he hpl
  exact Ae0 F hr hb hd hx I1 r q
theorem Af4 (F:Uw X.prog X.w X.K X.mg X.base CX k f fd ps sp) (hr:Mg k X.A) (hg:Gl X x) (hm:X.mg x=some (.ref f)) (hk:PySem.W.keepIn X.K (.ref f)=true) (hb:Binds X.K fd ps ds) (hd:Vals dvs ds) (hx:Passes CX X E)
    (hdb:(x==("__debug__":Str))=false:=by decide):PE X (.Call (.Name x p) [] [] pos) (U0 sp dvs E Akh):=by
  intro pins s σ H Q I h
  refine wpAny_Call_Name_kw (Rb I hg hm ?_ hdb)
  exact PySem.W.callWith_K0 I.kIn hk (Ae0 (us:=[]) F hr hb hd hx I .nil h)
structure Mk (K:PySem.W.Frag) (C f:Addr):Prop where
  makes:PySem.W.makesIn K C=true
  init:PySem.W.findIn K (.ref C) "__init__"=some (some (.ref f))
  fn:PySem.W.isFn K (.ref f)=true
  kp:PySem.W.keepIn K (.ref C)=true
end
section
variable {X:Cx}{CX:CXT}{k:Nat}{f C:Addr}{fd:FuncData}{ps ks:List Str}{sp:Sp}{E:XK}{x m:Str}{p pos apos kpos:Pos}{e o:Expr}{es:List Expr}{kws:List Keyword}{te ta:TE}{t tk:TA}{nm:Option Str}
structure Aoi (K:PySem.W.Frag) (fd:FuncData) (ps ks:List Str) (g:List Value->List Value->List Value) (gV:List V->List V->List V):Prop where
  to:∀(s:Shared) (us ws:List Value),K.In s.heap->(g us ws).length=ps.length->BindsTo s fd ⟨us,ks.zip ws⟩ (ps.zip (g us ws))
  rel:∀ {vs:List V}{us:List Value}{zs:List V}{ws:List Value},Vals vs us->Vals zs ws->Vals (gV vs zs) (g us ws)
variable {g:List Value->List Value->List Value}{gV:List V->List V->List V}
end
structure Aq (N P:List Str) (sc:Scope):Prop where
  kind:sc.kind= .function
  co:sc.isCoroutine=false
  gen:sc.isGenerator=false
  nd:N.Nodup
  pre:N.take P.length=P
  par:∀x∈P,sc.names.lookup x=some .local \/sc.names.lookup x=some .cell
  nofree:∀y∈sc.names,y.2≠ .free
theorem X3 {kindOf:Str->Option NameKind}{x:Str}:∀ {binds:List (Str × Value)}{m:Str->Option Value},(∀v,(x,v)∉binds)->bindL kindOf binds m x=m x
  | [],_,_=>rfl
  | (n,v)::r,m,h=>by
    unfold bindL
    rw [X3 fun w hw=>h w (List.mem_cons_of_mem _ hw)]
    split
    . have:x≠n:=by rintro rfl;exact h v List.mem_cons_self
      simp [this]
    . rfl
theorem Xu {kindOf:Str->Option NameKind}{x:Str}:∀ {binds:List (Str × Value)}{m:Str->Option Value},(∀v,(x,v)∉binds)->bindC kindOf binds m x=m x
  | [],_,_=>rfl
  | (n,v)::r,m,h=>by
    unfold bindC
    rw [Xu fun w hw=>h w (List.mem_cons_of_mem _ hw)]
    split
    . rfl
    . have:x≠n:=by rintro rfl;exact h v List.mem_cons_self
      simp [this]
theorem Xx {kindOf:Str->Option NameKind}{x:Str}{v:Value}:∀ {P:List Str}{vs:List Value}{i:Nat}{m:Str->Option Value},P.Nodup->P[i]? =some x->vs[i]? =some v->kindOf x=some .local ->
    bindL kindOf (P.zip vs) m x=some v
  | [],_,_,_,_,h,_,_=>by simp at h
  | _::_,[],_,_,_,_,h,_=>by simp at h
  | p::P,w::vs,0,m,nd,h1,h2,hk=>by
    simp at h1 h2;subst h1;subst h2
    show bindL kindOf ((p,w)::P.zip vs) m p=_
    unfold bindL
    rw [X3 fun v hv=>(List.nodup_cons.mp nd).1 (List.of_mem_zip hv).1,if_pos hk]
    simp
  | p::P,w::vs,i+1,m,nd,h1,h2,hk=>by
    show bindL kindOf ((p,w)::P.zip vs) m x=_
    unfold bindL
    exact Xx (i:=i) (List.nodup_cons.mp nd).2 (by simpa using h1) (by simpa using h2) hk
theorem Xe {kindOf:Str->Option NameKind}{x:Str}{v:Value}:∀ {P:List Str}{vs:List Value}{i:Nat}{m:Str->Option Value},P.Nodup->P[i]? =some x->vs[i]? =some v->kindOf x≠some .local ->
    bindC kindOf (P.zip vs) m x=some v
  | [],_,_,_,_,h,_,_=>by simp at h
  | _::_,[],_,_,_,_,h,_=>by simp at h
  | p::P,w::vs,0,m,nd,h1,h2,hk=>by
    simp at h1 h2;subst h1;subst h2
    show bindC kindOf ((p,w)::P.zip vs) m p=_
    unfold bindC
    rw [Xu fun v hv=>(List.nodup_cons.mp nd).1 (List.of_mem_zip hv).1,if_neg hk]
    simp
  | p::P,w::vs,i+1,m,nd,h1,h2,hk=>by
    show bindC kindOf ((p,w)::P.zip vs) m x=_
    unfold bindC
    exact Xe (i:=i) (List.nodup_cons.mp nd).2 (by simpa using h1) (by simpa using h2) hk
def start (N:List Str) (vs:List V):St:=vs.map some++List.replicate (N.length-vs.length) none
def Tf (CX:CXT) (P:Program) (w:World) (K:PySem.W.Frag) (mg:Str->Option Value) (base:Heap) (N:List Str) (qual:Str) (scope:Scope) (f:Addr) (cd:Value) (A:Around) (outer:List Env) (s:Shared) (H:Hp) (E:XK):Cx where
  prog:=P
  w:=w
  K:=K
  mg:=mg
  base:=base
  A:=A.deeper (envOfC qual scope s.heap.objs.size f cd)
  N:=N
  s₀:=s
  H₀:=H
  env:=envOfC qual scope s.heap.objs.size f cd
  outer:=outer
  stack:=envOfC qual scope s.heap.objs.size f cd::outer
  ex:=[]
  calm:=true
  fn:=fun _=>true
  pn:=[]
  xe:=fun e s'=>wpAny (model P w) (A.deeper (envOfC qual scope s.heap.objs.size f cd)) (leaving (envOfC qual scope s.heap.objs.size f cd) e) (fun _ s''=>CX outer H s E e s'') (fun e' s''=>CX outer H s E e' s'') s'
theorem Aaa {sc:Scope}{n:Nat}{x:Str} (h:sc.names.lookup x=some .cell):∃c,(cellsFrom n sc.names []).lookup x=some c:=by
  have q:=PySem.W.cellsFrom_some sc.names n [] (.inl h)
  exact Option.isSome_iff_exists.mp q
theorem Adp {CX:CXT}{P:Program}{w:World}{K:PySem.W.Frag}{mg:Str->Option Value}{base:Heap}{N ps:List Str}{qual:Str}{scope:Scope}{f:Addr}{cd:Value}{A:Around}{outer:List Env}{s s1:Shared}{H:Hp}{E:XK}{us:List Value}{vs:List V}
    (S:Aq N ps scope) (hd:A.handled=none) (e0:Aip P w K mg base A outer s H) (hl:vs.length=ps.length) (r:Vals vs us)
    (x:InCallC s s.heap.objs.size (bindL (envOfC qual scope s.heap.objs.size f cd).kindOf (ps.zip us) fun _=>none) (cellsFrom (s.heap.objs.size+1) scope.names []) (bindC (envOfC qual scope s.heap.objs.size f cd).kindOf (ps.zip us) fun _=>none) s1):
    Inv (Tf CX P w K mg base N qual scope f cd A outer s H E) [] (start N vs) H s1:=by
  have hpl:ps.length<=N.length:=by have:=congrArg List.length S.pre;rw [List.length_take]at this;omega
  obtain⟨h1,tk,rfl,hk⟩:=x.done
  have noA:∀b:Addr,b∉(Tf CX P w K mg base N qual scope f cd A outer s H E).ex:=fun b z=>absurd (show b∈([]:List Addr)from z) (by simp)
  refine⟨⟨e0.mod,S.kind,rfl,rfl,Nat.le_refl _,fun y z c h1 h2=> ?_,fun y hy=> ?_,fun y c _ h=> ?_,fun _=>hd,Around.frames_deeper e0.frames,.inr ⟨rfl,rfl⟩,fun b z=>absurd z (noA b),e0.bs,e0.bsz,fun b _ _=>noA b,fun b z=>absurd z (noA b),e0.funs,e0.frf⟩,
    rfl,e0.bare,Un.kept hk,⟨_,x.toInCall.ns,fun i y v h1 h2 h3=> ?_⟩,fun y c h=>⟨_,x.cell y c h⟩,e0.hok.fresh (Nat.le_refl _),fun y c h=> ?_,fun p hp=>absurd (show p∈([]:List (Addr × Obj))from hp) (by simp),e0.hok.kept hk,?_⟩
  . exact name_of_addr x.apart (PySem.mem_of_lookup h1) (PySem.mem_of_lookup h2)
  . have hy:scope.names.lookup y=some .cell\/scope.names.lookup y=some .free:=hy
    rcases hy with hy | hy
    . exact Aaa hy
    . exact absurd rfl (S.nofree _ (PySem.mem_of_lookup hy))
  . exact Nat.le_of_lt (x.above y c (PySem.mem_of_lookup h))
  . have hi:i<vs.length:=by
      unfold start at h2
      by_cases hi:i<vs.length
      . exact hi
      . rw [List.getElem?_append_right (by simpa using hi)]at h2
        rw [List.getElem?_replicate]at h2
        split at h2<;>cases h2
    have ha:vs[i]? =some v:=by
      unfold start at h2
      rw [List.getElem?_append_left (by simpa using hi),List.getElem?_map]at h2
      cases e:vs[i]? with
      | none=>rw [e]at h2;cases h2
      | some a=>rw [e]at h2;cases h2;rfl
    obtain⟨u,hu,rv⟩:=r.get ha
    have hp:ps[i]? =some y:=by
      rw [<-S.pre,List.getElem?_take_of_lt (by omega)];exact h1
    have ndP:ps.Nodup:=by rw [<-S.pre];exact S.nd.sublist (List.take_sublist _ _)
    refine⟨u,rv,?_⟩
    rcases S.par y (List.mem_of_getElem? hp)with k | k
    . exact .inl ⟨k,Xx ndP hp hu k⟩
    . obtain⟨c,e⟩:=Aaa (n:=s.heap.objs.size+1) k
      refine .inr ⟨.inl k,c,e,?_⟩
      have q:=x.cell y c e
      rw [Xe ndP hp hu (by show scope.names.lookup y≠_;rw [k];decide)]at q
      exact q
  . exact e0.hok.fresh (Nat.le_of_lt (x.above y c (PySem.mem_of_lookup h)))
  . unfold start
    show _=N.length
    rw [List.length_append,List.length_map,List.length_replicate]
    omega
theorem Akq {CX:CXT}{P:Program}{w:World}{K:PySem.W.Frag}{mg:Str->Option Value}{base:Heap}{k:Nat}{f:Addr}{name qual:Str}{params:Arguments}{body:List Stmt}{scope:Scope}{dV kV doc pm cdv ct oc:Value}{an od:Option Addr}
    {osl:Array (Option Value)}{N ps:List Str}{sp:Sp} (lk:K.lookup f=some ⟨oc,od,.func (PySem.W.fnOf name qual params body scope dV kV doc pm an cdv ct),osl⟩) (hcd:PySem.W.codeIn K cdv qual=true) (S:Aq N ps scope)
    (len:∀vs H Q E,sp vs H Q E->vs.length=ps.length)
    (hbody:∀(A:Around) (outer:List Env) (s:Shared) (H:Hp) (vs:List V) (Q:VK) (E:XK),Mg k (A.deeper (envOfC qual scope s.heap.objs.size f cdv))->sp vs H Q E->
      ∃t,PSs (Tf CX P w K mg base N qual scope f cdv A outer s H E) body t/\t { nx:=fun _ H'=>Q .non H',rt:=Q} (start N vs) H):
    Uw P w K mg base CX (k+1) f (PySem.W.fnOf name qual params body scope dV kV doc pm an cdv ct) ps sp:=by
  refine⟨len,fun A outer s H args us vs Q E hr e0 hb r hsp=> ?_⟩
  have hl:=len _ _ _ _ hsp
  have KX:K.In s.heap:=e0.mod.kin.keeps fun b o e=>(e0.bs b o e).1
  have lim:s.heap.NoLimit:=e0.mod.nolimit.keeps fun b o e=>(e0.bs b o e).1
  have hkind:∀y∈ps.zip us,scope.names.lookup y.1=some .local \/(scope.names.lookup y.1=some .cell/\((cellsFrom (s.heap.objs.size+1) scope.names []).lookup y.1).isSome=true):=fun⟨n,v⟩ hy=>by
    rcases S.par n (List.of_mem_zip hy).1 with q | q
    . exact .inl q
    . exact .inr ⟨q,PySem.W.cellsFrom_some _ _ _ (.inl q)⟩
  refine codeAny_call_function hr.depth (KX _ _ lk) rfl S.co S.gen rfl (PySem.W.codeRec_of KX hcd) (hb _ _ _ _ ?_)
  refine wpAny_newFunctionEnv_cells S.kind hkind fun env he s1 x=> ?_
  subst he
  refine⟨lim.keeps x.toInCall.keep,codeAny_func ?_⟩
  obtain⟨t,ht,hq⟩:=hbody A outer s H vs Q E (hr.deeper _) hsp
  have I:Inv (Tf CX P w K mg base N qual scope f cdv A outer s H E) [] (start N vs) H s1:=Adp S hr.hd e0 hl r x
  refine wpAny_mono (ht [] s1 (start N vs) H _ I hq) (fun fl s' hs=> ?_) fun e s' hs=>hs
  have fin:∀ {σ':St}{H':Hp}{v:V}{u:Value},Inv (Tf CX P w K mg base N qual scope f cdv A outer s H E) [] σ' H' s'->RelV v u->Q v H'->CE outer P w H s Q u s':=
    fun {σ' H' v u} J rv q=>⟨v,H',J.os,J.bare,J.base,J.hok,rv,q⟩
  cases fl with
  | ret u=>
    obtain⟨v,σ',H',J,rv,q⟩:=hs
    exact fin J rv q
  | next=>
    obtain⟨σ',H',J,q⟩:=hs
    exact fin (v:=V.non) (u:=Value.none) J rfl q
  | brk=>
    obtain⟨_,_,_,q⟩:=hs
    exact False.elim q
  | cont=>
    obtain⟨_,_,_,q⟩:=hs
    exact False.elim q
end L2
namespace L2
open PySem PySem.Spec PyProof.Rows
section
variable {X:Cx}{x:Str}{p pos:Pos}{e:Expr}{es:List Expr}{t:TA}{id T:String}{r:List V->Hp->VK->Prop}
def tCB (r:List V->Hp->VK->Prop) (t:TA):TE:=fun σ H Q=>t σ H fun vs H1=>r vs H1 Q
theorem Agv (hc:K6 X (.builtin id) r) (hg:Gl X x) (hm:X.mg x=none) (hv:bootBuiltins x=some (.builtin id)) (ha:PA X (e::es) t) (hn:x≠"__name__":=by decide) (hdb:(x==("__debug__":Str))=false:=by decide)
    (he:starEach (e::es) X.env=(false,eval e X.env)::starEach es X.env:=by rfl) (hpl:(backTo pos (starEach es X.env)).any (·.1)=false:=by rfl):PE X (.Call (.Name x p) (e::es) [] pos) (tCB r t):=by
  intro pins s σ H Q I h
  refine wpAny_Call_Name_kw (Py I hg hm hv ?_ hn hdb)
  exact PyProof.Rows.callWith_builtin1 (thn (ha pos pins s σ H _ I h) fun us s1 ⟨vs,H1,I1,r1,q1⟩=>hc pins s1 σ H1 vs us Q I1 r1 q1) he hpl
theorem Adf (hc:K6 X (.type T) r) (hg:Gl X x) (hm:X.mg x=none) (hv:bootBuiltins x=some (.type T)) (ha:PA X (e::es) t) (hn:x≠"__name__":=by decide) (hdb:(x==("__debug__":Str))=false:=by decide)
    (he:starEach (e::es) X.env=(false,eval e X.env)::starEach es X.env:=by rfl) (hpl:(backTo pos (starEach es X.env)).any (·.1)=false:=by rfl):PE X (.Call (.Name x p) (e::es) [] pos) (tCB r t):=by
  intro pins s σ H Q I h
  refine wpAny_Call_Name_kw (Py I hg hm hv ?_ hn hdb)
  exact PyProof.Rows.callWith_type1 (thn (ha pos pins s σ H _ I h) fun us s1 ⟨vs,H1,I1,r1,q1⟩=>hc pins s1 σ H1 vs us Q I1 r1 q1) he hpl
end
end L2
namespace HT
open PySem PyProof.Rows
section
variable {prog:Program}{w:World}{A:Around}{E:Value->Shared->Prop}{s:Shared}
theorem Ajt {t b:Addr}{vs ws:List Value}{Q:Value->Shared->Prop} (ht:IsTup s.heap t vs.toArray) (hb:IsTup s.heap b ws.toArray) (hv:vs≠ [])
    (h1:ws=[]->Q (.ref t) s) (h2:ws≠ []->Q (.ref s.heap.objs.size) { s with heap:=s.heap.push { cls:= .type "tuple",data:= .seq (vs++ws).toArray}})
    (hsz:vs.length+ws.length<=sizeLine):wpAny (model prog w) A (binaryOp .Add (.ref t) (.ref b)) Q E s:=by
  obtain⟨⟨cls,dd,data,sl⟩,ho,hc,n,hd⟩:=id ht
  obtain⟨⟨cls2,dd2,data2,sl2⟩,ho2,hc2,n2,hd2⟩:=id hb
  simp only at hc hd hc2 hd2
  subst hc hd hc2 hd2
  have e:vs.toArray++ws.toArray=(vs++ws).toArray:=by simp
  by_cases hw:ws=[]
  . exact concat_meets ⟨_,ho,rfl⟩ ⟨_,ho2,rfl⟩ noFill_tuple_add seq_tuple_add PySem.F.slot_tuple_add PySem.F.entry_tuple_add (PySem.F.args_tuple_add_2 _ _)
      (tuple_addW1 t b vs.toArray ws.toArray n n2 dd dd2 sl sl2 (by simpa using hv) (by simp [hw])) ⟨ho,ho2,h1 hw⟩
  . refine concat_meets ⟨_,ho,rfl⟩ ⟨_,ho2,rfl⟩ noFill_tuple_add seq_tuple_add PySem.F.slot_tuple_add PySem.F.entry_tuple_add (PySem.F.args_tuple_add_2 _ _)
      (tuple_addW2 t b vs.toArray ws.toArray n n2 dd dd2 sl sl2 (by simpa using hv) (by simpa using hw) (by rw [List.size_toArray,List.size_toArray];exact hsz)) ⟨ho,ho2,?_⟩
    rw [e]
    exact h2 hw
def sIx (n d:Nat):Option Int->Nat
  | none=>d
  | some v=>if v<0 then(v+(n:Int)).toNat else min v.toNat n
theorem S6 (n d:Nat):sIx n d none=d:=rfl
theorem Vz (n d k:Nat):sIx n d (some (k:Int))=min k n:=by
  show(if(k:Int)<0 then((k:Int)+(n:Int)).toNat else min (k:Int).toNat n)=min k n
  rw [if_neg (by omega),Int.toNat_natCast]
theorem Alo (n d:Nat) (hd:d<=n) (o:Option Int):sIx n d o<=n:=by
  cases o with
  | none=>exact hd
  | some v=>
    show(if v<0 then(v+(n:Int)).toNat else min v.toNat n)<=n
    by_cases hv:v<0
    . rw [if_pos hv];omega
    . rw [if_neg hv];exact Nat.min_le_right _ _
theorem Ada (v:Int) (n d:Nat):(if v<0 then max (v+(n:Int)) 0 else min v (n:Int))=((sIx n d (some v):Nat):Int):=by
  show(if v<0 then max (v+(n:Int)) 0 else min v (n:Int))=(((if v<0 then(v+(n:Int)).toNat else min v.toNat n):Nat):Int)
  by_cases hv:v<0
  . simp only [if_pos hv];omega
  . simp only [if_neg hv];omega
theorem Abf (lo hi:Option Int) (n:Nat):Builtin.Slice.sliceAdjust lo hi 1 (n:Int)=(((sIx n 0 lo:Nat):Int),((sIx n n hi:Nat):Int)):=by
  have h1:¬((1:Int)<0):=by omega
  unfold Builtin.Slice.sliceAdjust
  simp only [h1,if_false]
  refine Prod.ext ?_ ?_
  . cases lo with
    | none=>rfl
    | some v=>exact Ada v n 0
  . cases hi with
    | none=>rfl
    | some v=>exact Ada v n n
theorem Aa6 (i j:Nat):Builtin.Slice.slicePlaces (i:Int) (j:Int) 1=j-i:=by
  unfold Builtin.Slice.slicePlaces
  have h1:(1:Int)>0:=by omega
  simp only [h1,if_true,Int.ediv_one]
  split<;>omega
theorem Vd {v:Value}{o:Option Int}{Q:Option Int->Shared->Prop} (p:IsPart v o) (h:Q o s):wpAny (model prog w) A (Builtin.Slice.slicePartIndex v) Q E s:=by
  cases p with
  | none=>exact slicePart_none h
  | int i t=>exact slicePart_int h
theorem Lz {sl:Addr}{vl vu:Value}{lo hi:Option Int}{n:Nat}{Q:Int × Int × Nat->Shared->Prop} (hs:s.heap.IsSliceOf sl vl vu .none) (pl:IsPart vl lo) (pu:IsPart vu hi)
    (h:Q (((sIx n 0 lo:Nat):Int),1,sIx n n hi-sIx n 0 lo) s):wpAny (model prog w) A (Builtin.Slice.sliceApplied (.ref sl) (pure (n:Int))) Q E s:=by
  obtain⟨os,hos,hcs,hds⟩:=id hs
  unfold Builtin.Slice.sliceApplied Builtin.Slice.sliceFields
  refine wpAny_bind (wpAny_bind (wpAny_field hos hds (x:=vl) rfl (wpAny_bind (wpAny_field hos hds (x:=vu) rfl (wpAny_bind (wpAny_field hos hds (x:= .none) rfl (wpAny_pure ?_)))))))
  refine wpAny_bind (slicePart_none ?_)
  show wpAny _ _ (if((1:Int)==0)=true then _ else _) _ _ s
  rw [if_neg (by decide)]
  refine wpAny_bind (Vd pl (wpAny_bind (Vd pu (wpAny_bind (wpAny_pure ?_)))))
  show wpAny _ _ (match Builtin.Slice.sliceAdjust lo hi 1 (n:Int)with | (lo,hi)=>pure (lo,(1:Int),Builtin.Slice.slicePlaces lo hi 1)) _ _ s
  rw [Abf lo hi n]
  show wpAny _ _ (pure (((sIx n 0 lo:Nat):Int),(1:Int),Builtin.Slice.slicePlaces ((sIx n 0 lo:Nat):Int) ((sIx n n hi:Nat):Int) 1)) _ _ s
  rw [Aa6]
  exact wpAny_pure h
theorem Agr (xs:Array Value) (i k:Nat):((List.range k).filterMap fun(m:Nat)=>xs[((i:Int)+(m:Int)*1).toNat]?).toArray=((xs.toList.drop i).take k).toArray:=by
  have e:(fun(m:Nat)=>xs[((i:Int)+(m:Int)*1).toNat]?)=fun m=>xs[i+m]? :=by
    funext m
    have:((i:Int)+(m:Int)*1).toNat=i+m:=by omega
    rw [this]
  rw [e]
  have:=pick_run xs i k
  rw [List.filterMap_map]at this
  have e2:((fun x=>xs[x]?) ∘ fun x=>i+x)=fun m=>xs[i+m]? :=rfl
  rw [e2]at this
  rw [this]
theorem Qz {t sl:Addr}{items:Array Value}{vl vu:Value}{lo hi:Option Int}{Q:Value->Shared->Prop} (ht:IsTup s.heap t items) (hs:s.heap.IsSliceOf sl vl vu .none) (pl:IsPart vl lo) (pu:IsPart vu hi)
    (hw:¬(sIx items.size 0 lo=0/\sIx items.size items.size hi=items.size))
    (h:Q (.ref s.heap.objs.size) { s with heap:=s.heap.push { cls:= .type "tuple",data:= .seq ((items.toList.drop (sIx items.size 0 lo)).take (sIx items.size items.size hi-sIx items.size 0 lo)).toArray}})
    (hsz:items.size<=sizeLine):wpAny (model prog w) A (getItem (.ref t) (.ref sl)) Q E s:=by
  have htake:sizeOk (.seq ((items.toList.drop (sIx items.size 0 lo)).take (sIx items.size items.size hi-sIx items.size 0 lo)).toArray):=by
    show((items.toList.drop (sIx items.size 0 lo)).take (sIx items.size items.size hi-sIx items.size 0 lo)).toArray.size<=sizeLine
    rw [List.size_toArray,List.length_take,List.length_drop,Array.length_toList]
    omega
  have hj:sIx items.size items.size hi<=items.size:=Alo _ _ (Nat.le_refl _) hi
  obtain⟨os,hos,hcs,hds⟩:=id hs
  have hTs:s.TypeIs (.ref sl) "slice":=⟨os,hos,hcs⟩
  unfold getItem
  try with_reducible refine wpAny_holding ?_
  first | refine wpAny_bind (wpAny_pure ?_) | skip
  refine wpAny_bind (wpAny_sequenceKey ht.typeIs (by decide) ?_)
  refine wpAny_bind (wpAny_callSpecial?_slot (name:=Str.ofString "__getitem__") ht.typeIs PyProof.Rows.slot_tuple_getitem
    (wpAny_call_entry PyProof.Rows.slot_tuple_getitem ht.typeIs entry_tuple_getitem ?_ (args_tuple_getitem _ _)))
  show wpAny _ _ (Builtin.Tuple.tupleItemsOf (.ref t)>>=_) _ _ s
  refine wpAny_bind (tupleItemsOf_ ht ?_)
  refine wpAny_bind (wpAny_typeOf hTs ?_)
  rw [if_pos (by decide)]
  refine wpAny_bind (Lz hs pl pu ?_)
  have hno:¬((((sIx items.size 0 lo:Nat):Int)==0&&(1:Int)==1&&(sIx items.size items.size hi-sIx items.size 0 lo)==items.size)=true):=by
    intro q
    rw [Bool.and_eq_true,Bool.and_eq_true]at q
    have q1:((sIx items.size 0 lo:Nat):Int)=0:=eq_of_beq q.1.1
    have q2:sIx items.size items.size hi-sIx items.size 0 lo=items.size:=eq_of_beq q.2
    exact hw ⟨by omega,by omega⟩
  show wpAny _ _ (if(((sIx items.size 0 lo:Nat):Int)==0&&(1:Int)==1&&(sIx items.size items.size hi-sIx items.size 0 lo)==items.size)=true then _ else _) _ _ s
  rw [if_neg hno,Agr]
  first
    | exact wpAny_bind (m:=Builtin.Tuple.tupleExact _) (wpAny_newObj_type (wpAny_pure ⟨_,rfl,wpAny_pure h⟩) htake)
    | exact wpAny_bind (m:=Builtin.Tuple.tupleExact _) (wpAny_newObj_type (wpAny_bind (wpAny_pure (wpAny_pure ⟨_,rfl,wpAny_pure h⟩))) htake)
    | exact wpAny_bind (wpAny_bind (m:=Builtin.Tuple.tupleExact _) (wpAny_newObj_type (wpAny_pure (wpAny_pure ⟨_,rfl,wpAny_pure h⟩)) htake))
    | exact wpAny_bind (wpAny_bind (m:=Builtin.Tuple.tupleExact _) (wpAny_newObj_type (wpAny_pure ⟨_,rfl,wpAny_pure h⟩) htake))
end
end HT
namespace L2
open PySem PySem.Spec PyProof.Rows
abbrev TO:=St->Hp->(Option Int->Hp->Prop)->Prop
def PO (X:Cx) (e:Option Expr) (t:TO):Prop:=
  ∀(pins:List (Addr × Obj)) (s:Shared) (σ:St) (H:Hp) (Q:Option Int->Hp->Prop),Inv X pins σ H s->t σ H Q->
    wpAny (model X.prog X.w) X.A (evalPart e X.env) (fun u s'=>∃o H',Inv X pins σ H' s'/\IsPart u o/\Q o H') X.xe s
def Yx:TO:=fun _ H Q=>Q none H
def Aio (t:TE):TO:=fun σ H Q=>t σ H fun x H1=>∃i,x= .int i/\Q (some i) H1
theorem intsAre_of {ns:List Int}:∀ {us:List Value},Vals (ns.map V.int) us->IntsAre us ns:=by
  induction ns with
  | nil=>intro us r;rw [List.map_nil]at r;cases r;exact .nil
  | cons n ns ih=>
    intro us r
    rw [List.map_cons]at r
    cases r with
    | cons r1 r2=>
      obtain⟨t,e⟩:=r1
      subst e
      exact .cons n t (ih r2)
section
variable {X:Cx}{e:Expr}{te:TE}{lo hi:Option Expr}{tl th:TO}{pos p2:Pos}
theorem Oq:PO X none Yx:=by
  intro pins s σ H Q I h
  rw [evalPart_none]
  exact wpAny_pure ⟨none,H,I,.none,h⟩
theorem O6 (h:PE X e te):PO X (some e) (Aio te):=by
  intro pins s σ H Q I hw
  rw [evalPart_some]
  refine thn (h pins s σ H _ I hw) fun u s1 ⟨x,H1,I1,r1,q1⟩=> ?_
  obtain⟨i,rfl,q⟩:=q1
  obtain⟨t,rfl⟩:=r1
  exact⟨some i,H1,I1,.int i t,q⟩
def SlR (X:Cx) (r:V->Option Int->Option Int->Hp->VK->Prop):Prop:=
  ∀(pins:List (Addr × Obj)) (s:Shared) (σ:St) (H:Hp) (x:V) (v vl vu:Value) (lo hi:Option Int) (sl:Addr) (Q:VK),Inv X pins σ H s->RelV x v->s.heap.IsSliceOf sl vl vu .none->IsPart vl lo->IsPart vu hi->r x lo hi H Q->
    ∃T id,typeLookup (.type T) "__getitem__"=pure (some (.builtin id))/\s.TypeIs v T/\wpAny (model X.prog X.w) X.A (getItem v (.ref sl)) (EP X pins σ Q) X.xe s
theorem SlR.or {r r':V->Option Int->Option Int->Hp->VK->Prop} (h:SlR X r) (h':SlR X r'):SlR X (fun x lo hi H Q=>r x lo hi H Q\/r' x lo hi H Q):=by
  intro pins s σ H x v vl vu lo hi sl Q I rx hs pl pu q
  rcases q with q | q
  . exact h pins s σ H x v vl vu lo hi sl Q I rx hs pl pu q
  . exact h' pins s σ H x v vl vu lo hi sl Q I rx hs pl pu q
def tSl (r:V->Option Int->Option Int->Hp->VK->Prop) (te:TE) (tl th:TO):TE:=fun σ H Q=>te σ H fun x H1=>tl σ H1 fun l H2=>th σ H2 fun u H3=>r x l u H3 Q
theorem Ln {r:V->Option Int->Option Int->Hp->VK->Prop} (hr:SlR X r) (he:PE X e te) (hl:PO X lo tl) (hu:PO X hi th):PE X (.Subscript e (.Slice lo hi none p2) pos) (tSl r te tl th):=by
  intro pins s σ H Q I h
  refine Subscript_ (thn (he pins s σ H _ I h) fun v s1 ⟨x,H1,I1,r1,q1⟩=> ?_)
  refine wpAny_Slice (thn (hl pins s1 σ H1 _ I1 q1) fun vl s2 ⟨l,H2,I2,pl,q2⟩=>thn (hu pins s2 σ H2 _ I2 q2) fun vu s3 ⟨u,H3,I3,pu,q3⟩=> ?_)
  rw [evalPart_none]
  refine wpAny_pure ?_
  have I4:Inv X pins σ H3 { s3 with heap:=s3.heap.push { cls:= .type "slice",data:= .fields #[vl,vu,.none]}}:=I3.kept (t':=s3.toks) fun b ob q=>Heap.get?_push_of_some _ q
  obtain⟨T,id,hT,ht,hg⟩:=hr pins { s3 with heap:=s3.heap.push { cls:= .type "slice",data:= .fields #[vl,vu,.none]}} σ H3 x v vl vu l u s3.heap.objs.size Q I4 r1 (Heap.IsSliceOf.new ..) pl pu q3
  show wpAny (model X.prog X.w) X.A (subscriptTail e (.Slice lo hi none p2) v (.ref s3.heap.objs.size)) (EP X pins σ Q) X.xe { s3 with heap:=s3.heap.push { cls:= .type "slice",data:= .fields #[vl,vu,.none]}}
  exact tail_any (ops:=[.ref s3.heap.objs.size,v]) ht hT hg (by with_unfolding_all rfl)
def T6 (xs:List V) (lo hi:Option Int):List V:=(xs.drop (HT.sIx xs.length 0 lo)).take (HT.sIx xs.length xs.length hi-HT.sIx xs.length 0 lo)
theorem Ud (xs:List V) (lo hi:Option Int):(T6 xs lo hi).length<=xs.length:=by
  unfold T6
  rw [List.length_take,List.length_drop]
  omega
def Aow (K:PySem.W.Frag):V->Option Int->Option Int->Hp->VK->Prop:=fun x lo hi H Q=>∃a xs,x= .ref a/\SqT K H a xs/\
  ¬(HT.sIx xs.length 0 lo=0/\HT.sIx xs.length xs.length hi=xs.length)/\∀p,H p=none->Q (.ref p) (upd H p (.tup (T6 xs lo hi)))
theorem Alh:SlR X (Aow X.K):=by
  intro pins s σ H x v vl vu lo hi sl Q I rx hs pl pu h
  obtain⟨a,xs,rfl,hx,hw,q⟩:=h
  cases rx
  obtain⟨its,r,ht,hz⟩:=I.tuple hx
  have hlen:its.toArray.size=xs.length:=by rw [List.size_toArray];exact r.length.symm
  refine⟨"tuple",_,PyProof.Rows.slot_tuple_getitem.lookup,ht.typeIs,?_⟩
  refine HT.Qz ht hs pl pu (by rw [hlen];exact hw) ?_ (by rw [hlen];exact hz)
  rw [hlen]
  refine⟨.ref s.heap.objs.size,_,I.laid (t':=s.toks) (o:= .tup (T6 xs lo hi)) (fun b ob q=>Heap.get?_push_of_some _ q) (Nat.le_refl _) ?_,rfl,q _ (I.hok.fresh (Nat.le_refl _))⟩
  exact⟨Nat.le_trans (Ud xs lo hi) hz,_,(r.drop (HT.sIx xs.length 0 lo)).take (HT.sIx xs.length xs.length hi-HT.sIx xs.length 0 lo),IsTup.new _ _⟩
def Ane (K:PySem.W.Frag):R2:=fun x y H Q=>∃a b xs ys,x= .ref a/\y= .ref b/\SqT K H a xs/\SqT K H b ys/\xs≠ []/\xs.length+ys.length<=sizeLine/\
  (ys=[]->Q (.ref a) H)/\(ys≠ []->∀p,H p=none->Q (.ref p) (upd H p (.tup (xs++ys))))
theorem Vals.nil_iff {xs:List V}{us:List Value} (r:Vals xs us):us=[]↔xs=[]:=by
  cases r with
  | nil=>simp
  | cons _ _=>simp
theorem Ajw:OpR X (binaryOp .Add) (Ane X.K):=by
  intro pins s σ H x y v u Q I rx ry h
  obtain⟨a,b,xs,ys,rfl,rfl,ha,hb,hx,hz,q1,q2⟩:=h
  cases rx
  cases ry
  obtain⟨its,r1,p1,_⟩:=I.tuple ha
  obtain⟨its2,r2,p2,_⟩:=I.tuple hb
  refine HT.Ajt p1 p2 (fun z=>hx (r1.nil_iff.mp z)) (fun z=>⟨.ref a,H,I,rfl,q1 (r2.nil_iff.mp z)⟩) (fun z=> ?_) (by rw [<-r1.length,<-r2.length];exact hz)
  refine⟨.ref s.heap.objs.size,_,I.laid (t':=s.toks) (o:= .tup (xs++ys)) (fun b ob q=>Heap.get?_push_of_some _ q) (Nat.le_refl _) ?_,rfl,q2 (fun w=>z (r2.nil_iff.mpr w)) _ (I.hok.fresh (Nat.le_refl _))⟩
  exact⟨by rw [List.length_append];exact hz,_,r1.append r2,IsTup.new _ _⟩
end
end L2
namespace L2
open PySem PySem.Spec PyProof.Rows
def ixN (n:Nat) (i:Int):Option Nat:=if 0<=i then(if i<n then some i.toNat else none)else if-(n:Int)<=i then some (i+n).toNat else none
def atI {α:Type} (xs:List α) (i:Int):Option α:=(ixN xs.length i).bind fun j=>xs[j]?
theorem Aco {n:Nat}{i:Int}{j:Nat} (h:ixN n i=some j):seqIndex? i n=some j/\j<n/\ -(n:Int)<=i/\i<n:=by
  unfold ixN at h
  by_cases h0:0<=i
  . rw [if_pos h0]at h
    by_cases h1:i<n
    . rw [if_pos h1]at h
      have e:i.toNat=j:=Option.some.inj h
      exact⟨by rw [seqIndex_of h0 h1,e],by omega,by omega,h1⟩
    . rw [if_neg h1]at h;cases h
  . rw [if_neg h0]at h
    by_cases h1: -(n:Int)<=i
    . rw [if_pos h1]at h
      have e:(i+n).toNat=j:=Option.some.inj h
      exact⟨by rw [seqIndex_neg (by omega) h1,e],by omega,h1,by omega⟩
    . rw [if_neg h1]at h;cases h
theorem Ae6 {α:Type}{xs:List α}{i:Int}{v:α} (h:atI xs i=some v):∃j,seqIndex? i xs.length=some j/\xs[j]? =some v/\j<xs.length/\ -(xs.length:Int)<=i/\i<xs.length:=by
  unfold atI at h
  cases e:ixN xs.length i with
  | none=>rw [e]at h;cases h
  | some j=>
    rw [e]at h
    obtain⟨h1,h2,h3,h4⟩:=Aco e
    exact⟨j,h1,h,h2,h3,h4⟩
theorem Jw {α:Type}{xs:List α}{j:Nat}{v:α} (h:xs[j]? =some v):atI xs (j:Int)=some v:=by
  have hj:j<xs.length:=(List.getElem?_eq_some_iff.mp h).1
  have e:ixN xs.length (j:Int)=some j:=by
    unfold ixN
    rw [if_pos (by omega),if_pos (by omega)];simp
  unfold atI;rw [e];exact h
theorem Wg {α:Type} (xs:List α) (v:α):atI (xs++ [v]) (-1)=some v:=by
  have hl:(xs++ [v]).length=xs.length+1:=by simp
  have e:ixN (xs++ [v]).length (-1)=some xs.length:=by
    unfold ixN
    rw [hl,if_neg (by decide),if_pos (by omega)]
    congr 1
    omega
  unfold atI
  rw [e]
  show(xs++ [v])[xs.length]? =some v
  simp
def Adn (b:Expr):Prop:=∀o i,subscripted b false o i=operate [o,i] (getItem o i)
def IxR (X:Cx) (r:R2):Prop:=
  ∀(value slice:Expr) (pins:List (Addr × Obj)) (s:Shared) (σ:St) (H:Hp) (x y:V) (v u:Value) (Q:VK),Inv X pins σ H s->RelV x v->RelV y u->r x y H Q->
    subscripted slice false v u=operate [v,u] (getItem v u)->wpAny (model X.prog X.w) X.A (subscriptTail value slice v u) (EP X pins σ Q) X.xe s
def MtR (X:Cx) (id:String) (r:V->List V->Hp->VK->Prop):Prop:=
  ∀(pins:List (Addr × Obj)) (s:Shared) (σ:St) (H:Hp) (x:V) (xs:List V) (v:Value) (us:List Value) (Q:VK),Inv X pins σ H s->RelV x v->Vals xs us->r x xs H Q->
    wpAny (model X.prog X.w) X.A (call (.builtin id) (v::us)) (EP X pins σ Q) X.xe s
section
variable {X:Cx}{a b:Expr}{ta tb:TE}{pos:Pos}
theorem IxR.or {r r':R2} (h:IxR X r) (h':IxR X r'):IxR X (fun x y H Q=>r x y H Q\/r' x y H Q):=by
  intro value slice pins s σ H x y v u Q I rx ry q hs
  rcases q with q | q
  . exact h value slice pins s σ H x y v u Q I rx ry q hs
  . exact h' value slice pins s σ H x y v u Q I rx ry q hs
theorem MtR.or {id:String}{r r':V->List V->Hp->VK->Prop} (h:MtR X id r) (h':MtR X id r'):MtR X id (fun x xs H Q=>r x xs H Q\/r' x xs H Q):=by
  intro pins s σ H x xs v us Q I rx rs q
  rcases q with q | q
  . exact h pins s σ H x xs v us Q I rx rs q
  . exact h' pins s σ H x xs v us Q I rx rs q
theorem Bl {r:R2} (hr:IxR X r) (ha:PE X a ta) (hb:PE X b tb) (hs:Adn b):PE X (.Subscript a b pos) (tOp r ta tb):=by
  intro pins s σ H Q I h
  exact Subscript_ (Am6 ha hb I h fun v u s2 x y H2 I2 rx ry q=>hr a b pins s2 σ H2 x y v u Q I2 rx ry q (hs _ _))
def An2 (K:PySem.W.Frag):R2:=fun x y H Q=>∃p xs i v,x= .ref p/\y= .int i/\SqL K H p xs/\atI xs i=some v/\Q v H
def Aoj (K:PySem.W.Frag):R2:=fun x y H Q=>∃p xs i v,x= .ref p/\y= .int i/\SqT K H p xs/\atI xs i=some v/\Q v H
theorem G3:IxR X (An2 X.K):=by
  intro value slice pins s σ H x y v u Q I rx ry h hs
  obtain⟨p,xs,i,z,rfl,rfl,hq,he,q⟩:=h
  cases rx
  obtain⟨t,rfl⟩:=ry
  obtain⟨its,r,pl,hz⟩:=I.list hq
  obtain⟨j,h1,h2,h3,h4,h5⟩:=Ae6 he
  obtain⟨w,ew,rw'⟩:=r.get h2
  have hl:=r.length
  have hn:=Ve
  have fin:EP X pins σ Q w s:=⟨z,H,I,rw',q⟩
  by_cases h0:0<=i
  . have hj:i.toNat=j:=by
      rw [seqIndex_of h0 h5]at h1
      exact Option.some.inj h1
    exact item_listR pl.isList h0 (by omega) (by rw [hj];simpa using ew) fin hs
  . have hj:(i+(its.toArray.size:Int)).toNat=j:=by
      rw [seqIndex_neg (by omega) h4]at h1
      rw [List.size_toArray,<-hl]
      exact Option.some.inj h1
    exact subscriptTail_builtinR (x:=w) pl.isList.typeIs slot_list_getitem.lookup
      (wpAny_getItem_list_neg (Q:=fun r s'=>r=w/\EP X pins σ Q r s') pl.isList (by omega) (by rw [List.size_toArray]<;>omega) (by omega) (by rw [hj];simpa using ew) ⟨rfl,fin⟩) hs
theorem Bc:IxR X (Aoj X.K):=by
  intro value slice pins s σ H x y v u Q I rx ry h hs
  obtain⟨p,xs,i,z,rfl,rfl,hq,he,q⟩:=h
  cases rx
  obtain⟨t,rfl⟩:=ry
  obtain⟨its,r,pl,hz⟩:=I.tuple hq
  obtain⟨j,h1,h2,h3,h4,h5⟩:=Ae6 he
  obtain⟨w,ew,rw'⟩:=r.get h2
  have hl:=r.length
  have hn:=Ve
  have fin:EP X pins σ Q w s:=⟨z,H,I,rw',q⟩
  exact subscriptTail_builtinR (x:=w) pl.typeIs slot_tuple_getitem.lookup
    (getItem_tuple (j:=j) (Q:=fun r s'=>r=w/\EP X pins σ Q r s') pl (by omega) (by omega) (by rw [List.size_toArray,<-hl];exact h1) (by simpa using ew) ⟨rfl,fin⟩) hs
theorem Aa4 (its:List Value) (n j:Nat) (u:Value):Obj.mapSeq (·.setIfInBounds j u) { cls:= .type "list",data:= .seq its.toArray n}={ cls:= .type "list",data:= .seq (its.set j u).toArray n}:=by
  simp [Obj.mapSeq]
theorem Inv.lst {pins:List (Addr × Obj)}{σ:St}{H:Hp}{s:Shared}{p:Addr}{xs:List V} (I:Inv X pins σ H s) (h:H p=some (.lst xs)):
    ∃(its:List Value) (n:Nat),Vals xs its/\s.heap.get? p=some { cls:= .type "list",data:= .seq its.toArray n}/\xs.length<=sizeLine:=by
  obtain⟨z,its,n,r,e⟩:=I.hok p _ h
  exact⟨its,n,r,e,z⟩
theorem Inv.lstUpd {pins:List (Addr × Obj)}{σ:St}{H:Hp}{s:Shared}{p:Addr}{xs ys:List V}{its its':List Value}{n n':Nat}{f:Obj->Obj} (I:Inv X pins σ H s) (h:H p=some (.lst xs))
    (ho:s.heap.get? p=some { cls:= .type "list",data:= .seq its.toArray n}) (hf:f { cls:= .type "list",data:= .seq its.toArray n}={ cls:= .type "list",data:= .seq its'.toArray n'}) (r:Vals ys its') (hz:ys.length<=sizeLine) (t:Nat):
    Inv X pins σ (upd H p (.lst ys)) { s with heap:=s.heap.update p f,toks:=t}:=by
  have e:(s.heap.update p f).get? p=some { cls:= .type "list",data:= .seq its'.toArray n'}:=by
    rw [Heap.get?_update_self f ho (by rw [hf]<;>rfl),hf]
  refine I.write (x:=p) (e:=p) (by rw [h];trivial) (.inl rfl) (fun b u hb q=>(Heap.get?_update_other _ _ (Ne.symm hb)).trans q) ⟨_,e⟩ ?_
  exact⟨hz,its',n',r,e⟩
def Akl:V->V->V->Hp->(Hp->Prop)->Prop:=fun o i v H Q=>∃p xs k j,o= .ref p/\i= .int k/\H p=some (.lst xs)/\ixN xs.length k=some j/\Q (upd H p (.lst (xs.set j v)))
theorem set_list:Aoa X Akl:=by
  intro pins s σ H o i v ov iv u Q I ro ri rv h
  obtain⟨p,xs,k,j,rfl,rfl,hp,hj,q⟩:=h
  cases ro
  obtain⟨t,rfl⟩:=ri
  obtain⟨its,n,r,ho,hz⟩:=I.lst hp
  obtain⟨h1,h2,h3,h4⟩:=Aco hj
  have hl:=r.length
  have hn:=Ve
  have I':Inv X pins σ (upd H p (.lst (xs.set j v))) { s with heap:=s.heap.update p (Obj.mapSeq (·.setIfInBounds j u))}:=
    I.lstUpd hp ho (Aa4 its n j u) (r.set rv j) (by rw [List.length_set];exact hz) s.toks
  by_cases h0:0<=k
  . have hk:k.toNat=j:=by
      rw [seqIndex_of h0 h4]at h1
      exact Option.some.inj h1
    exact PySem.W.ki_setAt ho h0 (by omega) (by rw [List.size_toArray,<-hl];exact h4) (by rw [hk];exact⟨_,I',q⟩)
  . have hk:(k+(its.toArray.size:Int)).toNat=j:=by
      rw [seqIndex_neg (by omega) h3]at h1
      rw [List.size_toArray,<-hl]
      exact Option.some.inj h1
    exact PySem.W.ki_setBack ho (by omega) (by rw [List.size_toArray,<-hl];exact h3) (by omega) (by rw [hk];exact⟨_,I',q⟩)
theorem X8 (lo hi:Option Int) (n:Nat):(sliceBounds lo hi none n).1=((HT.sIx n 0 lo:Nat):Int)/\(sliceBounds lo hi none n).2.1=((HT.sIx n n hi:Nat):Int)/\(sliceBounds lo hi none n).2.2=1:=by
  refine⟨?_,?_,rfl⟩
  . cases lo with
    | none=>simp [sliceBounds,HT.sIx]
    | some i=>
      simp only [sliceBounds,HT.sIx,Option.getD_none,show(1:Int)>0 by decide,if_true]
      by_cases h:i<0
      . simp only [h,if_true]<;>omega
      . simp only [h,if_false]<;>omega
  . cases hi with
    | none=>simp [sliceBounds,HT.sIx]
    | some i=>
      simp only [sliceBounds,HT.sIx,Option.getD_none,show(1:Int)>0 by decide,if_true]
      by_cases h:i<0
      . simp only [h,if_true]<;>omega
      . simp only [h,if_false]<;>omega
theorem Wr (its:List Value) (lo hi:Option Int):slicePick its.toArray lo hi none=((its.drop (HT.sIx its.length 0 lo)).take (HT.sIx its.length its.length hi-HT.sIx its.length 0 lo)).toArray:=by
  obtain⟨h1,h2,h3⟩:=X8 lo hi its.toArray.size
  unfold slicePick
  rw [h1,h2,h3]
  simp only [sliceRange_one,pick_run,List.size_toArray]<;>rfl
def Aol (K:PySem.W.Frag):V->Option Int->Option Int->Hp->VK->Prop:=fun x lo hi H Q=>∃a xs,x= .ref a/\SqL K H a xs/\∀p,H p=none->Q (.ref p) (upd H p (.lst (T6 xs lo hi)))
theorem Zn:SlR X (Aol X.K):=by
  intro pins s σ H x v vl vu lo hi sl Q I rx hs pl pu h
  obtain⟨a,xs,rfl,hx,q⟩:=h
  cases rx
  obtain⟨its,r,ht,hz⟩:=I.list hx
  have hlen:=r.length
  refine⟨"list",_,slot_list_getitem.lookup,ht.isList.typeIs,?_⟩
  refine wpAny_getItem_list_slice ht.isList hs pl pu .none (by simp) ?_ (by rw [List.size_toArray]<;>omega)
  rw [Wr,<-hlen]
  refine⟨.ref s.heap.objs.size,_,I.laid (t':=s.toks) (o:= .lst (T6 xs lo hi)) (fun b ob q=>Heap.get?_push_of_some _ q) (Nat.le_refl _) ?_,rfl,q _ (I.hok.fresh (Nat.le_refl _))⟩
  exact⟨Nat.le_trans (Ud xs lo hi) hz,_,0,(r.drop (HT.sIx xs.length 0 lo)).take (HT.sIx xs.length xs.length hi-HT.sIx xs.length 0 lo),Heap.get?_push_size _ rfl⟩
theorem Am:K6 X (.builtin "len") (fun xs H Q=>∃p ys,xs=[.ref p]/\(SqL X.K H p ys\/SqT X.K H p ys)/\Q (.int ys.length) H):=by
  intro pins s σ H xs us Q I r h
  obtain⟨p,ys,rfl,hq,q⟩:=h
  obtain⟨u,rfl,rx⟩:=vals1 r
  cases rx
  have hn:=Ve
  rcases hq with hq | hq
  . obtain⟨its,r',pl,hz⟩:=I.list hq
    have hlen:=r'.length
    exact Calls.call_len_list pl.isList (by simp only [List.size_toArray]<;>omega) ⟨.int ys.length,H,I.tok _,⟨s.toks+1,by rw [List.size_toArray,hlen]⟩,q⟩
  . obtain⟨its,r',pl,hz⟩:=I.tuple hq
    have hlen:=r'.length
    exact len_tuple pl (by simp only [List.size_toArray]<;>omega) ⟨.int ys.length,H,I.tok _,⟨s.toks+1,by rw [List.size_toArray,hlen]⟩,q⟩
theorem K6.or {f:Value}{r r':List V->Hp->VK->Prop} (h:K6 X f r) (h':K6 X f r'):K6 X f (fun xs H Q=>r xs H Q\/r' xs H Q):=by
  intro pins s σ H xs us Q I rs q
  rcases q with q | q
  . exact h pins s σ H xs us Q I rs q
  . exact h' pins s σ H xs us Q I rs q
theorem Jj:K6 X (.type "list") (fun xs H Q=>∃p ys,xs=[.ref p]/\(SqL X.K H p ys\/SqT X.K H p ys)/\∀l,H l=none->Q (.ref l) (upd H l (.lst ys))):=by
  intro pins s σ H xs us Q I r h
  obtain⟨p,ys,rfl,hq,q⟩:=h
  obtain⟨u,rfl,rx⟩:=vals1 r
  cases rx
  have fin:∀(its:List Value),Vals ys its->ys.length<=sizeLine->∀(h':Heap) (c':Nat),(∀b o',s.heap.get? b=some o'->h'.get? b=some o')->
      h'.get? s.heap.objs.size=some { cls:= .type "list",dict:=none,data:= .seq its.toArray c',slots:= #[]}->EP X pins σ Q (.ref s.heap.objs.size) { s with heap:=h'}:=fun its r' hz h' c' kp e=>
    ⟨.ref s.heap.objs.size,_,I.laid (t':=s.toks) kp (Nat.le_refl _) (show Ke X.prog X.w _ h' _ (.lst ys)from⟨hz,its,c',r',e⟩),rfl,q _ (I.hok.fresh (Nat.le_refl _))⟩
  rcases hq with hq | hq
  . obtain⟨its,r',pl,hz⟩:=I.list hq
    have hlen:=r'.length
    obtain⟨o,ho,hc,n,hd⟩:=pl.isList
    exact call_list_seq p (.inl rfl) ho hc hd (fun h' c' kp e=>fin its r' hz h' c' kp e) (by simp only [List.size_toArray]<;>omega)
  . obtain⟨its,r',pl,hz⟩:=I.tuple hq
    have hlen:=r'.length
    obtain⟨o,ho,hc,n,hd⟩:=pl
    exact call_list_seq p (.inr rfl) ho hc hd (fun h' c' kp e=>fin its r' hz h' c' kp e) (by simp only [List.size_toArray]<;>omega)
theorem Gi:K6 X (.type "tuple") (fun xs H Q=>∃p ys,xs=[.ref p]/\((SqL X.K H p ys/\∀l,H l=none->Q (.ref l) (upd H l (.tup ys)))\/(SqT X.K H p ys/\Q (.ref p) H))):=by
  intro pins s σ H xs us Q I r h
  obtain⟨p,ys,rfl,h⟩:=h
  obtain⟨u,rfl,rx⟩:=vals1 r
  cases rx
  rcases h with⟨hq,q⟩ | ⟨hq,q⟩
  . obtain⟨its,r',pl,hz⟩:=I.list hq
    have hlen:=r'.length
    refine call_tuple_list pl.isList (fun h' kp=> ?_) (by simp only [List.size_toArray]<;>omega)
    have I1:Inv X pins σ H { s with heap:=h'}:=I.kept (t':=s.toks) kp
    have I2:Inv X pins σ (upd H h'.objs.size (.tup ys)) { s with heap:=h'.push { cls:= .type "tuple",data:= .seq its.toArray}}:=
      I1.laid (t':=s.toks) (fun b o e=>Heap.get?_push_of_some _ e) (Nat.le_refl _) (show Ke X.prog X.w _ _ _ (.tup ys)from⟨hz,its,r',IsTup.new _ _⟩)
    exact⟨.ref h'.objs.size,_,I2,rfl,q _ (I1.hok.fresh (Nat.le_refl _))⟩
  . obtain⟨its,r',pl,hz⟩:=I.tuple hq
    exact call_tuple_same pl ⟨.ref p,H,I,rfl,q⟩
def tyV (K:PySem.W.Frag) (T:String) (x:V) (H:Hp):Prop:=match x with
  | .str _=>T="str"
  | .int _=>T="int"
  | .ref p=>(T="list"/\∃xs,SqL K H p xs)\/(T="tuple"/\∃o,K.lookup p=some o/\o.cls= .type "tuple"/\o.dict=none)\/
      (T="dict"/\((∃kvs,H p=some (.dK kvs))\/∃kvs,H p=some (.dT kvs)))\/(T="set"/\∃S n,H p=some (.set S n))
  | _=>False
theorem Ahv {pins:List (Addr × Obj)}{σ:St}{H:Hp}{s:Shared}{T:String}{x:V}{v:Value} (I:Inv X pins σ H s) (r:RelV x v) (ty:tyV X.K T x H):
    s.TypeIs v T/\∀a,v= .ref a->∃ob,s.heap.get? a=some ob/\ob.dict=none:=by
  cases x with
  | str z=>
    obtain⟨t,rfl⟩:=r
    cases(show T="str" from ty)
    exact⟨typeIs_str s z t,fun _ e=>nomatch e⟩
  | int i=>
    obtain⟨t,rfl⟩:=r
    cases(show T="int" from ty)
    exact⟨typeIs_int s i t,fun _ e=>nomatch e⟩
  | ref p=>
    cases r
    rcases ty with⟨rfl,xs,hq⟩ | ⟨rfl,o,hk,hc,hd⟩ | ⟨rfl,hk⟩ | ⟨rfl,S,n,hk⟩
    . obtain⟨its,_,pl,_⟩:=I.list hq
      refine⟨pl.isList.typeIs,fun a e=> ?_⟩
      cases e
      obtain⟨o,n,e,c,hd,_⟩:=pl
      exact⟨o,e,hd⟩
    . refine⟨⟨o,I.kIn p o hk,hc⟩,fun a e=> ?_⟩
      cases e
      exact⟨o,I.kIn _ o hk,hd⟩
    . have z:∃o,s.heap.get? p=some o/\o.ExactDict:=by
        rcases hk with⟨kvs,hk⟩ | ⟨kvs,hk⟩
        . obtain⟨_,_,_,_,o,_,_,e,ex,_⟩:=I.hok p _ hk
          exact⟨o,e,ex⟩
        . obtain⟨_,_,_,_,o,_,_,e,ex,_⟩:=I.hok p _ hk
          exact⟨o,e,ex⟩
      obtain⟨o,e,ex⟩:=z
      refine⟨⟨o,e,ex.1⟩,fun a e2=> ?_⟩
      cases e2
      exact⟨o,e,ex.2.1⟩
    . obtain⟨o,_,_,_,e,ex,_⟩:=I.hok p _ hk
      refine⟨⟨o,e,ex.1⟩,fun a e2=> ?_⟩
      cases e2
      exact⟨o,e,ex.2.1⟩
  | _=>exact False.elim ty
def Ank (K:PySem.W.Frag) (T:String) (r:V->List V->Hp->VK->Prop) (to:TE):TE:=fun σ H Q=>to σ H fun x H1=>tyV K T x H1/\r x [] H1 Q
def tBM (K:PySem.W.Frag) (T:String) (r:V->List V->Hp->VK->Prop) (to:TE) (t:TA):TE:=fun σ H Q=>to σ H fun x H1=>tyV K T x H1/\t σ H1 fun xs H2=>r x xs H2 Q
variable {o e:Expr}{es:List Expr}{to:TE}{t:TA}{name:Str}{apos cpos:Pos}{T id:String}{r:V->List V->Hp->VK->Prop}
theorem W0 (pa:PlainAttrs T) (slot:Slot T name id) (hty:typeOf (.builtin id)=pure (.type "method_descriptor")) (hm:MtR X id r) (ho:PE X o to)
    (hbase:attributeBase o name X.env (eval o X.env)=eval o X.env:=by rfl) (hline:(apos.endLine==cpos.line)=true:=by rfl):PE X (.Call (.Attribute o name apos) [] [] cpos) (Ank X.K T r to):=by
  intro pins s σ H Q I h
  refine wpAny_Call_method0_late hbase hline (thn (ho pins s σ H _ I h) fun v s1 ⟨x,H1,I1,r1,ty,q1⟩=> ?_)
  obtain⟨h1,h2⟩:=Ahv I1 r1 ty
  exact⟨T,id,pa,slot,hty,h1,h2,Calls.callWith_builtin rfl (PySem.evalArgs_none (hm pins s1 σ H1 x [] v [] Q I1 r1 .nil q1))⟩
theorem T7 (pa:PlainAttrs T) (slot:Slot T name id) (hty:typeOf (.builtin id)=pure (.type "method_descriptor")) (hm:MtR X id r) (ho:PE X o to) (ha:PA X (e::es) t)
    (hbase:attributeBase o name X.env (eval o X.env)=eval o X.env:=by rfl)
    (hfew:((backTo cpos (starEach (e::es) X.env)).all (fun x=> !x.1)&&(backToKw cpos (keywordEach [] X.env)).all (fun x=>x.1.isSome)
      &&decide ((e::es).length+([]:List Keyword).length+(if([]:List Keyword).isEmpty then 0 else 1)<30))=true:=by rfl)
    (hline:(apos.endLine==cpos.line)=true:=by rfl) (hs:starEach (e::es) X.env=(false,eval e X.env)::starEach es X.env:=by rfl) (hplain:(backTo cpos (starEach es X.env)).any (·.1)=false:=by rfl):
    PE X (.Call (.Attribute o name apos) (e::es) [] cpos) (tBM X.K T r to t):=by
  intro pins s σ H Q I h
  refine wpAny_Call_method_late hbase hfew hline rfl (thn (ho pins s σ H _ I h) fun v s1 ⟨x,H1,I1,r1,ty,q1⟩=> ?_)
  obtain⟨h1,h2⟩:=Ahv I1 r1 ty
  refine⟨T,id,pa,slot,hty,h1,h2,?_⟩
  have hA:=ha cpos pins s1 σ H1 _ I1 q1
  rw [hs]at hA ⊢
  refine Calls.callWith_builtin (by show(false||(backTo cpos (starEach es X.env)).any (·.1))=false;rw [hplain]<;>rfl) (Calls.evalArgs_plain ?_)
  exact thn hA fun us s2 ⟨vs,H2,I2,r2,q2⟩=>hm pins s2 σ H2 x vs v us Q I2 r1 r2 q2
/-xs.append(e),list.index on a module's tuple .. are MtR facts of 06m-/
end
end L2
namespace L2
open PySem PySem.Spec PyProof.Rows
def MtM (X:Cx) (id:String) (r:V->List V->Hp->VK->Prop):Prop:=
  ∀(pins:List (Addr × Obj)) (s:Shared) (σ:St) (H:Hp) (x:V) (xs:List V) (v:Value) (us:List Value) (Q:VK),Inv X pins σ H s->RelV x v->Vals xs us->r x xs H Q->
    wpAny (model X.prog X.w) X.A (call (.builtin id) (v::us)) (EP X pins σ Q) X.xe s
theorem Vals.one:∀ {x:V}{us:List Value},Vals [x] us->∃u,us=[u]/\RelV x u
  | _,_,.cons r .nil=>⟨_,rfl,r⟩
theorem Vals.two:∀ {x y:V}{us:List Value},Vals [x,y] us->∃u v,us=[u,v]/\RelV x u/\RelV y v
  | _,_,_,.cons r (.cons q .nil)=>⟨_,_,rfl,r,q⟩
theorem Vals.zero:∀ {us:List Value},Vals [] us->us=[]
  | _,.nil=>rfl
theorem Vals.dropLast {xs:List V}{us:List Value} (h:Vals xs us):Vals xs.dropLast us.dropLast:=by
  induction h with
  | nil=>exact .nil
  | cons r t ih=>
    cases t with
    | nil=>exact .nil
    | cons q t'=>exact .cons r ih
theorem Vals.eraseIdx:∀ {xs:List V}{us:List Value} (i:Nat),Vals xs us->Vals (xs.eraseIdx i) (us.eraseIdx i)
  | _,_,_,.nil=> .nil
  | _,_,0,.cons _ t=>t
  | _,_,i+1,.cons r t=> .cons r (Vals.eraseIdx i t)
theorem Vals.reverse {xs:List V}{us:List Value} (h:Vals xs us):Vals xs.reverse us.reverse:=by
  induction h with
  | nil=>exact .nil
  | cons r t ih=>rw [List.reverse_cons,List.reverse_cons];exact Vals.append ih (.cons r .nil)
theorem Vals.rep {xs:List V}{us:List Value} (h:Vals xs us):∀k:Nat,Vals (List.replicate k xs).flatten (List.replicate k us).flatten
  | 0=> .nil
  | k+1=>by
    rw [List.replicate_succ,List.replicate_succ,List.flatten_cons,List.flatten_cons]
    exact Vals.append h (Vals.rep h k)
theorem Abr {α:Type} (l:List α):l.eraseIdx (l.length-1)=l.dropLast:=by
  induction l with
  | nil=>rfl
  | cons a r ih=>
    cases r with
    | nil=>rfl
    | cons b r=>
      have e:(a::b::r).length-1=((b::r).length-1)+1:=by
        have h1:(a::b::r).length=r.length+2:=rfl
        have h2:(b::r).length=r.length+1:=rfl
        omega
      rw [e,List.eraseIdx_cons_succ,ih]
      all_goals rfl
theorem foldl_rep (its:List Value):∀(k:Nat) (acc:List Value),
    List.foldl (fun x1 x2=>x1++x2) acc.toArray (List.replicate k its.toArray)=(acc++(List.replicate k its).flatten).toArray
  | 0,acc=>by simp
  | k+1,acc=>by
    have e:acc.toArray++its.toArray=(acc++its).toArray:=by simp
    have e2:(acc++its)++(List.replicate k its).flatten=acc++(List.replicate (k+1) its).flatten:=by
      rw [List.replicate_succ,List.flatten_cons,List.append_assoc]
    rw [<-e2,<-foldl_rep its k (acc++its),<-e,List.replicate_succ,List.foldl_cons]
section
variable {X:Cx}{pins:List (Addr × Obj)}{σ:St}{H:Hp}{s:Shared}{l b:Addr}{xs ys zs:List V}
theorem Inv.lset {its its':List Value}{n:Nat}{f:Array Value->Array Value}{t':Nat} (I:Inv X pins σ H s) (hH:H l=some (.lst xs))
    (e:s.heap.get? l=some { cls:= .type "list",data:= .seq its.toArray n}) (hf:f its.toArray=its'.toArray) (hv:Vals ys its') (hz:ys.length<=sizeLine):
    Inv X pins σ (upd H l (.lst ys)) { s with heap:=s.heap.update l (Obj.mapSeq f),toks:=t'}:=by
  have q:=PySem.IsL.update e f
  rw [hf]at q
  refine I.write (x:=l) (e:=l) (by rw [hH];exact trivial) (.inl rfl) (fun b' u hb hu=>(Heap.get?_update_other s.heap (Obj.mapSeq f) (Ne.symm hb)).trans hu) ⟨_,q⟩ ?_
  exact⟨hz,its',_,hv,q⟩
theorem Inv.lnew {its:List Value}{t':Nat} (I:Inv X pins σ H s) (hv:Vals ys its) (hz:ys.length<=sizeLine):
    Inv X pins σ (upd H s.heap.objs.size (.lst ys)) { s with heap:=s.heap.push { cls:= .type "list",data:= .seq its.toArray},toks:=t'}:=
  I.laid (fun _ _ q=>Heap.get?_push_of_some _ q) (Nat.le_refl _) ⟨hz,its,0,hv,Heap.get?_push_size _ rfl⟩
theorem Inv.fresh (I:Inv X pins σ H s):H s.heap.objs.size=none:=I.hok.fresh (Nat.le_refl _)
theorem Inv.lstM (I:Inv X pins σ H s) (hH:H l=some (.lst xs)):xs.length<=sizeLine/\∃(its:List Value) (n:Nat),Vals xs its/\xs.length=its.length/\s.heap.get? l=some { cls:= .type "list",data:= .seq its.toArray n}:=by
  obtain⟨z,its,n,r,e⟩:=I.hok l _ hH
  exact⟨z,its,n,r,r.length,e⟩
theorem Ag1 {n:Nat} (h:n<=sizeLine):Builtin.List.listTooLong n=false:=by
  unfold Builtin.List.listTooLong
  exact decide_eq_false (by omega)
end
section
variable {X:Cx}
def Ai3:V->List V->Hp->VK->Prop:=fun x vs H Q=>∃l xs y,x= .ref l/\vs=[y]/\H l=some (.lst xs)/\xs.length<sizeLine/\Q .non (upd H l (.lst (xs++ [y])))
theorem Mx:MtM X "list.append" Ai3:=by
  intro pins s σ H x vs v us Q I rx rv h
  obtain⟨l,xs,y,rfl,rfl,hH,hz,q⟩:=h
  cases rx
  obtain⟨u,rfl,ru⟩:=rv.one
  obtain⟨z,its,n,r,hl,e⟩:=I.lstM hH
  refine call_meets F.slot_list_append ⟨_,e,rfl⟩ F.entry_list_append (F.args_list_append_2 _ _) (PySem.list_append l its.toArray n u (by rw [List.size_toArray];omega)) ⟨e,?_⟩
  refine⟨.non,_,I.lset (its':=its++ [u]) hH e (by simp) (r.append (.cons ru .nil)) ?_,rfl,q⟩
  rw [List.length_append,List.length_singleton]
  omega
def Apa:V->List V->Hp->VK->Prop:=fun x vs H Q=>∃l xs y,x= .ref l/\vs=[]/\H l=some (.lst xs)/\xs[xs.length-1]? =some y/\Q y (upd H l (.lst xs.dropLast))
theorem Akr:MtM X "list.pop" Apa:=by
  intro pins s σ H x vs v us Q I rx rv h
  obtain⟨l,xs,y,rfl,rfl,hH,hy,q⟩:=h
  cases rx
  have hus:=rv.zero
  subst hus
  obtain⟨z,its,n,r,hl,e⟩:=I.lstM hH
  obtain⟨u,hu,ru⟩:=r.get hy
  have hy':its.toArray[its.toArray.size-1]? =some u:=by
    show its.toArray[its.length-1]? =some u
    rw [<-Array.getElem?_toList,<-hl]
    exact hu
  refine call_meets F.slot_list_pop ⟨_,e,rfl⟩ F.entry_list_pop (F.args_list_pop_1 _) (MeetsSeq.list_pop_last l its.toArray n u hy' (by rw [List.size_toArray];omega)) ⟨e,?_⟩
  refine⟨y,_,I.lset (its':=its.dropLast) hH e ?_ r.dropLast ?_,ru,q⟩
  . show its.toArray.eraseIdxIfInBounds (its.toArray.size-1)=its.dropLast.toArray
    rw [List.size_toArray,List.eraseIdxIfInBounds_toArray,Abr]
  . rw [List.length_dropLast]
    omega
def Aov:R2:=fun x y H Q=>∃l b xs zs,x= .ref l/\y= .ref b/\H l=some (.lst xs)/\H b=some (.lst zs)/\xs.length+zs.length<=sizeLine/\∀p,H p=none->Q (.ref p) (upd H p (.lst (xs++zs)))
theorem Alr:OpR X (binaryOp .Add) Aov:=by
  intro pins s σ H x y v u Q I rx ry h
  obtain⟨l,b,xs,zs,rfl,rfl,hH,hB,hz,q⟩:=h
  cases rx
  cases ry
  obtain⟨z,its,n,r,hl,e⟩:=I.lstM hH
  obtain⟨z2,its2,n2,r2,hl2,e2⟩:=I.lstM hB
  refine PySem.P.add_list e e2 ?_ (by rw [List.size_toArray,List.size_toArray];omega)
  have ea:its.toArray++its2.toArray=(its++its2).toArray:=by simp
  rw [ea]
  exact⟨.ref _,_,I.lnew (t':=s.toks) (r.append r2) (by rw [List.length_append];omega),rfl,q _ I.fresh⟩
def Aoy:R2:=fun x y H Q=>∃l k xs,x= .ref l/\y= .int k/\H l=some (.lst xs)/\ -(2^63)<=k/\k<2^63/\xs.length*k.toNat<=sizeLine/\
  ∀p,H p=none->Q (.ref p) (upd H p (.lst (List.replicate k.toNat xs).flatten))
theorem len_rep {α:Type} (xs:List α) (k:Nat):(List.replicate k xs).flatten.length=k*xs.length:=by
  induction k with
  | zero=>simp
  | succ k ih=>rw [List.replicate_succ,List.flatten_cons,List.length_append,ih,Nat.succ_mul,Nat.add_comm]
theorem Aah:OpR X (binaryOp .Mult) Aoy:=by
  intro pins s σ H x y v u Q I rx ry h
  obtain⟨l,k,xs,rfl,rfl,hH,h1,h2,hz,q⟩:=h
  cases rx
  obtain⟨t,rfl⟩:=ry
  obtain⟨z,its,n,r,hl,e⟩:=I.lstM hH
  have hlen:its.toArray.size*k.toNat<=sizeLine:=by rw [List.size_toArray,<-hl];exact hz
  have hcap:¬its.toArray.size*k.toNat>(2^63-1)/8:=by
    have:(sizeLine:Nat)<=(2^63-1)/8:=by decide
    omega
  have hfit:¬(!Builtin.List.listFitsIndex k)=true:=by
    rw [fitsIndex_both h1 h2]
    exact Bool.false_ne_true
  have hlong:¬Builtin.List.listTooLong (its.toArray.size*k.toNat)=true:=by
    rw [Ag1 hlen]
    exact Bool.false_ne_true
  have hnew:List.foldl (fun x1 x2=>x1++x2) #[] (List.replicate (if its.toArray.isEmpty=true then 0 else k.toNat) its.toArray)=(List.replicate k.toNat its).flatten.toArray:=by
    have f0:∀m:Nat,List.foldl (fun x1 x2=>x1++x2) #[] (List.replicate m its.toArray)=(List.replicate m its).flatten.toArray:=fun m=>by
      have:=foldl_rep its m []
      rw [List.nil_append]at this
      exact this
    rw [f0]
    cases its with
    | nil=>simp
    | cons a r'=>rw [if_neg (by simp)]
  refine wpAny_binaryOp_repeat_ref (T:="list") (U:="int") (by decide) ⟨_,e,rfl⟩ (fun s'=>typeIs_int s' k t) noFill_list_mul F.fills_int_mul F.slot_int_rmul repeat_list F.slot_int_index.lookup
    (call_meets F.slot_int_rmul (typeIs_int s k t) F.entry_int_rmul (F.args_int_rmul_2 _ _) (int___rmul___int_list k t l its.toArray n)
      ⟨e,rfl,⟨_,e,rfl⟩,call_meets F.slot_list_mul ⟨_,e,rfl⟩ F.entry_list_mul (F.args_list_mul_2 _ _) (AutoListH.list___mul___list_int_3 l its.toArray n k t hfit hcap hlong) ⟨e,?_⟩⟩)
  rw [hnew]
  exact⟨.ref _,_,I.lnew (t':=s.toks) (r.rep k.toNat) (by rw [len_rep,Nat.mul_comm];exact hz),rfl,q _ I.fresh⟩
end
end L2
namespace Att
open PySem PySem.W PySem.Calls PyProof.Rows
theorem T4 {P:Params}{h:Heap}:∀(ns:List Int) (vs:List Value),WellAll P h vs (ns.map WData.int)->IntsAre vs ns:=by
  intro ns
  induction ns with
  | nil=>
    intro vs w
    rw [List.map_nil]at w
    cases w
    exact .nil
  | cons n ns ih=>
    intro vs w
    rw [List.map_cons]at w
    cases w with
    | cons a b=>
      cases a
      exact .cons _ _ (ih _ b)
theorem Aex {l:OpenLaw}{n:Nat} (hn:l.most=some n) {P:Params}{h:Heap}{args:List WData}{vals:List Value}
    (hpre:l.row.toRowW.claim.pre args=true) (hwl:WellAll P h vals args):
    ∃a vs ns,vals=[Value.ref a]/\args=[WData.list (ns.map WData.int)]/\h.get? a=some { cls:= .type "list",data:= .seq vs.toArray}/\IntsAre vs ns/\ns.length<=n:=by
  have hsh:WShape.hasAll [] args [.list .int]=true:=(pre_splitW hpre).1
  have hc:l.pre.holds [] { args:=args}=true:=(pre_splitW hpre).2
  obtain⟨d,r,rfl,h1,h2⟩:=hasAllW_cons hsh
  obtain rfl:=hasAllW_nil h2
  obtain⟨xs,rfl,h3⟩:=hasW_list h1
  obtain⟨ns,rfl⟩:=items_int h3
  have hlen:ns.length<=n:=by
    unfold OpenLaw.pre at hc
    have h4:(WTm.not (.lt (.lit (.int (n:Int))) (.len (.arg 0)))).holds [] { args:=[.list (ns.map .int)]}=true:=by
      have h4:=(holds_andW hc).1
      rw [hn]at h4
      exact h4
    have h5:=condW_of h4 (w_not (w_lt w_lit (w_len_list (w_arg rfl))))
    rw [List.length_map]at h5
    refine Nat.le_of_not_lt fun q=> ?_
    have q':(n:Int)<((ns.length:Nat):Int):=by omega
    first
      | (rw [decide_eq_true q']at h5;exact absurd h5 (by decide))
      | (simp at h5;omega)
  cases hwl with
  | cons w1 w2=>
    cases w2
    cases w1 with
    | list ho hall=>exact⟨_,_,ns,rfl,rfl,ho,T4 ns _ hall,hlen⟩
theorem Aee (l:OpenLaw) (args:List WData):l.row.toRowW.claim.post args (.bool true) args=true:=
  postW_of (r:=l.row.toRowW) (X:=(true==true))
    (show WShape.has [] (.bool true) .bool=true by first | rfl | decide | simp [WShape.has,WShape.arms,WShape.armsAll])
    (show(WTm.eq .res (.lit (.bool true))).value [] { args:=args,res:=some (.bool true),after:=args}=some (.bool (true==true))from w_eq_bool (w_res rfl) w_lit) rfl
theorem Yz {l:OpenLaw}{n:Nat}{q:Program}{loose:List Str}{XP:(Str->Option Value)->Heap->Prop}{YP:World->Heap->Prop}{d:DefRec}
    (hn:l.most=some n) (hdf:d.params.defaults=[])
    (call:∀(w:World) (s₀ s₁:Shared) (mg mb:Str->Option Value) (fa:Addr) (o:Obj) (pm cd doc:Value) (a:Addr) (vs:List Value) (ns:List Int),
      Ground q loose [] XP w s₀ mg mb s₁.heap->YP w s₁.heap->
      s₁.heap.get? fa=some o->o.data= .func (docDef d.name d.params d.body d.scope pm cd doc)->s₁.heap.CodeRec cd d.name->mg d.name=some (.ref fa)->
      s₁.heap.get? a=some { cls:= .type "list",data:= .seq vs.toArray}->IntsAre vs ns->ns.length<=n->s₁.gens= #[]->
      codeAny (model l.prog w) callerA (.call (.ref fa) ⟨[.ref a],[]⟩) (fun r s'=>r= .ok (.ret (.bool true))/\OldK s₁.heap s'.heap/\s'.os=s₁.os/\AllBare s'.gens) s₁):
    WalkO q loose XP YP l.row.toRowW d [] (fun f vs=>PySem.call f vs):=by
  intro w s₀ s₁ mg mb G Y fa o pm cd doc dV kV ho hd hcd hD hmg hg args vals as hpre hlay hrd hwl hlo
  obtain rfl:dV= .none:=Dflts.none hD hdf
  obtain rfl:kV= .none:=Dflts.noKw hD
  obtain⟨a,vs,ns,rfl,rfl,hobj,hints,hlen⟩:=Aex hn hpre hwl
  refine enter_call (codeAny_mono (call w s₀ s₁ mg mb fa o pm cd doc a vs ns G Y ho (fd_plain hd) hcd hmg hobj hints hlen hg) fun r s' hq=> ?_)
  obtain⟨rfl,h2,h3,h4⟩:=hq
  exact⟨.inl ⟨.bool true,.bool true,[],rfl,fun _=>rfl,.bool true,Aee l _,fun _=>⟨List.Pairwise.nil,fun _ hm=>(nomatch hm)⟩⟩,h2,h3,h4⟩
end Att
namespace L2
open PySem PySem.Spec PyProof.Rows
theorem W6:∀ {vs:List Value}{ns:List Int},IntsAre vs ns->Vals (ns.map V.int) vs
  | _,_,.nil=> .nil
  | _,_,.cons n t h=> .cons ⟨t,rfl⟩ (W6 h)
def Only (H:Hp):Prop:=∀b,H b=none\/∃o xs,H b=some (.frz o (.lst xs))
end L2
/-THE LAST THEOREM (shape;LID,My.*are yours):
   My.Adr:a structure of the addresses that your layer names (classes,functions);My.Txt K t:a structure (Prop) of the equations over K;
   My.txt_mk:{K}{implicit addresses ..} (e1:nsIn K mainGlobals "law"=some (some (.ref f))) (e2:K.lookup f=some ⟨oc,od,.func (fnOf "law" "law" params body scope dV kV doc pm an cdv ct),sl⟩) (e3:codeIn K cdv "law"=true) .. :∃t,My.Txt K t
set_option maxRecDepth 100000 in
set_option maxHeartbeats 0 in
theorem PySem.Challenge.cw_LID_holds : PySem.Challenge.rw_LID.Holds := by
  w_on;o_law;k_head;(case hw=>w_witness2)
  k_fill
  refine L2.walk_of (l:=PySem.Challenge.rw_LID) (n:=63) (k:=40) (x:="script") (CX:=fun w=> ..) (sp:=fun _=>My.sp_law) rfl (by decide) rfl ⟨rfl,by decide,by decide⟩ (fun w h Y=>PySem.W.kIn_of Y) ?F ?S ?C
  case F=>
    intro w mg fa h KX G hmg
    have T:∃t,My.Txt (L2.KOf KX) t:=by
      dsimp only [L2.KOf]                          --K must stand as «<heap const>w.params» for k_is
      refine' My.txt_mk ?e1 ?e2 ?e3 ..
      (case e1=>PySem.W.k_is)                    --in the order:a name->its address->its object->its parts
      (case e2=>PySem.W.k_is)
      ..
    obtain⟨t,T⟩:=T
    have e0:=hmg.symm.trans (PySem.W.mg_of KX G T.law)
    cases e0                                       --fa is the law's own address
    exact⟨_,fun s u=> .of_eq rfl,fun base kb nb=>My.law_fn T kb nb⟩     --if «.of_eq rfl» comes too early:refine' ⟨_,?b,fun base kb nb=>My.law_fn T kb nb⟩;exact fun s u=> .of_eq rfl
  case S=>exact fun w H a ns hl hO hS=> ..
  case C=>exact ..
(the tactic k_is has no namespace:write k_is)-/
namespace L2
open PySem PySem.Spec PyProof.Rows
def Ou (s:Stmt):Arguments:=match s with
  | .FunctionDef _ a _ _ _ _ _ _ _ _=>a
  | _=>{ posonlyargs:=[],args:=[],vararg:=none,kwonlyargs:=[],kw_defaults:=[],kwarg:=none,defaults:=[]}
def Lx (s:Stmt):List Stmt:=match s with
  | .FunctionDef _ _ b _ _ _ _ _ _ _=>b
  | _=>[]
def Ag (s:Stmt):Scope:=match s with
  | .FunctionDef _ _ _ _ _ _ sc _ _ _=>sc
  | _=>{ kind:= .function,names:=[],isGenerator:=false,isCoroutine:=false}
abbrev CX0:CXT:=fun _ _ _ _ _ _=>False
abbrev E0:XK:=fun _ _ _=>False
theorem Aj7 {X:Cx}:Passes CX0 X E0:=fun _ _ _ _ _ _ _ h=>h.elim
structure Fun (K:PySem.W.Frag) (x qual:Str) (st:Stmt) (f:Addr) (fd:FuncData):Prop where
  ex:∃(oc:Value) (od:Option Addr) (kV doc pm:Value) (an:Option Addr) (cdv ct:Value) (osl:Array (Option Value)),
    fd=PySem.W.fnOf x qual (Ou st) (Lx st) (Ag st) .none kV doc pm an cdv ct/\K.lookup f=some ⟨oc,od,.func fd,osl⟩/\PySem.W.codeIn K cdv qual=true
  kp:PySem.W.keepIn K (.ref f)=true
section
variable {P:Program}{w:World}{K:PySem.W.Frag}{mg:Str->Option Value}{base:Heap}
theorem Fun.ok {x qual:Str}{st:Stmt}{f:Addr}{fd:FuncData}{N ps:List Str}{k:Nat}{sp:Sp} (F:Fun K x qual st f fd) (S:Aq N ps (Ag st)) (len:∀vs H Q E,sp vs H Q E->vs.length=ps.length)
    (hbody:∀(cdv:Value) (A:Around) (outer:List Env) (s:Shared) (H:Hp) (vs:List V) (Q:VK) (E:XK),Mg k (A.deeper (envOfC qual (Ag st) s.heap.objs.size f cdv))->sp vs H Q E->
      ∃t,PSs (Tf CX0 P w K mg base N qual (Ag st) f cdv A outer s H E).nox (Lx st) t/\t { nx:=fun _ H'=>Q .non H',rt:=Q} (start N vs) H):Uw P w K mg base CX0 (k+1) f fd ps sp:=by
  obtain⟨oc,od,kV,doc,pm,an,cdv,ct,osl,rfl,lk,hcd⟩:=F.ex
  refine Akq lk hcd S len fun A outer s H vs Q E hr hsp=> ?_
  obtain⟨t,h,q⟩:=hbody cdv A outer s H vs Q E hr hsp
  exact⟨t,h.nox,q⟩
theorem Fun.binds {x qual:Str}{st:Stmt}{f:Addr}{fd:FuncData}{ps:List Str} (F:Fun K x qual st f fd)
    (h:∀(kV doc pm:Value) (an:Option Addr) (cdv ct:Value) (us:List Value),us.length=ps.length->bindArgs (PySem.W.fnOf x qual (Ou st) (Lx st) (Ag st) .none kV doc pm an cdv ct) ⟨us,[]⟩=pure (ps.zip us)):Binds K fd ps []:=by
  obtain⟨oc,od,kV,doc,pm,an,cdv,ct,osl,rfl,lk,hcd⟩:=F.ex
  exact .all (h kV doc pm an cdv ct)
theorem Aha {x qual:Str}{st:Stmt}{f:Addr}{oc:Value}{od an:Option Addr}{osl:Array (Option Value)}{kV doc pm cdv ct:Value} (l:K.lookup f=some ⟨oc,od,.func (PySem.W.fnOf x qual (Ou st) (Lx st) (Ag st) .none kV doc pm an cdv ct),osl⟩)
    (c:PySem.W.codeIn K cdv qual=true) (k:PySem.W.keepIn K (.ref f)=true):Fun K x qual st f (PySem.W.fnOf x qual (Ou st) (Lx st) (Ag st) .none kV doc pm an cdv ct):=⟨⟨oc,od,kV,doc,pm,an,cdv,ct,osl,rfl,l,c⟩,k⟩
end
section
variable {X:Cx}
theorem pv (i:Nat) {x:Str}{pos:Pos} (hN:X.N[i]? =some x:=by rfl) (hv:Vis X.env.scope x:=by first | exact Or.inl rfl | exact Or.inr (Or.inl rfl) | exact Or.inr (Or.inr rfl)) (hd:(x==("__debug__":Str))=false:=by decide)
    (hcd:(x==("__classdict__":Str))=false:=by decide):PE X (.Name x pos) (Ahc i):=Amh hN hv hd hcd
end
def Same (H H':Hp):Prop:=∀b o,H b=some o->H' b=some o
theorem Same.refl (H:Hp):Same H H:=fun _ _ h=>h
theorem Same.trans {H H1 H2:Hp} (a:Same H H1) (b:Same H1 H2):Same H H2:=fun c o h=>b c o (a c o h)
theorem Same.free {H H':Hp} (e:Same H H') {l:Addr} (h:H' l=Option.none):H l=Option.none:=by
  cases q:H l with
  | none=>rfl
  | some o=>
    rw [e l o q]at h
    cases h
theorem Same.seq {K:PySem.W.Frag}{H H':Hp}{a:Addr}{xs:List V} (e:Same H H') (h:SqL K H a xs):SqL K H' a xs:=by
  rcases h with(h | ⟨o,h⟩) | h
  . exact .inl (.inl (e _ _ h))
  . exact .inl (.inr ⟨o,e _ _ h⟩)
  . exact .inr h
end L2
namespace L2
open PySem PySem.Spec PyProof.Rows
def Cal (P:Program) (w:World) (K:PySem.W.Frag) (mg:Str->Option Value) (base:Heap) (k:Nat) (x:Str) (ps:List Str) (sp:Sp):Prop:=
  ∃f fd,Uw P w K mg base CX0 k f fd ps sp/\mg x=some (.ref f)/\PySem.W.keepIn K (.ref f)=true/\Binds K fd ps []
structure Df (K:PySem.W.Frag) (mg:Str->Option Value) (x:Str) (st:Stmt) (ps:List Str) (f:Addr) (fd:FuncData):Prop where
  fn:Fun K x x st f fd
  bd:Binds K fd ps []
  at':mg x=some (.ref f)
theorem Df.cal {P:Program}{w:World}{K:PySem.W.Frag}{mg:Str->Option Value}{base:Heap}{k:Nat}{x:Str}{st:Stmt}{ps:List Str}{f:Addr}{fd:FuncData}{sp:Sp}
    (F:Df K mg x st ps f fd) (G:Uw P w K mg base CX0 k f fd ps sp):Cal P w K mg base k x ps sp:=⟨f,fd,G,F.at',F.fn.kp,F.bd⟩
theorem Af7 {X:Cx}{k:Nat}{x:Str}{ps:List Str}{sp:Sp}{p pos:Pos}{e:Expr}{es:List Expr}{t:TA}
    (C:Cal X.prog X.w X.K X.mg X.base k x ps sp) (hr:Mg k X.A) (ha:PA X (e::es) t) (hg:Gl X x:=by rfl) (hdb:(x==("__debug__":Str))=false:=by decide)
    (he:starEach (e::es) X.env=(false,eval e X.env)::starEach es X.env:=by rfl) (hpl:(backTo pos (starEach es X.env)).any (·.1)=false:=by rfl):
    PE X (.Call (.Name x p) (e::es) [] pos) (U0 sp [] E0 t):=by
  obtain⟨f,fd,G,a,b,c⟩:=C
  exact Aev G hr hg a b c .nil Aj7 ha hdb he hpl
def Sz (n:Nat) (a:Int):Prop:=a.natAbs<2^n
theorem Sz.mono {m n:Nat}{a:Int} (h:Sz m a) (l:m<=n):Sz n a:=Nat.lt_of_lt_of_le h (Nat.pow_le_pow_right (by decide) l)
theorem Sz.mul {m n:Nat}{a b:Int} (h:Sz m a) (g:Sz n b):Sz (m+n) (a*b):=by
  unfold Sz at*
  rw [Int.natAbs_mul,Nat.pow_add]
  exact Nat.mul_lt_mul'' h g
theorem Sz.add {m n:Nat}{a b:Int} (h:Sz m a) (g:Sz n b):Sz (max m n+1) (a+b):=by
  have h1:Sz (max m n) a:=h.mono (Nat.le_max_left _ _)
  have h2:Sz (max m n) b:=g.mono (Nat.le_max_right _ _)
  unfold Sz at*
  have:=Int.natAbs_add_le a b
  rw [Nat.pow_succ]
  omega
theorem Sz.neg {n:Nat}{a:Int} (h:Sz n a):Sz n (-a):=by
  unfold Sz at*
  rw [Int.natAbs_neg]
  exact h
theorem Sz.sub {m n:Nat}{a b:Int} (h:Sz m a) (g:Sz n b):Sz (max m n+1) (a-b):=by
  rw [Int.sub_eq_add_neg]
  exact h.add g.neg
theorem Sz.of_abs {n:Nat}{a b:Int} (h:Sz n b) (l:a.natAbs<=b.natAbs):Sz n a:=Nat.lt_of_le_of_lt l h
theorem Sz.mulOk {m n:Nat}{a b:Int} (h:Sz m a) (g:Sz n b) (l:m+n<=134217728):IntMulOk a b:=
  IntMulOk.of_le (PySem.intBits_le_iff.mpr h) (PySem.intBits_le_iff.mpr g) l
theorem Sz.log2 {n:Nat}{a:Int} (h:Sz n a) (h0:a≠0) (l:n<=9000):a.natAbs.log2<9000:=
  Nat.lt_of_lt_of_le ((Nat.log2_lt (by omega)).mpr h) l
section
variable {X:Cx}{a b:Expr}{ta tb:TE}{pos:Pos}
theorem Cg:OpR X (binaryOp .Mult) (rI IntMulOk fun i j=> .int (i*j)):=opI fun _ _ _ _ _ _ _ hc q=>mul_int q hc
end
mutual
inductive RdD (K:PySem.W.Frag) (H:Hp):V->PyData->Prop where
  | non:RdD K H .non .none
  | bl (b:Bool):RdD K H (.bl b) (.bool b)
  | int (i:Int):RdD K H (.int i) (.int i)
  | str (x:Str):RdD K H (.str x) (.str x)
  | tup {a:Addr}{xs:List V}{ds:List PyData}:SqT K H a xs->Aam K H xs ds->RdD K H (.ref a) (.tuple ds)
  | lst {a:Addr}{xs:List V}{ds:List PyData}:SqL K H a xs->Aam K H xs ds->RdD K H (.ref a) (.list ds)
inductive Aam (K:PySem.W.Frag) (H:Hp):List V->List PyData->Prop where
  | nil:Aam K H [] []
  | cons {x:V}{d:PyData}{xs:List V}{ds:List PyData}:RdD K H x d->Aam K H xs ds->Aam K H (x::xs) (d::ds)
end
section
variable {X:Cx}{pins:List (Addr × Obj)}{σ:St}{H:Hp}{s:Shared}
mutual
theorem RdD.reads (I:Inv X pins σ H s):∀ {x:V}{d:PyData}{u:Value},RdD X.K H x d->RelV x u->∃as,Reads s.heap u d as
  | _,_,_,.non,r=>by cases r;exact⟨_,.none⟩
  | _,_,_,.bl b,r=>by cases r;exact⟨_,.bool b⟩
  | _,_,_,.int i,r=>by obtain⟨t,rfl⟩:=r;exact⟨_,.int i t⟩
  | _,_,_,.str x,r=>by obtain⟨t,rfl⟩:=r;exact⟨_,.str x t⟩
  | _,_,_,.tup hq hr,r=>by
    cases r
    obtain⟨its,rv,pl,hz⟩:=I.tuple hq
    obtain⟨as,q⟩:=Aam.reads I hr rv
    obtain⟨o,ho,hc,n,hd⟩:=pl
    exact⟨_,.tuple ho hc hd (by simpa using q)⟩
  | _,_,_,.lst hq hr,r=>by
    cases r
    obtain⟨its,rv,pl,hz⟩:=I.list hq
    obtain⟨as,q⟩:=Aam.reads I hr rv
    obtain⟨o,ho,hc,n,hd⟩:=pl.isList
    exact⟨_,.list ho hc hd (by simpa using q)⟩
theorem Aam.reads (I:Inv X pins σ H s):∀ {xs:List V}{ds:List PyData}{us:List Value},Aam X.K H xs ds->Vals xs us->∃as,ReadsAll s.heap us ds as
  | _,_,_,.nil,r=>by cases r;exact⟨_,.nil⟩
  | _,_,_,.cons h t,r=>by
    cases r with
    | cons r1 r2=>
      obtain⟨as,q⟩:=RdD.reads I h r1
      obtain⟨bs,p⟩:=Aam.reads I t r2
      exact⟨_,.cons q p⟩
end
end
theorem Aam.ints {K:PySem.W.Frag}{H:Hp}:∀ns:List Int,Aam K H (ns.map V.int) (ns.map PyData.int)
  | []=> .nil
  | n::r=> .cons (.int n) (Aam.ints r)
theorem RdD.ints {K:PySem.W.Frag}{H:Hp}{a:Addr}{ns:List Int} (h:SqT K H a (ns.map V.int)):RdD K H (.ref a) (.tuple (ns.map PyData.int)):= .tup h (.ints ns)
theorem RdD.lints {K:PySem.W.Frag}{H:Hp}{a:Addr}{ns:List Int} (h:SqL K H a (ns.map V.int)):RdD K H (.ref a) (.list (ns.map PyData.int)):= .lst h (.ints ns)
theorem Qj:∀ns ms:List Int,PyData.eqvAll (ns.map PyData.int) (ms.map PyData.int)=decide (ns=ms)
  | [],[]=>by simp [PyData.eqvAll]
  | [],_::_=>by simp [PyData.eqvAll]
  | _::_,[]=>by simp [PyData.eqvAll]
  | a::r,b::t=>by
    simp only [List.map_cons,PyData.eqvAll,PyData.eqv,Qj r t]
    by_cases h:a=b<;>by_cases h':r=t<;>simp [h,h']
theorem shaped_ints (ns:List Int):SeqAt.shaped (.tuple (ns.map PyData.int))=true:=by
  simp [SeqAt.shaped,PyData.canLay0,PyData.depth,PySem.W.ke_canLayAll0,PySem.W.ke_depthAll]
section
variable {X:Cx}
def Am5 (K:PySem.W.Frag) (f:Bool->Bool):R2:=fun x y H Q=>∃d e,RdD K H x d/\RdD K H y e/\SeqAt.shaped d=true/\SeqAt.shaped e=true/\Q (.bl (f (PyData.eqv d e))) H
theorem Ah9 (hu:X.A.units+64<cLine):OpR X (compareOp .Eq) (Am5 X.K fun b=>b):=by
  intro pins s σ H x y v u Q I rx ry h
  obtain⟨d,e,hd,he,s1,s2,q⟩:=h
  obtain⟨as,r1⟩:=RdD.reads I hd rx
  obtain⟨bs,r2⟩:=RdD.reads I he ry
  exact eq_dataH r1 r2 s1 s2 hu ⟨.bl _,H,I,rfl,q⟩
theorem Ag4 (hu:X.A.units+64<cLine):OpR X (compareOp .NotEq) (Am5 X.K fun b=> !b):=by
  intro pins s σ H x y v u Q I rx ry h
  obtain⟨d,e,hd,he,s1,s2,q⟩:=h
  obtain⟨as,r1⟩:=RdD.reads I hd rx
  obtain⟨bs,r2⟩:=RdD.reads I he ry
  exact ne_dataH r1 r2 s1 s2 hu ⟨.bl _,H,I,rfl,q⟩
def Anw (K:PySem.W.Frag) (f:Bool->Bool):R2:=fun x y H Q=>∃(a b:Addr) (ns ms:List Int),x= .ref a/\y= .ref b/\SqT K H a (ns.map V.int)/\SqT K H b (ms.map V.int)/\Q (.bl (f (decide (ns=ms)))) H
theorem J2 (hu:X.A.units+64<cLine):OpR X (compareOp .Eq) (Anw X.K fun b=>b):=by
  intro pins s σ H x y v u Q I rx ry h
  obtain⟨a,b,ns,ms,rfl,rfl,ha,hb,q⟩:=h
  exact Ah9 hu pins s σ H _ _ v u Q I rx ry ⟨_,_,.ints ha,.ints hb,shaped_ints _,shaped_ints _,by rw [PyData.eqv,Qj];exact q⟩
theorem Vg (hu:X.A.units+64<cLine):OpR X (compareOp .NotEq) (Anw X.K fun b=> !b):=by
  intro pins s σ H x y v u Q I rx ry h
  obtain⟨a,b,ns,ms,rfl,rfl,ha,hb,q⟩:=h
  exact Ag4 hu pins s σ H _ _ v u Q I rx ry ⟨_,_,.ints ha,.ints hb,shaped_ints _,shaped_ints _,by rw [PyData.eqv,Qj];exact q⟩
theorem Wj:K6 X (.builtin "isinstance") (fun xs H Q=>∃x t T b,xs=[x,.ty T]/\Yr X.K H x t/\PySem.W.kitOne X.K t (.type T)=some b/\Q (.bl b) H):=by
  intro pins s σ H xs us Q I r h
  obtain⟨x,t,T,b,rfl,ht,hk,q⟩:=h
  obtain⟨u,c,rfl,ru,rc⟩:=vals2 r
  cases rc
  exact Acg I ru ht hk fun tk=>⟨.bl b,H,I.tok tk,rfl,q⟩
end
theorem Same.tup {K:PySem.W.Frag}{H H':Hp}{a:Addr}{xs:List V} (e:Same H H') (h:SqT K H a xs):SqT K H' a xs:=by
  rcases h with(h | ⟨o,h⟩) | h
  . exact .inl (.inl (e _ _ h))
  . exact .inl (.inr ⟨o,e _ _ h⟩)
  . exact .inr h
theorem Same.upd {H:Hp}{p:Addr} (h:H p=none) (o:HO):Same H (upd H p o):=fun b u q=>by
  rw [Bv (Bt q h)]
  exact q
end L2
namespace L2
open PySem PySem.Spec PyProof.Rows
section
variable {X:Cx}{K:PySem.W.Frag}{σ:St}{H:Hp}{Q:VK}{D:Ends}{B:Bool->Hp->Prop}
theorem Ib {t u:TS}:Amo t u D σ H=t { D with nx:=u D} σ H:=rfl
theorem Fv:Ajq D σ H=D.nx σ H:=rfl
theorem Il {c:TT}{t u:TS}:An1 c t u D σ H=c σ H (fun b H1=>if b=true then t D σ H1 else u D σ H1):=rfl
theorem Ii {te:TE}:Amv te D σ H=te σ H D.rt:=rfl
theorem Fz {te:TE}:Aiz te D σ H=te σ H (fun _ H1=>D.nx σ H1):=rfl
theorem Hy {te:TE}{g:TG}:Ai5 te g D σ H=te σ H (fun x H1=>g x σ H1 D.nx):=rfl
theorem Bw {i:Nat}{v:V}{R:St->Hp->Prop}:Ys i v σ H R=R (σ.set i (some v)) H:=rfl
theorem Hu {i j:Nat}{ta:TA}:An7 i j ta D σ H=ta σ H (fun vs H1=>∃v w,vs=[v,w]/\D.nx ((σ.set i (some v)).set j (some w)) H1):=rfl
theorem Em {v:V}{r:St}:Ahc 0 (some v::r) H Q=Q v H:=propext ⟨fun⟨_,e,h⟩=>by cases e;exact h,fun h=>⟨v,rfl,h⟩⟩
theorem Ef {i:Nat}{o:Option V}{r:St}:Ahc (i+1) (o::r) H Q=Ahc i r H Q:=rfl
theorem z_c {v:V}:tC v σ H Q=Q v H:=rfl
theorem Pj {r:R2}{ta tb:TE}:tOp r ta tb σ H Q=ta σ H (fun x H1=>tb σ H1 fun y H2=>r x y H2 Q):=rfl
theorem Qq {r:V->Hp->VK->Prop}{ta:TE}:tUn r ta σ H Q=ta σ H (fun x H1=>r x H1 Q):=rfl
theorem Qx {C:Int->Int->Prop}{g:Int->Int->V}{i j:Int}:rI C g (.int i) (.int j) H Q=(C i j/\Q (g i j) H):=
  propext ⟨fun⟨_,_,e,f,h⟩=>by cases e;cases f;exact h,fun h=>⟨i,j,rfl,rfl,h⟩⟩
theorem Iz {g:Int->Int->V}{i j:Int}:rI0 g (.int i) (.int j) H Q=Q (g i j) H:=
  propext ⟨fun⟨_,_,e,f,h⟩=>by cases e;cases f;exact h,fun h=>⟨i,j,rfl,rfl,h⟩⟩
theorem Qu {g:Int->V}{i:Int}:rU g (.int i) H Q=Q (g i) H:=propext ⟨fun⟨_,e,h⟩=>by cases e;exact h,fun h=>⟨i,rfl,h⟩⟩
theorem Iw {i j:Int}:rEq (.int i) (.int j) H Q=Q (.bl (decide (i=j))) H:=by
  unfold rEq
  simp only [Ake,V.int.injEq,true_and]
theorem Hw {i j:Int}:rNe (.int i) (.int j) H Q=Q (.bl (!decide (i=j))) H:=by
  unfold rNe
  simp only [Ake,V.int.injEq,true_and]
theorem Im {i j:Bool}:rEq (.bl i) (.bl j) H Q=Q (.bl (decide (i=j))) H:=by
  unfold rEq
  simp only [Ake,V.bl.injEq,true_and]
theorem Hz {i j:Bool}:rNe (.bl i) (.bl j) H Q=Q (.bl (!decide (i=j))) H:=by
  unfold rNe
  simp only [Ake,V.bl.injEq,true_and]
theorem Ea {t:TE}:Akc t σ H B=t σ H (fun x H'=>∃k,x= .bl k/\B k H'):=rfl
theorem Qp {t:TE}:tB t σ H B=t σ H (fun x H'=>∃k,x= .bl k/\B k H'):=rfl
theorem Hr {b:Bool}{p:Bool->Prop}:(∃k,V.bl b= .bl k/\p k)=p b:=propext ⟨fun⟨_,e,h⟩=>by cases e;exact h,fun h=>⟨b,rfl,h⟩⟩
theorem Ij {b:Int}{p:Int->Prop}:(∃k,V.int b= .int k/\p k)=p b:=propext ⟨fun⟨_,e,h⟩=>by cases e;exact h,fun h=>⟨b,rfl,h⟩⟩
theorem Ip {a b:V}{p:V->V->Prop}:(∃v w,[a,b]=[v,w]/\p v w)=p a b:=propext ⟨fun⟨_,_,e,h⟩=>by cases e;exact h,fun h=>⟨a,b,rfl,h⟩⟩
theorem Fg {b:Int}{p:Int->Prop}:(∃k,[V.int b]=[.int k]/\p k)=p b:=propext ⟨fun⟨_,e,h⟩=>by cases e;exact h,fun h=>⟨b,rfl,h⟩⟩
theorem Fq {a b:Int}{p:Int->Int->Prop}:(∃i j,[V.int a,V.int b]=[.int i,.int j]/\p i j)=p a b:=propext ⟨fun⟨_,_,e,h⟩=>by cases e;exact h,fun h=>⟨a,b,rfl,h⟩⟩
theorem Ie {t:TT}:An9 t σ H B=t σ H (fun c H1=>B (!c) H1):=rfl
theorem Hs {t u:TT}:Anl t u σ H B=t σ H (fun c H1=>if c=true then u σ H1 B else B false H1):=rfl
theorem Qs {t u:TT}:tOr t u σ H B=t σ H (fun c H1=>if c=true then B true H1 else u σ H1 B):=rfl
theorem Fj {ta tb:TE}:Ais ta tb σ H Q=ta σ H (fun x H1=>∃c,x= .bl c/\if c=true then tb σ H1 Q else Q (.bl false) H1):=rfl
theorem Ht {ta tb:TE}:An4 ta tb σ H Q=ta σ H (fun x H1=>∃c,x= .bl c/\if c=true then Q (.bl true) H1 else tb σ H1 Q):=rfl
theorem Er {ta:TE}:Ajh ta σ H Q=ta σ H (fun x H1=>∃c,x= .bl c/\Q (.bl (!c)) H1):=rfl
theorem Qw {t:TT}{ta tb:TE}:tIf t ta tb σ H Q=t σ H (fun c H1=>if c=true then ta σ H1 Q else tb σ H1 Q):=rfl
theorem Fi {sp:Sp}{dvs:List V}{E:XK}{t:TA}:U0 sp dvs E t σ H Q=t σ H (fun vs H1=>sp (vs++dvs) H1 Q E):=rfl
theorem Ia {R:List V->Hp->Prop}:Akh σ H R=R [] H:=rfl
theorem Ga {te:TE}{t:TA}{R:List V->Hp->Prop}:Af5 te t σ H R=te σ H (fun x H1=>t σ H1 fun xs H2=>R (x::xs) H2):=rfl
theorem Qt {r:List V->Hp->VK->Prop}{t:TA}:tCB r t σ H Q=t σ H (fun vs H1=>r vs H1 Q):=rfl
theorem Hq {t:TA}:Amz t σ H Q=t σ H (fun xs H1=>xs.length<=sizeLine/\∀p,H1 p=none->Q (.ref p) (upd H1 p (.tup xs))):=rfl
theorem Iv {t:TA}:Am2 t σ H Q=t σ H (fun xs H1=>xs.length<=sizeLine/\∀p,H1 p=none->Q (.ref p) (upd H1 p (.lst xs))):=rfl
theorem Cz {r r':R2}{ta tb tc:TE}:Ak6 r r' ta tb tc σ H Q=ta σ H (fun x H1=>tb σ H1 fun y H2=>r x y H2 fun z H3=>∃k,z= .bl k/\(if k=true then tc σ H3 fun w' H4=>r' y w' H4 Q else Q (.bl false) H3)):=rfl
theorem Dj {a:Addr}{xs:List V}{i:Int}{v:V} (h:SqT K H a xs) (e:atI xs i=some v) (q:Q v H):Aoj K (.ref a) (.int i) H Q:=⟨a,xs,i,v,rfl,rfl,h,e,q⟩
theorem Y7 {a:Addr}{xs:List V}{i:Int}{v:V} (h:SqL K H a xs) (e:atI xs i=some v) (q:Q v H):An2 K (.ref a) (.int i) H Q:=⟨a,xs,i,v,rfl,rfl,h,e,q⟩
end
def Amd (_ j:Int):Prop:=0<j/\j.natAbs.log2<9000
theorem Gb {X:Cx}:OpR X (binaryOp .FloorDiv) (rI Amd fun i j=> .int (i/j)):=opI fun i j _ _ _ _ _ hc q=>by
  have h:j≠0:=by have:=hc.1;omega
  refine floordiv_int h ?_ (.inl (PyProof.noPylong_of_log2 hc.2))
  rw [Int.fdiv_eq_ediv_of_nonneg _ (Int.le_of_lt hc.1)]
  exact q
theorem Fb:(1:Nat)<=sizeLine:=by decide
theorem Ep:(2:Nat)<=sizeLine:=by decide
end L2
namespace L2
open PySem PySem.Spec PyProof.Rows
def clF (env:Env) (cs:List (Str × Addr)) (x:Str × NameKind):List (Str × Addr):=if x.2== .free then(x.1,(env.cells.lookup x.1).getD 0)::cs else cs
theorem Aay {scope:Scope}{env:Env} (h:∀x∈scope.names,x.2= .free->∃c,env.cells.lookup x.1=some c):closureFor scope env=pure (scope.names.foldl (clF env) []):=by
  unfold closureFor
  have key:∀(names:List (Str × NameKind)) (init:List (Str × Addr)),(∀x∈names,x.2= .free->∃c,env.cells.lookup x.1=some c)->
      (forIn names init (fun(x:Str × NameKind) (cs:List (Str × Addr))=>(if x.2== .free then(do let c<-cellOf env x.1;pure (ForInStep.yield ((x.1,c)::cs)))else pure (ForInStep.yield cs):Sem (ForInStep (List (Str × Addr))))))=(pure (names.foldl (clF env) init):Sem (List (Str × Addr))):=by
    intro names
    induction names with
    | nil=>intro init _;rfl
    | cons x r ih=>
      intro init hx
      rw [List.forIn_cons,List.foldl_cons]
      by_cases hf:x.2= .free
      . obtain⟨c,hc⟩:=hx x List.mem_cons_self hf
        have e1:cellOf env x.1=pure c:=by unfold cellOf;rw [hc]
        have e2:clF env init x=(x.1,c)::init:=by unfold clF;rw [hf,hc];rfl
        rw [e2,<-ih _ fun y hy=>hx y (List.mem_cons_of_mem _ hy)]
        rw [hf,e1]
        rfl
      . have e0:(x.2==NameKind.free)=false:=by simpa using hf
        have e2:clF env init x=init:=by unfold clF;rw [e0];rfl
        rw [e2,<-ih _ fun y hy=>hx y (List.mem_cons_of_mem _ hy),e0]
        rfl
  exact(congrArg (fun m=>m>>=fun r=>pure r) (key scope.names [] h)).trans (by rfl)
theorem Wq {env:Env}:∀(names:List (Str × NameKind)) (init:List (Str × Addr)) (y:Str) (c:Addr),(∀x∈names,x.2= .free->∃c,env.cells.lookup x.1=some c)->(names.foldl (clF env) init).lookup y=some c->init.lookup y=some c\/env.cells.lookup y=some c
  | [],_,_,_,_,h=> .inl h
  | x::r,init,y,c,hx,h=>by
    rw [List.foldl_cons]at h
    rcases Wq r _ y c (fun z hz=>hx z (List.mem_cons_of_mem _ hz)) h with h1 | h1
    . unfold clF at h1
      by_cases hf:x.2= .free
      . obtain⟨d,hd⟩:=hx x List.mem_cons_self hf
        rw [hf,hd]at h1
        change List.lookup y ((x.1,d)::init)=some c at h1
        rw [List.lookup_cons]at h1
        cases hy:y==x.1 with
        | true=>
          rw [hy]at h1
          have:y=x.1:=by simpa using hy
          subst this
          exact .inr (hd.trans h1)
        | false=>
          rw [hy]at h1
          exact .inl h1
      . have e0:(x.2==NameKind.free)=false:=by simpa using hf
        rw [e0]at h1
        exact .inl h1
    . exact .inr h1
theorem Zr {env:Env}:∀(names:List (Str × NameKind)) (init:List (Str × Addr)) (y:Str),((∃x∈names,x.2= .free/\x.1=y)\/∃c,init.lookup y=some c)->∃c,(names.foldl (clF env) init).lookup y=some c
  | [],_,_,h=>by
    rcases h with⟨_,h,_⟩ | h
    . cases h
    . exact h
  | x::r,init,y,h=>by
    rw [List.foldl_cons]
    apply Zr r
    rcases h with⟨z,hz,hf,rfl⟩ | ⟨c,hc⟩
    . rcases List.mem_cons.mp hz with rfl | hz
      . refine .inr ⟨(env.cells.lookup z.1).getD 0,?_⟩
        unfold clF
        rw [hf]
        show List.lookup z.1 ((z.1,_)::init)=_
        rw [List.lookup_cons]
        simp
      . exact .inl ⟨z,hz,hf,rfl⟩
    . refine .inr ?_
      unfold clF
      by_cases hf:x.2= .free
      . rw [hf]
        show ∃c,List.lookup y ((x.1,_)::init)=some c
        rw [List.lookup_cons]
        cases y==x.1 with
        | true=>exact⟨_,rfl⟩
        | false=>exact⟨c,hc⟩
      . have e0:(x.2==NameKind.free)=false:=by simpa using hf
        rw [e0]
        exact⟨c,hc⟩
theorem X6 {prog:Program}{w:World}{A:Around}{R:Result->Shared->Prop}{s:Shared}{elt target iter:Expr}{ifs:List Expr}{scope:Scope}{pos:Pos}{it acc:Value}{env:Env} (I:Nat->Shared->Prop)
    (turn:∀n s,I n s->wpAny (model prog w) A (pyNext it) (fun r s₁=>match r with
      | none=>R (.ok .next) s₁
      | some v=>wpAny (model prog w) A (letOwnedTupleGo target it v) (fun _ s₀=>wpAny (model prog w) A (assign target env v) (fun _ s₂=>
          wpAny (model prog w) A (forIn ifs true fun c r=>if r=true then do let ok<-isTrue c env (eval c env);pure (ForInStep.yield ok)else pure (ForInStep.yield r)) (fun ok s₃=>
            if ok=true then wpAny (model prog w) A (eval elt env) (fun x s₄=>
              wpAny (model prog w) A (call (.builtin "list.append") [acc,x]) (fun _ s₅=>∃m,m<n/\I m s₅) (fun _ _=>False) s₄) (fun _ _=>False) s₃
            else ∃m,m<n/\I m s₃) (fun _ _=>False) s₂) (fun _ _=>False) s₀) (fun _ _=>False) s₁) (fun _ _=>False) s)
    (n:Nat) (h:I n s):
    codeAny (model prog w) A (.compLoop (.ListComp elt [⟨target,iter,ifs,0⟩] scope pos) 0 it acc env) R s:=by
  have no:∀(x:Value) (s':Shared),False->notedBy (model prog w) A env (fun e s'=>R (.error e) s') x s':=fun _ _ z=>z.elim
  refine codeAny_loop rfl I (fun n s hI=> ?_) n h
  show wpAny _ A ((compTurn (.ListComp elt [⟨target,iter,ifs,0⟩] scope pos) 0 it acc env).onRaise (fun x=>do noteFrame x env;theTreesLotGoes x)) _ _ s
  refine wpAny_noted ?_
  rw [compTurn_list]
  refine wpAny_bind (wpAny_standAt (wpAny_bind (wpAny_mono (turn n s hI) (fun r s₁ h₁=> ?_) no)))
  cases r with
  | none=>exact wpAny_pure h₁
  | some v=>
    refine wpAny_bind (wpAny_mono h₁ (fun _ s₀ h₀=> ?_) no)
    refine wpAny_bind (wpAny_mono h₀ (fun _ s₂ h₂=>wpAny_bind (wpAny_mono h₂ (fun ok s₃ h₃=> ?_) no)) no)
    cases ok with
    | false=>exact wpAny_pure ⟨rfl,h₃⟩
    | true=>
      exact wpAny_bind (wpAny_bind (wpAny_mono h₃ (fun x s₄ h₄=>wpAny_bind (wpAny_mono h₄ (fun _ s₅ h₅=>wpAny_pure (wpAny_pure ⟨rfl,h₅⟩)) no)) no))
def cxC (X:Cx) (N:List Str) (scope:Scope) (ex:List Addr) (s:Shared) (H:Hp):Cx where
  prog:=X.prog
  w:=X.w
  K:=X.K
  mg:=X.mg
  base:=X.base
  A:=X.A
  N:=N
  s₀:=s
  H₀:=H
  env:=compEnvC scope (scope.names.foldl (clF X.env) []) s.heap.objs.size X.env
  outer:=X.stack
  stack:=X.stack
  ex:=ex
  fn:=fun _=>false
  calm:=X.calm
  pn:=[]
  xe:=fun _ _=>False
structure Dp (X:Cx) (ts:List Str) (fs:List (Nat × Str)) (scope:Scope):Prop where
  kind:scope.kind= .function
  cell:∀y∈scope.names,y.2≠ .cell
  names:∀y∈scope.names,y.2= .local ->scope.names.lookup y.1=some .local
  free:∀y∈scope.names,y.2= .free->X.env.kindOf y.1=some .cell\/X.env.kindOf y.1=some .free
  at':∀p∈fs,X.N[p.1]? =some p.2/\(p.2,NameKind.free)∈scope.names/\((relabel scope X.env).names.lookup p.2=some .cell\/(relabel scope X.env).names.lookup p.2=some .free)
def rlb (sc scope:Scope):List (Str × NameKind):=scope.names.map fun(n,k)=>if(k==NameKind.free&&sc.kind== .function&&sc.names.lookup n==some .cell)then(n,NameKind.cell)else(n,k)
def Aoo (sc:Scope) (N:List Str) (fs:List (Nat × Str)) (scope:Scope):Bool:=
  (scope.kind== .function)&&(scope.names.all fun y=>y.2 != .cell)&&(scope.names.all fun y=>y.2 != .local ||scope.names.lookup y.1==some .local)&&
  (scope.names.all fun y=>y.2 != .free||(sc.names.lookup y.1==some .cell||sc.names.lookup y.1==some .free))&&
  fs.all fun p=>N[p.1]? ==some p.2&&(scope.names.contains (p.2,NameKind.free)&&((rlb sc scope).lookup p.2==some .cell||(rlb sc scope).lookup p.2==some .free))
theorem Dp.of {X:Cx}{ts:List Str}{fs:List (Nat × Str)}{scope sc:Scope}{N:List Str} (e1:X.env.scope=sc) (e2:X.N=N) (h:Aoo sc N fs scope=true):Dp X ts fs scope:=by
  unfold Aoo at h
  simp only [Bool.and_eq_true,List.all_eq_true,Bool.or_eq_true,bne_iff_ne,beq_iff_eq,List.contains_iff_mem]at h
  obtain⟨⟨⟨⟨h1,h2⟩,h3⟩,h4⟩,h5⟩:=h
  refine⟨h1,h2,fun y hy e=> ?_,fun y hy e=> ?_,fun p hp=> ?_⟩
  . rcases h3 y hy with z | z
    . exact absurd e z
    . exact z
  . rcases h4 y hy with z | z
    . exact absurd e z
    . show X.env.scope.names.lookup y.1=_\/X.env.scope.names.lookup y.1=_
      rw [e1]
      exact z
  . obtain⟨a,b,c⟩:=h5 p hp
    refine⟨by rw [e2];exact a,b,?_⟩
    subst e1
    exact c
def cpN (ts:List Str) (fs:List (Nat × Str)):List Str:=ts++fs.map (·.2)
def cpσ (n:Nat) (fs:List (Nat × Str)) (σ:St):St:=List.replicate n none++fs.map fun p=>(σ[p.1]?).join
theorem Mw {env:Env}{x:Str}{k':NameKind}:∀ {names:List (Str × NameKind)},(names.map fun(n,k)=>if(k==NameKind.free&&env.scope.kind== .function&&env.kindOf n==some .cell)then(n,NameKind.cell)else(n,k)).lookup x=some k'->
    ∃k,(x,k)∈names/\(k'=k\/(k= .free/\k'= .cell))
  | [],h=>by simp at h
  | (n,k)::r,h=>by
    rw [List.map_cons]at h
    dsimp only at h
    by_cases hc:(k==NameKind.free&&env.scope.kind== .function&&env.kindOf n==some .cell)=true
    . rw [if_pos hc,List.lookup_cons]at h
      cases hx:x==n with
      | true=>
        rw [hx]at h
        have e:x=n:=by simpa using hx
        subst e
        have hk:k= .free:=by
          rw [Bool.and_eq_true,Bool.and_eq_true]at hc
          simpa using hc.1.1
        exact⟨k,List.mem_cons_self,.inr ⟨hk,(Option.some.inj h).symm⟩⟩
      | false=>
        rw [hx]at h
        obtain⟨k2,h1,h2⟩:=Mw h
        exact⟨k2,List.mem_cons_of_mem _ h1,h2⟩
    . rw [if_neg hc,List.lookup_cons]at h
      cases hx:x==n with
      | true=>
        rw [hx]at h
        have e:x=n:=by simpa using hx
        subst e
        exact⟨k,List.mem_cons_self,.inl (Option.some.inj h).symm⟩
      | false=>
        rw [hx]at h
        obtain⟨k2,h1,h2⟩:=Mw h
        exact⟨k2,List.mem_cons_of_mem _ h1,h2⟩
def PTs (X:Cx) (ifs:List Expr) (t:TT):Prop:=
  ∀(pins:List (Addr × Obj)) (s:Shared) (σ:St) (H:Hp) (B:Bool->Hp->Prop),Inv X pins σ H s->t σ H B->
    wpAny (model X.prog X.w) X.A (forIn ifs true fun c r=>if r=true then do let ok<-isTrue c X.env (eval c X.env);pure (ForInStep.yield ok)else pure (ForInStep.yield r)) (TP X pins σ B) X.xe s
def Xg:TT:=fun _ H B=>B true H
theorem Jz {X:Cx}:PTs X [] Xg:=fun _ _ _ H _ I h=>wpAny_pure ⟨H,I,h⟩
def Kp (σ σ':St):Prop:=σ'.length=σ.length/\∀(i:Nat) v,σ[i]? =some (some v)->σ'[i]? =some (some v)
def cIn (J:It) (cσ:St) (g:TG) (tt:TT) (te:TE) (Q:VK) (H1:Hp) (p:Addr):Prop:=∃W:Nat->Nat->List V->Hp->Prop,(∃m,W 0 m [] (upd H1 p (.lst [])))/\∀i m acc H2,W i m acc H2->
  (J.stop i H2/\Q (.ref p) H2)\/(J.go i H2/\∀x H3,J.yld i H2 x H3->g x cσ H3 fun σ4 H4=>Kp cσ σ4/\tt σ4 H4 fun b H5=>
    if b=true then te σ4 H5 fun y H6=>H6 p=some (.lst acc)/\acc.length<sizeLine/\∃m',m'<m/\W (i+1) m' (acc++ [y]) (upd H6 p (.lst (acc++ [y])))else ∃m',m'<m/\W (i+1) m' acc H5)
def Abo (n:Nat) (fs:List (Nat × Str)) (wi:TI) (g:TG) (tt:TT) (te:TE):TE:=fun σ H Q=>wi σ H fun J H1=>∀p,H1 p=none->cIn J (cpσ n fs σ) g tt te Q H1 p
section
variable {X:Cx}{elt tg iter:Expr}{ifs:List Expr}{scope:Scope}{pos:Pos}{wi:TI}{g:TG}{tt:TT}{te:TE}{ts:List Str}{fs:List (Nat × Str)}
theorem Dp.clos (S:Dp X ts fs scope) (ok:X.Ok):∀x∈scope.names,x.2= .free->∃c,X.env.cells.lookup x.1=some c:=fun x hx hf=>ok.has x.1 (S.free x hx hf)
theorem Dp.sub (S:Dp X ts fs scope) (ok:X.Ok) {y:Str}{c:Addr} (h:(scope.names.foldl (clF X.env) []).lookup y=some c):X.env.cells.lookup y=some c:=by
  rcases Wq scope.names [] y c (S.clos ok) h with z | z
  . simp at z
  . exact z
theorem Ab0 {pins:List (Addr × Obj)}{σ:St}{H:Hp}{s3 s4:Shared}{ex:List Addr} (S:Dp X ts fs scope) (I:Inv X pins σ H s3)
    (hex:∀b∈ex,Yl X pins H b/\∃o,s3.heap.get? b=some o) (hos:s4.os=s3.os) (hg:s4.gens=s3.gens) (hk:∀b u,s3.heap.get? b=some u->s4.heap.get? b=some u)
    (hn:s4.heap.Ns s3.heap.objs.size fun _=>none):Inv (cxC X (cpN ts fs) scope ex s3 H) [] (cpσ ts.length fs σ) H s4:=by
  have ok:=I.ok
  have noC:∀b∈ex,b≠s3.heap.objs.size:=fun b hb=>by
    obtain⟨_,o,ho⟩:=hex b hb
    exact Nat.ne_of_lt (Heap.lt_size ho)
  refine⟨⟨ok.mod,S.kind,ok.glob,ok.blt,Nat.le_refl _,fun y z c h1 h2=>ok.inj y z c (S.sub ok h1) (S.sub ok h2),fun y hy=> ?_,fun y c h _=>absurd h (by intro z;cases z),ok.hd,ok.frames,.inl rfl,fun b hb=>⟨noC b hb,fun x c e=>(hex b hb).1.2.2.2.2.1 x c (S.sub ok e)⟩,
    I.bs,Nat.le_trans ok.bsz I.sz,fun b o e hb=> ?_,fun b hb=> ?_,I.stack,I.stkFree⟩,hos,by rw [hg];exact I.bare,Un.kept hk,⟨_,hn,fun i x v h1 h2 h3=> ?_⟩,fun y c e=> ?_,I.hok.fresh (Nat.le_refl _),fun y c e=>I.freeC y c (S.sub ok e),
    fun p hp=>absurd (show p∈([]:List (Addr × Obj))from hp) (by simp),I.hok.kept hk,?_⟩
  . have z:∃k',(k'=NameKind.cell\/k'= .free)/\(scope.names.map fun(n,k)=>if(k==NameKind.free&&X.env.scope.kind== .function&&X.env.kindOf n==some .cell)then(n,NameKind.cell)else(n,k)).lookup y=some k':=by
      rcases hy with hy | hy
      . exact⟨_,.inl rfl,hy⟩
      . exact⟨_,.inr rfl,hy⟩
    obtain⟨k',hk',hl⟩:=z
    obtain⟨k,hm,h2⟩:=Mw hl
    have hf:k= .free:=by
      rcases h2 with e | ⟨e,_⟩
      . subst e
        rcases hk' with e | e
        . exact absurd e (S.cell _ hm)
        . exact e
      . exact e
    exact Zr scope.names [] y (.inl ⟨_,hm,hf,rfl⟩)
  . rcases(hex b hb).1.2.2.2.1 with z | z
    . exact ok.noex b o e z
    . exact absurd (Nat.lt_of_lt_of_le (Heap.lt_size e) (Nat.le_trans ok.bsz z)) (Nat.lt_irrefl _)
  . intro hb2
    rcases List.mem_cons.mp (I.stkSub b hb2)with e | e
    . exact(hex b hb).1.2.1 e
    . exact(hex b hb).1.2.2.1 e
  . unfold cpσ at h2
    by_cases hi:i<ts.length
    . rw [List.getElem?_append_left (by simpa using hi),List.getElem?_replicate]at h2
      split at h2<;>cases h2
    . rw [List.getElem?_append_right (by simpa using hi),List.length_replicate]at h2
      have h1':(cpN ts fs)[i]? =some x:=h1
      unfold cpN at h1'
      rw [List.getElem?_append_right (by omega)]at h1'
      rw [List.getElem?_map]at h1' h2
      cases e:fs[i-ts.length]? with
      | none=>rw [e]at h1';cases h1'
      | some p=>
        rw [e]at h1' h2
        have ex':p.2=x:=Option.some.inj h1'
        have e2:(σ[p.1]?).join=some v:=Option.some.inj h2
        have e3:σ[p.1]? =some (some v):=by
          cases q:σ[p.1]? with
          | none=>rw [q]at e2;cases e2
          | some o=>rw [q]at e2;cases o with | none=>cases e2 | some v'=>cases e2;rfl
        obtain⟨a1,a2,a3⟩:=S.at' p (List.mem_of_getElem? e)
        obtain⟨m,_,hl⟩:=I.loc
        have kd:=S.free _ a2 rfl
        have vis:Vis X.env.scope p.2:=by
          rcases kd with z | z
          . exact .inr (.inl z)
          . exact .inr (.inr z)
        obtain⟨u,r,l⟩:=hl p.1 p.2 v a1 e3 vis
        refine⟨u,r,?_⟩
        rcases l with⟨z,_⟩ | ⟨_,c,hc,hcell⟩
        . rcases kd with q | q
          . rw [q]at z;cases z
          . rw [q]at z;cases z
        . obtain⟨c',hc'⟩:=Zr (env:=X.env) scope.names [] p.2 (.inl ⟨_,a2,rfl,rfl⟩)
          have ec:c'=c:=Option.some.inj ((S.sub ok hc').symm.trans hc)
          subst ec
          subst ex'
          refine .inr ⟨?_,c',hc',?_⟩
          . exact a3
          . obtain⟨o,ho,hd⟩:=hcell
            exact⟨o,hk _ _ ho,hd⟩
  . obtain⟨v,o,ho,hd⟩:=I.cell y c (S.sub ok e)
    exact⟨v,o,hk _ _ ho,hd⟩
  . unfold cpσ
    show _=(cpN ts fs).length
    unfold cpN
    simp
theorem Aaq {pins:List (Addr × Obj)}{σ σ':St}{H H':Hp}{s3 s5:Shared}{h':Heap}{ex:List Addr} (S:Dp X ts fs scope) (I:Inv X pins σ H s3) (hex:∀b∈ex,Yl X pins H b)
    (J:Inv (cxC X (cpN ts fs) scope ex s3 H) [] σ' H' s5) (sb:Heap.SameBut s3.heap.objs.size s5.heap h'):Inv X pins σ H' { s5 with heap:=h'}:=by
  have nC:H' s3.heap.objs.size=none:=J.free
  have old:∀b o,b≠s3.heap.objs.size->s5.heap.get? b=some o->h'.get? b=some o:=fun b o hb e=>sb.extBut b o hb e
  have lt:∀b o,s3.heap.get? b=some o->b≠s3.heap.objs.size:=fun b o e=>Nat.ne_of_lt (Heap.lt_size e)
  have u:Un (frs X.stack) ex H H' s3.heap s5.heap:=J.base
  have u2:Un (frs X.stack) ex H H' s3.heap h':=
    ⟨fun b o e n hb hx=>old b o (lt b o e) (u.keep b o e n hb hx),fun b o e n hb hx=>by
      obtain⟨sl,q⟩:=u.slot b o e n hb hx
      exact⟨sl,old b _ (lt b o e) q⟩,u.free,fun b o e hx=>by
      obtain⟨o',q⟩:=u.there b o e hx
      exact⟨o',old b o' (lt b o e) q⟩,u.tups,u.frzs,u.tbls⟩
  have hok:HOk X.prog X.w H' h':=fun b o e=>by
    have nb:b≠s3.heap.objs.size:=fun z=>by rw [z,nC]at e;cases e
    refine(J.hok b o e).stay (fun c v hc q=>old c v ?_ q) (fun _ q=>q) fun _ _ q=>q
    rcases hc with z | z
    . rw [z];exact nb
    . intro z2;rw [z2,nC]at z;cases z
  exact I.call' (s':={ s5 with heap:=h'}) (ch:=ex) J.os u2 hok J.bare fun b hb=>⟨(hex b hb).2.2.2.1,(hex b hb).2.1,(hex b hb).2.2.2.2.1,(hex b hb).2.2.2.2.2⟩
theorem Inv.fade {pins:List (Addr × Obj)}{σ σ':St}{H:Hp}{s:Shared} (I:Inv X pins σ' H s) (k:Kp σ σ'):Inv X pins σ H s:=by
  refine⟨I.ok,I.os,I.bare,I.base,?_,I.cell,I.free,I.freeC,I.pin,I.hok,k.1.symm.trans I.len⟩
  obtain⟨m,hn,hl⟩:=I.loc
  exact⟨m,hn,fun i x v h1 h2 h3=>hl i x v h1 (k.2 i v h2) h3⟩
theorem Agp {pins:List (Addr × Obj)}{σ:St}{H3:Hp}{s3 s4:Shared}{Q:VK}{R:Result->Shared->Prop}{fp:List Addr}{it p:Addr}{tn:Nat->Heap->Prop}{J:It}{W:Nat->Nat->List V->Hp->Prop}{m0:Nat} (hc:X.calm=true) (S:Dp X ts fs scope)
    (hg:∀ex s H,PG (cxC X (cpN ts fs) scope ex s H) tg g) (ht:∀ex s H,PTs (cxC X (cpN ts fs) scope ex s H) ifs tt) (he:∀ex s H,PE (cxC X (cpN ts fs) scope ex s H) elt te)
    (I3:Inv X pins σ H3 s3) (T:Turn X.prog X.w X.K tg J fp it tn) (hex:∀b∈fp,Yl X pins H3 b) (lt:∀b∈fp,b<s3.heap.objs.size)
    (I4:Inv (cxC X (cpN ts fs) scope fp s3 H3) [] (cpσ ts.length fs σ) H3 s4) (st4:tn 0 s4.heap) (w0:W 0 m0 [] H3)
    (fin:∀H5 s6,Inv (cxC X (cpN ts fs) scope fp s3 H3) [] (cpσ ts.length fs σ) H5 s6->Q (.ref p) H5->R (.ok .next) s6)
    (turn:∀i m acc H2,W i m acc H2->(J.stop i H2/\Q (.ref p) H2)\/(J.go i H2/\∀x H3,J.yld i H2 x H3->g x (cpσ ts.length fs σ) H3 fun σ4 H4=>Kp (cpσ ts.length fs σ) σ4/\tt σ4 H4 fun b H5=>
      if b=true then te σ4 H5 fun y H6=>H6 p=some (.lst acc)/\acc.length<sizeLine/\∃m',m'<m/\W (i+1) m' (acc++ [y]) (upd H6 p (.lst (acc++ [y])))else ∃m',m'<m/\W (i+1) m' acc H5)):
    codeAny (model X.prog X.w) X.A (.compLoop (.ListComp elt [⟨tg,iter,ifs,0⟩] scope pos) 0 (.ref it) (.ref p) (cxC X (cpN ts fs) scope fp s3 H3).env) R s4:=by
  have stat:∀ {H':Hp},(∀b∈fp,H' b=none)->∀b∈fp,Yl (cxC X (cpN ts fs) scope fp s3 H3) [] H' b:=fun hn b hb=>
    ⟨hn b hb,Nat.ne_of_lt (lt b hb),fun z=>(List.mem_cons.mp (I3.stkSub b z)).elim (hex b hb).2.1 (hex b hb).2.2.1,.inl hb,fun x c e=>(hex b hb).2.2.2.2.1 x c (S.sub I3.ok e),fun q hq=>absurd (show q∈([]:List (Addr × Obj))from hq) (by simp)⟩
  refine X6 (fun n s'=>∃i acc H',Inv (cxC X (cpN ts fs) scope fp s3 H3) [] (cpσ ts.length fs σ) H' s'/\tn i s'.heap/\(∀b∈fp,H' b=none)/\W i n acc H') ?_ m0 ⟨0,[],H3,I4,st4,fun b hb=>(hex b hb).1,w0⟩
  rintro n s5 ⟨i,acc,H5,I5,st5,fr5,w5⟩
  rcases turn i n acc H5 w5 with⟨stop,q⟩ | ⟨go,step⟩
  . refine thn (T.done (cxC X (cpN ts fs) scope fp s3 H3) rfl rfl rfl hc i [] s5 _ H5 _ I5 (stat fr5) st5 stop) fun r s6 ⟨hr,I6⟩=> ?_
    subst hr
    exact fin H5 s6 I6 q
  . refine thn (T.item (cxC X (cpN ts fs) scope fp s3 H3) rfl rfl rfl hc i [] s5 _ H5 _ I5 (stat fr5) st5 go) fun r s6 ⟨u,hr,h6⟩=> ?_
    subst hr
    refine thn h6 fun _ s7 ⟨x,H7,I7,r7,y7,st7,fr7⟩=> ?_
    have I7':=I7.pinned (stat fr7) (T.obj _ _ st7)
    refine thn (hg fp s3 H3 _ s7 _ H7 x u _ I7' r7 (step x H7 y7)) fun _ s8 ⟨σ8,H8,I8,kp,q8⟩=> ?_
    have again:∀ {H9:Hp}{s9:Shared}{acc':List V}{m':Nat},Inv (cxC X (cpN ts fs) scope fp s3 H3) ([]++Yb fp s7.heap) σ8 H9 s9->m'<n->W (i+1) m' acc' H9->
        ∃m,m<n/\∃i acc H',Inv (cxC X (cpN ts fs) scope fp s3 H3) [] (cpσ ts.length fs σ) H' s9/\tn i s9.heap/\(∀b∈fp,H' b=none)/\W i m acc H':=fun {H9 s9 acc' m'} I9 hm w9=>by
      refine⟨m',hm,i+1,acc',H9,(I9.fade kp).unpinned,T.keep _ _ _ st7 fun b hb o e=>(I9.pin (b,o) (List.mem_append_right _ (List.mem_append_right _ (K5 hb e)))).1,fun b hb=> ?_,w9⟩
      obtain⟨o,e,d⟩:=T.obj _ _ st7 b hb
      exact(I9.pin (b,o) (List.mem_append_right _ (List.mem_append_right _ (K5 hb e)))).2.1
    refine thn (ht fp s3 H3 _ s8 σ8 H8 _ I8 q8) fun ok s9 ⟨H9,I9,q9⟩=> ?_
    cases ok with
    | false=>
      rw [if_neg Bool.false_ne_true]at q9 ⊢
      obtain⟨m',hm,w9⟩:=q9
      exact again I9 hm w9
    | true=>
      rw [if_pos rfl]at q9 ⊢
      refine thn (he fp s3 H3 _ s9 σ8 H9 _ I9 q9) fun y s10 ⟨yv,H10,I10,r10,hp10,hlen,m',hm,w10⟩=> ?_
      exact thn (Mx _ s10 σ8 H10 (.ref p) [yv] (.ref p) [y] _ I10 rfl (.cons r10 .nil) ⟨p,acc,yv,rfl,rfl,hp10,hlen,w10⟩) fun _ s11 ⟨_,H11,I11,_,w11⟩=>again I11 hm w11
set_option maxHeartbeats 2000000 in
theorem Vh {pos':Pos}{pins:List (Addr × Obj)}{σ:St}{H:Hp}{s:Shared}{Q:VK}{QQ:Value->Shared->Prop}{use:Option (Value->Sem Unit)} (hc:X.calm=true) (S:Dp X ts fs scope) (hi:PI X tg iter wi) (hg:∀ex s H,PG (cxC X (cpN ts fs) scope ex s H) tg g) (ht:∀ex s H,PTs (cxC X (cpN ts fs) scope ex s H) ifs tt)
    (he:∀ex s H,PE (cxC X (cpN ts fs) scope ex s H) elt te) (hs:∀x,foldedSetIterable iter X.env x=pure x) (I:Inv X pins σ H s) (h:Abo ts.length fs wi g tt te σ H Q)
    (fin:∀(H3:Hp) (s3:Shared) (fp:List Addr) (p:Addr) (H5:Hp) (s6:Shared),Inv X pins σ H3 s3->(∀b∈fp,Yl X pins H3 b)->Inv (cxC X (cpN ts fs) scope fp s3 H3) [] (cpσ ts.length fs σ) H5 s6->Q (.ref p) H5->compPost (model X.prog X.w) X.A X.xe use QQ (.ref p) s3.heap.objs.size (.ok .next) s6):
    wpAny (model X.prog X.w) X.A (comprehension (.ListComp elt [⟨tg,iter,ifs,0⟩] scope pos) scope X.env pos' (newList []) false (eval iter X.env) use) QQ X.xe s:=by
  refine wpAny_comprehension_free (use:=use) rfl hs (Aay (S.clos I.ok)) S.kind S.names (thn (hi pins s σ H _ I h) fun v s1 h1=>thn h1 fun itv s2 h2=> ?_)
  obtain⟨it,fp,tn,J,H2,rfl,I2,T,st2,f2,hw⟩:=h2
  refine wpAny_newObj_type (wpAny_newFunctionEnv S.cell (by intro y hy;simp at hy) (fun h₁ hns₁ hsb₁=> ?_) S.kind)
  dsimp only at hns₁ hsb₁ ⊢
  have I3:=I2.lnew (its:=[]) (ys:=[]) (t':=s2.toks) .nil (Nat.zero_le _)
  have hD:H2 s2.heap.objs.size=none:=I2.fresh
  obtain⟨W,⟨m0,w0⟩,turn⟩:=hw _ hD
  have up:∀b o,s2.heap.get? b=some o->(s2.heap.push { cls:= .type "list",data:= .seq ([]:List Value).toArray}).get? b=some o:=fun b o e=>Heap.get?_push_of_some _ e
  have hex:∀b∈fp,Yl X pins (upd H2 s2.heap.objs.size (.lst [])) b/\∃o,(s2.heap.push { cls:= .type "list",data:= .seq ([]:List Value).toArray}).get? b=some o:=fun b hb=>by
    obtain⟨o,ho,_⟩:=T.obj _ _ st2 b hb
    have nb:b≠s2.heap.objs.size:=Nat.ne_of_lt (Heap.lt_size ho)
    exact⟨⟨by rw [Bv nb];exact(f2 b hb).1,(f2 b hb).2⟩,o,up b o ho⟩
  have hk4:∀b u,(s2.heap.push { cls:= .type "list",data:= .seq ([]:List Value).toArray}).get? b=some u->h₁.get? b=some u:=fun b u e=>
    hsb₁.extBut b u (Nat.ne_of_lt (Heap.lt_size e)) (Heap.get?_push_of_some _ e)
  have I4:=Ab0 (s4:={ s2 with heap:=h₁,toks:=s2.toks}) S I3 hex rfl rfl hk4 hns₁
  have st4:tn 0 h₁:=T.keep _ _ _ st2 fun b _ o e=>hk4 b o (up b o e)
  have run:=Agp (elt:=elt) (iter:=iter) (pos:=pos) hc S hg ht he I3 T (fun b hb=>(hex b hb).1) (fun b hb=>Heap.lt_size (hex b hb).2.choose_spec) I4 st4 w0 (fun H5 s6 I6 q=>fin _ _ fp _ H5 s6 I3 (fun b hb=>(hex b hb).1) I6 q) turn
  exact codeAny_compStart_list run (T.self X.A 0 _ _ _ st4 run)
theorem Kv (hc:X.calm=true) (S:Dp X ts fs scope) (hi:PI X tg iter wi) (hg:∀ex s H,PG (cxC X (cpN ts fs) scope ex s H) tg g) (ht:∀ex s H,PTs (cxC X (cpN ts fs) scope ex s H) ifs tt)
    (he:∀ex s H,PE (cxC X (cpN ts fs) scope ex s H) elt te) (hs:∀x,foldedSetIterable iter X.env x=pure x:=by intro _;rfl):
    PE X (.ListComp elt [⟨tg,iter,ifs,0⟩] scope pos) (Abo ts.length fs wi g tt te):=by
  intro pins s σ H Q I h
  rw [eval_ListComp]
  refine Vh (use:=none) hc S hi hg ht he hs I h fun H3 s3 fp p H5 s6 I3 hex I6 q=> ?_
  obtain⟨m,hn,_⟩:=I6.loc
  exact⟨m,hn,fun h' sb=>⟨.ref p,H5,Aaq S I3 hex I6 sb,rfl,q⟩⟩
theorem Rh {g':TG}{y:Str}{py spos:Pos} (hc:X.calm=true) (S:Dp X ts fs scope) (hi:PI X tg iter wi) (hg:∀ex s H,PG (cxC X (cpN ts fs) scope ex s H) tg g) (ht:∀ex s H,PTs (cxC X (cpN ts fs) scope ex s H) ifs tt)
    (he:∀ex s H,PE (cxC X (cpN ts fs) scope ex s H) elt te) (hn:PG X (.Name y py) g') (hsw:swapsWith (.ListComp elt [⟨tg,iter,ifs,0⟩] scope pos) (some (.Name y py)) spos.line X.env=pure true:=by rfl) (hs:∀x,foldedSetIterable iter X.env x=pure x:=by intro _;rfl):
    PS X (.Assign [.Name y py] (.ListComp elt [⟨tg,iter,ifs,0⟩] scope pos) spos) (Ai5 (Abo ts.length fs wi g tt te) g'):=by
  intro pins s σ H D I h
  rw [exec_Assign_Name_used _ _ _ _ hsw]
  refine wpAny_bind (wpAny_standAt (wpAny_bind ?_))
  show wpAny _ X.A (do let _<-comprehension (.ListComp elt [⟨tg,iter,ifs,0⟩] scope pos) scope X.env _ (newList []) false (eval iter X.env) (some (assign (.Name y py) X.env))) _ _ s
  refine wpAny_bind (wpAny_mono (Vh (use:=some (assign (.Name y py) X.env)) (QQ:=fun _ s'=>SP X pins D .next s') hc S hi hg ht he hs I h fun H3 s3 fp p H5 s6 I3 hex I6 q=> ?_) (fun _ s' hq=>wpAny_pure (wpAny_pure hq)) fun _ _ e=>e)
  have J:Inv X pins σ H5 s6:=Aaq S I3 hex I6 (Heap.SameBut.refl _ _)
  obtain⟨m,⟨o,es,ep,ho,hd,hsk,hf⟩,_⟩:=I6.loc
  have ho':s6.heap.get? s3.heap.objs.size=some o:=ho
  have fC:Yl X pins H5 s3.heap.objs.size:=I3.fpOk (Nat.le_refl _) I6.free
  have J':=J.pinned (fp:=[s3.heap.objs.size]) (fun b hb=>by
    have e:b=s3.heap.objs.size:=by simpa using hb
    subst e
    exact fC) (fun b hb=>by
    have e:b=s3.heap.objs.size:=by simpa using hb
    subst e
    exact⟨o,ho',fun v z=>by rw [hd]at z;cases z⟩)
  refine thn (hn _ s6 σ H5 (.ref p) (.ref p) _ J' rfl q) fun _ s7 ⟨σ7,H7,I7,q7⟩=> ?_
  have pC:=I7.pin (s3.heap.objs.size,o) (List.mem_append_right _ (List.mem_append_right _ (K5 (by simp) ho')))
  exact⟨m,⟨o,es,ep,pC.1,hd,hsk,hf⟩,fun h' sb=>⟨σ7,H7,I7.unpinned.turned (t':=s7.toks) (fun b o hb e=>sb.extBut b o hb e) pC.2.1 fC.2.1 fC.2.2.2.1 fC.2.2.2.2.1 fC.2.2.2.2.2,q7⟩⟩
end
section
variable {K:PySem.W.Frag}{H1:Hp}{p:Addr}{cσ:St}{g:TG}{te:TE}{Q:VK}{α:Type}{es:List α}{inj:α->V}
def Wk (J:It) (H1:Hp) (es:List α) (inj:α->V):Prop:=∀i H',Same H1 H'->(es[i]? =none->J.stop i H')/\∀e,es[i]? =some e->J.go i H'/\∀x H3,J.yld i H' x H3->H3=H'/\x=inj e
theorem Wd {a:Addr} (h:SqL K H1 a (es.map inj)):Wk (Itl K a) H1 es inj:=fun i H' s=>by
  have h':=s.seq h
  refine⟨fun e=>⟨_,h',?_⟩,fun e he=>⟨⟨_,inj e,h',by rw [List.getElem?_map,he];rfl⟩,fun x H3 ⟨e1,e2⟩=>⟨e1,?_⟩⟩⟩
  . rw [List.length_map]
    exact List.getElem?_eq_none_iff.mp e
  . have z:=e2 _ h'
    rw [List.getElem?_map,he]at z
    exact(Option.some.inj z).symm
theorem Xr {a:Addr} (h:SqT K H1 a (es.map inj)):Wk (Itt K a) H1 es inj:=fun i H' s=>by
  have h':=s.tup h
  refine⟨fun e=>⟨_,h',?_⟩,fun e he=>⟨⟨_,inj e,h',by rw [List.getElem?_map,he];rfl⟩,fun x H3 ⟨e1,e2⟩=>⟨e1,?_⟩⟩⟩
  . rw [List.length_map]
    exact List.getElem?_eq_none_iff.mp e
  . have z:=e2 _ h'
    rw [List.getElem?_map,he]at z
    exact(Option.some.inj z).symm
theorem Aad {lo:Int}{n:Nat}:Wk (Itr lo n) H1 (List.range n) (fun i=> .int (lo+(i:Nat))):=fun i H' s=>by
  refine⟨fun e=> ?_,fun e he=> ?_⟩
  . have:=List.getElem?_eq_none_iff.mp e
    show n<=i
    simpa using this
  . obtain⟨h,z⟩:=List.getElem?_eq_some_iff.mp he
    have hi:i<n:=by simpa using h
    have z':i=e:=by simpa using z
    subst z'
    exact⟨hi,fun x H3 ⟨e1,e2⟩=>⟨e1,e2⟩⟩
theorem Om {J:It} (f:α->V) (hz:es.length<=sizeLine) (hp:H1 p=none) (hJ:Wk J H1 es inj)
    (step:∀e H' R,e∈es->Same H1 H'->(∀H6,Same H' H6->R (f e) H6)->g (inj e) cσ H' fun σ4 H4=>Kp cσ σ4/\te σ4 H4 R)
    (done:∀H',Same H1 H'->H' p=some (.lst (es.map f))->Q (.ref p) H'):cIn J cσ g Xg te Q H1 p:=by
  have su:∀ {H':Hp}{o:HO},Same H1 H'->Same H1 (upd H' p o):=fun {H' o} s b u e=>by
    rw [Bv (Bt e hp)]
    exact s b u e
  refine⟨fun i m acc H'=>m=es.length-i/\i<=es.length/\acc=(es.take i).map f/\H' p=some (.lst acc)/\Same H1 H',⟨es.length,by simp,Nat.zero_le _,by simp,Af,su (Same.refl _)⟩,?_⟩
  rintro i m acc H' ⟨rfl,hi,rfl,hH,s⟩
  cases he:es[i]? with
  | none=>
    have hl:=List.getElem?_eq_none_iff.mp he
    have e:i=es.length:=Nat.le_antisymm hi hl
    subst e
    rw [List.take_length]at hH
    exact .inl ⟨(hJ _ _ s).1 he,done _ s hH⟩
  | some e=>
    obtain⟨go,yl⟩:=(hJ _ _ s).2 e he
    refine .inr ⟨go,fun x H3 y=> ?_⟩
    obtain⟨rfl,rfl⟩:=yl x H3 y
    obtain⟨hlt,e'⟩:=List.getElem?_eq_some_iff.mp he
    have tk:es.take (i+1)=es.take i++ [e]:=by rw [List.take_succ,he];rfl
    have q:=step e H3 (fun y H6=>H6 p=some (.lst ((es.take i).map f))/\((es.take i).map f).length<sizeLine/\∃m',m'<es.length-i/\m'=es.length-(i+1)/\i+1<=es.length/\(es.take i).map f++ [y]=(es.take (i+1)).map f/\
        upd H6 p (.lst ((es.take i).map f++ [y])) p=some (.lst ((es.take i).map f++ [y]))/\Same H1 (upd H6 p (.lst ((es.take i).map f++ [y])))) (List.mem_of_getElem? he) s
      (fun H6 s6=>⟨s6 _ _ hH,by rw [List.length_map,List.length_take];omega,_,by omega,rfl,hlt,by rw [tk,List.map_append];rfl,Af,su (s.trans s6)⟩)
    have eq:∀(R:VK) (B:Hp->Prop),(fun σ4 H4=>Kp cσ σ4/\Xg σ4 H4 fun b H5=>if b=true then te σ4 H5 R else B H5)=(fun σ4 H4=>Kp cσ σ4/\te σ4 H4 R):=fun R B=>by
      funext σ4 H4
      show(Kp cσ σ4/\if true=true then te σ4 H4 R else B H4)=_
      rw [if_pos rfl]
    rw [eq]
    exact q
end
section
variable {X:Cx}{K:PySem.W.Frag}{σ:St}{H:Hp}{Q:VK}{R:It->Hp->Prop}
theorem Ew {n:Nat}{fs:List (Nat × Str)}{wi:TI}{g:TG}{tt:TT}{te:TE}:Abo n fs wi g tt te σ H Q=wi σ H (fun J H1=>∀p,H1 p=none->cIn J (cpσ n fs σ) g tt te Q H1 p):=rfl
theorem Ez {ta:TA}:Ajm ta σ H R=ta σ H (fun vs H1=>∃j:Int,vs=[.int j]/\ -(2^62)<=j/\j<2^62/\R (Itr 0 j.toNat) H1):=rfl
theorem Fy {ta:TA}:Aim ta σ H R=ta σ H (fun vs H1=>∃i j:Int,vs=[.int i,.int j]/\(-(2^62)<=i/\i<2^62/\ -(2^62)<=j/\j<2^62)/\R (Itr i (j-i).toNat) H1):=rfl
theorem Cr {tl:TE}:Ajy K tl σ H R=tl σ H (fun x H1=>∃a,x= .ref a/\(∃xs,SqL K H1 a xs)/\R (Itl K a) H1):=rfl
theorem Ed {tl:TE}:Anh K tl σ H R=tl σ H (fun x H1=>∃a,x= .ref a/\(∃xs,SqT K H1 a xs)/\R (Itt K a) H1):=rfl
theorem Ir {a:Addr}{p:Addr->Prop}:(∃b,V.ref a= .ref b/\p b)=p a:=propext ⟨fun⟨_,e,h⟩=>by cases e;exact h,fun h=>⟨a,rfl,h⟩⟩
theorem Ih {v:Option V}{r:St}:Kp (none::r) (v::r)=True:=by
  refine eq_true ⟨rfl,fun i u e=> ?_⟩
  cases i with
  | zero=>cases e
  | succ i=>exact e
theorem Hl {v v':Option V}{r:St}:Kp (none::none::r) (v::v'::r)=True:=by
  refine eq_true ⟨rfl,fun i u e=> ?_⟩
  cases i with
  | zero=>cases e
  | succ i=>
    cases i with
    | zero=>cases e
    | succ i=>exact e
theorem Fl {k:Bool}{p:Int->Prop}{q:Bool->Prop}:((∃i,[V.bl k]=[V.int i]/\p i)\/∃k',[V.bl k]=[V.bl k']/\q k')=q k:=
  propext ⟨fun h=>h.elim (fun⟨_,e,_⟩=>by cases e) fun⟨_,e,h⟩=>by cases e;exact h,fun h=> .inr ⟨k,rfl,h⟩⟩
end
end L2
namespace L2
open PySem PySem.Spec PyProof.Rows
def FI (J:It) (g:TG) (tb:TS) (D:Ends) (σ:St) (H:Hp):Prop:=∃W:Nat->Nat->St->Hp->Prop,(∃m,W 0 m σ H)/\∀i m σ H,W i m σ H->
  (J.stop i H/\D.nx σ H)\/(J.go i H/\∃N:St->Hp->Prop,(∀σ' H',N σ' H'->∃m',m'<m/\W (i+1) m' σ' H')/\∀x H',J.yld i H x H'->g x σ H' fun σ2 H2=>tb { D with nx:=N,ct:=N,bk:=D.nx} σ2 H2)
theorem G7 {wi:TI}{g:TG}{tb:TS}{D:Ends}{σ:St}{H:Hp}:Ana wi g tb D σ H=wi σ H (fun J H1=>FI J g tb D σ H1):=rfl
section
variable {K:PySem.W.Frag}{σ:St}{H:Hp}{g:TG}{tb:TS}{D:Ends}{α:Type}{es:List α}{inj:α->V}
def Akd (J:It) (H:Hp) (es:List α) (inj:α->V):Prop:=∀i,(es[i]? =none->J.stop i H)/\∀e,es[i]? =some e->J.go i H/\∀x H3,J.yld i H x H3->H3=H/\x=inj e
theorem Pg {a:Addr} (h:SqL K H a (es.map inj)):Akd (Itl K a) H es inj:=fun i=>Wd h i H (Same.refl _)
theorem Agu {a:Addr} (h:SqT K H a (es.map inj)):Akd (Itt K a) H es inj:=fun i=>Xr h i H (Same.refl _)
theorem N5 {lo:Int}{n:Nat}:Akd (Itr lo n) H (List.range n) (fun i=> .int (lo+(i:Nat))):=fun i=>Aad i H (Same.refl _)
theorem V0 {J:It} (Pv:List α->St->Hp->Prop) (h0:Pv [] σ H) (hw:∀pre σ H,Pv pre σ H->Akd J H es inj)
    (hs:∀pre e post σ H,es=pre++e::post->Pv pre σ H->g (inj e) σ H fun σ2 H2=>tb { D with nx:=Pv (pre++ [e]),ct:=Pv (pre++ [e]),bk:=D.nx} σ2 H2) (hd:∀σ H,Pv es σ H->D.nx σ H):FI J g tb D σ H:=by
  refine⟨fun i m σ H=>m=es.length-i/\i<=es.length/\Pv (es.take i) σ H,⟨es.length,by simp,Nat.zero_le _,h0⟩,?_⟩
  rintro i m σ H ⟨rfl,hi,p⟩
  have w:=hw _ _ _ p i
  cases he:es[i]? with
  | none=>
    have e:i=es.length:=Nat.le_antisymm hi (List.getElem?_eq_none_iff.mp he)
    subst e
    rw [List.take_length]at p
    exact .inl ⟨w.1 he,hd _ _ p⟩
  | some e=>
    obtain⟨hlt,ee⟩:=List.getElem?_eq_some_iff.mp he
    have tk:es.take (i+1)=es.take i++ [e]:=by rw [List.take_succ,he];rfl
    have sp:es=es.take i++e::es.drop (i+1):=by
      rw [<-ee,<-List.drop_eq_getElem_cons hlt,List.take_append_drop]
    refine .inr ⟨(w.2 e he).1,Pv (es.take i++ [e]),fun σ' H' q=>⟨es.length-(i+1),by omega,rfl,hlt,by rw [tk];exact q⟩,fun x H' y=> ?_⟩
    obtain⟨rfl,rfl⟩:=(w.2 e he).2 x H' y
    exact hs _ e _ σ H' sp p
end
end L2
namespace L2
open PySem PySem.Spec PyProof.Rows
section
variable {K:PySem.W.Frag}{σ:St}{H:Hp}{Q:VK}
theorem Qv {r:V->Option Int->Option Int->Hp->VK->Prop}{te:TE}{tl th:TO}:tSl r te tl th σ H Q=te σ H (fun x H1=>tl σ H1 fun l H2=>th σ H2 fun u H3=>r x l u H3 Q):=rfl
theorem Bo {R:Option Int->Hp->Prop}:Yx σ H R=R none H:=rfl
theorem Et {t:TE}{R:Option Int->Hp->Prop}:Aio t σ H R=t σ H (fun x H1=>∃i,x= .int i/\R (some i) H1):=rfl
theorem Ig {T:String}{r:V->List V->Hp->VK->Prop}{to:TE}:Ank K T r to σ H Q=to σ H (fun x H1=>tyV K T x H1/\r x [] H1 Q):=rfl
theorem Qo {T:String}{r:V->List V->Hp->VK->Prop}{to:TE}{t:TA}:tBM K T r to t σ H Q=to σ H (fun x H1=>tyV K T x H1/\t σ H1 fun xs H2=>r x xs H2 Q):=rfl
end
section
variable {CX:CXT}{P:Program}{w:World}{K:PySem.W.Frag}{mg:Str->Option Value}{base:Heap}{N:List Str}{qual:Str}{scope:Scope}{f:Addr}{cd:Value}{A:Around}{outer:List Env}{s:Shared}{H H1 H2:Hp}{E:XK}{Q:VK}{a b:Addr}{ns ms:List Int}{g:Bool->Bool}
theorem Iu:(Tf CX P w K mg base N qual scope f cd A outer s H E).K=K:=rfl
theorem Fe:(Tf CX P w K mg base N qual scope f cd A outer s H E).nox.K=K:=rfl
theorem Ry (ns:List Int):SeqAt.shaped (.list (ns.map PyData.int))=true:=by
  simp [SeqAt.shaped,PyData.canLay0,PyData.depth,PySem.W.ke_canLayAll0,PySem.W.ke_depthAll]
theorem Agm (ha:SqL K H a (ns.map V.int)) (hb:SqL K H b (ms.map V.int)) (h:Q (.bl (g (decide (ns=ms)))) H):Am5 K g (.ref a) (.ref b) H Q:=
  ⟨_,_,.lints ha,.lints hb,Ry _,Ry _,by rw [PyData.eqv,Qj];exact h⟩
end
end L2
namespace L2
open PySem PySem.Spec PyProof.Rows
section
variable {c:TT}{tb:TS}{D:Ends}{σ:St}{H:Hp}
def WB (Pv:St->Hp->Prop) (μ:St->Hp->Nat) (tb:TS) (D:Ends) (n:Nat) (σ:St) (H:Hp):Prop:=
  ∃N:St->Hp->Prop,(∀σ' H',N σ' H'->∃m',m'<n/\(m'=μ σ' H'/\Pv σ' H'))/\tb { D with nx:=N,ct:=N,bk:=D.nx} σ H
theorem Agf {Pv:St->Hp->Prop}{μ:St->Hp->Nat}{n:Nat} (h:tb { D with nx:=fun σ' H'=>Pv σ' H'/\μ σ' H'<n,ct:=fun σ' H'=>Pv σ' H'/\μ σ' H'<n,bk:=D.nx} σ H):WB Pv μ tb D n σ H:=
  ⟨_,fun _ _ ⟨p,l⟩=>⟨_,l,rfl,p⟩,h⟩
theorem Qd (Pv:St->Hp->Prop) (μ:St->Hp->Nat) (h0:Pv σ H) (hs:∀σ H,Pv σ H->c σ H fun b H1=>if b=true then WB Pv μ tb D (μ σ H) σ H1 else D.nx σ H1):W3 c tb D σ H:=by
  refine⟨fun m σ H=>m=μ σ H/\Pv σ H,⟨_,rfl,h0⟩,?_⟩
  rintro m σ H ⟨rfl,p⟩
  exact hs σ H p
end
section
variable {K:PySem.W.Frag}{H1:Hp}{p:Addr}{cσ:St}{g:TG}{te:TE}{Q:VK}{α:Type}{es:List α}{inj:α->V}
theorem Afx {J:It} (Pn:α->Int->Prop) (hz:es.length<=sizeLine) (hp:H1 p=none) (hJ:Wk J H1 es inj)
    (step:∀e H' R,e∈es->Same H1 H'->(∀n H6,Same H' H6->Pn e n->R (.int n) H6)->g (inj e) cσ H' fun σ4 H4=>Kp cσ σ4/\te σ4 H4 R)
    (done:∀(ns:List Int) H',ns.length=es.length->(∀(i:Nat) e n,es[i]? =some e->ns[i]? =some n->Pn e n)->Same H1 H'->H' p=some (.lst (ns.map V.int))->Q (.ref p) H'):cIn J cσ g Xg te Q H1 p:=by
  have su:∀ {H':Hp}{o:HO},Same H1 H'->Same H1 (upd H' p o):=fun {H' o} s b u e=>by
    rw [Bv (Bt e hp)]
    exact s b u e
  refine⟨fun i m acc H'=>m=es.length-i/\i<=es.length/\(∃ns:List Int,acc=ns.map V.int/\ns.length=i/\∀(j:Nat) e n,es[j]? =some e->ns[j]? =some n->Pn e n)/\H' p=some (.lst acc)/\Same H1 H',⟨es.length,by simp,Nat.zero_le _,⟨[],rfl,rfl,fun j e n _ h=>by simp at h⟩,Af,su (Same.refl _)⟩,?_⟩
  rintro i m acc H' ⟨rfl,hi,⟨ns,rfl,hl,hn⟩,hH,s⟩
  cases he:es[i]? with
  | none=>
    have e:i=es.length:=Nat.le_antisymm hi (List.getElem?_eq_none_iff.mp he)
    exact .inl ⟨(hJ _ _ s).1 he,done ns _ (hl.trans e) hn s hH⟩
  | some e=>
    obtain⟨go,yl⟩:=(hJ _ _ s).2 e he
    refine .inr ⟨go,fun x H3 y=> ?_⟩
    obtain⟨rfl,rfl⟩:=yl x H3 y
    obtain⟨hlt,_⟩:=List.getElem?_eq_some_iff.mp he
    have q:=step e H3 (fun y H6=>H6 p=some (.lst (ns.map V.int))/\(ns.map V.int).length<sizeLine/\∃m',m'<es.length-i/\m'=es.length-(i+1)/\i+1<=es.length/\(∃ns':List Int,ns.map V.int++ [y]=ns'.map V.int/\ns'.length=i+1/\∀(j:Nat) e n,es[j]? =some e->ns'[j]? =some n->Pn e n)/\
        upd H6 p (.lst (ns.map V.int++ [y])) p=some (.lst (ns.map V.int++ [y]))/\Same H1 (upd H6 p (.lst (ns.map V.int++ [y])))) (List.mem_of_getElem? he) s
      (fun n H6 s6 pn=>⟨s6 _ _ hH,by rw [List.length_map];omega,_,by omega,rfl,hlt,⟨ns++ [n],by rw [List.map_append];rfl,by rw [List.length_append,hl];rfl,fun j e' n' h1 h2=>by
        by_cases hj:j<ns.length
        . rw [List.getElem?_append_left hj]at h2
          exact hn j e' n' h1 h2
        . rw [List.getElem?_append_right (by omega)]at h2
          have hj0:j-ns.length=0:=by
            have:=(List.getElem?_eq_some_iff.mp h2).1
            simp at this
            omega
          rw [hj0]at h2
          have hji:j=i:=by omega
          subst hji
          rw [he]at h1
          cases h1
          cases h2
          exact pn⟩,Af,su (s.trans s6)⟩)
    have eq:∀(R:VK) (B:Hp->Prop),(fun σ4 H4=>Kp cσ σ4/\Xg σ4 H4 fun b H5=>if b=true then te σ4 H5 R else B H5)=(fun σ4 H4=>Kp cσ σ4/\te σ4 H4 R):=fun R B=>by
      funext σ4 H4
      show(Kp cσ σ4/\if true=true then te σ4 H4 R else B H4)=_
      rw [if_pos rfl]
    rw [eq]
    exact q
end
theorem Eh {a:Addr}{p:Addr->Prop}:(∃b,[V.ref a]=[.ref b]/\p b)=p a:=propext ⟨fun⟨_,e,h⟩=>by cases e;exact h,fun h=>⟨a,rfl,h⟩⟩
section
variable {K:PySem.W.Frag}{σ:St}{H:Hp}{Q:St->Hp->Prop}{R:VK}{p a b:Addr}{v w:V}{i j:Nat}{xs:List V}{ns ms:List Int}{f:Bool->Bool}
theorem J1 (h:SqT K H p [v,w]) (q:Q ((σ.set i (some v)).set j (some w)) H):Ami K 2 (Afy (Ys i) (Afy (Ys j) An6)) (.ref p) σ H Q:=⟨p,_,rfl,h,rfl,v,_,rfl,w,_,rfl,rfl,q⟩
theorem Eo {to ti:TE}{t:Ak9}:An0 to ti t v σ H Q=to σ H (fun o H1=>ti σ H1 fun i H2=>t o i v H2 fun H3=>Q σ H3):=rfl
theorem Yi {G:Hp->Prop} (hp:H p=some (.lst xs)) (hj:j<xs.length) (q:G (upd H p (.lst (xs.set j v)))):Akl (.ref p) (.int (j:Nat)) v H G:=by
  refine⟨p,xs,j,j,rfl,rfl,hp,?_,q⟩
  unfold ixN
  rw [if_pos (by omega),if_pos (by omega),Int.toNat_natCast]
theorem P0 (h:SqL K H a xs) (e:xs[j]? =some v) (q:R v H):An2 K (.ref a) (.int (j:Nat)) H R:=Y7 h (Jw e) q
theorem Dh (ha:SqT K H a (ns.map V.int)) (hb:SqT K H b (ms.map V.int)) (h:R (.bl (f (decide (ns=ms)))) H):Anw K f (.ref a) (.ref b) H R:=⟨a,b,ns,ms,rfl,rfl,ha,hb,h⟩
theorem Kq (ns:List Int) (j:Nat) (x:Int):(ns.map V.int).set j (.int x)=(ns.set j x).map V.int:=by rw [List.map_set]
theorem G6 {ns:List Int}{j:Nat} (h:j<ns.length):(ns.map V.int)[j]? =some (.int ns[j]):=by rw [List.getElem?_map,List.getElem?_eq_getElem h];rfl
theorem Mr (k:Nat):(List.replicate k [V.int 0]).flatten=(List.replicate k (0:Int)).map V.int:=by
  induction k with
  | zero=>rfl
  | succ k ih=>rw [List.replicate_succ,List.flatten_cons,ih,List.replicate_succ,List.map_cons];rfl
end
end L2
namespace L2
open PySem PySem.Spec PyProof.Rows
section
variable {prog:Program}{w:World}{A:Around}{E:Value->Shared->Prop}{s:Shared}{j u:Addr}{i:Nat}{xs:Array Value}
theorem nextT {y:Value}{Q:Value->Shared->Prop} (hj:s.heap.IsTupleIter j u i) (hu:s.heap.IsTuple u xs) (hy:xs[i]? =some y)
    (k:∀g,g.IsTupleIter j u (i+1)->Heap.SameBut j s.heap g->Q y { s with heap:=g}):wpAny (model prog w) A (Builtin.SmallTypes.nextOf (.ref j)) Q E s:=by
  obtain⟨oj,ej,cj,dj⟩:=id hj
  obtain⟨ou,eu,_,nu,du⟩:=hu
  unfold Builtin.SmallTypes.nextOf
  refine wpAny_bind (wpAny_callSpecial?_slot (name:=Str.ofString "__next__") hj.typeIs F.slot_tuple_iterator_next (wpAny_call_entry F.slot_tuple_iterator_next hj.typeIs F.entry_tuple_iterator_next ?_ (F.args_tuple_iterator_next_1 _)))
  show wpAny _ _ (field (.ref j) 0>>=_) _ _ s
  refine wpAny_bind (wpAny_field ej dj (x:= .ref u) rfl ?_)
  show wpAny _ _ (if(Value.ref u==Value.none)=true then _ else _) _ _ s
  rw [if_neg (show ¬((Value.ref u==Value.none)=true)from Bool.false_ne_true)]
  show wpAny _ _ (field (.ref j) 1>>=_) _ _ s
  refine wpAny_bind (wpAny_field ej dj (x:= .int i 0) rfl ?_)
  show wpAny _ _ (seqItems? (.ref u)>>=_) _ _ s
  refine wpAny_bind (wpAny_seqItems eu du ?_)
  simp only [hy,Int.toNat_natCast]
  refine wpAny_bind (wpAny_setField ej dj (by simp) (wpAny_pure ⟨y,rfl,wpAny_pure (k _ ?_ (Heap.SameBut.update ..))⟩))
  exact⟨_,Heap.get?_update_self _ ej (Obj.isFreed_of_fields (Obj.data_mapFields dj _)),(Obj.cls_mapFields ..).trans cj,by rw [Obj.data_mapFields dj];simp [rawInt]⟩
theorem W9 {Q:Value->Shared->Prop} (hh:A.handled=none) (hj:s.heap.IsTupleIter j u i) (hu:s.heap.IsTuple u xs) (hy:xs[i]? =none)
    (k:∀g e,Heap.ExtBut j s.heap g->(∃o,g.get? e=some o/\o.cls= .type "StopIteration")->E (.ref e) { s with heap:=g}):wpAny (model prog w) A (Builtin.SmallTypes.nextOf (.ref j)) Q E s:=by
  obtain⟨oj,ej,cj,dj⟩:=id hj
  obtain⟨ou,eu,_,nu,du⟩:=hu
  unfold Builtin.SmallTypes.nextOf
  refine wpAny_bind (wpAny_callSpecial?_slot (name:=Str.ofString "__next__") hj.typeIs F.slot_tuple_iterator_next (wpAny_call_entry F.slot_tuple_iterator_next hj.typeIs F.entry_tuple_iterator_next ?_ (F.args_tuple_iterator_next_1 _)))
  show wpAny _ _ (field (.ref j) 0>>=_) _ _ s
  refine wpAny_bind (wpAny_field ej dj (x:= .ref u) rfl ?_)
  show wpAny _ _ (if(Value.ref u==Value.none)=true then _ else _) _ _ s
  rw [if_neg (show ¬((Value.ref u==Value.none)=true)from Bool.false_ne_true)]
  show wpAny _ _ (field (.ref j) 1>>=_) _ _ s
  refine wpAny_bind (wpAny_field ej dj (x:= .int i 0) rfl ?_)
  show wpAny _ _ (seqItems? (.ref u)>>=_) _ _ s
  refine wpAny_bind (wpAny_seqItems eu du ?_)
  simp only [hy,Int.toNat_natCast]
  refine wpAny_bind (wpAny_rule (wpAny_bind (wpAny_setField ej dj (by simp) ?_)))
  show wpAny _ A.in1 (newExc (.type "StopIteration") []>>=_) _ _ _
  refine wpAny_bind ?_
  simp only [newTuple,newExc]
  refine wpAny_bind (wpAny_newObj_type ?_ (by size_fits))
  refine wpAny_bind (m:=firstArgMember _ _) (wpAny_of_eq (a:=Value.none) (by first | rfl | (simp only [firstArgMember];rfl)) ?_)
  refine(wpAny_newObj_type ?_ (by size_fits))
  simp only [raiseNew]
  refine wpAny_bind (wpAny_handled ?_)
  first | rw [show A.in1.handled=none from hh] | (rw [hh])
  refine wpAny_bind (wpAny_pure (wpAny_throw ?_))
  exact k _ _ (((Heap.SameBut.update ..).extBut.push _).push _) ⟨_,Heap.get?_push_size _ rfl,rfl⟩
theorem Afw {e:Addr}{y old:Value}{Q:Value->Shared->Prop} (he:IsEnum s.heap e j i old) (hj:s.heap.IsTupleIter j u i) (hu:s.heap.IsTuple u xs) (hy:xs[i]? =some y) (ne:e≠j)
    (k:∀g,IsEnumOut g e j ((i:Int)+1) y s.heap.objs.size->g.IsTupleIter j u (i+1)->g.get? s.heap.objs.size=some { cls:= .type "tuple",data:= .seq #[.int i s.toks,y]}->g.objs.size=s.heap.objs.size+1->
      (∀b o,b≠e->b≠j->s.heap.get? b=some o->g.get? b=some o)->Q (.ref s.heap.objs.size) { s with heap:=g,toks:=s.toks+1}):
    wpAny (model prog w) A (Builtin.«enumerate.__next__» ⟨[.ref e],[]⟩) (fun fin s'=>∃v,fin= .done (.ret v)/\Q v s') E s:=by
  obtain⟨hp,gg,d,tk,os⟩:=s
  show wpAny _ _ (field (.ref e) 2>>=_) _ _ _
  refine wpAny_bind (wpAny_field he rfl (x:= .ref j) rfl ?_)
  refine wpAny_bind (nextT hj hu hy fun g₁ hj₁ sb₁=> ?_)
  replace sb₁:Heap.SameBut j hp g₁:=sb₁
  have e₁:IsEnum g₁ e j i old:=(sb₁.2 e ne).trans he
  show wpAny _ _ (field (.ref e) 3>>=_) _ _ ⟨g₁,gg,d,tk,os⟩
  refine wpAny_bind (wpAny_field e₁ rfl (x:=rawInt i) rfl ?_)
  show wpAny _ _ (field (.ref e) 4>>=_) _ _ ⟨g₁,gg,d,tk,os⟩
  refine wpAny_bind (wpAny_field e₁ rfl (x:= .none) rfl ?_)
  show wpAny _ _ (mkInt i>>=_) _ _ ⟨g₁,gg,d,tk,os⟩
  refine wpAny_bind (wpAny_mkInt ?_)
  show wpAny _ _ (setField (.ref e) 3 (rawInt ((i:Int)+1))>>=_) _ _ ⟨g₁,gg,d,tk+1,os⟩
  refine wpAny_bind (wpAny_setField_rec e₁ (by simp) fun g₂ e₂ sb₂=> ?_)
  replace sb₂:Heap.SameBut e g₁ g₂:=sb₂
  replace e₂:IsEnum g₂ e j ((i:Int)+1) old:=e₂
  show wpAny _ _ (setField (.ref e) 4 .none>>=_) _ _ ⟨g₂,gg,d,tk+1,os⟩
  refine wpAny_bind (wpAny_setField_rec e₂ (by simp) fun g₃ e₃ sb₃=> ?_)
  replace sb₃:Heap.SameBut e g₂ g₃:=sb₃
  replace e₃:IsEnum g₃ e j ((i:Int)+1) old:=e₃
  show wpAny _ _ (newTuple [.int i tk,y]>>=_) _ _ ⟨g₃,gg,d,tk+1,os⟩
  refine wpAny_bind (wpAny_newTuple ?_)
  have e₄:IsEnum (g₃.push { cls:= .type "tuple",data:= .seq #[.int i tk,y]}) e j ((i:Int)+1) old:=Heap.get?_push_of_some _ e₃
  generalize hg:g₃.push { cls:= .type "tuple",data:= .seq #[.int i tk,y]}=g₄ at e₄
  have sz:g₃.objs.size=hp.objs.size:=by rw [sb₃.1,sb₂.1,sb₁.1]
  have lt:e<hp.objs.size:=Heap.lt_size he
  have t₄:g₄.get? hp.objs.size=some { cls:= .type "tuple",data:= .seq #[.int i tk,y]}:=by rw [<-hg,<-sz];exact Heap.get?_push_size _ rfl
  have z₄:g₄.objs.size=hp.objs.size+1:=by rw [<-hg,Heap.size_push,sz]
  have k₄:∀b o,b≠e->b≠j->hp.get? b=some o->g₄.get? b=some o:=fun b o h1 h2 hb=>by
    rw [<-hg];exact Heap.get?_push_of_some _ (sb₃.extBut b o h1 (sb₂.extBut b o h1 (sb₁.extBut b o h2 hb)))
  have j₄:g₄.IsTupleIter j u (i+1):=by
    rw [<-hg];obtain⟨o,ho,r⟩:=(hj₁.extBut sb₂.extBut (Ne.symm ne)).extBut sb₃.extBut (Ne.symm ne);exact⟨o,Heap.get?_push_of_some _ ho,r⟩
  show wpAny _ _ (Builtin.SmallTypes.ownedTupleIsFree (.ref e)>>=_) _ _ ⟨g₄,gg,d,tk+1,os⟩
  rw [sz]
  clear hg e₃ sb₃ e₂ sb₂ e₁ sb₁ hj₁ sz g₃ g₂ g₁
  refine wpAny_bind ?_
  . unfold Builtin.SmallTypes.ownedTupleIsFree
    refine wpAny_bind (wpAny_field e₄ rfl (x:= .none) rfl (wpAny_pure ?_))
    simp only [if_true]
    refine wpAny_bind (wpAny_rule ?_)
    refine wpAny_bind (wpAny_field e₄ rfl (x:=old) rfl ?_)
    refine wpAny_bind (wpAny_setField_rec e₄ (by simp) fun g₅ e₅ sb₅=> ?_)
    replace sb₅:Heap.SameBut e g₄ g₅:=sb₅
    replace e₅:IsEnum g₅ e j ((i:Int)+1) y:=e₅
    show wpAny _ _ (Builtin.SmallTypes.ownedTupleHandOut (.ref e) (.ref hp.objs.size)>>=_) _ _ ⟨g₅,gg,d,tk+1,os⟩
    refine wpAny_bind ?_
    . unfold Builtin.SmallTypes.ownedTupleHandOut
      refine wpAny_bind (wpAny_setField_rec e₅ (by simp) fun g₆ e₆ sb₆=> ?_)
      replace sb₆:Heap.SameBut e g₅ g₆:=sb₆
      replace e₆:IsEnumOut g₆ e j ((i:Int)+1) y hp.objs.size:=e₆
      refine wpAny_setField_rec e₆ (by simp) fun g₇ e₇ sb₇=> ?_
      replace sb₇:Heap.SameBut e g₆ g₇:=sb₇
      replace e₇:IsEnumOut g₇ e j ((i:Int)+1) y hp.objs.size:=e₇
      refine wpAny_bind (wpAny_letGo (wpAny_pure ⟨_,rfl,k g₇ e₇ ?_ ?_ ?_ ?_⟩))
      . exact((j₄.extBut sb₅.extBut (Ne.symm ne)).extBut sb₆.extBut (Ne.symm ne)).extBut sb₇.extBut (Ne.symm ne)
      . exact sb₇.extBut _ _ (Nat.ne_of_gt lt) (sb₆.extBut _ _ (Nat.ne_of_gt lt) (sb₅.extBut _ _ (Nat.ne_of_gt lt) t₄))
      . rw [sb₇.1,sb₆.1,sb₅.1,z₄]
      . exact fun b o h1 h2 hb=>sb₇.extBut b o h1 (sb₆.extBut b o h1 (sb₅.extBut b o h1 (k₄ b o h1 h2 hb)))
theorem Af9 {e:Addr}{y old:Value}{Q:Option Value->Shared->Prop} (he:IsEnum s.heap e j i old) (hj:s.heap.IsTupleIter j u i) (hu:s.heap.IsTuple u xs) (hy:xs[i]? =some y) (ne:e≠j)
    (k:∀g,IsEnumOut g e j ((i:Int)+1) y s.heap.objs.size->g.IsTupleIter j u (i+1)->g.get? s.heap.objs.size=some { cls:= .type "tuple",data:= .seq #[.int i s.toks,y]}->g.objs.size=s.heap.objs.size+1->
      (∀b o,b≠e->b≠j->s.heap.get? b=some o->g.get? b=some o)->Q (some (.ref s.heap.objs.size)) { s with heap:=g,toks:=s.toks+1}):wpAny (model prog w) A (pyNext (.ref e)) Q E s:=by
  have ty:s.TypeIs (.ref e) "enumerate":=⟨_,he,rfl⟩
  unfold pyNext
  exact wpAny_bind (wpAny_attempt (wpAny_callSpecial?_slot (name:=Str.ofString "__next__") ty F.slot_enumerate_next (wpAny_call_entry F.slot_enumerate_next ty F.entry_enumerate_next
    (Afw he hj hu hy ne fun g a b c d f=>wpAny_pure (k g a b c d f)) (F.args_enumerate_next_1 _))))
theorem Af3 {e:Addr}{old:Value}{Q:Option Value->Shared->Prop} (hh:A.handled=none) (he:IsEnum s.heap e j i old) (hj:s.heap.IsTupleIter j u i) (hu:s.heap.IsTuple u xs) (hy:xs[i]? =none)
    (k:∀g,Heap.ExtBut j s.heap g->Q none { s with heap:=g}):wpAny (model prog w) A (pyNext (.ref e)) Q E s:=by
  have ty:s.TypeIs (.ref e) "enumerate":=⟨_,he,rfl⟩
  unfold pyNext
  refine wpAny_bind (wpAny_attempt (wpAny_callSpecial?_slot (name:=Str.ofString "__next__") ty F.slot_enumerate_next (wpAny_call_entry F.slot_enumerate_next ty F.entry_enumerate_next ?_ (F.args_enumerate_next_1 _))))
  show wpAny _ _ (field (.ref e) 2>>=_) _ _ _
  refine wpAny_bind (wpAny_field he rfl (x:= .ref j) rfl ?_)
  refine wpAny_bind (W9 hh hj hu hy fun g x hg ⟨o,ho,hc⟩=> ?_)
  refine wpAny_bind (wpAny_isInstance (T:="StopIteration") (b:=true) ⟨o,ho,hc⟩ isSubtype_stop ?_)
  exact wpAny_pure (k _ hg)
end
open AutoSeq1 (wpAny_loadPart')in
theorem Adw (u:Addr) (xs:Array Value) (o:Obj) (n:Nat) (hc:o.cls= .type "tuple") (hd:o.data= .seq xs n):
    Meets (Builtin.«enumerate.__new__» ⟨[.type "enumerate",.ref u],[]⟩) (fun _ R s=>s.heap.get? u=some o/\R (.ok (.ret (.ref (s.heap.push { cls:= .type "tuple_iterator",data:= .fields #[.ref u,.int 0 0]}).objs.size)))
        { s with heap:=(s.heap.push { cls:= .type "tuple_iterator",data:= .fields #[.ref u,.int 0 0]}).push { cls:= .type "enumerate",data:= .fields #[.none,.bool false,.ref s.heap.objs.size,rawInt 0,.none,.none]}}):=
  .of_wp fun prog w A R s h=>by
    obtain⟨hp,g,d,tk,os⟩:=s;obtain⟨hu,h⟩:=h
    obtain⟨oc,od,odat,osl⟩:=o
    obtain rfl:oc= .type "tuple":=hc
    obtain rfl:odat= .seq xs n:=hd
    have su:=sub_enumerate
    have hT:Heap.IsTuple (Shared.heap ⟨hp,g,d,tk,os⟩) u xs:=⟨_,hu,rfl,n,rfl⟩
    wp_walk using wpAny_loadPart' hu
    refine wpAny_stack_any fun st=>wpAny_pure ?_
    split
    . rename_i c _ _ _ _ _
      cases(c==Value.type "enumerate")
      . wp_walk using wpAny_loadPart' hu,wpAny_pyIter_tuple hT
        exact⟨_,rfl,h⟩
      . wp_walk using wpAny_loadPart' hu,wpAny_pyIter_tuple hT
        exact⟨_,rfl,h⟩
    . wp_walk using wpAny_loadPart' hu,wpAny_pyIter_tuple hT
      exact⟨_,rfl,h⟩
section
variable {X:Cx}{pins:List (Addr × Obj)}{σ:St}{H:Hp}{s:Shared}{h':Heap}
theorem Inv.turnL {t':Nat}{fp:List Addr} (I:Inv X pins σ H s) (k:∀b o,b∉fp->s.heap.get? b=some o->h'.get? b=some o) (hf:∀b∈fp,Yl X pins H b):Inv X pins σ H { s with heap:=h',toks:=t'}:=by
  have nf:∀b u,H b=some u->b∉fp:=fun b u e z=>by
    have:=(hf b z).1
    rw [this]at e
    cases e
  refine I.step (g':=s.gens) (d':=s.drawn) (ch:=fp) (fun b hb=>⟨(hf b hb).2.2.2.1,(hf b hb).2.1,(hf b hb).2.2.2.2.1,(hf b hb).2.2.2.2.2⟩) (fun b o _ _ hc e _=>k b o hc e) (fun b o _ _ hc e _=>⟨o.slots,k b o hc e⟩) (fun _ _ _ _ n=>n)
    (fun b o hc e=>⟨o,k b o hc e⟩) (fun _ _ e=>e) (fun _ _ _ e=>e) (fun b ps e=>⟨#[],by rw [e];simp⟩) (fun m hm=> ?_) (fun b u e=> ?_) I.bare
  . obtain⟨o,es,ep,ho,r⟩:=hm
    exact⟨o,es,ep,k _ o (fun z=>(hf _ z).2.1 rfl) ho,r⟩
  . refine(I.hok b u e).stay (fun c v hc q=>k c v ?_ q) (fun _ q=>q) fun _ _ q=>q
    rcases hc with z | z
    . rw [z]
      exact nf b u e
    . exact nf c _ z
end
def Ite (K:PySem.W.Frag) (a:Addr):It:=
  ⟨fun i H=>∃xs x,SqT K H a xs/\xs[i]? =some x,fun i H x H'=>∃p v,(∀xs,SqT K H a xs->xs[i]? =some v)/\H p=none/\x= .ref p/\H'=upd H p (.tup [.int (i:Nat),v]),fun i H=>∃xs,SqT K H a xs/\xs.length<=i⟩
theorem Aii {P:Program}{w:World}{K:PySem.W.Frag}{el:List Expr}{x1}{tp:Pos} (a e j:Addr) (ne:e≠j):Turn P w K (.Tuple el x1 tp) (Ite K a) [e,j] e (fun i h=>(∃old,IsEnum h e j i old)/\h.IsTupleIter j a i) where
  mem:=by simp
  obj:=fun i h st b hb=>by
    obtain⟨⟨old,he⟩,oj,ej,cj,dj⟩:=st
    rcases List.mem_cons.mp hb with rfl | hb
    . exact⟨_,he,fun v z=>by cases(show Data.fields _=Data.cell v from z)⟩
    . have z:b=j:=by simpa using hb
      subst z
      exact⟨oj,ej,fun v z=>by rw [dj]at z;cases z⟩
  keep:=fun i h h' st k=>by
    obtain⟨⟨old,he⟩,oj,ej,r⟩:=st
    exact⟨⟨old,k e (by simp) _ he⟩,oj,k j (by simp) _ ej,r⟩
  item:=by
    intro X hP hw hK hc i pins s σ H E I hf st hg
    subst hP hw hK
    obtain⟨xs,x,hq,hx⟩:=hg
    obtain⟨its,rv,p,hz⟩:=I.tuple hq
    obtain⟨u,hu,ru⟩:=rv.get hx
    obtain⟨⟨old,he⟩,hj⟩:=st
    refine Af9 he hj (show s.heap.IsTuple a its.toArray from p) (y:=u) (by simpa using hu) ne fun g hout hj' hT hsz kk=>⟨_,rfl,?_⟩
    refine wpAny_letOwnedTupleGo_enum hout fun g2 he2 sb2=> ?_
    replace sb2:Heap.SameBut e g g2:=sb2
    have lte:e<s.heap.objs.size:=Heap.lt_size he
    have ltj:j<s.heap.objs.size:=by
      obtain⟨_,ej,_⟩:=hj
      exact Heap.lt_size ej
    have hn:H s.heap.objs.size=none:=I.fresh
    have I1:Inv X pins σ (upd H s.heap.objs.size (.tup [.int (i:Nat),x])) { s with heap:=s.heap.push { cls:= .type "tuple",data:= .seq #[.int i s.toks,u]},toks:=s.toks+1}:=
      I.laid (fun b o q=>Heap.get?_push_of_some _ q) (Nat.le_refl _) ⟨by show 2<=sizeLine;decide,[.int i s.toks,u],.cons ⟨_,rfl⟩ (.cons ru .nil),⟨_,Heap.get?_push_size _ rfl,rfl,_,rfl⟩⟩
    have fp':∀b∈ [e,j],Yl X pins (upd H s.heap.objs.size (.tup [.int (i:Nat),x])) b:=fun b hb=>by
      have nb:b≠s.heap.objs.size:=by
        rcases List.mem_cons.mp hb with rfl | hb'
        . exact Nat.ne_of_lt lte
        . have z:b=j:=by simpa using hb'
          subst z
          exact Nat.ne_of_lt ltj
      exact⟨by rw [Bv nb];exact(hf b hb).1,(hf b hb).2⟩
    have I2:=I1.turnL (h':=g2) (t':=s.toks+1) (fp:=[e,j]) (fun b o hb q=>by
      have n1:b≠e:=fun z=>hb (by simp [z])
      have n2:b≠j:=fun z=>hb (by simp [z])
      refine(sb2.2 b n1).trans ?_
      rcases Heap.get?_push_cases q with⟨rfl,rfl⟩ | q0
      . exact hT
      . exact kk b o n1 n2 q0) fp'
    refine⟨.ref s.heap.objs.size,_,I2,rfl,⟨_,x,fun ys hy=>by rw [I.tuple_inj hy hq];exact hx,hn,rfl,rfl⟩,⟨⟨_,by simpa using he2⟩,?_⟩,fun b hb=>(fp' b hb).1⟩
    exact hj'.extBut sb2.extBut (Ne.symm ne)
  done:=by
    intro X hP hw hK hc i pins s σ H E I hf st hg
    subst hP hw hK
    obtain⟨xs,hq,hx⟩:=hg
    obtain⟨its,rv,p,hz⟩:=I.tuple hq
    obtain⟨⟨old,he⟩,hj⟩:=st
    have hl:=rv.length
    exact Af3 (I.ok.hd hc) he hj (show s.heap.IsTuple a its.toArray from p) (by simp;omega) fun g eb=>⟨rfl,I.turnL (t':=s.toks) (fp:=[e,j]) (fun b o hb q=>eb b o (fun z=>hb (by simp [z])) q) hf⟩
  self:=fun _ _ _ _ _ st h=>by
    obtain⟨⟨old,he⟩,_⟩:=st
    exact wpAny_pyIter_enum he h
section
variable {X:Cx}{a:Expr}{ta:TA}{el:List Expr}{x1}{tp p pos:Pos}
def iEn (K:PySem.W.Frag) (ta:TA):TI:=fun σ H R=>ta σ H fun vs H1=>∃a,vs=[.ref a]/\(∃xs,SqT K H1 a xs)/\R (Ite K a) H1
theorem U3 (hg:Gl X "enumerate") (hm:X.mg "enumerate"=none) (ha:PA X [a] ta) (hs:starEach [a] X.env=[(false,eval a X.env)]:=by rfl):PI X (.Tuple el x1 tp) (.Call (.Name "enumerate" p) [a] [] pos) (iEn X.K ta):=by
  intro pins s σ H R I h
  refine Call_ (Py I hg hm boot_enumerate (PyProof.Rows.callWith_type1 (thn (ha pos pins s σ H _ I h) fun us s1 ⟨vs,H1,I1,r1,q1⟩=> ?_) hs rfl))
  obtain⟨b,rfl,⟨xs,hq⟩,q⟩:=q1
  obtain⟨v,rfl,rv⟩:=vals1 r1
  cases rv
  obtain⟨its,rr,pl,hz⟩:=I1.tuple hq
  obtain⟨o,ho,hc,n,hd⟩:=(show s1.heap.IsTuple b its.toArray from pl)
  refine callType_new F.called_enumerate (by decide) (F.typeCall_enumerate_1 _) (F.newCall_enumerate_1 _) (fun obj=>F.args_object_init_2 obj _) F.entry_enumerate_new (Adw b its.toArray o n hc hd) ⟨ho,?_⟩
  have z1:(s1.heap.push { cls:= .type "tuple_iterator",data:= .fields #[.ref b,.int 0 0]}).objs.size=s1.heap.objs.size+1:=Heap.size_push ..
  show _/\_
  rw [z1]
  have he:IsEnum ((s1.heap.push { cls:= .type "tuple_iterator",data:= .fields #[.ref b,.int 0 0]}).push { cls:= .type "enumerate",data:= .fields #[.none,.bool false,.ref s1.heap.objs.size,rawInt 0,.none,.none]}) (s1.heap.objs.size+1) s1.heap.objs.size ((0:Nat):Int) .none:=by
    have z2:=Heap.get?_push_size (s1.heap.push { cls:= .type "tuple_iterator",data:= .fields #[.ref b,.int 0 0]}) (o:={ cls:= .type "enumerate",data:= .fields #[.none,.bool false,.ref s1.heap.objs.size,rawInt 0,.none,.none]}) rfl
    rw [z1]at z2
    exact z2
  have hj:Heap.IsTupleIter ((s1.heap.push { cls:= .type "tuple_iterator",data:= .fields #[.ref b,.int 0 0]}).push { cls:= .type "enumerate",data:= .fields #[.none,.bool false,.ref s1.heap.objs.size,rawInt 0,.none,.none]}) s1.heap.objs.size b 0:=
    ⟨_,Heap.get?_push_of_some _ (Heap.get?_push_size _ rfl),rfl,rfl⟩
  have I2:Inv X pins σ H1 { s1 with heap:=(s1.heap.push { cls:= .type "tuple_iterator",data:= .fields #[.ref b,.int 0 0]}).push { cls:= .type "enumerate",data:= .fields #[.none,.bool false,.ref s1.heap.objs.size,rawInt 0,.none,.none]}}:=
    I1.kept (t':=s1.toks) fun c o' e=>Heap.get?_push_of_some _ (Heap.get?_push_of_some _ e)
  refine⟨⟨_,he,rfl⟩,wpAny_pyIter_enum he ⟨s1.heap.objs.size+1,[s1.heap.objs.size+1,s1.heap.objs.size],_,_,H1,rfl,I2,Aii b _ _ (Nat.ne_of_gt (Nat.lt_succ_self _)),⟨⟨_,he⟩,hj⟩,fun c hcm=> ?_,q⟩⟩
  have hge:s1.heap.objs.size<=c:=by
    rcases List.mem_cons.mp hcm with rfl | hcm
    . exact Nat.le_succ _
    . have z:c=s1.heap.objs.size:=by simpa using hcm
      exact Nat.le_of_eq z.symm
  exact I1.fpOk hge (I1.hok.fresh hge)
end
theorem Jc {K:PySem.W.Frag}{σ:St}{H:Hp}{ta:TA}{R:It->Hp->Prop}:iEn K ta σ H R=ta σ H (fun vs H1=>∃a,vs=[.ref a]/\(∃xs,SqT K H1 a xs)/\R (Ite K a) H1):=rfl
theorem Abb {K:PySem.W.Frag}{σ:St}{H:Hp}{g:TG}{tb:TS}{D:Ends}{α:Type}{es:List α}{inj:α->V}{a:Addr} (Pv:List α->St->Hp->Prop) (h0:Pv [] σ H) (hw:∀pre σ H,Pv pre σ H->SqT K H a (es.map inj))
    (hs:∀pre e post σ H p,es=pre++e::post->Pv pre σ H->H p=none->g (.ref p) σ (upd H p (.tup [.int (pre.length:Nat),inj e])) fun σ2 H2=>tb { D with nx:=Pv (pre++ [e]),ct:=Pv (pre++ [e]),bk:=D.nx} σ2 H2) (hd:∀σ H,Pv es σ H->D.nx σ H):FI (Ite K a) g tb D σ H:=by
  refine⟨fun i m σ H=>m=es.length-i/\i<=es.length/\Pv (es.take i) σ H,⟨es.length,by simp,Nat.zero_le _,h0⟩,?_⟩
  rintro i m σ H ⟨rfl,hi,p⟩
  have w:=hw _ _ _ p
  cases he:es[i]? with
  | none=>
    have e:i=es.length:=Nat.le_antisymm hi (List.getElem?_eq_none_iff.mp he)
    subst e
    rw [List.take_length]at p
    exact .inl ⟨⟨_,w,by rw [List.length_map];exact Nat.le_refl _⟩,hd _ _ p⟩
  | some e=>
    obtain⟨hlt,ee⟩:=List.getElem?_eq_some_iff.mp he
    have tk:es.take (i+1)=es.take i++ [e]:=by rw [List.take_succ,he];rfl
    have sp:es=es.take i++e::es.drop (i+1):=by
      rw [<-ee,<-List.drop_eq_getElem_cons hlt,List.take_append_drop]
    refine .inr ⟨⟨_,inj e,w,by rw [List.getElem?_map,he];rfl⟩,Pv (es.take i++ [e]),fun σ' H' q=>⟨es.length-(i+1),by omega,rfl,hlt,by rw [tk];exact q⟩,fun x H' y=> ?_⟩
    obtain⟨b,v,y1,y2,rfl,rfl⟩:=y
    have y3:=y1 _ w
    rw [List.getElem?_map,he]at y3
    obtain rfl:inj e=v:=Option.some.inj y3
    have hl:(es.take i).length=i:=by rw [List.length_take];omega
    have z:=hs _ e _ σ H b sp p y2
    rw [hl]at z
    exact z
end L2
namespace L2
open PySem PySem.Spec PyProof.Rows
section
variable {X:Cx}
def Ano (K:PySem.W.Frag):R2:=fun x y H Q=>∃a b xs ys,x= .ref a/\y= .ref b/\SqT K H a xs/\SqT K H b ys/\xs.length+ys.length<=sizeLine/\∀z H',Same H H'->SqT K H' z (xs++ys)->Q (.ref z) H'
theorem Ajk:OpR X (binaryOp .Add) (Ano X.K):=by
  intro pins s σ H x y v u Q I rx ry h
  obtain⟨a,b,xs,ys,rfl,rfl,ha,hb,hz,q⟩:=h
  by_cases hx:xs=[]
  . subst hx
    cases rx
    cases ry
    obtain⟨its,r1,p1,_⟩:=I.tuple ha
    obtain⟨its2,r2,p2,_⟩:=I.tuple hb
    cases r1
    obtain⟨⟨c1,d1,t1,l1⟩,ho,hc,n,hd⟩:=(show s.heap.IsTuple a ([]:List Value).toArray from p1)
    obtain⟨⟨c2,d2,t2,l2⟩,ho2,hc2,n2,hd2⟩:=(show s.heap.IsTuple b its2.toArray from p2)
    simp only at hc hd hc2 hd2
    subst hc hd hc2 hd2
    exact concat_meets ⟨_,ho,rfl⟩ ⟨_,ho2,rfl⟩ noFill_tuple_add seq_tuple_add PySem.F.slot_tuple_add PySem.F.entry_tuple_add (PySem.F.args_tuple_add_2 _ _)
      (tuple_addW0 a b #[] its2.toArray n n2 d1 d2 l1 l2 rfl) ⟨ho,ho2,⟨.ref b,H,I,rfl,q b H (Same.refl _) hb⟩⟩
  . exact Ajw pins s σ H _ _ v u Q I rx ry ⟨a,b,xs,ys,rfl,rfl,ha,hb,hx,hz,fun e=>q a H (Same.refl _) (by rw [e,List.append_nil];exact ha),fun _ p hp=>q p _ (Same.upd hp _) (.of Af)⟩
theorem Z4 (hc:X.calm=true):K6 X (.builtin "all") (fun xs H Q=>∃(a:Addr) (bs:List Bool),xs=[.ref a]/\SqL X.K H a (bs.map V.bl)/\Q (.bl (bs.all id)) H):=by
  intro pins s σ H xs us Q I r h
  obtain⟨a,bs,rfl,ha,q⟩:=h
  obtain⟨u,rfl,ru⟩:=vals1 r
  cases ru
  obtain⟨its,rv,p,hz⟩:=I.list ha
  have hl:s.heap.IsList a its.toArray:=p.isList
  have lt:a<s.heap.objs.size:=by
    obtain⟨_,e,_⟩:=hl
    exact Heap.lt_size e
  have ln:its.length=bs.length:=by
    have:=rv.length
    rw [List.length_map]at this
    exact this.symm
  refine call_all_walk (wpAny_pyIter_list hl ?_)
  refine⟨s.heap.objs.size,[s.heap.objs.size,a],[s.heap.objs.size],its.toArray.size,_,_,fun i=>(bs[i]?).getD true,rfl,Walks.list (A:=X.A.in1) (I.ok.hd hc) _ a (Nat.ne_of_lt lt) its.toArray,
    ⟨⟨_,Heap.get?_push_size _ rfl,rfl,rfl⟩,hl.push _⟩,fun i v s' Q' E' hP hQ=> ?_,fun g tk hk=> ?_⟩
  . have hv:its[i]? =some v:=by simpa using hP
    have hi:i<its.length:=(List.getElem?_eq_some_iff.mp hv).1
    have hb:bs[i]? =some bs[i]:=List.getElem?_eq_getElem (by omega)
    obtain⟨w',hw,rw'⟩:=rv.get (show(bs.map V.bl)[i]? =some (V.bl bs[i])by rw [List.getElem?_map,hb];rfl)
    rw [hv]at hw
    cases hw
    cases rw'
    simp only [hb,Option.getD_some]at hQ
    exact wpAny_truthy_bool hQ
  . have e:((List.range its.toArray.size).all fun i=>(bs[i]?).getD true)=bs.all id:=by
      rw [List.size_toArray,ln,Bool.eq_iff_iff,List.all_eq_true,List.all_eq_true]
      constructor
      . intro h x hx
        obtain⟨i,hi,ei⟩:=List.getElem_of_mem hx
        have:=h i (List.mem_range.mpr hi)
        rw [List.getElem?_eq_getElem hi,ei]at this
        exact this
      . intro h i hi
        have hi':=List.mem_range.mp hi
        rw [List.getElem?_eq_getElem hi']
        exact h _ (List.getElem_mem hi')
    rw [e]
    exact⟨.bl _,H,I.kept (t':=tk) fun b o q'=>hk b o (fun hm=>by rw [List.mem_singleton.mp hm]at q';exact Nat.lt_irrefl _ (Heap.lt_size q')) (Heap.get?_push_of_some _ q'),rfl,q⟩
end
theorem Ab5:fillsNumberSlot (.type "tuple") "mul"=pure false:=
  PySem.fillsNumberSlot_seq (id:="tuple.__mul__") (r:=some (.builtin "tuple.__rmul__")) PySem.F.slot_tuple_mul.lookup (by decide+kernel) PySem.F.slot_tuple_rmul.lookup (by decide+kernel)
theorem Alb:seqRepeat? (.type "tuple")=pure (some (.builtin "tuple.__mul__")):=by
  unfold seqRepeat?
  rw [PySem.seqSlot_of (T:="tuple") (name:="__mul__") (id:="tuple.__mul__") PySem.F.slot_tuple_mul.lookup (by decide+kernel),PySem.seqSlot_of (T:="tuple") (name:="__rmul__") (id:="tuple.__rmul__") PySem.F.slot_tuple_rmul.lookup (by decide+kernel)]
  rfl
theorem Aj2 (k:Int) (t:Tok) (u:Addr) (o:Obj) (xs:Array Value) (n:Nat) (hc:o.cls= .type "tuple") (hd:o.data= .seq xs n):
    Meets (Builtin.«int.__rmul__» ⟨[.int k t,.ref u],[]⟩) (fun _ R s=>s.heap.get? u=some o/\R (.ok (.ret Value.notImplemented)) s):=
  .of_wp fun prog w A R s h=>by
    obtain⟨hp,g,d,tk,os⟩:=s;obtain⟨hl,h⟩:=h
    obtain⟨oc,od,odat,osl⟩:=o
    obtain rfl:oc= .type "tuple":=hc
    obtain rfl:odat= .seq xs n:=hd
    wp_walk
    exact⟨_,rfl,h⟩
open AutoSeq1 (wpAny_loadPart')in
theorem Al1 (k:Int) (t:Tok) (u:Addr) (xs:Array Value) (n:Nat) (dd:Option Addr) (sl:Array (Option Value)) (k0:¬k<=0) (k1:¬k=1) (k2:k<1000) (hx:¬xs.isEmpty=true) (hz:xs.size*k.toNat<=100000):
    Meets (Builtin.«tuple.__mul__» ⟨[.ref u,.int k t],[]⟩) (fun _ R s=>s.heap.get? u=some { cls:= .type "tuple",dict:=dd,data:= .seq xs n,slots:=sl}/\
      R (.ok (.ret (.ref s.heap.objs.size))) { s with heap:=s.heap.push { cls:= .type "tuple",data:= .seq ((List.replicate k.toNat xs).foldl (· ++ ·) #[])}}):=
  .of_wp fun prog w A R s h=>by
    obtain⟨hp,g,d,tk,os⟩:=s;obtain⟨hl,h⟩:=h
    have f1:=AutoSeq1.idx_int
    have f2:=AutoSeq1.sub_tuple_tuple
    have hx0:0<xs.size:=by
      cases xs with
      | mk l=>
        cases l with
        | nil=>exact absurd rfl hx
        | cons a r=>simp
    have kn:(k.toNat:Int)=k:=Int.toNat_of_nonneg (by omega)
    have zz:(xs.size:Int)*k<=100000:=by
      rw [<-kn,<-Int.natCast_mul]
      omega
    have g1:¬(decide (k< -2^63)||decide (k>=2^63))=true:=by simp;omega
    have g2:¬(xs.isEmpty||k==1)=true:=by
      rw [Bool.or_eq_true]
      rintro(z | z)
      . exact hx z
      . exact k1 (by simpa using z)
    have g3:¬(decide (k<=0)||xs.isEmpty)=true:=by
      rw [Bool.or_eq_true]
      rintro(z | z)
      . exact k0 (by simpa using z)
      . exact hx z
    have g4:¬((xs.size:Int)*k>(2^63-1)/8):=by omega
    have g5:¬Builtin.Tuple.tupleTooMany ((xs.size:Int)*k)=true:=by
      unfold Builtin.Tuple.tupleTooMany
      have:(100000:Nat)<=sizeLine:=by decide
      simp only [decide_eq_true_eq]
      omega
    have sz:((List.replicate k.toNat xs).foldl (· ++ ·) #[]).size<=sizeLine:=by
      have e:∀(m:Nat) (acc:Array Value),((List.replicate m xs).foldl (· ++ ·) acc).size=acc.size+m*xs.size:=fun m=>by
        induction m with
        | zero=>intro acc;simp
        | succ m ih=>
          intro acc
          rw [List.replicate_succ,List.foldl_cons,ih,Array.size_append,Nat.succ_mul]
          omega
      rw [e]
      have:(100000:Nat)<=sizeLine:=by decide
      rw [Nat.mul_comm]at hz
      simp only [Array.size_empty]
      omega
    have hT:Heap.IsTuple hp u xs:=⟨_,hl,rfl,n,rfl⟩
    wp_walk using wpAny_loadPart' hl
    rw [if_neg g1]
    refine wpAny_bind (tupleItemsOf_ hT ?_)
    dsimp only
    rw [if_neg g2,if_neg g3,if_neg g4,if_neg g5]
    exact wpAny_bind (wpAny_newObj_type (wpAny_pure ⟨_,rfl,h⟩) sz)
open AutoSeq1 (wpAny_loadPart')in
theorem Ajz (t:Tok) (u:Addr) (xs:Array Value) (n:Nat) (dd:Option Addr) (sl:Array (Option Value)):
    Meets (Builtin.«tuple.__mul__» ⟨[.ref u,.int 1 t],[]⟩) (fun _ R s=>s.heap.get? u=some { cls:= .type "tuple",dict:=dd,data:= .seq xs n,slots:=sl}/\R (.ok (.ret (.ref u))) s):=
  .of_wp fun prog w A R s h=>by
    obtain⟨hp,g,d,tk,os⟩:=s;obtain⟨hl,h⟩:=h
    have f1:=AutoSeq1.idx_int
    have f2:=AutoSeq1.sub_tuple_tuple
    have g1:¬(decide ((1:Int)< -2^63)||decide ((1:Int)>=2^63))=true:=by decide
    have g2:(xs.isEmpty||(1:Int)==1)=true:=by simp
    have hT:Heap.IsTuple hp u xs:=⟨_,hl,rfl,n,rfl⟩
    wp_walk using wpAny_loadPart' hl
    exact⟨_,rfl,h⟩
open AutoSeq1 (wpAny_loadPart')in
theorem Ajn (t:Tok) (u:Addr) (xs:Array Value) (n:Nat) (dd:Option Addr) (sl:Array (Option Value)) (hx:¬xs.isEmpty=true):
    Meets (Builtin.«tuple.__mul__» ⟨[.ref u,.int 0 t],[]⟩) (fun _ R s=>s.heap.get? u=some { cls:= .type "tuple",dict:=dd,data:= .seq xs n,slots:=sl}/\
      R (.ok (.ret (.ref s.heap.objs.size))) { s with heap:=s.heap.push { cls:= .type "tuple",data:= .seq #[]}}):=
  .of_wp fun prog w A R s h=>by
    obtain⟨hp,g,d,tk,os⟩:=s;obtain⟨hl,h⟩:=h
    have f1:=AutoSeq1.idx_int
    have f2:=AutoSeq1.sub_tuple_tuple
    have g1:¬(decide ((0:Int)< -2^63)||decide ((0:Int)>=2^63))=true:=by decide
    have g2:¬(xs.isEmpty||(0:Int)==1)=true:=by simpa using hx
    have g3:(decide ((0:Int)<=0)||xs.isEmpty)=true:=by simp
    have hT:Heap.IsTuple hp u xs:=⟨_,hl,rfl,n,rfl⟩
    wp_walk using wpAny_loadPart' hl
    exact⟨_,rfl,h⟩
section
variable {X:Cx}
def Ant (K:PySem.W.Frag):R2:=fun x y H Q=>∃(a:Addr) (k:Nat) (xs:List V),x= .ref a/\y= .int (k:Nat)/\SqT K H a xs/\xs≠ []/\k<1000/\xs.length*k<=100000/\∀z H',Same H H'->SqT K H' z (List.replicate k xs).flatten->Q (.ref z) H'
theorem Aji:OpR X (binaryOp .Mult) (Ant X.K):=by
  intro pins s σ H x y v u Q I rx ry h
  obtain⟨a,k,xs,rfl,rfl,ha,hx,hk,hz,q⟩:=h
  cases rx
  obtain⟨t,rfl⟩:=ry
  obtain⟨its,r1,p1,_⟩:=I.tuple ha
  obtain⟨⟨c1,d1,t1,l1⟩,ho,hc,n,hd⟩:=(show s.heap.IsTuple a its.toArray from p1)
  simp only at hc hd
  subst hc hd
  have hne:¬its.toArray.isEmpty=true:=by
    have:=fun z=>hx (r1.nil_iff.mp z)
    simpa using this
  refine wpAny_binaryOp_repeat_ref (T:="tuple") (U:="int") (by decide) ⟨_,ho,rfl⟩ (fun s'=>typeIs_int s' k t) Ab5 F.fills_int_mul F.slot_int_rmul Alb F.slot_int_index.lookup
    (call_meets F.slot_int_rmul (typeIs_int s k t) F.entry_int_rmul (F.args_int_rmul_2 _ _) (Aj2 k t a _ its.toArray n rfl rfl) ⟨ho,rfl,⟨_,ho,rfl⟩,?_⟩)
  by_cases k0:k=0
  . subst k0
    refine call_meets F.slot_tuple_mul ⟨_,ho,rfl⟩ F.entry_tuple_mul (F.args_tuple_mul_2 _ _) (Ajn t a its.toArray n d1 l1 hne) ⟨ho,?_⟩
    exact⟨.ref s.heap.objs.size,_,I.laid (t':=s.toks) (o:= .tup []) (fun b ob q'=>Heap.get?_push_of_some _ q') (Nat.le_refl _) ⟨Nat.zero_le _,[],.nil,IsTup.new _ _⟩,rfl,q _ _ (Same.upd I.fresh _) (.of Af)⟩
  by_cases k1:k=1
  . subst k1
    refine call_meets F.slot_tuple_mul ⟨_,ho,rfl⟩ F.entry_tuple_mul (F.args_tuple_mul_2 _ _) (Ajz t a its.toArray n d1 l1) ⟨ho,?_⟩
    exact⟨.ref a,H,I,rfl,q a H (Same.refl _) (by simpa using ha)⟩
  have kt:((k:Nat):Int).toNat=k:=Int.toNat_natCast k
  refine call_meets F.slot_tuple_mul ⟨_,ho,rfl⟩ F.entry_tuple_mul (F.args_tuple_mul_2 _ _) (Al1 k t a its.toArray n d1 l1 (by omega) (by omega) (by omega) hne (by rw [List.size_toArray,kt,<-r1.length];exact hz)) ⟨ho,?_⟩
  have e:(List.replicate ((k:Nat):Int).toNat its.toArray).foldl (· ++ ·) #[]=(List.replicate k its).flatten.toArray:=by
    rw [kt]
    have:=foldl_rep its k []
    rw [List.nil_append]at this
    exact this
  rw [e]
  refine⟨.ref s.heap.objs.size,_,I.laid (t':=s.toks) (o:= .tup (List.replicate k xs).flatten) (fun b ob q'=>Heap.get?_push_of_some _ q') (Nat.le_refl _) ⟨?_,_,r1.rep k,IsTup.new _ _⟩,rfl,q _ _ (Same.upd I.fresh _) (.of Af)⟩
  rw [len_rep,Nat.mul_comm]
  exact Nat.le_trans hz (by decide)
end
section
variable {X:Cx}
theorem Aai:K6 X (.builtin "isinstance") (fun xs H Q=>∃(a:Addr) (ys:List V) (T:String) (b:Bool),xs=[.ref a,.ty T]/\SqT X.K H a ys/\PySem.W.kitOne X.K (.type "tuple") (.type T)=some b/\Q (.bl b) H):=by
  intro pins s σ H xs us Q I r h
  obtain⟨a,ys,T,b,rfl,ht,hk,q⟩:=h
  obtain⟨u,c,rfl,ru,rc⟩:=vals2 r
  cases rc
  cases ru
  obtain⟨its,rv,p,_⟩:=I.tuple ht
  obtain⟨o,h1,h2,_⟩:=(show s.heap.IsTuple a its.toArray from p)
  exact PySem.W.kia_one PySem.W.kitx_tuple I.kIn ⟨o,h1,h2⟩ hk (fun z=>nomatch z) fun tk=>⟨.bl b,H,I.tok tk,rfl,q⟩
end
section
variable {prog:Program}{w:World}{A:Around}{E:Value->Shared->Prop}{s:Shared}
theorem Aed {t sl:Addr}{ys:Array Value}{vl vu:Value}{lo hi:Option Int}{Q:Value->Shared->Prop} (ht:IsTup s.heap t ys) (hs:s.heap.IsSliceOf sl vl vu .none) (pl:IsPart vl lo) (pu:IsPart vu hi)
    (w1:HT.sIx ys.size 0 lo=0) (w2:HT.sIx ys.size ys.size hi=ys.size) (h:Q (.ref t) s):wpAny (model prog w) A (getItem (.ref t) (.ref sl)) Q E s:=by
  obtain⟨os,eos,cs,ds⟩:=id hs
  have ty:s.TypeIs (.ref sl) "slice":=⟨os,eos,cs⟩
  unfold getItem
  try with_reducible refine(wpAny_holding ?_)
  first | refine(wpAny_bind (wpAny_pure ?_)) | skip
  refine wpAny_bind (wpAny_sequenceKey ht.typeIs (by decide) (?_))
  refine wpAny_bind (wpAny_callSpecial?_slot (name:=Str.ofString "__getitem__") ht.typeIs PyProof.Rows.slot_tuple_getitem (wpAny_call_entry PyProof.Rows.slot_tuple_getitem ht.typeIs entry_tuple_getitem ?_ (args_tuple_getitem _ _)))
  show wpAny _ A.in1 (Builtin.Tuple.tupleItemsOf (.ref t)>>=_) _ _ s
  refine wpAny_bind (tupleItemsOf_ ht (?_))
  refine wpAny_bind (wpAny_typeOf ty ?_)
  rw [if_pos (by decide)]
  refine wpAny_bind (HT.Lz hs pl pu ?_)
  have yes:(((HT.sIx ys.size 0 lo:Nat):Int)==0&&(1:Int)==1&&(HT.sIx ys.size ys.size hi-HT.sIx ys.size 0 lo)==ys.size)=true:=by
    rw [w1,w2]
    simp
  show wpAny _ A.in1 (if(((HT.sIx ys.size 0 lo:Nat):Int)==0&&(1:Int)==1&&(HT.sIx ys.size ys.size hi-HT.sIx ys.size 0 lo)==ys.size)=true then _ else _) _ _ s
  rw [if_pos yes]
  refine wpAny_bind ?_
  unfold Builtin.Tuple.tupleIsExact
  refine wpAny_bind (wpAny_typeOf ht.typeIs (wpAny_pure ?_))
  rw [if_pos (by decide)]
  exact wpAny_bind (wpAny_rule (wpAny_pure ⟨_,rfl,wpAny_pure h⟩))
end
section
variable {X:Cx}
def Ao5 (K:PySem.W.Frag):V->Option Int->Option Int->Hp->VK->Prop:=fun x lo hi H Q=>∃a xs,x= .ref a/\SqT K H a xs/\∀z H',Same H H'->SqT K H' z (T6 xs lo hi)->Q (.ref z) H'
theorem Zm:SlR X (Ao5 X.K):=by
  intro pins s σ H x v vl vu lo hi sl Q I rx hs pl pu h
  obtain⟨a,xs,rfl,hx,q⟩:=h
  by_cases hw:HT.sIx xs.length 0 lo=0/\HT.sIx xs.length xs.length hi=xs.length
  . cases rx
    obtain⟨its,r,ht,hz⟩:=I.tuple hx
    have hlen:its.toArray.size=xs.length:=by rw [List.size_toArray];exact r.length.symm
    refine⟨"tuple",_,PyProof.Rows.slot_tuple_getitem.lookup,ht.typeIs,Aed ht hs pl pu (by rw [hlen];exact hw.1) (by rw [hlen];exact hw.2) ⟨.ref a,H,I,rfl,q a H (Same.refl _) ?_⟩⟩
    have e:T6 xs lo hi=xs:=by
      unfold T6
      rw [hw.1,hw.2,List.drop_zero,Nat.sub_zero,List.take_length]
    rw [e]
    exact hx
  . exact Alh pins s σ H _ v vl vu lo hi sl Q I rx hs pl pu ⟨a,xs,rfl,hx,hw,fun p hp=>q p _ (Same.upd hp _) (.of Af)⟩
def Ao2 (K:PySem.W.Frag):R2:=fun x y H Q=>∃a xs i v,x= .ref a/\y= .int i/\(SqL K H a xs\/SqT K H a xs)/\atI xs i=some v/\Q v H
theorem Als:IxR X (Ao2 X.K):=by
  intro value slice pins s σ H x y v u Q I rx ry h hs
  obtain⟨a,xs,i,w,rfl,rfl,hq,e,q⟩:=h
  rcases hq with hq | hq
  . exact G3 value slice pins s σ H _ _ v u Q I rx ry ⟨a,xs,i,w,rfl,rfl,hq,e,q⟩ hs
  . exact Bc value slice pins s σ H _ _ v u Q I rx ry ⟨a,xs,i,w,rfl,rfl,hq,e,q⟩ hs
def Aon (K:PySem.W.Frag):V->Option Int->Option Int->Hp->VK->Prop:=fun x lo hi H Q=>∃a xs,x= .ref a/\((SqL K H a xs/\∀z H',Same H H'->SqL K H' z (T6 xs lo hi)->Q (.ref z) H')\/(SqT K H a xs/\∀z H',Same H H'->SqT K H' z (T6 xs lo hi)->Q (.ref z) H'))
theorem Alz:SlR X (Aon X.K):=by
  intro pins s σ H x v vl vu lo hi sl Q I rx hs pl pu h
  obtain⟨a,xs,rfl,h | h⟩:=h
  . exact Zn pins s σ H _ v vl vu lo hi sl Q I rx hs pl pu ⟨a,xs,rfl,h.1,fun p hp=>h.2 p _ (Same.upd hp _) (.of Af)⟩
  . exact Zm pins s σ H _ v vl vu lo hi sl Q I rx hs pl pu ⟨a,xs,rfl,h.1,h.2⟩
end
end L2
namespace L2
open PySem PySem.Spec PyProof.Rows
section
variable {X:Cx}{e st:Expr}{te tst:TE}{pos p2:Pos}
def Aou (K:PySem.W.Frag) (te tst:TE):TE:=fun σ H Q=>te σ H fun x H1=>tst σ H1 fun y H2=>∃a xs,x= .ref a/\y= .int (-1)/\SqT K H2 a xs/\∀p,H2 p=none->Q (.ref p) (upd H2 p (.tup xs.reverse))
theorem Ja {K:PySem.W.Frag}{σ:St}{H:Hp}{Q:VK}:Aou K te tst σ H Q=te σ H (fun x H1=>tst σ H1 fun y H2=>∃a xs,x= .ref a/\y= .int (-1)/\SqT K H2 a xs/\∀p,H2 p=none->Q (.ref p) (upd H2 p (.tup xs.reverse))):=rfl
end
end L2
namespace L2
open PySem PySem.Spec PyProof.Rows
set_option maxRecDepth 100000
theorem Tn:Slot "reversed" "__next__" "reversed.__next__":= .of (owner:="reversed") (n:="__next__") (by rw [typeLookup_type,builtinLookup_eq_fast];kernel_rfl) (by decide+kernel) (by decide+kernel) (by decide+kernel) (by first | exact .inl (by decide+kernel) | exact .inr (by decide+kernel)) (by rw [isSubtype_type];kernel_rfl)
theorem Ads:Slot "reversed" "__iter__" "reversed.__iter__":= .of (owner:="reversed") (n:="__iter__") (by rw [typeLookup_type,builtinLookup_eq_fast];kernel_rfl) (by decide+kernel) (by decide+kernel) (by decide+kernel) (by first | exact .inl (by decide+kernel) | exact .inr (by decide+kernel)) (by rw [isSubtype_type];kernel_rfl)
theorem Ai6:Slot "reversed" "__init__" "object.__init__":= .of (owner:="object") (n:="__init__") (by rw [typeLookup_type,builtinLookup_eq_fast];kernel_rfl) (by decide+kernel) (by decide+kernel) (by decide+kernel) (by first | exact .inl (by decide+kernel) | exact .inr (by decide+kernel)) (by rw [isSubtype_type];kernel_rfl)
theorem U7:entryFor table "reversed.__next__"=some Builtin.«reversed.__next__» :=entryFor_of_tree (by kernel_rfl)
theorem Afd:entryFor table "reversed.__new__"=some Builtin.«reversed.__new__» :=entryFor_of_tree (by kernel_rfl)
theorem Aby:entryFor table "reversed.__iter__"=some Builtin.«dict_keyiterator.__iter__» :=
  entryFor_alias (id':="dict_keyiterator.__iter__") (by kernel_rfl) (by first | rfl | decide+kernel | (unfold String.splitOn;simp+decide [String.splitOnAux])) (by decide+kernel) (by kernel_rfl)
theorem Ah5:mroOf (.type "reversed")=pure [.type "reversed",.type "object"]:=by rw [mroOf_type];kernel_rfl
theorem An3:typeLookup (.type "reversed") "__new__"=pure (some (.builtin "reversed.__new__")):=by rw [typeLookup_type,builtinLookup_eq_fast];kernel_rfl
theorem Adt:TypeCalled "reversed" "reversed.__new__" "object.__init__":=⟨by decide+kernel,by decide+kernel,⟨_,_,Ah5⟩,madeBy_type Ah5 An3 (by decide+kernel),by decide+kernel,by rw [isSubtype_type];kernel_rfl,Ai6⟩
theorem Ann (a:Value):checkTypeCall "reversed" ⟨[a],[]⟩=pure ():=by kernel_rfl
theorem Anv (a:Value):checkBuiltinCall "reversed.__new__" ⟨[.type "reversed",a],[]⟩=pure ():=by kernel_rfl
theorem Aab:Manifest.owners.lookup (String.ofList ['d','e','s','r','e','v','e','r'].reverse)=some Manifest.sig_reversed:=by kernel_rfl
theorem Va (a:Value):argsOk "reversed.__next__" ⟨[a],[]⟩:=by
  unfold argsOk;rw [signature?_of (id:="reversed.__next__") (n:=['_','_','t','x','e','n','_','_']) (o:=['d','e','s','r','e','v','e','r']) (by kernel_rfl) Aab];kernel_rfl
theorem Abd (a:Value):argsOk "reversed.__iter__" ⟨[a],[]⟩:=by
  unfold argsOk;rw [signature?_of (id:="reversed.__iter__") (n:=['_','_','r','e','t','i','_','_']) (o:=['d','e','s','r','e','v','e','r']) (by kernel_rfl) Aab];kernel_rfl
theorem Ak7:isSubtype (.type "reversed") (.type "reversed")=pure true:=by rw [isSubtype_type];kernel_rfl
theorem Ae7:isSubtype (.type "tuple") (.type "dict")=pure false:=by rw [isSubtype_type];kernel_rfl
abbrev Aga (h:Heap) (r:Addr) (t:Value) (i:Int):Prop:=h.get? r=some { cls:= .type "reversed",dict:=none,data:= .fields #[t,rawInt i],slots:= #[]}
theorem Aei:typeLookup (.type "tuple") "__reversed__"=pure none:=by rw [typeLookup_type,builtinLookup_eq_fast];kernel_rfl
section
variable {prog:Program}{w:World}{A:Around}{E:Value->Shared->Prop}{s:Shared}{r t:Addr}{ys:Array Value}
theorem Ain {i:Nat}{x:Value}{Q:Option Value->Shared->Prop} (hr:Aga s.heap r (.ref t) i) (ht:s.heap.IsTuple t ys) (hx:ys[i]? =some x) (hs:ys.size<=sizeLine)
    (k:∀g,Aga g r (.ref t) ((i:Int)-1)->Heap.SameBut r s.heap g->Q (some x) { s with heap:=g,toks:=s.toks+1}):wpAny (model prog w) A (pyNext (.ref r)) Q E s:=by
  have ty:s.TypeIs (.ref r) "reversed":=⟨_,hr,rfl⟩
  have hi:i<ys.size:=(Array.getElem?_eq_some_iff.mp hx).1
  have hn:=Ve
  unfold pyNext
  refine wpAny_bind (wpAny_attempt (wpAny_callSpecial?_slot (name:=Str.ofString "__next__") ty Tn (wpAny_call_entry Tn ty U7 ?_ (Va _))))
  show wpAny _ _ (field (.ref r) 0>>=_) _ _ _
  refine wpAny_bind (wpAny_field hr rfl (x:= .ref t) rfl ?_)
  show wpAny _ _ (field (.ref r) 1>>=_) _ _ _
  refine wpAny_bind (wpAny_field hr rfl (x:=rawInt i) rfl ?_)
  show wpAny _ _ (if(i:Int)<0 then _ else _) _ _ _
  rw [if_neg (by omega)]
  refine wpAny_bind (wpAny_specialOf ht.typeIs PyProof.Rows.slot_tuple_getitem.lookup ?_)
  rw [if_neg (by decide)]
  refine wpAny_bind (wpAny_mkInt ?_)
  have ht':({ s with toks:=s.toks+1}:Shared).heap.IsTuple t ys:=ht
  refine wpAny_bind (wpAny_attempt (getItem_tuple (j:=i) ht' (by omega) (by omega) (by unfold seqIndex? ;simp;omega) hx ?_))
  show wpAny _ _ (field (.ref r) 1>>=_) _ _ _
  refine wpAny_bind (wpAny_field hr rfl (x:=rawInt i) rfl ?_)
  show wpAny _ _ (setField (.ref r) 1 (rawInt ((i:Int)-1))>>=_) _ _ _
  refine wpAny_bind (wpAny_setField_rec hr (by simp) fun g hg sb=> ?_)
  exact wpAny_pure ⟨_,rfl,wpAny_pure (k g hg sb)⟩
theorem Aiy {Q:Option Value->Shared->Prop}{i:Int} (hi:i<0) (hh:A.handled=none) (hr:Aga s.heap r (.ref t) i) (k:∀g,Heap.ExtBut r s.heap g->Q none { s with heap:=g}):wpAny (model prog w) A (pyNext (.ref r)) Q E s:=by
  have ty:s.TypeIs (.ref r) "reversed":=⟨_,hr,rfl⟩
  unfold pyNext
  refine wpAny_bind (wpAny_attempt (wpAny_callSpecial?_slot (name:=Str.ofString "__next__") ty Tn (wpAny_call_entry Tn ty U7 ?_ (Va _))))
  show wpAny _ _ (field (.ref r) 0>>=_) _ _ _
  refine wpAny_bind (wpAny_field hr rfl (x:= .ref t) rfl ?_)
  show wpAny _ _ (field (.ref r) 1>>=_) _ _ _
  refine wpAny_bind (wpAny_field hr rfl (x:=rawInt i) rfl ?_)
  show wpAny _ _ (if i<0 then _ else _) _ _ _
  rw [if_pos hi]
  refine wpAny_bind (wpAny_rule ?_)
  show wpAny _ _ ((setField (.ref r) 1 (rawInt (-1))>>=fun _=>setField (.ref r) 0 .none)>>=_) _ _ _
  refine wpAny_bind (wpAny_bind (wpAny_setField_rec hr (by simp) fun g1 hg1 sb1=> ?_))
  replace sb1:Heap.SameBut r s.heap g1:=sb1
  replace hg1:Aga g1 r (.ref t) (-1):=hg1
  refine wpAny_setField_rec hg1 (by simp) fun g2 hg2 sb2=> ?_
  replace sb2:Heap.SameBut r g1 g2:=sb2
  refine wpAny_bind ?_
  unfold Builtin.SmallTypes.stopIteration
  refine wpAny_bind ?_
  simp only [newTuple,newExc]
  refine wpAny_bind (wpAny_newObj_type ?_ (by size_fits))
  refine wpAny_bind (m:=firstArgMember _ _) (wpAny_of_eq (a:=Value.none) (by first | rfl | (simp only [firstArgMember];rfl)) ?_)
  refine(wpAny_newObj_type ?_ (by size_fits))
  simp only [raiseNew]
  refine wpAny_bind (wpAny_handled ?_)
  first | rw [show A.in1.handled=none from hh] | (rw [hh])
  refine wpAny_bind (wpAny_pure (wpAny_throw ?_))
  refine wpAny_bind (wpAny_isInstance (T:="StopIteration") (b:=true) ⟨_,Heap.get?_push_size _ rfl,rfl⟩ isSubtype_stop ?_)
  refine wpAny_pure (k _ ?_)
  exact((sb1.trans sb2).extBut.push _).push _
end
section
variable {prog:Program}{w:World}{A:Around}{E:Value->Shared->Prop}{s:Shared}
theorem Ai7 {id:String}{b:Builtin}{args:List Value}{R:Result->Shared->Prop} (hk:builtinKind id=none) (hp:plainId id=true) (hb:entryFor table id=some b) (ha:argsOk id ⟨args,[]⟩)
    (hc:wpAny (model prog w) A.in1 (b ⟨args,[]⟩) (fun fin s'=>∃v,fin= .done (.ret v)/\R (.ok (.ret v)) s') (fun e s'=>R (.error e) s') s):codeAny (model prog w) A (.call (.builtin id) ⟨args,[]⟩) R s:=by
  refine codeAny_call_builtin hp hb ?_
  have hfin:=wpAny_mono hc (Q':=fun fin s'=>match fin with | .done f=>R (.ok f) s' | .again c'=>c'.quiet=true/\codeAny (model prog w) A c' R s')
    (fun fin s' h'=>by obtain⟨v,rfl,hv⟩:=h';exact hv) fun _ _ h'=>h'
  simp only [checkBuiltinCall,hk]
  cases hsig:Manifest.signature? id with
  | none=>exact wpAny_pure hfin
  | some sig=>
    simp only [argsOk,hsig]at ha
    exact wpAny_of_eq ha hfin
theorem Af6 {t:Addr}{items:Array Value}{R:Result->Shared->Prop} (ht:IsTup s.heap t items) (hfit:(items.size:Int)<2^63)
    (h:R (.ok (.ret (.int items.size (s.toks+1)))) { s with toks:=s.toks+1+1}):codeAny (model prog w) A (.call (.builtin "len") ⟨[.ref t],[]⟩) R s:=by
  refine Ai7 kind_len plain_len entry_len (args_len1 _) ?_
  unfold Builtin.«len»
  refine wpAny_bind (m:=oneArg "len" _) (wpAny_pure ?_)
  refine wpAny_bind (m:=callSpecial? (.ref t) (Str.ofString "__len__")) (wpAny_callSpecial?_slot (name:=Str.ofString "__len__") ht.typeIs slot_tuple_len
    (wpAny_call_entry slot_tuple_len ht.typeIs entry_tuple_len ?_ (args_tuple_len _)))
  show wpAny _ _ (do retInt (<-Builtin.Tuple.tupleItemsOf (.ref t)).size) _ _ s
  refine wpAny_bind (tupleItemsOf_ ht ?_)
  refine wpAny_bind (wpAny_mkInt (wpAny_pure ⟨_,rfl,?_⟩))
  refine wpAny_bind (wpAny_holding (wpAny_pure ?_))
  refine wpAny_bind (wpAny_letGo ?_)
  show wpAny _ _ (if((items.size:Nat):Int)<0 then _ else _) _ _ _
  rw [if_neg (by omega)]
  show wpAny _ _ (if((items.size:Nat):Int)>=2^63 then _ else _) _ _ _
  rw [if_neg (by omega)]
  exact wpAny_bind (wpAny_mkInt (wpAny_pure ⟨_,rfl,h⟩))
theorem M7 {e:Addr}{t:Value}{i:Int}{Q:Value->Shared->Prop} (he:Aga s.heap e t i) (h:Q (.ref e) s):wpAny (model prog w) A (pyIter (.ref e)) Q E s:=by
  have hT:s.TypeIs (.ref e) "reversed":=⟨_,he,rfl⟩
  refine wpAny_pyIter_slot hT Ads (wpAny_call_entry Ads hT Aby ?_ (Abd _))
  show wpAny _ _ (ret (.ref e)) _ _ s
  exact wpAny_pure ⟨_,rfl,"reversed",_,hT,Tn.lookup,h⟩
end
open AutoSeq1 (wpAny_loadPart')in
theorem Ago (u:Addr) (xs:Array Value) (o:Obj) (n:Nat) (hc:o.cls= .type "tuple") (hd:o.data= .seq xs n) (hz:xs.size<=sizeLine):
    Meets (Builtin.«reversed.__new__» ⟨[.type "reversed",.ref u],[]⟩) (fun _ R s=>s.heap.get? u=some o/\R (.ok (.ret (.ref s.heap.objs.size)))
        { s with heap:=s.heap.push { cls:= .type "reversed",data:= .fields #[.ref u,rawInt ((xs.size:Int)-1)]},toks:=s.toks+1+1}):=
  .of_wp fun prog w A R s h=>by
    obtain⟨hp,g,d,tk,os⟩:=s;obtain⟨hu,h⟩:=h
    obtain⟨oc,od,odat,osl⟩:=o
    obtain rfl:oc= .type "tuple":=hc
    obtain rfl:odat= .seq xs n:=hd
    have f1:=Aei
    have f2:=PyProof.Rows.slot_tuple_getitem.lookup
    have f3:=Ak7
    have f4:=Ae7
    have hn:=Ve
    have hT:Heap.IsTuple hp u xs:=⟨_,hu,rfl,n,rfl⟩
    have hfit:(xs.size:Int)<2^63:=by omega
    wp_walk using wpAny_loadPart' hu
    refine Af6 hT hfit ?_
    show wpAny _ _ _ _ _ _
    refine wpAny_bind (wpAny_of_eq (a:=some (xs.size:Int)) rfl ?_)
    show wpAny _ _ (Builtin.SmallTypes.newRecord (Value.type "reversed") [Value.ref u,rawInt (xs.size-1)]>>=_) _ _ _
    unfold Builtin.SmallTypes.newRecord
    refine wpAny_bind (wpAny_newObj_type (wpAny_pure ⟨_,rfl,h⟩) (by size_fits))
def Itv (K:PySem.W.Frag) (a:Addr) (n:Nat):It:=
  ⟨fun i H=>∃xs x,SqT K H a xs/\xs.length=n/\xs.reverse[i]? =some x,fun i H x H'=>H'=H/\∀xs,SqT K H a xs->xs.reverse[i]? =some x,fun i _=>n<=i⟩
theorem Ait {P:Program}{w:World}{K:PySem.W.Frag}{tg:Expr} (a it:Addr) (n:Nat):Turn P w K tg (Itv K a n) [it] it (fun i h=>Aga h it (.ref a) ((n:Int)-1-i)) where
  mem:=by simp
  obj:=fun i h st b hb=>by
    have e:b=it:=by simpa using hb
    subst e
    exact⟨_,st,fun v z=>by cases(show Data.fields _=Data.cell v from z)⟩
  keep:=fun i h h' st k=>k it (by simp) _ st
  item:=by
    intro X hP hw hK hc i pins s σ H E I hf st hg
    subst hP hw hK
    obtain⟨xs,x,hq,hl,hx⟩:=hg
    obtain⟨its,rv,p,hz⟩:=I.tuple hq
    have hin:i<n:=by
      have:=(List.getElem?_eq_some_iff.mp hx).1
      simpa [hl]using this
    have hx':xs[n-1-i]? =some x:=by
      rw [List.getElem?_reverse (by omega)]at hx
      rw [<-hl];exact hx
    obtain⟨u,hu,ru⟩:=rv.get hx'
    obtain⟨f0,f1,f2,f3,f4,f5⟩:=hf it (by simp)
    have st0:Aga s.heap it (.ref a) ((n-1-i:Nat):Int):=by
      have z:((n-1-i:Nat):Int)=(n:Int)-1-i:=by omega
      rw [z];exact st
    have hl2:=rv.length
    refine Ain st0 (show s.heap.IsTuple a its.toArray from p) (x:=u) (by simpa using hu) (by simp;omega) fun h' st' sb=> ?_
    have I1:Inv X pins σ H { s with heap:=h',toks:=s.toks+1}:=I.turned (t':=s.toks+1) (fun b o hb e=>(sb.2 b hb).trans e) f0 f1 f3 f4 f5
    have st2:Aga h' it (.ref a) ((n:Int)-1-((i+1:Nat):Int)):=by
      have z:((n-1-i:Nat):Int)-1=(n:Int)-1-((i+1:Nat):Int):=by omega
      rw [<-z];exact st'
    exact⟨u,rfl,Ae5 (s:={ s with heap:=h',toks:=s.toks+1}) st2 rfl rfl (by decide) ⟨x,H,I1,ru,⟨rfl,fun ys hy=>by rw [I.tuple_inj hy hq];exact hx⟩,st2,fun b hb=>(hf b hb).1⟩⟩
  done:=by
    intro X hP hw hK hc i pins s σ H E I hf st hg
    subst hP hw hK
    have hg:n<=i:=hg
    obtain⟨f0,f1,f2,f3,f4,f5⟩:=hf it (by simp)
    exact Aiy (i:=(n:Int)-1-i) (by omega) (I.ok.hd hc) st fun h' eb=>⟨rfl,I.turned (t':=s.toks) (fun b o hb e=>eb b o hb e) f0 f1 f3 f4 f5⟩
  self:=fun _ _ _ _ _ st h=>M7 st h
section
variable {X:Cx}{a:Expr}{ta:TA}{tg:Expr}{p pos:Pos}
def iRv (K:PySem.W.Frag) (ta:TA):TI:=fun σ H R=>ta σ H fun vs H1=>∃a,vs=[.ref a]/\∃xs,SqT K H1 a xs/\R (Itv K a xs.length) H1
theorem Agw (hg:Gl X "reversed") (hm:X.mg "reversed"=none) (ha:PA X [a] ta) (hs:starEach [a] X.env=[(false,eval a X.env)]:=by rfl):PI X tg (.Call (.Name "reversed" p) [a] [] pos) (iRv X.K ta):=by
  intro pins s σ H R I h
  refine Call_ (Py I hg hm boot_reversed (PyProof.Rows.callWith_type1 (thn (ha pos pins s σ H _ I h) fun us s1 ⟨vs,H1,I1,r1,q1⟩=> ?_) hs rfl))
  obtain⟨b,rfl,xs,hq,q⟩:=q1
  obtain⟨v,rfl,rv⟩:=vals1 r1
  cases rv
  obtain⟨its,rr,pl,hz⟩:=I1.tuple hq
  obtain⟨o,ho,hc,n,hd⟩:=(show s1.heap.IsTuple b its.toArray from pl)
  have hl:=rr.length
  refine callType_new Adt (by decide) (Ann _) (Anv _) (fun obj=>F.args_object_init_2 obj _) Afd (Ago b its.toArray o n hc hd (by simp;omega)) ⟨ho,?_⟩
  show _/\_
  have he:Aga (s1.heap.push { cls:= .type "reversed",data:= .fields #[.ref b,rawInt ((its.toArray.size:Int)-1)]}) s1.heap.objs.size (.ref b) ((xs.length:Int)-1-((0:Nat):Int)):=by
    have z2:=Heap.get?_push_size s1.heap (o:={ cls:= .type "reversed",data:= .fields #[.ref b,rawInt ((its.toArray.size:Int)-1)]}) rfl
    have z:(xs.length:Int)-1-((0:Nat):Int)=(its.toArray.size:Int)-1:=by simp;omega
    rw [z];exact z2
  have I2:Inv X pins σ H1 { s1 with heap:=s1.heap.push { cls:= .type "reversed",data:= .fields #[.ref b,rawInt ((its.toArray.size:Int)-1)]},toks:=s1.toks+1+1}:=
    I1.kept (t':=s1.toks+1+1) fun c o' e=>Heap.get?_push_of_some _ e
  refine⟨⟨_,he,rfl⟩,M7 he ⟨s1.heap.objs.size,[s1.heap.objs.size],_,_,H1,rfl,I2,Ait b _ _,he,fun c hcm=> ?_,q⟩⟩
  have hge:s1.heap.objs.size<=c:=by
    have z:c=s1.heap.objs.size:=by simpa using hcm
    exact Nat.le_of_eq z.symm
  exact I1.fpOk hge (I1.hok.fresh hge)
end
theorem Io {K:PySem.W.Frag}{σ:St}{H:Hp}{ta:TA}{R:It->Hp->Prop}:iRv K ta σ H R=ta σ H (fun vs H1=>∃a,vs=[.ref a]/\∃xs,SqT K H1 a xs/\R (Itv K a xs.length) H1):=rfl
theorem Ajx {K:PySem.W.Frag}{H:Hp}{α:Type}{es:List α}{inj:α->V}{a:Addr} (h:SqT K H a (es.map inj)):Akd (Itv K a es.length) H es.reverse inj:=fun i=>by
  refine⟨fun e=> ?_,fun e he=>⟨⟨_,inj e,h,by simp,?_⟩,?_⟩⟩
  . have z:=List.getElem?_eq_none_iff.mp e
    show es.length<=i
    simpa using z
  . rw [<-List.map_reverse,List.getElem?_map,he];rfl
  . rintro x H3 ⟨rfl,k⟩
    have z:=k _ h
    rw [<-List.map_reverse,List.getElem?_map,he]at z
    exact⟨rfl,(Option.some.inj z).symm⟩
section
variable {K:PySem.W.Frag}{H1:Hp}{p:Addr}{cσ:St}{g:TG}{te:TE}{Q:VK}{α:Type}{es:List α}{inj:α->V}
theorem Alx {a:Addr} (f:Nat->α->V) (hz:es.length<=sizeLine) (hp:H1 p=none) (ha:SqT K H1 a (es.map inj))
    (step:∀(i:Nat) e b H' R,es[i]? =some e->Same H1 H'->H' b=none->(∀H6,Same H' H6->R (f i e) H6)->g (.ref b) cσ (upd H' b (.tup [.int (i:Nat),inj e])) fun σ4 H4=>Kp cσ σ4/\te σ4 H4 R)
    (done:∀H',Same H1 H'->H' p=some (.lst (es.mapIdx f))->Q (.ref p) H'):cIn (Ite K a) cσ g Xg te Q H1 p:=by
  have su:∀ {H':Hp}{o:HO},Same H1 H'->Same H1 (upd H' p o):=fun {H' o} s b u e=>by
    rw [Bv (Bt e hp)]
    exact s b u e
  refine⟨fun i m acc H'=>m=es.length-i/\i<=es.length/\acc=(es.take i).mapIdx f/\H' p=some (.lst acc)/\Same H1 H',⟨es.length,by simp,Nat.zero_le _,by simp,Af,su (Same.refl _)⟩,?_⟩
  rintro i m acc H' ⟨rfl,hi,rfl,hH,s⟩
  have ha':=s.tup ha
  cases he:es[i]? with
  | none=>
    have hl:=List.getElem?_eq_none_iff.mp he
    have e:i=es.length:=Nat.le_antisymm hi hl
    subst e
    rw [List.take_length]at hH
    exact .inl ⟨⟨_,ha',by rw [List.length_map];exact Nat.le_refl _⟩,done _ s hH⟩
  | some e=>
    refine .inr ⟨⟨_,inj e,ha',by rw [List.getElem?_map,he];rfl⟩,fun x H3 y=> ?_⟩
    obtain⟨b,v,y1,y2,rfl,rfl⟩:=y
    have y3:=y1 _ ha'
    rw [List.getElem?_map,he]at y3
    obtain rfl:inj e=v:=Option.some.inj y3
    obtain⟨hlt,e'⟩:=List.getElem?_eq_some_iff.mp he
    have hl:(es.take i).length=i:=by rw [List.length_take];omega
    have tk:(es.take (i+1)).mapIdx f=(es.take i).mapIdx f++ [f i e]:=by
      rw [List.take_succ,he]
      show(es.take i++ [e]).mapIdx f=_
      rw [List.mapIdx_concat,hl]
    have q:=step i e b H' (fun y H6=>H6 p=some (.lst ((es.take i).mapIdx f))/\((es.take i).mapIdx f).length<sizeLine/\∃m',m'<es.length-i/\m'=es.length-(i+1)/\i+1<=es.length/\(es.take i).mapIdx f++ [y]=(es.take (i+1)).mapIdx f/\
        upd H6 p (.lst ((es.take i).mapIdx f++ [y])) p=some (.lst ((es.take i).mapIdx f++ [y]))/\Same H1 (upd H6 p (.lst ((es.take i).mapIdx f++ [y])))) he s y2
      (fun H6 s6=>⟨s6 _ _ hH,by rw [List.length_mapIdx,hl];omega,_,by omega,rfl,hlt,tk.symm,Af,su (s.trans s6)⟩)
    have eq:∀(R:VK) (B:Hp->Prop),(fun σ4 H4=>Kp cσ σ4/\Xg σ4 H4 fun b H5=>if b=true then te σ4 H5 R else B H5)=(fun σ4 H4=>Kp cσ σ4/\te σ4 H4 R):=fun R B=>by
      funext σ4 H4
      show(Kp cσ σ4/\if true=true then te σ4 H4 R else B H4)=_
      rw [if_pos rfl]
    rw [eq]
    exact q
end
theorem Rf {X:Cx}{es:List Expr}{k:Nat}{pos:Pos}{t:TGs} (K:PySem.W.Frag) (n:Nat) (hK:X.K=K) (hc:X.calm=true) (h:PGs X es t)
    (hn:(assignEach es X.env).length=n:=by rfl) (hst:(assignEach es X.env).findIdx? (·.1)=none:=by rfl):PG X (.Tuple es k pos) (Ami K n t):=by
  subst hK
  exact Jd hc h hn hst
end L2
namespace L2
open PySem PySem.Spec PyProof.Rows
set_option maxRecDepth 100000
theorem Ke.has {P:Program}{w:World}{H:Hp}{h:Heap}{a:Addr}{o:HO} (x:Ke P w H h a o):∃ob,h.get? a=some ob:=by
  cases o with
  | lst xs=>obtain⟨_,_,_,_,e⟩:=x;exact⟨_,e⟩
  | tup xs=>obtain⟨_,_,_,ob,e,_⟩:=x;exact⟨_,e⟩
  | dK kvs=>obtain⟨_,_,_,_,o,_,_,e,_⟩:=x;exact⟨_,e⟩
  | dT kvs=>obtain⟨_,_,_,_,o,_,_,e,_⟩:=x;exact⟨_,e⟩
  | set S n=>obtain⟨o,_,_,_,e,_⟩:=x;exact⟨_,e⟩
  | ins C dx fs=>obtain⟨_,_,_,e,_⟩:=x;exact⟨_,e⟩
  | own y=>exact x
  | xd fs=>obtain⟨_,⟨_,_,_,e,_⟩,_⟩:=x;exact⟨_,e⟩
  | rng lo hi=>obtain⟨_,_,_,e⟩:=x;exact⟨_,e⟩
  | frz ob u=>obtain⟨e,_⟩:=x;exact⟨_,e⟩
  | tbl ps=>exact⟨_,show h.get? a=some _ from x⟩
  | met f y=>exact⟨_,show h.get? a=some _ from x⟩
  | ext φ=>exact x.2.1
structure FX (P:Program) (w:World) (fr:List Addr) (H:Hp) (h0:Heap) (B:Heap) (H':Hp) (h:Heap):Prop where
  stay:B.StaysIn h
  k1:∀b o,h0.get? b=some o->b∉fr->∃o',B.get? b=some o'/\(H b=none->o'=o)
  k2:∀b u,H' b=some u->∃o,B.get? b=some o
  fr0:∀b∈fr,H b=none/\∃o,h0.get? b=some o/\∀vs,o.data≠ .fields vs
  un:Un fr [] H H' h0 h
  hok:HOk P w H' h
theorem FX.step {P:Program}{w:World}{fr:List Addr}{H H':Hp}{h0 B h h':Heap} (x:FX P w fr H h0 B H' h) (k:B.StaysIn h') (u:h.UpToSlots h'):FX P w fr H h0 B H' h':=by
  have slot:∀b o,h0.get? b=some o->H b=none->b∈fr->∃sl,h'.get? b=some { o with slots:=sl}:=fun b o e n hb=>by
    obtain⟨sl,e1⟩:=x.un.slot b o e n hb (by simp)
    obtain⟨_,o2,e2,hf⟩:=x.fr0 b hb
    rw [e]at e2;cases e2
    obtain⟨sl',e3⟩:=u b _ e1 hf
    exact⟨sl',e3⟩
  refine⟨k,x.k1,x.k2,x.fr0,⟨fun b o e n hb _=> ?_,fun b o e n hb _=>slot b o e n hb,x.un.free,fun b o e _=> ?_,x.un.tups,x.un.frzs,x.un.tbls⟩,fun b v e=>(x.hok b v e).stay (fun c z hc q=> ?_) (fun _ q=>q) fun _ _ q=>q⟩
  . obtain⟨o',e1,e2⟩:=x.k1 b o e hb
    rw [e2 n]at e1
    exact k b o e1
  . by_cases hb:b∈fr
    . obtain⟨sl,e1⟩:=slot b o e (x.fr0 b hb).1 hb
      exact⟨_,e1⟩
    . obtain⟨o',e1,_⟩:=x.k1 b o e hb
      exact⟨o',k b o' e1⟩
  . have t:∃o,B.get? c=some o:=by
      rcases hc with z | z
      . rw [z];exact x.k2 _ _ e
      . exact x.k2 _ _ z
    obtain⟨o,eo⟩:=t
    have:=x.stay c o eo
    rw [q]at this;cases this
    exact k c _ eo
section
variable {X:Cx}{pins:List (Addr × Obj)}{σ:St}{H H':Hp}{s s':Shared}{B:Heap}
theorem Inv.old (I:Inv X pins σ H s) {b:Addr}{o:Obj} (e:X.s₀.heap.get? b=some o) (hb:b∉X.fs):b∉frs X.stack:=fun z=>by
  rcases List.mem_cons.mp (I.stkSub b z)with q | q
  . exact absurd (Nat.lt_of_lt_of_le (Heap.lt_size e) I.ok.above) (by rw [q];exact Nat.lt_irrefl _)
  . exact hb q
theorem Inv.fr0 (I:Inv X pins σ H s):∀b∈X.fs,X.H₀ b=none/\∃o,X.s₀.heap.get? b=some o/\∀vs,o.data≠ .fields vs:=fun b hb=>by
  obtain⟨_,o,ho,hd⟩:=I.ok.funs.mem hb
  exact⟨I.ok.frf b hb,o,ho,hd⟩
theorem Inv.one (I:Inv X pins σ H s) (hex:X.ex=[]) {b:Addr}{o:Obj} (e:X.s₀.heap.get? b=some o) (hb:b∉X.fs):∃o',s.heap.get? b=some o'/\(X.H₀ b=none->o'=o/\H b=none):=by
  by_cases n:X.H₀ b=none
  . exact⟨o,I.base.keep b o e n hb (by rw [hex];simp),fun _=>⟨rfl,I.base.free b o e n (by rw [hex];simp)⟩⟩
  . obtain⟨o',e1⟩:=I.base.there b o e (by rw [hex];simp)
    exact⟨o',e1,fun z=>absurd z n⟩
theorem Inv.fx (I:Inv X pins σ H s) (hex:X.ex=[]):FX X.prog X.w X.fs X.H₀ X.s₀.heap (PySem.W.hideAll s.heap (frs X.stack)) H s.heap:=by
  refine⟨fun b o q=>PySem.W.of_hideAll _ q,fun b o e hb=> ?_,fun b u e=> ?_,I.fr0,hex▸I.base,I.hok⟩
  . obtain⟨o',e1,e2⟩:=I.one hex e hb
    exact⟨o',PySem.W.hideAll_get _ e1 (I.old e hb),fun n=>(e2 n).1⟩
  . obtain⟨o,eo⟩:=(I.hok b u e).has
    exact⟨o,PySem.W.hideAll_get _ eo fun z=>by have:=I.stkFree b z;rw [e]at this;cases this⟩
theorem Inv.fxOn (I:Inv X pins σ H s) (hex:X.ex=[]) (os:s'.os=s.os) (bare:AllBare s'.gens) (x:FX X.prog X.w (frs X.stack) H s.heap B H' s'.heap):FX X.prog X.w X.fs X.H₀ X.s₀.heap B H' s'.heap:=by
  have J:Inv X pins σ H' s':=I.call' (ch:=[]) os x.un x.hok bare fun b z=>absurd z (by simp)
  refine⟨x.stay,fun b o e hb=> ?_,x.k2,I.fr0,hex▸J.base,x.hok⟩
  obtain⟨o1,e1,n1⟩:=I.one hex e hb
  obtain⟨o',e2,n2⟩:=x.k1 b o1 e1 (I.old e hb)
  exact⟨o',e2,fun n=>(n2 (n1 n).2).trans (n1 n).1⟩
end
def CXE (P:Program) (w:World):CXT:=fun outer H s E e s'=>∃(x C:Addr) (a0:Value) (B:Heap) (H':Hp),e= .ref x/\s'.os=s.os/\AllBare s'.gens/\Heap.FlyingW B outer x (.ref C) a0 s'.heap/\FX P w (frs outer) H s.heap B H' s'.heap/\E (.ref C) none H'
abbrev VE:List Value:=[.type "ValueError",.type "Exception",.type "BaseException",.type "object"]
def Wz (K:PySem.W.Frag) (C:Addr):Prop:=PySem.W.excIn K C VE "ValueError.__new__"=true
def cA (K:PySem.W.Frag) (x:Str):Addr:=match PySem.W.nsIn K mainGlobals x with
  | some (some (.ref C))=>C
  | _=>0
theorem Abi {K:PySem.W.Frag}{x:Str}{C:Addr} (e:PySem.W.nsIn K mainGlobals x=some (some (.ref C))):cA K x=C:=by
  unfold cA
  rw [e]
def Ao6 (h:Heap) (C:Addr):Prop:=∃bm N nm q bs hdct sn sub ab col dd k0 k1 k2 k3 k5 mN,h.get? C=some (excClassObj nm q C N bs bm hdct sn sub ab col dd k0 k1 k2 k3 k5 "ValueError.__new__")/\h.Ns N mN/\mN "__init__"=none/\OwnTail h VE bm
theorem Wz.obj {K:PySem.W.Frag}{C:Addr}{h:Heap} (q:Wz K C) (X:K.In h):Ao6 h C:=by
  unfold Wz PySem.W.excIn at q
  cases e:K.lookup C with
  | none=>rw [e]at q;cases q
  | some ob=>
    rw [e]at q
    have eX:=X _ _ e
    split at q
    . rename_i dd cd sl z
      cases z
      split at q
      . rename_i C1 bm a0 a1 a2 a3 n a5 hm hs
        rw [Bool.and_eq_true,Bool.and_eq_true,Bool.and_eq_true,Bool.and_eq_true,Bool.and_eq_true]at q
        obtain⟨⟨⟨⟨⟨z1,z2⟩,z3⟩,z4⟩,z5⟩,z6⟩:=q
        have y1:C1=C:=by simpa using z1
        have y2:n="ValueError.__new__":=by simpa using z2
        have y3:cd.hasDel=false:=by simpa using z3
        have y6:PySem.W.nsIn K cd.ns "__init__"=some none:=by simpa using z6
        obtain⟨c1,c2,c3,c4,c5,c6,c7,c8,c9,c10,c11⟩:=cd
        have hl:sl= #[a0,a1,a2,a3,some (.builtin n),a5]:=by
          cases sl
          exact congrArg Array.mk hs
        dsimp only at hm y3 y6 z5
        rw [hl,hm,y1,y2,y3]at eX
        exact⟨bm,c4,c1,c5,c2,c6,c7,c8,c9,c10,dd,a0,a1,a2,a3,a5,_,eX,Heap.Ns.of_isNs (PySem.W.isNs_of_in X z5),PySem.W.nsMap_none_of_in X z5 y6,PySem.W.tail_of_in X z4⟩
      . cases q
    . cases q
section
variable {P:Program}{w:World}{K:PySem.W.Frag}{mg:Str->Option Value}{base:Heap}{N:List Str}{qual:Str}{scope:Scope}{f:Addr}{cd:Value}{A:Around}{outer:List Env}{s0:Shared}{H0:Hp}{E:XK}
theorem Am7:Passes (CXE P w) (Tf (CXE P w) P w K mg base N qual scope f cd A outer s0 H0 E) E:=by
  intro pins σ H s e s' I h
  obtain⟨x,C,a0,B,H',rfl,os,bare,fl,fx,q⟩:=h
  show wpAny _ _ (leaving _ (.ref x)) _ _ s'
  refine wpAny_leaves_onW I.ok.frames rfl fl fun h' fl' up=> ?_
  exact⟨x,C,a0,B,H',rfl,os.trans I.os,bare,fl',(I.fxOn rfl os bare fx).step fl'.1 up,q⟩
def Adk (C:Addr) (E:XK) (t:TA):TS:=fun _ σ H=>t σ H fun vs H1=>vs.length<=sizeLine/\E (.ref C) none H1
theorem Hi {C:Addr}{x:Str}{np cpos pos:Pos}{e:Expr}{es:List Expr}{t:TA} (hq:Wz K C) (hm:mg x=some (.ref C))
    (ha:PA (Tf (CXE P w) P w K mg base N qual scope f cd A outer s0 H0 E) (e::es) t) (hg:Gl (Tf (CXE P w) P w K mg base N qual scope f cd A outer s0 H0 E) x:=by rfl) (hdb:(x==("__debug__":Str))=false:=by decide)
    (he:starEach (e::es) (envOfC qual scope s0.heap.objs.size f cd)=(false,eval e (envOfC qual scope s0.heap.objs.size f cd))::starEach es (envOfC qual scope s0.heap.objs.size f cd):=by rfl)
    (hpl:(backTo cpos (starEach es (envOfC qual scope s0.heap.objs.size f cd))).any (·.1)=false:=by rfl):
    PS (Tf (CXE P w) P w K mg base N qual scope f cd A outer s0 H0 E) (.Raise (some (.Call (.Name x np) (e::es) [] cpos)) none pos) (Adk C E t):=by
  intro pins s σ H D I h
  obtain⟨bm,N',nm,q,bs,hdct,sn,sub,ab,col,dd,k0,k1,k2,k3,k5,mN,hC,hN,hni,TL⟩:=hq.obj I.mod.kin
  refine wpAny_Raise_call_subT (nm:=nm) (q:=q) (C:=C) (N:=N') (bs:=bs) (bm:=bm) (hdct:=hdct) (sn:=sn) (sub:=sub) (ab:=ab) (col:=col) (dd:=dd) (k0:=k0) (k1:=k1) (k2:=k2) (k3:=k3) (k5:=k5) PySem.F.excBase_ValueError (TL.hasType (by decide)) (I.ok.hd rfl) (by
    show(backTo cpos (starEach (e::es) (envOfC qual scope s0.heap.objs.size f cd))).any (·.1)=false
    rw [he]
    show(false||(backTo cpos (starEach es _)).any (·.1))=false
    rw [hpl];rfl) hni (Rb I hg hm ⟨rfl,?_⟩ hdb)
  have ha':=ha cpos pins s σ H _ I h
  show wpAny _ _ (evalArgs (.ref C) true (backTo cpos (starEach (e::es) (envOfC qual scope s0.heap.objs.size f cd))) []) _ _ s
  have ha2:wpAny (model P w) (A.deeper (envOfC qual scope s0.heap.objs.size f cd)) (spliced (backTo cpos (starEach (e::es) (envOfC qual scope s0.heap.objs.size f cd)))) _ _ s:=ha'
  rw [he]at ha2 ⊢
  refine Calls.evalArgs_plain (thn ha2 fun us s2 ⟨vs,H2,I2,r,z,q2⟩=>⟨rfl,by rw [<-r.length];exact z,I2.bk _ _ hC,hN.keeps I2.bk,TL.keeps I2.bk,fun h' x' hm'=> ?_⟩)
  show wpAny _ _ (leaving _ (.ref x')) _ _ _
  refine wpAny_leaves_madeW (base:=PySem.W.hideAll s2.heap (frs (envOfC qual scope s0.heap.objs.size f cd::outer))) (h:=s2.heap) I2.ok.frames rfl (fun b o q=>PySem.W.of_hideAll _ q) (PySem.W.funFrames_hide I2.stack fun env he b hb=>List.mem_filterMap.mpr ⟨env,he,hb⟩) hm' fun h'' t' fl _ _ up=> ?_
  exact⟨x',C,.ref t',_,H2,rfl,I2.os,I2.bare,fl,(I2.fx rfl).step fl.1 ((Heap.UpToSlots.of_keeps hm'.keeps).trans up),q2⟩
end
theorem Cm {C:Addr}{E:XK}{t:TA}{D:Ends}{σ:St}{H:Hp}:Adk C E t D σ H=t σ H (fun vs H1=>vs.length<=sizeLine/\E (.ref C) none H1):=rfl
theorem PS.nox {X:Cx}{st:Stmt}{t:TS} (h:PS X.nox st t):PS X st t:=fun pins s σ H D I hw=>
  wpAny_mono (h pins s σ H D (I.wish _) hw) (fun _ _ q=>q.unwish) fun _ _ z=>False.elim z
theorem Fun.okE {P:Program}{w:World}{K:PySem.W.Frag}{mg:Str->Option Value}{base:Heap}{x qual:Str}{st:Stmt}{f:Addr}{fd:FuncData}{N ps:List Str}{k:Nat}{sp:Sp} (F:Fun K x qual st f fd) (S:Aq N ps (Ag st)) (len:∀vs H Q E,sp vs H Q E->vs.length=ps.length)
    (hbody:∀(cdv:Value) (A:Around) (outer:List Env) (s:Shared) (H:Hp) (vs:List V) (Q:VK) (E:XK),Mg k (A.deeper (envOfC qual (Ag st) s.heap.objs.size f cdv))->sp vs H Q E->
      ∃t,PSs (Tf (CXE P w) P w K mg base N qual (Ag st) f cdv A outer s H E) (Lx st) t/\t { nx:=fun _ H'=>Q .non H',rt:=Q} (start N vs) H):Uw P w K mg base (CXE P w) (k+1) f fd ps sp:=by
  obtain⟨oc,od,kV,doc,pm,an,cdv,ct,osl,rfl,lk,hcd⟩:=F.ex
  exact Akq lk hcd S len fun A outer s H vs Q E hr hsp=>hbody cdv A outer s H vs Q E hr hsp
def Oz (P:Program) (w:World) (K:PySem.W.Frag) (mg:Str->Option Value) (base:Heap) (k:Nat) (x:Str) (ps:List Str) (sp:Sp):Prop:=
  ∃f fd,Uw P w K mg base (CXE P w) k f fd ps sp/\mg x=some (.ref f)/\PySem.W.keepIn K (.ref f)=true/\Binds K fd ps []
theorem Df.calE {P:Program}{w:World}{K:PySem.W.Frag}{mg:Str->Option Value}{base:Heap}{k:Nat}{x:Str}{st:Stmt}{ps:List Str}{f:Addr}{fd:FuncData}{sp:Sp}
    (F:Df K mg x st ps f fd) (G:Uw P w K mg base (CXE P w) k f fd ps sp):Oz P w K mg base k x ps sp:=⟨f,fd,G,F.at',F.fn.kp,F.bd⟩
theorem Oz.calm {P:Program}{w:World}{K:PySem.W.Frag}{mg:Str->Option Value}{base:Heap}{k:Nat}{x:Str}{ps:List Str}{sp sp':Sp}
    (C:Oz P w K mg base k x ps sp) (h:∀vs H Q E,sp' vs H Q E->sp vs H Q E0):Cal P w K mg base k x ps sp':=by
  obtain⟨f,fd,G,a,b,c⟩:=C
  refine⟨f,fd,⟨fun vs H Q E z=>G.len vs H Q E0 (h _ _ _ _ z),fun A outer s H args us vs Q E hr he hb hv hs=> ?_⟩,a,b,c⟩
  refine codeAny_mono (G.run A outer s H args us vs Q E0 hr he hb hv (h _ _ _ _ hs)) fun r s' q=> ?_
  cases r with
  | ok fl=>cases fl<;>exact q
  | error e=>
    obtain⟨_,_,_,_,_,_,_,_,_,_,z⟩:=q
    exact z.elim
section
variable {P:Program}{w:World}{K:PySem.W.Frag}{mg:Str->Option Value}{base:Heap}{N:List Str}{qual:Str}{scope:Scope}{f:Addr}{cd:Value}{A:Around}{outer:List Env}{s0:Shared}{H0:Hp}{E:XK}
theorem Gj {k:Nat}{x:Str}{ps:List Str}{sp:Sp}{p pos:Pos}{e:Expr}{es:List Expr}{t:TA}
    (C:Oz P w K mg base k x ps sp) (hr:Mg k (A.deeper (envOfC qual scope s0.heap.objs.size f cd))) (ha:PA (Tf (CXE P w) P w K mg base N qual scope f cd A outer s0 H0 E) (e::es) t) (hg:Gl (Tf (CXE P w) P w K mg base N qual scope f cd A outer s0 H0 E) x:=by rfl) (hdb:(x==("__debug__":Str))=false:=by decide)
    (he:starEach (e::es) (envOfC qual scope s0.heap.objs.size f cd)=(false,eval e (envOfC qual scope s0.heap.objs.size f cd))::starEach es (envOfC qual scope s0.heap.objs.size f cd):=by rfl)
    (hpl:(backTo pos (starEach es (envOfC qual scope s0.heap.objs.size f cd))).any (·.1)=false:=by rfl):
    PE (Tf (CXE P w) P w K mg base N qual scope f cd A outer s0 H0 E) (.Call (.Name x p) (e::es) [] pos) (U0 sp [] E t):=by
  obtain⟨f',fd,G,a,b,c⟩:=C
  exact Aev (X:=Tf (CXE P w) P w K mg base N qual scope f cd A outer s0 H0 E) G hr hg a b c .nil Am7 ha hdb he hpl
end
end L2
namespace L2
open PySem PySem.Spec PyProof.Rows
set_option maxRecDepth 100000
abbrev Cx.caught (X:Cx) (x:Addr) (oe:Obj):Cx:={ X with A:=X.A.mark (some (.ref x)),calm:=false,pn:=(x,oe)::X.pn,xe:=fun _ _=>False}
section
variable {X:Cx}{pins:List (Addr × Obj)}{σ:St}{H:Hp}{s:Shared}{x:Addr}{oe:Obj}
theorem Cx.Ok.caught (ok:X.Ok) (x:Addr) (oe:Obj):(X.caught x oe).Ok:=
  ⟨ok.mod,ok.kind,ok.glob,ok.blt,ok.above,ok.inj,ok.has,ok.cab,(fun z=>nomatch z),ok.frames,ok.stk,ok.exf,ok.bs,ok.bsz,ok.noex,ok.exfs,ok.funs,ok.frf⟩
theorem Inv.caught (I:Inv X pins σ H s) (e:s.heap.get? x=some oe) (n:H x=none) (l:x≠X.env.locals) (f:x∉X.fs) (d:∀v,oe.data≠ .cell v):Inv (X.caught x oe) pins σ H s:=
  ⟨I.ok.caught x oe,I.os,I.bare,I.base,I.loc,I.cell,I.free,I.freeC,fun p hp=>(List.mem_cons.mp hp).elim (fun z=>by rw [z];exact⟨e,n,l,f,d⟩) (I.pin p),I.hok,I.len⟩
theorem Inv.uncaught (ok:X.Ok) (I:Inv (X.caught x oe) pins σ H s):Inv X pins σ H s:=
  ⟨ok,I.os,I.bare,I.base,I.loc,I.cell,I.free,I.freeC,fun p hp=>I.pin p (List.mem_cons_of_mem _ hp),I.hok,I.len⟩
theorem Inv.gone {i:Nat}{n:Str}{m:Str->Option Value}{v:Option Value}{h':Heap}{t':Nat} (I:Inv X pins σ H s) (hN:X.N.Nodup) (hi:X.N[i]? =some n)
    (hl:∀(i:Nat) (x:Str) (v:V),X.N[i]? =some x->σ[i]? =some (some v)->Vis X.env.scope x->∃u,RelV v u/\Look X.env s.heap m x u) (hn:s.heap.Ns X.env.locals m)
    (hn':h'.Ns X.env.locals (fun x=>if x=n then v else m x)) (hs:Heap.SameBut X.env.locals s.heap h'):Inv X pins (σ.set i none) H { s with heap:=h',toks:=t'}:=by
  obtain⟨oL,_,_,hoL,_⟩:=id hn
  have cne:=I.cne
  have up:∀ {b:Addr}{o:Obj},X.s₀.heap.get? b=some o->b≠X.env.locals:=fun e=>Nat.ne_of_lt (Nat.lt_of_lt_of_le (Heap.lt_size e) I.ok.above)
  refine⟨I.ok,I.os,I.bare,⟨fun b o e n hb hx=>(hs.2 b (up e)).trans (I.base.keep b o e n hb hx),fun b o e n hb hx=> ?_,I.base.free,fun b o e hx=> ?_,I.base.tups,I.base.frzs,I.base.tbls⟩,⟨_,hn',fun j y v' e1 e2 e3=> ?_⟩,fun y c e=> ?_,I.free,I.freeC,fun p hp=> ?_,fun b ob e=> ?_,by simpa using I.len⟩
  . obtain⟨sl,e1⟩:=I.base.slot b o e n hb hx
    exact⟨sl,(hs.2 b (up e)).trans e1⟩
  . obtain⟨o',e1⟩:=I.base.there b o e hx
    exact⟨o',(hs.2 b (up e)).trans e1⟩
  . have hj:j≠i:=fun z=>by
      subst z
      rw [List.getElem?_set]at e2
      simp at e2
    rw [List.getElem?_set_ne (Ne.symm hj)]at e2
    obtain⟨u',r',q⟩:=hl j y v' e1 e2 e3
    refine⟨u',r',?_⟩
    rcases q with⟨k,e⟩ | ⟨k,c,e,z⟩
    . refine .inl ⟨k,?_⟩
      have:y≠n:=fun e=>hj (Ws hN e1 (e▸hi))
      simp [this,e]
    . exact .inr ⟨k,c,e,z.sameBut hs (cne y c e)⟩
  . obtain⟨w',z⟩:=I.cell y c e
    exact⟨w',z.sameBut hs (cne y c e)⟩
  . obtain⟨e,n,ne,nf,d⟩:=I.pin p hp
    exact⟨(hs.2 p.1 ne).trans e,n,ne,nf,d⟩
  . refine(I.hok b ob e).stay (fun c w' hc q=>(hs.2 c ?_).trans q) (fun _ q=>q) fun _ _ q=>q
    rintro rfl
    rcases hc with rfl | hc
    . rw [I.free]at e;cases e
    . rw [I.free]at hc;cases hc
end
def Vb (X:Cx) (st:Stmt) (e:Expr) (g:V->St->St):Prop:=∀(pins:List (Addr × Obj)) (s:Shared) (σ:St) (H:Hp) (E:Value->Shared->Prop) (Q:VK) (R:Flow->Shared->Prop),Inv X pins σ H s->
  wpAny (model X.prog X.w) X.A (eval e X.env) (EP X pins σ Q) E s->(∀v H1 s1,Q v H1->Inv X pins (g v σ) H1 s1->R .next s1)->wpAny (model X.prog X.w) X.A (exec st X.env) R E s
theorem K7 {X:Cx}{e:Expr}{pos:Pos} (hs:swapsWith e none pos.line X.env=pure false:=by rfl):Vb X (.Expr e pos) e (fun _ σ=>σ):=by
  intro pins s σ H E Q R I h k
  exact wpAny_Expr_any (thn h fun v s1 ⟨y,H1,I1,_,q1⟩=>k y H1 s1 q1 I1) I.quiet hs
def Acw (sp:Sp) (C:Addr) (g:V->St->St) (i:Nat) (ta:TA) (ts:Addr->Obj->TS):TS:=fun D σ H=>ta σ H fun vs H1=>sp vs H1 (fun v H2=>D.nx (g v σ) H2)
  (fun c _ H2=>c= .ref C/\∀x oe,oe.cls= .ref C->ts x oe { nx:=fun σ' H'=>D.nx (σ'.set i none) H',rt:=D.rt,bk:=fun σ' H'=>D.bk (σ'.set i none) H',ct:=fun σ' H'=>D.ct (σ'.set i none) H'} (σ.set i (some (.ref x))) H2)
def Anb (sp:Sp) (C:Addr) (g:V->St->St) (ta:TA) (ts:Addr->Obj->TS):TS:=fun D σ H=>ta σ H fun vs H1=>sp vs H1 (fun v H2=>D.nx (g v σ) H2)
  (fun c _ H2=>c= .ref C/\∀x oe,oe.cls= .ref C->ts x oe D σ H2)
theorem Cq {sp:Sp}{C:Addr}{g:V->St->St}{i:Nat}{ta:TA}{ts:Addr->Obj->TS}{D:Ends}{σ:St}{H:Hp}:Acw sp C g i ta ts D σ H=ta σ H (fun vs H1=>sp vs H1 (fun v H2=>D.nx (g v σ) H2)
  (fun c _ H2=>c= .ref C/\∀x oe,oe.cls= .ref C->ts x oe { nx:=fun σ' H'=>D.nx (σ'.set i none) H',rt:=D.rt,bk:=fun σ' H'=>D.bk (σ'.set i none) H',ct:=fun σ' H'=>D.ct (σ'.set i none) H'} (σ.set i (some (.ref x))) H2)):=rfl
theorem Jb {sp:Sp}{C:Addr}{g:V->St->St}{ta:TA}{ts:Addr->Obj->TS}{D:Ends}{σ:St}{H:Hp}:Anb sp C g ta ts D σ H=ta σ H (fun vs H1=>sp vs H1 (fun v H2=>D.nx (g v σ) H2)
  (fun c _ H2=>c= .ref C/\∀x oe,oe.cls= .ref C->ts x oe D σ H2)):=rfl
section
variable {X:Cx}{pins:List (Addr × Obj)}{σ:St}{H:Hp}{s s':Shared}{C:Addr}{e:Value}{cx n:Str}{np pos hpos:Pos}{b0:Stmt}{suite:List Stmt}{D:Ends}{i:Nat}{ts:Addr->Obj->TS}
theorem looked {R:Flow->Shared->Prop}{E2:Hp->Prop}{nm:Option Str}{body:List Stmt} (I:Inv X pins σ H s) (h:CXE X.prog X.w X.stack H s (fun c _ H2=>c= .ref C/\E2 H2) e s') (hq:Wz X.K C) (hm:X.mg cx=some (.ref C)) (hst:X.stack=X.env::X.outer) (hf:X.env.frame=some X.env.locals) (hg:Gl X cx) (hdb:(cx==("__debug__":Str))=false)
    (k:∀x oe H' h6 (g':Array GenState) d' t' o',oe.cls= .ref C->E2 H'->Inv (X.caught x oe) pins σ H' ⟨h6,g',d',t',o'⟩->∀B a0 h5,Heap.FlyingW B X.stack x (.ref C) a0 h5->(∀h7,Heap.FlyingW B X.stack x (.ref C) a0 h7->h5.UpToSlots h7->∃oe',oe'.cls= .ref C/\Inv (X.caught x oe') pins σ H' ⟨h7,g',d',t',o'⟩)->
      codeAny (model X.prog X.w) (X.A.mark (some (.ref x))) (.handlers (.ref x) [.ExceptHandler none nm body hpos] X.env) (fun r s₂=>match r with
          | .ok f=>(match nm with
            | none=>R f s₂
            | some n=>wpAny (model X.prog X.w) X.A (do bindName X.env n .none;unbindBehindTheSuite X.env n hpos) (fun _ s₃=>R f s₃) X.xe s₂)
          | .error y=>cameBackBy (model X.prog X.w) X.A X.env X.xe y s₂) ⟨h5,g',d',t',o'⟩):
    wpAny (model X.prog X.w) X.A (noteFrame e X.env) (fun _ s₂=>wpAny (model X.prog X.w) X.A (setFlight e none) (fun _ s₃=>wpAny (model X.prog X.w) X.A (handleBy e X.env [.ExceptHandler (some (.Name cx np)) nm body hpos]) R X.xe s₃) X.xe s₂) X.xe s':=by
  obtain⟨x,C',a0,B,H',rfl,os,bare,fl,fx,⟨eC,q⟩⟩:=h
  cases eC
  obtain⟨hh,gg,dd,tt,oo⟩:=s'
  have cau:∀h7,Heap.FlyingW B X.stack x (.ref C) a0 h7->FX X.prog X.w (frs X.stack) H s.heap B H' h7->∃oe',oe'.cls= .ref C/\Inv (X.caught x oe') pins σ H' ⟨h7,gg,dd,tt,oo⟩:=fun h7 fl7 fx7=>by
    have J:Inv X pins σ H' ⟨h7,gg,dd,tt,oo⟩:=I.call' (s':=⟨h7,gg,dd,tt,oo⟩) (ch:=[]) os fx7.un fx7.hok bare fun b z=>absurd z (by simp)
    obtain⟨oe,vs,hoe,hc,hd,_⟩:=fl7.first
    have hx:x∉frs X.stack:=fun z=>by
      obtain⟨_,o,ho,hnf⟩:=fl7.2.2.1.mem z
      rw [hoe]at ho;cases ho
      exact hnf vs hd
    refine⟨oe,hc,J.caught hoe ?_ ?_ ?_ fun v z=>by rw [hd]at z;cases z⟩
    . cases z:H' x with
      | none=>rfl
      | some u=>
        obtain⟨o,eo⟩:=fx7.k2 x u z
        rw [fl7.2.1]at eo;cases eo
    . intro z
      exact hx (by rw [hst,z];unfold frs;rw [List.filterMap_cons,hf];exact List.mem_cons_self)
    . intro z
      exact hx (by rw [hst];unfold frs;rw [List.filterMap_cons,hf];exact List.mem_cons_of_mem _ z)
  have fl0:=fl
  rw [hst]at fl0
  refine wpAny_looks_onW (hst▸I.ok.frames) hf fl0 fun h4 held4 up4=> ?_
  refine wpAny_landsW held4 fun h5 fl5 up5=> ?_
  have fx5:=(fx.step held4.1 up4).step fl5.1 up5
  rw [<-hst]at fl5
  obtain⟨oe5,hc5,J5⟩:=cau h5 fl5 fx5
  refine wpAny_handleBy_cons (codeAny_handlers_test (Rb J5 hg hm ?_ hdb)) (by intro q;cases q)
  obtain⟨bm,N',nm',q',bs,hdct,sn,sub,ab,col,dd',k0,k1,k2,k3,k5,mN,hC,hN,hni,TL⟩:=hq.obj J5.kIn
  obtain⟨ob,hob,hobc⟩:=fl5.there
  refine wpAny_excMatches_sub_self hC hob hobc (TL.hasType (by decide)) ?_
  exact k x oe5 H' h5 gg dd tt oo hc5 q J5 B a0 h5 fl5 fun h7 fl7 up7=>cau h7 fl7 (fx5.step fl7.1 up7)
theorem SP.uncaught {x:Addr}{oe:Obj} (ok:X.Ok) {f:Flow} (h:SP (X.caught x oe) pins D f s):SP X pins D f s:=by
  cases f with
  | next=>obtain⟨σ',H',I,q⟩:=h;exact⟨σ',H',I.uncaught ok,q⟩
  | brk=>obtain⟨σ',H',I,q⟩:=h;exact⟨σ',H',I.uncaught ok,q⟩
  | cont=>obtain⟨σ',H',I,q⟩:=h;exact⟨σ',H',I.uncaught ok,q⟩
  | ret u=>obtain⟨v,σ',H',I,r,q⟩:=h;exact⟨v,σ',H',I.uncaught ok,r,q⟩
theorem tried {k:Nat}{f:Str}{ps:List Str}{sp:Sp}{a:Expr}{as:List Expr}{ta:TA}{E:XK}{Q:VK}{XE:Value->Shared->Prop}{p cpos:Pos} (Ca:Oz X.prog X.w X.K X.mg X.base k f ps sp) (hr:Mg k X.A) (ha:PA X.nox (a::as) ta) (I:Inv X pins σ H s)
    (h:ta σ H fun vs H1=>sp vs H1 Q E) (hx:∀s1 H1 e s',Inv X pins σ H1 s1->CXE X.prog X.w X.stack H1 s1 E e s'->XE e s') (hg:Gl X f) (hdb:(f==("__debug__":Str))=false) (he:starEach (a::as) X.env=(false,eval a X.env)::starEach as X.env) (hpl:(backTo cpos (starEach as X.env)).any (·.1)=false):
    wpAny (model X.prog X.w) X.A (eval (.Call (.Name f p) (a::as) [] cpos) X.env) (EP X pins σ Q) XE s:=by
  obtain⟨f',fd,G,hm,hk,hb⟩:=Ca
  refine wpAny_Call_Name_kw (Rb I hg hm ?_ hdb)
  refine PySem.W.callWith_K (h₀:=X.base) I.ok.mod.kin hk (wpAny_mono (ha cpos pins s σ H _ (I.wish _) h) (fun us s1 ⟨vs,H1,I1,r,q⟩=>⟨I1.unwish.kIn,?_⟩) fun _ _ z=>False.elim z) he hpl
  have I1:Inv X pins σ H1 s1:=I1.unwish
  have hl:us.length=ps.length:=by rw [<-r.length];exact G.len _ _ _ _ q
  have hb':=hb s1 us I1.kIn (by rw [List.append_nil];exact hl)
  rw [List.append_nil]at hb'
  refine wpAny_call (codeAny_mono (G.run X.A X.stack s1 H1 ⟨us,[]⟩ us vs Q E hr I1.env0 hb' r q) fun r s' hq=> ?_)
  cases r with
  | error e=>exact hx s1 H1 e s' I1 hq
  | ok fl=>
    cases fl with
    | ret u=>exact I1.after hq
    | next=>exact False.elim hq
    | brk=>exact False.elim hq
    | cont=>exact False.elim hq
end
section
variable {X:Cx}{C:Addr}{cx n f:Str}{np p cpos pos hpos:Pos}{b0 st:Stmt}{suite:List Stmt}{i k:Nat}{ts:Addr->Obj->TS}{ps:List Str}{sp:Sp}{a:Expr}{as:List Expr}{ta:TA}{g:V->St->St}
theorem Gm (Ca:Oz X.prog X.w X.K X.mg X.base k f ps sp) (hr:Mg k X.A) (ha:PA X.nox (a::as) ta) (hb:Vb X st (.Call (.Name f p) (a::as) [] cpos) g) (hq:Wz X.K C) (hm:X.mg cx=some (.ref C))
    (hs:∀x oe,oe.cls= .ref C->PSs (X.caught x oe) (b0::suite) (ts x oe)) (hN:X.N.Nodup) (hi:X.N[i]? =some n) (hst:X.stack=X.env::X.outer:=by rfl) (hf:X.env.frame=some X.env.locals:=by rfl) (hgc:Gl X cx:=by rfl) (hdc:(cx==("__debug__":Str))=false:=by decide)
    (hg:Gl X f:=by rfl) (hdb:(f==("__debug__":Str))=false:=by decide) (he:starEach (a::as) X.env=(false,eval a X.env)::starEach as X.env:=by rfl) (hpl:(backTo cpos (starEach as X.env)).any (·.1)=false:=by rfl) (hn:X.env.kindOf n=some .local :=by rfl) (hln:Loc X.env.scope n:=by exact Or.inl rfl) (hfn:X.env.scope.names.lookup n=some .local :=by rfl):
    PS X (.Try [st] [.ExceptHandler (some (.Name cx np)) (some n) (b0::suite) hpos] [] [] pos) (Acw sp C g i ta ts):=by
  intro pins s σ H D I h
  refine wpAny_Try_except (wpAny_execs_cons (hb pins s σ H _ (fun v H2=>D.nx (g v σ) H2) _ I (tried Ca hr ha I h (fun s1 H1 e s' I1 z=> ?_) hg hdb he hpl) fun v H1 s1 q I1=>wpAny_execs_nil (wpAny_execs_nil ⟨_,_,I1,q⟩)))
  refine looked I1 z hq hm hst hf hgc hdc fun x oe H' h6 g' d' t' o' hc q J B a0 h5 fl nxt=> ?_
  refine codeAny_handlers_suite_as ?_
  refine lands_againW fl fun h7 fl7 up7=> ?_
  obtain⟨oe',hc',J7⟩:=nxt h7 fl7 up7
  refine Pz (X:=X.caught x oe') J7 hN hi hln (v:= .ref x) (u:= .ref x) rfl (fun s8 I8=> ?_) (.inr hfn)
  refine wpAny_mono (hs x oe' hc' pins s8 _ H' _ I8 (q x oe' hc')) (fun fl s9 q9=> ?_) fun _ _ z=>False.elim z
  have go:∀ {σ':St}{H'':Hp}{R:Unit->Shared->Prop},Inv (X.caught x oe') pins σ' H'' s9->(∀s10,Inv X pins (σ'.set i none) H'' s10->R () s10)->wpAny (model X.prog X.w) X.A (do bindName X.env n .none;unbindBehindTheSuite X.env n hpos) R X.xe s9:=fun {σ' H'' R} J k=>by
    have J':=J.uncaught I.ok
    obtain⟨m,hn',hl⟩:=id J'.loc
    refine wpAny_nameGoes_keeps hn hn' (by rw [I.ok.kind];rfl) fun h' v hv hsb=>k _ ?_
    exact J'.gone hN hi hl hn' hv hsb
  cases fl with
  | next=>obtain⟨σ',H'',J9,q⟩:=q9;exact go J9 fun s10 J=>⟨_,_,J,q⟩
  | brk=>obtain⟨σ',H'',J9,q⟩:=q9;exact go J9 fun s10 J=>⟨_,_,J,q⟩
  | cont=>obtain⟨σ',H'',J9,q⟩:=q9;exact go J9 fun s10 J=>⟨_,_,J,q⟩
  | ret u=>obtain⟨v,σ',H'',J9,r,q⟩:=q9;exact go J9 fun s10 J=>⟨v,_,_,J,r,q⟩
theorem Ma (Ca:Oz X.prog X.w X.K X.mg X.base k f ps sp) (hr:Mg k X.A) (ha:PA X.nox (a::as) ta) (hb:Vb X st (.Call (.Name f p) (a::as) [] cpos) g) (hq:Wz X.K C) (hm:X.mg cx=some (.ref C))
    (hs:∀x oe,oe.cls= .ref C->PSs (X.caught x oe) (b0::suite) (ts x oe)) (hst:X.stack=X.env::X.outer:=by rfl) (hf:X.env.frame=some X.env.locals:=by rfl) (hgc:Gl X cx:=by rfl) (hdc:(cx==("__debug__":Str))=false:=by decide)
    (hg:Gl X f:=by rfl) (hdb:(f==("__debug__":Str))=false:=by decide) (he:starEach (a::as) X.env=(false,eval a X.env)::starEach as X.env:=by rfl) (hpl:(backTo cpos (starEach as X.env)).any (·.1)=false:=by rfl):
    PS X (.Try [st] [.ExceptHandler (some (.Name cx np)) none (b0::suite) hpos] [] [] pos) (Anb sp C g ta ts):=by
  intro pins s σ H D I h
  refine wpAny_Try_except (wpAny_execs_cons (hb pins s σ H _ (fun v H2=>D.nx (g v σ) H2) _ I (tried Ca hr ha I h (fun s1 H1 e s' I1 z=> ?_) hg hdb he hpl) fun v H1 s1 q I1=>wpAny_execs_nil (wpAny_execs_nil ⟨_,_,I1,q⟩)))
  refine looked I1 z hq hm hst hf hgc hdc fun x oe H' h6 g' d' t' o' hc q J B a0 h5 fl nxt=> ?_
  refine codeAny_handlers_suite ?_
  refine lands_againW fl fun h7 fl7 up7=> ?_
  obtain⟨oe',hc',J7⟩:=nxt h7 fl7 up7
  exact wpAny_mono (hs x oe' hc' pins _ _ H' _ J7 (q x oe' hc')) (fun fl s9 q9=>q9.uncaught I.ok) fun _ _ z=>False.elim z
end
end L2
namespace L2
open PySem PySem.Spec PyProof.Rows
set_option maxRecDepth 100000
structure Afb (K:PySem.W.Frag) (C:Addr):Prop where
  ga:PySem.W.findIn K (.ref C) "__getattribute__"=some (some (.builtin "BaseException.__getattribute__"))
  gn:PySem.W.findIn K (.ref C) "__getattr__"=some none
  cl:PySem.W.findIn K (.ref C) "__class__"=some (some (.builtin "object.__class__"))
  ob:PySem.W.mroIn K C (.type "object")=some true
  be:PySem.W.mroIn K C (.type "BaseException")=some true
theorem Afb.is {K:PySem.W.Frag}{C:Addr} (Z:Afb K C):(PySem.W.clsIn K C).isSome=true:=by
  obtain⟨cd,a,_⟩:=Option.bind_eq_some_iff.mp Z.ob
  rw [a];rfl
section
variable {prog:Program}{w:World}{A:Around}{E:Value->Shared->Prop}{K:PySem.W.Frag}{x C:Addr}{oe:Obj}{h:Heap}{g:Array GenState}{d:Drawn}{t:Nat}{os:OsState}
theorem Ah8 {M:Model} (hx:h.get? x=some oe) (hc:oe.cls= .ref C):PySem.W.Looks M h (typeOf (.ref x)) (.ref C):=hc▸(PySem.W.Looks.ld hx).andThen .now
theorem Afr {R:Result->Shared->Prop} (X:K.In h) (Z:Afb K C) (hx:h.get? x=some oe) (hc:oe.cls= .ref C) (q:R (.ok (.ret (.ref C))) ⟨h,g,d,t,os⟩):
    codeAny (model prog w) A (.call (.builtin "getset_descriptor.__get__") ⟨[.builtin "object.__class__",.ref x,.ref C],[]⟩) R ⟨h,g,d,t,os⟩:=by
  have l0:=Ah8 (M:=model prog w) hx hc
  have l1:=PySem.W.looks_mroIn (M:=model prog w) X Z.ob
  have tg:(⟨h,g,d,t,os⟩:Shared).TypeIs (.builtin "object.__class__") "getset_descriptor":=PySem.W.KF.type_class
  have ow:(".".intercalate ("object.__class__".cutAt '.').dropLast)="object":=by decide+kernel
  refine codeAny_call_builtin PySem.F.slot_gs_get.plain PySem.F.entry_gs_get (PySem.F.slot_gs_get.check _ _ _ _ _ _ _ _ tg (PySem.F.args_gs_get _ _ _) ?_)
  repeat (any_goals (first | assumption | (with_reducible refine wpAny_loadPart_at hx ?_;rw [hc]) | (rw [ow];with_reducible refine l1.at ?_) | wp_step))
  refine⟨Code.quiet_builtin _ (by decide+kernel),codeAny_builtin PySem.W.KF.entry_class ?_⟩
  unfold Builtin.«object.__class__» shownTypeOf
  repeat (any_goals (first | assumption | (with_reducible refine wpAny_loadPart_at hx ?_;rw [hc]) | wp_step))
theorem Afo {tk:Tok}{Q:Fin->Shared->Prop} (X:K.In h) (Z:Afb K C) (hx:h.get? x=some oe) (hc:oe.cls= .ref C) (q:Q (.done (.ret (.ref C))) ⟨h,g,d,t,os⟩):
    wpAny (model prog w) A (Builtin.«object.__getattribute__» ⟨[.ref x,.str "__class__" tk],[]⟩) Q E ⟨h,g,d,t,os⟩:=by
  have tg:(⟨h,g,d,t,os⟩:Shared).TypeIs (.builtin "object.__class__") "getset_descriptor":=PySem.W.KF.type_class
  have l2:=PySem.W.looks_findIn (M:=model prog w) X Z.cl
  have f5:=PySem.W.KF.type_class
  have f6:=PySem.F.slot_gs_get.lookup
  have f7:=PySem.F.slot_gs_set.lookup
  repeat (any_goals (first | assumption | (with_reducible refine wpAny_loadPart_at hx ?_;rw [hc]) | with_reducible refine l2.at ?_ | wp_step))
  refine Afr X Z hx hc ?_
  repeat (any_goals (first | assumption | wp_step))
theorem Agd {M:Model}{nv:Value}{Q:Unit->Shared->Prop} (X:K.In h) (Z:Afb K C) (hx:h.get? x=some oe) (hc:oe.cls= .ref C) (q:Q () ⟨h,g,d,t,os⟩):wpAny M A (checkBuiltinCall "BaseException.__getattribute__" ⟨[.ref x,nv],[]⟩) Q E ⟨h,g,d,t,os⟩:=by
  have k1:builtinKind "BaseException.__getattribute__"=some .slot:=by decide+kernel
  have k2:splitId "BaseException.__getattribute__"=some ("BaseException","__getattribute__"):=by decide+kernel
  have l1:=PySem.W.looks_mroIn (M:=M) X Z.be
  have ar:=PySem.F.args_bexc_ga (.ref x) nv
  simp only [checkBuiltinCall,k1,k2]
  refine wpAny_bind ?_
  unfold isInstance
  repeat (any_goals (first | assumption | (with_reducible refine wpAny_loadPart_at hx ?_;rw [hc]) | with_reducible refine l1.at ?_ | wp_step))
theorem Aja {tk:Tok}{Q:Value->Shared->Prop} (X:K.In h) (Z:Afb K C) (hx:h.get? x=some oe) (hc:oe.cls= .ref C) (q:Q (.ref C) ⟨h,g,d,t,os⟩):
    wpAny (model prog w) A (getAttrBy (.ref x) (.str "__class__" tk) false) Q E ⟨h,g,d,t,os⟩:=by
  have f3:=PySem.F.attr_ValueError.ga.bind (.ref x)
  have y0:(false&&onTheHeap (Value.builtin "BaseException.__getattribute__"))=false:=rfl
  have y1:(onTheHeap (Value.ref C)&&Value.builtin "BaseException.__getattribute__"==Value.builtin "object.__getattribute__")=false:=by
    rw [show(Value.builtin "BaseException.__getattribute__"==Value.builtin "object.__getattribute__")=false by decide+kernel];rfl
  have l2:=PySem.W.looks_findIn (M:=model prog w) X Z.ga
  have l3:=PySem.W.looks_findIn (M:=model prog w) X Z.gn
  repeat (any_goals (first | assumption | (with_reducible refine wpAny_loadPart_at hx ?_;rw [hc]) | with_reducible refine l2.at ?_ | with_reducible refine l3.at ?_ | wp_step))
  refine codeAny_call_builtin PySem.F.attr_ValueError.ga.plain PySem.F.entry_bexc_ga (Agd X Z hx hc (Afo X Z hx hc ?_))
  repeat (any_goals (first | assumption | wp_step))
theorem Adi {Q:Option Value->Shared->Prop} (X:K.In h) (Z:Afb K C) (hx:h.get? x=some oe) (hc:oe.cls= .ref C) (q:Q (some (.ref C)) ⟨h,g,d,t+1,os⟩):
    wpAny (model prog w) A (getAttr? (.ref x) "__class__") Q E ⟨h,g,d,t,os⟩:=by
  unfold getAttr? getAttrBy?
  repeat (any_goals (first | assumption | with_reducible apply Aja X Z hx hc | wp_step))
theorem Aav (Z:Afb K C) (hc:oe.cls= .ref C):PySem.W.KitX K (.ref x) (.ref C) (fun h=>h.get? x=some oe) where
  ty:=fun _ _ _ hx=>Ah8 hx hc
  it:=fun M h X _=>by
    obtain⟨cd,e⟩:=Option.isSome_iff_exists.mp Z.is
    unfold PySem.W.clsIn at e
    split at e
    . rename_i c1 d1 cd1 sl1 ho
      intro A' Q' E' s' k q
      unfold isType loadHead
      exact wpAny_bind (wpAny_loadPart (k _ _ (X _ _ ho)) (wpAny_pure q))
    . cases e
  ne:=fun h tp dd its n sl X htp=>by
    obtain⟨cd,e⟩:=Option.isSome_iff_exists.mp Z.is
    refine Bool.eq_false_iff.mpr fun q=> ?_
    cases Value.ref.inj (beq_iff_eq.mp q)
    unfold PySem.W.clsIn at e
    split at e
    . rename_i c1 d1 cd1 sl1 ho
      cases(X _ _ ho).symm.trans htp
    . cases e
  ca:=fun {_ _ _ _ _ s} X hx q=>by
    obtain⟨h,g,d,t,os⟩:=s
    exact Adi X Z hx hc q
end
theorem Xc {X:Cx}{x C:Addr}{oe:Obj} (hp:(x,oe)∈X.pn) (hc:oe.cls= .ref C) (Z:Afb X.K C):K6 X (.builtin "isinstance") (fun xs H Q=>∃b,((∃C2,xs=[.ref x,.ref C2]/\PySem.W.kitOne X.K (.ref C) (.ref C2)=some b)\/∃T,xs=[.ref x,.ty T]/\PySem.W.kitOne X.K (.ref C) (.type T)=some b)/\Q (.bl b) H):=by
  intro pins s σ H xs us Q I r h
  obtain⟨b,h,q⟩:=h
  have hx:=(I.pin (x,oe) (List.mem_append_left _ hp)).1
  rcases h with⟨C2,rfl,e⟩ | ⟨T,rfl,e⟩
  . obtain⟨u,c,rfl,ru,rc⟩:=vals2 r
    cases ru;cases rc
    exact PySem.W.kia_one (Aav Z hc) I.kIn hx e (fun z=>nomatch z) fun tk=>⟨.bl b,H,I.tok tk,rfl,q⟩
  . obtain⟨u,c,rfl,ru,rc⟩:=vals2 r
    cases ru;cases rc
    exact PySem.W.kia_one (Aav Z hc) I.kIn hx e (fun z=>nomatch z) fun tk=>⟨.bl b,H,I.tok tk,rfl,q⟩
theorem nw {H H':Hp}{p:Addr}{o:HO} (hp:H p=none) (e:upd H p o=H'):Same H H'/\H' p=some o:=by
  subst e
  exact⟨Same.upd hp _,Af⟩
end L2
namespace L2
open PySem PySem.Spec PyProof.Rows
def Gk:Expr->Bool
  | .Starred _ _=>false
  | _=>true
theorem Lw {e:Expr}{es:List Expr}{env:Env} (h:Gk e=true):starEach (e::es) env=(false,eval e env)::starEach es env:=by
  cases e<;>first | rfl | cases h
theorem Nj {env:Env}{pos:Pos}:∀ {es:List Expr},es.all Gk=true->(backTo pos (starEach es env)).any (·.1)=false
  | [],_=>rfl
  | e::es,h=>by
    rw [List.all_cons,Bool.and_eq_true]at h
    rw [Lw h.1]
    have ih:=Nj (env:=env) (pos:=pos) h.2
    unfold backTo at ih ⊢
    rw [List.map_cons,List.any_cons,ih]
    rfl
section
variable {X:Cx}{e:Expr}{es:List Expr}{te:TE}{t:TA}{x:Str}{p pos:Pos}{id T:String}{r:List V->Hp->VK->Prop}{k:Nat}{ps:List Str}{sp:Sp}
theorem Aa (ha:PE X e te) (hr:PA X es t) (h:Gk e=true:=by rfl):PA X (e::es) (Af5 te t):=Ajl ha hr (Lw h)
theorem Dn (hc:K6 X (.builtin id) r) (hg:Gl X x) (hm:X.mg x=none) (hv:bootBuiltins x=some (.builtin id)) (ha:PA X (e::es) t) (h1:Gk e=true:=by rfl) (h2:es.all Gk=true:=by rfl) (hn:x≠"__name__":=by decide) (hdb:(x==("__debug__":Str))=false:=by decide):
    PE X (.Call (.Name x p) (e::es) [] pos) (tCB r t):=Agv hc hg hm hv ha hn hdb (Lw h1) (Nj h2)
theorem Hg (hc:K6 X (.type T) r) (hg:Gl X x) (hm:X.mg x=none) (hv:bootBuiltins x=some (.type T)) (ha:PA X (e::es) t) (h1:Gk e=true:=by rfl) (h2:es.all Gk=true:=by rfl) (hn:x≠"__name__":=by decide) (hdb:(x==("__debug__":Str))=false:=by decide):
    PE X (.Call (.Name x p) (e::es) [] pos) (tCB r t):=Adf hc hg hm hv ha hn hdb (Lw h1) (Nj h2)
theorem Aj (C:Cal X.prog X.w X.K X.mg X.base k x ps sp) (hr:Mg k X.A) (ha:PA X (e::es) t) (h1:Gk e=true:=by rfl) (h2:es.all Gk=true:=by rfl) (hg:Gl X x:=by rfl) (hdb:(x==("__debug__":Str))=false:=by decide):
    PE X (.Call (.Name x p) (e::es) [] pos) (U0 sp [] E0 t):=Af7 C hr ha hg hdb (Lw h1) (Nj h2)
end
end L2
namespace L2
open PySem PySem.Spec PyProof.Rows
def Itd (lo:Int) (n:Nat):It:=⟨fun i _=>i<n,fun i H x H'=>H'=H/\x= .int (lo-i),fun i _=>n<=i⟩
theorem Ae2 {P:Program}{w:World}{K:PySem.W.Frag}{tg:Expr} (it:Addr) (lo:Int) (n:Nat):Turn P w K tg (Itd lo n) [it] it (fun i h=>IsRangeIter h it (lo+(i:Nat)*(-1)) ((n:Int)-(i:Nat)) (-1)) where
  mem:=by simp
  obj:=fun i h st b hb=>by
    have e:b=it:=by simpa using hb
    subst e
    exact⟨_,st,fun v z=>by
      have z':Data.fields _=Data.cell v:=z
      cases z'⟩
  keep:=fun i h h' st k=>k it (by simp) _ st
  item:=by
    intro X hP hw hK hc i pins s σ H E I hf st hg
    subst hP hw hK
    obtain⟨f0,f1,f2,f3,f4,f5⟩:=hf it (by simp)
    have W:=Walks.range (prog:=X.prog) (w:=X.w) (I.ok.hd hc) it lo (-1) n
    refine W.item i s _ _ hg st fun v h' tk hv st' kk=> ?_
    obtain⟨t,rfl⟩:=hv
    have I1:Inv X pins σ H { s with heap:=h',toks:=tk}:=I.turned (fun b o hb e=>kk b o (by simpa using hb) e) f0 f1 f3 f4 f5
    refine⟨_,rfl,Ae5 (s:={ s with heap:=h',toks:=tk}) (n:="range_iterator") st' rfl rfl (by decide) ⟨.int (lo-i),H,I1,⟨t,?_⟩,⟨rfl,rfl⟩,st',fun b hb=>(hf b hb).1⟩⟩
    rw [Int.mul_neg,Int.mul_one,<-Int.sub_eq_add_neg]
  done:=by
    intro X hP hw hK hc i pins s σ H E I hf st hg
    subst hP hw hK
    obtain⟨f0,f1,f2,f3,f4,f5⟩:=hf it (by simp)
    exact wpAny_pyNext_range_end (I.ok.hd hc) st (by have:n<=i:=hg;omega) fun h' eb=>⟨rfl,I.turned (t':=s.toks) (fun b o hb e=>eb b o hb e) f0 f1 f3 f4 f5⟩
  self:=fun _ _ _ _ _ st h=>wpAny_pyIter_rangeiter st h
section
variable {X:Cx}{tg:Expr}
theorem Aiw {pins:List (Addr × Obj)}{σ:St}{H:Hp}{s:Shared}{R:It->Hp->Prop}{E:Value->Shared->Prop}{lo hi:Int}{t u v:Tok}{tk:Nat} (I:Inv X pins σ H s) (h1: -(2^62)<=lo) (h2:lo<2^62) (h3: -(2^62)<=hi) (h4:hi<2^62)
    (q:R (Itd lo (lo-hi).toNat) H):wpAny (model X.prog X.w) X.A (pyIter (.ref s.heap.objs.size)) (PIE X pins σ tg R) E { s with heap:=s.heap.push { cls:= .type "range",data:= .fields #[.int lo t,.int hi u,.int (-1) v]},toks:=tk}:=by
  refine wpAny_pyIter_range (IsRange.new ..) (PySem.W.small_down h1 h2 h3 h4) ?_
  have I1:Inv X pins σ H { s with heap:=s.heap.push { cls:= .type "range",data:= .fields #[.int lo t,.int hi u,.int (-1) v]},toks:=tk}:=I.kept fun b o e=>Heap.get?_push_of_some _ e
  refine⟨(s.heap.push { cls:= .type "range",data:= .fields #[.int lo t,.int hi u,.int (-1) v]}).objs.size,[(s.heap.push { cls:= .type "range",data:= .fields #[.int lo t,.int hi u,.int (-1) v]}).objs.size],_,_,H,rfl,
    I1.kept (t':=tk) fun b o e=>Heap.get?_push_of_some _ e,Ae2 _ lo (lo-hi).toNat,?_,fun b hb=> ?_,q⟩
  . have e1:lo+((0:Nat):Int)*(-1)=lo:=by simp
    have e2:(((lo-hi).toNat:Nat):Int)-((0:Nat):Int)=Builtin.Range.rangeSize lo hi (-1):=by rw [PySem.W.rangeSize_downNat];omega
    show IsRangeIter _ _ (lo+((0:Nat):Int)*(-1)) ((((lo-hi).toNat:Nat):Int)-((0:Nat):Int)) (-1)
    rw [e1,e2]
    exact Heap.get?_push_size _ rfl
  . have e:b=(s.heap.push { cls:= .type "range",data:= .fields #[.int lo t,.int hi u,.int (-1) v]}).objs.size:=by simpa using hb
    subst e
    exact I1.fpOk (Nat.le_refl _) (I1.hok.fresh (Nat.le_refl _))
def Aiq (ta:TA):TI:=fun σ H R=>ta σ H fun vs H1=>∃i j:Int,vs=[.int i,.int j,.int (-1)]/\(-(2^62)<=i/\i<2^62/\ -(2^62)<=j/\j<2^62)/\R (Itd i (i-j).toNat) H1
theorem Ot {a b c:Expr}{ta:TA}{p pos:Pos} (hg:Gl X "range") (hm:X.mg "range"=none) (ha:PA X [a,b,c] ta) (h1:Gk a=true:=by rfl) (h2:[b,c].all Gk=true:=by rfl):
    PI X tg (.Call (.Name "range" p) [a,b,c] [] pos) (Aiq ta):=by
  intro pins s σ H R I h
  refine Call_ (Py I hg hm boot_range (PyProof.Rows.callWith_type1 (thn (ha pos pins s σ H _ I h) fun us s1 ⟨vs,H1,I1,r1,q1⟩=> ?_) (Lw h1) (Nj h2)))
  obtain⟨i,j,e,⟨q1,q2,q3,q4⟩,q⟩:=q1
  subst e
  cases r1 with
  | cons r rr=>
    cases rr with
    | cons r' rr=>
      cases rr with
      | cons r'' rr=>
        cases rr
        obtain⟨t,rfl⟩:=r
        obtain⟨t',rfl⟩:=r'
        obtain⟨t'',rfl⟩:=r''
        exact call_range_3 (by decide) (Aiw I1 q1 q2 q3 q4 q) (.inl (PyProof.noPylong_of_log2 (by decide+kernel)))
theorem Ey {ta:TA}{σ:St}{H:Hp}{R:It->Hp->Prop}:Aiq ta σ H R=ta σ H (fun vs H1=>∃i j:Int,vs=[.int i,.int j,.int (-1)]/\(-(2^62)<=i/\i<2^62/\ -(2^62)<=j/\j<2^62)/\R (Itd i (i-j).toNat) H1):=rfl
theorem Ho {i j:Int}{G:Int->Int->Prop}:(∃i' j':Int,[V.int i,.int j,.int (-1)]=[.int i',.int j',.int (-1)]/\G i' j')=G i j:=propext ⟨fun⟨_,_,e,h⟩=>by cases e;exact h,fun h=>⟨i,j,rfl,h⟩⟩
end
theorem Ur {H:Hp}{lo:Int}{n:Nat}:Akd (Itd lo n) H (List.range n) (fun i=> .int (lo-(i:Nat))):=fun i=>by
  refine⟨fun e=> ?_,fun e h=> ?_⟩
  . have:=List.getElem?_eq_none_iff.mp e
    rw [List.length_range]at this
    exact this
  . obtain⟨h1,h2⟩:=List.getElem?_eq_some_iff.mp h
    rw [List.length_range]at h1
    rw [List.getElem_range]at h2
    subst h2
    exact⟨h1,fun x H3 ⟨a,b⟩=>⟨a,b⟩⟩
end L2
namespace L2
open PySem PySem.Spec PyProof.Rows
section
variable {X:Cx}{e st:Expr}{te tst:TE}{pos p2:Pos}
def Anx (K:PySem.W.Frag) (te tst:TE):TE:=fun σ H Q=>te σ H fun x H1=>tst σ H1 fun y H2=>∃a xs,x= .ref a/\y= .int (-1)/\SqL K H2 a xs/\∀p,H2 p=none->Q (.ref p) (upd H2 p (.lst xs.reverse))
theorem Ej {K:PySem.W.Frag}{σ:St}{H:Hp}{Q:VK}:Anx K te tst σ H Q=te σ H (fun x H1=>tst σ H1 fun y H2=>∃a xs,x= .ref a/\y= .int (-1)/\SqL K H2 a xs/\∀p,H2 p=none->Q (.ref p) (upd H2 p (.lst xs.reverse))):=rfl
end
end L2
namespace L2
open PySem PySem.Spec PyProof.Rows
theorem Al0 {σ:St}{H:Hp}{g:TG}{tb:TS}{D:Ends}{J:It} (n:Nat) (inj:Nat->V) (Pv:Nat->St->Hp->Prop) (h0:Pv 0 σ H) (hw:∀i σ H,Pv i σ H->Akd J H (List.range n) inj)
    (hs:∀i σ H,i<n->Pv i σ H->g (inj i) σ H fun σ2 H2=>tb { D with nx:=Pv (i+1),ct:=Pv (i+1),bk:=D.nx} σ2 H2) (hd:∀σ H,Pv n σ H->D.nx σ H):FI J g tb D σ H:=by
  refine V0 (es:=List.range n) (inj:=inj) (fun pre=>Pv pre.length) h0 (fun pre σ H p=>hw pre.length σ H p) (fun pre e post σ H he p=> ?_) (fun σ H p=>hd σ H (by rw [List.length_range]at p;exact p))
  have hl:=congrArg List.length he
  rw [List.length_range,List.length_append,List.length_cons]at hl
  have ee:e=pre.length:=by
    have:=congrArg (fun l=>l[pre.length]?) he
    simp only [List.getElem?_append_right (Nat.le_refl _),Nat.sub_self,List.getElem?_cons_zero]at this
    rw [List.getElem?_range (by omega)]at this
    exact(Option.some.inj this).symm
  subst ee
  have:=hs pre.length σ H (by omega) p
  rw [List.length_append,List.length_singleton]
  exact this
theorem Same.put {H H':Hp}{p:Addr}{o:HO} (s:Same H H') (hp:H p=none):Same H (L2.upd H' p o):=fun b u e=>by
  rw [Bv (Bt e hp)]
  exact s b u e
end L2
namespace L2
open PySem PySem.Spec PyProof.Rows
def Ao3 (K:PySem.W.Frag) (tl:TE):TI:=fun σ H R=>tl σ H fun x H1=>∃a,x= .ref a/\(((∃xs,SqL K H1 a xs)/\R (Itl K a) H1)\/((∃xs,SqT K H1 a xs)/\R (Itt K a) H1))
theorem Fx {K:PySem.W.Frag}{tl:TE}{σ:St}{H:Hp}{R:It->Hp->Prop}:Ao3 K tl σ H R=tl σ H (fun x H1=>∃a,x= .ref a/\(((∃xs,SqL K H1 a xs)/\R (Itl K a) H1)\/((∃xs,SqT K H1 a xs)/\R (Itt K a) H1))):=rfl
end L2
namespace L2
theorem Ba {t u:TS}{D:Ends}{σ:St}{H:Hp} (P:St->Hp->Prop) (h1:∀N:St->Hp->Prop,(∀σ' H',P σ' H'->N σ' H')->t { D with nx:=N} σ H) (h2:∀σ' H',P σ' H'->u D σ' H'):Amo t u D σ H:=h1 (u D) h2
end L2
namespace L2
open PySem PySem.Spec PyProof.Rows
theorem Zb {K:PySem.W.Frag}{H:Hp}{p a:Addr}{acc xs:List V}{o:HO} (h:SqT K H a xs) (hp:H p=some (.lst acc)):SqT K (upd H p o) a xs:=by
  rcases h with(h | ⟨o',h⟩) | h
  . exact .inl (.inl (by rw [Bv (Zt h hp (by intro z;cases z))];exact h))
  . exact .inl (.inr ⟨o',by rw [Bv (Zt h hp (by intro z;cases z))];exact h⟩)
  . exact .inr h
end L2
namespace L2
open PySem PySem.Spec PyProof.Rows
def Itz (K:PySem.W.Frag) (a b:Addr):It:=
  ⟨fun i H=>∃xs ys x y,SqL K H a xs/\SqL K H b ys/\xs[i]? =some x/\ys[i]? =some y,
   fun i H x H'=>∃p u v,(∀xs,SqL K H a xs->xs[i]? =some u)/\(∀ys,SqL K H b ys->ys[i]? =some v)/\H p=none/\x= .ref p/\H'=upd H p (.tup [u,v]),
   fun i H=>∃xs ys,SqL K H a xs/\SqL K H b ys/\(xs.length<=i\/ys.length<=i)⟩
section
variable {X:Cx}{a b:Expr}{ta:TA}{el:List Expr}{x1}{tp p pos:Pos}
def Ao9 (K:PySem.W.Frag) (ta:TA):TI:=fun σ H R=>ta σ H fun vs H1=>∃a b,vs=[.ref a,.ref b]/\(∃xs,SqL K H1 a xs)/\(∃ys,SqL K H1 b ys)/\R (Itz K a b) H1
end
theorem Ec {K:PySem.W.Frag}{ta:TA}{σ:St}{H:Hp}{R:It->Hp->Prop}:Ao9 K ta σ H R=ta σ H (fun vs H1=>∃a b,vs=[.ref a,.ref b]/\(∃xs,SqL K H1 a xs)/\(∃ys,SqL K H1 b ys)/\R (Itz K a b) H1):=rfl
end L2
namespace L2
open PySem PySem.SeqAt PySem.Spec PyProof.Rows
section
variable {X:Cx}
open Classical in
def Anr:TE:=fun _ H Q=>∀p,H p=none->Q (.ref p) (upd H p (.dK []))
theorem El {σ:St}{H:Hp}{Q:VK}:Anr σ H Q=∀p,H p=none->Q (.ref p) (upd H p (.dK [])):=rfl
end
end L2
namespace L2
open PySem PySem.Spec PyProof.Rows
def tCV (i:Nat) (a:Addr) (sp:Sp) (E:XK) (t:TA):TE:=fun σ H Q=>σ[i]? =some (some (.ref a))/\t σ H fun vs H1=>sp vs H1 Q E
theorem Qn {i:Nat}{a:Addr}{sp:Sp}{E:XK}{t:TA}{σ:St}{H:Hp}{Q:VK}:tCV i a sp E t σ H Q=(σ[i]? =some (some (.ref a))/\t σ H fun vs H1=>sp vs H1 Q E):=rfl
theorem Abq {X:Cx}{i k:Nat}{a:Addr}{x y:Str}{ps:List Str}{sp:Sp}{p pos:Pos}{e:Expr}{es:List Expr}{t:TA} (C:Cal X.prog X.w X.K X.mg X.base k y ps sp) (hy:X.mg y=some (.ref a)) (hr:Mg k X.A)
    (hx:PE X (.Name x p) (Ahc i)) (ha:PA X (e::es) t) (h1:Gk e=true:=by rfl) (h2:es.all Gk=true:=by rfl):PE X (.Call (.Name x p) (e::es) [] pos) (tCV i a sp E0 t):=by
  obtain⟨f,fd,G,g,b,c⟩:=C
  have ef:f=a:=by rw [hy]at g;cases g;rfl
  subst ef
  intro pins s σ H Q I h
  obtain⟨hv,h⟩:=h
  refine wpAny_Call_Name_kw (thn (hx pins s σ H (fun v H1=>v= .ref f/\H1=H) I ⟨_,hv,rfl,rfl⟩) fun u s1 ⟨v,H1,I1,r,e1,e2⟩=> ?_)
  subst e1 e2
  cases r
  refine PySem.W.callWith_K (h₀:=X.base) I1.ok.mod.kin b (thn (ha pos pins s1 σ H1 _ I1 h) fun us s2 ⟨vs,H2,I2,r2,q⟩=>⟨I2.kIn,?_⟩) (Lw h1) (Nj h2)
  have q':sp (vs++ []) H2 Q E0:=by rw [List.append_nil];exact q
  exact Ae0 G hr c .nil Aj7 I2 r2 q'
theorem Qf {X:Cx}{x:Str}{v:V}{pos:Pos} (hg:Gl X x) (h:∃u,X.mg x=some u/\RelV v u) (hd:(x==("__debug__":Str))=false:=by decide):PE X (.Name x pos) (tC v):=by
  obtain⟨u,a,b⟩:=h
  exact O9 hg a b hd
end L2
namespace L2
open PySem PySem.Spec PyProof.Rows
def Aoq (K:PySem.W.Frag) (a:Addr):It:=
  ⟨fun i H=>∃xs x,SqL K H a xs/\xs[i]? =some x,fun i H x H'=>∃p v,(∀xs,SqL K H a xs->xs[i]? =some v)/\H p=none/\x= .ref p/\H'=upd H p (.tup [.int (i:Nat),v]),fun i H=>∃xs,SqL K H a xs/\xs.length<=i⟩
section
variable {X:Cx}{a:Expr}{ta:TA}{el:List Expr}{x1}{tp p pos:Pos}
def Ao8 (K:PySem.W.Frag) (ta:TA):TI:=fun σ H R=>ta σ H fun vs H1=>∃a,vs=[.ref a]/\(∃xs,SqL K H1 a xs)/\R (Aoq K a) H1
end
theorem Ei {K:PySem.W.Frag}{σ:St}{H:Hp}{ta:TA}{R:It->Hp->Prop}:Ao8 K ta σ H R=ta σ H (fun vs H1=>∃a,vs=[.ref a]/\(∃xs,SqL K H1 a xs)/\R (Aoq K a) H1):=rfl
end L2
namespace L2
open PySem PySem.Spec PyProof.Rows
def Amx (sp:Sp) (Cs:List Addr) (g:V->St->St) (i:Nat) (ta:TA) (ts:Addr->Addr->Obj->TS):TS:=fun D σ H=>ta σ H fun vs H1=>sp vs H1 (fun v H2=>D.nx (g v σ) H2)
  (fun c _ H2=>∃C,c= .ref C/\C∈Cs/\∀x oe,oe.cls= .ref C->ts C x oe { nx:=fun σ' H'=>D.nx (σ'.set i none) H',rt:=D.rt,bk:=fun σ' H'=>D.bk (σ'.set i none) H',ct:=fun σ' H'=>D.ct (σ'.set i none) H'} (σ.set i (some (.ref x))) H2)
theorem En {sp:Sp}{Cs:List Addr}{g:V->St->St}{i:Nat}{ta:TA}{ts:Addr->Addr->Obj->TS}{D:Ends}{σ:St}{H:Hp}:Amx sp Cs g i ta ts D σ H=ta σ H (fun vs H1=>sp vs H1 (fun v H2=>D.nx (g v σ) H2)
  (fun c _ H2=>∃C,c= .ref C/\C∈Cs/\∀x oe,oe.cls= .ref C->ts C x oe { nx:=fun σ' H'=>D.nx (σ'.set i none) H',rt:=D.rt,bk:=fun σ' H'=>D.bk (σ'.set i none) H',ct:=fun σ' H'=>D.ct (σ'.set i none) H'} (σ.set i (some (.ref x))) H2)):=rfl
def Am8 (sp:Sp) (Cs:List Addr) (g:V->St->St) (ta:TA) (ts:Addr->Addr->Obj->TS):TS:=fun D σ H=>ta σ H fun vs H1=>sp vs H1 (fun v H2=>D.nx (g v σ) H2)
  (fun c _ H2=>∃C,c= .ref C/\C∈Cs/\∀x oe,oe.cls= .ref C->ts C x oe D σ H2)
theorem Ek {sp:Sp}{Cs:List Addr}{g:V->St->St}{ta:TA}{ts:Addr->Addr->Obj->TS}{D:Ends}{σ:St}{H:Hp}:Am8 sp Cs g ta ts D σ H=ta σ H (fun vs H1=>sp vs H1 (fun v H2=>D.nx (g v σ) H2)
  (fun c _ H2=>∃C,c= .ref C/\C∈Cs/\∀x oe,oe.cls= .ref C->ts C x oe D σ H2)):=rfl
section
variable {c:TT}{tb:TS}{D:Ends}{σ:St}{H:Hp}
def WM (Pv:Nat->St->Hp->Prop) (tb:TS) (D:Ends) (m:Nat) (σ:St) (H:Hp):Prop:=∃N:St->Hp->Prop,(∀σ' H',N σ' H'->∃m',m'<m/\Pv m' σ' H')/\tb { D with nx:=N,ct:=N,bk:=D.nx} σ H
theorem Ajs {Pv:Nat->St->Hp->Prop}{m:Nat} (h:tb { D with nx:=fun σ' H'=>∃m',m'<m/\Pv m' σ' H',ct:=fun σ' H'=>∃m',m'<m/\Pv m' σ' H',bk:=D.nx} σ H):WM Pv tb D m σ H:=⟨_,fun _ _ z=>z,h⟩
theorem Yu (Pv:Nat->St->Hp->Prop) (m0:Nat) (h0:Pv m0 σ H) (hs:∀m σ H,Pv m σ H->c σ H fun b H1=>if b=true then WM Pv tb D m σ H1 else D.nx σ H1):W3 c tb D σ H:=⟨Pv,⟨m0,h0⟩,hs⟩
end
end L2
namespace L2
open PySem PySem.Spec PyProof.Rows
def It1 (t:Bool) (h:Heap) (j u:Addr) (k:Nat):Prop:=if t=true then h.IsTupleIter j u k else h.IsListIter j u k
def Sq1 (t:Bool) (h:Heap) (u:Addr) (xs:Array Value):Prop:=if t=true then h.IsTuple u xs else h.IsList u xs
theorem It1.ext {t:Bool}{h g:Heap}{j u b:Addr}{k:Nat} (x:It1 t h j u k) (e:Heap.ExtBut b h g) (n:j≠b):It1 t g j u k:=by
  cases t
  . exact Heap.IsListIter.extBut x e n
  . exact Heap.IsTupleIter.extBut x e n
theorem It1.to {t:Bool}{h g:Heap}{j u:Addr}{k:Nat} (x:It1 t h j u k) (e:∀o,h.get? j=some o->g.get? j=some o):It1 t g j u k:=by
  cases t
  . exact Heap.IsListIter.at x e
  . exact Heap.IsTupleIter.at x e
theorem Sq1.ext {t:Bool}{h g:Heap}{u b:Addr}{xs:Array Value} (x:Sq1 t h u xs) (e:Heap.ExtBut b h g) (n:u≠b):Sq1 t g u xs:=by
  cases t
  . exact Heap.IsList.extBut x e n
  . exact Heap.IsTuple.extBut x e n
theorem It1.there {t:Bool}{h:Heap}{j u:Addr}{k:Nat} (x:It1 t h j u k):∃o,h.get? j=some o/\∀v,o.data≠ .cell v:=by
  cases t
  . obtain⟨o,e,_,d⟩:=(show h.IsListIter j u k from x)
    exact⟨o,e,fun v z=>by rw [d]at z;cases z⟩
  . obtain⟨o,e,_,d⟩:=(show h.IsTupleIter j u k from x)
    exact⟨o,e,fun v z=>by rw [d]at z;cases z⟩
section
variable {prog:Program}{w:World}{A:Around}{E:Value->Shared->Prop}{s:Shared}
theorem Akb {t:Bool}{j u:Addr}{k:Nat}{xs:Array Value}{y:Value}{Q:Value->Shared->Prop} (hj:It1 t s.heap j u k) (hu:Sq1 t s.heap u xs) (hy:xs[k]? =some y)
    (c:∀g,It1 t g j u (k+1)->Heap.SameBut j s.heap g->Q y { s with heap:=g}):wpAny (model prog w) A (Builtin.SmallTypes.nextOf (.ref j)) Q E s:=by
  cases t
  . exact wpAny_nextOf_list_item hj hu hy c
  . exact nextT hj hu hy c
theorem Xw {t:Bool}{j u:Addr}{k:Nat}{xs:Array Value}{Q:Value->Shared->Prop} (hh:A.handled=none) (hj:It1 t s.heap j u k) (hu:Sq1 t s.heap u xs) (hy:xs[k]? =none)
    (c:∀g e,Heap.ExtBut j s.heap g->(∃o,g.get? e=some o/\o.cls= .type "StopIteration")->E (.ref e) { s with heap:=g}):wpAny (model prog w) A (Builtin.SmallTypes.nextOf (.ref j)) Q E s:=by
  cases t
  . exact wpAny_nextOf_list_end hh hj hu hy c
  . exact W9 hh hj hu hy c
theorem Aea {t1 t2:Bool}{zz TI TO i1 i2 u1 u2:Addr}{k1 k2:Nat}{xs ys:Array Value}{x y p q:Value}{Q:Value->Shared->Prop} (D:ZipApart zz TI TO i1 i2 u1 u2)
    (hz:IsZip s.heap zz TI TO .none) (hTI:IsPair s.heap TI (.ref i1) (.ref i2)) (hTO:IsPair s.heap TO p q) (j1:It1 t1 s.heap i1 u1 k1) (j2:It1 t2 s.heap i2 u2 k2) (a1:Sq1 t1 s.heap u1 xs) (a2:Sq1 t2 s.heap u2 ys) (hx:xs[k1]? =some x) (hy:ys[k2]? =some y)
    (c:∀g,IsZip g zz TI TO (rawInt s.heap.objs.size)->IsPair g TO x y->It1 t1 g i1 u1 (k1+1)->It1 t2 g i2 u2 (k2+1)->IsPair g s.heap.objs.size x y->g.objs.size=s.heap.objs.size+1->
      (∀b o,b≠zz->b≠TO->b≠i1->b≠i2->s.heap.get? b=some o->g.get? b=some o)->Q (.ref s.heap.objs.size) { s with heap:=g}):
    wpAny (model prog w) A (Builtin.«zip.__next__» ⟨[.ref zz],[]⟩) (fun fin s'=>∃v,fin= .done (.ret v)/\Q v s') E s:=by
  show wpAny _ _ (field (.ref zz) 2>>=_) _ _ s
  refine wpAny_bind (wpAny_field hz rfl (x:= .bool false) rfl ?z1)
  case z1=>
  show wpAny _ _ (field (.ref zz) 3>>=_) _ _ s
  refine wpAny_bind (wpAny_field hz rfl (x:= .ref TI) rfl (wpAny_bind (wpAny_seqItems hTI rfl ?z2)))
  case z2=>
  show wpAny _ _ (Builtin.SmallTypes.ownedTupleIsFree (.ref zz)>>=_) _ _ s
  refine wpAny_bind (m:=Builtin.SmallTypes.ownedTupleIsFree (.ref zz)) ?z3
  case z3=>
  unfold Builtin.SmallTypes.ownedTupleIsFree;refine wpAny_bind (wpAny_field hz rfl (x:= .none) rfl (wpAny_pure ?z4))
  case z4=>
  simp only [if_true];refine wpAny_bind (wpAny_rule (wpAny_bind (wpAny_field hz rfl (x:= .ref TO) rfl (wpAny_bind (wpAny_setField_rec hz (by simp) fun g1 (z1:IsZip g1 zz TI TO .ellipsis) b1=> ?z5)))))
  case z5=>
  refine wpAny_bind ?z6
  case z6=>
  simp only [List.forIn_cons,List.forIn_nil,List.zipIdx_cons,List.zipIdx_nil]
  refine wpAny_bind (wpAny_bind (wpAny_onRaise ?z7))
  case z7=>
  show wpAny _ _ (Builtin.SmallTypes.nextOf (.ref i1)>>=_) _ _ { s with heap:=g1}
  refine wpAny_bind (Akb (j1.ext b1.extBut D.i1z) (a1.ext b1.extBut D.l1z) hx fun g2 n1 b2=>wpAny_pure ?z8)
  case z8=>
  have o2:IsPair g2 TO p q:=b2.extBut _ _ D.TOi1 (b1.extBut _ _ D.TOz hTO)
  refine wpAny_bind (wpAny_seqItems o2 rfl (wpAny_bind (wpAny_updateSeq_pair o2 fun g3 (o3:IsPair g3 TO x q) b3=>wpAny_bind (wpAny_letGo (wpAny_pure (wpAny_bind (wpAny_bind (wpAny_onRaise ?z9))))))))
  case z9=>
  show wpAny _ _ (Builtin.SmallTypes.nextOf (.ref i2)>>=_) _ _ { s with heap:=g3}
  refine wpAny_bind (Akb (((j2.ext b1.extBut D.i2z).ext b2.extBut D.i12.symm).ext b3.extBut D.TOi2.symm) (((a2.ext b1.extBut D.l2z).ext b2.extBut D.l2i1).ext b3.extBut D.l2TO) hy fun g4 n2 b4=>wpAny_pure ?z10)
  case z10=>
  have o4:IsPair g4 TO x q:=b4.extBut _ _ D.TOi2 o3
  refine wpAny_bind (wpAny_seqItems o4 rfl (wpAny_bind (wpAny_updateSeq_pair o4 fun g5 (o5:IsPair g5 TO x y) b5=>wpAny_bind (wpAny_letGo (wpAny_pure (wpAny_pure (wpAny_bind (wpAny_seqItems o5 rfl (wpAny_bind (wpAny_newTuple ?z11))))))))))
  case z11=>
  have sz:g5.objs.size=s.heap.objs.size:=by rw [b5.1,b4.1,b3.1,b2.1,b1.1]
  have z5:IsZip g5 zz TI TO .ellipsis:=b5.extBut _ _ D.TOz.symm (b4.extBut _ _ D.i2z.symm (b3.extBut _ _ D.TOz.symm (b2.extBut _ _ D.i1z.symm z1)))
  have k5:∀b o,b≠zz->b≠TO->b≠i1->b≠i2->s.heap.get? b=some o->g5.get? b=some o:=fun b o c1 c2 c3 c4 e=>b5.extBut _ _ c2 (b4.extBut _ _ c4 (b3.extBut _ _ c2 (b2.extBut _ _ c3 (b1.extBut _ _ c1 e))))
  have m1:It1 t1 g5 i1 u1 (k1+1):=((n1.ext b3.extBut D.TOi1.symm).ext b4.extBut D.i12).ext b5.extBut D.TOi1.symm
  have m2:It1 t2 g5 i2 u2 (k2+1):=n2.ext b5.extBut D.TOi2.symm
  have zlt:zz<g5.objs.size:=Heap.lt_size z5
  show wpAny _ _ (Builtin.SmallTypes.ownedTupleHandOut (.ref zz) (.ref g5.objs.size)>>=_) _ _ _
  refine wpAny_bind (m:=Builtin.SmallTypes.ownedTupleHandOut (.ref zz) (.ref g5.objs.size)) ?z12
  case z12=>
  unfold Builtin.SmallTypes.ownedTupleHandOut
  have z6:IsZip (g5.push { cls:= .type "tuple",data:= .seq #[x,y]}) zz TI TO .ellipsis:=Heap.get?_push_of_some _ z5
  refine wpAny_bind (wpAny_setField_rec z6 (by simp) fun g7 (z7:IsZip g7 zz TI TO (rawInt g5.objs.size)) b7=>wpAny_setField_rec z7 (by simp) fun g8 (z8:IsZip g8 zz TI TO (rawInt g5.objs.size)) b8=> ?z13)
  case z13=>
  have up:∀b o,b≠zz->g5.get? b=some o->g8.get? b=some o:=fun b o c1 e=>b8.extBut _ _ c1 (b7.extBut _ _ c1 (Heap.get?_push_of_some _ e))
  have t8:IsPair g8 g5.objs.size x y:=b8.extBut _ _ (Nat.ne_of_gt zlt) (b7.extBut _ _ (Nat.ne_of_gt zlt) (Heap.get?_push_size _ rfl))
  have w8:g8.objs.size=g5.objs.size+1:=by rw [b8.1,b7.1,Heap.size_push]
  rw [sz]at z8 t8 w8
  refine wpAny_pure ⟨_,rfl,?z14⟩
  case z14=>
  show Q (.ref g5.objs.size) _
  rw [sz]
  exact c g8 z8 (up _ _ D.TOz o5) (m1.to fun o e=>up _ o D.i1z e) (m2.to fun o e=>up _ o D.i2z e) t8 w8 fun b o c1 c2 c3 c4 e=>up b o c1 (k5 b o c1 c2 c3 c4 e)
theorem Afs {t1 t2:Bool}{zz TI TO i1 i2 u1 u2:Addr}{k1 k2:Nat}{xs ys:Array Value}{p q:Value}{Q:Fin->Shared->Prop} (hh:A.handled=none) (D:ZipApart zz TI TO i1 i2 u1 u2)
    (hz:IsZip s.heap zz TI TO .none) (hTI:IsPair s.heap TI (.ref i1) (.ref i2)) (hTO:IsPair s.heap TO p q) (j1:It1 t1 s.heap i1 u1 k1) (j2:It1 t2 s.heap i2 u2 k2) (a1:Sq1 t1 s.heap u1 xs) (a2:Sq1 t2 s.heap u2 ys) (he:xs[k1]? =none\/ys[k2]? =none)
    (c:∀g e,(∀b o,b≠zz->b≠TO->b≠i1->b≠i2->s.heap.get? b=some o->g.get? b=some o)->(∃o,g.get? e=some o/\o.cls= .type "StopIteration")->E (.ref e) { s with heap:=g}):
    wpAny (model prog w) A (Builtin.«zip.__next__» ⟨[.ref zz],[]⟩) Q E s:=by
  show wpAny _ _ (field (.ref zz) 2>>=_) _ _ s
  refine wpAny_bind (wpAny_field hz rfl (x:= .bool false) rfl ?z1)
  case z1=>
  show wpAny _ _ (field (.ref zz) 3>>=_) _ _ s
  refine wpAny_bind (wpAny_field hz rfl (x:= .ref TI) rfl (wpAny_bind (wpAny_seqItems hTI rfl ?z2)))
  case z2=>
  show wpAny _ _ (Builtin.SmallTypes.ownedTupleIsFree (.ref zz)>>=_) _ _ s
  refine wpAny_bind (m:=Builtin.SmallTypes.ownedTupleIsFree (.ref zz)) ?z3
  case z3=>
  unfold Builtin.SmallTypes.ownedTupleIsFree;refine wpAny_bind (wpAny_field hz rfl (x:= .none) rfl (wpAny_pure ?z4))
  case z4=>
  simp only [if_true];refine wpAny_bind (wpAny_rule (wpAny_bind (wpAny_field hz rfl (x:= .ref TO) rfl (wpAny_bind (wpAny_setField_rec hz (by simp) fun g1 (z1:IsZip g1 zz TI TO .ellipsis) b1=> ?z5)))))
  case z5=>
  refine wpAny_bind ?z6
  case z6=>
  simp only [List.forIn_cons,List.forIn_nil,List.zipIdx_cons,List.zipIdx_nil]
  refine wpAny_bind (wpAny_bind (wpAny_onRaise ?z7))
  case z7=>
  show wpAny _ _ (Builtin.SmallTypes.nextOf (.ref i1)>>=_) _ _ { s with heap:=g1}
  cases hx:xs[k1]? with
  | none=>
    refine wpAny_bind (Xw hh (j1.ext b1.extBut D.i1z) (a1.ext b1.extBut D.l1z) hx fun g2 e b2 ⟨oe,hoe,hce⟩=> ?_)
    have z2:IsZip g2 zz TI TO .ellipsis:=b2 _ _ D.i1z.symm z1
    have ne:e≠zz:=fun y=>by subst y;rw [z2]at hoe;cases hoe;simp at hce
    exact wpAny_setField_rec z2 (by simp) fun g3 _ b3=>c g3 e (fun b o c1 _ c3 _ y=>b3.extBut _ _ c1 (b2 _ _ c3 (b1.extBut _ _ c1 y))) ⟨oe,b3.extBut _ _ ne hoe,hce⟩
  | some x=>
    have hy:ys[k2]? =none:=by
      rcases he with h | h
      . rw [hx]at h;cases h
      . exact h
    refine wpAny_bind (Akb (j1.ext b1.extBut D.i1z) (a1.ext b1.extBut D.l1z) hx fun g2 n1 b2=>wpAny_pure ?_)
    have o2:IsPair g2 TO p q:=b2.extBut _ _ D.TOi1 (b1.extBut _ _ D.TOz hTO)
    refine wpAny_bind (wpAny_seqItems o2 rfl (wpAny_bind (wpAny_updateSeq_pair o2 fun g3 o3 b3=>wpAny_bind (wpAny_letGo (wpAny_pure (wpAny_bind (wpAny_bind (wpAny_onRaise ?z9))))))))
    case z9=>
    show wpAny _ _ (Builtin.SmallTypes.nextOf (.ref i2)>>=_) _ _ { s with heap:=g3}
    refine wpAny_bind (Xw hh (((j2.ext b1.extBut D.i2z).ext b2.extBut D.i12.symm).ext b3.extBut D.TOi2.symm) (((a2.ext b1.extBut D.l2z).ext b2.extBut D.l2i1).ext b3.extBut D.l2TO) hy fun g4 e b4 ⟨oe,hoe,hce⟩=> ?_)
    have z4:IsZip g4 zz TI TO .ellipsis:=b4 _ _ D.i2z.symm (b3.extBut _ _ D.TOz.symm (b2.extBut _ _ D.i1z.symm z1))
    have ne:e≠zz:=fun y=>by subst y;rw [z4]at hoe;cases hoe;simp at hce
    exact wpAny_setField_rec z4 (by simp) fun g5 _ b5=>c g5 e (fun b o c1 c2 c3 c4 y=>b5.extBut _ _ c1 (b4 _ _ c4 (b3.extBut _ _ c2 (b2.extBut _ _ c3 (b1.extBut _ _ c1 y))))) ⟨oe,b5.extBut _ _ ne hoe,hce⟩
theorem Ab7 {t1 t2:Bool}{zz TI TO i1 i2 u1 u2:Addr}{k1 k2:Nat}{xs ys:Array Value}{x y p q:Value}{Q:Option Value->Shared->Prop} (D:ZipApart zz TI TO i1 i2 u1 u2)
    (hz:IsZip s.heap zz TI TO .none) (hTI:IsPair s.heap TI (.ref i1) (.ref i2)) (hTO:IsPair s.heap TO p q) (j1:It1 t1 s.heap i1 u1 k1) (j2:It1 t2 s.heap i2 u2 k2) (a1:Sq1 t1 s.heap u1 xs) (a2:Sq1 t2 s.heap u2 ys) (hx:xs[k1]? =some x) (hy:ys[k2]? =some y)
    (c:∀g,IsZip g zz TI TO (rawInt s.heap.objs.size)->IsPair g TO x y->It1 t1 g i1 u1 (k1+1)->It1 t2 g i2 u2 (k2+1)->IsPair g s.heap.objs.size x y->g.objs.size=s.heap.objs.size+1->
      (∀b o,b≠zz->b≠TO->b≠i1->b≠i2->s.heap.get? b=some o->g.get? b=some o)->Q (some (.ref s.heap.objs.size)) { s with heap:=g}):wpAny (model prog w) A (pyNext (.ref zz)) Q E s:=by
  have ty:s.TypeIs (.ref zz) "zip":=⟨_,hz,rfl⟩
  unfold pyNext
  exact wpAny_bind (wpAny_attempt (wpAny_callSpecial?_slot (name:=Str.ofString "__next__") ty F.slot_zip_next (wpAny_call_entry F.slot_zip_next ty F.entry_zip_next
    (Aea D hz hTI hTO j1 j2 a1 a2 hx hy fun g b1 b2 b3 b4 b5 b6 b7=>wpAny_pure (c g b1 b2 b3 b4 b5 b6 b7)) (F.args_zip_next_1 _))))
theorem Ach {t1 t2:Bool}{zz TI TO i1 i2 u1 u2:Addr}{k1 k2:Nat}{xs ys:Array Value}{p q:Value}{Q:Option Value->Shared->Prop} (hh:A.handled=none) (D:ZipApart zz TI TO i1 i2 u1 u2)
    (hz:IsZip s.heap zz TI TO .none) (hTI:IsPair s.heap TI (.ref i1) (.ref i2)) (hTO:IsPair s.heap TO p q) (j1:It1 t1 s.heap i1 u1 k1) (j2:It1 t2 s.heap i2 u2 k2) (a1:Sq1 t1 s.heap u1 xs) (a2:Sq1 t2 s.heap u2 ys) (he:xs[k1]? =none\/ys[k2]? =none)
    (c:∀g,(∀b o,b≠zz->b≠TO->b≠i1->b≠i2->s.heap.get? b=some o->g.get? b=some o)->Q none { s with heap:=g}):wpAny (model prog w) A (pyNext (.ref zz)) Q E s:=by
  have ty:s.TypeIs (.ref zz) "zip":=⟨_,hz,rfl⟩
  unfold pyNext
  refine wpAny_bind (wpAny_attempt (wpAny_callSpecial?_slot (name:=Str.ofString "__next__") ty F.slot_zip_next (wpAny_call_entry F.slot_zip_next ty F.entry_zip_next (Afs hh D hz hTI hTO j1 j2 a1 a2 he fun g e hk ⟨o,ho,hc⟩=> ?_) (F.args_zip_next_1 _))))
  exact wpAny_bind (wpAny_isInstance (T:="StopIteration") (b:=true) ⟨o,ho,hc⟩ isSubtype_stop (wpAny_pure (c _ hk)))
end
def Alj (t:Bool):String:=if t=true then "tuple_iterator" else "list_iterator"
abbrev Zf (t:Bool) (u:Addr):Obj:={ cls:= .type (Alj t),data:= .fields #[.ref u,.int 0 0]}
theorem iter1 {prog:Program}{w:World}{A:Around}{E:Value->Shared->Prop}{s:Shared}{t:Bool}{u:Addr}{xs:Array Value}{Q:Value->Shared->Prop} (h:Sq1 t s.heap u xs) (q:Q (.ref s.heap.objs.size) { s with heap:=s.heap.push (Zf t u)}):wpAny (model prog w) A (pyIter (.ref u)) Q E s:=by
  cases t
  . exact wpAny_pyIter_list h q
  . exact wpAny_pyIter_tuple h q
theorem Ab8 {t:Bool}{u j:Addr}{g:Heap} (e:g.get? j=some (Zf t u)):It1 t g j u 0:=by
  cases t
  . exact⟨_,e,rfl,rfl⟩
  . exact⟨_,e,rfl,rfl⟩
theorem Sq1.push {t:Bool}{h:Heap}{u:Addr}{xs:Array Value} (x:Sq1 t h u xs) (o:Obj):Sq1 t (h.push o) u xs:=by
  cases t
  . exact Heap.IsList.push x _
  . obtain⟨ob,e,r⟩:=(show h.IsTuple u xs from x)
    exact⟨ob,Heap.get?_push_of_some _ e,r⟩
abbrev zA1 (t1:Bool) (h:Heap) (u1:Addr):Heap:=h.push (Zf t1 u1)
abbrev zA2 (t1 t2:Bool) (h:Heap) (u1 u2:Addr):Heap:=(zA1 t1 h u1).push (Zf t2 u2)
abbrev zA3 (t1 t2:Bool) (h:Heap) (u1 u2:Addr):Heap:=(zA2 t1 t2 h u1 u2).push { cls:= .type "tuple",data:= .seq #[.ref h.objs.size,.ref (zA1 t1 h u1).objs.size]}
abbrev zA4 (t1 t2:Bool) (h:Heap) (u1 u2:Addr):Heap:=(zA3 t1 t2 h u1 u2).push { cls:= .type "tuple",data:= .seq #[.none,.none]}
abbrev zA5 (t1 t2:Bool) (h:Heap) (u1 u2:Addr):Heap:=(zA4 t1 t2 h u1 u2).push { cls:= .type "zip",data:= .fields #[.none,.bool false,.bool false,.ref (zA2 t1 t2 h u1 u2).objs.size,.ref (zA3 t1 t2 h u1 u2).objs.size]}
theorem Abt (t1 t2:Bool) (u1 u2:Addr) (xs ys:Array Value):
    Meets (Builtin.«zip.__new__» ⟨[.type "zip",.ref u1,.ref u2],[]⟩) (fun _ R s=>Sq1 t1 s.heap u1 xs/\Sq1 t2 s.heap u2 ys/\R (.ok (.ret (.ref (zA4 t1 t2 s.heap u1 u2).objs.size))) { s with heap:=zA5 t1 t2 s.heap u1 u2}):=
  .of_wp fun prog w A R s h=>by
    obtain⟨hp,g,d,tk,os⟩:=s;obtain⟨b1,b2,h⟩:=h
    have su:=sub_zip
    have L1:Sq1 t1 (Shared.heap ⟨hp,g,d,tk,os⟩) u1 xs:=b1
    have L2:Sq1 t2 (Shared.heap ⟨hp.push (Zf t1 u1),g,d,tk,os⟩) u2 ys:=b2.push _
    wp_walk using iter1 L1,iter1 L2
    exact⟨_,rfl,h⟩
theorem Adq {prog:Program}{w:World}{A:Around}{E:Value->Shared->Prop}{s:Shared}{t1 t2:Bool}{u1 u2:Addr}{xs ys:Array Value}{Q:Value->Shared->Prop} (b1:Sq1 t1 s.heap u1 xs) (b2:Sq1 t2 s.heap u2 ys)
    (c:∀g,IsZip g (s.heap.objs.size+4) (s.heap.objs.size+2) (s.heap.objs.size+3) .none->IsPair g (s.heap.objs.size+2) (.ref s.heap.objs.size) (.ref (s.heap.objs.size+1))->IsPair g (s.heap.objs.size+3) .none .none->
      It1 t1 g s.heap.objs.size u1 0->It1 t2 g (s.heap.objs.size+1) u2 0->(∀b o,s.heap.get? b=some o->g.get? b=some o)->Q (.ref (s.heap.objs.size+4)) { s with heap:=g}):wpAny (model prog w) A (call (.type "zip") [.ref u1,.ref u2]) Q E s:=by
  refine callType_new F.called_zip (by decide) (F.typeCall_zip_2 _ _) (F.newCall_zip_2 _ _) (fun obj=>F.args_object_init_3 obj _ _) F.entry_zip_new (Abt t1 t2 u1 u2 xs ys) ⟨b1,b2,?_⟩
  have w1:(zA1 t1 s.heap u1).objs.size=s.heap.objs.size+1:=Heap.size_push ..
  have w2:(zA2 t1 t2 s.heap u1 u2).objs.size=s.heap.objs.size+2:=by rw [Heap.size_push,w1]
  have w3:(zA3 t1 t2 s.heap u1 u2).objs.size=s.heap.objs.size+3:=by rw [Heap.size_push,w2]
  have w4:(zA4 t1 t2 s.heap u1 u2).objs.size=s.heap.objs.size+4:=by rw [Heap.size_push,w3]
  have e5:(zA5 t1 t2 s.heap u1 u2).get? (zA4 t1 t2 s.heap u1 u2).objs.size=some _:=Heap.get?_push_size _ rfl
  have e4:(zA5 t1 t2 s.heap u1 u2).get? (zA3 t1 t2 s.heap u1 u2).objs.size=some _:=Heap.get?_push_of_some _ (Heap.get?_push_size _ rfl)
  have e3:(zA5 t1 t2 s.heap u1 u2).get? (zA2 t1 t2 s.heap u1 u2).objs.size=some _:=Heap.get?_push_of_some _ (Heap.get?_push_of_some _ (Heap.get?_push_size _ rfl))
  have e2:(zA5 t1 t2 s.heap u1 u2).get? (zA1 t1 s.heap u1).objs.size=some (Zf t2 u2):=Heap.get?_push_of_some _ (Heap.get?_push_of_some _ (Heap.get?_push_of_some _ (Heap.get?_push_size _ rfl)))
  have e1:(zA5 t1 t2 s.heap u1 u2).get? s.heap.objs.size=some (Zf t1 u1):=Heap.get?_push_of_some _ (Heap.get?_push_of_some _ (Heap.get?_push_of_some _ (Heap.get?_push_of_some _ (Heap.get?_push_size _ rfl))))
  show _/\_
  rw [w2,w3,w4]at e5
  rw [w1,w2]at e3
  rw [w3]at e4
  rw [w1]at e2
  rw [w4]
  exact⟨⟨_,e5,rfl⟩,c _ e5 e3 e4 (Ab8 e1) (Ab8 e2) fun b o x=>Heap.get?_push_of_some _ (Heap.get?_push_of_some _ (Heap.get?_push_of_some _ (Heap.get?_push_of_some _ (Heap.get?_push_of_some _ x))))⟩
def SqB (t:Bool) (K:PySem.W.Frag) (H:Hp) (a:Addr) (xs:List V):Prop:=if t=true then SqT K H a xs else SqL K H a xs
theorem Inv.sqB {X:Cx}{pins:List (Addr × Obj)}{σ:St}{H:Hp}{s:Shared}{t:Bool}{a:Addr}{xs:List V} (I:Inv X pins σ H s) (h:SqB t X.K H a xs):∃its:List Value,Vals xs its/\Sq1 t s.heap a its.toArray:=by
  cases t
  . obtain⟨its,r,p,_⟩:=I.list h
    exact⟨its,r,p.isList⟩
  . obtain⟨its,r,p,_⟩:=I.tuple h
    exact⟨its,r,p⟩
theorem Inv.sqB_inj {X:Cx}{pins:List (Addr × Obj)}{σ:St}{H:Hp}{s:Shared}{t:Bool}{a:Addr}{xs ys:List V} (I:Inv X pins σ H s) (h:SqB t X.K H a xs) (h':SqB t X.K H a ys):xs=ys:=by
  cases t
  . exact I.list_inj h h'
  . exact I.tuple_inj h h'
def Amp (t1 t2:Bool) (K:PySem.W.Frag) (a b:Addr):It:=
  ⟨fun i H=>∃xs ys x y,SqB t1 K H a xs/\SqB t2 K H b ys/\xs[i]? =some x/\ys[i]? =some y,
   fun i H x H'=>∃p u v,(∀xs,SqB t1 K H a xs->xs[i]? =some u)/\(∀ys,SqB t2 K H b ys->ys[i]? =some v)/\H p=none/\x= .ref p/\H'=upd H p (.tup [u,v]),
   fun i H=>∃xs ys,SqB t1 K H a xs/\SqB t2 K H b ys/\(xs.length<=i\/ys.length<=i)⟩
theorem Adx {P:Program}{w:World}{K:PySem.W.Frag}{el:List Expr}{x1}{tp:Pos} (t1 t2:Bool) (a b z TI TO i1 i2:Addr) (D:ZipApart z TI TO i1 i2 a b):
    Turn P w K (.Tuple el x1 tp) (Amp t1 t2 K a b) [z,TI,TO,i1,i2] z (fun i h=>IsZip h z TI TO .none/\IsPair h TI (.ref i1) (.ref i2)/\(∃c d,IsPair h TO c d)/\It1 t1 h i1 a i/\It1 t2 h i2 b i) where
  mem:=by simp
  obj:=fun i h st c hc=>by
    obtain⟨hz,hTI,⟨u,v,hTO⟩,h1,h2⟩:=st
    simp only [List.mem_cons,List.not_mem_nil,or_false]at hc
    rcases hc with rfl | rfl | rfl | rfl | rfl
    . exact⟨_,hz,fun v z=>by cases(show Data.fields _=Data.cell v from z)⟩
    . exact⟨_,hTI,fun v z=>by cases(show Data.seq _ _=Data.cell v from z)⟩
    . exact⟨_,hTO,fun v z=>by cases(show Data.seq _ _=Data.cell v from z)⟩
    . exact h1.there
    . exact h2.there
  keep:=fun i h h' st k=>by
    obtain⟨hz,hTI,⟨u,v,hTO⟩,h1,h2⟩:=st
    exact⟨k z (by simp) _ hz,k TI (by simp) _ hTI,⟨u,v,k TO (by simp) _ hTO⟩,h1.to fun o e=>k i1 (by simp) _ e,h2.to fun o e=>k i2 (by simp) _ e⟩
  item:=by
    intro X hP hw hK hc i pins s σ H E I hf st hg
    subst hP hw hK
    obtain⟨xs,ys,x,y,hqx,hqy,hx,hy⟩:=hg
    obtain⟨its,rv,p⟩:=I.sqB hqx
    obtain⟨its2,rv2,p2⟩:=I.sqB hqy
    obtain⟨u,hu,ru⟩:=rv.get hx
    obtain⟨v,hv,rv'⟩:=rv2.get hy
    obtain⟨hz,hTI,⟨c,d,hTO⟩,h1,h2⟩:=st
    refine Ab7 D hz hTI hTO h1 h2 p p2 (x:=u) (y:=v) (by simpa using hu) (by simpa using hv) fun g a1 a2 a3 a4 a5 a6 hk=>⟨_,rfl,?_⟩
    refine wpAny_letOwnedTupleGo_zip a1 fun g2 hz2 sb2=> ?_
    replace sb2:Heap.SameBut z g g2:=sb2
    have lt:∀b∈ [z,TI,TO,i1,i2],b≠s.heap.objs.size:=fun b hb=>by
      obtain⟨o1,e1,_⟩:=h1.there
      obtain⟨o2,e2,_⟩:=h2.there
      simp only [List.mem_cons,List.not_mem_nil,or_false]at hb
      rcases hb with rfl | rfl | rfl | rfl | rfl
      . exact Nat.ne_of_lt (Heap.lt_size hz)
      . exact Nat.ne_of_lt (Heap.lt_size hTI)
      . exact Nat.ne_of_lt (Heap.lt_size hTO)
      . exact Nat.ne_of_lt (Heap.lt_size e1)
      . exact Nat.ne_of_lt (Heap.lt_size e2)
    have hn:H s.heap.objs.size=none:=I.fresh
    have I1:Inv X pins σ (upd H s.heap.objs.size (.tup [x,y])) { s with heap:=s.heap.push { cls:= .type "tuple",data:= .seq #[u,v]},toks:=s.toks}:=
      I.laid (fun b o q=>Heap.get?_push_of_some _ q) (Nat.le_refl _) ⟨by show 2<=sizeLine;decide,[u,v],.cons ru (.cons rv' .nil),⟨_,Heap.get?_push_size _ rfl,rfl,_,rfl⟩⟩
    have fp':∀b∈ [z,TI,TO,i1,i2],Yl X pins (upd H s.heap.objs.size (.tup [x,y])) b:=fun b hb=>
      ⟨by rw [Bv (lt b hb)];exact(hf b hb).1,(hf b hb).2⟩
    have I2:=I1.turnL (h':=g2) (t':=s.toks) (fp:=[z,TI,TO,i1,i2]) (fun b o hb q=>by
      have n1:b≠z:=fun e=>hb (by simp [e])
      refine(sb2.2 b n1).trans ?_
      rcases Heap.get?_push_cases q with⟨rfl,rfl⟩ | q0
      . exact a5
      . exact hk b o n1 (fun e=>hb (by simp [e])) (fun e=>hb (by simp [e])) (fun e=>hb (by simp [e])) q0) fp'
    refine⟨.ref s.heap.objs.size,_,I2,rfl,⟨_,x,y,fun zs hz=>by rw [I.sqB_inj hz hqx];exact hx,fun zs hz=>by rw [I.sqB_inj hz hqy];exact hy,hn,rfl,rfl⟩,⟨hz2,?_,⟨u,v,sb2.extBut _ _ D.TOz a2⟩,a3.ext sb2.extBut D.i1z,a4.ext sb2.extBut D.i2z⟩,fun b hb=>(fp' b hb).1⟩
    exact sb2.extBut _ _ D.TIz (hk _ _ D.TIz D.TITO D.TIi1 D.TIi2 hTI)
  done:=by
    intro X hP hw hK hc i pins s σ H E I hf st hg
    subst hP hw hK
    obtain⟨xs,ys,hqx,hqy,hxy⟩:=hg
    obtain⟨its,rv,p⟩:=I.sqB hqx
    obtain⟨its2,rv2,p2⟩:=I.sqB hqy
    obtain⟨hz,hTI,⟨c,d,hTO⟩,h1,h2⟩:=st
    have l1:=rv.length
    have l2:=rv2.length
    exact Ach (I.ok.hd hc) D hz hTI hTO h1 h2 p p2 (by
      rcases hxy with h | h
      . exact .inl (by simp;omega)
      . exact .inr (by simp;omega)) fun g hk=>⟨rfl,I.turnL (t':=s.toks) (fp:=[z,TI,TO,i1,i2]) (fun b o hb q=>hk b o (fun e=>hb (by simp [e])) (fun e=>hb (by simp [e])) (fun e=>hb (by simp [e])) (fun e=>hb (by simp [e])) q) hf⟩
  self:=fun _ _ _ _ _ st h=>wpAny_pyIter_zip st.1 h
section
variable {X:Cx}{a b:Expr}{ta:TA}{el:List Expr}{x1}{tp p pos:Pos}
def Aix (t1 t2:Bool) (K:PySem.W.Frag) (ta:TA):TI:=fun σ H R=>ta σ H fun vs H1=>∃a b,vs=[.ref a,.ref b]/\(∃xs,SqB t1 K H1 a xs)/\(∃ys,SqB t2 K H1 b ys)/\R (Amp t1 t2 K a b) H1
theorem Ul (t1 t2:Bool) (hg:Gl X "zip") (hm:X.mg "zip"=none) (ha:PA X [a,b] ta) (hs:starEach [a,b] X.env=[(false,eval a X.env),(false,eval b X.env)]:=by rfl) (hs2:starEach [b] X.env=[(false,eval b X.env)]:=by rfl):
    PI X (.Tuple el x1 tp) (.Call (.Name "zip" p) [a,b] [] pos) (Aix t1 t2 X.K ta):=by
  intro pins s σ H R I h
  refine Call_ (Py I hg hm boot_zip (PyProof.Rows.callWith_type1 (thn (ha pos pins s σ H _ I h) fun us s1 ⟨vs,H1,I1,r1,q1⟩=> ?_) (by rw [hs,hs2]) (by rw [hs2];rfl)))
  obtain⟨u,v,rfl,⟨xs,hqx⟩,⟨ys,hqy⟩,q⟩:=q1
  obtain⟨v1,v2,rfl,r1,r2⟩:=vals2 r1
  cases r1
  cases r2
  obtain⟨its,rx,px⟩:=I1.sqB hqx
  obtain⟨its2,ry,py⟩:=I1.sqB hqy
  have lt1:u<s1.heap.objs.size:=by
    cases t1
    . obtain⟨o,e,_⟩:=(show s1.heap.IsList u _ from px)
      exact Heap.lt_size e
    . obtain⟨o,e,_⟩:=(show s1.heap.IsTuple u _ from px)
      exact Heap.lt_size e
  have lt2:v<s1.heap.objs.size:=by
    cases t2
    . obtain⟨o,e,_⟩:=(show s1.heap.IsList v _ from py)
      exact Heap.lt_size e
    . obtain⟨o,e,_⟩:=(show s1.heap.IsTuple v _ from py)
      exact Heap.lt_size e
  refine Adq px py fun h' hz hTI hTO hi1 hi2 hk=> ?_
  have I2:Inv X pins σ H1 { s1 with heap:=h'}:=I1.kept (t':=s1.toks) fun c o' e=>hk c o' e
  refine wpAny_pyIter_zip hz ⟨s1.heap.objs.size+4,[s1.heap.objs.size+4,s1.heap.objs.size+2,s1.heap.objs.size+3,s1.heap.objs.size,s1.heap.objs.size+1],_,_,H1,rfl,I2,Adx t1 t2 u v _ _ _ _ _ (zipApart_new lt1 lt2),⟨hz,hTI,⟨_,_,hTO⟩,hi1,hi2⟩,fun c hcm=> ?_,q⟩
  have hge:s1.heap.objs.size<=c:=by
    simp only [List.mem_cons,List.not_mem_nil,or_false]at hcm
    rcases hcm with rfl | rfl | rfl | rfl | rfl
    . exact Nat.le_add_right _ 4
    . exact Nat.le_add_right _ 2
    . exact Nat.le_add_right _ 3
    . exact Nat.le_refl _
    . exact Nat.le_add_right _ 1
  exact I1.fpOk hge (I1.hok.fresh hge)
end
theorem Cv {t1 t2:Bool}{K:PySem.W.Frag}{ta:TA}{σ:St}{H:Hp}{R:It->Hp->Prop}:Aix t1 t2 K ta σ H R=ta σ H (fun vs H1=>∃a b,vs=[.ref a,.ref b]/\(∃xs,SqB t1 K H1 a xs)/\(∃ys,SqB t2 K H1 b ys)/\R (Amp t1 t2 K a b) H1):=rfl
theorem Aih {t1 t2:Bool}{K:PySem.W.Frag}{σ:St}{H:Hp}{g:TG}{tb:TS}{D:Ends}{a b:Addr}{xs ys:List V} (n:Nat) (hn:n=min xs.length ys.length) (Pv:Nat->St->Hp->Prop) (h0:Pv 0 σ H)
    (hw:∀i σ H,Pv i σ H->SqB t1 K H a xs/\SqB t2 K H b ys)
    (hs:∀i σ H p,i<n->Pv i σ H->H p=none->g (.ref p) σ (upd H p (.tup [xs.getD i .non,ys.getD i .non])) fun σ2 H2=>tb { D with nx:=Pv (i+1),ct:=Pv (i+1),bk:=D.nx} σ2 H2) (hd:∀σ H,Pv n σ H->D.nx σ H):FI (Amp t1 t2 K a b) g tb D σ H:=by
  refine⟨fun i m σ H=>m=n-i/\i<=n/\Pv i σ H,⟨n,by simp,Nat.zero_le _,h0⟩,?_⟩
  rintro i m σ H ⟨rfl,hi,p⟩
  obtain⟨wx,wy⟩:=hw _ _ _ p
  by_cases he:i=n
  . subst he
    exact .inl ⟨⟨xs,ys,wx,wy,by omega⟩,hd _ _ p⟩
  . have hl:i<n:=by omega
    have ex:xs[i]? =some (xs.getD i .non):=by rw [List.getD_eq_getElem?_getD,List.getElem?_eq_getElem (by omega)];rfl
    have ey:ys[i]? =some (ys.getD i .non):=by rw [List.getD_eq_getElem?_getD,List.getElem?_eq_getElem (by omega)];rfl
    refine .inr ⟨⟨xs,ys,_,_,wx,wy,ex,ey⟩,Pv (i+1),fun σ' H' p'=>⟨n-(i+1),by omega,rfl,hl,p'⟩,fun x H3 y=> ?_⟩
    obtain⟨q,u,v,hu,hv,hq,rfl,rfl⟩:=y
    have eu:=hu _ wx
    have ev:=hv _ wy
    rw [ex]at eu
    rw [ey]at ev
    cases eu
    cases ev
    exact hs i σ H q hl p hq
end L2
namespace L2
open PySem PySem.Spec PyProof.Rows
set_option maxRecDepth 100000
abbrev TB:=St->Hp->(St->Hp->Prop)->XK->Prop
def Anc (sp:Sp) (g:V->St->St) (ta:TA):TB:=fun σ H N E=>ta σ H fun vs H1=>sp vs H1 (fun v H2=>N (g v σ) H2) E
def bIf (tc:TT) (t u:TB):TB:=fun σ H N E=>tc σ H fun b H1=>if b=true then t σ H1 N E else u σ H1 N E
def Aoc (C:Addr) (i:Nat) (tb:TB) (ts:Addr->Obj->TS):TS:=fun D σ H=>tb σ H (fun σ' H'=>D.nx σ' H')
  (fun c _ H2=>c= .ref C/\∀x oe,oe.cls= .ref C->ts x oe { nx:=fun σ' H'=>D.nx (σ'.set i none) H',rt:=D.rt,bk:=fun σ' H'=>D.bk (σ'.set i none) H',ct:=fun σ' H'=>D.ct (σ'.set i none) H'} (σ.set i (some (.ref x))) H2)
theorem Cu {sp:Sp}{g:V->St->St}{ta:TA}{σ:St}{H:Hp}{N:St->Hp->Prop}{E:XK}:Anc sp g ta σ H N E=ta σ H fun vs H1=>sp vs H1 (fun v H2=>N (g v σ) H2) E:=rfl
theorem Hx {tc:TT}{t u:TB}{σ:St}{H:Hp}{N:St->Hp->Prop}{E:XK}:bIf tc t u σ H N E=tc σ H fun b H1=>if b=true then t σ H1 N E else u σ H1 N E:=rfl
theorem Ft {C:Addr}{i:Nat}{tb:TB}{ts:Addr->Obj->TS}{D:Ends}{σ:St}{H:Hp}:Aoc C i tb ts D σ H=tb σ H (fun σ' H'=>D.nx σ' H')
  (fun c _ H2=>c= .ref C/\∀x oe,oe.cls= .ref C->ts x oe { nx:=fun σ' H'=>D.nx (σ'.set i none) H',rt:=D.rt,bk:=fun σ' H'=>D.bk (σ'.set i none) H',ct:=fun σ' H'=>D.ct (σ'.set i none) H'} (σ.set i (some (.ref x))) H2):=rfl
end L2
namespace L2
open PySem PySem.Spec PyProof.Rows
section
variable {κ:Type} [DecidableEq κ]
def Ab4 (kvs:List (κ × V)) (k:κ):Option V:=(kvs.find? fun kv=>decide (kv.1=k)).map (·.2)
def putK (kvs:List (κ × V)) (k:κ) (v:V):List (κ × V):=
  if(kvs.any fun kv=>decide (kv.1=k))=true then kvs.map (fun kv=>if kv.1=k then(kv.1,v)else kv)else kvs++ [(k,v)]
def Akv (kvs:List (κ × V)) (k:κ):List (κ × V):=kvs.filter fun kv=>decide (kv.1≠k)
theorem Wy {p:κ × V}{r:List (κ × V)}{k:κ} (e:p.1=k):Ab4 (p::r) k=some p.2:=by simp [Ab4,List.find?_cons,e]
theorem V4 {p:κ × V}{r:List (κ × V)}{k:κ} (e:¬p.1=k):Ab4 (p::r) k=Ab4 r k:=by simp [Ab4,List.find?_cons,e]
theorem Aag (k:κ):∀kvs:List (κ × V),(kvs.any fun kv=>decide (kv.1=k))=(Ab4 kvs k).isSome
  | []=>rfl
  | p::r=>by
    rw [List.any_cons]
    by_cases e:p.1=k
    . simp only [Wy e,decide_eq_true e,Bool.true_or,Option.isSome_some]
    . rw [V4 e,decide_eq_false e,Bool.false_or];exact Aag k r
theorem Afp.isSome_eq {o:Option V}{u:Option Value} (r:Afp o u):o.isSome=u.isSome:=by
  cases o with
  | none=>cases u with
    | none=>rfl
    | some _=>exact(show False from r).elim
  | some _=>cases u with
    | none=>exact(show False from r).elim
    | some _=>rfl
theorem Afp.getD {o:Option V}{u:Option Value}{d:V}{d':Value} (r:Afp o u) (rd:RelV d d'):RelV (o.getD d) (u.getD d'):=by
  cases o with
  | none=>cases u with
    | none=>exact rd
    | some _=>exact(show False from r).elim
  | some _=>cases u with
    | none=>exact(show False from r).elim
    | some _=>exact r
theorem KV.val {kvs:List (κ × V)}{vs:List (κ × Value)} (r:KV kvs vs) (k:κ):Afp (Ab4 kvs k) (valueAt vs k):=by
  unfold KV at r
  induction r with
  | nil=>exact True.intro
  | @cons p q ps qs h t ih=>
    obtain⟨h1,h2⟩:=h
    by_cases e:p.1=k
    . have e':q.1=k:=h1.symm.trans e
      have b:valueAt (q::qs) k=some q.2:=by simp [valueAt,List.find?_cons,e']
      rw [Wy e,b];exact h2
    . have e':¬q.1=k:=fun z=>e (h1.trans z)
      have b:valueAt (q::qs) k=valueAt qs k:=by simp [valueAt,List.find?_cons,e']
      rw [V4 e,b];exact ih
theorem KV.any {kvs:List (κ × V)}{vs:List (κ × Value)} (r:KV kvs vs) (k:κ):(kvs.any fun kv=>decide (kv.1=k))=vs.any fun kv=>decide (kv.1=k):=by
  unfold KV at r
  induction r with
  | nil=>rfl
  | cons h t ih=>rw [List.any_cons,List.any_cons,ih,h.1]
theorem KV.repl {kvs:List (κ × V)}{vs:List (κ × Value)} (r:KV kvs vs) (k:κ) {y:V}{u:Value} (ry:RelV y u):
    KV (kvs.map fun kv=>if kv.1=k then(kv.1,y)else kv) (vs.map fun kv=>if kv.1=k then(kv.1,u)else kv):=by
  unfold KV at r ⊢
  induction r with
  | nil=>exact .nil
  | @cons p q ps qs h t ih=>
    rw [List.map_cons,List.map_cons]
    refine .cons ?_ ih
    obtain⟨h1,h2⟩:=h
    by_cases e:p.1=k
    . rw [if_pos e,if_pos (h1.symm.trans e)];exact⟨h1,ry⟩
    . rw [if_neg e,if_neg (fun z=>e (h1.trans z))];exact⟨h1,h2⟩
theorem KV.put {kvs:List (κ × V)}{vs:List (κ × Value)} (r:KV kvs vs) (k:κ) {y:V}{u:Value} (ry:RelV y u):KV (putK kvs k y) (stored vs k u):=by
  unfold putK stored
  rw [r.any k]
  by_cases e:(vs.any fun kv=>decide (kv.1=k))=true
  . rw [if_pos e,if_pos e];exact r.repl k ry
  . rw [if_neg e,if_neg e];exact Paired.snoc r ⟨rfl,ry⟩
theorem KV.drop {kvs:List (κ × V)}{vs:List (κ × Value)} (r:KV kvs vs) (k:κ):KV (Akv kvs k) (without vs k):=by
  unfold KV at r ⊢
  unfold Akv without
  induction r with
  | nil=>exact .nil
  | @cons p q ps qs h t ih=>
    obtain⟨h1,h2⟩:=h
    rw [List.filter_cons,List.filter_cons]
    by_cases e:p.1=k
    . have a:¬decide (p.1≠k)=true:=by simp [e]
      have b:¬decide (q.1≠k)=true:=by simp [h1.symm.trans e]
      rw [if_neg a,if_neg b];exact ih
    . have e':¬q.1=k:=fun z=>e (h1.trans z)
      have a:decide (p.1≠k)=true:=by simp [e]
      have b:decide (q.1≠k)=true:=by simp [e']
      rw [if_pos a,if_pos b];exact .cons ⟨h1,h2⟩ ih
theorem KV.length {kvs:List (κ × V)}{vs:List (κ × Value)} (r:KV kvs vs):kvs.length=vs.length:=Paired.length r
end
abbrev KT (H:Hp):List (List Key × V)->List (List Key × Addr × Value)->Prop:=Paired fun p q=>p.1=q.1/\H q.2.1=some (.tup (p.1.map kV))/\RelV p.2 q.2.2
theorem KT.val {H:Hp}{kvs:List (List Key × V)}{xs:List (List Key × Addr × Value)} (r:KT H kvs xs) (k:List Key):Afp (Ab4 kvs k) ((atKey xs k).map (·.2)):=by
  induction r with
  | nil=>exact True.intro
  | @cons p q ps qs h t ih=>
    obtain⟨h1,_,h2⟩:=h
    by_cases e:p.1=k
    . have e':q.1=k:=h1.symm.trans e
      have b:atKey (q::qs) k=some q.2:=by simp [atKey,List.find?_cons,e']
      rw [Wy e,b];exact h2
    . have e':¬q.1=k:=fun z=>e (h1.trans z)
      have b:atKey (q::qs) k=atKey qs k:=by simp [atKey,List.find?_cons,e']
      rw [V4 e,b];exact ih
theorem KT.repl {H:Hp}{kvs:List (List Key × V)}{xs:List (List Key × Addr × Value)} (r:KT H kvs xs) (k:List Key) {y:V}{u:Value} (ry:RelV y u):
    KT H (kvs.map fun kv=>if kv.1=k then(kv.1,y)else kv) (xs.map (putAt k u)):=by
  induction r with
  | nil=>exact .nil
  | @cons p q ps qs h t ih=>
    rw [List.map_cons,List.map_cons]
    refine .cons ?_ ih
    obtain⟨h1,h2,h3⟩:=h
    unfold putAt
    by_cases e:p.1=k
    . rw [if_pos e,if_pos (h1.symm.trans e)];exact⟨h1,h2,ry⟩
    . rw [if_neg e,if_neg (fun z=>e (h1.trans z))];exact⟨h1,h2,h3⟩
theorem KT.put {H:Hp}{kvs:List (List Key × V)}{xs:List (List Key × Addr × Value)} (r:KT H kvs xs) (k:List Key) {b:Addr}{y:V}{u:Value} (hb:H b=some (.tup (k.map kV))) (ry:RelV y u):
    KT H (putK kvs k y) (storedH xs k b u):=by
  have e:(kvs.any fun kv=>decide (kv.1=k))=(atKey xs k).isSome:=by
    rw [Aag,(r.val k).isSome_eq,Option.isSome_map]
  unfold putK storedH
  rw [e]
  by_cases q:(atKey xs k).isSome=true
  . rw [if_pos q,if_pos q];exact r.repl k ry
  . rw [if_neg q,if_neg q];exact Paired.snoc r ⟨rfl,hb,ry⟩
theorem KT.keeps {H H':Hp}{kvs:List (List Key × V)}{xs:List (List Key × Addr × Value)} (r:KT H kvs xs) (ht:∀b ys,H b=some (.tup ys)->H' b=some (.tup ys)):KT H' kvs xs:=
  Paired.mapP r fun _ _ z=>⟨z.1,ht _ _ z.2.1,z.2.2⟩
def Aib (H:Hp) (a:Addr) (y:V) (r:Option V):Prop:=
  (∃kvs k,Rd H a (.dK kvs)/\y=kV k/\r=Ab4 kvs k)\/∃kvs k b,Rd H a (.dT kvs)/\y= .ref b/\H b=some (.tup (k.map kV))/\r=Ab4 kvs k
def Akf (H:Hp) (a:Addr) (y v:V) (H':Hp):Prop:=
  (∃kvs k,H a=some (.dK kvs)/\y=kV k/\kvs.length<sizeLine/\H'=upd H a (.dK (putK kvs k v)))\/
  ∃kvs k b,H a=some (.dT kvs)/\y= .ref b/\H b=some (.tup (k.map kV))/\kvs.length<sizeLine/\H'=upd H a (.dT (putK kvs k v))
theorem Aib.k {H:Hp}{a:Addr}{kvs:List (Key × V)}{k:Key} (e:H a=some (.dK kvs)):Aib H a (kV k) (Ab4 kvs k):= .inl ⟨kvs,k,.inl e,rfl,rfl⟩
theorem Aib.t {H:Hp}{a b:Addr}{kvs:List (List Key × V)}{k:List Key} (e:H a=some (.dT kvs)) (eb:H b=some (.tup (k.map kV))):Aib H a (.ref b) (Ab4 kvs k):= .inr ⟨kvs,k,b,.inl e,rfl,eb,rfl⟩
theorem Akf.k {H:Hp}{a:Addr}{kvs:List (Key × V)}{k:Key}{v:V} (e:H a=some (.dK kvs)) (hl:kvs.length<sizeLine):Akf H a (kV k) v (upd H a (.dK (putK kvs k v))):= .inl ⟨kvs,k,e,rfl,hl,rfl⟩
theorem Akf.t {H:Hp}{a b:Addr}{kvs:List (List Key × V)}{k:List Key}{v:V} (e:H a=some (.dT kvs)) (eb:H b=some (.tup (k.map kV))) (hl:kvs.length<sizeLine):
    Akf H a (.ref b) v (upd H a (.dT (putK kvs k v))):= .inr ⟨kvs,k,b,e,rfl,eb,hl,rfl⟩
section
variable {X:Cx}{pins:List (Addr × Obj)}{σ:St}{H:Hp}{s:Shared}{a:Addr}{y v:V}{u r:Value}{o:Option V}{A:Around}{E:Value->Shared->Prop}
theorem Inv.big (I:Inv X pins σ H s):sysModules<s.heap.objs.size:=by
  have h:mainGlobals<s.heap.objs.size:=(I.mod.glob.keeps I.bk).lt
  exact Nat.lt_trans (by decide) h
end
def Aod (td ty:TE):TE:=fun σ H Q=>td σ H fun x H1=>ty σ H1 fun y H2=>∃a v,x= .ref a/\Aib H2 a y (some v)/\Q v H2
def Anf (td ty tv:TE):TS:=fun D σ H=>tv σ H fun v H1=>td σ H1 fun x H2=>ty σ H2 fun y H3=>∃a H4,x= .ref a/\Akf H3 a y v H4/\D.nx σ H4
def Al4:TE:=fun _ H Q=>∀p,H p=none->Q (.ref p) (upd H p (.dT []))
structure M1 (X:Cx) (o:Expr) (m:Str) (apos:Pos) (e:Expr) (cpos:Pos):Prop where
  base:attributeBase o m X.env (eval o X.env)=eval o X.env
  few:((backTo cpos (starEach [e] X.env)).all (fun x=> !x.1)&&(backToKw cpos (keywordEach [] X.env)).all (fun x=>x.1.isSome)
    &&decide (([e]:List Expr).length+([]:List Keyword).length+(if([]:List Keyword).isEmpty then 0 else 1)<30))=true
  line:(apos.endLine==cpos.line)=true
  trees:backTo cpos (starEach [e] X.env)=[(false,eval e X.env)]
structure M2 (X:Cx) (o:Expr) (m:Str) (apos:Pos) (e f:Expr) (cpos:Pos):Prop where
  base:attributeBase o m X.env (eval o X.env)=eval o X.env
  few:((backTo cpos (starEach [e,f] X.env)).all (fun x=> !x.1)&&(backToKw cpos (keywordEach [] X.env)).all (fun x=>x.1.isSome)
    &&decide (([e,f]:List Expr).length+([]:List Keyword).length+(if([]:List Keyword).isEmpty then 0 else 1)<30))=true
  line:(apos.endLine==cpos.line)=true
  trees:backTo cpos (starEach [e,f] X.env)=[(false,eval e X.env),(false,eval f X.env)]
def IsD (H:Hp) (a:Addr):Prop:=(∃kvs,Rd H a (.dK kvs))\/∃kvs,Rd H a (.dT kvs)
def Ak5 (td ty tx:TE):TE:=fun σ H Q=>td σ H fun x H1=>∃a,x= .ref a/\IsD H1 a/\ty σ H1 fun y H2=>tx σ H2 fun z H3=>∃o,Aib H3 a y o/\Q (o.getD z) H3
end L2
namespace L2
open PySem PySem.Spec PyProof.Rows
section
variable {td ty tx tv:TE}{σ:St}{H:Hp}{Q:VK}{D:Ends}
theorem Fo:Aod td ty σ H Q=td σ H fun x H1=>ty σ H1 fun y H2=>∃a v,x= .ref a/\Aib H2 a y (some v)/\Q v H2:=rfl
theorem Cw:Ak5 td ty tx σ H Q=td σ H fun x H1=>∃a,x= .ref a/\IsD H1 a/\ty σ H1 fun y H2=>tx σ H2 fun z H3=>∃o,Aib H3 a y o/\Q (o.getD z) H3:=rfl
theorem Eu:Anf td ty tv D σ H=tv σ H fun v H1=>td σ H1 fun x H2=>ty σ H2 fun y H3=>∃a H4,x= .ref a/\Akf H3 a y v H4/\D.nx σ H4:=rfl
end
end L2
namespace L2
open PySem PySem.Spec PyProof.Rows
def Amt (C:Addr) (tb:TB) (ts:Addr->Obj->TS):TS:=fun D σ H=>tb σ H (fun σ' H'=>D.nx σ' H')
  (fun c _ H2=>c= .ref C/\∀x oe,oe.cls= .ref C->ts x oe D σ H2)
theorem Es {C:Addr}{tb:TB}{ts:Addr->Obj->TS}{D:Ends}{σ:St}{H:Hp}:Amt C tb ts D σ H=tb σ H (fun σ' H'=>D.nx σ' H')
  (fun c _ H2=>c= .ref C/\∀x oe,oe.cls= .ref C->ts x oe D σ H2):=rfl
end L2
namespace L2
open PySem PySem.W PyProof.Rows
structure LO (n:Nat) (lt:Nat->Nat->Bool):Prop where
  tri:∀i j,i<n->j<n->i≠j->lt i j= !lt j i
  trans:∀i j k,i<n->j<n->k<n->lt i j=true->lt j k=true->lt i k=true
def KOk {α:Type} (lt:Nat->Nat->Bool) (n:Nat):KasT α->(α->Prop)->Prop
  | .ret a,P=>P a
  | .ask i j k,P=>i<n/\j<n/\i≠j/\KOk lt n (k (lt i j)) P
theorem KOk.bind {α β:Type}{lt:Nat->Nat->Bool}{n:Nat}{f:α->KasT β}{P:β->Prop}:∀ {t:KasT α},KOk lt n t (fun a=>KOk lt n (f a) P)->KOk lt n (t.bind f) P
  | .ret _,h=>h
  | .ask _ _ k,h=>⟨h.1,h.2.1,h.2.2.1,KOk.bind (t:=k _) h.2.2.2⟩
theorem KOk.mono {α:Type}{lt:Nat->Nat->Bool}{n:Nat}{P Q:α->Prop} (hq:∀a,P a->Q a):∀ {t:KasT α},KOk lt n t P->KOk lt n t Q
  | .ret a,h=>hq a h
  | .ask _ _ k,h=>⟨h.1,h.2.1,h.2.2.1,KOk.mono hq (t:=k _) h.2.2.2⟩
def aT (p:Array Nat) (i:Nat):Nat:=p.getD i 0
structure PM (n:Nat) (p:Array Nat):Prop where
  sz:p.size=n
  lt:∀i,i<n->aT p i<n
  ne:∀i j,i<n->j<n->i≠j->aT p i≠aT p j
  pm:p.toList.Perm (List.range n)
theorem PM.of {n:Nat}{p:Array Nat} (h:p.toList.Perm (List.range n)):PM n p:=by
  have sz:p.size=n:=by
    have:=h.length_eq
    simpa using this
  have nd:p.toList.Nodup:=h.nodup_iff.mpr List.nodup_range
  refine⟨sz,fun i hi=> ?_,fun i j hi hj hn e=> ?_,h⟩
  . have hi':i<p.size:=by omega
    have e:aT p i=p[i]:=by simp [aT,hi']
    have m:p[i]∈p.toList:=by simp
    rw [e]
    exact List.mem_range.mp (h.mem_iff.mp m)
  . have hi':i<p.toList.length:=by rw [Array.length_toList];omega
    have hj':j<p.toList.length:=by rw [Array.length_toList];omega
    have e1:aT p i=p.toList[i]:=by simp [aT,show i<p.size by omega]
    have e2:aT p j=p.toList[j]:=by simp [aT,show j<p.size by omega]
    have pw:=List.pairwise_iff_getElem.mp nd
    have e3:p.toList[i]=p.toList[j]:=by rw [<-e1,<-e2,e]
    rcases Nat.lt_or_gt_of_ne hn with l | l
    . exact pw i j hi' hj' l e3
    . exact pw j i hj' hi' l e3.symm
theorem PM.start (n:Nat):PM n (List.toArray (List.range n)):=PM.of (by simp)
end L2
namespace L2
open PySem PySem.Spec PySem.Calls PyProof.Rows PySem.W
abbrev Prt:=Addr × Addr × List Int × V
def Prt.ks (t:Prt):List Int:=t.2.2.1
structure Aog (K:PySem.W.Frag) (H:Hp) (t:Prt):Prop where
  pr:SqT K H t.1 [.ref t.2.1,t.2.2.2]
  tu:SqT K H t.2.1 (t.ks.map V.int)
structure Amq (P:Program) (w:World) (h:Heap) (t:Prt):Prop where
  pr:∃o xs n u,h.get? t.1=some o/\o.cls= .type "tuple"/\o.data= .seq xs n/\xs.toList=[.ref t.2.1,u]
  tu:∃its:List Value,IsTup h t.2.1 its.toArray/\IntsAre its t.ks
theorem Amq.keeps {P:Program}{w:World}{h h':Heap}{a:Addr}{t:Prt} (x:Amq P w h t) (k:∀b o,b≠a->h.get? b=some o->h'.get? b=some o) (h1:t.1≠a) (h2:t.2.1≠a):Amq P w h' t:=by
  obtain⟨⟨o,xs,n,u,e,r⟩,its,⟨ot,et,rt⟩,i⟩:=x
  exact⟨⟨o,xs,n,u,k _ _ h1 e,r⟩,its,⟨ot,k _ _ h2 et,rt⟩,i⟩
theorem Aog.at {X:Cx}{pins:List (Addr × Obj)}{σ:St}{H:Hp}{s:Shared}{t:Prt} (I:Inv X pins σ H s) (x:Aog X.K H t):Amq X.prog X.w s.heap t/\t.1<s.heap.objs.size/\t.2.1<s.heap.objs.size:=by
  obtain⟨its,r,⟨o,e,c,n,d⟩,_⟩:=I.tuple x.pr
  obtain⟨its2,r2,p2,_⟩:=I.tuple x.tu
  refine⟨⟨?_,its2,p2,intsAre_of r2⟩,Heap.lt_size e,p2.lt⟩
  cases r with
  | cons r1 r'=>
    cases r1
    cases r' with
    | cons r3 r4=>
      cases r4
      exact⟨o,_,n,_,e,c,d,rfl⟩
end L2
namespace L2
open PySem PySem.Spec PyProof.Rows
def Aor (d:Addr) (od:Obj) (kvs:List (List Key × V)):It:=
  ⟨fun i H=>H d=some (.frz od (.dT kvs))/\i<kvs.length,
   fun i H x H'=>∃p b k v,kvs[i]? =some (k,v)/\H b=some (.tup (k.map kV))/\H p=none/\x= .ref p/\H'=upd H p (.tup [.ref b,v]),
   fun i H=>H d=some (.frz od (.dT kvs))/\kvs.length<=i⟩
structure M0 (X:Cx) (o:Expr) (m:Str) (apos cpos:Pos):Prop where
  base:attributeBase o m X.env (eval o X.env)=eval o X.env
  few:((backTo cpos (starEach [] X.env)).all (fun x=> !x.1)&&(backToKw cpos (keywordEach [] X.env)).all (fun x=>x.1.isSome)
    &&decide (([]:List Expr).length+([]:List Keyword).length+(if([]:List Keyword).isEmpty then 0 else 1)<30))=true
  line:(apos.endLine==cpos.line)=true
  trees:backTo cpos (starEach [] X.env)=[]
def Alk (td:TE):TI:=fun σ H R=>td σ H fun x H1=>∃a kvs,x= .ref a/\H1 a=some (.dT kvs)/\∀od,R (Aor a od kvs) (upd H1 a (.frz od (.dT kvs)))
theorem Bp {td:TE}{σ:St}{H:Hp}{R:It->Hp->Prop}:Alk td σ H R=td σ H (fun x H1=>∃a kvs,x= .ref a/\H1 a=some (.dT kvs)/\∀od,R (Aor a od kvs) (upd H1 a (.frz od (.dT kvs)))):=rfl
theorem Ck {σ:St}{H:Hp}{Q:VK}:Al4 σ H Q=∀p,H p=none->Q (.ref p) (upd H p (.dT [])):=rfl
end L2
namespace L2
open PySem PySem.Spec PySem.Calls PyProof.Rows PySem.W
abbrev Tpt:=Addr × List Int
structure Amw (h:Heap) (t:Tpt):Prop where
  tu:∃its:List Value,IsTup h t.1 its.toArray/\IntsAre its t.2
theorem Amw.keeps {h h':Heap}{a:Addr}{t:Tpt} (x:Amw h t) (k:∀b o,b≠a->h.get? b=some o->h'.get? b=some o) (h1:t.1≠a):Amw h' t:=by
  obtain⟨its,⟨ot,et,rt⟩,i⟩:=x
  exact⟨its,⟨ot,k _ _ h1 et,rt⟩,i⟩
end L2
namespace L2
open PySem PySem.Spec PyProof.Rows PySem.W
def Ans (K:PySem.W.Frag) (t:TA) (td:TE):TE:=fun σ H Q=>t σ H fun vs H1=>td σ H1 fun d H2=>∃(a:Addr) (ns:List Int),vs=[.ref a]/\SqL K H2 a (ns.map V.int)/\(ns=[]->Q d H2)/\(ns≠ []->∀M,M∈ns->(∀x∈ns,x<=M)->Q (.int M) H2)
theorem Fw {K:PySem.W.Frag}{t:TA}{td:TE}{σ:St}{H:Hp}{Q:VK}:Ans K t td σ H Q=t σ H (fun vs H1=>td σ H1 fun d H2=>∃(a:Addr) (ns:List Int),vs=[.ref a]/\SqL K H2 a (ns.map V.int)/\(ns=[]->Q d H2)/\(ns≠ []->∀M,M∈ns->(∀x∈ns,x<=M)->Q (.int M) H2)):=rfl
end L2
namespace L2
open PySem PySem.Spec PyProof.Rows
set_option maxRecDepth 100000
section
variable {X:Cx}{e:Expr}{ta:TA}{p p2 pos pos2:Pos}
def Ao0 (K:PySem.W.Frag) (ta:TA):TE:=fun σ H Q=>ta σ H fun vs H1=>∃a xs,vs=[.ref a]/\SqL K H1 a xs/\∀l,H1 l=none->Q (.ref l) (upd H1 l (.lst xs.reverse))
theorem Ik {K:PySem.W.Frag}{σ:St}{H:Hp}{Q:VK}:Ao0 K ta σ H Q=ta σ H (fun vs H1=>∃a xs,vs=[.ref a]/\SqL K H1 a xs/\∀l,H1 l=none->Q (.ref l) (upd H1 l (.lst xs.reverse))):=rfl
end
end L2
namespace L2
open PySem PySem.Spec PyProof.Rows
theorem Yq:∀(names:List (Str × NameKind)) (n:Nat) (acc:List (Str × Addr)) (y:Str) (c:Addr),(cellsFrom n names acc).lookup y=some c->acc.lookup y=some c\/(n<=c/\(y,NameKind.cell)∈names)
  | [],_,_,_,_,h=> .inl h
  | (x,k)::r,n,acc,y,c,h=>by
    unfold cellsFrom at h
    by_cases hk:(k==NameKind.cell)=true
    . rw [if_pos hk]at h
      have ek:k= .cell:=by simpa using hk
      subst ek
      rcases Yq r (n+1) _ y c h with z | ⟨z,m⟩
      . rw [List.lookup_cons]at z
        cases e:y==x with
        | true=>
          rw [e]at z
          have e1:y=x:=by simpa using e
          subst e1
          exact .inr ⟨Nat.le_of_eq (Option.some.inj z),List.mem_cons_self⟩
        | false=>
          rw [e]at z
          exact .inl z
      . exact .inr ⟨by omega,List.mem_cons_of_mem _ m⟩
    . rw [if_neg hk]at h
      rcases Yq r n acc y c h with z | ⟨z,m⟩
      . exact .inl z
      . exact .inr ⟨z,List.mem_cons_of_mem _ m⟩
structure Xz (X:Cx) (ts:List Str) (fs:List (Nat × Str)) (scope:Scope):Prop where
  kind:scope.kind= .function
  names:∀y∈scope.names,y.2= .local ->scope.names.lookup y.1=some .local
  free:∀y∈scope.names,y.2= .free->X.env.kindOf y.1=some .cell\/X.env.kindOf y.1=some .free
  at':∀p∈fs,X.N[p.1]? =some p.2/\(p.2,NameKind.free)∈scope.names/\((relabel scope X.env).names.lookup p.2=some .cell\/(relabel scope X.env).names.lookup p.2=some .free)/\¬(p.2,NameKind.cell)∈scope.names
def Aoh (sc:Scope) (N:List Str) (fs:List (Nat × Str)) (scope:Scope):Bool:=
  (scope.kind== .function)&&(scope.names.all fun y=>y.2 != .local ||scope.names.lookup y.1==some .local)&&
  (scope.names.all fun y=>y.2 != .free||(sc.names.lookup y.1==some .cell||sc.names.lookup y.1==some .free))&&
  fs.all fun p=>N[p.1]? ==some p.2&&(scope.names.contains (p.2,NameKind.free)&&(((rlb sc scope).lookup p.2==some .cell||(rlb sc scope).lookup p.2==some .free)&& !scope.names.contains (p.2,NameKind.cell)))
theorem Xz.of {X:Cx}{ts:List Str}{fs:List (Nat × Str)}{scope sc:Scope}{N:List Str} (e1:X.env.scope=sc) (e2:X.N=N) (h:Aoh sc N fs scope=true):Xz X ts fs scope:=by
  unfold Aoh at h
  simp only [Bool.and_eq_true,List.all_eq_true,Bool.or_eq_true,bne_iff_ne,beq_iff_eq,List.contains_iff_mem,Bool.not_eq_true']at h
  obtain⟨⟨⟨h1,h3⟩,h4⟩,h5⟩:=h
  refine⟨h1,fun y hy e=> ?_,fun y hy e=> ?_,fun p hp=> ?_⟩
  . rcases h3 y hy with z | z
    . exact absurd e z
    . exact z
  . rcases h4 y hy with z | z
    . exact absurd e z
    . show X.env.scope.names.lookup y.1=_\/X.env.scope.names.lookup y.1=_
      rw [e1]
      exact z
  . obtain⟨a,b,c,d⟩:=h5 p hp
    refine⟨by rw [e2];exact a,b,?_,fun z=> ?_⟩
    . subst e1
      exact c
    . rw [<-List.contains_iff_mem]at z
      rw [z]at d
      cases d
section
variable {X:Cx}{elt tg iter:Expr}{ifs:List Expr}{scope:Scope}{pos:Pos}{wi:TI}{g:TG}{tt:TT}{te:TE}{ts:List Str}{fs:List (Nat × Str)}
theorem Xz.clos (S:Xz X ts fs scope) (ok:X.Ok):∀x∈scope.names,x.2= .free->∃c,X.env.cells.lookup x.1=some c:=fun x hx hf=>ok.has x.1 (S.free x hx hf)
theorem Xz.sub0 (S:Xz X ts fs scope) (ok:X.Ok) {y:Str}{c:Addr} (h:(scope.names.foldl (clF X.env) []).lookup y=some c):X.env.cells.lookup y=some c:=by
  rcases Wq scope.names [] y c (S.clos ok) h with z | z
  . simp at z
  . exact z
theorem Xz.sub (S:Xz X ts fs scope) (ok:X.Ok) {n:Nat}{y:Str}{c:Addr} (h:(cellsFrom n scope.names (scope.names.foldl (clF X.env) [])).lookup y=some c):X.env.cells.lookup y=some c\/n<=c:=by
  rcases Yq _ _ _ _ _ h with z | ⟨z,_⟩
  . exact .inl (S.sub0 ok z)
  . exact .inr z
end
end L2
namespace L2
open PySem PySem.Spec PyProof.Rows
structure Pyl (P:Program) (base:Heap):Prop where
  seer:base.NoSeer
  tree:P.given.tree=none
theorem Mg.far {k:Nat}{A:Around} (r:Mg k A) (h:32<=k):A.depth+Builtin.pylongFrames<recursionLimit:=by
  have h1:=r.dp
  have h2:Builtin.pylongFrames=100:=rfl
  omega
section
variable {X:Cx}{env:Env}{l:List Env}
theorem Age {pins:List (Addr × Obj)}{σ:St}{H:Hp}{s:Shared} (hp:Pyl X.prog X.base) (hd:X.A.depth+Builtin.pylongFrames<recursionLimit) (hs:X.stack=env::l) (h1:env.scope.isGenerator=false) (h2:env.scope.isCoroutine=false) (h3:env.builtins=builtinsNs) (h4:env.globals=mainGlobals)
    (I:Inv X pins σ H s):PylongRoom (model X.prog X.w) X.A s:=by
  refine PylongRoom.of I.nolimit hd (SeerAt.of (l:=l) (hp.seer.keeps I.bk) hp.tree ?_ h1 h2 h3 h4)
  rw [I.ok.frames,hs]
theorem Lp (hp:Pyl X.prog X.base) (hd:X.A.depth+Builtin.pylongFrames<recursionLimit) (hs:X.stack=env::l) (h1:env.scope.isGenerator=false) (h2:env.scope.isCoroutine=false) (h3:env.builtins=builtinsNs) (h4:env.globals=mainGlobals):
    OpR X (binaryOp .FloorDiv) (rI (fun _ j=>j≠0) fun i j=> .int (i.fdiv j)):=by
  intro pins s σ H x y v u Q I rx ry h
  obtain⟨i,j,rfl,rfl,hc,q⟩:=h
  obtain⟨t,rfl⟩:=rx
  obtain⟨t',rfl⟩:=ry
  exact floordiv_int hc ⟨.int (i.fdiv j),H,I.tok _,⟨_,rfl⟩,q⟩ (.inr (Age hp hd hs h1 h2 h3 h4 I))
end
theorem Afm {h:Heap}{H:Hp}{a:Addr}{vs:List Value} (hse:h.NoSeer) (ha:h.get? a=some { cls:= .type "list",data:= .seq vs.toArray}) (hA:∀b,H b≠none->b=a):(Ab3 h H).NoSeer:=by
  have keep:∀ {b o},h.get? b=some o->o.cls≠ .type "list"\/(∃es ep,o.data=Data.dict es ep)->(Ab3 h H).get? b=some o:=fun {b o} e z=>by
    refine Zy e ?_
    cases q:H b with
    | none=>rfl
    | some u=>
      obtain rfl:b=a:=hA b (by rw [q];simp)
      rw [ha]at e
      cases e
      rcases z with z | ⟨es,ep,z⟩
      . exact absurd rfl z
      . cases(show Data.seq vs.toArray _=Data.dict es ep from z)
  have ns:∀ {b m},h.Ns b m->(Ab3 h H).Ns b m:=fun {b m} ⟨o,es,ep,e,d,r⟩=>⟨o,es,ep,keep e (.inr ⟨es,ep,d⟩),d,r⟩
  obtain⟨⟨m1,a1,b1⟩,⟨m2,a2,b2⟩,⟨m3,a3,b3⟩,⟨m4,bm,ob,a4,b4,c4,d4,e4⟩⟩:=hse
  exact⟨⟨m1,ns a1,b1⟩,⟨m2,ns a2,b2⟩,⟨m3,ns a3,b3⟩,⟨m4,bm,ob,ns a4,b4,keep c4 (.inl (by rw [d4];decide)),d4,e4⟩⟩
theorem Acz {P:Program}{w:World}{K:PySem.W.Frag}{mg mb:Str->Option Value}{k:Nat}{fa a:Addr}{fd:FuncData}{x:Str}{sp:Sp}{s₁:Shared}{vs:List Value}{ns:List Int}
    (KX:K.In s₁.heap) (hns:s₁.heap.Ns mainGlobals mg) (hb:s₁.heap.Ns builtinsNs mb) (hbb:∀x:Str,x≠"__name__"->mb x=bootBuiltins x) (hlim:s₁.heap.NoLimit) (hse:s₁.heap.NoSeer) (hg:s₁.gens= #[])
    (ha:s₁.heap.get? a=some { cls:= .type "list",data:= .seq vs.toArray}) (hi:IntsAre vs ns) (hl:ns.length<=sizeLine) (hr:Mg k callerA)
    (F:∀base:Heap,K.In base->base.Ns mainGlobals mg->base.NoSeer->Uw P w K mg base CX0 k fa fd [x] sp) (hbind:∀(s:Shared) (u:Value),BindsTo s fd ⟨[u],[]⟩ [(x,u)])
    (hsp:∀H:Hp,SqL K H a (ns.map V.int)->sp [.ref a] H (fun v _=>v= .bl true) fun _ _ _=>False)
    (hCX:∀H e s',CX0 [] H s₁ (fun _ _ _=>False) e s'->False):
    codeAny (model P w) callerA (.call (.ref fa) ⟨[.ref a],[]⟩) (fun r s'=>r= .ok (.ret (.bool true))/\OldK s₁.heap s'.heap/\s'.os=s₁.os/\AllBare s'.gens) s₁:=by
  have rv:=W6 hi
  have ln:=hi.length
  obtain⟨H,hO,hS,hok,hA,hK⟩:∃H:Hp,Only H/\SqL K H a (ns.map V.int)/\HOk P w H s₁.heap/\(∀b,H b≠none->b=a)/\(H a≠none->K.lookup a=none):=by
    cases hk:K.lookup a with
    | some o=>
      have e:=KX a o hk
      rw [ha]at e
      cases e
      exact⟨fun _=>none,fun _=> .inl rfl,.inr ⟨_,vs.toArray,_,hk,rfl,rfl,rfl,by rw [List.size_toArray,ln];exact hl,by simpa using rv⟩,by intro b u z;exact(nomatch (show(none:Option HO)=some u from z)),fun b z=>absurd rfl z,fun z=>absurd rfl z⟩
    | none=>
      refine⟨upd (fun _=>none) a (.frz { cls:= .type "list",data:= .seq vs.toArray} (.lst (ns.map V.int))),fun b=> ?_,.inl (.inr ⟨_,Af⟩),fun b u z=> ?_,fun b z=> ?_,fun _=>rfl⟩
      . by_cases e:b=a
        . subst e
          exact .inr ⟨_,_,Af⟩
        . exact .inl (Bv e)
      . by_cases e:b=a
        . subst e
          rw [Af]at z
          cases z
          exact⟨ha,by rw [List.length_map];exact hl,vs,_,rv,ha⟩
        . rw [Bv e]at z
          cases z
      . exact Classical.byContradiction fun e=>z (Bv e)
  have of_b:∀ {b:Addr}{o:Obj},s₁.heap.get? b=some o->H b=none->(Ab3 s₁.heap H).get? b=some o:=fun e n=>Zy e n
  have nsK:∀ {b:Addr}{m:Str->Option Value},s₁.heap.Ns b m->(Ab3 s₁.heap H).Ns b m:=fun {b m} ⟨o,es,ep,e,d,r⟩=>by
    refine⟨o,es,ep,of_b e ?_,d,r⟩
    cases q:H b with
    | none=>rfl
    | some u=>
      obtain rfl:b=a:=hA b (by rw [q];simp)
      rw [ha]at e
      cases e
      cases(show Data.seq vs.toArray _=Data.dict es ep from d)
  have kb:K.In (Ab3 s₁.heap H):=fun b o e=>of_b (KX b o e) (by
    cases q:H b with
    | none=>rfl
    | some u=>
      obtain rfl:b=a:=hA b (by rw [q];simp)
      rw [hK (by rw [q];simp)]at e
      cases e)
  have hM:Mod K mg (Ab3 s₁.heap H):=⟨kb,nsK hns,⟨mb,nsK hb,hbb⟩,let ⟨mc,h1,h2⟩:=hlim;⟨mc,nsK h1,h2⟩⟩
  have e0:Aip P w K mg (Ab3 s₁.heap H) callerA [] s₁ H:=⟨rfl,hM,fun b o e=>Aju e,Nat.le_of_eq (Adc _ _),trivial,fun b hb=>absurd (show b∈([]:List Addr)from hb) (by simp),hok,.of_eq hg⟩
  refine codeAny_mono ((F _ kb (nsK hns) (Afm hse ha hA)).run callerA [] s₁ H ⟨[.ref a],[]⟩ [.ref a] [.ref a] _ _ hr e0 (hbind s₁ (.ref a)) (.cons rfl .nil) (hsp H hS)) fun r s' h=> ?_
  match r,h with
  | .error e,h=>exact(hCX H e s' h).elim
  | .ok .next,h=>exact False.elim h
  | .ok .brk,h=>exact False.elim h
  | .ok .cont,h=>exact False.elim h
  | .ok (.ret u),h=>
    obtain⟨v,H',os,bare,un,hok',r',q⟩:=h
    obtain rfl:v= .bl true:=q
    obtain rfl:u=Value.bool true:=r'
    refine⟨rfl,OldK.of_keep fun b o e=> ?_,os,bare⟩
    rcases hO b with q | ⟨ob,xs,z⟩
    . exact un.keep b o e q (by intro z;exact absurd (show b∈([]:List Addr)from z) (by simp)) (by simp)
    . obtain⟨e1,_⟩:=hok b _ z
      obtain⟨e2,_⟩:=hok' b _ (un.frzs b ob _ z)
      rw [e]at e1
      cases e1
      exact e2
theorem Ag0 {l:PySem.W.OpenLaw}{n k:Nat}{q:Program}{loose:List Str}{XP:(Str->Option Value)->Heap->Prop}{YP:World->Heap->Prop}{d:DefRec}{K:Params->PySem.W.Frag}{sp:PySem.W.Frag->Sp}{x:Str}
    (hn:l.most=some n) (hn2:n<=sizeLine) (hdf:d.params.defaults=[]) (hr:Mg k callerA) (him:importsNone q=true) (htr:l.prog.given.tree=none)
    (hY:∀(w:World) (h:Heap),YP w h->(K w.params).In h)
    (F:∀(w:World) (mg:Str->Option Value) (fa:Addr) (h:Heap),(K w.params).In h->h.Ns mainGlobals mg->mg d.name=some (.ref fa)->
      ∃fd:FuncData,(∀(s:Shared) (u:Value),BindsTo s fd ⟨[u],[]⟩ [(x,u)])/\∀base:Heap,Pyl l.prog base->Uw l.prog w (K w.params) mg base CX0 k fa fd [x] (sp (K w.params)))
    (hsp:∀(K:PySem.W.Frag) (H:Hp) (a:Addr) (ns:List Int),ns.length<=n->SqL K H a (ns.map V.int)->sp K [.ref a] H (fun v _=>v= .bl true) fun _ _ _=>False)
    (hCX:∀(H:Hp) (s:Shared) (e:Value) (s':Shared),CX0 [] H s (fun _ _ _=>False) e s'->False):
    PySem.W.WalkO q loose XP YP l.row.toRowW d [] (fun f vs=>PySem.call f vs):=by
  refine Att.Yz hn hdf fun w s₀ s₁ mg mb fa o pm cd doc a vs ns G Y ho hd hcd hmg hobj hints hlen hg=> ?_
  have KX:=hY w _ Y
  obtain⟨fd,hb,hF⟩:=F w mg fa _ KX G.T.g hmg
  exact Acz KX G.T.g G.T.b G.T.builtins G.T.nolimit (G.T.seer him) hg hobj hints (Nat.le_trans hlen hn2) hr (fun base _ _ ns=>hF base ⟨ns,htr⟩) hb (fun H hS=>hsp (K w.params) H a ns hlen hS) fun H e s'=>hCX H s₁ e s'
end L2
namespace L2
open PySem PySem.Spec PyProof.Rows
set_option maxRecDepth 100000
def Ak0 (Cs:List Addr) (i:Nat) (tb:TB) (ts:Addr->Addr->Obj->TS):TS:=fun D σ H=>tb σ H (fun σ' H'=>D.nx σ' H')
  (fun c _ H2=>∃C,c= .ref C/\C∈Cs/\∀x oe,oe.cls= .ref C->ts C x oe { nx:=fun σ' H'=>D.nx (σ'.set i none) H',rt:=D.rt,bk:=fun σ' H'=>D.bk (σ'.set i none) H',ct:=fun σ' H'=>D.ct (σ'.set i none) H'} (σ.set i (some (.ref x))) H2)
theorem Cy {Cs:List Addr}{i:Nat}{tb:TB}{ts:Addr->Addr->Obj->TS}{D:Ends}{σ:St}{H:Hp}:Ak0 Cs i tb ts D σ H=tb σ H (fun σ' H'=>D.nx σ' H')
  (fun c _ H2=>∃C,c= .ref C/\C∈Cs/\∀x oe,oe.cls= .ref C->ts C x oe { nx:=fun σ' H'=>D.nx (σ'.set i none) H',rt:=D.rt,bk:=fun σ' H'=>D.bk (σ'.set i none) H',ct:=fun σ' H'=>D.ct (σ'.set i none) H'} (σ.set i (some (.ref x))) H2):=rfl
end L2
namespace L2
open PySem PySem.Spec PyProof.Rows
theorem W7 {X:Cx}{x:Str}{p pos:Pos}{k:Nat}{ps:List Str}{sp:Sp} (C:Cal X.prog X.w X.K X.mg X.base k x ps sp) (hr:Mg k X.A) (hg:Gl X x:=by rfl) (hdb:(x==("__debug__":Str))=false:=by decide):PE X (.Call (.Name x p) [] [] pos) (U0 sp [] E0 Akh):=by
  obtain⟨f,fd,G,g,b,c⟩:=C
  exact Af4 G hr hg g b c .nil Aj7 hdb
end L2
namespace L2.S
open PySem L2
@[irreducible] def PE (X:Cx) (e:Expr) (t:TE):Prop:=L2.PE X e t
@[irreducible] def PT (X:Cx) (e:Expr) (t:TT):Prop:=L2.PT X e t
@[irreducible] def PW (X:Cx) (e:Expr) (t:TT):Prop:=L2.PW X e t
@[irreducible] def PA (X:Cx) (es:List Expr) (t:TA):Prop:=L2.PA X es t
@[irreducible] def PS (X:Cx) (st:Stmt) (t:TS):Prop:=L2.PS X st t
@[irreducible] def PSs (X:Cx) (st:List Stmt) (t:TS):Prop:=L2.PSs X st t
@[irreducible] def PG (X:Cx) (target:Expr) (t:TG):Prop:=L2.PG X target t
@[irreducible] def PGs (X:Cx) (ts:List Expr) (t:TGs):Prop:=L2.PGs X ts t
@[irreducible] def PI (X:Cx) (tg iter:Expr) (wi:TI):Prop:=L2.PI X tg iter wi
@[irreducible] def PO (X:Cx) (e:Option Expr) (t:TO):Prop:=L2.PO X e t
@[irreducible] def PTs (X:Cx) (ifs:List Expr) (t:TT):Prop:=L2.PTs X ifs t
theorem out {X:Cx}{b:List Stmt}{t:TS} (h:PSs X b t):L2.PSs X b t:=by unfold PSs at h;exact h
theorem pv:∀ {X:Cx} (i:Nat) {x:Str}{pos:Pos},autoParam ((Cx.N X)[i]? =Option.some x) L2.pv._auto_1->autoParam (Vis (Env.scope (Cx.env X)) x) L2.pv._auto_2->autoParam ((x==("__debug__":Str))=Bool.false) L2.pv._auto_3->autoParam ((x==("__classdict__":Str))=Bool.false) L2.pv._auto_4->S.PE X (Expr.Name x pos) (Ahc i):=by with_unfolding_all exact @L2.pv
theorem Lr:∀ {X:Cx}{x:Str}{v:V}{u:Value}{pos:Pos},Gl X x->Cx.mg X x=Option.none->bootBuiltins x=Option.some u->RelV v u->autoParam (x≠("__name__":Str)) L2.Lr._auto_1->autoParam ((x==("__debug__":Str))=Bool.false) L2.Lr._auto_2->S.PE X (Expr.Name x pos) (tC v):=by with_unfolding_all exact @L2.Lr
theorem O9:∀ {X:Cx}{x:Str}{v:V}{u:Value}{pos:Pos},Gl X x->Cx.mg X x=Option.some u->RelV v u->autoParam ((x==("__debug__":Str))=Bool.false) L2.O9._auto_1->S.PE X (Expr.Name x pos) (tC v):=by with_unfolding_all exact @L2.O9
theorem Ad:∀ {X:Cx}{i:Int}{j:Nat}{pos:Pos},S.PE X (Expr.Constant (Const.int i) j pos) (tC (V.int i)):=by with_unfolding_all exact @L2.Ad
theorem O5:∀ {X:Cx}{b:Bool}{j:Nat}{pos:Pos},S.PE X (Expr.Constant (Const.bool b) j pos) (tC (V.bl b)):=by with_unfolding_all exact @L2.O5
theorem X5:∀ {X:Cx}{j:Nat}{pos:Pos},S.PE X (Expr.Constant Const.none j pos) (tC V.non):=by with_unfolding_all exact @L2.X5
theorem K8:∀ {X:Cx}{x:Str}{j:Nat}{pos:Pos},S.PE X (Expr.Constant (Const.str x) j pos) (tC (V.str x)):=by with_unfolding_all exact @L2.K8
theorem Ai:∀ {X:Cx}{a b:Expr}{ta tb:TE}{pos:Pos}{op:Operator}{r:R2},OpR X (binaryOp op) r->S.PE X a ta->S.PE X b tb->S.PE X (Expr.BinOp a op b pos) (tOp r ta tb):=by with_unfolding_all exact @L2.Ai
theorem Z8:∀ {X:Cx}{a:Expr}{ta:TE}{pos:Pos},S.PE X a ta->S.PE X (Expr.UnaryOp UnaryOp.Not a pos) (Ajh ta):=by with_unfolding_all exact @L2.Z8
theorem Hv:∀ {X:Cx}{a:Expr}{ta:TE}{pos:Pos}{op:UnaryOp}{r:V->Hp->VK->Prop},UnR X (unaryOp op) r->S.PE X a ta->S.PE X (Expr.UnaryOp op a pos) (tUn r ta):=by with_unfolding_all exact @L2.Hv
theorem Gz:∀ {X:Cx}{a b:Expr}{ta tb:TE}{pos:Pos}{op:CmpOp}{r:R2},OpR X (compareOp op) r->S.PE X a ta->S.PE X b tb->behindInMarks op b=Bool.false->S.PE X (Expr.Compare a [op] [b] pos) (tOp r ta tb):=by with_unfolding_all exact @L2.Gz
theorem Tq:∀ {X:Cx}{a b:Expr}{ta tb:TE}{pos:Pos}{rest:List Expr},S.PE X a ta->S.PE X (Expr.BoolOp BoolOp.And (b::rest) pos) tb->S.PE X (Expr.BoolOp BoolOp.And (a::b::rest) pos) (Ais ta tb):=by with_unfolding_all exact @L2.Tq
theorem Ajr:∀ {X:Cx}{a b:Expr}{ta tb:TE}{pos:Pos}{rest:List Expr},S.PE X a ta->S.PE X (Expr.BoolOp BoolOp.Or (b::rest) pos) tb->S.PE X (Expr.BoolOp BoolOp.Or (a::b::rest) pos) (An4 ta tb):=by with_unfolding_all exact @L2.Ajr
theorem Rx:∀ {X:Cx}{a:Expr}{pos:Pos}{op:BoolOp}{t:TE},S.PE X a t->S.PE X (Expr.BoolOp op [a] pos) t:=by with_unfolding_all exact @L2.Rx
theorem Ny:∀ {X:Cx}{a b:Expr}{ta tb:TE}{pos:Pos}{tA:TT}{c:Expr},S.PT X c tA->S.PE X a ta->S.PE X b tb->S.PE X (Expr.IfExp c a b pos) (tIf tA ta tb):=by with_unfolding_all exact @L2.Ny
theorem Bq:∀ {X:Cx}{es:List Expr}{t:TA}{pos:Pos}{x1:Nat},S.PA X es t->S.PE X (Expr.Tuple es x1 pos) (Amz t):=by with_unfolding_all exact @L2.Bq
theorem Ka:∀ {X:Cx}{es:List Expr}{t:TA}{pos:Pos},S.PA X es t->S.PE X (Expr.List es pos) (Am2 t):=by with_unfolding_all exact @L2.Ka
theorem Ln:∀ {X:Cx}{e:Expr}{te:TE}{lo hi:Option Expr}{tl th:TO}{pos p2:Pos}{r:V->Option Int->Option Int->Hp->VK->Prop},SlR X r->S.PE X e te->S.PO X lo tl->S.PO X hi th->S.PE X (Expr.Subscript e (Expr.Slice lo hi Option.none p2) pos) (tSl r te tl th):=by with_unfolding_all exact @L2.Ln
theorem Oq:∀ {X:Cx},S.PO X Option.none Yx:=by with_unfolding_all exact @L2.Oq
theorem O6:∀ {X:Cx}{e:Expr}{te:TE},S.PE X e te->S.PO X (Option.some e) (Aio te):=by with_unfolding_all exact @L2.O6
theorem Bl:∀ {X:Cx}{a b:Expr}{ta tb:TE}{pos:Pos}{r:R2},IxR X r->S.PE X a ta->S.PE X b tb->Adn b->S.PE X (Expr.Subscript a b pos) (tOp r ta tb):=by with_unfolding_all exact @L2.Bl
theorem Kv:∀ {X:Cx}{elt tg iter:Expr}{ifs:List Expr}{scope:Scope}{pos:Pos}{wi:TI}{g:TG}{tt:TT}{te:TE}{ts:List Str}{fs:List (Nat × Str)},Cx.calm X=Bool.true->Dp X ts fs scope->S.PI X tg iter wi->(∀(ex:List Addr) (s:Shared) (H:Hp),S.PG (cxC X (cpN ts fs) scope ex s H) tg g)->(∀(ex:List Addr) (s:Shared) (H:Hp),S.PTs (cxC X (cpN ts fs) scope ex s H) ifs tt)->(∀(ex:List Addr) (s:Shared) (H:Hp),S.PE (cxC X (cpN ts fs) scope ex s H) elt te)->autoParam (∀(x:Value),foldedSetIterable iter (Cx.env X) x=Pure.pure x) L2.Kv._auto_1->S.PE X (Expr.ListComp elt [{ target:=tg,iter:=iter,ifs:=ifs,is_async:=(0:Int)}] scope pos) (Abo (List.length ts) fs wi g tt te):=by with_unfolding_all exact @L2.Kv
theorem Gj:∀ {P:Program}{w:World}{K:W.Frag}{mg:Str->Option Value}{base:Heap}{N:List Str}{qual:Str}{scope:Scope}{f:Addr}{cd:Value}{A:Around}{outer:List Env}{s0:Shared}{H0:Hp}{E:XK}{k:Nat}{x:Str}{ps:List Str}{sp:Sp}{p pos:Pos}{e:Expr}{es:List Expr}{t:TA},Oz P w K mg base k x ps sp->Mg k (Around.deeper A (PyProof.Rows.envOfC qual scope (Array.size (Heap.objs (Shared.heap s0))) f cd))->S.PA (Tf (CXE P w) P w K mg base N qual scope f cd A outer s0 H0 E) (e::es) t->autoParam (Gl (Tf (CXE P w) P w K mg base N qual scope f cd A outer s0 H0 E) x) L2.Gj._auto_1->autoParam ((x==("__debug__":Str))=Bool.false) L2.Gj._auto_2->autoParam (starEach (e::es) (PyProof.Rows.envOfC qual scope (Array.size (Heap.objs (Shared.heap s0))) f cd)=(Bool.false,eval e (PyProof.Rows.envOfC qual scope (Array.size (Heap.objs (Shared.heap s0))) f cd))::starEach es (PyProof.Rows.envOfC qual scope (Array.size (Heap.objs (Shared.heap s0))) f cd)) L2.Gj._auto_3->autoParam ((List.any (backTo pos (starEach es (PyProof.Rows.envOfC qual scope (Array.size (Heap.objs (Shared.heap s0))) f cd))) fun(x:Bool × Sem Value) ↦ Prod.fst x)=Bool.false) L2.Gj._auto_4->S.PE (Tf (CXE P w) P w K mg base N qual scope f cd A outer s0 H0 E) (Expr.Call (Expr.Name x p) (e::es) [] pos) (U0 sp [] E t):=by with_unfolding_all exact @L2.Gj
theorem Dn:∀ {X:Cx}{e:Expr}{es:List Expr}{t:TA}{x:Str}{p pos:Pos}{id:String}{r:List V->Hp->VK->Prop},K6 X (Value.builtin id) r->Gl X x->Cx.mg X x=Option.none->bootBuiltins x=Option.some (Value.builtin id)->S.PA X (e::es) t->autoParam (Gk e=Bool.true) L2.Dn._auto_1->autoParam (List.all es Gk=Bool.true) L2.Dn._auto_2->autoParam (x≠("__name__":Str)) L2.Dn._auto_3->autoParam ((x==("__debug__":Str))=Bool.false) L2.Dn._auto_4->S.PE X (Expr.Call (Expr.Name x p) (e::es) [] pos) (tCB r t):=by with_unfolding_all exact @L2.Dn
theorem Hg:∀ {X:Cx}{e:Expr}{es:List Expr}{t:TA}{x:Str}{p pos:Pos}{T:String}{r:List V->Hp->VK->Prop},K6 X (Value.type T) r->Gl X x->Cx.mg X x=Option.none->bootBuiltins x=Option.some (Value.type T)->S.PA X (e::es) t->autoParam (Gk e=Bool.true) L2.Hg._auto_1->autoParam (List.all es Gk=Bool.true) L2.Hg._auto_2->autoParam (x≠("__name__":Str)) L2.Hg._auto_3->autoParam ((x==("__debug__":Str))=Bool.false) L2.Hg._auto_4->S.PE X (Expr.Call (Expr.Name x p) (e::es) [] pos) (tCB r t):=by with_unfolding_all exact @L2.Hg
theorem Aj:∀ {X:Cx}{e:Expr}{es:List Expr}{t:TA}{x:Str}{p pos:Pos}{k:Nat}{ps:List Str}{sp:Sp},Cal (Cx.prog X) (Cx.w X) (Cx.K X) (Cx.mg X) (Cx.base X) k x ps sp->Mg k (Cx.A X)->S.PA X (e::es) t->autoParam (Gk e=Bool.true) L2.Aj._auto_1->autoParam (List.all es Gk=Bool.true) L2.Aj._auto_2->autoParam (Gl X x) L2.Aj._auto_3->autoParam ((x==("__debug__":Str))=Bool.false) L2.Aj._auto_4->S.PE X (Expr.Call (Expr.Name x p) (e::es) [] pos) (U0 sp [] E0 t):=by with_unfolding_all exact @L2.Aj
theorem W7:∀ {X:Cx}{x:Str}{p pos:Pos}{k:Nat}{ps:List Str}{sp:Sp},Cal (Cx.prog X) (Cx.w X) (Cx.K X) (Cx.mg X) (Cx.base X) k x ps sp->Mg k (Cx.A X)->autoParam (Gl X x) L2.W7._auto_1->autoParam ((x==("__debug__":Str))=Bool.false) L2.W7._auto_2->S.PE X (Expr.Call (Expr.Name x p) [] [] pos) (U0 sp [] E0 Akh):=by with_unfolding_all exact @L2.W7
theorem Abq:∀ {X:Cx}{i k:Nat}{a:Addr}{x y:Str}{ps:List Str}{sp:Sp}{p pos:Pos}{e:Expr}{es:List Expr}{t:TA},Cal (Cx.prog X) (Cx.w X) (Cx.K X) (Cx.mg X) (Cx.base X) k y ps sp->Cx.mg X y=Option.some (Value.ref a)->Mg k (Cx.A X)->S.PE X (Expr.Name x p) (Ahc i)->S.PA X (e::es) t->autoParam (Gk e=Bool.true) L2.Abq._auto_1->autoParam (List.all es Gk=Bool.true) L2.Abq._auto_2->S.PE X (Expr.Call (Expr.Name x p) (e::es) [] pos) (tCV i a sp E0 t):=by with_unfolding_all exact @L2.Abq
theorem Qf:∀ {X:Cx}{x:Str}{v:V}{pos:Pos},Gl X x->(∃(u:Value),Cx.mg X x=Option.some u/\RelV v u)->autoParam ((x==("__debug__":Str))=Bool.false) L2.Qf._auto_1->S.PE X (Expr.Name x pos) (tC v):=by with_unfolding_all exact @L2.Qf
theorem T7:∀ {X:Cx}{o e:Expr}{es:List Expr}{to:TE}{t:TA}{name:Str}{apos cpos:Pos}{T id:String}{r:V->List V->Hp->VK->Prop},PlainAttrs T->Slot T name id->typeOf (Value.builtin id)=Pure.pure (Value.type "method_descriptor")->MtR X id r->S.PE X o to->S.PA X (e::es) t->autoParam (attributeBase o name (Cx.env X) (eval o (Cx.env X))=eval o (Cx.env X)) L2.T7._auto_1->autoParam ((((List.all (backTo cpos (starEach (e::es) (Cx.env X))) fun(x:Bool × Sem Value) ↦ !Prod.fst x)&&List.all (backToKw cpos (keywordEach [] (Cx.env X))) fun(x:Option Str × Sem Value) ↦ Option.isSome (Prod.fst x))&&Decidable.decide ((List.length (e::es)+List.length ([]:List Keyword)+if List.isEmpty ([]:List Keyword)=Bool.true then(0:Nat)else(1:Nat))<(30:Nat)))=Bool.true) L2.T7._auto_2->autoParam ((Pos.endLine apos==Pos.line cpos)=Bool.true) L2.T7._auto_3->autoParam (starEach (e::es) (Cx.env X)=(Bool.false,eval e (Cx.env X))::starEach es (Cx.env X)) L2.T7._auto_4->autoParam ((List.any (backTo cpos (starEach es (Cx.env X))) fun(x:Bool × Sem Value) ↦ Prod.fst x)=Bool.false) L2.T7._auto_5->S.PE X (Expr.Call (Expr.Attribute o name apos) (e::es) [] cpos) (tBM (Cx.K X) T r to t):=by with_unfolding_all exact @L2.T7
theorem W0:∀ {X:Cx}{o:Expr}{to:TE}{name:Str}{apos cpos:Pos}{T id:String}{r:V->List V->Hp->VK->Prop},PlainAttrs T->Slot T name id->typeOf (Value.builtin id)=Pure.pure (Value.type "method_descriptor")->MtR X id r->S.PE X o to->autoParam (attributeBase o name (Cx.env X) (eval o (Cx.env X))=eval o (Cx.env X)) L2.W0._auto_1->autoParam ((Pos.endLine apos==Pos.line cpos)=Bool.true) L2.W0._auto_2->S.PE X (Expr.Call (Expr.Attribute o name apos) [] [] cpos) (Ank (Cx.K X) T r to):=by with_unfolding_all exact @L2.W0
theorem U3:∀ {X:Cx}{a:Expr}{ta:TA}{el:List Expr}{x1:Nat}{tp p pos:Pos},Gl X (("enumerate":Str))->Cx.mg X (("enumerate":Str))=Option.none->S.PA X [a] ta->autoParam (starEach [a] (Cx.env X)=[(Bool.false,eval a (Cx.env X))]) L2.U3._auto_1->S.PI X (Expr.Tuple el x1 tp) (Expr.Call (Expr.Name (("enumerate":Str)) p) [a] [] pos) (iEn (Cx.K X) ta):=by with_unfolding_all exact @L2.U3
theorem Ul:∀ {X:Cx}{a b:Expr}{ta:TA}{el:List Expr}{x1:Nat}{tp p pos:Pos} (t1 t2:Bool),Gl X (("zip":Str))->Cx.mg X (("zip":Str))=Option.none->S.PA X [a,b] ta->autoParam (starEach [a,b] (Cx.env X)=[(Bool.false,eval a (Cx.env X)),(Bool.false,eval b (Cx.env X))]) L2.Ul._auto_1->autoParam (starEach [b] (Cx.env X)=[(Bool.false,eval b (Cx.env X))]) L2.Ul._auto_2->S.PI X (Expr.Tuple el x1 tp) (Expr.Call (Expr.Name (("zip":Str)) p) [a,b] [] pos) (Aix t1 t2 (Cx.K X) ta):=by with_unfolding_all exact @L2.Ul
theorem Agw:∀ {X:Cx}{a:Expr}{ta:TA}{tg:Expr}{p pos:Pos},Gl X (("reversed":Str))->Cx.mg X (("reversed":Str))=Option.none->S.PA X [a] ta->autoParam (starEach [a] (Cx.env X)=[(Bool.false,eval a (Cx.env X))]) L2.Agw._auto_1->S.PI X tg (Expr.Call (Expr.Name (("reversed":Str)) p) [a] [] pos) (iRv (Cx.K X) ta):=by with_unfolding_all exact @L2.Agw
theorem Ot:∀ {X:Cx}{tg a b c:Expr}{ta:TA}{p pos:Pos},Gl X (("range":Str))->Cx.mg X (("range":Str))=Option.none->S.PA X [a,b,c] ta->autoParam (Gk a=Bool.true) L2.Ot._auto_1->autoParam (List.all [b,c] Gk=Bool.true) L2.Ot._auto_2->S.PI X tg (Expr.Call (Expr.Name (("range":Str)) p) [a,b,c] [] pos) (Aiq ta):=by with_unfolding_all exact @L2.Ot
theorem Kd:∀ {X:Cx}{tg a:Expr}{ta:TA}{p pos:Pos},Gl X (("range":Str))->Cx.mg X (("range":Str))=Option.none->S.PA X [a] ta->autoParam (starEach [a] (Cx.env X)=[(Bool.false,eval a (Cx.env X))]) L2.Kd._auto_1->S.PI X tg (Expr.Call (Expr.Name (("range":Str)) p) [a] [] pos) (Ajm ta):=by with_unfolding_all exact @L2.Kd
theorem Mz:∀ {X:Cx}{tg a b:Expr}{ta:TA}{p pos:Pos},Gl X (("range":Str))->Cx.mg X (("range":Str))=Option.none->S.PA X [a,b] ta->autoParam (starEach [a,b] (Cx.env X)=[(Bool.false,eval a (Cx.env X)),(Bool.false,eval b (Cx.env X))]) L2.Mz._auto_1->autoParam (starEach [b] (Cx.env X)=[(Bool.false,eval b (Cx.env X))]) L2.Mz._auto_2->S.PI X tg (Expr.Call (Expr.Name (("range":Str)) p) [a,b] [] pos) (Aim ta):=by with_unfolding_all exact @L2.Mz
theorem Ly:∀ {X:Cx}{tg l:Expr}{tl:TE},S.PE X l tl->S.PI X tg l (Ajy (Cx.K X) tl):=by with_unfolding_all exact @L2.Ly
theorem Ug:∀ {X:Cx}{tg l:Expr}{tl:TE},S.PE X l tl->S.PI X tg l (Anh (Cx.K X) tl):=by with_unfolding_all exact @L2.Ug
theorem Jz:∀ {X:Cx},S.PTs X [] Xg:=by with_unfolding_all exact @L2.Jz
theorem Al:∀ {X:Cx}{a b:Expr}{ta tb:TE}{pos:Pos}{op:CmpOp}{r:R2},OpR X (compareOp op) r->S.PE X a ta->S.PE X b tb->behindInMarks op b=Bool.false->S.PT X (Expr.Compare a [op] [b] pos) (Akc (tOp r ta tb)):=by with_unfolding_all exact @L2.Al
theorem K9:∀ {X:Cx}{a:Expr}{pos:Pos}{tA:TT},S.PT X a tA->S.PT X (Expr.UnaryOp UnaryOp.Not a pos) (An9 tA):=by with_unfolding_all exact @L2.K9
theorem Rv:∀ {X:Cx}{a b:Expr}{pos:Pos}{tA tB':TT}{rest:List Expr},S.PT X a tA->S.PW X (Expr.BoolOp BoolOp.And (b::rest) pos) tB'->S.PW X (Expr.BoolOp BoolOp.And (a::b::rest) pos) (Anl tA tB'):=by with_unfolding_all exact @L2.Rv
theorem N7:∀ {X:Cx}{a b:Expr}{pos:Pos}{tA tB':TT}{rest:List Expr},S.PT X a tA->S.PW X (Expr.BoolOp BoolOp.Or (b::rest) pos) tB'->S.PW X (Expr.BoolOp BoolOp.Or (a::b::rest) pos) (tOr tA tB'):=by with_unfolding_all exact @L2.N7
theorem Ng:∀ {X:Cx}{a:Expr}{pos:Pos}{tA:TT},S.PT X a tA->S.PW X (Expr.BoolOp BoolOp.And [a] pos) tA:=by with_unfolding_all exact @L2.Ng
theorem Nh:∀ {X:Cx}{a:Expr}{pos:Pos}{tA:TT},S.PT X a tA->S.PW X (Expr.BoolOp BoolOp.Or [a] pos) tA:=by with_unfolding_all exact @L2.Nh
theorem O2:∀ {X:Cx}{e:Expr}{t:TT},S.PW X e t->S.PT X e t:=by with_unfolding_all exact @L2.PW.pt
theorem Jp:∀ {X:Cx}{e:Expr}{t:TE},S.PE X e t->autoParam (∀(whole:Sem Value),isTrue e (Cx.env X) whole=do let v<-whole;standAt (Expr.pos e);holding [v] (truthy v)) L2.Jp._auto_1->S.PT X e (tB t):=by with_unfolding_all exact @L2.Jp
theorem Ab:∀ {X:Cx},S.PA X [] Akh:=by with_unfolding_all exact @L2.Ab
theorem Aa:∀ {X:Cx}{e:Expr}{es:List Expr}{te:TE}{t:TA},S.PE X e te->S.PA X es t->autoParam (Gk e=Bool.true) L2.Aa._auto_1->S.PA X (e::es) (Af5 te t):=by with_unfolding_all exact @L2.Aa
theorem Ay:∀ {X:Cx},S.PSs X [] Ajq:=by with_unfolding_all exact @L2.Ay
theorem Ae:∀ {X:Cx}{st:Stmt}{t:TS},S.PS X st t->S.PSs X [st] t:=by with_unfolding_all exact @L2.Ae
theorem Ac:∀ {X:Cx}{st:Stmt}{rest:List Stmt}{t u:TS},S.PS X st t->S.PSs X rest u->S.PSs X (st::rest) (Amo t u):=by with_unfolding_all exact @L2.Ac
theorem Aw:∀ {X:Cx}{pos:Pos}{i:Nat}{x:Str},List.Nodup (Cx.N X)->(Cx.N X)[i]? =Option.some x->Loc (Env.scope (Cx.env X)) x->∀(hf:autoParam (Cx.fn X x=Bool.true\/List.lookup x (Scope.names (Env.scope (Cx.env X)))=Option.some NameKind.local) L2.Aw._auto_1),S.PG X (Expr.Name x pos) (Ys i):=by with_unfolding_all exact @L2.Aw
theorem Gv:∀ {X:Cx},S.PGs X [] An6:=by with_unfolding_all exact @L2.Gv
theorem Bd:∀ {X:Cx}{e:Expr}{es:List Expr}{t:TG}{u:TGs},S.PG X e t->S.PGs X es u->autoParam (List.map (fun(x:Bool × (Value->Sem Unit)) ↦ Prod.snd x) (assignEach (e::es) (Cx.env X))=assign e (Cx.env X)::List.map (fun(x:Bool × (Value->Sem Unit)) ↦ Prod.snd x) (assignEach es (Cx.env X))) L2.Bd._auto_1->S.PGs X (e::es) (Afy t u):=by with_unfolding_all exact @L2.Bd
theorem Rf:∀ {X:Cx}{es:List Expr}{k:Nat}{pos:Pos}{t:TGs} (K:W.Frag) (n:Nat),Cx.K X=K->Cx.calm X=Bool.true->S.PGs X es t->autoParam (List.length (assignEach es (Cx.env X))=n) L2.Rf._auto_1->autoParam (List.findIdx? (fun(x:Bool × (Value->Sem Unit)) ↦ Prod.fst x) (assignEach es (Cx.env X))=Option.none) L2.Rf._auto_2->S.PG X (Expr.Tuple es k pos) (Ami K n t):=by with_unfolding_all exact @L2.Rf
theorem Jd:∀ {X:Cx}{pos:Pos}{es:List Expr}{k:Nat}{t:TGs}{n:Nat},Cx.calm X=Bool.true->S.PGs X es t->autoParam (List.length (assignEach es (Cx.env X))=n) L2.Jd._auto_1->autoParam (List.findIdx? (fun(x:Bool × (Value->Sem Unit)) ↦ Prod.fst x) (assignEach es (Cx.env X))=Option.none) L2.Jd._auto_2->S.PG X (Expr.Tuple es k pos) (Ami (Cx.K X) n t):=by with_unfolding_all exact @L2.Jd
theorem Ms:∀ {X:Cx}{pos:Pos}{o i:Expr}{to ti:TE}{t:Ak9},S.PE X o to->S.PE X i ti->Aoa X t->autoParam (∀(v:Value),assign (Expr.Subscript o i pos) (Cx.env X) v=do let ov<-holding [v] (eval o (Cx.env X));let iv<-holding [v,ov] (eval i (Cx.env X));standAt pos;holding [v,ov,iv] (setItem ov iv v);release [v,ov,iv] []) L2.Ms._auto_1->S.PG X (Expr.Subscript o i pos) (An0 to ti t):=by with_unfolding_all exact @L2.Ms
theorem Lj:∀ {X:Cx}{st:Stmt},S.PS X st Ahu:=by with_unfolding_all exact @L2.Lj
theorem Rh:∀ {X:Cx}{elt tg iter:Expr}{ifs:List Expr}{scope:Scope}{pos:Pos}{wi:TI}{g:TG}{tt:TT}{te:TE}{ts:List Str}{fs:List (Nat × Str)}{g':TG}{y:Str}{py spos:Pos},Cx.calm X=Bool.true->Dp X ts fs scope->S.PI X tg iter wi->(∀(ex:List Addr) (s:Shared) (H:Hp),S.PG (cxC X (cpN ts fs) scope ex s H) tg g)->(∀(ex:List Addr) (s:Shared) (H:Hp),S.PTs (cxC X (cpN ts fs) scope ex s H) ifs tt)->(∀(ex:List Addr) (s:Shared) (H:Hp),S.PE (cxC X (cpN ts fs) scope ex s H) elt te)->S.PG X (Expr.Name y py) g'->autoParam (swapsWith (Expr.ListComp elt [{ target:=tg,iter:=iter,ifs:=ifs,is_async:=(0:Int)}] scope pos) (Option.some (Expr.Name y py)) (Pos.line spos) (Cx.env X)=Pure.pure Bool.true) L2.Rh._auto_1->autoParam (∀(x:Value),foldedSetIterable iter (Cx.env X) x=Pure.pure x) L2.Rh._auto_2->S.PS X (Stmt.Assign [Expr.Name y py] (Expr.ListComp elt [{ target:=tg,iter:=iter,ifs:=ifs,is_async:=(0:Int)}] scope pos) spos) (Ai5 (Abo (List.length ts) fs wi g tt te) g'):=by with_unfolding_all exact @L2.Rh
theorem Ah:∀ {X:Cx}{pos:Pos}{i:Nat}{x:Str}{e:Expr}{te:TE}{pos':Pos},List.Nodup (Cx.N X)->(Cx.N X)[i]? =Option.some x->Loc (Env.scope (Cx.env X)) x->S.PE X e te->autoParam (swapsWith e (Option.some (Expr.Name x pos')) (Pos.line pos) (Cx.env X)=Pure.pure Bool.false) L2.Ah._auto_1->autoParam (Cx.fn X x=Bool.true\/List.lookup x (Scope.names (Env.scope (Cx.env X)))=Option.some NameKind.local) L2.Ah._auto_2->S.PS X (Stmt.Assign [Expr.Name x pos'] e pos) (Ai5 te (Ys i)):=by with_unfolding_all exact @L2.Ah
theorem Qi:∀ {X:Cx}{pos:Pos}{i j:Nat}{x y:Str}{a b:Expr}{ta:TA}{px py pt:Pos}{kt k2:Nat}{pt2:Pos},Cx.calm X=Bool.true->List.Nodup (Cx.N X)->(Cx.N X)[i]? =Option.some x->(Cx.N X)[j]? =Option.some y->i≠j->List.lookup x (Scope.names (Env.scope (Cx.env X)))=Option.some NameKind.local->List.lookup y (Scope.names (Env.scope (Cx.env X)))=Option.some NameKind.local->S.PA X [a,b] ta->swappedStores [Expr.Tuple [Expr.Name x px,Expr.Name y py] kt pt] (Expr.Tuple [a,b] k2 pt2) (Cx.env X)=Pure.pure (Option.some [x,y])->autoParam (swapsWithSole [Expr.Tuple [Expr.Name x px,Expr.Name y py] kt pt] (Expr.Tuple [a,b] k2 pt2) (Pos.line pos) (Cx.env X)=Pure.pure Bool.false) L2.Qi._auto_1->S.PS X (Stmt.Assign [Expr.Tuple [Expr.Name x px,Expr.Name y py] kt pt] (Expr.Tuple [a,b] k2 pt2) pos) (An7 i j ta):=by with_unfolding_all exact @L2.Qi
theorem Jq:∀ {X:Cx}{pos:Pos}{tg e:Expr}{te:TE}{g:TG},S.PE X e te->S.PG X tg g->autoParam (swapsWithSole [tg] e (Pos.line pos) (Cx.env X)=Pure.pure Bool.false) L2.Jq._auto_1->autoParam (swappedStores [tg] e (Cx.env X)=Pure.pure Option.none) L2.Jq._auto_2->autoParam (List.map (fun(x:Bool × (Value->Sem Unit)) ↦ Prod.snd x) (assignEach [tg] (Cx.env X))=[assign tg (Cx.env X)]) L2.Jq._auto_3->S.PS X (Stmt.Assign [tg] e pos) (Ai5 te g):=by with_unfolding_all exact @L2.Jq
theorem Ao:∀ {X:Cx}{e:Expr}{te:TE}{pos:Pos},S.PE X e te->S.PS X (Stmt.Return (Option.some e) pos) (Amv te):=by with_unfolding_all exact @L2.Ao
theorem Du:∀ {X:Cx}{t u:TS}{pos:Pos}{c:Expr}{a b:List Stmt}{tc:TT},S.PT X c tc->S.PSs X a t->S.PSs X b u->S.PS X (Stmt.If c a b pos) (An1 tc t u):=by with_unfolding_all exact @L2.Du
theorem Hi:∀ {P:Program}{w:World}{K:W.Frag}{mg:Str->Option Value}{base:Heap}{N:List Str}{qual:Str}{scope:Scope}{f:Addr}{cd:Value}{A:Around}{outer:List Env}{s0:Shared}{H0:Hp}{E:XK}{C:Addr}{x:Str}{np cpos pos:Pos}{e:Expr}{es:List Expr}{t:TA},Wz K C->mg x=Option.some (Value.ref C)->S.PA (Tf (CXE P w) P w K mg base N qual scope f cd A outer s0 H0 E) (e::es) t->autoParam (Gl (Tf (CXE P w) P w K mg base N qual scope f cd A outer s0 H0 E) x) L2.Hi._auto_1->autoParam ((x==("__debug__":Str))=Bool.false) L2.Hi._auto_2->autoParam (starEach (e::es) (PyProof.Rows.envOfC qual scope (Array.size (Heap.objs (Shared.heap s0))) f cd)=(Bool.false,eval e (PyProof.Rows.envOfC qual scope (Array.size (Heap.objs (Shared.heap s0))) f cd))::starEach es (PyProof.Rows.envOfC qual scope (Array.size (Heap.objs (Shared.heap s0))) f cd)) L2.Hi._auto_3->autoParam ((List.any (backTo cpos (starEach es (PyProof.Rows.envOfC qual scope (Array.size (Heap.objs (Shared.heap s0))) f cd))) fun(x:Bool × Sem Value) ↦ Prod.fst x)=Bool.false) L2.Hi._auto_4->S.PS (Tf (CXE P w) P w K mg base N qual scope f cd A outer s0 H0 E) (Stmt.Raise (Option.some (Expr.Call (Expr.Name x np) (e::es) [] cpos)) Option.none pos) (Adk C E t):=by with_unfolding_all exact @L2.Hi
theorem Ma:∀ {X:Cx}{C:Addr}{cx f:Str}{np p cpos pos hpos:Pos}{b0 st:Stmt}{suite:List Stmt}{k:Nat}{ts:Addr->Obj->TS}{ps:List Str}{sp:Sp}{a:Expr}{as:List Expr}{ta:TA}{g:V->St->St},Oz (Cx.prog X) (Cx.w X) (Cx.K X) (Cx.mg X) (Cx.base X) k f ps sp->Mg k (Cx.A X)->S.PA (Cx.nox X) (a::as) ta->Vb X st (Expr.Call (Expr.Name f p) (a::as) [] cpos) g->Wz (Cx.K X) C->Cx.mg X cx=Option.some (Value.ref C)->(∀(x:Addr) (oe:Obj),Obj.cls oe=Value.ref C->S.PSs (Cx.caught X x oe) (b0::suite) (ts x oe))->autoParam (Cx.stack X=Cx.env X::Cx.outer X) L2.Ma._auto_1->autoParam (Env.frame (Cx.env X)=Option.some (Env.locals (Cx.env X))) L2.Ma._auto_2->autoParam (Gl X cx) L2.Ma._auto_3->autoParam ((cx==("__debug__":Str))=Bool.false) L2.Ma._auto_4->autoParam (Gl X f) L2.Ma._auto_5->autoParam ((f==("__debug__":Str))=Bool.false) L2.Ma._auto_6->autoParam (starEach (a::as) (Cx.env X)=(Bool.false,eval a (Cx.env X))::starEach as (Cx.env X)) L2.Ma._auto_7->autoParam ((List.any (backTo cpos (starEach as (Cx.env X))) fun(x:Bool × Sem Value) ↦ Prod.fst x)=Bool.false) L2.Ma._auto_8->S.PS X (Stmt.Try [st] [ExceptHandler.ExceptHandler (Option.some (Expr.Name cx np)) Option.none (b0::suite) hpos] [] [] pos) (Anb sp C g ta ts):=by with_unfolding_all exact @L2.Ma
theorem Gm:∀ {X:Cx}{C:Addr}{cx n f:Str}{np p cpos pos hpos:Pos}{b0 st:Stmt}{suite:List Stmt}{i k:Nat}{ts:Addr->Obj->TS}{ps:List Str}{sp:Sp}{a:Expr}{as:List Expr}{ta:TA}{g:V->St->St},Oz (Cx.prog X) (Cx.w X) (Cx.K X) (Cx.mg X) (Cx.base X) k f ps sp->Mg k (Cx.A X)->S.PA (Cx.nox X) (a::as) ta->Vb X st (Expr.Call (Expr.Name f p) (a::as) [] cpos) g->Wz (Cx.K X) C->Cx.mg X cx=Option.some (Value.ref C)->(∀(x:Addr) (oe:Obj),Obj.cls oe=Value.ref C->S.PSs (Cx.caught X x oe) (b0::suite) (ts x oe))->List.Nodup (Cx.N X)->(Cx.N X)[i]? =Option.some n->autoParam (Cx.stack X=Cx.env X::Cx.outer X) L2.Gm._auto_1->autoParam (Env.frame (Cx.env X)=Option.some (Env.locals (Cx.env X))) L2.Gm._auto_2->autoParam (Gl X cx) L2.Gm._auto_3->autoParam ((cx==("__debug__":Str))=Bool.false) L2.Gm._auto_4->autoParam (Gl X f) L2.Gm._auto_5->autoParam ((f==("__debug__":Str))=Bool.false) L2.Gm._auto_6->autoParam (starEach (a::as) (Cx.env X)=(Bool.false,eval a (Cx.env X))::starEach as (Cx.env X)) L2.Gm._auto_7->autoParam ((List.any (backTo cpos (starEach as (Cx.env X))) fun(x:Bool × Sem Value) ↦ Prod.fst x)=Bool.false) L2.Gm._auto_8->autoParam (Env.kindOf (Cx.env X) n=Option.some NameKind.local) L2.Gm._auto_9->autoParam (Loc (Env.scope (Cx.env X)) n) L2.Gm._auto_10->autoParam (List.lookup n (Scope.names (Env.scope (Cx.env X)))=Option.some NameKind.local) L2.Gm._auto_11->S.PS X (Stmt.Try [st] [ExceptHandler.ExceptHandler (Option.some (Expr.Name cx np)) (Option.some n) (b0::suite) hpos] [] [] pos) (Acw sp C g i ta ts):=by with_unfolding_all exact @L2.Gm
theorem K7:∀ {X:Cx}{e:Expr}{pos:Pos},autoParam (swapsWith e Option.none (Pos.line pos) (Cx.env X)=Pure.pure Bool.false) L2.K7._auto_1->Vb X (Stmt.Expr e pos) e fun(x:V) (σ:St) ↦ σ:=by with_unfolding_all exact @L2.K7
theorem Aac:∀ {X:Cx}{st:Stmt}{t:TS},S.PS (Cx.nox X) st t->S.PS X st t:=by with_unfolding_all exact @L2.PS.nox
theorem Hh:∀ {X:Cx}{pos:Pos}{c:Expr}{body:List Stmt}{tc:TT}{tb:TS},PassesOwn (model (Cx.prog X) (Cx.w X)) (Cx.A X) (Cx.env X) (Cx.xe X)->S.PT X c tc->S.PSs X body tb->S.PS X (Stmt.While c body [] pos) (W3 tc tb):=by with_unfolding_all exact @L2.Hh
theorem Gq:∀ {X:Cx}{tg iter:Expr}{body:List Stmt}{wi:TI}{g:TG}{tb:TS}{pos:Pos},PassesOwn (model (Cx.prog X) (Cx.w X)) (Cx.A X) (Cx.env X) (Cx.xe X)->Cx.calm X=Bool.true->S.PI X tg iter wi->S.PG X tg g->S.PSs X body tb->autoParam (∀(x:Value),foldedSetIterable iter (Cx.env X) x=Pure.pure x) L2.Gq._auto_1->S.PS X (Stmt.For tg iter body [] pos) (Ana wi g tb):=by with_unfolding_all exact @L2.Gq
theorem Kz:∀ {X:Cx}{e:Expr}{te:TE}{pos:Pos},S.PE X e te->autoParam (swapsWith e Option.none (Pos.line pos) (Cx.env X)=Pure.pure Bool.false) L2.Kz._auto_1->S.PS X (Stmt.Expr e pos) (Aiz te):=by with_unfolding_all exact @L2.Kz
theorem Bb {X:Cx}{b:List Stmt}{φ:TS->Prop} (h:∃t,PSs X b t/\φ t):∃t,L2.PSs X b t/\φ t:=by
  obtain⟨t,h1,h2⟩:=h
  exact⟨t,out h1,h2⟩
end L2.S
namespace Z
def co (p:List Int) (i:Nat):Int:=p.getD i 0
theorem Az (i:Nat):co [] i=0:=by simp [co]
theorem Cd (a:Int) (r:List Int):co (a::r) 0=a:=by simp [co]
theorem Ce (a:Int) (r:List Int) (i:Nat):co (a::r) (i+1)=co r i:=by simp [co]
theorem Bm {p:List Int}{i:Nat} (h:p.length<=i):co p i=0:=by simp [co,List.getD_eq_getElem?_getD,List.getElem?_eq_none h]
theorem Eb {p:List Int}{i:Nat} (h:i<p.length):co p i=p[i]:=by simp [co,List.getD_eq_getElem?_getD,List.getElem?_eq_getElem h]
def Tr (p:List Int):Prop:=p=[]\/∃h:p≠ [],p.getLast h≠0
theorem Tr.lead {p:List Int} (h:Tr p) (n:p≠ []):co p (p.length-1)≠0:=by
  rcases h with h | ⟨h,z⟩
  . exact absurd h n
  . have hl:0<p.length:=List.length_pos_iff.mpr h
    rw [Eb (by omega)]
    rw [List.getLast_eq_getElem]at z
    exact z
theorem Tr.of {p:List Int} (h:p=[]\/co p (p.length-1)≠0):Tr p:=by
  by_cases n:p=[]
  . exact .inl n
  . rcases h with h | h
    . exact .inl h
    . refine .inr ⟨n,?_⟩
      have hl:0<p.length:=List.length_pos_iff.mpr n
      rw [Eb (by omega)]at h
      rw [List.getLast_eq_getElem]
      exact h
theorem Tr.len {p q:List Int} (hp:Tr p) (e:∀i,co p i=co q i):p.length<=q.length:=by
  by_cases n:p=[]
  . subst n;simp
  . by_cases h:p.length<=q.length
    . exact h
    . exfalso
      have z:=hp.lead n
      rw [e,Bm (by omega)]at z
      exact z rfl
theorem Tr.ext {p q:List Int} (hp:Tr p) (hq:Tr q) (e:∀i,co p i=co q i):p=q:=by
  have l:=Nat.le_antisymm (hp.len e) (hq.len fun i=>(e i).symm)
  refine List.ext_getElem l fun i h1 h2=> ?_
  rw [<-Eb h1,<-Eb h2,e]
def trim:List Int->List Int
  | []=>[]
  | a::r=>match trim r with
    | []=>if a=0 then []else [a]
    | b::t=>a::b::t
theorem Xa (a:Int) (r:List Int):trim (a::r)=if trim r=[]/\a=0 then []else a::trim r:=by
  rw [trim]
  split
  . rename_i h
    rw [h]
    by_cases ha:a=0<;>simp [ha]
  . rename_i b t h
    rw [h]
    simp
theorem Ak:∀(p:List Int) (i:Nat),co (trim p) i=co p i
  | [],i=>rfl
  | a::r,i=>by
    rw [Xa]
    split
    . rename_i h
      rw [Az]
      cases i with
      | zero=>rw [Cd,h.2]
      | succ i=>rw [Ce,<-Ak r i,h.1,Az]
    . cases i with
      | zero=>rw [Cd,Cd]
      | succ i=>rw [Ce,Ce,Ak r i]
theorem Av:∀p:List Int,Tr (trim p)
  | []=> .inl rfl
  | a::r=>by
    rw [Xa]
    split
    . exact .inl rfl
    . rename_i h
      refine .inr ⟨by simp,?_⟩
      by_cases hr:trim r=[]
      . simp only [hr,List.getLast_singleton]
        exact fun z=>h ⟨hr,z⟩
      . rw [List.getLast_cons hr]
        rcases Av r with z | ⟨_,z⟩
        . exact absurd z hr
        . exact z
theorem Vn {p q:List Int} (hq:Tr q) (e:∀i,co q i=co p i):trim p=q:=(Av p).ext hq fun i=>by rw [Ak,e]
theorem Zu {p:List Int} (h:Tr p):trim p=p:=Vn h fun _=>rfl
theorem Ks (p:List Int) (n i:Nat):co (p.take n) i=if i<n then co p i else 0:=by
  unfold co
  rw [List.getD_eq_getElem?_getD,List.getD_eq_getElem?_getD,List.getElem?_take]
  split<;>rfl
theorem Ad8 {p:List Int}{n:Nat} (h1:∀i,n<=i->co p i=0) (h2:n=0\/co p (n-1)≠0):trim p=p.take n:=by
  refine Vn ?_ fun i=> ?_
  . rcases h2 with h | h
    . subst h;exact .inl (by simp)
    . have hn:n<=p.length:=by
        by_cases z:n<=p.length
        . exact z
        . exact absurd (Bm (by omega)) h
      refine .of ?_
      by_cases n0:n=0
      . left;subst n0;simp
      . right
        rw [List.length_take,Nat.min_eq_left hn,Ks,if_pos (by omega)]
        exact h
  . rw [Ks]
    split
    . rfl
    . rw [h1 i (by omega)]
def sh (f:Nat->Int):Nat->Int
  | 0=>0
  | i+1=>f i
def mu:List Int->(Nat->Int)->Nat->Int
  | [],_=>fun _=>0
  | a::p,f=>fun i=>a*f i+sh (mu p f) i
theorem Ag6 (f g:Nat->Int):sh (fun i=>f i+g i)=fun i=>sh f i+sh g i:=by funext i;cases i<;>simp [sh]
theorem Aic (c:Int) (f:Nat->Int):sh (fun i=>c*f i)=fun i=>c*sh f i:=by funext i;cases i<;>simp [sh]
theorem Rq:sh (fun _=>0)=fun _=>0:=by funext i;cases i<;>rfl
theorem Qk:∀(p:List Int) (f g:Nat->Int),mu p (fun i=>f i+g i)=fun i=>mu p f i+mu p g i
  | [],f,g=>by funext i;simp [mu]
  | a::p,f,g=>by
    funext i
    simp only [mu]
    rw [Qk p f g,Ag6]
    grind
theorem Km:∀(p:List Int) (c:Int) (f:Nat->Int),mu p (fun i=>c*f i)=fun i=>c*mu p f i
  | [],c,f=>by funext i;simp [mu]
  | a::p,c,f=>by
    funext i
    simp only [mu]
    rw [Km p c f,Aic]
    grind
theorem Tp:∀(p:List Int),mu p (fun _=>0)=fun _=>0
  | []=>rfl
  | a::p=>by
    funext i
    simp only [mu]
    rw [Tp p,Rq]
    simp
theorem Ak2:∀(p:List Int) (f:Nat->Int),mu p (sh f)=sh (mu p f)
  | [],f=>by funext i;cases i<;>rfl
  | a::p,f=>by
    funext i
    simp only [mu]
    rw [Ak2 p f]
    cases i with
    | zero=>simp [sh]
    | succ i=>simp [sh]
theorem Ag3 (a:Int) (r:List Int):co (a::r)=fun i=>(if i=0 then a else 0)+sh (co r) i:=by
  funext i
  cases i with
  | zero=>simp [Cd,sh]
  | succ i=>simp [Ce,sh]
theorem Aao:∀(p:List Int),mu p (fun i=>if i=0 then 1 else 0)=co p
  | []=>by funext i;simp [mu,co]
  | a::p=>by
    funext i
    simp only [mu]
    rw [Aao p,Ag3]
    cases i<;>simp
theorem Ab1 (q:List Int) (a:Int) (p:List Int):mu q (co (a::p))=fun i=>a*co q i+sh (mu q (co p)) i:=by
  rw [Ag3,Qk,Ak2]
  funext i
  congr 1
  have e:(fun i:Nat=>if i=0 then a else 0)=fun i=>a*(if i=0 then 1 else 0):=by funext i;cases i<;>simp
  rw [e,Km,Aao]
theorem J8:∀p q:List Int,mu p (co q)=mu q (co p)
  | [],q=>by
    have e:co []=fun _=>0:=by funext i;simp [co]
    rw [e,Tp];rfl
  | a::p,q=>by rw [Ab1,<-J8 p q];rfl
theorem Ut (f:Nat->Int):∀(r:List Int),(∀i,co r i=0)->mu r f=fun _=>0
  | [],_=>rfl
  | a::r,h0=>by
    have ha:a=0:=by have:=h0 0;rwa [Cd]at this
    funext i
    simp only [mu]
    rw [Ut f r fun i=>by have:=h0 (i+1);rwa [Ce]at this,Rq,ha]
    simp
theorem Ax (f:Nat->Int):∀(r s:List Int),(∀i,co r i=co s i)->mu r f=mu s f
  | [],s,h0=>(Ut f s fun i=>by rw [<-h0,Az]).symm
  | a::r,[],h0=>Ut f (a::r) fun i=>by rw [h0,Az]
  | a::r,b::s,h0=>by
    have e0:a=b:=by have:=h0 0;rwa [Cd,Cd]at this
    subst e0
    funext i
    simp only [mu]
    rw [Ax f r s fun i=>by have:=h0 (i+1);rwa [Ce,Ce]at this]
def al:List Int->List Int->List Int
  | [],q=>q
  | p,[]=>p
  | a::p,b::q=>(a+b)::al p q
theorem R9:∀(p q:List Int) (i:Nat),co (al p q) i=co p i+co q i
  | [],q,i=>by simp [al,co]
  | a::p,[],i=>by simp [al,co]
  | a::p,b::q,0=>by simp [al,Cd]
  | a::p,b::q,i+1=>by simp [al,Ce,R9 p q i]
theorem Sh (f:Nat->Int):∀(p q:List Int),mu (al p q) f=fun i=>mu p f i+mu q f i
  | [],q=>by funext i;simp [al,mu]
  | a::p,[]=>by funext i;simp [al,mu]
  | a::p,b::q=>by
    funext i
    simp only [al,mu]
    rw [Sh f p q,Ag6]
    grind
theorem Ds (a:Int) (q:List Int) (i:Nat):co (q.map (a* ·)) i=a*co q i:=by
  unfold co
  rw [List.getD_eq_getElem?_getD,List.getD_eq_getElem?_getD,List.getElem?_map]
  cases q[i]? <;>simp
theorem Gx (f:Nat->Int) (a:Int):∀q:List Int,mu (q.map (a* ·)) f=fun i=>a*mu q f i
  | []=>by funext i;simp [mu]
  | b::q=>by
    funext i
    simp only [List.map_cons,mu]
    rw [Gx f a q,Aic]
    grind
def ml:List Int->List Int->List Int
  | [],_=>[]
  | a::p,q=>al (q.map (a* ·)) (0::ml p q)
theorem Pq:∀(p q:List Int),co (ml p q)=mu p (co q)
  | [],q=>by funext i;simp [ml,mu,co]
  | a::p,q=>by
    funext i
    simp only [ml,mu]
    rw [R9,Ds,<-Pq p q]
    cases i with
    | zero=>simp [Cd,sh]
    | succ i=>simp [Ce,sh]
theorem Ml (f:Nat->Int):∀(p q:List Int),mu (ml p q) f=mu p (mu q f)
  | [],q=>rfl
  | a::p,q=>by
    funext i
    simp only [ml]
    rw [Sh,Gx]
    simp only [mu]
    rw [Ml f p q]
    simp
theorem Agy {p q r:List Int} (f:Nat->Int) (h:∀i,co r i=mu p (co q) i):mu r f=mu p (mu q f):=by
  rw [<-Ml]
  exact Ax f r _ fun i=>by rw [h,Pq]
theorem J6:∀(p:List Int) (e:Int) (i:Nat),co (p++ [e]) i=if i=p.length then e else co p i
  | [],e,0=>by simp [co]
  | [],e,i+1=>by simp [co]
  | a::p,e,0=>by simp [Cd]
  | a::p,e,i+1=>by
    rw [List.cons_append,Ce,Ce,J6 p e i,List.length_cons]
    by_cases h:i=p.length<;>simp [h]
theorem Ru (p:List Int) (j:Nat) (x:Int) (h:j<p.length) (i:Nat):co (p.set j x) i=if i=j then x else co p i:=by
  unfold co
  rw [List.getD_eq_getElem?_getD,List.getD_eq_getElem?_getD,List.getElem?_set]
  by_cases e:j=i
  . subst e
    simp [h]
  . rw [if_neg e,if_neg (Ne.symm e)]
theorem Rp {p q:List Int} (h:∀i,co p i=co q i):trim p=trim q:=Vn (Av q) fun i=>by rw [Ak,h]
theorem Nb (f:Nat->Int):∀(p:List Int) (e:Int) (i:Nat),mu (p++ [e]) f i=mu p f i+(if p.length<=i then e*f (i-p.length)else 0)
  | [],e,i=>by simp [mu,Rq]
  | a::p,e,0=>by simp [mu,sh]
  | a::p,e,i+1=>by
    simp only [List.cons_append,mu,sh,List.length_cons]
    rw [Nb f p e i]
    by_cases h:p.length<=i
    . rw [if_pos h,if_pos (by omega),show i+1-(p.length+1)=i-p.length by omega]
      omega
    . rw [if_neg h,if_neg (by omega)]
      omega
theorem Aar:∀(p q:List Int) (i:Nat),p≠ []->p.length+q.length<=i+1->mu p (co q) i=0
  | [],q,i,h,_=>absurd rfl h
  | [a],q,i,_,hl=>by
    simp only [List.length_cons,List.length_nil]at hl
    simp only [mu]
    rw [Bm (by omega),Rq]
    simp
  | a::b::p,q,0,_,hl=>by
    simp only [List.length_cons]at hl
    omega
  | a::b::p,q,i+1,_,hl=>by
    simp only [List.length_cons]at hl
    show a*co q (i+1)+mu (b::p) (co q) i=0
    rw [Bm (p:=q) (by omega)]
    rw [Aar (b::p) q i (by simp) (by simp only [List.length_cons];omega)]
    simp
theorem Ld:∀(p q:List Int) (i:Nat),p≠ []->q≠ []->i+2=p.length+q.length->mu p (co q) i=co p (p.length-1)*co q (q.length-1)
  | [],q,i,h,_,_=>absurd rfl h
  | [a],q,i,_,hq,hl=>by
    simp only [List.length_cons,List.length_nil]at hl
    simp only [mu]
    rw [Rq]
    have e:i=q.length-1:=by omega
    subst e
    simp [Cd]
  | a::b::p,q,0,_,hq,hl=>by
    have:=List.length_pos_iff.mpr hq
    simp only [List.length_cons]at hl
    omega
  | a::b::p,q,i+1,_,hq,hl=>by
    simp only [List.length_cons]at hl
    show a*co q (i+1)+mu (b::p) (co q) i=_
    rw [Bm (p:=q) (by omega)]
    rw [Ld (b::p) q i (by simp) hq (by simp only [List.length_cons];omega)]
    simp [Ce]
def tm (p q:List Int):List Int:=trim (ml p q)
def ta (p q:List Int):List Int:=trim (al p q)
theorem Ci (p q:List Int) (i:Nat):co (tm p q) i=mu p (co q) i:=by rw [tm,Ak,Pq]
theorem Ph (p q:List Int) (i:Nat):co (ta p q) i=co p i+co q i:=by rw [ta,Ak,R9]
theorem Gy (p q:List Int):Tr (tm p q):=Av _
theorem U5 (p q:List Int):Tr (ta p q):=Av _
theorem Gd (p q:List Int):tm p q=tm q p:=(Gy _ _).ext (Gy _ _) fun i=>by rw [Ci,Ci,J8]
theorem Aj8 (p q:List Int):ta p q=ta q p:=(U5 _ _).ext (U5 _ _) fun i=>by rw [Ph,Ph,Int.add_comm]
theorem Dr (p q r:List Int):tm (tm p q) r=tm p (tm q r):=(Gy _ _).ext (Gy _ _) fun i=>by
  rw [Ci,Ci,Agy (co r) (fun j=>Ci p q j)]
  exact congrFun (congrArg (mu p) (funext fun j=>(Ci q r j).symm)) i
theorem Am3 (p q r:List Int):tm p (ta q r)=ta (tm p q) (tm p r):=(Gy _ _).ext (U5 _ _) fun i=>by
  rw [Ci,Ph,Ci,Ci,show co (ta q r)=fun j=>co q j+co r j from funext fun j=>Ph q r j,Qk]
theorem Ahk {p:List Int} (h:Tr p):tm p [1]=p:=(Gy _ _).ext h fun i=>by
  rw [Ci,show co [1]=fun i=>if i=0 then 1 else 0 from by funext i;cases i<;>simp [co],Aao]
theorem Ob (p:List Int):tm p []=[]:=(Gy _ _).ext (.inl rfl) fun i=>by
  rw [Ci,show co []=fun _=>0 from by funext i;simp [co],Tp]
def pw (p:List Int):Nat->List Int
  | 0=>[1]
  | k+1=>tm p (pw p k)
theorem Aaz (p:List Int):∀k,Tr (pw p k)
  | 0=> .inr ⟨by simp [pw],by simp [pw]⟩
  | k+1=>Gy _ _
theorem Ah0 (p:List Int):∀a b,tm (pw p a) (pw p b)=pw p (a+b)
  | 0,b=>by rw [pw,Gd,Ahk (Aaz p b),Nat.zero_add]
  | a+1,b=>by rw [pw,Dr,Ah0 p a b,show a+1+b=(a+b)+1 by omega,pw]
theorem Al9 {p:List Int} (h:Tr p):pw p 1=p:=by rw [pw,pw,Ahk h]
def ng (p:List Int) (c:Int):List Int:=trim (p.map (· *c))
theorem Ue (p:List Int) (c:Int) (i:Nat):co (ng p c) i=co p i*c:=by
  rw [ng,Ak]
  unfold co
  rw [List.getD_eq_getElem?_getD,List.getD_eq_getElem?_getD,List.getElem?_map]
  cases p[i]? <;>simp
theorem Oh {p q:List Int} (hp:Tr p) (hq:Tr q) (h1:p≠ []) (h2:q≠ []):(tm p q).length+1=p.length+q.length:=by
  have l1:=List.length_pos_iff.mpr h1
  have l2:=List.length_pos_iff.mpr h2
  have lead:co (tm p q) (p.length+q.length-2)≠0:=by
    rw [Ci,Ld p q _ h1 h2 (by omega)]
    exact Int.mul_ne_zero (hp.lead h1) (hq.lead h2)
  have a:p.length+q.length-2<(tm p q).length:=by
    by_cases h:p.length+q.length-2<(tm p q).length
    . exact h
    . exact absurd (Bm (by omega)) lead
  have b:(tm p q).length<=p.length+q.length-1:=by
    by_cases h:(tm p q).length<=p.length+q.length-1
    . exact h
    . exfalso
      have hn:tm p q≠ []:=fun z=>by rw [z]at h;simp at h
      have:=(Gy p q).lead hn
      rw [Ci,Aar p q _ h1 (by omega)]at this
      exact this rfl
  omega
theorem Ahh (p q:List Int):(ta p q).length<=max p.length q.length:=by
  by_cases hn:ta p q=[]
  . rw [hn];simp
  by_cases h:(ta p q).length<=max p.length q.length
  . exact h
  . exfalso
    have:=(U5 p q).lead hn
    rw [Ph,Bm (by omega),Bm (by omega)]at this
    exact this rfl
end Z
namespace Z
def gl:List Int->Nat
  | []=>0
  | a::r=>Int.gcd a (gl r)
theorem Aez:∀(L:List Int) (x:Int),x∈L->((gl L:Nat):Int)∣x
  | a::r,x,h=>by
    rcases List.mem_cons.mp h with rfl | h
    . exact Int.gcd_dvd_left ..
    . exact Int.dvd_trans (Int.gcd_dvd_right ..) (Aez r x h)
theorem Adh (e m:Int):∀L:List Int,(∀x∈L,e∣m*x)->e∣m*(gl L:Nat)
  | [],_=>by simp [gl]
  | a::r,h=>by
    have h1:=h a (by simp)
    have h2:=Adh e m r fun x hx=>h x (by simp [hx])
    have h3:=Int.dvd_coe_gcd h1 h2
    rw [Int.gcd_mul_left,Int.natCast_mul]at h3
    rw [gl]
    rcases Int.natAbs_eq m with z | z
    . rw [z];exact h3
    . rw [z,Int.neg_mul];exact Int.dvd_neg.mpr h3
def Cop (s:Int) (a b:List Int):Prop:=∀e:Int,e∣s->(∀k,e∣co a k)->(∀k,e∣co b k)->e∣1
theorem Cop.gl {s:Int}{a b:List Int} (h:Cop s a b):Z.gl (s::(a++b))=1:=by
  have mem:=Aez (s::(a++b))
  have cd:∀(L:List Int),(∀x∈L,x∈s::(a++b))->∀k,((Z.gl (s::(a++b)):Nat):Int)∣co L k:=fun L hL k=>by
    by_cases hk:k<L.length
    . rw [Eb hk];exact mem _ (hL _ (List.getElem_mem hk))
    . rw [Bm (by omega)];exact Int.dvd_zero _
  have:=h _ (mem s (by simp)) (cd a fun x hx=>by simp [hx]) (cd b fun x hx=>by simp [hx])
  have h1:=Int.le_of_dvd (by decide) this
  rcases Nat.eq_zero_or_pos (Z.gl (s::(a++b)))with z | z
  . rw [z]at this
    have:=Int.zero_dvd.mp this
    omega
  . omega
theorem Ai2 {s m e:Int}{a b:List Int} (h:Cop s a b) (h1:e∣m*s) (h2:∀k,e∣m*co a k) (h3:∀k,e∣m*co b k):e∣m:=by
  have:=Adh e m (s::(a++b)) fun x hx=>by
    have inl:∀(L:List Int),(∀k,e∣m*co L k)->x∈L->e∣m*x:=fun L hL hm=>by
      obtain⟨i,hi,ei⟩:=List.getElem_of_mem hm
      have:=hL i
      rw [Eb hi,ei]at this
      exact this
    rcases List.mem_cons.mp hx with rfl | hx
    . exact h1
    . rcases List.mem_append.mp hx with hx | hx
      . exact inl a h2 hx
      . exact inl b h3 hx
  rw [h.gl]at this
  simpa using this
theorem Adg {l:Int} (h:l≠0):l.sign*l=(l.natAbs:Int):=by
  rcases Int.lt_or_gt_of_ne h with h | h
  . rw [Int.sign_eq_neg_one_of_neg h];omega
  . rw [Int.sign_eq_one_of_pos h];omega
theorem Anz (r l:Int) (hl:l≠0):∃m f:Int,((l.natAbs:Nat):Int).fdiv ((Int.gcd r l:Nat):Int)=m/\(r*m).fdiv l=f/\1<=m/\r*m=f*l/\(∀e,e∣m->e∣f->e∣1)/\m.natAbs<=l.natAbs/\f.natAbs<=r.natAbs:=by
  have g0:0<Int.gcd r l:=Int.gcd_pos_of_ne_zero_right r hl
  obtain⟨r',er⟩:((Int.gcd r l:Nat):Int)∣r:=Int.gcd_dvd_left ..
  obtain⟨l',el⟩:((Int.gcd r l:Nat):Int)∣l:=Int.gcd_dvd_right ..
  have cop:Int.gcd r' l'=1:=by
    have h:Int.gcd r l=Int.gcd r l*Int.gcd r' l':=by
      have:=Int.gcd_mul_left ((Int.gcd r l:Nat):Int) r' l'
      rw [<-er,<-el,Int.natAbs_natCast]at this
      exact this
    have:Int.gcd r l*1=Int.gcd r l*Int.gcd r' l':=by rw [Nat.mul_one];exact h
    exact(Nat.eq_of_mul_eq_mul_left g0 this).symm
  generalize Int.gcd r l=g at*
  have hl':l'≠0:=fun z=>hl (by rw [el,z,Int.mul_zero])
  have em:((l.natAbs:Nat):Int).fdiv (g:Int)=(l'.natAbs:Nat):=by
    rw [el,Int.natAbs_mul,Int.natAbs_natCast,Int.natCast_mul,Int.mul_fdiv_cancel_left _ (by omega)]
  refine⟨(l'.natAbs:Nat),r'*l'.sign,em,?_,by omega,?_,?_,?_,?_⟩
  . have:r*(l'.natAbs:Nat)=(r'*l'.sign)*l:=by
      rw [el]
      have h:=Int.sign_mul_natAbs l'
      have h2:l'.sign*l'=(l'.natAbs:Int):=Adg hl'
      rw [er,<-h2]
      grind
    rw [this,Int.mul_fdiv_cancel _ hl]
  . have h2:l'.sign*l'=(l'.natAbs:Int):=Adg hl'
    rw [er,el,<-h2]
    grind
  . intro e h1 h2
    have a1:e∣l':=by
      rcases Int.natAbs_eq l' with z | z
      . rw [z];exact h1
      . rw [z];exact Int.dvd_neg.mpr h1
    have a2:e∣r':=by
      have:e∣r'*l'.sign*l'.sign:=Int.dvd_trans h2 (Int.dvd_mul_right _ _)
      rw [Int.mul_assoc,show l'.sign*l'.sign=1 by
        rcases Int.lt_or_gt_of_ne hl' with h | h
        . rw [Int.sign_eq_neg_one_of_neg h];rfl
        . rw [Int.sign_eq_one_of_pos h];rfl,Int.mul_one]at this
      exact this
    have:=Int.dvd_coe_gcd a2 a1
    rw [cop]at this
    exact this
  . rw [Int.natAbs_natCast,el,Int.natAbs_mul,Int.natAbs_natCast]
    exact Nat.le_mul_of_pos_left _ g0
  . rw [er,Int.natAbs_mul,Int.natAbs_mul,Int.natAbs_natCast]
    have:l'.sign.natAbs=1:=by
      rcases Int.lt_or_gt_of_ne hl' with h | h
      . rw [Int.sign_eq_neg_one_of_neg h];rfl
      . rw [Int.sign_eq_one_of_pos h];rfl
    rw [this,Nat.mul_one]
    exact Nat.le_mul_of_pos_left _ g0
structure DV (p q:List Int) (s:Int) (qs rs:List Int) (j:Nat):Prop where
  pos:1<=s
  eq:∀k,s*co p k=mu qs (co q) k+co rs k
  top:∀k,j+q.length<=k+1->co rs k=0
  low:∀k,k<j->co qs k=0
  cop:Cop s qs rs
theorem Vf (f:Nat->Int) (n:Nat):∀i,mu (List.replicate n 0) f i=0:=fun i=>by
  rw [Ut f _ fun i=>by unfold co;rw [List.getD_eq_getElem?_getD,List.getElem?_replicate];split<;>rfl]
theorem DV.start (p q:List Int) (hq:q≠ []):DV p q 1 (List.replicate (p.length+1-q.length) 0) p (p.length+1-q.length):=by
  have hl:0<q.length:=List.length_pos_iff.mpr hq
  refine⟨Int.le_refl _,fun k=>by rw [Vf,Int.one_mul,Int.zero_add],fun k h=>Bm (by omega),fun k h=> ?_,fun e h _ _=>h⟩
  unfold co
  rw [List.getD_eq_getElem?_getD,List.getElem?_replicate]
  split<;>rfl
theorem Vu (m:Int) (L:List Int) (k:Nat):co (L.map (· *m)) k=co L k*m:=by
  unfold co
  rw [List.getD_eq_getElem?_getD,List.getD_eq_getElem?_getD,List.getElem?_map]
  cases L[k]? <;>simp
theorem DV.step {p q:List Int}{s:Int}{qs rs:List Int}{j:Nat} (h:DV p q s qs rs (j+1)) (hq:q≠ []) {m f:Int} (m1:1<=m) (hj:j<qs.length) (ef:co rs (j+(q.length-1))*m=f*co q (q.length-1)) (cp:∀e,e∣m->e∣f->e∣1)
    {rs':List Int} (hr:∀k,co rs' k=co rs k*m-(if j<=k then f*co q (k-j)else 0)):DV p q (s*m) ((qs.map (· *m)).set j f) rs' j:=by
  have hl:0<q.length:=List.length_pos_iff.mpr hq
  have cq:∀k,co ((qs.map (· *m)).set j f) k=if k=j then f else co qs k*m:=fun k=>by
    rw [Ru _ _ _ (by rw [List.length_map];exact hj),Vu]
  have sp:∀k,co ((qs.map (· *m)).set j f) k=co (al (qs.map (· *m)) (List.replicate j 0++ [f])) k:=fun k=>by
    rw [cq,R9,Vu,J6,List.length_replicate]
    by_cases hk:k=j
    . rw [if_pos hk,if_pos hk,hk,h.low j (by omega)];simp
    . rw [if_neg hk,if_neg hk]
      have:co (List.replicate j (0:Int)) k=0:=by
        unfold co
        rw [List.getD_eq_getElem?_getD,List.getElem?_replicate]
        split<;>rfl
      rw [this,Int.add_zero]
  have ms:∀k,mu (qs.map (· *m)) (co q) k=mu qs (co q) k*m:=fun k=>by
    have e:qs.map (· *m)=qs.map (m* ·):=List.map_congr_left fun x _=>Int.mul_comm _ _
    rw [e,Gx,Int.mul_comm]
  refine⟨?_,fun k=> ?_,fun k hk=> ?_,fun k hk=> ?_,fun e h1 h2 h3=> ?_⟩
  . have:=Int.mul_le_mul h.pos m1 (by decide) (by have:=h.pos;omega)
    omega
  . rw [Ax (co q) _ _ sp,Sh]
    dsimp only
    rw [Nb,Vf,ms,List.length_replicate,hr]
    have:=h.eq k
    have e:s*m*co p k=(s*co p k)*m:=by grind
    rw [e,this]
    grind
  . rw [hr,if_pos (by omega)]
    by_cases hk2:k=j+(q.length-1)
    . subst hk2
      rw [ef,show j+(q.length-1)-j=q.length-1 by omega]
      omega
    . rw [h.top k (by omega),Bm (show q.length<=k-j by omega)]
      simp
  . rw [cq,if_neg (by omega),h.low k (by omega),Int.zero_mul]
  . have hf:e∣f:=by have:=h2 j;rw [cq,if_pos rfl]at this;exact this
    refine cp e (Ai2 h.cop (by rw [Int.mul_comm];exact h1) (fun k=> ?_) fun k=> ?_) hf
    . by_cases hk:k=j
      . rw [hk,h.low j (by omega),Int.mul_zero];exact Int.dvd_zero _
      . have:=h2 k
        rw [cq,if_neg hk]at this
        rw [Int.mul_comm]
        exact this
    . have a:=h3 k
      rw [hr]at a
      have b:e∣(if j<=k then f*co q (k-j)else 0):=by
        split
        . exact Int.dvd_trans hf (Int.dvd_mul_right _ _)
        . exact Int.dvd_zero _
      have:=Int.dvd_add a b
      rw [Int.sub_add_cancel,Int.mul_comm]at this
      exact this
end Z
namespace Z
theorem Aew (e:Int):∀(p:List Int) (f:Nat->Int) (i:Nat),(∀j,j<=i->e∣f j)->e∣mu p f i
  | [],_,_,_=>Int.dvd_zero _
  | a::p,f,0,h=>by
    show e∣a*f 0+0
    rw [Int.add_zero]
    exact Int.dvd_trans (h 0 (Nat.le_refl _)) (Int.dvd_mul_left _ _)
  | a::p,f,i+1,h=>by
    show e∣a*f (i+1)+mu p f i
    exact Int.dvd_add (Int.dvd_trans (h _ (Nat.le_refl _)) (Int.dvd_mul_left _ _)) (Aew e p f i fun j hj=>h j (by omega))
theorem T5 {e:Int} (he:∀a b:Int,e∣a*b->e∣a\/e∣b):∀(p q:List Int),(∀k,e∣mu p (co q) k)->(∀k,e∣co p k)\/(∀k,e∣co q k)
  | [],_,_=> .inl fun k=>by rw [Az];exact Int.dvd_zero _
  | a::p,q,h=>by
    by_cases ha:e∣a
    . have h2:∀k,e∣mu p (co q) k:=fun k=>by
        have:=h (k+1)
        have z:e∣a*co q (k+1):=Int.dvd_trans ha (Int.dvd_mul_right _ _)
        exact(Int.dvd_add_right z).mp this
      rcases T5 he p q h2 with h3 | h3
      . refine .inl fun k=> ?_
        cases k with
        | zero=>rw [Cd];exact ha
        | succ k=>rw [Ce];exact h3 k
      . exact .inr h3
    . refine .inr fun k=> ?_
      induction k using Nat.strongRecOn with
      | _ k ih=>
        have z:=h k
        have s:e∣sh (mu p (co q)) k:=by
          cases k with
          | zero=>exact Int.dvd_zero _
          | succ k=>exact Aew e p _ k fun j hj=>ih j (by omega)
        have:e∣a*co q k:=(Int.dvd_add_left s).mp z
        exact(he _ _ this).resolve_left ha
theorem Aan:∀n:Nat,n≠1->∃r:Nat,2<=r/\r∣n/\∀a b:Int,(r:Int)∣a*b->(r:Int)∣a\/(r:Int)∣b:=fun n=>by
  have main:∀m:Nat,2<=m->∃r:Nat,2<=r/\r∣m/\∀a b:Int,(r:Int)∣a*b->(r:Int)∣a\/(r:Int)∣b:=fun m=>by
    induction m using Nat.strongRecOn with
    | _ m ih=>
      intro hm
      by_cases h:∃d,2<=d/\d<m/\d∣m
      . obtain⟨d,h1,h2,h3⟩:=h
        obtain⟨r,a1,a2,a3⟩:=ih d h2 h1
        exact⟨r,a1,Nat.dvd_trans a2 h3,a3⟩
      . refine⟨m,hm,Nat.dvd_refl _,fun a b hab=> ?_⟩
        by_cases ha:(m:Int)∣a
        . exact .inl ha
        . right
          have g1:Nat.gcd m a.natAbs=1:=by
            have gd:Nat.gcd m a.natAbs∣m:=Nat.gcd_dvd_left ..
            have gl:=Nat.le_of_dvd (by omega) gd
            have gp:=Nat.gcd_pos_of_pos_left a.natAbs (show 0<m by omega)
            by_cases e1:Nat.gcd m a.natAbs=1
            . exact e1
            . exfalso
              by_cases e2:Nat.gcd m a.natAbs=m
              . refine ha (Int.ofNat_dvd_left.mpr ?_)
                have:=Nat.gcd_dvd_right m a.natAbs
                rw [e2]at this
                exact this
              . exact h ⟨_,by omega,by omega,gd⟩
          have hd:m∣a.natAbs*b.natAbs:=by
            have:=Int.ofNat_dvd_left.mp hab
            rwa [Int.natAbs_mul]at this
          exact Int.ofNat_dvd_left.mpr (Nat.Coprime.dvd_of_dvd_mul_left g1 hd)
  intro hn
  by_cases h0:n=0
  . subst h0
    obtain⟨r,a1,_,a3⟩:=main 2 (by decide)
    exact⟨r,a1,Nat.dvd_zero _,a3⟩
  . exact main n (by omega)
def Prim (p:List Int):Prop:=∀e:Int,(∀k,e∣co p k)->e∣1
theorem Akw {p q r:List Int} (hp:Prim p) (hq:Prim q) (hr:∀k,co r k=mu p (co q) k):Prim r:=fun e he=>by
  by_cases h1:e.natAbs=1
  . exact Int.natAbs_dvd.mp (by rw [h1];exact Int.dvd_refl _)
  . exfalso
    obtain⟨t,t2,td,tp⟩:=Aan e.natAbs h1
    have te:(t:Int)∣e:=Int.ofNat_dvd_left.mpr td
    have no:∀s:List Int,Prim s->¬ ∀k,(t:Int)∣co s k:=fun s hs h=>by
      have:=Int.le_of_dvd (by decide) (hs _ h)
      omega
    rcases T5 tp p q fun k=>by rw [<-hr];exact Int.dvd_trans te (he k)with h | h
    . exact no p hp h
    . exact no q hq h
theorem Qa {e m:Int}{p:List Int} (h:∀k,e∣m*co p k):e∣m*(gl p:Nat):=Adh e m p fun x hx=>by
  obtain⟨i,hi,ei⟩:=List.getElem_of_mem hx
  have:=h i
  rw [Eb hi,ei]at this
  exact this
theorem Agz (p:List Int) (k:Nat):((gl p:Nat):Int)∣co p k:=by
  by_cases hk:k<p.length
  . rw [Eb hk];exact Aez p _ (List.getElem_mem hk)
  . rw [Bm (by omega)];exact Int.dvd_zero _
theorem Prim.gl {p:List Int} (h:Prim p):Z.gl p=1:=by
  have:=h _ (Agz p)
  have h1:=Int.le_of_dvd (by decide) this
  rcases Nat.eq_zero_or_pos (Z.gl p)with z | z
  . rw [z]at this
    have:=Int.zero_dvd.mp this
    omega
  . omega
theorem Ac0 {p:List Int}{k:Nat} (h:co p k≠0):0<gl p:=by
  rcases Nat.eq_zero_or_pos (gl p)with z | z
  . have:=Agz p k
    rw [z]at this
    exact absurd (Int.zero_dvd.mp this) h
  . exact z
theorem Z0 {u v:List Int}{c d:Int} (hc:c≠0) (hd:d≠0) (hu:Prim u) (hv:Prim v) (h:∀k,c*co u k=d*co v k) {a b:Nat} (ua:0<co u a) (ub:∀k,a<k->co u k=0) (va:0<co v b) (vb:∀k,b<k->co v k=0):c=d/\∀k,co u k=co v k:=by
  have cd:c∣d:=by
    have:=Qa (e:=c) (m:=d) (p:=v) fun k=>by rw [<-h];exact Int.dvd_mul_right _ _
    rw [hv.gl]at this
    simpa using this
  have dc:d∣c:=by
    have:=Qa (e:=d) (m:=c) (p:=u) fun k=>by rw [h];exact Int.dvd_mul_right _ _
    rw [hu.gl]at this
    simpa using this
  have ab:a=b:=by
    rcases Nat.lt_trichotomy a b with l | l | l
    . exfalso
      have:=h b
      rw [ub b l,Int.mul_zero]at this
      rcases Int.mul_eq_zero.mp this.symm with z | z
      . exact hd z
      . omega
    . exact l
    . exfalso
      have:=h a
      rw [vb a l,Int.mul_zero]at this
      rcases Int.mul_eq_zero.mp this with z | z
      . exact hc z
      . omega
  subst ab
  have ha:=h a
  have e:c=d:=by
    have n:c.natAbs=d.natAbs:=Nat.dvd_antisymm (Int.natAbs_dvd_natAbs.mpr cd) (Int.natAbs_dvd_natAbs.mpr dc)
    rcases Int.natAbs_eq_natAbs_iff.mp n with z | z
    . exact z
    . exfalso
      rw [z,Int.neg_mul]at ha
      have h0:d*(co u a+co v a)=0:=by rw [Int.mul_add];omega
      rcases Int.mul_eq_zero.mp h0 with z | z
      . exact hd z
      . omega
  refine⟨e,fun k=> ?_⟩
  have hk:=h k
  rw [e]at hk
  exact Int.eq_of_mul_eq_mul_left hd hk
def un (p:List Int):Int:=if co p (p.length-1)<0 then-(gl p:Nat)else(gl p:Nat)
def pln (p:List Int):List Int:=p.map fun x=>x.fdiv (un p)
theorem G4 (p:List Int):(pln p).length=p.length:=by rw [pln,List.length_map]
theorem Td {f:Int->Int} (h:f 0=0) (p:List Int) (k:Nat):co (p.map f) k=f (co p k):=by
  unfold co
  rw [List.getD_eq_getElem?_getD,List.getD_eq_getElem?_getD,List.getElem?_map]
  cases p[k]? <;>simp [h]
theorem Ah7 (p:List Int) (k:Nat):un p∣co p k:=by
  unfold un
  split
  . exact Int.neg_dvd.mpr (Agz p k)
  . exact Agz p k
theorem Qm {p:List Int} (hp:Tr p) (h:p≠ []):un p≠0:=by
  have:=Ac0 (hp.lead h)
  unfold un
  split<;>omega
theorem Kc {p:List Int} (hp:Tr p) (h:p≠ []) (k:Nat):un p*co (pln p) k=co p k:=by
  rw [pln,Td (f:=fun x=>x.fdiv (un p)) (Int.zero_fdiv _)]
  obtain⟨t,ht⟩:=Ah7 p k
  rw [ht,Int.mul_fdiv_cancel_left _ (Qm hp h)]
theorem Aje {p:List Int} (k:Nat) (hk:p.length-1<k):co (pln p) k=0:=Bm (by rw [G4];omega)
theorem Nr {p:List Int} (hp:Tr p) (h:p≠ []):0<co (pln p) (p.length-1):=by
  have e:=Kc hp h (p.length-1)
  have l:=hp.lead h
  have g:=Ac0 l
  have z:co (pln p) (p.length-1)≠0:=fun z=>l (by rw [<-e,z,Int.mul_zero])
  by_cases hl:co p (p.length-1)<0
  . have u:un p= -(gl p:Nat):=if_pos hl
    rw [u]at e
    rcases Int.lt_or_gt_of_ne z with y | y
    . have:=Int.mul_pos_of_neg_of_neg (show-((gl p:Nat):Int)<0 by omega) y
      omega
    . exact y
  . have u:un p=(gl p:Nat):=if_neg hl
    rw [u]at e
    rcases Int.lt_or_gt_of_ne z with y | y
    . have:=Int.mul_neg_of_pos_of_neg (show 0<((gl p:Nat):Int)by omega) y
      omega
    . exact y
theorem Kh {p:List Int} (hp:Tr p):Tr (pln p):=by
  by_cases h:p=[]
  . subst h;exact .inl rfl
  . refine .of (.inr ?_)
    rw [G4]
    have:=Nr hp h
    omega
theorem Jh {p:List Int} (hp:Tr p) (h:p≠ []):Prim (pln p):=fun e he=>by
  have g:=Ac0 (hp.lead h)
  have d:(gl p:Nat)*e∣1*(gl p:Nat):=Qa fun k=>by
    rw [Int.one_mul,<-Kc hp h k]
    have:((gl p:Nat):Int)*e∣(gl p:Nat)*co (pln p) k:=Int.mul_dvd_mul (Int.dvd_refl _) (he k)
    unfold un
    split
    . rw [Int.neg_mul];exact Int.dvd_neg.mpr this
    . exact this
  rw [Int.mul_comm 1]at d
  exact Int.dvd_of_mul_dvd_mul_left (by omega) d
theorem Ad0 {r v:List Int}{c:Int} (hr:Tr r) (hv:Tr v) (pv:Prim v) (hc:c≠0) (h:∀k,c*co v k=co r k) (n:v≠ []) (l:0<co v (v.length-1)):pln r=v:=by
  have rn:r≠ []:=fun z=>by
    have:=h (v.length-1)
    rw [z,Az]at this
    rcases Int.mul_eq_zero.mp this with z | z<;>omega
  refine(Kh hr).ext hv (Z0 (Qm hr rn) hc (Jh hr rn) pv (fun k=>by rw [Kc hr rn,h]) (Nr hr rn) (fun k hk=>Aje k hk) l fun k hk=>Bm (by omega)).2
theorem Aj6 {p q:List Int} (hp:Tr p) (hq:Tr q):pln (tm p q)=tm (pln p) (pln q):=by
  by_cases np:p=[]
  . subst np;rw [show pln []=[]from rfl];rfl
  by_cases nq:q=[]
  . subst nq;rw [show pln []=[]from rfl,Ob,Ob];rfl
  have c1:=Qm hp np
  have c2:=Qm hq nq
  have lp:0<p.length:=List.length_pos_iff.mpr np
  have lq:0<q.length:=List.length_pos_iff.mpr nq
  have np':pln p≠ []:=fun z=>by have:=G4 p;rw [z]at this;exact absurd this.symm (by simp;exact np)
  have nq':pln q≠ []:=fun z=>by have:=G4 q;rw [z]at this;exact absurd this.symm (by simp;exact nq)
  have lead:mu (pln p) (co (pln q)) (p.length+q.length-2)=co (pln p) (p.length-1)*co (pln q) (q.length-1):=by
    rw [Ld _ _ _ np' nq' (by rw [G4,G4];omega),G4,G4]
  have lpos:0<mu (pln p) (co (pln q)) (p.length+q.length-2):=by
    rw [lead];exact Int.mul_pos (Nr hp np) (Nr hq nq)
  have len:(tm (pln p) (pln q)).length=p.length+q.length-1:=by
    have t:=Gy (pln p) (pln q)
    have n:tm (pln p) (pln q)≠ []:=fun z=>by
      have:=Ci (pln p) (pln q) (p.length+q.length-2)
      rw [z,Az]at this
      omega
    have l:=t.lead n
    have a:¬(tm (pln p) (pln q)).length<=p.length+q.length-2:=fun z=>by
      have:=Bm z
      rw [Ci]at this
      omega
    have b:¬p.length+q.length<=(tm (pln p) (pln q)).length:=fun z=>by
      rw [Ci,Aar _ _ _ np' (by rw [G4,G4];omega)]at l
      exact l rfl
    omega
  refine Ad0 (c:=un p*un q) (Gy _ _) (Gy _ _) (Akw (Jh hp np) (Jh hq nq) fun k=>Ci _ _ k) (fun z=>by rcases Int.mul_eq_zero.mp z with z | z<;>contradiction) (fun k=> ?_) (fun z=>by rw [z,List.length_nil]at len;omega) (by rw [len,Ci,show p.length+q.length-1-1=p.length+q.length-2 by omega];exact lpos)
  have e1:∀k,co p k=co ((pln p).map (un p* ·)) k:=fun k=>by rw [Ds,Kc hp np]
  have e2:co q=fun k=>un q*co (pln q) k:=funext fun k=>(Kc hq nq k).symm
  rw [Ci,Ci,Ax (co q) _ _ e1,Gx,e2,Km,Int.mul_assoc]
theorem Ac2 {p:List Int} (hp:Tr p) {c:Int} (hc:c≠0) {r:List Int} (hr:Tr r) (h:∀k,co r k=c*co p k):pln r=pln p:=by
  by_cases np:p=[]
  . subst np
    have:r=[]:=hr.ext (.inl rfl) fun k=>by rw [h,Az,Int.mul_zero]
    rw [this]
  . have np':pln p≠ []:=fun z=>by have:=G4 p;rw [z]at this;exact absurd this.symm (by simp;exact np)
    refine Ad0 (c:=c*un p) hr (Kh hp) (Jh hp np) (fun z=>by rcases Int.mul_eq_zero.mp z with z | z;exact hc z;exact Qm hp np z) (fun k=> ?_) np' (by rw [G4];exact Nr hp np)
    rw [h,<-Kc hp np,Int.mul_assoc]
def Exact (p q:List Int):Prop:=∃v:List Int,∀k,co p k=mu v (co q) k
theorem Aie:∀(w q:List Int) (j:Nat),q≠ []->co q (q.length-1)≠0->(∀k,j+q.length<=k->mu w (co q) k=0)->co q (q.length-1)∣mu w (co q) (j+(q.length-1)):=by
  intro w q j hq hl h
  have lq:0<q.length:=List.length_pos_iff.mpr hq
  have tw:Tr (trim w):=Av w
  have e:∀k,mu (trim w) (co q) k=mu w (co q) k:=fun k=>congrFun (Ax (co q) _ _ (Ak w)) k
  rw [<-e]
  by_cases n:trim w=[]
  . rw [n];exact Int.dvd_zero _
  . have l:=tw.lead n
    have lw:0<(trim w).length:=List.length_pos_iff.mpr n
    have ld:=Ld (trim w) q ((trim w).length+q.length-2) n hq (by omega)
    have nz:co (trim w) ((trim w).length-1)*co q (q.length-1)≠0:=fun z=>by rcases Int.mul_eq_zero.mp z with z | z<;>contradiction
    by_cases h1:j+1<(trim w).length
    . exfalso
      have:=h ((trim w).length+q.length-2) (by omega)
      rw [<-e,ld]at this
      exact nz this
    . by_cases h2:(trim w).length=j+1
      . rw [show j+(q.length-1)=(trim w).length+q.length-2 by omega,ld]
        exact Int.dvd_mul_left _ _
      . rw [Aar _ _ _ n (by omega)]
        exact Int.dvd_zero _
theorem Ahx (q:List Int) (v u:List Int):∃w:List Int,∀k,mu w (co q) k=mu v (co q) k-mu u (co q) k:=by
  refine⟨al v (u.map (-1* ·)),fun k=> ?_⟩
  rw [Sh]
  dsimp only
  rw [Gx]
  dsimp only
  omega
theorem DV.exact_top {p q qs rs:List Int}{j:Nat} (h:DV p q 1 qs rs (j+1)) (hq:q≠ []) (hl:co q (q.length-1)≠0) (ex:Exact p q):co q (q.length-1)∣co rs (j+(q.length-1)):=by
  obtain⟨v,hv⟩:=ex
  obtain⟨w,hw⟩:=Ahx q v qs
  have e:∀k,co rs k=mu w (co q) k:=fun k=>by
    have:=h.eq k
    rw [hw,<-hv]
    omega
  rw [e]
  refine Aie w q j hq hl fun k hk=> ?_
  rw [<-e]
  exact h.top k (by omega)
theorem Agt {r l:Int} (hl:l≠0) (h:l∣r):((l.natAbs:Nat):Int).fdiv ((Int.gcd r l:Nat):Int)=1:=by
  have:Int.gcd r l=l.natAbs:=Nat.gcd_eq_right (Int.natAbs_dvd_natAbs.mpr h)
  rw [this]
  exact Int.fdiv_self (by omega)
theorem Ags {p q u r:List Int}{s:Int} (hq:q≠ []) (hl:co q (q.length-1)≠0) (h:∀k,s*co p k=mu u (co q) k+co r k) (s1:1<=s) (hr:Tr r) (lr:r.length<q.length) (cop:Cop s u r) (ex:Exact p q):s=1/\r=[]:=by
  obtain⟨v,hv⟩:=ex
  obtain⟨w,hw⟩:=Ahx q (v.map (s* ·)) u
  have e:∀k,co r k=mu w (co q) k:=fun k=>by
    have:=h k
    rw [hw,Gx]
    dsimp only
    rw [<-hv]
    omega
  have w0:∀k,co w k=0:=by
    have e2:∀k,mu (trim w) (co q) k=mu w (co q) k:=fun k=>congrFun (Ax (co q) _ _ (Ak w)) k
    by_cases n:trim w=[]
    . intro k;rw [<-Ak,n,Az]
    . exfalso
      have lw:0<(trim w).length:=List.length_pos_iff.mpr n
      have ld:=Ld (trim w) q ((trim w).length+q.length-2) n hq (by omega)
      rw [e2,<-e,Bm (by omega)]at ld
      rcases Int.mul_eq_zero.mp ld.symm with z | z
      . exact(Av w).lead n z
      . exact hl z
  have r0:r=[]:=hr.ext (.inl rfl) fun k=>by rw [e,Ut (co q) w w0,Az]
  refine⟨?_,r0⟩
  have us:∀k,co u k=s*co v k:=by
    have a:=fun k=>h k
    have d:∀k,mu (al u (v.map (-s* ·))) (co q) k=0:=fun k=>by
      rw [Sh]
      dsimp only
      rw [Gx]
      dsimp only
      rw [<-hv]
      have:=h k
      rw [r0,Az]at this
      rw [Int.neg_mul]
      omega
    have x0:trim (al u (v.map (-s* ·)))=[]:=by
      by_cases n:trim (al u (v.map (-s* ·)))=[]
      . exact n
      . exfalso
        have e2:=congrFun (Ax (co q) _ _ (Ak (al u (v.map (-s* ·))))) ((trim (al u (v.map (-s* ·)))).length+q.length-2)
        have lw:0<(trim (al u (v.map (-s* ·)))).length:=List.length_pos_iff.mpr n
        have lq:0<q.length:=List.length_pos_iff.mpr hq
        rw [d,Ld _ q _ n hq (by omega)]at e2
        rcases Int.mul_eq_zero.mp e2 with z | z
        . exact(Av _).lead n z
        . exact hl z
    intro k
    have:=Ak (al u (v.map (-s* ·))) k
    rw [x0,Az,R9,Ds,Int.neg_mul]at this
    omega
  have:=cop s (Int.dvd_refl _) (fun k=>by rw [us];exact Int.dvd_mul_right _ _) fun k=>by rw [r0,Az];exact Int.dvd_zero _
  have:=Int.le_of_dvd (by decide) this
  omega
end Z
namespace Z
section
variable {C:Type}
def La (r:C->Int) (f:List C->Int):List C->Int
  | []=>0
  | c::cs=>r c*f cs-La r (fun x=>f (c::x)) cs
def Dt:List (C->Int)->List C->Int
  | [],[]=>1
  | [],_::_=>0
  | r::rows,cs=>La r (Dt rows) cs
theorem Uj (r:C->Int):∀cs,La r (fun _=>0) cs=0
  | []=>rfl
  | c::cs=>by rw [La,Uj r cs];simp
theorem Afa (r:C->Int):∀(cs:List C) (f g:List C->Int),La r (fun x=>f x+g x) cs=La r f cs+La r g cs
  | [],f,g=>rfl
  | c::cs,f,g=>by
    rw [La,La,La,Afa r cs]
    grind
theorem Vk (r:C->Int) (k:Int):∀(cs:List C) (f:List C->Int),La r (fun x=>k*f x) cs=k*La r f cs
  | [],f=>by simp [La]
  | c::cs,f=>by
    rw [La,La,Vk r k cs]
    grind
theorem Ahf (r:C->Int) (cs:List C) (f g:List C->Int):La r (fun x=>f x-g x) cs=La r f cs-La r g cs:=by
  have h1:=Afa r cs (fun x=>f x-g x) g
  have h2:(fun x=>f x-g x+g x)=f:=by funext x;omega
  rw [h2]at h1
  omega
theorem Ac9 (r s:C->Int):∀(cs:List C) (f:List C->Int),La (fun c=>r c+s c) f cs=La r f cs+La s f cs
  | [],f=>rfl
  | c::cs,f=>by
    rw [La,La,La,Ac9 r s cs]
    grind
theorem Acu (r:C->Int) (k:Int):∀(cs:List C) (f:List C->Int),La (fun c=>k*r c) f cs=k*La r f cs
  | [],f=>by simp [La]
  | c::cs,f=>by
    rw [La,La,Acu r k cs]
    grind
theorem Aal:∀(cs:List C) (f:List C->Int),La (fun _=>0) f cs=0
  | [],f=>rfl
  | c::cs,f=>by rw [La,Aal cs];simp
theorem Ado (r s:C->Int):∀(cs:List C) (f:List C->Int),La r (La s f) cs= -La s (La r f) cs
  | [],f=>rfl
  | c::cs,f=>by
    rw [La,La]
    have e1:(fun x=>La s f (c::x))=fun x=>s c*f x-La s (fun y=>f (c::y)) x:=rfl
    have e2:(fun x=>La r f (c::x))=fun x=>r c*f x-La r (fun y=>f (c::y)) x:=rfl
    rw [e1,e2,Ahf,Ahf,Vk,Vk,Ado r s cs]
    grind
theorem Yp (r s:C->Int) (rows:List (C->Int)) (cs:List C):Dt (r::s::rows) cs= -Dt (s::r::rows) cs:=Ado r s cs (Dt rows)
theorem Ahi {b:C->Int}:∀ {post:List (C->Int)},b∈post->∀cs,Dt (b::post) cs=0
  | x::xs,h,cs=>by
    rcases List.mem_cons.mp h with rfl | h
    . have:=Yp b b xs cs
      omega
    . rw [Yp]
      show-La x (Dt (b::xs)) cs=0
      have e:Dt (b::xs)=fun _=>0:=by funext y;exact Ahi h y
      rw [e,Uj]
      rfl
theorem Yn {rows:List (C->Int)} (h:∀cs,Dt rows cs=0):∀(pre:List (C->Int)) (cs:List C),Dt (pre++rows) cs=0
  | [],cs=>h cs
  | p::pre,cs=>by
    show La p (Dt (pre++rows)) cs=0
    have e:Dt (pre++rows)=fun _=>0:=by funext y;exact Yn h pre y
    rw [e,Uj]
theorem Acs (r s:C->Int) (post:List (C->Int)):∀(pre:List (C->Int)) (cs:List C),Dt (pre++(fun c=>r c+s c)::post) cs=Dt (pre++r::post) cs+Dt (pre++s::post) cs
  | [],cs=>Ac9 r s cs _
  | p::pre,cs=>by
    show La p (Dt (pre++(fun c=>r c+s c)::post)) cs=La p (Dt (pre++r::post)) cs+La p (Dt (pre++s::post)) cs
    rw [<-Afa]
    congr 1
    funext y
    exact Acs r s post pre y
theorem Aae (r:C->Int) (k:Int) (post:List (C->Int)):∀(pre:List (C->Int)) (cs:List C),Dt (pre++(fun c=>k*r c)::post) cs=k*Dt (pre++r::post) cs
  | [],cs=>Acu r k cs _
  | p::pre,cs=>by
    show La p (Dt (pre++(fun c=>k*r c)::post)) cs=k*La p (Dt (pre++r::post)) cs
    rw [<-Vk]
    congr 1
    funext y
    exact Aae r k post pre y
inductive Sn (B:List (C->Int)):(C->Int)->Prop where
  | zero:Sn B (fun _=>0)
  | add (k:Int) {b v:C->Int} (hb:b∈B) (hv:Sn B v):Sn B (fun c=>k*b c+v c)
theorem Sn.mono {B B':List (C->Int)} (h:∀b∈B,b∈B') {v:C->Int} (s:Sn B v):Sn B' v:=by
  induction s with
  | zero=>exact .zero
  | add k hb _ ih=>exact .add k (h _ hb) ih
theorem Anq {B:List (C->Int)}{v:C->Int} (s:Sn B v) (post:List (C->Int)) (hB:∀b∈B,b∈post) (pre:List (C->Int)) (cs:List C):Dt (pre++v::post) cs=0:=by
  induction s with
  | zero=>exact Yn (rows:=(fun _=>0)::post) (fun cs=>Aal cs _) pre cs
  | @add k b v hb _ ih=>
    rw [Acs (fun c=>k*b c) v post pre cs,ih,Aae,Yn (Ahi (hB b hb)) pre cs]
    simp
inductive Rel (k:Int) (B:List (C->Int)):List (C->Int)->List (C->Int)->Prop where
  | nil:Rel k B [] []
  | cons {a a' v:C->Int}{A A':List (C->Int)} (hv:Sn B v) (h:∀c,k*a c=a' c+v c) (t:Rel k B A A'):Rel k B (a::A) (a'::A')
theorem Ahs {k:Int}{B:List (C->Int)}{A A':List (C->Int)} (h:Rel k B A A') (cs:List C):∀pre:List (C->Int),k^A.length*Dt (pre++(A++B)) cs=Dt (pre++(A'++B)) cs:=by
  induction h with
  | nil=>intro pre;simp
  | @cons a a' v A A' hv h t ih=>
    intro pre
    have e:(fun c=>k*a c)=fun c=>a' c+v c:=funext h
    have e1:k*Dt (pre++a::(A++B)) cs=Dt (pre++a'::(A++B)) cs:=by
      rw [<-Aae,e,Acs,Anq hv (A++B) (fun b hb=>List.mem_append_right _ hb),Int.add_zero]
    have e2:=ih (pre++ [a'])
    rw [List.append_assoc,List.append_assoc]at e2
    show k^(A.length+1)*Dt (pre++a::(A++B)) cs=Dt (pre++a'::(A'++B)) cs
    rw [Int.pow_succ,Int.mul_assoc,e1]
    exact e2
theorem Afn {k:Int}{R:List (C->Int)} (B:List (C->Int)) (cs:List C):∀pre:List (C->Int),Dt (pre++(R.map (fun r c=>k*r c)++B)) cs=k^R.length*Dt (pre++(R++B)) cs:=by
  induction R with
  | nil=>intro pre;simp
  | cons r R ih=>
    intro pre
    show Dt (pre++(fun c=>k*r c)::(R.map (fun r c=>k*r c)++B)) cs=k^(R.length+1)*Dt (pre++r::(R++B)) cs
    rw [Aae]
    have e2:=ih (pre++ [r])
    rw [List.append_assoc,List.append_assoc]at e2
    have e3:Dt (pre++r::(R.map (fun r c=>k*r c)++B)) cs=k^R.length*Dt (pre++r::(R++B)) cs:=e2
    rw [e3,Int.pow_succ]
    grind
def Sg (e:Int):Prop:=e=1\/e= -1
theorem Sg.mul {a b:Int} (ha:Sg a) (hb:Sg b):Sg (a*b):=by
  rcases ha with rfl | rfl<;>rcases hb with rfl | rfl<;>simp [Sg]
theorem Sg.sq {a:Int} (ha:Sg a):a*a=1:=by rcases ha with rfl | rfl<;>rfl
theorem Aeb (a:C->Int) (post:List (C->Int)):∀B:List (C->Int),∃e,Sg e/\∀cs,Dt (a::(B++post)) cs=e*Dt (B++a::post) cs
  | []=>⟨1,.inl rfl,fun cs=>by simp⟩
  | b::B=>by
    obtain⟨e,he,h⟩:=Aeb a post B
    refine⟨-e,by rcases he with rfl | rfl<;>simp [Sg],fun cs=> ?_⟩
    show Dt (a::b::(B++post)) cs=_
    rw [Yp]
    show-La b (Dt (a::(B++post))) cs= -e*La b (Dt (B++a::post)) cs
    have e1:Dt (a::(B++post))=fun y=>e*Dt (B++a::post) y:=funext h
    rw [e1,Vk]
    grind
theorem Wv (B:List (C->Int)):∀(A:List (C->Int)),∃e,Sg e/\∀cs,Dt (A++B) cs=e*Dt (B++A) cs
  | []=>⟨1,.inl rfl,fun cs=>by simp⟩
  | a::A=>by
    obtain⟨e,he,h⟩:=Wv B A
    obtain⟨e',he',h'⟩:=Aeb a A B
    refine⟨e*e',he.mul he',fun cs=> ?_⟩
    show La a (Dt (A++B)) cs=_
    have e1:Dt (A++B)=fun y=>e*Dt (B++A) y:=funext h
    rw [e1,Vk]
    have:=h' cs
    show e*Dt (a::(B++A)) cs=_
    rw [this]
    grind
theorem Y0 {c:C}:∀ {rows:List (C->Int)},(∀r∈rows,r c=0)->∀ {cs:List C},c∈cs->Dt rows cs=0
  | [],_,c'::cs,_=>rfl
  | r::rows,h,cs,hc=>by
    have hr:=h r List.mem_cons_self
    have ih:∀ds:List C,c∈ds->Dt rows ds=0:=fun ds hd=>Y0 (fun x hx=>h x (List.mem_cons_of_mem _ hx)) hd
    show La r (Dt rows) cs=0
    have key:∀(cs:List C) (f:List C->Int),c∈cs->(∀ds,c∈ds->f ds=0)->La r f cs=0:=fun cs=>by
      induction cs with
      | nil=>intro f h;cases h
      | cons d ds ih2=>
        intro f h hf
        rw [La]
        by_cases hd:c∈ds
        . rw [hf ds hd,ih2 (fun x=>f (d::x)) hd (fun e he=>hf _ (List.mem_cons_of_mem _ he))]
          simp
        . have:c=d:=by
            rcases List.mem_cons.mp h with z | z
            . exact z
            . exact absurd z hd
          subst this
          rw [hr]
          have e:(fun x=>f (c::x))=fun _=>0:=by funext x;exact hf _ List.mem_cons_self
          rw [e,Uj]
          simp
    exact key cs (Dt rows) hc ih
theorem Alu {c:C}{r:C->Int}{rows:List (C->Int)} (h:∀s∈rows,s c=0) (cs:List C):Dt (r::rows) (c::cs)=r c*Dt rows cs:=by
  show La r (Dt rows) (c::cs)=_
  rw [La]
  have e:(fun x=>Dt rows (c::x))=fun _=>0:=by funext x;exact Y0 h List.mem_cons_self
  rw [e,Uj]
  simp
theorem Aht (r:C->Int) (c:C):Dt [r] [c]=r c:=by simp [Dt,La]
end
end Z
namespace Z
def shr (a:Nat) (F:Nat->Nat->Int):Nat × Nat->Int:=fun c=>if a<=c.2 then F c.1 (c.2-a)else 0
def blk (F:Nat->Nat->Int):Nat->List (Nat × Nat->Int)
  | 0=>[]
  | a+1=>shr a F::blk F a
theorem Ra (F:Nat->Nat->Int):∀a,(blk F a).length=a
  | 0=>rfl
  | a+1=>by rw [blk,List.length_cons,Ra F a]
theorem Aj1 {F:Nat->Nat->Int}{a s:Nat} (h:s<a):shr s F∈blk F a:=by
  induction a with
  | zero=>omega
  | succ a ih=>
    rw [blk]
    by_cases e:s=a
    . subst e;exact List.mem_cons_self
    . exact List.mem_cons_of_mem _ (ih (by omega))
theorem Oi {F:Nat->Nat->Int}{r:Nat × Nat->Int}:∀ {a:Nat},r∈blk F a->∃s,s<a/\r=shr s F
  | 0,h=>by cases h
  | a+1,h=>by
    rcases List.mem_cons.mp h with rfl | h
    . exact⟨a,by omega,rfl⟩
    . obtain⟨s,h1,h2⟩:=Oi h
      exact⟨s,by omega,h2⟩
def dn (lo:Nat):Nat->List (Nat × Nat)
  | 0=>[]
  | b+1=>(0,lo+b)::dn lo b
def Dg (F:Nat->Nat->Int) (n:Nat):Prop:=∀i,n<=i->F 0 i=0
theorem peel {G:Nat->Nat->Int}{m t lo b K:Nat}{rest:List (Nat × Nat->Int)}{l:Nat × Nat} (hG:Dg G (m+1)) (hK:∀r∈rest,∀i,K<=i->r (0,i)=0) (e:lo+b=m+t) (hk:K<=m+t):
    ∀u,Dt (blk G (t+u)++rest) (dn lo (b+u)++ [l])=G 0 m^u*Dt (blk G t++rest) (dn lo b++ [l])
  | 0=>by simp
  | u+1=>by
    show Dt (shr (t+u) G::(blk G (t+u)++rest)) ((0,lo+(b+u))::(dn lo (b+u)++ [l]))=_
    rw [Alu]
    . rw [peel hG hK e hk u]
      have e1:shr (t+u) G (0,lo+(b+u))=G 0 m:=by
        unfold shr
        rw [if_pos (show t+u<=lo+(b+u)by omega)]
        show G 0 (lo+(b+u)-(t+u))=_
        rw [show lo+(b+u)-(t+u)=m by omega]
      rw [e1,Int.pow_succ]
      grind
    . intro s hs
      rcases List.mem_append.mp hs with hs | hs
      . obtain⟨t',h1,rfl⟩:=Oi hs
        unfold shr
        rw [if_pos (show t'<=lo+(b+u)by omega)]
        exact hG _ (by show m+1<=lo+(b+u)-t';omega)
      . exact hK s hs _ (by omega)
def Sr (j:Nat) (F:Nat->Nat->Int) (n:Nat) (G:Nat->Nat->Int) (m:Nat) (l:Nat × Nat):Int:=Dt (blk F (m-j)++blk G (n-j)) (dn (j+1) (n+m-2*j-1)++ [l])
theorem Aki (G:Nat->Nat->Int):∀(q:List Int) (s b:Nat),s+q.length<=b->Sn (blk G b) (shr s fun c=>mu q (G c))
  | [],s,b,_=>by
    have e:(shr s fun c=>mu [] (G c))=fun _=>0:=by
      funext c
      unfold shr
      split<;>rfl
    rw [e]
    exact .zero
  | a::q,s,b,h=>by
    have e:(shr s fun c=>mu (a::q) (G c))=fun c=>a*shr s G c+(shr (s+1) fun c=>mu q (G c)) c:=by
      funext c
      unfold shr
      by_cases h1:s+1<=c.2
      . rw [if_pos (by omega),if_pos (by omega),if_pos h1]
        show a*G c.1 (c.2-s)+sh (mu q (G c.1)) (c.2-s)=_
        rw [show c.2-s=(c.2-(s+1))+1 by omega]
        rfl
      . by_cases h2:s<=c.2
        . rw [if_pos h2,if_pos h2,if_neg h1]
          show a*G c.1 (c.2-s)+sh (mu q (G c.1)) (c.2-s)=_
          rw [show c.2-s=0 by omega]
          rfl
        . rw [if_neg h2,if_neg h2,if_neg h1]
          simp
    rw [e]
    rw [List.length_cons]at h
    exact .add a (Aj1 (by omega)) (Aki G q (s+1) b (by omega))
theorem Ze {F G R:Nat->Nat->Int}{L:Int}{q:List Int}{b:Nat} (h:∀c i,L*F c i=R c i+mu q (G c) i):∀a,a+q.length<=b+1->Rel L (blk G b) (blk F a) (blk R a)
  | 0,_=> .nil
  | a+1,hb=>by
    refine .cons (Aki G q a b (by omega)) (fun c=> ?_) (Ze h a (by omega))
    unfold shr
    split
    . exact h _ _
    . simp
theorem Z2 {R:Nat->Nat->Int}{k a:Nat} (hR:Dg R k):∀r∈blk R a,∀i,k+a<=i+1->r (0,i)=0:=fun r hr i hi=>by
  obtain⟨s,h1,rfl⟩:=Oi hr
  unfold shr
  split
  . exact hR _ (by show k<=i-s;omega)
  . rfl
section
variable {F G R:Nat->Nat->Int}{n m k:Nat}{L:Int}{q:List Int}
theorem Ai8 (hG:Dg G (m+1)) (hR:Dg R (k+1)) (h:∀c i,L*F c i=R c i+mu q (G c) i) (hq:q.length<=n-m+1) (hmn:m<=n) (j:Nat) (hj:j<m) (hk:j<=k) (hkm:k<m):
    ∃e,Sg e/\∀l,L^(m-j)*Sr j F n G m l=e*(G 0 m^(n-k)*Sr j G m R k l):=by
  obtain⟨e,he,hb⟩:=Wv (blk G (n-j)) (blk R (m-j))
  refine⟨e,he,fun l=> ?_⟩
  unfold Sr
  have h1:=Ahs (Ze (F:=F) (G:=G) (R:=R) h (m-j) (b:=n-j) (by omega)) (dn (j+1) (n+m-2*j-1)++ [l]) []
  rw [Ra,List.nil_append,List.nil_append]at h1
  rw [h1,hb]
  have h2:=peel (G:=G) (m:=m) (t:=k-j) (lo:=j+1) (b:=m+k-2*j-1) (K:=k+1+(m-j)-1) (rest:=blk R (m-j)) (l:=l) hG (fun r hr i hi=>Z2 hR r hr i (by omega)) (by omega) (by omega) (n-k)
  rw [show k-j+(n-k)=n-j by omega,show m+k-2*j-1+(n-k)=n+m-2*j-1 by omega]at h2
  rw [h2]
theorem Aj0 (hG:Dg G (m+1)) (hR:Dg R m) (h:∀c i,L*F c i=R c i+mu q (G c) i) (hq:q.length<=n-m+1) (hmn:m<=n) (hm:1<=m):
    ∃e,Sg e/\∀l:Nat × Nat,L*Sr (m-1) F n G m l=e*(G 0 m^(n-m+1)*R l.1 l.2):=by
  obtain⟨e,he,hb⟩:=Wv (blk G (n-(m-1))) (blk R (m-(m-1)))
  refine⟨e,he,fun l=> ?_⟩
  unfold Sr
  have h1:=Ahs (Ze (F:=F) (G:=G) (R:=R) h (m-(m-1)) (b:=n-(m-1)) (by omega)) (dn (m-1+1) (n+m-2*(m-1)-1)++ [l]) []
  rw [Ra,List.nil_append,List.nil_append]at h1
  have e1:m-(m-1)=1:=by omega
  rw [e1]at h1 hb ⊢
  rw [Int.pow_succ,Int.pow_zero,Int.one_mul]at h1
  rw [h1,hb]
  have h2:=peel (G:=G) (m:=m) (t:=0) (lo:=m-1+1) (b:=0) (K:=m) (rest:=blk R 1) (l:=l) hG (fun r hr i hi=>Z2 hR r hr i (by omega)) (by omega) (by omega) (n-m+1)
  rw [show 0+(n-m+1)=n-(m-1)by omega]at h2
  rw [show n+m-2*(m-1)-1=n-(m-1)by omega,h2]
  congr 1
  congr 1
  show Dt [shr 0 R] [l]=_
  rw [Aht]
  rfl
theorem Al7 (hG:Dg G (m+1)) (hmn:m<n) (l:Nat × Nat):Sr m F n G m l=G 0 m^(n-m-1)*G l.1 l.2:=by
  unfold Sr
  rw [Nat.sub_self]
  show Dt ([]++blk G (n-m)) _=_
  rw [List.nil_append]
  have h2:=peel (G:=G) (m:=m) (t:=1) (lo:=m+1) (b:=0) (K:=0) (rest:=[]) (l:=l) hG (fun r hr=>by cases hr) (by omega) (by omega) (n-m-1)
  rw [show 1+(n-m-1)=n-m by omega,List.append_nil,List.append_nil]at h2
  rw [show n+m-2*m-1=0+(n-m-1)by omega,h2]
  congr 1
  show Dt [shr 0 G] [l]=_
  rw [Aht]
  rfl
theorem Yg (T:Nat->Nat->Int) (β:Int):∀a,blk (fun c i=>β*T c i) a=(blk T a).map fun r c=>β*r c
  | 0=>rfl
  | a+1=>by
    rw [blk,blk,List.map_cons,Yg T β a]
    congr 1
    funext c
    unfold shr
    split<;>simp
theorem Aft (T:Nat->Nat->Int) (β:Int) (j:Nat) (l:Nat × Nat):Sr j G m (fun c i=>β*T c i) k l=β^(m-j)*Sr j G m T k l:=by
  unfold Sr
  rw [Yg]
  have h:=Afn (k:=β) (R:=blk T (m-j)) [] (dn (j+1) (m+k-2*j-1)++ [l]) (blk G (k-j))
  rw [List.append_nil,List.append_nil,Ra]at h
  exact h
end
theorem Qc {a:Int} (h:a≠0):∀n:Nat,a^n≠0
  | 0=>by simp
  | n+1=>by
    rw [Int.pow_succ]
    exact Int.mul_ne_zero (Qc h n) h
def Chn (F1:Nat->Nat->Int) (n1:Nat) (F2:Nat->Nat->Int) (n2:Nat) (F:Nat->Nat->Int) (n:Nat) (G:Nat->Nat->Int) (m:Nat) (l h:Int):Prop:=
  ∀j,j<=m->j<n->∃e,Sg e/\∀c,h^(n-j-1)*l^(m-j)*Sr j F1 n1 F2 n2 c=e*Sr j F n G m c
theorem Chn.start (F1:Nat->Nat->Int) (n1:Nat) (F2:Nat->Nat->Int) (n2:Nat):Chn F1 n1 F2 n2 F1 n1 F2 n2 1 1:=fun j _ _=>⟨1,.inl rfl,fun c=>by rw [Int.one_pow,Int.one_pow];simp⟩
section
variable {F1 F2 F G R T:Nat->Nat->Int}{n1 n2 n m k:Nat}{l h lg h':Int}{q:List Int}
theorem Chn.rest (ch:Chn F1 n1 F2 n2 F n G m l h) (hG:Dg G (m+1)) (hR:Dg R m) (hq:q.length<=n-m+1) (hmn:m<=n) (hm:1<=m) (hl:G 0 m≠0)
    (eq:∀c i,G 0 m^(n-m+1)*F c i=R c i+mu q (G c) i):∃e,Sg e/\∀c i,R c i=l*h^(n-m)*(e*Sr (m-1) F1 n1 F2 n2 (c,i)):=by
  obtain⟨e,he,h1⟩:=ch (m-1) (by omega) (by omega)
  obtain⟨e',he',h2⟩:=Aj0 (F:=F) (n:=n) hG hR eq hq hmn hm
  refine⟨e*e',he.mul he',fun c i=> ?_⟩
  have a1:=h1 (c,i)
  have a2:=h2 (c,i)
  rw [show n-(m-1)-1=n-m by omega,show m-(m-1)=1 by omega,Int.pow_succ,Int.pow_zero,Int.one_mul]at a1
  have hp:=Qc hl (n-m+1)
  generalize G 0 m^(n-m+1)=L at*
  generalize Sr (m-1) F n G m (c,i)=s at*
  have a3:s=e'*R c i:=by
    have:L*s=L*(e'*R c i):=by rw [a2];grind
    exact Int.eq_of_mul_eq_mul_left hp this
  rw [a3]at a1
  have s1:=he.sq
  have s2:=he'.sq
  have:e*e'*(h^(n-m)*l*Sr (m-1) F1 n1 F2 n2 (c,i))=R c i:=by
    rw [a1]
    have:e*e'*(e*(e'*R c i))=(e*e)*(e'*e')*R c i:=by grind
    rw [this,s1,s2]
    simp
  rw [<-this]
  grind
theorem Chn.height (ch:Chn F1 n1 F2 n2 F n G m l h) (hG:Dg G (m+1)) (hmn:m<n):∃e,Sg e/\h^(n-m-1)*(e*Sr m F1 n1 F2 n2 (0,m))=G 0 m^(n-m):=by
  obtain⟨e,he,h1⟩:=ch m (Nat.le_refl _) hmn
  refine⟨e,he,?_⟩
  have a1:=h1 (0,m)
  rw [Nat.sub_self,Int.pow_zero,Int.mul_one,Al7 hG hmn]at a1
  have s1:=he.sq
  have e2:G 0 m^(n-m)=G 0 m^(n-m-1)*G 0 m:=by
    rw [<-Int.pow_succ,show(n-m-1).succ=n-m by omega]
  rw [e2]
  have:h^(n-m-1)*(e*Sr m F1 n1 F2 n2 (0,m))=e*(h^(n-m-1)*Sr m F1 n1 F2 n2 (0,m)):=by grind
  rw [this,a1]
  have:e*(e*(G 0 m^(n-m-1)*G 0 m))=(e*e)*(G 0 m^(n-m-1)*G 0 m):=by grind
  rw [this,s1]
  simp
theorem Chn.next (ch:Chn F1 n1 F2 n2 F n G m l h) (hG:Dg G (m+1)) (hT:Dg T (k+1)) (hq:q.length<=n-m+1) (hmn:m<=n) (hkm:k<m) (hl:G 0 m≠0) (l0:l≠0) (h0:h≠0)
    (eq:∀c i,G 0 m^(n-m+1)*F c i=l*h^(n-m)*T c i+mu q (G c) i) (hh:(n=m/\h'=h)\/(m<n/\h^(n-m-1)*h'=G 0 m^(n-m))):Chn F1 n1 F2 n2 G m T k (G 0 m) h':=by
  intro j hj hjm
  obtain⟨e,he,h1⟩:=ch j (by omega) (by omega)
  obtain⟨e',he',h2⟩:=Ai8 (F:=F) (n:=n) (R:=fun c i=>l*h^(n-m)*T c i) (k:=k) hG (fun i hi=>by show l*h^(n-m)*T 0 i=0;rw [hT i hi];simp) eq hq hmn j hjm hj hkm
  refine⟨e*e',he.mul he',fun c=> ?_⟩
  have a1:=h1 c
  have a2:=h2 c
  rw [Aft]at a2
  generalize Sr j F1 n1 F2 n2 c=S at*
  generalize Sr j F n G m c=s at*
  generalize Sr j G m T k c=s' at*
  generalize hlg:G 0 m=lg at*
  have s1:=he.sq
  have s2:=he'.sq
  obtain⟨E,hE⟩:∃E,m-j=E+1:=⟨m-j-1,by omega⟩
  obtain⟨d,hd⟩:∃d,n-m=d:=⟨_,rfl⟩
  have hn1:n-j-1=d+E:=by omega
  have hnk:n-k+(k-j)=d+E+1:=by omega
  rw [hE,hd]at a2
  rw [hE,hn1]at a1
  rw [show m-j-1=E by omega]
  rw [hd]at hh
  have key:lg^(n-k)*h^(d*(E+1))*(h'^E*lg^(k-j))=(lg^(d+1))^(E+1)*h^(d+E):=by
    have p1:lg^(n-k)*lg^(k-j)=lg^(d+E+1):=by rw [<-Int.pow_add,hnk]
    rcases hh with⟨hz,rfl⟩ | ⟨hz,hh⟩
    . have d0:d=0:=by omega
      subst d0
      rw [Nat.zero_mul,Int.pow_zero,Int.mul_one,Nat.zero_add,Nat.zero_add,Int.pow_one]
      rw [Nat.zero_add]at p1
      rw [<-p1]
      grind
    . obtain⟨d',hd'⟩:∃d',d=d'+1:=⟨d-1,by omega⟩
      subst hd'
      rw [show d'+1-1=d' by omega]at hh
      have p2:(h^d'*h')^E=(lg^(d'+1))^E:=by rw [hh]
      rw [Int.mul_pow]at p2
      have p3:h^((d'+1)*(E+1))=(h^d')^E*h^(d'+1+E):=by
        rw [<-Int.pow_mul,<-Int.pow_add]
        congr 1
        rw [Nat.add_mul,Nat.mul_add]
        omega
      have p4:(lg^(d'+1+1))^(E+1)=(lg^(d'+1))^E*lg^(d'+1+E+1):=by
        rw [<-Int.pow_mul,<-Int.pow_mul,<-Int.pow_add]
        congr 1
        rw [Nat.add_mul,Nat.mul_add]
        omega
      rw [p3,p4,<-p2,<-p1]
      grind
  have big:lg^(n-k)*h^(d*(E+1))≠0:=Int.mul_ne_zero (Qc hl _) (Qc h0 _)
  have lne:l^(E+1)≠0:=Qc l0 _
  have b1:(l*h^d)^(E+1)=l^(E+1)*h^(d*(E+1)):=by rw [Int.mul_pow,<-Int.pow_mul]
  rw [b1]at a2
  refine Int.eq_of_mul_eq_mul_left big ?_
  refine Int.eq_of_mul_eq_mul_left lne ?_
  have c1:l^(E+1)*(lg^(n-k)*h^(d*(E+1))*(h'^E*lg^(k-j)*S))=(lg^(d+1))^(E+1)*(h^(d+E)*l^(E+1)*S):=by
    have:l^(E+1)*(lg^(n-k)*h^(d*(E+1))*(h'^E*lg^(k-j)*S))=(lg^(n-k)*h^(d*(E+1))*(h'^E*lg^(k-j)))*l^(E+1)*S:=by grind
    rw [this,key]
    grind
  rw [c1,a1]
  have c2:(lg^(d+1))^(E+1)*(e*s)=e*((lg^(d+1))^(E+1)*s):=by grind
  rw [c2,a2]
  grind
end
end Z
namespace Z
theorem Ahl {C:Type}{r:C->Int}{M B:Nat} (hr:∀c,(r c).natAbs<=M):∀(cs:List C) (f:List C->Int),(∀ds,ds.length+1=cs.length->(f ds).natAbs<=B)->(La r f cs).natAbs<=cs.length*(M*B)
  | [],f,_=>by simp [La]
  | c::cs,f,h=>by
    rw [La]
    have h1:(f cs).natAbs<=B:=h cs (by simp)
    have h2:=Ahl hr cs (fun x=>f (c::x)) fun ds hd=>h (c::ds) (by simp;omega)
    have h3:(r c*f cs).natAbs<=M*B:=by rw [Int.natAbs_mul];exact Nat.mul_le_mul (hr c) h1
    rw [List.length_cons,Nat.succ_mul]
    omega
theorem Ahn {C:Type}{M L:Nat} (hL:1<=L*M):∀(rows:List (C->Int)) (cs:List C),(∀r∈rows,∀c,(r c).natAbs<=M)->cs.length<=L->(Dt rows cs).natAbs<=(L*M)^rows.length
  | [],[],_,_=>by simp [Dt]
  | [],_::_,_,_=>by simp [Dt]
  | r::rows,cs,h,hl=>by
    show(La r (Dt rows) cs).natAbs<=_
    have h1:=Ahl (r:=r) (M:=M) (B:=(L*M)^rows.length) (h r List.mem_cons_self) cs (Dt rows) fun ds hd=>Ahn hL rows ds (fun s hs=>h s (List.mem_cons_of_mem _ hs)) (by omega)
    rw [List.length_cons,Nat.pow_succ,Nat.mul_comm _ (L*M)]
    refine Nat.le_trans h1 ?_
    rw [Nat.mul_assoc]
    exact Nat.mul_le_mul_right _ hl
theorem Ahe (lo:Nat):∀b,(dn lo b).length=b
  | 0=>rfl
  | b+1=>by rw [dn,List.length_cons,Ahe lo b]
theorem Aes {F:Nat->Nat->Int}{M:Nat} (h:∀c i,(F c i).natAbs<=M) (a:Nat) (c:Nat × Nat):(shr a F c).natAbs<=M:=by
  unfold shr
  split
  . exact h _ _
  . simp
theorem Ahr {F G:Nat->Nat->Int}{n m j b:Nat} (hF:∀c i,(F c i).natAbs<=2^b) (hG:∀c i,(G c i).natAbs<=2^b) (hn:j<=n) (hm:j<=m) (h64:n+m-2*j<=64) (c:Nat × Nat):(Sr j F n G m c).natAbs<=2^((b+6)*(n+m-2*j)):=by
  unfold Sr
  have e:(2:Nat)^6*2^b=2^(b+6):=by rw [<-Nat.pow_add,Nat.add_comm]
  have p1:1<=2^6*2^b:=by rw [e];exact Nat.one_le_two_pow
  have h:=Ahn (M:=2^b) (L:=2^6) p1 (blk F (m-j)++blk G (n-j)) (dn (j+1) (n+m-2*j-1)++ [c]) (fun r hr c=>by
    rcases List.mem_append.mp hr with hr | hr
    . obtain⟨s,_,rfl⟩:=Oi hr
      exact Aes hF _ _
    . obtain⟨s,_,rfl⟩:=Oi hr
      exact Aes hG _ _) (by rw [List.length_append,Ahe,List.length_singleton];show _<=64;omega)
  rw [List.length_append,Ra,Ra,e,<-Nat.pow_mul]at h
  rw [show m-j+(n-j)=n+m-2*j by omega]at h
  exact h
theorem Aka {F G:Nat->Nat->Int}{n m j l:Nat} (hF:∀c i,l<=i->F c i=0) (hG:∀c i,l<=i->G c i=0) (hn:n<l) (hm:m<l) (c i:Nat) (hi:2*l<=i):Sr j F n G m (c,i)=0:=by
  unfold Sr
  refine Y0 (c:=(c,i)) (fun r hr=> ?_) (by simp)
  rcases List.mem_append.mp hr with hr | hr
  . obtain⟨s,hs,rfl⟩:=Oi hr
    unfold shr
    split
    . exact hF _ _ (by show l<=i-s;omega)
    . rfl
  . obtain⟨s,hs,rfl⟩:=Oi hr
    unfold shr
    split
    . exact hG _ _ (by show l<=i-s;omega)
    . rfl
theorem Ajj (x y:Nat):4*(x*y)<=(x+y)*(x+y):=by
  rcases Nat.le_total x y with h | h
  . obtain⟨d,rfl⟩:=Nat.exists_eq_add_of_le h
    have:(x+(x+d))*(x+(x+d))=4*(x*(x+d))+d*d:=by grind
    omega
  . obtain⟨d,rfl⟩:=Nat.exists_eq_add_of_le h
    have:(y+d+y)*(y+d+y)=4*((y+d)*y)+d*d:=by grind
    omega
theorem Abk {l b x n1 n2 s:Nat} (h1:n1<l) (h2:n2<l) (hx:x<=n1) (hs:s<=x):2*(s*((b+6)*(n1+n2-2*x)+1))<=l*l*(b+6)+2*l:=by
  by_cases hz:n1+n2<=2*x
  . rw [show n1+n2-2*x=0 by omega]
    have:=Nat.zero_le (l*l*(b+6))
    omega
  . have e1:2*(x*(n1+n2-2*x))<=l*l:=by
      have h3:=Ajj (2*x) (n1+n2-2*x)
      have h4:2*x+(n1+n2-2*x)=n1+n2:=by omega
      rw [h4]at h3
      have h5:(n1+n2)*(n1+n2)<=(2*l)*(2*l):=Nat.mul_le_mul (by omega) (by omega)
      have h6:4*(2*x*(n1+n2-2*x))=4*(2*(x*(n1+n2-2*x))):=by rw [Nat.mul_assoc]
      have h7:(2*l)*(2*l)=4*(l*l):=by grind
      omega
    have e2:s*((b+6)*(n1+n2-2*x))<=x*((b+6)*(n1+n2-2*x)):=Nat.mul_le_mul_right _ hs
    have e3:x*((b+6)*(n1+n2-2*x))=(x*(n1+n2-2*x))*(b+6):=by grind
    have e4:=Nat.mul_le_mul_right (b+6) e1
    have e5:2*(x*(n1+n2-2*x))*(b+6)=2*(x*(n1+n2-2*x)*(b+6)):=by rw [Nat.mul_assoc]
    rw [Nat.mul_add,Nat.mul_one]
    omega
end Z
namespace Z
def Dv (d f:List Int):Prop:=∃(c:Int) (u:List Int),c≠0/\∀i,c*co f i=mu u (co d) i
theorem Od (a:Int) (u:List Int) (f:Nat->Int) (i:Nat):mu (u.map (a* ·)) f i=a*mu u f i:=congrFun (Gx f a u) i
theorem Jr {f g:Nat->Int} (h:∀i,f i=g i) (p:List Int) (i:Nat):mu p f i=mu p g i:=by
  have:f=g:=funext h
  rw [this]
theorem Dv.nil (d:List Int):Dv d []:=⟨1,[],by decide,fun i=>by rw [Az];rfl⟩
theorem Dv.refl (d:List Int):Dv d d:=⟨1,[1],by decide,fun i=>by
  show 1*co d i=1*co d i+sh (mu [] (co d)) i
  have:sh (mu [] (co d)) i=0:=by cases i<;>rfl
  omega⟩
theorem Dv.congr {d f g:List Int} (h:Dv d f) (e:∀i,co f i=co g i):Dv d g:=by
  obtain⟨c,u,hc,hu⟩:=h
  exact⟨c,u,hc,fun i=>by rw [<-e];exact hu i⟩
theorem Dv.trans {d f g:List Int} (h1:Dv d f) (h2:Dv f g):Dv d g:=by
  obtain⟨c,u,hc,hu⟩:=h1
  obtain⟨e,v,he,hv⟩:=h2
  refine⟨c*e,ml v u,Int.mul_ne_zero hc he,fun i=> ?_⟩
  rw [Ml]
  have:mu v (fun k=>c*co f k) i=c*mu v (co f) i:=congrFun (Km v c (co f)) i
  rw [<-Jr hu v i,this,<-hv]
  rw [Int.mul_assoc]
theorem Dv.comb {d f g h:List Int} (hf:Dv d f) (hg:Dv d g) {k:Int} (hk:k≠0) {a b:List Int} (e:∀i,k*co h i=mu a (co f) i+mu b (co g) i):Dv d h:=by
  obtain⟨c,u,hc,hu⟩:=hf
  obtain⟨c',v,hc',hv⟩:=hg
  refine⟨c*c'*k,al ((ml a u).map (c'* ·)) ((ml b v).map (c* ·)),Int.mul_ne_zero (Int.mul_ne_zero hc hc') hk,fun i=> ?_⟩
  rw [Sh]
  dsimp only
  rw [Od,Od,Ml,Ml]
  have e1:mu a (mu u (co d)) i=c*mu a (co f) i:=by
    rw [<-Jr hu a i]
    exact congrFun (Km a c (co f)) i
  have e2:mu b (mu v (co d)) i=c'*mu b (co g) i:=by
    rw [<-Jr hv b i]
    exact congrFun (Km b c' (co g)) i
  rw [e1,e2,Int.mul_assoc,e]
  grind
theorem Dv.mul_left {d f:List Int} (h:Dv d f) (a:List Int):Dv d (tm a f):=by
  obtain⟨c,u,hc,hu⟩:=h
  refine⟨c,ml a u,hc,fun i=> ?_⟩
  rw [Ml,Ci,<-Jr hu a i]
  exact(congrFun (Km a c (co f)) i).symm
theorem Dv.zero {f:List Int} (hf:Tr f) (h:Dv [] f):f=[]:=by
  obtain⟨c,u,hc,hu⟩:=h
  refine hf.ext (.inl rfl) fun i=> ?_
  have:=hu i
  have e:mu u (co []) i=0:=by
    have:mu u (fun _=>0) i=0:=congrFun (Tp u) i
    rw [<-this]
    exact Jr (fun k=>Az k) u i
  rw [e]at this
  rw [Az]
  rcases Int.mul_eq_zero.mp this with z | z
  . exact absurd z hc
  . exact z
theorem Dv.scale {d f g:List Int} (h:Dv d f) {a b:Int} (hb:b≠0) (e:∀i,b*co g i=a*co f i):Dv d g:=by
  obtain⟨c,u,hc,hu⟩:=h
  refine⟨c*b,u.map (a* ·),Int.mul_ne_zero hc hb,fun i=> ?_⟩
  rw [Od,<-hu,Int.mul_assoc,e]
  grind
theorem Dv.of_scale {d f g:List Int} (h:Dv d f) {a b:Int} (ha:a≠0) (e:∀i,b*co g i=a*co d i):Dv g f:=by
  obtain⟨c,u,hc,hu⟩:=h
  refine⟨c*a,u.map (b* ·),Int.mul_ne_zero hc ha,fun i=> ?_⟩
  rw [Od]
  have e1:mu u (fun k=>a*co d k) i=a*mu u (co d) i:=congrFun (Km u a (co d)) i
  have e2:mu u (fun k=>b*co g k) i=b*mu u (co g) i:=congrFun (Km u b (co g)) i
  rw [<-e2,Jr e u i,e1,<-hu]
  grind
theorem Dv.len {d f:List Int} (hd:Tr d) (hf:Tr f) (n:f≠ []) (h:Dv d f):d≠ []/\d.length<=f.length:=by
  have hd0:d≠ []:=fun z=>by rw [z]at h;exact n (h.zero hf)
  refine⟨hd0,?_⟩
  obtain⟨c,u,hc,hu⟩:=h
  have hcf:∀i,co (tm u d) i=c*co f i:=fun i=>by rw [Ci,hu]
  have ln:tm u d≠ []:=fun z=>by
    have:=hcf (f.length-1)
    rw [z,Az]at this
    rcases Int.mul_eq_zero.mp this.symm with q | q
    . exact hc q
    . exact hf.lead n q
  have hu0:trim u≠ []:=fun z=>ln (by
    refine(Gy u d).ext (.inl rfl) fun i=> ?_
    rw [Ci,<-congrFun (Ax (co d) _ _ (Ak u)) i,z,Az]
    rfl)
  have e1:tm u d=tm (trim u) d:=(Gy _ _).ext (Gy _ _) fun i=>by rw [Ci,Ci,congrFun (Ax (co d) _ _ (Ak u)) i]
  have l1:=Oh (Av u) hd hu0 hd0
  have l2:(tm u d).length<=f.length:=by
    refine Nat.le_of_not_lt fun z=> ?_
    have:=(Gy u d).lead ln
    rw [hcf,Bm (by omega)]at this
    simp at this
  have l3:=List.length_pos_iff.mpr hu0
  rw [e1]at l2
  omega
structure Gc (p q g:List Int):Prop where
  tr:Tr g
  pl:pln g=g
  one:Dv g p
  two:Dv g q
  all:∀d,Dv d p->Dv d q->Dv d g
theorem Gc.symm {p q g:List Int} (h:Gc p q g):Gc q p g:=⟨h.tr,h.pl,h.two,h.one,fun d a b=>h.all d b a⟩
theorem Zj {g:List Int} (hg:Tr g) (n:g≠ []) (e:pln g=g):0<co g (g.length-1):=by
  have:=Nr hg n
  rw [e]at this
  exact this
theorem Aer {g h:List Int} (tg:Tr g) (th:Tr h) (pg:pln g=g) (ph:pln h=h) (a:Dv g h) (b:Dv h g):g=h:=by
  by_cases n:g=[]
  . subst n
    exact(a.zero th).symm
  . have nh:h≠ []:=fun z=>by rw [z]at b;exact n (b.zero tg)
    have l1:=(a.len tg th nh).2
    have l2:=(b.len th tg n).2
    obtain⟨c,u,hc,hu⟩:=a
    have hcf:∀i,co (tm u g) i=c*co h i:=fun i=>by rw [Ci,hu]
    have ln:tm u g≠ []:=fun z=>by
      have:=hcf (h.length-1)
      rw [z,Az]at this
      rcases Int.mul_eq_zero.mp this.symm with q | q
      . exact hc q
      . exact th.lead nh q
    have hu0:trim u≠ []:=fun z=>ln (by
      refine(Gy u g).ext (.inl rfl) fun i=> ?_
      rw [Ci,<-congrFun (Ax (co g) _ _ (Ak u)) i,z,Az]
      rfl)
    have e1:tm u g=tm (trim u) g:=(Gy _ _).ext (Gy _ _) fun i=>by rw [Ci,Ci,congrFun (Ax (co g) _ _ (Ak u)) i]
    have l3:=Oh (Av u) tg hu0 n
    have l4:(tm u g).length<=h.length:=by
      refine Nat.le_of_not_lt fun z=> ?_
      have:=(Gy u g).lead ln
      rw [hcf,Bm (by omega)]at this
      simp at this
    rw [e1]at l4
    have l5:=List.length_pos_iff.mpr hu0
    have lu:(trim u).length=1:=by omega
    obtain⟨k,hk⟩:∃k,trim u=[k]:=by
      match hm:trim u,lu with
      | [k],_=>exact⟨k,rfl⟩
    have hk0:k≠0:=by
      have:=(Av u).lead hu0
      rw [hk]at this
      exact this
    have eq:∀i,k*co g i=c*co h i:=fun i=>by
      rw [<-hcf,e1,Ci,hk]
      show k*co g i=k*co g i+sh (mu [] (co g)) i
      have:sh (mu [] (co g)) i=0:=by cases i<;>rfl
      omega
    have q1:Prim g:=by have:=Jh tg n;rw [pg]at this;exact this
    have q2:Prim h:=by have:=Jh th nh;rw [ph]at this;exact this
    have r:=Z0 hk0 hc q1 q2 eq (Zj tg n pg) (fun i hi=>Bm (by omega)) (Zj th nh ph) (fun i hi=>Bm (by omega))
    exact tg.ext th r.2
theorem Gc.uniq {p q g h:List Int} (a:Gc p q g) (b:Gc p q h):g=h:=Aer a.tr b.tr a.pl b.pl (b.all g a.one a.two) (a.all h b.one b.two)
theorem N8 {r:List Int} (hr:Tr r):Dv (pln r) r/\Dv r (pln r):=by
  by_cases n:r=[]
  . subst n
    exact⟨Dv.nil _,Dv.refl _⟩
  . have h:=Kc hr n
    have u0:=Qm hr n
    exact⟨(Dv.refl (pln r)).scale (a:=un r) (b:=1) (by decide) fun i=>by rw [h];omega,(Dv.refl r).scale (a:=1) (b:=un r) u0 fun i=>by rw [h];omega⟩
theorem Li {r:List Int} (hr:Tr r):pln (pln r)=pln r:=by
  by_cases n:r=[]
  . subst n;rfl
  . exact(Ac2 (Kh hr) (Qm hr n) hr fun k=>(Kc hr n k).symm).symm
def Rr (f g p q:List Int):Prop:=∀d,(Dv d f/\Dv d g)↔(Dv d p/\Dv d q)
theorem Rr.refl (f g:List Int):Rr f g f g:=fun _=>Iff.rfl
theorem Rr.trans {f g p q r s:List Int} (h:Rr f g p q) (k:Rr p q r s):Rr f g r s:=fun d=>(h d).trans (k d)
theorem Aa2 {f g t q:List Int}{L k:Int} (hL:L≠0) (hk:k≠0) (e:∀i,L*co f i=k*co t i+mu q (co g) i):Rr g t f g:=fun d=>by
  constructor
  . rintro⟨a,b⟩
    refine⟨Dv.comb a b hL (a:=q) (b:=[k]) fun i=> ?_,a⟩
    rw [e]
    have:mu [k] (co t) i=k*co t i:=by
      show k*co t i+sh (mu [] (co t)) i=_
      have:sh (mu [] (co t)) i=0:=by cases i<;>rfl
      omega
    rw [this]
    omega
  . rintro⟨a,b⟩
    refine⟨b,Dv.comb a b hk (a:=[L]) (b:=q.map (-1* ·)) fun i=> ?_⟩
    rw [Od]
    have:mu [L] (co f) i=L*co f i:=by
      show L*co f i+sh (mu [] (co f)) i=_
      have:sh (mu [] (co f)) i=0:=by cases i<;>rfl
      omega
    rw [this,e]
    omega
theorem Al6 {f p q:List Int} (hf:Tr f) (h:Rr f [] p q):Gc p q (pln f):=by
  have⟨a,b⟩:=N8 hf
  have⟨c,d⟩:=(h (pln f)).mp ⟨a,Dv.nil _⟩
  exact⟨Kh hf,Li hf,c,d,fun x hx hy=>((h x).mpr ⟨hx,hy⟩).1.trans b⟩
theorem Nm (c:Int) (hc:c≠0) (f:List Int):Dv [c] f:=⟨c,f,hc,fun i=>by
  have e:mu f (fun i=>c*if i=0 then 1 else 0) i=c*mu f (fun i=>if i=0 then 1 else 0) i:=congrFun (Km f c _) i
  have:co [c]=fun i=>c*if i=0 then 1 else 0:=by
    funext i
    cases i with
    | zero=>rw [Cd];simp
    | succ i=>rw [Ce,Az];simp
  rw [this,e,Aao]⟩
theorem Afz {f p q:List Int}{c:Int} (hc:c≠0) (h:Rr f [c] p q):Gc p q (pln [c]):=by
  have tc:Tr [c]:= .inr ⟨by simp,by simpa using hc⟩
  have⟨a,b⟩:=N8 tc
  have u:∀x,Dv (pln [c]) x:=fun x=>a.trans (Nm c hc x)
  exact⟨Kh tc,Li tc,u p,u q,fun x hx hy=>((h x).mpr ⟨hx,hy⟩).2.trans b⟩
end Z
namespace Z
theorem Aeh:∀(d n:Nat) (f:Nat->Nat),(∀i,i<n->f i<d)->(∀i j,i<n->j<n->f i=f j->i=j)->n<=d
  | 0,n,f,h,_=>by
    refine Nat.le_of_not_lt fun z=> ?_
    exact absurd (h 0 (by omega)) (Nat.not_lt_zero _)
  | d+1,n,f,h,inj=>by
    by_cases hx:∃i,i<n/\f i=d
    . obtain⟨i0,h0,e0⟩:=hx
      have:=Aeh d (n-1) (fun k=>f (if k<i0 then k else k+1)) (fun i hi=>by
        have a:=h (if i<i0 then i else i+1) (by split<;>omega)
        have b:f (if i<i0 then i else i+1)≠d:=fun z=>by
          have:=inj _ _ (by split<;>omega) h0 (z.trans e0.symm)
          split at this<;>omega
        omega) (fun i j hi hj e=>by
        have:=inj _ _ (by split<;>omega) (by split<;>omega) e
        split at this<;>split at this<;>omega)
      omega
    . have:=Aeh d n f (fun i hi=>by
        have a:=h i hi
        have b:f i≠d:=fun z=>hx ⟨i,hi,z⟩
        omega) inj
      omega
def pm (m:Nat):Nat->Nat->Nat->Nat
  | 0,_,_=>1%m
  | k+1,b,e=>if e%2=1 then b*pm m k (b*b%m) (e/2)%m else pm m k (b*b%m) (e/2)%m
theorem Aif (m:Nat):∀(k b e:Nat),e<2^k->pm m k b e=b^e%m
  | 0,b,e,h=>by
    have:e=0:=by simp at h;exact h
    subst this
    simp [pm]
  | k+1,b,e,h=>by
    have h2:e/2<2^k:=by rw [Nat.pow_succ]at h;omega
    have ih:=Aif m k (b*b%m) (e/2) h2
    have e1:(b*b%m)^(e/2)%m=(b*b)^(e/2)%m:=(Nat.pow_mod (b*b) (e/2) m).symm
    have e2:(b*b)^(e/2)=b^(2*(e/2)):=by rw [Nat.pow_mul,Nat.pow_succ,Nat.pow_one]
    rw [pm,ih,e1,e2]
    by_cases o:e%2=1
    . rw [if_pos o]
      have e3:b^e=b*b^(2*(e/2)):=by
        rw [<-Nat.pow_succ']
        congr 1
        omega
      rw [e3]
      rw [Nat.mul_mod b (b^(2*(e/2))%m),Nat.mod_mod,<-Nat.mul_mod]
    . rw [if_neg o,Nat.mod_mod]
      congr 2
      omega
section
variable {d g:Nat}
def Lv (d g e:Nat):Prop:=∃k:Int,((g^e:Nat):Int)=1+d*k
theorem Lv.mul {a b:Nat} (ha:Lv d g a) (hb:Lv d g b):Lv d g (a+b):=by
  obtain⟨x,hx⟩:=ha
  obtain⟨y,hy⟩:=hb
  refine⟨x+y+d*x*y,?_⟩
  rw [Nat.pow_add,Int.natCast_mul,hx,hy]
  grind
theorem Lv.many {a:Nat} (ha:Lv d g a):∀n,Lv d g (n*a)
  | 0=>⟨0,by simp⟩
  | n+1=>by
    rw [Nat.add_mul,Nat.one_mul]
    exact(ha.many n).mul ha
theorem Lv.diff {a b:Nat} (ha:Lv d g a) (hb:Lv d g (a+b)):Lv d g b:=by
  obtain⟨x,hx⟩:=ha
  obtain⟨y,hy⟩:=hb
  refine⟨y-x*(g^b:Nat),?_⟩
  rw [Nat.pow_add,Int.natCast_mul,hx]at hy
  grind
theorem Lv.gcd {a:Nat}:∀ {b:Nat},Lv d g a->Lv d g b->Lv d g (Nat.gcd a b):=fun {b}=>by
  induction a using Nat.strongRecOn generalizing b with
  | _ a ih=>
    intro ha hb
    by_cases z:a=0
    . subst z;rw [Nat.gcd_zero_left];exact hb
    . rw [Nat.gcd_rec]
      have h1:Lv d g (b%a):=by
        have:=Nat.div_add_mod b a
        rw [<-this]at hb
        refine Lv.diff (a:=a*(b/a)) ?_ hb
        rw [Nat.mul_comm]
        exact ha.many _
      exact ih (b%a) (Nat.mod_lt _ (by omega)) h1 ha
end
theorem Af8 {f:Nat} (h:∀r,r<=f->r∣f->r=1\/r=f) (hf:0<f) {r:Nat} (h2:2<=r) (hd:r∣f):r=f:=by
  rcases h r (Nat.le_of_dvd hf hd) hd with z | z
  . omega
  . exact z
def M61:Nat:=2305843009213693951
set_option maxRecDepth 100000 in
theorem Aij {d:Nat} (h:d∣M61) (h1:1<d):d=M61:=by
  have dpos:0<d:=by omega
  have full:Lv d 37 (M61-1):=by
    have e:pm M61 61 37 (M61-1)=1:=by decide+kernel
    rw [Aif M61 61 37 (M61-1) (by decide)]at e
    obtain⟨t,ht⟩:=h
    refine⟨(t*(37^(M61-1)/M61):Nat),?_⟩
    have q:=Nat.div_add_mod (37^(M61-1)) M61
    rw [e]at q
    have q2:((37^(M61-1):Nat):Int)=((M61*(37^(M61-1)/M61)+1:Nat):Int):=by rw [q]
    rw [q2]
    generalize 37^(M61-1)/M61=z
    have ht':((M61:Nat):Int)=(d:Int)*t:=by rw [<-Int.natCast_mul,<-ht]
    rw [Int.natCast_add,Int.natCast_mul,ht',Int.natCast_mul]
    grind
  have part:∀f:Nat,f∣M61-1->Nat.gcd (pm M61 61 37 ((M61-1)/f)+(M61-1)) M61=1->¬Lv d 37 ((M61-1)/f):=fun f hf hg hl=>by
    have lt:(M61-1)/f<2^61:=Nat.lt_of_le_of_lt (Nat.div_le_self _ _) (by decide)
    rw [Aif M61 61 37 _ lt]at hg
    obtain⟨k,hk⟩:=hl
    have hd:d∣37^((M61-1)/f)%M61+(M61-1):=by
      obtain⟨t,ht⟩:=h
      have q:=Nat.div_add_mod (37^((M61-1)/f)) M61
      generalize 37^((M61-1)/f)=w at*
      have ht':((M61:Nat):Int)=(d:Int)*t:=by rw [<-Int.natCast_mul,<-ht]
      have m1:1<=M61:=by decide
      have:((d:Nat):Int)∣((w%M61+(M61-1):Nat):Int):=by
        refine⟨k+t-t*((w/M61:Nat):Int),?_⟩
        have q2:(w:Int)=(d:Int)*t*((w/M61:Nat):Int)+((w%M61:Nat):Int):=by
          rw [<-ht',<-Int.natCast_mul,<-Int.natCast_add,q]
        have q3:((w%M61+(M61-1):Nat):Int)=((w%M61:Nat):Int)+(M61:Int)-1:=by omega
        rw [q3,ht']
        grind
      exact Int.natCast_dvd_natCast.mp this
    have:=Nat.dvd_gcd hd h
    rw [hg]at this
    have:=Nat.le_of_dvd (by decide) this
    omega
  have inj:∀i j,i<j->j<M61-1->37^i%d≠37^j%d:=fun i j hij hj e=>by
    have l1:Lv d 37 (j-i):=by
      have l2:Lv d 37 (M61-1+(j-i)):=by
        obtain⟨x,hx⟩:=full
        have q1:=Nat.div_add_mod (37^i) d
        have q2:=Nat.div_add_mod (37^j) d
        rw [e]at q1
        have dif:((37^j:Nat):Int)=((37^i:Nat):Int)+d*(((37^j/d:Nat):Int)-((37^i/d:Nat):Int)):=by
          have a1:((37^i:Nat):Int)=d*((37^i/d:Nat):Int)+((37^j%d:Nat):Int):=by
            rw [<-Int.natCast_mul,<-Int.natCast_add,q1]
          have a2:((37^j:Nat):Int)=d*((37^j/d:Nat):Int)+((37^j%d:Nat):Int):=by
            rw [<-Int.natCast_mul,<-Int.natCast_add,q2]
          rw [a1,a2]
          grind
        have e1:37^(M61-1+(j-i))=37^(M61-1-i)*37^j:=by
          rw [<-Nat.pow_add]
          congr 1
          omega
        have e2:37^(M61-1)=37^(M61-1-i)*37^i:=by
          rw [<-Nat.pow_add]
          congr 1
          omega
        refine⟨x+((37^(M61-1-i):Nat):Int)*(((37^j/d:Nat):Int)-((37^i/d:Nat):Int)),?_⟩
        rw [e1,Int.natCast_mul,dif]
        rw [e2,Int.natCast_mul]at hx
        grind
      exact full.diff l2
    have l3:=Lv.gcd full l1
    have gd:Nat.gcd (M61-1) (j-i)∣M61-1:=Nat.gcd_dvd_left _ _
    have gle:Nat.gcd (M61-1) (j-i)<=j-i:=Nat.le_of_dvd (by omega) (Nat.gcd_dvd_right _ _)
    obtain⟨t,ht⟩:=gd
    generalize Nat.gcd (M61-1) (j-i)=e at*
    have t1:t≠1:=fun z=>by rw [z]at ht;omega
    obtain⟨r,r2,rd,rp⟩:=Aan t t1
    have rM:r∣M61-1:=by rw [ht];exact Nat.dvd_trans rd (Nat.dvd_mul_left _ _)
    have l4:Lv d 37 ((M61-1)/r):=by
      obtain⟨s,hs⟩:=rd
      have:(M61-1)/r=s*e:=by
        rw [ht,hs,show e*(r*s)=r*(s*e)by grind]
        exact Nat.mul_div_cancel_left _ (by omega)
      rw [this]
      exact l3.many s
    have fac:((M61-1:Nat):Int)=2*(3*(3*(5*(5*(7*(11*(13*(31*(41*(61*(151*(331*1321)))))))))))):=by decide
    have rM':(r:Int)∣((M61-1:Nat):Int):=Int.natCast_dvd_natCast.mpr rM
    rw [fac]at rM'
    have dn:∀ {f:Nat},(r:Int)∣(f:Nat)->r∣f:=fun h=>Int.natCast_dvd_natCast.mp h
    have fin:∀ {f:Nat},(r:Int)∣(f:Nat)->(∀r,r<=f->r∣f->r=1\/r=f)->0<f->f∣M61-1->Nat.gcd (pm M61 61 37 ((M61-1)/f)+(M61-1)) M61=1->False:=fun hd hs hf hm hg=>by
      have:=Af8 hs hf r2 (dn hd)
      subst this
      exact part _ hm hg l4
    rcases rp _ _ rM' with z | z
    . exact fin (f:=2) z (by decide) (by decide) (by decide) (by decide+kernel)
    rcases rp _ _ z with z | z
    . exact fin (f:=3) z (by decide) (by decide) (by decide) (by decide+kernel)
    rcases rp _ _ z with z | z
    . exact fin (f:=3) z (by decide) (by decide) (by decide) (by decide+kernel)
    rcases rp _ _ z with z | z
    . exact fin (f:=5) z (by decide) (by decide) (by decide) (by decide+kernel)
    rcases rp _ _ z with z | z
    . exact fin (f:=5) z (by decide) (by decide) (by decide) (by decide+kernel)
    rcases rp _ _ z with z | z
    . exact fin (f:=7) z (by decide) (by decide) (by decide) (by decide+kernel)
    rcases rp _ _ z with z | z
    . exact fin (f:=11) z (by decide) (by decide) (by decide) (by decide+kernel)
    rcases rp _ _ z with z | z
    . exact fin (f:=13) z (by decide) (by decide) (by decide) (by decide+kernel)
    rcases rp _ _ z with z | z
    . exact fin (f:=31) z (by decide) (by decide) (by decide) (by decide+kernel)
    rcases rp _ _ z with z | z
    . exact fin (f:=41) z (by decide) (by decide) (by decide) (by decide+kernel)
    rcases rp _ _ z with z | z
    . exact fin (f:=61) z (by decide) (by decide) (by decide) (by decide+kernel)
    rcases rp _ _ z with z | z
    . exact fin (f:=151) z (by decide) (by decide) (by decide) (by decide+kernel)
    rcases rp _ _ z with z | z
    . exact fin (f:=331) z (by decide+kernel) (by decide) (by decide) (by decide+kernel)
    . exact fin (f:=1321) z (by decide+kernel) (by decide) (by decide) (by decide+kernel)
  have big:M61-1<=d:=by
    refine Aeh d (M61-1) (fun i=>37^i%d) (fun i _=>Nat.mod_lt _ dpos) fun i j hi hj e=> ?_
    rcases Nat.lt_trichotomy i j with z | z | z
    . exact absurd e (inj i j z hj)
    . exact z
    . exact absurd e.symm (inj j i z hi)
  obtain⟨t,ht⟩:=h
  have t1:t=1:=by
    have:t<2:=by
      refine Nat.lt_of_not_le fun z=> ?_
      have:=Nat.mul_le_mul big z
      rw [<-ht]at this
      exact absurd this (by decide)
    have:t≠0:=fun z=>by rw [z,Nat.mul_zero]at ht;exact absurd ht (by decide)
    omega
  rw [t1]at ht
  omega
theorem Ajc {a:Int} (h:¬(2305843009213693951:Int)∣a):Int.gcd a 2305843009213693951=1:=by
  have h1:Int.gcd a 2305843009213693951∣M61:=by
    have:=Int.gcd_dvd_right a 2305843009213693951
    exact Int.natCast_dvd_natCast.mp this
  by_cases z:Int.gcd a 2305843009213693951=1
  . exact z
  . exfalso
    have p:0<Int.gcd a 2305843009213693951:=Int.gcd_pos_of_ne_zero_right _ (by decide)
    have e:=Aij h1 (by omega)
    have:=Int.gcd_dvd_left a 2305843009213693951
    rw [e]at this
    exact h this
end Z
namespace Z
theorem Ae4 (c:Int) (j:Nat) (f:Nat->Int) (i:Nat):mu (List.replicate j 0++ [c]) f i=if j<=i then c*f (i-j)else 0:=by
  rw [Nb,Vf,List.length_replicate,Int.zero_add]
theorem Ahp {q:List Int} (tq:Tr q) (hq:q≠ []):∀(n:Nat) (p:List Int),p.length<=n->∃(s:Int) (u r:List Int),s≠0/\(∀k,s*co p k=mu u (co q) k+co r k)/\Tr r/\r.length<q.length
  | 0,p,h=>⟨1,[],[],by decide,fun k=>by rw [Bm (by omega),Az];rfl,.inl rfl,List.length_pos_iff.mpr hq⟩
  | n+1,p,h=>by
    have hl:=List.length_pos_iff.mpr hq
    by_cases hp:p.length<q.length
    . exact⟨1,[],trim p,by decide,fun k=>by rw [Ak,Int.one_mul];show co p k=0+co p k;omega,Av _,Nat.lt_of_le_of_lt ((Av p).len fun i=>Ak p i) hp⟩
    . obtain⟨l,hlq⟩:∃l,l=co q (q.length-1):=⟨_,rfl⟩
      have l0:l≠0:=by rw [hlq];exact tq.lead hq
      obtain⟨c,hc⟩:∃c,c=co p (p.length-1):=⟨_,rfl⟩
      obtain⟨j,hj⟩:∃j,j=p.length-q.length:=⟨_,rfl⟩
      have e1:∀k,co (al (p.map (l* ·)) ((ml (List.replicate j 0++ [c]) q).map (-1* ·))) k=l*co p k-(if j<=k then c*co q (k-j)else 0):=fun k=>by
        rw [R9,Ds,Ds,Pq,Ae4]
        omega
      obtain⟨s,u,r,hs,he,tr,lr⟩:=Ahp tq hq n (trim (al (p.map (l* ·)) ((ml (List.replicate j 0++ [c]) q).map (-1* ·)))) (by
        have h1:=(Av (al (p.map (l* ·)) ((ml (List.replicate j 0++ [c]) q).map (-1* ·)))).len (q:=(trim (al (p.map (l* ·)) ((ml (List.replicate j 0++ [c]) q).map (-1* ·)))).take n) fun k=>by
          rw [Ks]
          split
          . rfl
          . rw [Ak,e1,if_pos (by omega)]
            by_cases hk:k=p.length-1
            . rw [hk,<-hc,show p.length-1-j=q.length-1 by omega,<-hlq]
              grind
            . rw [Bm (p:=p) (by omega),Bm (p:=q) (by omega)]
              simp
        rw [List.length_take]at h1
        omega)
      refine⟨s*l,al u ((List.replicate j 0++ [c]).map (s* ·)),r,Int.mul_ne_zero hs l0,fun k=> ?_,tr,lr⟩
      rw [Sh]
      dsimp only
      rw [Od,Ae4]
      have:=he k
      rw [Ak,e1]at this
      rw [Int.mul_assoc]
      have e2:s*(l*co p k)=s*(l*co p k-(if j<=k then c*co q (k-j)else 0))+s*(if j<=k then c*co q (k-j)else 0):=by rw [Int.mul_sub];omega
      rw [e2,this]
      omega
theorem bez:∀(n:Nat) (t s:List Int),t.length<=n->Tr t->∃(g a b:List Int) (c:Int),c≠0/\Dv g s/\Dv g t/\∀i,c*co g i=mu a (co s) i+mu b (co t) i
  | n,t,s,h,tt=>by
    by_cases ht:t=[]
    . subst ht
      refine⟨s,[1],[],1,by decide,Dv.refl _,Dv.nil _,fun i=> ?_⟩
      show 1*co s i=1*co s i+sh (mu [] (co s)) i+0
      have:sh (mu [] (co s)) i=0:=by cases i<;>rfl
      omega
    . match n with
      | 0=>exact absurd (List.eq_nil_of_length_eq_zero (by omega)) ht
      | n+1=>
        obtain⟨k,u,r,hk,he,tr,lr⟩:=Ahp tt ht s.length s (Nat.le_refl _)
        obtain⟨g,a,b,c,hc,h1,h2,h3⟩:=bez n r t (by omega) tr
        refine⟨g,b.map (k* ·),al a ((ml b u).map (-1* ·)),c,hc,Dv.comb h1 h2 hk (a:=u) (b:=[1]) fun i=> ?_,h1,fun i=> ?_⟩
        . rw [he]
          have:mu [1] (co r) i=co r i:=by
            show 1*co r i+sh (mu [] (co r)) i=_
            have:sh (mu [] (co r)) i=0:=by cases i<;>rfl
            omega
          rw [this]
        . rw [h3,Od,Sh]
          dsimp only
          rw [Od,Ml]
          have e:mu b (co r) i=mu b (fun j=>k*co s j-mu u (co t) j) i:=Jr (fun j=>by have:=he j;omega) b i
          have e2:=congrFun (Qk b (fun j=>k*co s j-mu u (co t) j) (mu u (co t))) i
          have e3:(fun j=>k*co s j-mu u (co t) j+mu u (co t) j)=fun j=>k*co s j:=by funext j;omega
          rw [e3]at e2
          have e4:mu b (fun j=>k*co s j) i=k*mu b (co s) i:=congrFun (Km b k (co s)) i
          rw [e4]at e2
          rw [e]
          omega
theorem Gc.bez {p q g:List Int} (tq:Tr q) (h:Gc p q g):∃(a b:List Int) (c:Int),c≠0/\∀i,c*co g i=mu a (co p) i+mu b (co q) i:=by
  obtain⟨g',a,b,c,hc,h1,h2,h3⟩:=Z.bez q.length q p (Nat.le_refl _) tq
  obtain⟨e,w,he,hw⟩:=h.all g' h1 h2
  refine⟨ml w a,ml w b,c*e,Int.mul_ne_zero hc he,fun i=> ?_⟩
  rw [Ml,Ml,Int.mul_assoc,hw]
  have e1:mu w (fun k=>c*co g' k) i=c*mu w (co g') i:=congrFun (Km w c (co g')) i
  rw [<-e1,Jr h3 w i]
  exact congrFun (Qk w (mu a (co p)) (mu b (co q))) i
theorem Dv.times {d e:List Int} (h:Dv d e) (f:List Int):Dv (tm f d) (tm f e):=by
  obtain⟨c,u,hc,hu⟩:=h
  refine⟨c,u,hc,fun i=> ?_⟩
  rw [Ci]
  have e1:mu u (co (tm f d)) i=mu u (mu f (co d)) i:=Jr (fun k=>Ci f d k) u i
  have e2:mu u (mu f (co d)) i=mu f (mu u (co d)) i:=by
    have a1:=congrFun (Ml (co d) u f) i
    have a2:=congrFun (Ml (co d) f u) i
    rw [<-a1,<-a2]
    refine congrFun (Ax (co d) _ _ fun k=> ?_) i
    rw [Pq,Pq,J8]
  rw [e1,e2,<-Jr hu f i]
  exact(congrFun (Km f c (co e)) i).symm
theorem Gc.times {s t g0 f:List Int} (tt:Tr t) (h:Gc s t g0):Gc (tm f s) (tm f t) (pln (tm f g0)):=by
  have tr:=Gy f g0
  have⟨a,b⟩:=N8 tr
  obtain⟨x,y,c,hc,hb⟩:=h.bez tt
  refine⟨Kh tr,Li tr,a.trans (h.one.times f),a.trans (h.two.times f),fun d h1 h2=>Dv.trans (Dv.comb h1 h2 hc (a:=x) (b:=y) fun i=> ?_) b⟩
  rw [Ci]
  have sw:∀(u v:List Int),mu u (co (tm f v)) i=mu f (mu u (co v)) i:=fun u v=>by
    have e1:mu u (co (tm f v)) i=mu u (mu f (co v)) i:=Jr (fun k=>Ci f v k) u i
    rw [e1]
    have a1:=congrFun (Ml (co v) u f) i
    have a2:=congrFun (Ml (co v) f u) i
    rw [<-a1,<-a2]
    refine congrFun (Ax (co v) _ _ fun k=> ?_) i
    rw [Pq,Pq,J8]
  rw [sw,sw]
  have e1:mu f (fun k=>c*co g0 k) i=c*mu f (co g0) i:=congrFun (Km f c (co g0)) i
  rw [<-e1,Jr hb f i]
  exact congrFun (Qk f (mu x (co s)) (mu y (co t))) i
end Z
namespace Z
def Dm (t:Int) (d f:List Int):Prop:=∃u:List Int,∀i,t∣co f i-mu u (co d) i
theorem Aj4 (p:List Int) (f g:Nat->Int) (i:Nat):mu p f i-mu p g i=mu p (fun k=>f k-g k) i:=by
  have h1:=congrFun (Qk p (fun k=>f k-g k) g) i
  have h2:(fun k=>f k-g k+g k)=f:=by funext k;omega
  rw [h2]at h1
  omega
theorem Zh {t:Int}{f g:Nat->Int} (h:∀i,t∣f i-g i) (p:List Int) (i:Nat):t∣mu p f i-mu p g i:=by
  rw [Aj4]
  exact Aew t p _ i fun j _=>h j
theorem Zz {t a b c:Int} (h1:t∣a-b) (h2:t∣b-c):t∣a-c:=by
  have:=Int.dvd_add h1 h2
  rw [show a-b+(b-c)=a-c by omega]at this
  exact this
theorem Wo {t a b:Int} (h:t∣a-b):t∣b-a:=by
  have:=(Int.dvd_neg (a:=t) (b:=a-b)).mpr h
  rw [show-(a-b)=b-a by omega]at this
  exact this
theorem Dm.refl (t:Int) (d:List Int):Dm t d d:=⟨[1],fun i=>by
  have:mu [1] (co d) i=co d i:=by
    show 1*co d i+sh (mu [] (co d)) i=_
    have:sh (mu [] (co d)) i=0:=by cases i<;>rfl
    omega
  rw [this,Int.sub_self]
  exact Int.dvd_zero _⟩
theorem Dm.nil (t:Int) (d:List Int):Dm t d []:=⟨[],fun i=>by
  rw [Az]
  exact⟨0,by simp [mu]⟩⟩
theorem Dm.comb {t:Int}{d f g h:List Int} (hf:Dm t d f) (hg:Dm t d g) {a b:List Int} (e:∀i,t∣co h i-(mu a (co f) i+mu b (co g) i)):Dm t d h:=by
  obtain⟨u,hu⟩:=hf
  obtain⟨v,hv⟩:=hg
  refine⟨al (ml a u) (ml b v),fun i=> ?_⟩
  rw [Sh]
  dsimp only
  rw [Ml,Ml]
  have h1:=Zh hu a i
  have h2:=Zh hv b i
  have h3:=Int.dvd_add h1 h2
  refine Zz (e i) ?_
  rw [show mu a (co f) i+mu b (co g) i-(mu a (mu u (co d)) i+mu b (mu v (co d)) i)=mu a (co f) i-mu a (mu u (co d)) i+(mu b (co g) i-mu b (mu v (co d)) i)by omega]
  exact h3
theorem Ams (k:Int) (f:Nat->Int) (i:Nat):mu [k] f i=k*f i:=by
  show k*f i+sh (mu [] f) i=_
  have:sh (mu [] f) i=0:=by cases i<;>rfl
  omega
theorem Dm.by {t:Int}{d f g:List Int} (h:Dm t d f) {k:Int} (e:∀i,t∣co g i-k*co f i):Dm t d g:=
  Dm.comb h (Dm.nil t d) (a:=[k]) (b:=[]) fun i=>by
    rw [Ams]
    have:mu [] (co []) i=0:=rfl
    rw [this,Int.add_zero]
    exact e i
theorem Dm.congr {t:Int}{d f g:List Int} (h:Dm t d f) (e:∀i,t∣co g i-co f i):Dm t d g:=h.by (k:=1) fun i=>by rw [Int.one_mul];exact e i
theorem Dm.trans {t:Int}{d f g:List Int} (h1:Dm t d f) (h2:Dm t f g):Dm t d g:=by
  obtain⟨v,hv⟩:=h2
  exact Dm.comb h1 (Dm.nil t d) (a:=v) (b:=[]) fun i=>by
    have:mu [] (co []) i=0:=rfl
    rw [this,Int.add_zero]
    exact hv i
def Aig (t:Int) (f g p q:List Int):Prop:=∀d,(Dm t d f/\Dm t d g)↔(Dm t d p/\Dm t d q)
theorem Abu {t:Int}{f g r u:List Int} (e:∀i,t∣co f i-(mu u (co g) i+co r i)):Aig t g r f g:=fun d=>by
  constructor
  . rintro⟨a,b⟩
    refine⟨Dm.comb a b (a:=u) (b:=[1]) fun i=> ?_,a⟩
    rw [Ams,Int.one_mul]
    exact e i
  . rintro⟨a,b⟩
    refine⟨b,Dm.comb a b (a:=[1]) (b:=u.map (-1* ·)) fun i=> ?_⟩
    rw [Ams]
    have:mu (u.map (-1* ·)) (co g) i= -1*mu u (co g) i:=congrFun (Gx (co g) (-1) u) i
    rw [this]
    have h:=Wo (e i)
    rw [show co r i-(1*co f i+ -1*mu u (co g) i)=mu u (co g) i+co r i-co f i by omega]
    exact h
def Pr (t:Int):Prop:=1<t/\∀a:Int,¬t∣a->Int.gcd a t=1
theorem Pr.or {t:Int} (h:Pr t) {a b:Int} (d:t∣a*b):t∣a\/t∣b:=by
  by_cases ha:t∣a
  . exact .inl ha
  . have c:Nat.Coprime t.natAbs a.natAbs:=by
      have:=h.2 a ha
      rw [Int.gcd_comm]at this
      exact this
    have d2:t.natAbs∣a.natAbs*b.natAbs:=by
      rw [<-Int.natAbs_mul]
      exact Int.natAbs_dvd_natAbs.mpr d
    exact .inr (Int.natAbs_dvd_natAbs.mp (c.dvd_of_dvd_mul_left d2))
theorem Nk {e p:List Int} (te:Tr e) (ne:e≠ []) (pe:Prim e) (h:Dv e p):Exact p e:=by
  obtain⟨c,u,hc,hu⟩:=h
  have key:∀k,c∣co u k:=by
    by_cases hz:∀k,co u k=0
    . intro k;rw [hz k];exact Int.dvd_zero _
    . have tn:trim u≠ []:=fun z=>hz fun k=>by rw [<-Ak,z,Az]
      have tu:=Av u
      have pp:=Jh tu tn
      have up:=Kc tu tn
      have pr:Prim (tm (pln (trim u)) e):=Akw pp pe fun k=>Ci _ _ k
      have d1:∀k,c∣un (trim u)*co (tm (pln (trim u)) e) k:=fun k=>by
        refine⟨co p k,?_⟩
        rw [hu,Ci]
        have e1:mu u (co e) k=mu (trim u) (co e) k:=(congrFun (Ax (co e) _ _ (Ak u)) k).symm
        have e2:mu ((pln (trim u)).map (un (trim u)* ·)) (co e) k=un (trim u)*mu (pln (trim u)) (co e) k:=congrFun (Gx (co e) (un (trim u)) _) k
        rw [e1,<-e2]
        refine congrFun (Ax (co e) _ _ fun i=> ?_) k
        rw [Ds,up]
      have d2:=Qa d1
      rw [pr.gl]at d2
      intro k
      rw [<-Ak,<-up k]
      have:c∣un (trim u):=by simpa using d2
      exact Int.dvd_trans this (Int.dvd_mul_right _ _)
  refine⟨u.map (· /c),fun k=> ?_⟩
  have e1:mu ((u.map (· /c)).map (c* ·)) (co e) k=c*mu (u.map (· /c)) (co e) k:=congrFun (Gx (co e) c _) k
  have e2:mu ((u.map (· /c)).map (c* ·)) (co e) k=mu u (co e) k:=congrFun (Ax (co e) _ _ fun i=>by
    rw [Ds,Td (f:=(· /c)) (Int.zero_ediv c)]
    exact Int.mul_ediv_cancel' (key i)) k
  rw [e1,<-hu]at e2
  exact(Int.eq_of_mul_eq_mul_left hc e2).symm
theorem apart {t:Int} (ht:Pr t) {p q:List Int} (tp:Tr p) (np:p≠ []) (hl:¬t∣co p (p.length-1)) (h:∀d,Dm t d p->Dm t d q->Dm t d [1]):Gc p q [1]:=by
  have t1:Tr [1]:= .inr ⟨by simp,by decide⟩
  have p1:pln [1]=[1]:=by decide
  refine⟨t1,p1,Nm 1 (by decide) p,Nm 1 (by decide) q,fun d dp dq=> ?_⟩
  have dt:Dv (trim d) d/\Dv d (trim d):=⟨(Dv.refl (trim d)).congr fun i=>Ak d i,(Dv.refl d).congr fun i=>(Ak d i).symm⟩
  have td:=Av d
  have nd:trim d≠ []:=fun z=>by
    have:=dt.1.trans dp
    rw [z]at this
    exact np (this.zero tp)
  have⟨pa,pb⟩:=N8 td
  have te:=Kh td
  have ne:pln (trim d)≠ []:=fun z=>by
    have:=G4 (trim d)
    rw [z,List.length_nil]at this
    exact nd (List.eq_nil_of_length_eq_zero this.symm)
  have pe:=Jh td nd
  have de:Dv d (pln (trim d)):=dt.2.trans pb
  have ed:Dv (pln (trim d)) d:=pa.trans dt.1
  obtain⟨w,hw⟩:=Nk te ne pe (ed.trans dp)
  obtain⟨w',hw'⟩:=Nk te ne pe (ed.trans dq)
  generalize pln (trim d)=e at*
  have m1:Dm t e p:=⟨w,fun i=>by rw [hw,Int.sub_self];exact Int.dvd_zero _⟩
  have m2:Dm t e q:=⟨w',fun i=>by rw [hw',Int.sub_self];exact Int.dvd_zero _⟩
  obtain⟨u,hu⟩:=h e m1 m2
  have le:¬t∣co e (e.length-1):=fun z=>hl (by
    have wn:trim w≠ []:=fun y=>by
      have:=tp.lead np
      rw [hw,<-congrFun (Ax (co e) _ _ (Ak w)) _,y]at this
      exact this rfl
    have e1:p=tm (trim w) e:=tp.ext (Gy _ _) fun i=>by rw [hw,Ci,congrFun (Ax (co e) _ _ (Ak w)) i]
    have l1:=Oh (Av w) te wn ne
    have lw:=List.length_pos_iff.mpr wn
    have lee:=List.length_pos_iff.mpr ne
    rw [hw,<-congrFun (Ax (co e) _ _ (Ak w)) _,Ld (trim w) e (p.length-1) wn ne (by rw [e1];omega)]
    exact Int.dvd_trans z (Int.dvd_mul_left _ _))
  have l1:e.length=1:=by
    have lee:=List.length_pos_iff.mpr ne
    by_cases z:e.length=1
    . exact z
    . exfalso
      have cu:∀i,t∣co (u.map (· %t)) i-co u i:=fun i=>by
        rw [Td (f:=(· %t)) (Int.zero_emod t)]
        refine⟨-(co u i/t),?_⟩
        have:=Int.mul_ediv_add_emod (co u i) t
        rw [Int.mul_neg]
        omega
      have hu2:∀i,t∣co [1] i-mu (trim (u.map (· %t))) (co e) i:=fun i=>by
        refine Zz (hu i) ?_
        rw [congrFun (Ax (co e) _ _ (Ak (u.map (· %t)))) i,J8 u e,J8 (u.map (· %t)) e]
        exact Zh (fun k=>Wo (cu k)) e i
      by_cases un:trim (u.map (· %t))=[]
      . have:=hu2 0
        rw [un]at this
        have h1:t∣1:=by simpa [mu,Cd]using this
        have:=Int.le_of_dvd (by decide) h1
        have:=ht.1
        omega
      . have lu:=List.length_pos_iff.mpr un
        have:=hu2 ((trim (u.map (· %t))).length+e.length-2)
        rw [Ld _ e _ un ne (by omega),Bm (p:=[1]) (by show 1<=_;omega),Int.zero_sub]at this
        rcases ht.or ((Int.dvd_neg).mp this)with z1 | z1
        . have ld:=(Av (u.map (· %t))).lead un
          rw [Ak,Td (f:=(· %t)) (Int.zero_emod t)]at ld z1
          have r0:=Int.emod_nonneg (co u ((trim (u.map (· %t))).length-1)) (show t≠0 by have:=ht.1;omega)
          have r1:=Int.emod_lt_of_pos (co u ((trim (u.map (· %t))).length-1)) (show 0<t by have:=ht.1;omega)
          have:=Int.le_of_dvd (by omega) z1
          omega
        . exact le z1
  match e,l1 with
  | [k],_=>
    have k0:k≠0:=by
      have:=te.lead ne
      exact this
    exact de.trans (Nm k k0 [1])
theorem Ahq:Pr 2305843009213693951:=⟨by decide,fun _ h=>Ajc h⟩
end Z
namespace Z
structure MV (m:Int) (p q qs rs:List Int) (j:Nat):Prop where
  eq:∀k,m∣co p k-(mu qs (co q) k+co rs k)
  top:∀k,j+q.length<=k+1->co rs k=0
  low:∀k,k<j->co qs k=0
  rq:∀k,0<=co qs k/\co qs k<m
  rr:∀k,0<=co rs k/\co rs k<m
theorem Y8 (n k:Nat):co (List.replicate n (0:Int)) k=0:=by
  unfold co
  rw [List.getD_eq_getElem?_getD,List.getElem?_replicate]
  split<;>rfl
theorem MV.start {m:Int} (hm:0<m) {p q rs:List Int} (hq:q≠ []) (h:∀k,m∣co p k-co rs k) (hr:∀k,0<=co rs k/\co rs k<m):MV m p q (List.replicate (rs.length+1-q.length) 0) rs (rs.length+1-q.length):=by
  have hl:0<q.length:=List.length_pos_iff.mpr hq
  refine⟨fun k=>by rw [Vf,Int.zero_add];exact h k,fun k h=>Bm (by omega),fun k h=>Y8 _ _,fun k=> ?_,hr⟩
  rw [Y8]
  omega
theorem MV.step {m:Int} (hm:0<m) {p q qs rs:List Int}{j:Nat} (h:MV m p q qs rs (j+1)) (hq:q≠ []) {f:Int} (hj:j<qs.length) (f0:0<=f) (f1:f<m) (ef:m∣co rs (j+(q.length-1))-f*co q (q.length-1))
    {rs':List Int} (hr:∀k,co rs' k=(co rs k-(if j<=k then f*co q (k-j)else 0))%m):MV m p q (qs.set j f) rs' j:=by
  have hl:0<q.length:=List.length_pos_iff.mpr hq
  have cq:∀k,co (qs.set j f) k=if k=j then f else co qs k:=fun k=>Ru _ _ _ hj k
  have sp:∀k,co (qs.set j f) k=co (al qs (List.replicate j 0++ [f])) k:=fun k=>by
    rw [cq,R9,J6,List.length_replicate]
    by_cases hk:k=j
    . rw [if_pos hk,if_pos hk,hk,h.low j (by omega)];simp
    . rw [if_neg hk,if_neg hk,Y8,Int.add_zero]
  have md:∀x:Int,m∣x%m-x:=fun x=>⟨-(x/m),by
    have:=Int.mul_ediv_add_emod x m
    rw [Int.mul_neg]
    omega⟩
  refine⟨fun k=> ?_,fun k hk=> ?_,fun k hk=> ?_,fun k=> ?_,fun k=> ?_⟩
  . rw [Ax (co q) _ _ sp,Sh]
    dsimp only
    rw [Nb,Vf,List.length_replicate,hr]
    have h1:=h.eq k
    have h2:=md (co rs k-(if j<=k then f*co q (k-j)else 0))
    have h3:=Int.dvd_sub h1 h2
    generalize (co rs k-(if j<=k then f*co q (k-j)else 0))%m=y at*
    generalize (if j<=k then f*co q (k-j)else 0)=x at*
    have e:co p k-(mu qs (co q) k+co rs k)-(y-(co rs k-x))=co p k-(mu qs (co q) k+(0+x)+y):=by omega
    rw [e]at h3
    exact h3
  . rw [hr,if_pos (by omega)]
    by_cases hk2:k=j+(q.length-1)
    . subst hk2
      rw [show j+(q.length-1)-j=q.length-1 by omega]
      exact Int.emod_eq_zero_of_dvd ef
    . rw [h.top k (by omega),Bm (show q.length<=k-j by omega)]
      simp
  . rw [cq,if_neg (by omega),h.low k (by omega)]
  . rw [cq]
    split
    . exact⟨f0,f1⟩
    . exact h.rq k
  . rw [hr]
    exact⟨Int.emod_nonneg _ (by omega),Int.emod_lt_of_pos _ hm⟩
theorem Agx {m r iv l:Int} (h:iv*l%m=1) (hm:1<m):m∣r-(r*iv%m)*l:=by
  have e1:=Int.mul_ediv_add_emod (r*iv) m
  have e2:=Int.mul_ediv_add_emod (iv*l) m
  rw [h]at e2
  refine⟨(r*iv/m)*l-r*(iv*l/m),?_⟩
  have e3:r*iv%m=r*iv-m*(r*iv/m):=by omega
  rw [e3]
  have e4:r*iv*l=r*(m*(iv*l/m)+1):=by rw [e2,Int.mul_assoc]
  have:(r*iv-m*(r*iv/m))*l=r*iv*l-m*(r*iv/m)*l:=by grind
  rw [this,e4]
  grind
end Z
namespace Z
theorem V9 {a b:Int} (h:0<b):a.fdiv (Int.gcd a b:Int)=(Rat.divInt a b).num/\b.fdiv (Int.gcd a b:Int)=((Rat.divInt a b).den:Int):=by
  have g0:(0:Int)<=(Int.gcd a b:Int):=Int.natCast_nonneg _
  rw [Int.fdiv_eq_ediv_of_nonneg _ g0,Int.fdiv_eq_ediv_of_nonneg _ g0,Rat.num_divInt,Rat.den_divInt]
  rw [if_neg (by omega),Int.sign_eq_one_of_pos h,Int.one_mul,Int.gcd_comm b a]
  refine⟨rfl,?_⟩
  rw [Int.natCast_ediv]
  congr 1
  omega
theorem Z6 {a b:Int} (h:b<0):a.fdiv (-(Int.gcd a b:Int))=(Rat.divInt a b).num/\b.fdiv (-(Int.gcd a b:Int))=((Rat.divInt a b).den:Int):=by
  have e:Rat.divInt a b=Rat.divInt (-a) (-b):=(Rat.neg_divInt_neg a b).symm
  have p:=V9 (a:= -a) (b:= -b) (by omega)
  have hg:Int.gcd (-a) (-b)=Int.gcd a b:=by rw [Int.gcd_neg,Int.neg_gcd]
  rw [hg]at p
  rw [e,<-p.1,<-p.2]
  constructor
  . rw [<-Int.neg_fdiv_neg (-a),Int.neg_neg]
  . rw [<-Int.neg_fdiv_neg (-b),Int.neg_neg]
theorem Alw (a b:Int):(Rat.divInt a b).num.natAbs<=a.natAbs:=by
  rw [Rat.num_divInt]
  refine Nat.le_trans (Int.natAbs_ediv_le_natAbs _ _) ?_
  rw [Int.natAbs_mul]
  have:b.sign.natAbs<=1:=by
    rcases Int.lt_trichotomy b 0 with h | h | h
    . rw [Int.sign_eq_neg_one_of_neg h];decide
    . subst h;decide
    . rw [Int.sign_eq_one_of_pos h];decide
  calc b.sign.natAbs*a.natAbs<=1*a.natAbs:=Nat.mul_le_mul_right _ this
    _=a.natAbs:=Nat.one_mul _
theorem Alc {a b:Int} (h:b≠0):(Rat.divInt a b).den<=b.natAbs:=by
  rw [Rat.den_divInt,if_neg h]
  exact Nat.div_le_self _ _
theorem abs_eq (i:Int):(if i<0 then-i else i)=((i.natAbs:Nat):Int):=by
  split<;>omega
theorem Agl (x y:Nat):Nat.gcd y (x%y)=Nat.gcd x y:=by
  rw [Nat.gcd_comm y (x%y),<-Nat.gcd_rec,Nat.gcd_comm]
def sg (q:Rat):Int:=if q=0 then 0 else if 0<q then 1 else-1
end Z
namespace Z
def ev:List Int->Rat->Rat
  | [],_=>0
  | a::r,x=>(a:Rat)+x*ev r x
theorem Zw (x:Rat):∀(r:List Int),(∀i,co r i=0)->ev r x=0
  | [],_=>rfl
  | a::r,h0=>by
    have ha:a=0:=by have:=h0 0;rwa [Cd]at this
    rw [ev,Zw x r fun i=>by have:=h0 (i+1);rwa [Ce]at this,ha]
    simp [Rat.add_zero]
theorem Wa (x:Rat):∀(r s:List Int),(∀i,co r i=co s i)->ev r x=ev s x
  | [],s,h0=>(Zw x s fun i=>by rw [<-h0,Az]).symm
  | a::r,[],h0=>Zw x (a::r) fun i=>by rw [h0,Az]
  | a::r,b::s,h0=>by
    have e0:a=b:=by have:=h0 0;rwa [Cd,Cd]at this
    subst e0
    rw [ev,ev,Wa x r s fun i=>by have:=h0 (i+1);rwa [Ce,Ce]at this]
theorem Amj (x:Rat):∀(p q:List Int),ev (al p q) x=ev p x+ev q x
  | [],q=>by simp [al,ev,Rat.zero_add]
  | a::p,[]=>by simp [al,ev,Rat.add_zero]
  | a::p,b::q=>by
    simp only [al,ev]
    rw [Amj x p q,Rat.intCast_add]
    grind
theorem Vx (x:Rat) (a:Int):∀q:List Int,ev (q.map (a* ·)) x=a*ev q x
  | []=>by simp [ev]
  | b::q=>by
    simp only [List.map_cons,ev]
    rw [Vx x a q,Rat.intCast_mul]
    grind
theorem Amc (x:Rat):∀(p q:List Int),ev (ml p q) x=ev p x*ev q x
  | [],q=>by simp [ml,ev]
  | a::p,q=>by
    simp only [ml,ev]
    rw [Amj,Vx,ev,Amc x p q]
    simp only [Rat.intCast_zero]
    grind
theorem Anj (x:Rat) (p q:List Int):ev (tm p q) x=ev p x*ev q x:=by
  rw [<-Amc]
  exact Wa x _ _ fun i=>by rw [Ci,Pq]
def hv:List Int->Int->Int->Int
  | [],_,_=>0
  | w::r,t,b=>hv r t b*t+w*b^r.length
theorem Akt (x:Rat) (t b:Int) (hx:x*(b:Rat)=(t:Rat)):∀p:List Int,(hv p t b:Rat)*(b:Rat)=ev p x*(b:Rat)^p.length
  | []=>by simp [hv,ev]
  | w::r=>by
    have z:=Akt x t b hx r
    simp only [hv,ev,List.length_cons]
    rw [Rat.intCast_add,Rat.intCast_mul,Rat.intCast_mul,Rat.intCast_pow,Rat.pow_succ]
    generalize (hv r t b:Rat)=T at*
    generalize (b:Rat)^r.length=B at*
    generalize ev r x=E at*
    have e1:T*(b:Rat)*(t:Rat)=E*B*(t:Rat):=by rw [z]
    have e2:x*(b:Rat)*E*B=t*E*B:=by rw [hx]
    grind
theorem Aob (q:Rat):q*(q.den:Rat)=(q.num:Rat):=by
  have hd:(q.den:Rat)≠0:=fun z=>q.den_nz (by exact_mod_cast z)
  have e:=Rat.num_divInt_den q
  rw [Rat.divInt_eq_div,Rat.intCast_natCast]at e
  have e2:(q.num:Rat)/(q.den:Rat)*(q.den:Rat)=(q.num:Rat):=by grind
  rw [e]at e2
  exact e2
theorem Aot (q:Rat) (p:List Int):(hv p q.num q.den:Rat)*(q.den:Rat)=ev p q*(q.den:Rat)^p.length:=by
  have h:=Akt q q.num (q.den:Int) (by rw [Rat.intCast_natCast];exact Aob q) p
  rw [Rat.intCast_natCast]at h
  exact h
end Z
namespace Z
def dD (f:Nat->Int):Nat->Int:=fun i=>((i:Int)+1)*f (i+1)
def dr (p:List Int):List Int:=(p.mapIdx fun i a=>(i:Int)*a).drop 1
theorem Ael (p:List Int) (i:Nat):co (p.mapIdx fun i a=>(i:Int)*a) i=(i:Int)*co p i:=by
  unfold co
  rw [List.getD_eq_getElem?_getD,List.getD_eq_getElem?_getD,List.getElem?_mapIdx]
  cases p[i]? <;>simp
theorem Ail (p:List Int) (i:Nat):co (p.drop 1) i=co p (i+1):=by
  unfold co
  rw [List.getD_eq_getElem?_getD,List.getD_eq_getElem?_getD,List.getElem?_drop,Nat.add_comm]
theorem U6 (p:List Int) (i:Nat):co (dr p) i=((i:Int)+1)*co p (i+1):=by
  rw [dr,Ail,Ael]
  congr 1
theorem Yk (p:List Int):(dr p).length=p.length-1:=by simp [dr]
theorem Ajv {p:List Int} (h:Tr p):Tr (dr p):=by
  by_cases hl:p.length<=1
  . exact .inl (List.eq_nil_of_length_eq_zero (by rw [Yk];omega))
  . refine .of (.inr ?_)
    rw [Yk,U6,show p.length-1-1+1=p.length-1 by omega]
    have:=h.lead (fun z=>by rw [z]at hl;simp at hl)
    exact Int.mul_ne_zero (by omega) this
theorem Alp:∀(p:List Int) (f:Nat->Int) (i:Nat),dD (mu p f) i=mu (dr p) f i+mu p (dD f) i
  | [],f,i=>by simp [dD,mu,dr]
  | a::r,f,i=>by
    have e:mu (dr (a::r)) f=mu (al r (0::dr r)) f:=Ax f _ _ fun j=>by
      rw [U6,Ce,R9]
      cases j with
      | zero=>simp [Cd]
      | succ j=>
        rw [Ce,U6]
        grind
    rw [e,Sh]
    simp only [mu]
    have ih:=Alp r f
    cases i with
    | zero=>
      simp only [dD,sh]
      simp
      grind
    | succ i=>
      have z:=ih i
      simp only [dD,sh]at z ⊢
      simp only [Int.zero_mul,Int.zero_add,Int.natCast_add,Int.cast_ofNat_Int]
      grind
theorem Amu (p q:List Int):dr (tm p q)=ta (tm (dr p) q) (tm p (dr q)):=(Ajv (Gy _ _)).ext (U5 _ _) fun i=>by
  have h:=Alp p (co q) i
  rw [U6,Ph,Ci,Ci,Ci,show co (dr q)=dD (co q)from funext fun j=>U6 q j,<-h]
  rfl
end Z
namespace Z
def ei:List Int->Int->Int
  | [],_=>0
  | a::r,x=>a+x*ei r x
theorem Zd (x:Int):∀r:List Int,(∀i,co r i=0)->ei r x=0
  | [],_=>rfl
  | a::r,h=>by
    have ha:a=0:=by have:=h 0;rwa [Cd]at this
    rw [ei,Zd x r fun i=>by have:=h (i+1);rwa [Ce]at this,ha]
    simp
theorem Z5 (x:Int):∀r s:List Int,(∀i,co r i=co s i)->ei r x=ei s x
  | [],s,h=>by rw [Zd x s fun i=>by rw [<-h,Az]];rfl
  | a::r,[],h=>by rw [Zd x (a::r) fun i=>by rw [h,Az]];rfl
  | a::r,b::s,h=>by
    have e:a=b:=by have:=h 0;rwa [Cd,Cd]at this
    rw [ei,ei,e,Z5 x r s fun i=>by have:=h (i+1);rwa [Ce,Ce]at this]
theorem Aln (x:Int):∀p q:List Int,ei (al p q) x=ei p x+ei q x
  | [],q=>by simp [al,ei]
  | a::p,[]=>by simp [al,ei]
  | a::p,b::q=>by
    rw [al,ei,ei,ei,Aln x p q]
    grind
theorem Aaf (x a:Int):∀q:List Int,ei (q.map (a* ·)) x=a*ei q x
  | []=>by simp [ei]
  | b::q=>by
    rw [List.map_cons,ei,ei,Aaf x a q]
    grind
theorem Ak1 (x:Int):∀p q:List Int,ei (ml p q) x=ei p x*ei q x
  | [],q=>by simp [ml,ei]
  | a::p,q=>by
    rw [ml,Aln,Aaf,ei,ei,Ak1 x p q]
    grind
theorem An5 {p u q:List Int} (h:∀i,co p i=mu u (co q) i) (x:Int):ei p x=ei u x*ei q x:=by
  rw [<-Ak1]
  exact Z5 x _ _ fun i=>by rw [h,Pq]
def sd (c:Int):List Int->List Int
  | []=>[]
  | [_]=>[]
  | _::b::r=>ei (b::r) c::sd c (b::r)
theorem Ag2 (c:Int):∀p:List Int,(sd c p).length=p.length-1
  | []=>rfl
  | [_]=>rfl
  | _::b::r=>by
    rw [sd,List.length_cons,Ag2 c (b::r)]
    simp
theorem Akm (c x:Int):∀p:List Int,ei p x=ei p c+(x-c)*ei (sd c p) x
  | []=>by simp [ei,sd]
  | [a]=>by simp [ei,sd]
  | a::b::r=>by
    have ih:=Akm c x (b::r)
    show a+x*ei (b::r) x=(a+c*ei (b::r) c)+(x-c)*(ei (b::r) c+x*ei (sd c (b::r)) x)
    rw [ih]
    generalize ei (b::r) c=A
    generalize ei (sd c (b::r)) x=B
    grind
theorem Ali (c:Int):∀(p:List Int),co p 0=ei p c-c*co (sd c p) 0/\∀i,co p (i+1)=co (sd c p) i-c*co (sd c p) (i+1)
  | []=>⟨by simp [sd,ei,Az],fun i=>by simp [sd,Az]⟩
  | [a]=>⟨by simp [sd,ei,Az,Cd],fun i=>by simp [sd,Az,Ce]⟩
  | a::b::r=>by
    obtain⟨h0,h1⟩:=Ali c (b::r)
    rw [sd]
    refine⟨by rw [Cd,Cd,ei];omega,fun i=> ?_⟩
    rw [Ce,Ce]
    cases i with
    | zero=>exact h0
    | succ i=>exact h1 i
theorem interp (M:Nat):∀(xs T:List Int) (V:Nat),T.length<=xs.length->xs.Nodup->(∀x∈xs,x.natAbs<=M)->(∀x∈xs,(ei T x).natAbs<=V)->∀i,(co T i).natAbs<=V*(2*M+3)^xs.length
  | [],T,V,hl,_,_,_,i=>by
    have:T=[]:=List.eq_nil_of_length_eq_zero (by simpa using hl)
    rw [this,Az]
    exact Nat.zero_le _
  | c::xs,T,V,hl,hn,hM,hV,i=>by
    rw [List.nodup_cons]at hn
    have hc:=hM c (by simp)
    have hvc:=hV c (by simp)
    have ih:=interp M xs (sd c T) (2*V) (by rw [Ag2];rw [List.length_cons]at hl;omega) hn.2 (fun x hx=>hM x (by simp [hx])) fun x hx=>by
      have e:=Akm c x T
      have hne:x-c≠0:=fun z=>hn.1 (by
        have:x=c:=by omega
        rw [<-this]
        exact hx)
      have hx1:=hV x (by simp [hx])
      have e2:((x-c)*ei (sd c T) x).natAbs<=2*V:=by
        have:(x-c)*ei (sd c T) x=ei T x-ei T c:=by omega
        rw [this]
        omega
      rw [Int.natAbs_mul]at e2
      exact Nat.le_trans (Nat.le_mul_of_pos_left _ (Int.natAbs_pos.mpr hne)) e2
    obtain⟨h0,h1⟩:=Ali c T
    rw [List.length_cons,Nat.pow_succ,<-Nat.mul_assoc]
    generalize hB:(2*M+3)^xs.length=B at ih ⊢
    have hB1:1<=B:=by rw [<-hB];exact Nat.pow_pos (by omega)
    have cm:∀j,(c*co (sd c T) j).natAbs<=M*(2*V*B):=fun j=>by
      rw [Int.natAbs_mul]
      exact Nat.mul_le_mul hc (ih j)
    have fin:V+M*(2*V*B)+2*V*B<=V*B*(2*M+3):=by
      have a1:V<=V*B:=Nat.le_mul_of_pos_right _ hB1
      have a2:M*(2*V*B)=2*(M*(V*B)):=by grind
      have a3:V*B*(2*M+3)=2*(M*(V*B))+3*(V*B):=by grind
      have a4:2*V*B=2*(V*B):=by grind
      omega
    cases i with
    | zero=>
      rw [h0]
      have:=cm 0
      omega
    | succ i=>
      rw [h1 i]
      have:=cm (i+1)
      have:=ih i
      omega
theorem Agc {p:List Int}{xs:List Int} (hn:xs.Nodup) (h:∀x∈xs,ei p x=0) (hl:p.length<=xs.length) (i:Nat):co p i=0:=by
  have:=interp (xs.foldr (fun x m=>max x.natAbs m) 0) xs p 0 hl hn (fun x hx=>by
    clear hn h hl
    induction xs with
    | nil=>simp at hx
    | cons y ys ih=>
      rw [List.foldr_cons]
      rcases List.mem_cons.mp hx with rfl | hx
      . exact Nat.le_max_left _ _
      . exact Nat.le_trans (ih hx) (Nat.le_max_right _ _)) (fun x hx=>by rw [h x hx];simp) i
  rw [Nat.zero_mul]at this
  omega
theorem Ald {p:List Int}{n M:Nat}{x:Int} (hx:x.natAbs<=M) (hM:1<=M):(∀i,(co p i).natAbs<=2^n)->(ei p x).natAbs<=p.length*(2^n*M^p.length):=by
  induction p with
  | nil=>intro _;simp [ei]
  | cons a r ih=>
    intro h
    have ha:=h 0
    rw [Cd]at ha
    have hr:=ih fun i=>by have:=h (i+1);rwa [Ce]at this
    rw [ei,List.length_cons,Nat.pow_succ]
    generalize hA:2^n=A at*
    generalize hB:M^r.length=B at*
    have hB1:1<=B:=by rw [<-hB];exact Nat.pow_pos hM
    have h1:(a+x*ei r x).natAbs<=A+M*(r.length*(A*B)):=by
      have:(x*ei r x).natAbs<=M*(r.length*(A*B)):=by
        rw [Int.natAbs_mul]
        exact Nat.mul_le_mul hx hr
      have:=Int.natAbs_add_le a (x*ei r x)
      omega
    have e:(r.length+1)*(A*(B*M))=M*(r.length*(A*B))+A*(B*M):=by grind
    have:A*1<=A*(B*M):=Nat.mul_le_mul_left _ (Nat.mul_pos hB1 hM)
    omega
theorem Acp (f:Int->Bool):∀R:List Int,(R.filter f).length+(R.filter fun x=> !f x).length=R.length
  | []=>rfl
  | a::r=>by
    have:=Acp f r
    cases h:f a<;>simp [List.filter_cons,h]<;>omega
theorem Adj {p T S:List Int}{n:Nat} (h:∀i,co p i=mu S (co T) i) (np:∃i,co p i≠0) (hp:∀i,(co p i).natAbs<=2^n) (lp:p.length<=13) (lT:T.length<=p.length) (i:Nat):(co T i).natAbs<=2^(n+140):=by
  let R:List Int:=(List.range 26).map fun(k:Nat)=>((k:Nat):Int)
  have hR:R.Nodup:=by decide
  have hRM:∀x∈R,x.natAbs<=25:=by decide
  let good:=R.filter fun x=>decide (ei p x≠0)
  let bad:=R.filter fun x=> !decide (ei p x≠0)
  have lens:good.length+bad.length=26:=by
    have e:R.length=26:=by decide
    rw [<-e]
    exact Acp _ R
  have hbad:bad.length<p.length:=by
    refine Nat.lt_of_not_le fun z=> ?_
    obtain⟨j,hj⟩:=np
    refine hj (Agc (xs:=bad) (hR.filter _) (fun x hx=> ?_) z j)
    have:=(List.mem_filter.mp hx).2
    simpa using this
  have hV:∀x∈good,(ei T x).natAbs<=13*(2^n*25^13):=fun x hx=>by
    have hxR:=(List.mem_filter.mp hx).1
    have h0:ei p x≠0:=by simpa using(List.mem_filter.mp hx).2
    have e:=An5 h x
    have e1:=congrArg Int.natAbs e
    rw [Int.natAbs_mul]at e1
    have s0:ei S x≠0:=fun z=>h0 (by rw [e,z,Int.zero_mul])
    have h1:(ei T x).natAbs<=(ei p x).natAbs:=by
      rw [e1]
      exact Nat.le_mul_of_pos_left _ (Int.natAbs_pos.mpr s0)
    refine Nat.le_trans h1 (Nat.le_trans (Ald (hRM x hxR) (by decide) hp) ?_)
    exact Nat.mul_le_mul lp (Nat.mul_le_mul_left _ (Nat.pow_le_pow_right (by decide) lp))
  have key:=interp 25 (good.take 13) T _ (by rw [List.length_take];omega) (hR.filter _ |>.sublist (List.take_sublist _ _)) (fun x hx=>hRM x (List.mem_filter.mp (List.mem_of_mem_take hx)).1) (fun x hx=>hV x (List.mem_of_mem_take hx)) i
  refine Nat.le_trans key ?_
  have l8:(good.take 13).length<=13:=by rw [List.length_take];omega
  have e33:(2*25+3)^(good.take 13).length<=53^13:=Nat.pow_le_pow_right (by decide) l8
  refine Nat.le_trans (Nat.mul_le_mul_left _ e33) ?_
  have:13*(2^n*25^13)*53^13=2^n*(13*25^13*53^13):=by grind
  rw [this,Nat.pow_add]
  exact Nat.mul_le_mul_left _ (by decide)
end Z
namespace Z
structure QF (p q T B:List Int):Prop where
  tT:Tr T
  tB:Tr B
  nB:B≠ []
  pos:0<co B (B.length-1)
  gl1:gl (T++B)=1
  cop:∀d,Tr d->Dv d T->Dv d B->d.length<=1
  eq:tm T q=tm B p
theorem Rk {d f:List Int} (h:Dv d f):Dv (trim d) f:=h.of_scale (a:=1) (b:=1) (by decide) fun i=>by rw [Ak]
theorem Ag9 {T B C:List Int} (tB:Tr B) (nB:B≠ []) (cop:∀d,Tr d->Dv d T->Dv d B->d.length<=1) (h:Dv B (tm T C)):Dv B C:=by
  obtain⟨g,a,b,c,hc,gT,gB,e⟩:=bez B.length B T (Nat.le_refl _) tB
  have l1:=cop (trim g) (Av g) (Rk gT) (Rk gB)
  have n0:trim g≠ []:=((Rk gB).len (Av g) tB nB).1
  obtain⟨k,hk⟩:∃k,trim g=[k]:=by
    cases hg:trim g with
    | nil=>exact absurd hg n0
    | cons k r=>
      rw [hg]at l1
      have:r=[]:=List.eq_nil_of_length_eq_zero (by simpa using l1)
      exact⟨k,by rw [this]⟩
  have k0:k≠0:=by
    have:=(Av g).lead n0
    rw [hk]at this
    simpa [Cd]using this
  have cg:∀i,co g i=co [k] i:=fun i=>by rw [<-hk,Ak]
  have hB:Dv B (tm B C):=by
    rw [Gd]
    exact(Dv.refl B).mul_left C
  refine h.comb hB (k:=c*k) (Int.mul_ne_zero hc k0) (a:=a) (b:=b) fun i=> ?_
  have e2:mu C (fun j=>c*co g j) i=mu C (fun j=>mu a (co T) j+mu b (co B) j) i:=Jr (fun j=>e j) C i
  have e3:mu C (fun j=>mu a (co T) j+mu b (co B) j) i=mu a (co (tm T C)) i+mu b (co (tm B C)) i:=by
    rw [congrFun (Qk C (mu a (co T)) (mu b (co B))) i]
    have f:∀(x y:List Int),mu C (mu x (co y)) i=mu x (co (tm y C)) i:=fun x y=>by
      rw [Jr (f:=co (tm y C)) (g:=mu C (co y)) (fun j=>by rw [Gd,Ci]) x i]
      have e1:=congrFun (Ml (co y) C x) i
      have e2:=congrFun (Ml (co y) x C) i
      rw [<-e1,<-e2]
      exact congrFun (Ax (co y) _ _ fun j=>by rw [Pq,Pq,J8]) i
    rw [f,f]
  rw [<-e3,<-e2]
  have e4:mu C (fun j=>c*co g j) i=mu C (co [c*k]) i:=Jr (fun j=>by
    rw [cg]
    cases j with
    | zero=>simp [Cd]
    | succ j=>simp [Ce,Az]) C i
  rw [e4,J8]
  show _=c*k*co C i+sh (mu [] (co C)) i
  cases i<;>simp [sh,mu]
theorem Ama {q:List Int} (hq:q≠ []) (hl:co q (q.length-1)≠0) {u v:List Int} (h:∀k,mu u (co q) k=mu v (co q) k):∀k,co u k=co v k:=by
  have d:∀k,mu (al u (v.map (-1* ·))) (co q) k=0:=fun k=>by
    rw [Sh]
    dsimp only
    rw [Gx]
    dsimp only
    rw [h]
    omega
  have x0:trim (al u (v.map (-1* ·)))=[]:=by
    by_cases n:trim (al u (v.map (-1* ·)))=[]
    . exact n
    . exfalso
      have e2:=congrFun (Ax (co q) _ _ (Ak (al u (v.map (-1* ·))))) ((trim (al u (v.map (-1* ·)))).length+q.length-2)
      have lw:0<(trim (al u (v.map (-1* ·)))).length:=List.length_pos_iff.mpr n
      have lq:0<q.length:=List.length_pos_iff.mpr hq
      rw [d,Ld _ q _ n hq (by omega)]at e2
      rcases Int.mul_eq_zero.mp e2 with z | z
      . exact(Av _).lead n z
      . exact hl z
  intro k
  have:=Ak (al u (v.map (-1* ·))) k
  rw [x0,Az,R9,Ds]at this
  omega
theorem Xv {a b c:List Int} (ta:Tr a) (tb:Tr b) (tc:Tr c) (nc:c≠ []) (h:tm a c=tm b c):a=b:=
  ta.ext tb (Ama nc (tc.lead nc) fun k=>by rw [<-Ci,<-Ci,h])
theorem Aiv {a b:List Int} (ta:Tr a) (tb:Tr b) (na:a≠ []) (nb:b≠ []):tm a b≠ []:=fun z=>by
  have:=Oh ta tb na nb
  rw [z,List.length_nil]at this
  have h1:=List.length_pos_iff.mpr na
  have h2:=List.length_pos_iff.mpr nb
  omega
theorem Xd (a b:List Int) (i:Nat):co (a++b) i=if i<a.length then co a i else co b (i-a.length):=by
  unfold co
  rw [List.getD_eq_getElem?_getD,List.getD_eq_getElem?_getD,List.getD_eq_getElem?_getD]
  split
  . rename_i h
    rw [List.getElem?_append_left h]
  . rename_i h
    rw [List.getElem?_append_right (by omega)]
theorem Ajd {L:List Int} (h1:gl L=1) (h2:0<co L (L.length-1)):pln L=L:=by
  have e:un L=1:=by
    unfold un
    rw [if_neg (by omega),h1]
    rfl
  unfold pln
  rw [e]
  simp
theorem QF.plain {p q T B:List Int} (h:QF p q T B):pln (T++B)=T++B:=Ajd h.gl1 (by
  have hl:=List.length_pos_iff.mpr h.nB
  rw [List.length_append,Xd,if_neg (by omega),show T.length+B.length-1-T.length=B.length-1 by omega]
  exact h.pos)
theorem Aa9 {p:List Int}{c:Int} (hp:Tr p) (hc:c≠0):Tr (p.map (c* ·)):=by
  by_cases n:p=[]
  . subst n;exact .inl rfl
  . refine Tr.of (.inr ?_)
    rw [List.length_map,Ds]
    exact Int.mul_ne_zero hc (hp.lead n)
theorem Aas (c:Int) (p q:List Int) (i:Nat):co (tm (p.map (c* ·)) q) i=c*co (tm p q) i:=by rw [Ci,Ci,congrFun (Gx (co q) c p) i]
theorem QF.uniq {p q T B p' q' T' B':List Int} (a:QF p q T B) (b:QF p' q' T' B') (tq:Tr q) (nq:q≠ []) (tq':Tr q') (nq':q'≠ []) (e:tm p q'=tm p' q):T=T'/\B=B':=by
  have x:tm T B'=tm T' B:=by
    refine Xv (Gy _ _) (Gy _ _) (Gy q q') (Aiv tq tq' nq nq') ?_
    have l:tm (tm T B') (tm q q')=tm (tm B B') (tm p q'):=by
      have:tm (tm T B') (tm q q')=tm (tm T q) (tm B' q'):=by
        rw [Dr,Dr,<-Dr B' q q',Gd B' q,Dr]
      rw [this,a.eq,Dr,Dr,<-Dr p B' q',Gd p B',Dr]
    have r:tm (tm T' B) (tm q q')=tm (tm B B') (tm p' q):=by
      have:tm (tm T' B) (tm q q')=tm (tm T' q') (tm B q):=by
        rw [Gd q q',Dr,Dr,<-Dr B q' q,Gd B q',Dr]
      rw [this,b.eq,Gd B B',Dr,Dr,<-Dr p' B q,Gd p' B,Dr]
    rw [l,r,e]
  have d1:Dv B B':=Ag9 a.tB a.nB a.cop (by rw [x];exact(Dv.refl B).mul_left T')
  have d2:Dv B' B:=Ag9 b.tB b.nB b.cop (by rw [<-x];exact(Dv.refl B').mul_left T)
  have pb:pln B=pln B':=Aer (Kh a.tB) (Kh b.tB) (Li a.tB) (Li b.tB) ((N8 a.tB).1.trans (d1.trans (N8 b.tB).2)) ((N8 b.tB).1.trans (d2.trans (N8 a.tB).2))
  have u1:=Qm a.tB a.nB
  have u2:=Qm b.tB b.nB
  have hB:B'.map (un B* ·)=B.map (un B'* ·):=(Aa9 b.tB u1).ext (Aa9 a.tB u2) fun i=>by
    rw [Ds,Ds,<-Kc b.tB b.nB i,<-Kc a.tB a.nB i,pb]
    grind
  have hT:T.map (un B'* ·)=T'.map (un B* ·):=by
    refine Xv (Aa9 a.tT u2) (Aa9 b.tT u1) a.tB a.nB ((Gy _ _).ext (Gy _ _) fun i=> ?_)
    rw [Aas,Aas,<-x]
    have e1:un B'*co (tm T B) i=co (tm T (B.map (un B'* ·))) i:=by
      rw [Gd T (B.map _),Aas,Gd B T]
    have e2:un B*co (tm T B') i=co (tm T (B'.map (un B* ·))) i:=by
      rw [Gd T (B'.map _),Aas,Gd B' T]
    rw [e1,e2,hB]
  have lT:T.length=T'.length:=by
    have:=congrArg List.length hT
    rwa [List.length_map,List.length_map]at this
  have hL:(T++B).map (un B'* ·)=(T'++B').map (un B* ·):=by
    rw [List.map_append,List.map_append,hT,hB]
  have trL:∀ {T B:List Int},Tr B->B≠ []->Tr (T++B):=fun {T B} tB nB=>by
    refine Tr.of (.inr ?_)
    have hl:=List.length_pos_iff.mpr nB
    rw [List.length_append,Xd,if_neg (by omega),show T.length+B.length-1-T.length=B.length-1 by omega]
    exact tB.lead nB
  have t1:=trL (T:=T) a.tB a.nB
  have t2:=trL (T:=T') b.tB b.nB
  have q1:=Ac2 t1 u2 (Aa9 t1 u2) fun k=>Ds _ _ k
  have q2:=Ac2 t2 u1 (Aa9 t2 u1) fun k=>Ds _ _ k
  have L:T++B=T'++B':=by rw [<-a.plain,<-b.plain,<-q1,<-q2,hL]
  exact List.append_inj L lT
theorem QF.self {p q T B:List Int} (h:QF p q T B):QF T B T B:=⟨h.tT,h.tB,h.nB,h.pos,h.gl1,h.cop,by rw [Gd]⟩
theorem QF.gc {p q T B g:List Int} (h:QF p q T B) (gc:Gc T B g):g.length=1:=by
  have l:=h.cop g gc.tr gc.one gc.two
  have n:=(gc.two.len gc.tr h.tB h.nB).1
  have:=List.length_pos_iff.mpr n
  omega
end Z
namespace Z
structure Pol where
  l:List Int
  tr:Tr l
theorem Mj {a b:Pol} (h:∀i,co a.l i=co b.l i):a=b:=by
  obtain⟨a,ta⟩:=a
  obtain⟨b,tb⟩:=b
  have e:a=b:=ta.ext tb h
  subst e
  rfl
def cst (c:Int):Pol:=⟨trim [c],Av _⟩
instance:Add Pol:=⟨fun a b=>⟨ta a.l b.l,U5 _ _⟩⟩
instance:Mul Pol:=⟨fun a b=>⟨tm a.l b.l,Gy _ _⟩⟩
instance:Neg Pol:=⟨fun a=>⟨trim (a.l.map ((-1)* ·)),Av _⟩⟩
instance:Sub Pol:=⟨fun a b=>a+ -b⟩
instance:NatCast Pol:=⟨fun n=>cst n⟩
instance:IntCast Pol:=⟨fun n=>cst n⟩
instance (n:Nat):OfNat Pol n:=⟨cst n⟩
instance:HPow Pol Nat Pol:=⟨fun a n=>⟨pw a.l n,Aaz _ _⟩⟩
instance:SMul Nat Pol:=⟨fun n a=>cst n*a⟩
instance:SMul Int Pol:=⟨fun n a=>cst n*a⟩
theorem K1 (c:Int) (i:Nat):co (cst c).l i=if i=0 then c else 0:=by
  show co (trim [c]) i=_
  rw [Ak]
  cases i with
  | zero=>rfl
  | succ i=>rfl
theorem Jx (a b:Pol) (i:Nat):co (a+b).l i=co a.l i+co b.l i:=Ph _ _ _
theorem Jo (a b:Pol) (i:Nat):co (a*b).l i=mu a.l (co b.l) i:=Ci _ _ _
theorem Aaj (a:Pol) (i:Nat):co (-a).l i= -co a.l i:=by
  show co (trim (a.l.map ((-1)* ·))) i=_
  rw [Ak,Ds]
  omega
theorem Ale (c:Int) (f:Nat->Int) (i:Nat):mu (cst c).l f i=c*f i:=by
  rw [show(cst c).l=trim [c]from rfl,Ax f (trim [c]) [c] (fun i=>Ak _ _)]
  show c*f i+sh (mu [] f) i=_
  have:sh (mu [] f) i=0:=congrFun Rq i
  omega
theorem J3 (c:Int) (a:Pol) (i:Nat):co (cst c*a).l i=c*co a.l i:=by rw [Jo,Ale]
theorem Mh (a b:Pol):a*b=b*a:=Mj fun i=>by rw [Jo,Jo,J8]
theorem Ag8 (a:Pol):a*1=a:=by
  rw [Mh]
  exact Mj fun i=>by
    show co (cst 1*a).l i=_
    rw [J3]
    omega
theorem Ahb (a:Pol):0*a=0:=Mj fun i=>by
  show co (cst 0*a).l i=co (cst 0).l i
  rw [J3,K1]
  split<;>omega
theorem Ah2 (a b c:Pol):a*(b+c)=a*b+a*c:=Mj fun i=>by
  rw [Jx,Jo,Jo,Jo,show co (b+c).l=fun i=>co b.l i+co c.l i from funext fun i=>Jx b c i,Qk]
instance polSemi:Lean.Grind.Semiring Pol where
  add_zero a:=Mj fun i=>by
    rw [Jx]
    show _+co (cst 0).l i=_
    rw [K1]
    split<;>omega
  add_comm a b:=Mj fun i=>by rw [Jx,Jx,Int.add_comm]
  add_assoc a b c:=Mj fun i=>by rw [Jx,Jx,Jx,Jx,Int.add_assoc]
  mul_assoc a b c:=Mj fun i=>congrArg (co · i) (Dr a.l b.l c.l)
  mul_one:=Ag8
  one_mul a:=by rw [Mh,Ag8]
  left_distrib:=Ah2
  right_distrib a b c:=by rw [Mh,Ah2,Mh c a,Mh c b]
  zero_mul:=Ahb
  mul_zero a:=by rw [Mh,Ahb]
  pow_zero a:=Mj fun i=>rfl
  pow_succ a n:=by
    rw [Mh]
    exact Mj fun i=>rfl
  ofNat_succ n:=Mj fun i=>by
    rw [Jx]
    show co (cst ((n+1:Nat):Int)).l i=co (cst (n:Nat)).l i+co (cst ((1:Nat):Int)).l i
    rw [K1,K1,K1]
    split<;>omega
instance polRing:Lean.Grind.Ring Pol where
  neg_add_cancel a:=Mj fun i=>by
    rw [Jx,Aaj]
    show _=co (cst 0).l i
    rw [K1]
    split<;>omega
  sub_eq_add_neg a b:=rfl
  neg_zsmul c a:=Mj fun i=>by
    show co (cst (-c)*a).l i=co (-(cst c*a)).l i
    rw [Aaj,J3,J3]
    grind
  intCast_neg c:=Mj fun i=>by
    show co (cst (-c)).l i=co (-cst c).l i
    rw [Aaj,K1,K1]
    split<;>omega
instance polComm:Lean.Grind.CommRing Pol where
  mul_comm:=Mh
theorem Gs (c d:Int):cst (c*d)=cst c*cst d:=Mj fun i=>by
  rw [J3,K1,K1]
  split
  . rfl
  . omega
theorem Amm:(0:Pol).l=[]:=rfl
theorem Bu {a:Pol}:a≠0↔a.l≠ []:=by
  constructor
  . intro h z
    exact h (Mj fun i=>by rw [z,Amm])
  . intro h z
    rw [z]at h
    exact h Amm
theorem Yy {c:Int} (h:c≠0):(cst c).l=[c]:=by
  show trim [c]=[c]
  exact Zu (.inr ⟨by simp,by simpa using h⟩)
theorem Uc {c:Int} (h:c≠0):cst c≠0:=Bu.mpr (by rw [Yy h];simp)
theorem Oo {a b:Pol} (ha:a≠0) (hb:b≠0):a*b≠0:=Bu.mpr (Aiv a.tr b.tr (Bu.mp ha) (Bu.mp hb))
theorem Dw {a b c:Pol} (hc:c≠0) (h:a*c=b*c):a=b:=by
  have e:(a-b)*c=0:=by grind
  by_cases n:a-b=0
  . grind
  . exact absurd e (Oo n hc)
theorem Kw {a b:Pol} (ha:a≠0) (hb:b≠0):(a*b).l.length+1=a.l.length+b.l.length:=Oh a.tr b.tr (Bu.mp ha) (Bu.mp hb)
theorem len_pos {a:Pol} (h:a≠0):1<=a.l.length:=List.length_pos_iff.mpr (Bu.mp h)
theorem Wc {a:Pol} (h:a≠0) (l:a.l.length<=1):∃c:Int,c≠0/\a=cst c:=by
  have l1:=len_pos h
  obtain⟨c,e⟩:=List.length_eq_one_iff.mp (show a.l.length=1 by omega)
  have c0:c≠0:=by
    have:=a.tr.lead (Bu.mp h)
    rw [e]at this
    exact this
  exact⟨c,c0,Mj fun i=>by rw [Yy c0,e]⟩
def D (a:Pol):Pol:=⟨dr a.l,Ajv a.tr⟩
theorem Wx (a b:Pol):D (a*b)=D a*b+a*D b:=Mj fun i=>congrArg (co · i) (Amu a.l b.l)
theorem Aat (c:Int) (a:Pol):D (cst c*a)=cst c*D a:=Mj fun i=>by
  show co (dr (cst c*a).l) i=co (cst c*D a).l i
  rw [U6,J3,J3]
  show _=c*co (dr a.l) i
  rw [U6]
  grind
theorem Ajg (a:Pol):∀n:Nat,D (a^(n+1))=cst ((n:Int)+1)*a^n*D a
  | 0=>by
    have e:a^(0+1)=a:=by grind
    have e1:cst (((0:Nat):Int)+1)=1:=rfl
    rw [e,e1]
    grind
  | n+1=>by
    have e:a^(n+1+1)=a^(n+1)*a:=by grind
    have e1:cst (((n+1:Nat):Int)+1)=cst ((n:Int)+1)+1:=Mj fun i=>by
      rw [Jx]
      show _=_+co (cst 1).l i
      rw [K1,K1,K1]
      split<;>omega
    rw [e,Wx,Ajg a n,e1]
    grind
def Di (d f:Pol):Prop:=∃(c:Int) (u:Pol),c≠0/\cst c*f=u*d
theorem Mi {d f:Pol}:Di d f↔Dv d.l f.l:=by
  constructor
  . rintro⟨c,u,hc,e⟩
    exact⟨c,u.l,hc,fun i=>by rw [<-J3,e,Jo]⟩
  . rintro⟨c,u,hc,e⟩
    exact⟨c,⟨trim u,Av u⟩,hc,Mj fun i=>by rw [J3,e,Jo,Ax _ (trim u) u (fun i=>Ak _ _)]⟩
theorem Di.refl (d:Pol):Di d d:=⟨1,1,by decide,rfl⟩
theorem Di.mul (d u:Pol):Di d (u*d):=⟨1,u,by decide,by rw [show cst 1=(1:Pol)from rfl];grind⟩
theorem Di.trans {d f g:Pol} (h:Di d f) (k:Di f g):Di d g:=Mi.mpr ((Mi.mp h).trans (Mi.mp k))
theorem Di.len {d f:Pol} (n:f≠0) (h:Di d f):d≠0/\d.l.length<=f.l.length:=by
  obtain⟨a,b⟩:=(Mi.mp h).len d.tr f.tr (Bu.mp n)
  exact⟨Bu.mpr a,b⟩
theorem Di.cst {d:Pol}{c:Int} (hc:c≠0) (h:Di d (cst c)):d.l.length<=1:=by
  have:=(h.len (Uc hc)).2
  rw [Yy hc]at this
  exact this
def Cp (a b:Pol):Prop:=∃(u v:Pol) (c:Int),c≠0/\u*a+v*b=cst c
theorem Cp.symm {a b:Pol} (h:Cp a b):Cp b a:=by
  obtain⟨u,v,c,hc,e⟩:=h
  exact⟨v,u,c,hc,by grind⟩
theorem Cp.mul {a b c:Pol} (h:Cp a b) (g:Cp a c):Cp a (b*c):=by
  obtain⟨u,v,k,hk,e⟩:=h
  obtain⟨x,y,m,hm,f⟩:=g
  refine⟨u*cst m+v*b*x,v*y,k*m,Int.mul_ne_zero hk hm,?_⟩
  rw [Gs,<-e,<-f]
  grind
theorem Cp.one (a:Pol):Cp a 1:=⟨0,1,1,by decide,by rw [show cst 1=(1:Pol)from rfl];grind⟩
theorem Cp.pow {a b:Pol} (h:Cp a b):∀n:Nat,Cp a (b^n)
  | 0=>by
    rw [show b^0=1 from rfl]
    exact .one a
  | n+1=>by
    rw [show b^(n+1)=b^n*b by grind]
    exact(h.pow n).mul h
theorem Cp.di {a b d:Pol} (h:Cp a b) (k:Di d a):Cp d b:=by
  obtain⟨u,v,c,hc,e⟩:=h
  obtain⟨m,x,hm,f⟩:=k
  refine⟨u*x,cst m*v,m*c,Int.mul_ne_zero hm hc,?_⟩
  rw [Gs,<-e]
  grind
theorem Cp.cut {a b c:Pol} (h:Cp a b) (k:Di a (b*c)):Di a c:=by
  obtain⟨u,v,m,hm,e⟩:=h
  obtain⟨n,x,hn,f⟩:=k
  refine⟨m*n,u*c*cst n+v*x,Int.mul_ne_zero hm hn,?_⟩
  rw [Gs,<-e]
  grind
theorem Cp.const {a b d:Pol} (h:Cp a b) (x:Di d a) (y:Di d b):d.l.length<=1:=by
  obtain⟨u,v,m,hm,e⟩:=h
  obtain⟨k,p,hk,f⟩:=x
  obtain⟨n,q,hn,g⟩:=y
  refine Di.cst (c:=k*n*m) (Int.mul_ne_zero (Int.mul_ne_zero hk hn) hm) ⟨1,u*p*cst n+v*q*cst k,by decide,?_⟩
  rw [Gs,Gs,<-e,show cst 1=(1:Pol)from rfl]
  grind
theorem Afg (a b:Pol):∃(g u v:Pol) (c:Int),c≠0/\Di g a/\Di g b/\cst c*g=u*a+v*b:=by
  obtain⟨g,u,v,c,hc,h1,h2,e⟩:=bez b.l.length b.l a.l (Nat.le_refl _) b.tr
  refine⟨⟨trim g,Av g⟩,⟨trim u,Av u⟩,⟨trim v,Av v⟩,c,hc,Mi.mpr (Rk h1),Mi.mpr (Rk h2),Mj fun i=> ?_⟩
  rw [J3,Jx,Jo,Jo,Ax _ (trim u) u (fun i=>Ak _ _),Ax _ (trim v) v (fun i=>Ak _ _),<-e]
  show c*co (trim g) i=_
  rw [Ak]
theorem Gc.cp {a b x y g:Pol} (h:Gc a.l b.l g.l) (ng:g≠0) (ea:a=x*g) (eb:b=y*g):Cp x y:=by
  obtain⟨u,v,c,hc,e⟩:=h.bez b.tr
  refine⟨⟨trim u,Av u⟩,⟨trim v,Av v⟩,c,hc,Dw ng ?_⟩
  have e':cst c*g=⟨trim u,Av u⟩*a+⟨trim v,Av v⟩*b:=Mj fun i=>by
    rw [J3,Jx,Jo,Jo,Ax _ (trim u) u (fun i=>Ak _ _),Ax _ (trim v) v (fun i=>Ak _ _),<-e]
  rw [e',ea,eb]
  grind
def Sqf (f:Pol):Prop:=Cp f (D f)
theorem Sqf.di {d f:Pol} (h:Sqf f) (k:Di d f):Sqf d:=by
  obtain⟨p,q,m,hm,e⟩:=h
  obtain⟨c,u,hc,g⟩:=k
  have g':=congrArg D g
  rw [Aat,Wx]at g'
  refine⟨p*u+q*D u,q*u,c*m,Int.mul_ne_zero hc hm,?_⟩
  rw [Gs,<-e]
  grind
theorem Sqf.parts {f g:Pol} (h:Sqf (f*g)):Cp f g:=by
  obtain⟨p,q,m,hm,e⟩:=h
  rw [Wx]at e
  exact⟨p*g+q*D g,q*D f,m,hm,by rw [<-e];grind⟩
theorem Sqf.sq {d f:Pol} (h:Sqf f) (k:Di (d*d) f):d.l.length<=1:=by
  have s:=(h.di k).parts
  exact s.const (.refl d) (.refl d)
theorem Ahw (a b:Pol):∀n:Nat,(a*b)^n=a^n*b^n
  | 0=>by
    show(1:Pol)=1*1
    grind
  | n+1=>by
    rw [show(a*b)^(n+1)=(a*b)^n*(a*b)by grind,Ahw a b n]
    grind
theorem Oa {h:Pol} (n0:h≠0):∀n:Nat,h^n≠0
  | 0=>Uc (c:=1) (by decide)
  | n+1=>by
    rw [show h^(n+1)=h^n*h by grind]
    exact Oo (Oa n0 n) n0
theorem Zi {h:Pol} (l:2<=h.l.length):∀n:Nat,n+1<=(h^n).l.length
  | 0=>Nat.le_refl 1
  | n+1=>by
    have n0:h≠0:=Bu.mpr fun z=>by rw [z]at l;simp at l
    rw [show h^(n+1)=h^n*h by grind]
    have:=Kw (Oa n0 n) n0
    have:=Zi l n
    omega
theorem Adu {h B:Pol} (nB:B≠0) (all:∀n:Nat,Di (h^n) B):h.l.length<=1:=by
  by_cases l:2<=h.l.length
  . have a:=((all B.l.length).len nB).2
    have b:=Zi l B.l.length
    omega
  . omega
theorem Z1 {W G V:Pol} (nW:W≠0) (nG:G≠0) (e:D (W*G)=V*G) (cp:Cp W V):Sqf W:=by
  obtain⟨g,u,v,c,hc,gW,gD,eb⟩:=Afg W (D W)
  have ng:=(gW.len nW).1
  rw [Wx]at e
  have cT:Cp g (V-D W):=by
    obtain⟨p,q,k,hk,f⟩:=cp.di gW
    obtain⟨m,w,hm,fm⟩:=gD
    refine⟨cst m*p+q*w,cst m*q,m*k,Int.mul_ne_zero hm hk,?_⟩
    rw [Gs,<-f]
    grind
  have all:∀n:Nat,Di (g^n) G:=by
    intro n
    induction n with
    | zero=>exact⟨1,G,by decide,by rw [show g^0=1 from rfl,show cst 1=(1:Pol)from rfl];grind⟩
    | succ n ih=>
      obtain⟨x,C,hx,fC⟩:=ih
      obtain⟨c1,E,hc1,fE⟩:=gW
      obtain⟨c2,w,hc2,fw⟩:=gD
      have key:Di g C:=by
        cases n with
        | zero=>
          have fC':cst x*G=C:=by rw [fC,show g^0=1 from rfl];grind
          refine cT.cut ⟨c1,E*D G*cst x,hc1,?_⟩
          rw [<-fC']
          grind
        | succ n=>
          have gD2:=congrArg D fC
          rw [Aat,Wx,Ajg]at gD2
          have gE:=congrArg D fE
          rw [Aat,Wx]at gE
          have pg:=Oa ng (n+1)
          have e1:E*(g*D C+cst ((n:Int)+1)*C*D g)=cst c1*C*(V-D W):=by
            refine Dw (Oa ng (n+1)) ?_
            have h1:(cst c1*W)*(cst x*D G)=cst c1*(cst x*G)*(V-D W):=by
              clear gD2 gE fE fC fw eb pg
              grind
            have p1:g^(n+1)=g^n*g:=by grind
            rw [fE,gD2,fC,p1]at h1
            rw [p1]
            clear gD2 gE fE fC fw eb pg p1 e
            grind
          refine cT.cut ⟨c1*c2,cst c2*E*D C+cst ((n:Int)+1)*C*(cst c1*w-cst c2*D E),Int.mul_ne_zero hc1 hc2,?_⟩
          have e2:cst c2*(cst c1*D W)=cst c1*(cst c2*D W):=by grind
          rw [gE,fw]at e2
          rw [Gs,show cst c1*cst c2*((V-D W)*C)=cst c2*(cst c1*C*(V-D W))by grind,<-e1]
          clear e1 gE fw gD2 fC fE eb e pg
          grind
      obtain⟨k,y,hk,fk⟩:=key
      refine⟨k*x,y,Int.mul_ne_zero hk hx,?_⟩
      rw [Gs,show g^(n+1)=g^n*g by grind]
      grind
  have lg:=Adu nG all
  obtain⟨k,hk,rfl⟩:=Wc ng lg
  exact⟨u,v,c*k,Int.mul_ne_zero hc hk,by rw [Gs,eb]⟩
theorem Afl {f L B T:Pol} (sf:Sqf f) (nf:f≠0) (nB:B≠0) (e:L*D B=B*T) (h:Di f (L*B)):Di f L:=by
  obtain⟨g,u,v,c,hc,gf,gL,eb⟩:=Afg f L
  have ng:=(gf.len nf).1
  obtain⟨c3,p,hc3,fp⟩:=gf
  have pf:Di p f:=⟨c3,g,hc3,by rw [fp];grind⟩
  have np:=(pf.len nf).1
  have sp:=sf.di pf
  have cpg:Cp p g:=by
    have:Sqf (p*g):=by
      have:=sf.di (d:=p*g) ⟨c3,1,hc3,by rw [fp];grind⟩
      exact this
    exact this.parts
  have cpL:Cp p L:=by
    obtain⟨x,y,k,hk,fx⟩:=cpg
    refine⟨cst c3*cst c*x+y*u*g,cst c3*y*v,c3*(c*k),Int.mul_ne_zero hc3 (Int.mul_ne_zero hc hk),?_⟩
    rw [Gs,Gs,<-fx]
    grind
  have pB:Di p B:=cpL.cut (pf.trans h)
  have all:∀n:Nat,Di (p^n) B:=by
    intro n
    induction n with
    | zero=>exact⟨1,B,by decide,by rw [show p^0=1 from rfl,show cst 1=(1:Pol)from rfl];grind⟩
    | succ n ih=>
      cases n with
      | zero=>
        rw [show p^(0+1)=p by grind]
        exact pB
      | succ n=>
        obtain⟨x,C,hx,fC⟩:=ih
        have gD2:=congrArg D fC
        rw [Aat,Wx,Ajg]at gD2
        have n1:(n:Int)+1≠0:=by omega
        have e1:L*(p*D C+cst ((n:Int)+1)*C*D p)=p*C*T:=by
          refine Dw (Oa np n) ?_
          have p1:p^(n+1)=p^n*p:=by grind
          rw [p1]at fC gD2
          refine Dw (Uc hx) ?_
          grind
        have key:Di p C:=by
          have k1:Di p (L*(D p*C)):=⟨(n:Int)+1,C*T-L*D C,n1,by grind⟩
          exact sp.cut (cpL.cut k1)
        obtain⟨k,y,hk,fk⟩:=key
        refine⟨k*x,y,Int.mul_ne_zero hk hx,?_⟩
        rw [Gs,show p^(n+1+1)=p^(n+1)*p by grind]
        grind
  obtain⟨k,hk,ek⟩:=Wc np (Adu nB all)
  obtain⟨m,w,hm,fw⟩:=gL
  refine⟨k*m,w*cst c3,Int.mul_ne_zero hk hm,?_⟩
  rw [Gs,<-ek]
  grind
theorem strip {f L B T:Pol}{j:Nat} (sf:Sqf f) (nf:f≠0) (sL:Sqf L) (nB:B≠0) (e:L*D B=B*T) (h:Di (f^(j+1)) (L*B)):Di f L/\Di (f^j) B:=by
  have fL:Di f L:=Afl sf nf nB e ((show Di f (f^(j+1))by rw [show f^(j+1)=f^j*f by grind];exact .mul f _).trans h)
  refine⟨fL,?_⟩
  obtain⟨c,M,hc,fM⟩:=fL
  have cp:Cp M f:=(sL.di (d:=M*f) ⟨c,1,hc,by rw [fM];grind⟩).parts
  obtain⟨x,y,hx,fx⟩:=h
  refine((cp.pow j).symm).cut ⟨x,cst c*y,hx,Dw nf ?_⟩
  have p1:f^(j+1)=f^j*f:=by grind
  rw [p1]at fx
  grind
theorem Aiu {a b:Pol} (nb:b≠0) (h:pln (a*b).l=(a*b).l) (hb:pln b.l=b.l):pln a.l=a.l:=by
  have e:pln (a*b).l=tm (pln a.l) (pln b.l):=Aj6 a.tr b.tr
  rw [h,hb]at e
  have:a=⟨pln a.l,Kh a.tr⟩:=Dw nb (Mj fun i=>congrArg (co · i) e)
  exact(congrArg Pol.l this).symm
theorem Ady {a:Pol} (n:a≠0) (h:pln a.l=a.l) (l:a.l.length<=1):a=1:=by
  obtain⟨c,hc,rfl⟩:=Wc n l
  refine Mj fun i=> ?_
  rw [<-h,Yy hc]
  have p1:0<c:=by
    have:=Zj (cst c).tr (Bu.mp n) h
    rw [Yy hc]at this
    exact this
  have:pln [c]=[1]:=by
    refine Ad0 (c:=c) (.inr ⟨by simp,by simpa using hc⟩) (.inr ⟨by simp,by decide⟩) (fun e he=> ?_) hc (fun k=> ?_) (by simp) (by decide)
    . exact he 0
    . cases k with
      | zero=>simp [Cd]
      | succ k=>simp [Ce,Az]
  rw [this]
  rfl
def prK:List (Pol × Nat)->Pol
  | []=>1
  | (f,k)::r=>f^k*prK r
def pr1:List (Pol × Nat)->Pol
  | []=>1
  | (f,_)::r=>f*pr1 r
def prF (n:Nat):List (Pol × Nat)->Pol
  | []=>1
  | (f,k)::r=>if n<=k then f*prF n r else prF n r
theorem Vt (f:Pol) (k:Nat):∀fs,prK (fs++ [(f,k)])=prK fs*f^k
  | []=>by
    show f^k*1=1*f^k
    grind
  | (g,j)::r=>by
    show g^j*prK (r++ [(f,k)])=g^j*prK r*f^k
    rw [Vt f k r]
    grind
theorem Wt (f:Pol) (k:Nat):∀fs,pr1 (fs++ [(f,k)])=pr1 fs*f
  | []=>by
    show f*1=1*f
    grind
  | (g,j)::r=>by
    show g*pr1 (r++ [(f,k)])=g*pr1 r*f
    rw [Wt f k r]
    grind
theorem Sy (n:Nat) (f:Pol) (k:Nat):∀fs,prF n (fs++ [(f,k)])=if n<=k then prF n fs*f else prF n fs
  | []=>by
    show(if n<=k then f*1 else 1)=if n<=k then 1*f else 1
    split<;>grind
  | (g,j)::r=>by
    show(if n<=j then g*prF n (r++ [(f,k)])else prF n (r++ [(f,k)]))=if n<=k then(if n<=j then g*prF n r else prF n r)*f else(if n<=j then g*prF n r else prF n r)
    rw [Sy n f k r]
    split<;>split<;>grind
def kpt (f:Pol) (t:Nat) (fs:List (Pol × Nat)):List (Pol × Nat):=if 1<f.l.length then fs++ [(f,t)]else fs
inductive Run:Pol->Pol->Nat->List (Pol × Nat)->List (Pol × Nat)->Prop where
  | stop {L T:Pol}{t:Nat}{fs:List (Pol × Nat)} (h:L.l.length<=1):Run L T t fs fs
  | step {L T L2 T2 f:Pol}{t:Nat}{fs out:List (Pol × Nat)} (h:1<L.l.length) (g:Gc L.l T.l f.l) (eL:L=L2*f) (eT:T=T2*f) (r:Run L2 (T2-D L2) (t+1) (kpt f t fs) out):Run L T t fs out
theorem Run.uniq {L T:Pol}{t:Nat}{fs o1 o2:List (Pol × Nat)} (a:Run L T t fs o1) (b:Run L T t fs o2):o1=o2:=by
  induction a generalizing o2 with
  | stop h=>
    cases b with
    | stop=>rfl
    | step h2=>omega
  | step h g eL eT r ih=>
    rename_i L T L2 T2 f t fs out
    cases b with
    | stop h2=>omega
    | @step _ _ M2 U2 f' _ _ _ h2 g2 eL2 eT2 r2=>
      have ef:f=f':=Mj fun i=>by rw [g.uniq g2]
      subst ef
      have nL:L≠0:=Bu.mpr fun z=>by rw [z]at h;simp at h
      have nf:f≠0:=fun z=>nL (by rw [eL,z];grind)
      have e1:L2=M2:=Dw nf (by rw [<-eL,<-eL2])
      have e2:T2=U2:=Dw nf (by rw [<-eT,<-eT2])
      subst e1 e2
      exact ih r2
structure YI (A W:Pol) (L T B:Pol) (t:Nat) (fs:List (Pol × Nat)):Prop where
  nl:L≠0
  nb:B≠0
  pl:pln L.l=L.l
  pb:pln B.l=B.l
  eq:L*D B=B*T
  sq:Sqf L
  pr:A=prK fs*L^t*B
  on:W=pr1 fs*L
  t1:1<=t
  up:fs.Pairwise fun a b=>a.2<b.2
  al:∀x∈fs,1<=x.2/\x.2<t/\pln x.1.l=x.1.l/\2<=x.1.l.length
  fm:∀q n,q≠0->Sqf q->1<=n->Di (q^n) A->(n<t->Di q (prF n fs*L))/\(t<=n->Di (q^(n-t+1)) (L*B))
theorem YI.start {A W G V:Pol} (nA:A≠0) (pA:pln A.l=A.l) (gc:Gc A.l (D A).l G.l) (eA:A=W*G) (eV:D A=V*G):YI A W W (V-D W) G 1 []:=by
  have nG:G≠0:=fun z=>nA (by rw [eA,z];grind)
  have nW:W≠0:=fun z=>nA (by rw [eA,z];grind)
  have pW:pln W.l=W.l:=Aiu nG (by rw [<-eA];exact pA) gc.pl
  have e1:D (W*G)=V*G:=by rw [<-eA];exact eV
  have sW:=Z1 nW nG e1 (gc.cp nG eA eV)
  rw [Wx]at e1
  refine⟨nW,nG,pW,gc.pl,by grind,sW,?_,?_,Nat.le_refl 1,.nil,by simp,fun q n nq sq n1 h=>⟨fun z=>by omega,fun _=> ?_⟩⟩
  . show A=1*W^1*G
    rw [eA]
    grind
  . show W=1*W
    grind
  . rw [show n-1+1=n by omega,<-eA]
    exact h
theorem YI.step {A W L T B L2 T2 f:Pol}{t:Nat}{fs:List (Pol × Nat)} (h:YI A W L T B t fs) (l:1<L.l.length) (gc:Gc L.l T.l f.l) (eL:L=L2*f) (eT:T=T2*f):∃B2,YI A W L2 (T2-D L2) B2 (t+1) (kpt f t fs)/\L2.l.length+B2.l.length<L.l.length+B.l.length:=by
  have nf:f≠0:=fun z=>h.nl (by rw [eL,z];grind)
  have n2:L2≠0:=fun z=>h.nl (by rw [eL,z];grind)
  have cp:=gc.cp nf eL eT
  have e:=h.eq
  have pl:=h.pl
  have e1:L2*D B=B*T2:=Dw nf (by rw [eL,eT]at e;grind)
  have p2:pln L2.l=L2.l:=Aiu nf (by rw [<-eL];exact pl) gc.pl
  have d2:Di L2 B:=cp.cut ⟨1,D B,by decide,by rw [show cst 1=(1:Pol)from rfl];grind⟩
  obtain⟨B2,eB⟩:∃B2,B=B2*L2:=by
    obtain⟨v,hv⟩:=Nk L2.tr (Bu.mp n2) (by have:=Jh L2.tr (Bu.mp n2);rwa [p2]at this) (Mi.mp d2)
    exact⟨⟨trim v,Av v⟩,Mj fun i=>by rw [Jo,hv,Ax _ (trim v) v (fun i=>Ak _ _)]⟩
  have nB2:B2≠0:=fun z=>h.nb (by rw [eB,z];grind)
  have pB2:pln B2.l=B2.l:=Aiu n2 (by rw [<-eB];exact h.pb) p2
  have e2:L2*D B2=B2*(T2-D L2):=by
    rw [eB,Wx]at e1
    refine Dw n2 ?_
    grind
  have sL:=h.sq
  have s2:Sqf L2:=sL.di ⟨1,f,by decide,by rw [show cst 1=(1:Pol)from rfl,eL];grind⟩
  have len:=Kw nB2 n2
  rw [<-eB]at len
  have k1:1<=f.l.length:=len_pos nf
  have one:¬1<f.l.length->f=1:=fun z=>Ady nf gc.pl (by omega)
  have tt:=h.t1
  refine⟨B2,⟨n2,nB2,p2,pB2,e2,s2,?_,?_,by omega,?_,?_,fun q n nq sq n1 hd=> ?_⟩,by omega⟩
  . rw [h.pr,eB,eL]
    unfold kpt
    have p1:L2^(t+1)=L2^t*L2:=by grind
    have p3:(L2*f)^t=L2^t*f^t:=Ahw L2 f t
    split
    . rw [Vt,p1,p3]
      grind
    . rename_i z
      rw [one z,p1,show L2*(1:Pol)=L2 by grind]
      grind
  . rw [h.on,eL]
    unfold kpt
    split
    . rw [Wt]
      grind
    . rename_i z
      rw [one z]
      grind
  . unfold kpt
    split
    . rw [List.pairwise_append]
      refine⟨h.up,List.pairwise_singleton _ _,fun a ha b hb=> ?_⟩
      rw [List.mem_singleton.mp hb]
      exact(h.al a ha).2.1
    . exact h.up
  . intro x hx
    unfold kpt at hx
    have old:x∈fs->1<=x.2/\x.2<t+1/\pln x.1.l=x.1.l/\2<=x.1.l.length:=fun hx=>by
      obtain⟨a,b,c,d⟩:=h.al x hx
      exact⟨a,by omega,c,d⟩
    split at hx
    . rename_i z
      rcases List.mem_append.mp hx with hx | hx
      . exact old hx
      . rw [List.mem_singleton.mp hx]
        exact⟨tt,Nat.lt_succ_self _,gc.pl,z⟩
    . exact old hx
  . have keep:∀m,m<=t->prF m (kpt f t fs)*L2=prF m fs*L:=fun m hm=>by
      rw [eL]
      unfold kpt
      split
      . rw [Sy,if_pos hm]
        grind
      . rename_i z
        rw [one z]
        grind
    obtain⟨c1,c2⟩:=h.fm q n nq sq n1 hd
    refine⟨fun hn=> ?_,fun hn=> ?_⟩
    . rw [keep n (by omega)]
      by_cases z:n<t
      . exact c1 z
      . have:=c2 (by omega)
        have st:=strip sq nq sL h.nb e this
        exact st.1.trans (.mul L _)
    . have:=c2 (by omega)
      have st:=(strip sq nq sL h.nb e this).2
      rw [show n-t=n-(t+1)+1 by omega,eB,Mh]at st
      exact st
structure Lay (A W:Pol) (fs:List (Pol × Nat)):Prop where
  sq:Sqf W
  pr:A=prK fs
  on:W=pr1 fs
  up:fs.Pairwise fun a b=>a.2<b.2
  al:∀x∈fs,1<=x.2/\pln x.1.l=x.1.l/\2<=x.1.l.length
  fm:∀q n,q≠0->Sqf q->1<=n->Di (q^n) A->Di q (prF n fs)
theorem Ala {B:Pol} (h:D B=0):B.l.length<=1:=by
  have:(dr B.l).length=0:=by
    have:=congrArg (·.l.length) h
    exact this
  rw [Yk]at this
  omega
theorem YI.stop {A W L T B:Pol}{t:Nat}{fs:List (Pol × Nat)} (h:YI A W L T B t fs) (sW:Sqf W) (l:L.l.length<=1):Lay A W fs:=by
  have eL:=Ady h.nl h.pl l
  have e:=h.eq
  have nb:=h.nb
  rw [eL]at e
  have e1:D B=B*T:=by grind
  have T0:T=0:=Classical.byContradiction fun nT=>by
    have a:=Kw nb nT
    rw [<-e1]at a
    have b:(D B).l.length=B.l.length-1:=Yk B.l
    have c:=len_pos nb
    have d:=len_pos nT
    omega
  have eB:B=1:=Ady nb h.pb (Ala (by rw [e1,T0];grind))
  have one_pow:∀n:Nat,(1:Pol)^n=1:=fun n=>by
    induction n with
    | zero=>rfl
    | succ n ih=>
      rw [show(1:Pol)^(n+1)=1^n*1 by grind,ih]
      grind
  refine⟨sW,?_,?_,h.up,fun x hx=> ?_,fun q n nq sq n1 hd=> ?_⟩
  . rw [h.pr,eL,eB,one_pow]
    grind
  . rw [h.on,eL]
    grind
  . obtain⟨a,b,c,d⟩:=h.al x hx
    exact⟨a,c,d⟩
  . obtain⟨c1,c2⟩:=h.fm q n nq sq n1 hd
    by_cases z:n<t
    . have:=c1 z
      rw [eL]at this
      rwa [show prF n fs*1=prF n fs by grind]at this
    . have:=c2 (by omega)
      rw [eL,eB,show(1:Pol)*1=cst 1 from by show(1:Pol)*1=1;grind]at this
      have lq:q.l.length<=1:=(Di.trans (by rw [show q^(n-t+1)=q^(n-t)*q by grind];exact .mul q _) this).cst (by decide)
      obtain⟨k,hk,rfl⟩:=Wc nq lq
      exact⟨k,prF n fs,hk,by grind⟩
end Z
namespace Z
open PySem L2
local macro_rules | `(tactic| contradiction)=> `(tactic| simp only [Ib,Fv,Il,Ii,Fz,Hy,Bw,Hu,Em,Ef,z_c,Pj,Qq,Qx,Iz,Qu,Iw,Hw,Im,Hz,Ea,Qp,Hr,Ij,Ip,Fg,Fq,Ie,Hs,Qs,Fj,Ht,Er,Qw,Fi,Ia,Ga,Qt,Hq,Iv,Cz,Ew,Ez,Fy,Cr,Ed,Ir,Ih,Hl,G7,Qv,Bo,Et,Ig,Qo,Iu,Fe,Ja,Jc,Ei,Io,Eo,Eh,Fl,Cm,Jb,Cq,En,Ek,Ft,Cy,Es,Cu,Hx,Ey,Ho,Ej,Fx,Ec,Cv,Bp,Ck,Fw,Ik,El,Fo,Cw,Eu,Qn,cpσ,List.getElem?_cons_zero,List.getElem?_cons_succ,Option.join_some,List.set_cons_zero,List.set_cons_succ,List.append_nil,decide_eq_true_eq,Bool.not_eq_true',decide_eq_false_iff_not,Bool.not_not,ite_not,Bool.false_eq_true,Bool.true_eq_false,if_false,if_true,if_pos,List.length_cons,List.length_nil,Nat.zero_add,Nat.reduceAdd,Fb,Ep,true_and,and_true,L2.start,List.map_cons,List.map_nil,Bool.not_true,Bool.not_false,Nat.reduceSub,List.replicate_succ,List.replicate_zero,List.cons_append,List.nil_append])
def top (i:Nat):Stmt:=PySem.Challenge.pw_rootcourt_k15_whole_layers.main.body.getD i (.Pass ⟨0,0,0,0⟩)
abbrev Te:Stmt:=top 5
theorem Nt:Aq ["one","other","greater","lesser"] ["one","other"] (Ag Te):=⟨rfl,rfl,rfl,by decide+kernel,rfl,by decide+kernel,by decide+kernel⟩
abbrev Mt:Stmt:=top 6
theorem Js:Aq ["some","found","number"] ["some"] (Ag Mt):=⟨rfl,rfl,rfl,by decide+kernel,rfl,by decide+kernel,by decide+kernel⟩
abbrev J0:Stmt:=top 7
theorem R6:Aq ["number"] ["number"] (Ag J0):=⟨rfl,rfl,rfl,by decide+kernel,rfl,by decide+kernel,by decide+kernel⟩
abbrev Rj:Stmt:=top 9
theorem Oj:Aq ["top","bottom","shared"] ["top","bottom"] (Ag Rj):=⟨rfl,rfl,rfl,by decide+kernel,rfl,by decide+kernel,by decide+kernel⟩
abbrev Aeu:Stmt:=top 11
theorem Zv:Aq ["weights","length"] ["weights"] (Ag Aeu):=⟨rfl,rfl,rfl,by decide+kernel,rfl,by decide+kernel,by decide+kernel⟩
abbrev Vv:Stmt:=top 12
theorem Ack:Aq ["one"] ["one"] (Ag Vv):=⟨rfl,rfl,rfl,by decide+kernel,rfl,by decide+kernel,by decide+kernel⟩
abbrev S7:Stmt:=top 13
theorem Jl:Aq ["one","other","weights","place","weight"] ["one","other"] (Ag S7):=⟨rfl,rfl,rfl,by decide+kernel,rfl,by decide+kernel,by decide+kernel⟩
abbrev Uo:Stmt:=top 14
theorem Aaw:Aq ["one","other"] ["one","other"] (Ag Uo):=⟨rfl,rfl,rfl,by decide+kernel,rfl,by decide+kernel,by decide+kernel⟩
abbrev Uk:Stmt:=top 15
theorem Jv:Aq ["one","other","weights","place","weight","further","factor"] ["one","other"] (Ag Uk):=⟨rfl,rfl,rfl,by decide+kernel,rfl,by decide+kernel,by decide+kernel⟩
abbrev Sw:Stmt:=top 16
theorem Ad1:Aq ["one","factor"] ["one","factor"] (Ag Sw):=⟨rfl,rfl,rfl,by decide+kernel,rfl,by decide+kernel,by decide+kernel⟩
abbrev Y9:Stmt:=top 17
theorem Agj:Aq ["one","many"] ["one","many"] (Ag Y9):=⟨rfl,rfl,rfl,by decide+kernel,rfl,by decide+kernel,by decide+kernel⟩
abbrev Rm:Stmt:=top 18
theorem G8:Aq ["start","one","many","product","found","square","left"] ["start","one","many","product"] (Ag Rm):=⟨rfl,rfl,rfl,by decide+kernel,rfl,by decide+kernel,by decide+kernel⟩
abbrev Lq:Stmt:=top 19
theorem Uz:Aq ["number","many"] ["number","many"] (Ag Lq):=⟨rfl,rfl,rfl,by decide+kernel,rfl,by decide+kernel,by decide+kernel⟩
abbrev V6:Stmt:=top 20
theorem Ab6:Aq ["one","many"] ["one","many"] (Ag V6):=⟨rfl,rfl,rfl,by decide+kernel,rfl,by decide+kernel,by decide+kernel⟩
abbrev Pb:Stmt:=top 21
theorem Aa1:Aq ["one"] ["one"] (Ag Pb):=⟨rfl,rfl,rfl,by decide+kernel,rfl,by decide+kernel,by decide+kernel⟩
abbrev Tj:Stmt:=top 22
theorem Aa8:Aq ["one","point"] ["one","point"] (Ag Tj):=⟨rfl,rfl,rfl,by decide+kernel,rfl,by decide+kernel,by decide+kernel⟩
abbrev Lg:Stmt:=top 23
theorem Dk:Aq ["one","point","total","scale","weight","top","bottom"] ["one","point"] (Ag Lg):=⟨rfl,rfl,rfl,by decide+kernel,rfl,by decide+kernel,by decide+kernel⟩
abbrev Ls:Stmt:=top 25
theorem Yd:Aq ["one","m"] ["one","m"] (Ag Ls):=⟨rfl,rfl,rfl,by decide+kernel,rfl,by decide+kernel,by decide+kernel⟩
abbrev Ni:Stmt:=top 26
theorem Dy:Aq ["number","m","greater","lesser","ahead","here","many"] ["number","m"] (Ag Ni):=⟨rfl,rfl,rfl,by decide+kernel,rfl,by decide+kernel,by decide+kernel⟩
abbrev Rg:Stmt:=top 27
theorem Gn:Aq ["one","other","m","inverse","rest","quotient","place","factor","further","weight"] ["one","other","m"] (Ag Rg):=⟨rfl,rfl,rfl,by decide+kernel,rfl,by decide+kernel,by decide+kernel⟩
abbrev Vs:Stmt:=top 28
theorem Aep:Aq ["one","other","m"] ["one","other","m"] (Ag Vs):=⟨rfl,rfl,rfl,by decide+kernel,rfl,by decide+kernel,by decide+kernel⟩
abbrev V1:Stmt:=top 29
theorem Xy:Aq ["one","t","told"] ["one","t"] (Ag V1):=⟨rfl,rfl,rfl,by decide+kernel,rfl,by decide+kernel,by decide+kernel⟩
abbrev Ro:Stmt:=top 30
theorem Lk:Aq ["one","other","t","first","second"] ["one","other","t"] (Ag Ro):=⟨rfl,rfl,rfl,by decide+kernel,rfl,by decide+kernel,by decide+kernel⟩
abbrev T9:Stmt:=top 33
theorem Aa5:Aq ["one"] ["one"] (Ag T9):=⟨rfl,rfl,rfl,by decide+kernel,rfl,by decide+kernel,by decide+kernel⟩
abbrev Za:Stmt:=top 34
theorem Af1:Aq ["one"] ["one"] (Ag Za):=⟨rfl,rfl,rfl,by decide+kernel,rfl,by decide+kernel,by decide+kernel⟩
abbrev Acj:Stmt:=top 35
theorem Aj9:Aq ["one"] ["one"] (Ag Acj):=⟨rfl,rfl,rfl,by decide+kernel,rfl,by decide+kernel,by decide+kernel⟩
abbrev Sv:Stmt:=top 36
theorem Aeo:Aq ["one","number"] ["one","number"] (Ag Sv):=⟨rfl,rfl,rfl,by decide+kernel,rfl,by decide+kernel,by decide+kernel⟩
abbrev Wi:Stmt:=top 37
theorem Ad3:Aq ["one","other"] ["one","other"] (Ag Wi):=⟨rfl,rfl,rfl,by decide+kernel,rfl,by decide+kernel,by decide+kernel⟩
abbrev Nf:Stmt:=top 38
theorem Ql:Aq ["one","other","division"] ["one","other"] (Ag Nf):=⟨rfl,rfl,rfl,by decide+kernel,rfl,by decide+kernel,by decide+kernel⟩
abbrev Gu:Stmt:=top 39
theorem Bj:Aq ["one","other","scaling","scale","quotient","rest","place","missing","factor","further","weight"] ["one","other","scaling"] (Ag Gu):=⟨rfl,rfl,rfl,by decide+kernel,rfl,by decide+kernel,by decide+kernel⟩
abbrev Vq:Stmt:=top 40
theorem Ad7:Aq ["one","other"] ["one","other"] (Ag Vq):=⟨rfl,rfl,rfl,by decide+kernel,rfl,by decide+kernel,by decide+kernel⟩
abbrev Ky:Stmt:=top 41
theorem S9:Aq ["one","other"] ["one","other"] (Ag Ky):=⟨rfl,rfl,rfl,by decide+kernel,rfl,by decide+kernel,by decide+kernel⟩
abbrev Nq:Stmt:=top 43
theorem Bk:Aq ["first","second","lead","height","steps","known","third"] ["first","second"] (Ag Nq):=⟨rfl,rfl,rfl,by decide+kernel,rfl,by decide+kernel,by decide+kernel⟩
abbrev Rn:Stmt:=top 44
theorem G9:Aq ["first","second","known","scale","third","quotient","rest","upper","lower"] ["first","second","known"] (Ag Rn):=⟨rfl,rfl,rfl,by decide+kernel,rfl,by decide+kernel,by decide+kernel⟩
abbrev Je:Stmt:=top 45
theorem Br:Aq ["one","other","quotient","rest","place","top","term"] ["one","other"] (Ag Je):=⟨rfl,rfl,rfl,by decide+kernel,rfl,by decide+kernel,by decide+kernel⟩
abbrev Tc:Stmt:=top 47
theorem Abg:Aq ["one"] ["one"] (Ag Tc):=⟨rfl,rfl,rfl,by decide+kernel,rfl,by decide+kernel,by decide+kernel⟩
abbrev Pa:Stmt:=top 48
theorem R4:Aq ["one","full"] ["one"] (Ag Pa):=⟨rfl,rfl,rfl,by decide+kernel,rfl,by decide+kernel,by decide+kernel⟩
abbrev Jy:Stmt:=top 49
theorem R5:Aq ["one"] ["one"] (Ag Jy):=⟨rfl,rfl,rfl,by decide+kernel,rfl,by decide+kernel,by decide+kernel⟩
abbrev Mp:Stmt:=top 50
theorem Pu:Aq ["one","f","w","a","b","e"] ["one"] (Ag Mp):=⟨rfl,rfl,rfl,by decide+kernel,rfl,by decide+kernel,by decide+kernel⟩
abbrev Ww:Stmt:=top 51
theorem Gp:Aq ["one","full","repeated","left","turn","times","found","layer"] ["one"] (Ag Ww):=⟨rfl,rfl,rfl,by decide+kernel,rfl,by decide+kernel,by decide+kernel⟩
abbrev Ox:Stmt:=top 53
theorem W4:Aq ["_law_script","_law_k"] ["_law_script","_law_k"] (Ag Ox):=⟨rfl,rfl,rfl,by decide+kernel,rfl,by decide+kernel,by decide+kernel⟩
abbrev Uv:Stmt:=top 54
theorem Nu:Aq ["_law_cell","_law_k","_law_left","_law_drawn"] ["_law_cell","_law_k"] (Ag Uv):=⟨rfl,rfl,rfl,by decide+kernel,rfl,by decide+kernel,by decide+kernel⟩
abbrev Tt:Stmt:=top 55
theorem Abv:Aq ["_law_found"] ["_law_found"] (Ag Tt):=⟨rfl,rfl,rfl,by decide+kernel,rfl,by decide+kernel,by decide+kernel⟩
abbrev Q8:Stmt:=top 56
theorem O8:Aq ["_law_cell","_law_k","_law_part","_law_some"] ["_law_cell","_law_k"] (Ag Q8):=⟨rfl,rfl,rfl,by decide+kernel,rfl,by decide+kernel,by decide+kernel⟩
abbrev Yo:Stmt:=top 57
theorem Z9:Aq ["_law_weights","_law_found"] ["_law_weights"] (Ag Yo):=⟨rfl,rfl,rfl,by decide+kernel,rfl,by decide+kernel,by decide+kernel⟩
abbrev Ss:Stmt:=top 58
theorem Ac3:Aq ["_law_cell","_law_most"] ["_law_cell","_law_most"] (Ag Ss):=⟨rfl,rfl,rfl,by decide+kernel,rfl,by decide+kernel,by decide+kernel⟩
abbrev Ow:Stmt:=top 59
theorem Kg:Aq ["_law_one","_law_other","_law_found","_law_k","_law_j"] ["_law_one","_law_other"] (Ag Ow):=⟨rfl,rfl,rfl,by decide+kernel,rfl,by decide+kernel,by decide+kernel⟩
abbrev Lh:Stmt:=top 60
theorem Xk:Aq ["_law_found"] ["_law_found"] (Ag Lh):=⟨rfl,rfl,rfl,by decide+kernel,rfl,by decide+kernel,by decide+kernel⟩
abbrev O4:Stmt:=top 61
theorem Xf:Aq ["_law_one","_law_other"] ["_law_one","_law_other"] (Ag O4):=⟨rfl,rfl,rfl,by decide+kernel,rfl,by decide+kernel,by decide+kernel⟩
abbrev O1:Stmt:=top 62
theorem Hf:Aq ["_law_word","e"] [] (Ag O1):=⟨rfl,rfl,rfl,by decide+kernel,rfl,by decide+kernel,by decide+kernel⟩
abbrev Ui:Stmt:=top 63
theorem Dl:Aq ["_law_script","_law_parts","_law_left","_law_k","_law_cell","_law_whole_here","_law_each","_law_many"] ["_law_script"] (Ag Ui):=⟨rfl,rfl,rfl,by decide+kernel,rfl,by decide+kernel,by decide+kernel⟩
abbrev Jm:Stmt:=top 64
theorem Bx:Aq ["_law_whole_here","_law_found","_law_drawn","_law_ahead","_law_again","_law_once","_law_pair"] ["_law_whole_here","_law_found","_law_drawn"] (Ag Jm):=⟨rfl,rfl,rfl,by decide+kernel,rfl,by decide+kernel,by decide+kernel⟩
abbrev Wu:Stmt:=top 65
theorem M9:Aq ["_law_found","_law_many","_law_whole_here","_law_each","_law_layer"] ["_law_found","_law_many"] (Ag Wu):=⟨rfl,rfl,rfl,by decide+kernel,rfl,by decide+kernel,by decide+kernel⟩
abbrev Wn:Stmt:=top 66
theorem Og:Aq ["_law_script","_law_found","_law_drawn","_law_k","_law_whole_here","_law_parts","_law_each","_law_many","_law_cell","_law_point"] ["_law_script"] (Ag Wn):=⟨rfl,rfl,rfl,by decide+kernel,rfl,by decide+kernel,by decide+kernel⟩
def Agn (K:PySem.W.Frag):Sp:=fun vs H Q _=>∃(a:Addr) (ns:List Int),vs=[.ref a]/\SqL K H a (ns.map V.int)/\ns.length<=63/\∀H',Q (.bl true) H'
def cell (ns:List Int) (k:Int):Int:=ns.getD k.toNat 0
def Kl (K:PySem.W.Frag):Sp:=fun vs H Q _=>∃(a:Addr) (ns:List Int) (k:Int),vs=[.ref a,.int k]/\SqL K H a (ns.map V.int)/\0<=k/\Q (.int (cell ns k)) H
section
variable {P:Program}{w:World}{K:PySem.W.Frag}{mg:Str->Option Value}{base:Heap}
theorem Xb {f:Addr}{fd:FuncData} (F:Df K mg "_law_cell_at" Ox ["_law_script","_law_k"] f fd) (z_len:mg "len"=none)   :Cal P w K mg base 33 "_law_cell_at" ["_law_script","_law_k"] (Kl K):=by
  refine F.cal (F.fn.ok W4 (fun vs H Q E h=> ?_) (fun cdv A outer s H vs Q E hr h=> ?_))
  . obtain⟨a,ns,k,rfl,_⟩:=h
    rfl
  obtain⟨a,ns,k,rfl,hS,hk,q⟩:=h
  refine S.Bb ⟨_,(S.Ac (S.Du (S.Al Wf (S.pv 1) (S.Dn Am rfl z_len PySem.boot_len (S.Aa (S.pv 0) S.Ab)) (Ar _)) (S.Ae (S.Ao (S.Bl G3 (S.pv 0) (S.pv 1) (fun _ _=>rfl)))) S.Ay)
      (S.Ae (S.Ao S.Ad))),?_⟩
  contradiction
  refine⟨a,_,rfl,.inl hS,?_⟩
  rw [List.length_map]
  split
  . rename_i h
    have hk':k.toNat<ns.length:=by omega
    refine Y7 hS (v:= .int (cell ns k)) ?_ q
    have e:=Jw (xs:=ns.map V.int) (j:=k.toNat) (v:= .int (cell ns k)) (by
      rw [List.getElem?_map,List.getElem?_eq_getElem hk']
      unfold cell
      rw [List.getD_eq_getElem?_getD,List.getElem?_eq_getElem hk']
      rfl)
    rw [Int.toNat_of_nonneg hk]at e
    exact e
  . rename_i h
    have e:cell ns k=0:=by
      unfold cell
      rw [List.getD_eq_getElem?_getD,List.getElem?_eq_none (by omega)]
      rfl
    rw [e]at q
    exact q
theorem Aia {x:Int} (h:0<x):0<=Builtin.bitAnd x 2199023255551/\Builtin.bitAnd x 2199023255551<2^41:=by
  rw [PyProof.Rows.bitAnd_pp (by omega) (by decide)]
  have:x.toNat&&& Int.toNat 2199023255551<=Int.toNat 2199023255551:=Nat.and_le_right
  have e:Int.toNat 2199023255551=2199023255551:=rfl
  omega
def Q7 (_:PySem.W.Frag):Sp:=fun vs H Q _=>∃c k:Int,vs=[.int c,.int k]/\0<=k/\k<1000/\∀n:Int,0<=n->n<2^41->Q (.int n) H
theorem Aba {f:Addr}{fd:FuncData} (F:Df K mg "_law_mixed" Uv ["_law_cell","_law_k"] f fd)    :Cal P w K mg base 33 "_law_mixed" ["_law_cell","_law_k"] (Q7 K):=by
  refine F.cal (F.fn.ok Nu (fun vs H Q E h=> ?_) (fun cdv A outer s H vs Q E hr h=> ?_))
  . obtain⟨c,k,rfl,_⟩:=h
    rfl
  obtain⟨c,k,rfl,k0,k1,q⟩:=h
  refine S.Bb ⟨_,(S.Ac (S.Ah (i:=2) Nu.nd rfl (Or.inl rfl) (S.Ai Aks (S.Ai Gb (S.pv 0) S.Ad) (S.Ai Cg S.Ad (S.pv 1))))
      (S.Ac (S.Du (S.O2 (S.Rv (S.Al N6 (S.Ai Dz (S.pv 0) S.Ad) S.Ad (Ar _)) (S.Ng (S.Al R7 (S.pv 2) S.Ad (Ar _))))) (S.Ae (S.Ao (S.Ai Akk (S.pv 2) S.Ad))) S.Ay)
      (S.Ac (S.Ah (i:=3) Nu.nd rfl (Or.inl rfl) (S.Ai Dz (S.Ai Cg (S.Ai Cj (S.Ai Cj (S.Ai Dz (S.pv 0) S.Ad) (S.Ai Cg S.Ad (S.pv 1))) S.Ad) S.Ad) S.Ad))
      (S.Ac (S.Ah (i:=3) Nu.nd rfl (Or.inl rfl) (S.Ai Dz (S.Ai Cg (S.pv 3) (S.Ai Cj (S.Ai Gb (S.pv 3) S.Ad) S.Ad)) S.Ad))
      (S.Ae (S.Ao (S.Ai Dz (S.Ai Cg (S.pv 3) (S.Ai Cj (S.Ai Cj (S.Ai Gb (S.pv 3) S.Ad) S.Ad) (S.pv 1))) S.Ad))))))),?_⟩
  contradiction
  have kz:Sz 10 k:=by unfold Sz;omega
  refine⟨⟨by decide,by decide⟩,(by unfold Sz;decide:Sz 6 (41:Int)).mulOk kz (by decide),by omega,?_⟩
  have m1:IntMulOk 7919 k:=(by unfold Sz;decide:Sz 13 (7919:Int)).mulOk kz (by decide)
  have m2:IntMulOk (c%2147483647+7919*k+1) 48271:=(by unfold Sz;omega:Sz 40 (c%2147483647+7919*k+1)).mulOk (by unfold Sz;decide:Sz 16 (48271:Int)) (by decide)
  have d0:=Int.emod_nonneg ((c%2147483647+7919*k+1)*48271) (by decide:(2147483647:Int)≠0)
  have d1:=Int.emod_lt_of_pos ((c%2147483647+7919*k+1)*48271) (by decide:(0:Int)<2147483647)
  generalize (c%2147483647+7919*k+1)*48271%2147483647=d at*
  have m3:IntMulOk d (d/1009+69621):=(by unfold Sz;omega:Sz 31 d).mulOk (by unfold Sz;omega:Sz 32 (d/1009+69621)) (by decide)
  have e0:=Int.emod_nonneg (d*(d/1009+69621)) (by decide:(2147483647:Int)≠0)
  have e1:=Int.emod_lt_of_pos (d*(d/1009+69621)) (by decide:(0:Int)<2147483647)
  generalize d*(d/1009+69621)%2147483647=e at*
  have m4:IntMulOk e (e/4099+16807+k):=(by unfold Sz;omega:Sz 31 e).mulOk (by unfold Sz;omega:Sz 32 (e/4099+16807+k)) (by decide)
  have f0:=Int.emod_nonneg (e*(e/4099+16807+k)) (by decide:(2147483629:Int)≠0)
  have f1:=Int.emod_lt_of_pos (e*(e/4099+16807+k)) (by decide:(0:Int)<2147483629)
  generalize e*(e/4099+16807+k)%2147483629=f at*
  have rest:=q f f0 (by omega)
  refine⟨by decide,?_⟩
  split
  . split
    . rename_i h
      exact q _ (Aia h).1 (Aia h).2
    . exact⟨by decide,m1,m2,by decide,⟨by decide,by decide⟩,m3,by decide,⟨by decide,by decide⟩,m4,by decide,rest⟩
  . exact⟨by decide,m1,m2,by decide,⟨by decide,by decide⟩,m3,by decide,⟨by decide,by decide⟩,m4,by decide,rest⟩
theorem Ajb {H:Hp}{Q:VK}{E:XK}{c k:Int} (k0:0<=k) (k1:k<1000) (h:∀n:Int,0<=n->n<2^41->Q (.int n) H):Q7 K [.int c,.int k] H Q E:=⟨c,k,rfl,k0,k1,h⟩
def Ov (_:PySem.W.Frag):Sp:=fun vs H Q _=>∃c k:Int,vs=[.int c,.int k]/\0<=k/\k<100/\∀n H',Same H H'->Sz 50 n->Q (.int n) H'
theorem Zo {f:Addr}{fd:FuncData} (F:Df K mg "_law_weight" Q8 ["_law_cell","_law_k"] f fd)   (c_q_mixed:Cal P w K mg base 33 "_law_mixed" ["_law_cell","_law_k"] (Q7 K)):Cal P w K mg base 34 "_law_weight" ["_law_cell","_law_k"] (Ov K):=by
  refine F.cal (F.fn.ok O8 (fun vs H Q E h=> ?_) (fun cdv A outer s H vs Q E hr h=> ?_))
  . obtain⟨c,k,rfl,_⟩:=h
    rfl
  obtain⟨c,k,rfl,k0,k1,q⟩:=h
  refine S.Bb ⟨_,(S.Ac (S.Ah (i:=2) O8.nd rfl (Or.inl rfl) (S.Aj c_q_mixed (hr.mono (by decide)) (S.Aa (S.pv 0) (S.Aa (S.pv 1) S.Ab))))
      (S.Ac (S.Ah (i:=3) O8.nd rfl (Or.inl rfl) (S.Ka (S.Aa (S.Ai Gg (S.Ai Dz (S.Ai Gb (S.pv 2) S.Ad) S.Ad) S.Ad) (S.Aa (S.Ai Gg (S.Ai Dz (S.Ai Gb (S.pv 2) S.Ad) S.Ad) S.Ad) (S.Aa (S.Ai Gg (S.Ai Dz (S.Ai Gb (S.pv 2) S.Ad) S.Ad) S.Ad) S.Ab)))))
      (S.Ae (S.Ao (S.Bl G3 (S.Ai Alr (S.pv 3) (S.Ka (S.Aa (S.Ai Gg (S.Ai Dz (S.Ai Cg (S.Ai Gb (S.pv 2) S.Ad) S.Ad) (S.Ai Cg S.Ad (S.Ai Ae9 S.Ad S.Ad))) (S.Ai Cg S.Ad (S.Ai Ae9 S.Ad S.Ad))) S.Ab))) (S.Ai Dz (S.pv 2) S.Ad) (fun _ _=>rfl)))))),?_⟩
  contradiction
  refine Ajb k0 (by omega) fun n n0 n1=> ?_
  contradiction
  refine⟨⟨by decide,by decide⟩,by decide,⟨by decide,by decide⟩,by decide,⟨by decide,by decide⟩,by decide,by decide,fun p hp=> ?_⟩
  have sp:=Same.upd hp (.lst [V.int (n/4%7-3),V.int (n/4%7-3),V.int (n/4%201-100)])
  have t0:(0:Int)<4*10^Int.toNat 11:=by decide
  have t1:(4:Int)*10^Int.toNat 11<2^50/\(2:Int)*10^Int.toNat 11<2^50/\(0:Int)<=2*10^Int.toNat 11:=by decide
  have w0:=Int.emod_nonneg (n/4*7451) (Int.ne_of_gt t0)
  have w1:=Int.emod_lt_of_pos (n/4*7451) t0
  refine⟨⟨by decide,by decide⟩,(by unfold Sz;omega:Sz 41 (n/4)).mulOk (by unfold Sz;decide:Sz 14 (7451:Int)) (by decide),⟨by decide,by decide,by decide⟩,(by unfold Sz;decide:Sz 3 (4:Int)).mulOk (by unfold Sz;decide:Sz 40 ((10:Int)^Int.toNat 11)) (by decide),t0,⟨by decide,by decide,by decide⟩,
    (by unfold Sz;decide:Sz 3 (2:Int)).mulOk (by unfold Sz;decide:Sz 40 ((10:Int)^Int.toNat 11)) (by decide),fun p2 hp2=> ?_⟩
  have ne:p≠p2:=fun z=>by rw [<-z,Af]at hp2;cases hp2
  have lz:Sz 50 (n/4*7451%(4*10^Int.toNat 11)-2*10^Int.toNat 11):=by unfold Sz;omega
  generalize n/4*7451%(4*10^Int.toNat 11)-2*10^Int.toNat 11=last at*
  refine⟨p,p2,_,_,rfl,rfl,(Bv ne).trans Af,Af,(show 4<=sizeLine by decide),fun p3 hp3=>⟨by decide,?_⟩⟩
  have h0:=Int.emod_nonneg n (by decide:(4:Int)≠0)
  have h4:=Int.emod_lt_of_pos n (by decide:(0:Int)<4)
  have m:∃v,atI [V.int (n/4%7-3),V.int (n/4%7-3),V.int (n/4%201-100),V.int last] (n%4)=some (.int v)/\Sz 50 v:=by
    have:n%4=0\/n%4=1\/n%4=2\/n%4=3:=by omega
    rcases this with h | h | h | h<;>rw [h]
    . exact⟨_,rfl,by unfold Sz;omega⟩
    . exact⟨_,rfl,by unfold Sz;omega⟩
    . exact⟨_,rfl,by unfold Sz;omega⟩
    . exact⟨_,rfl,lz⟩
  obtain⟨v,e,vz⟩:=m
  exact Y7 (.of Af) e (q v _ (sp.trans ((Same.upd hp2 _).trans (Same.upd hp3 _))) vz)
theorem Afj {H:Hp}{Q:VK}{E:XK}{c k:Int} (k0:0<=k) (k1:k<100) (h:∀n H',Same H H'->Sz 50 n->Q (.int n) H'):Ov K [.int c,.int k] H Q E:=⟨c,k,rfl,k0,k1,h⟩
theorem Kf (p:List Int):(trim p).length<=p.length:=(Av p).len fun i=>Ak p i
def SqI (K:PySem.W.Frag) (H:Hp) (a:Addr) (ns:List Int):Prop:=SqL K H a (ns.map V.int)\/SqT K H a (ns.map V.int)
theorem Abp (p:List Int):trim (p++ [0])=trim p:=by
  refine Vn (Av p) fun i=> ?_
  rw [Ak]
  unfold co
  rw [List.getD_eq_getElem?_getD,List.getD_eq_getElem?_getD]
  by_cases h:i<p.length
  . rw [List.getElem?_append_left h]
  . rw [List.getElem?_append_right (by omega),List.getElem?_eq_none (l:=p) (by omega)]
    cases h':i-p.length with
    | zero=>rfl
    | succ j=>rfl
def S8 (K:PySem.W.Frag):Sp:=fun vs H Q _=>∃(a:Addr) (ns:List Int),vs=[.ref a]/\SqI K H a ns/\ns.length<=1000/\∀z H',Same H H'->SqT K H' z ((trim ns).map V.int)->Q (.ref z) H'
theorem Agk {f:Addr}{fd:FuncData} (F:Df K mg "_law_cut" Yo ["_law_weights"] f fd) (z_list:mg "list"=none) (z_tuple:mg "tuple"=none)   :Cal P w K mg base 33 "_law_cut" ["_law_weights"] (S8 K):=by
  refine F.cal (F.fn.ok Z9 (fun vs H Q E h=> ?_) (fun cdv A outer s H vs Q E hr h=> ?_))
  . obtain⟨a,ns,rfl,_⟩:=h
    rfl
  obtain⟨a,ns,rfl,hS,hl,q⟩:=h
  refine S.Bb ⟨_,(S.Ac (S.Ah (i:=1) Z9.nd rfl (Or.inl rfl) (S.Hg Jj rfl z_list PyProof.Rows.boot_list (S.Aa (S.pv 0) S.Ab)))
      (S.Ac (S.Hh PassesOwn.never (S.O2 (S.Rv (S.Al (Ag4 hr.units) (S.pv 1) (S.Ka S.Ab) (Ar _)) (S.Ng (S.Al N6 (S.Bl G3 (S.pv 1) (S.Hv Gf S.Ad) (fun _ _=>rfl)) S.Ad (Ar _))))) (S.Ae (S.Kz (S.W0 PySem.F.plainAttrs_list PySem.F.slot_list_pop PySem.F.type_list_pop Akr (S.pv 1)))))
      (S.Ae (S.Ao (S.Hg Gi rfl z_tuple PyProof.Rows.boot_tuple (S.Aa (S.pv 1) S.Ab)))))),?_⟩
  contradiction
  refine⟨a,_,rfl,hS,fun l hn=> ?_⟩
  refine Qd (fun σ H'=>σ=[some (.ref a),some (.ref l)]/\Same H H'/\∃ms:List Int,H' l=some (.lst (ms.map V.int))/\trim ms=trim ns/\ms.length<=1000)
    (fun σ H'=>match H' l with | some (.lst xs)=>xs.length | _=>0) ⟨rfl,Same.upd hn _,ns,Af,rfl,hl⟩ ?_
  rintro σ H' ⟨rfl,s1,ms,hm,ht,hl1⟩
  have fin:∀H2:Hp,Same H' H2->trim ms=ms->∃p ys,[V.ref l]=[V.ref p]/\((SqL K H2 p ys/\∀(l:Addr),H2 l=none->Q (V.ref l) (upd H2 l (HO.tup ys)))\/SqT K H2 p ys/\Q (V.ref p) H2):=fun H2 s2 e=>
    ⟨l,_,rfl,.inl ⟨.of (s2 _ _ hm),fun z hz=>q z _ ((s1.trans s2).trans (Same.upd hz _)) (by rw [<-ht,e];exact .of Af)⟩⟩
  contradiction
  refine⟨by decide,fun p hp=> ?_⟩
  have nlp:l≠p:=fun z=>by
    rw [z,hp]at hm
    cases hm
  have s2:=Same.upd hp (.lst [])
  have hm2:upd H' p (.lst []) l=some (.lst (ms.map V.int)):=s2 _ _ hm
  refine Agm (ms:=[]) (.of hm2) (.of Af) ?_
  contradiction
  by_cases h0:ms=[]
  . rw [if_pos h0]
    exact fin _ s2 (by rw [h0];rfl)
  . rw [if_neg h0]
    obtain⟨ini,d,rfl⟩:∃(i:List Int) (x:Int),ms=i++ [x]:=⟨_,_,(List.dropLast_concat_getLast h0).symm⟩
    have em:(ini++ [d]).map V.int=ini.map V.int++ [V.int d]:=by rw [List.map_append];rfl
    rw [em]at hm hm2
    refine Y7 (.of hm2) (Wg _ _) ?_
    contradiction
    by_cases hz:d=0
    . rw [if_pos hz]
      subst hz
      refine Agf ?_
      contradiction
      refine⟨.inl ⟨rfl,_,.of hm2⟩,l,_,.int 0,rfl,rfl,hm2,by simp,?_⟩
      dsimp only
      rw [hm,Af,List.dropLast_concat]
      refine⟨⟨fun b o e=> ?_,ini,rfl,(Abp ini).symm.trans ht,?_⟩,?_⟩
      . rw [Bv (Bt e hn)]
        exact s2 _ _ (s1 _ _ e)
      . rw [List.length_append]at hl1
        exact Nat.le_trans (Nat.le_add_right _ _) hl1
      . simp
    . rw [if_neg hz]
      exact fin _ s2 (Zu (.inr ⟨h0,by rw [List.getLast_concat];exact hz⟩))
theorem Alv {H:Hp}{Q:VK}{E:XK}{a:Addr}{ns:List Int} (h0:SqI K H a ns) (hl:ns.length<=1000) (h:∀z H',Same H H'->SqT K H' z ((trim ns).map V.int)->Q (.ref z) H'):S8 K [.ref a] H Q E:=⟨a,ns,rfl,h0,hl,h⟩
def Po (K:PySem.W.Frag) (H:Hp) (v:V) (p:List Int) (l n:Nat):Prop:=(∃a,v= .ref a/\SqT K H a (p.map V.int))/\Tr p/\p.length<=l/\∀i,Sz n (co p i)
theorem Po.mono {K:PySem.W.Frag}{H H':Hp}{v:V}{p:List Int}{l n:Nat} (h:Po K H v p l n) (s:Same H H'):Po K H' v p l n:=by
  obtain⟨⟨a,e,t⟩,r⟩:=h
  exact⟨⟨a,e,s.tup t⟩,r⟩
theorem Sz0 {n:Nat} (h:0<n):Sz n 0:=Nat.pow_pos (by decide)
theorem Yw {p:List Int}{n:Nat} (h0:0<n) (h:∀x∈p,Sz n x) (i:Nat):Sz n (co p i):=by
  by_cases hi:i<p.length
  . rw [Eb hi]
    exact h _ (List.getElem_mem hi)
  . rw [Bm (by omega)]
    exact Sz0 h0
def Pk (K:PySem.W.Frag):Sp:=fun vs H Q _=>∃(c m:Int),vs=[.int c,.int m]/\0<=m/\m<=16/\∀z H' p,Same H H'->Po K H' z p (m.toNat+1) 50->Q z H'
theorem Acr {f:Addr}{fd:FuncData} (F:Df K mg "_law_poly" Ss ["_law_cell","_law_most"] f fd) (z_range:mg "range"=none)  (c_q_cut:Cal P w K mg base 33 "_law_cut" ["_law_weights"] (S8 K)) (c_q_weight:Cal P w K mg base 34 "_law_weight" ["_law_cell","_law_k"] (Ov K)):Cal P w K mg base 35 "_law_poly" ["_law_cell","_law_most"] (Pk K):=by
  refine F.cal (F.fn.ok Ac3 (fun vs H Q E h=> ?_) (fun cdv A outer s H vs Q E hr h=> ?_))
  . obtain⟨c,m,rfl,_⟩:=h
    rfl
  obtain⟨c,m,rfl,m0,m1,q⟩:=h
  refine S.Bb ⟨_,(S.Ae (S.Ao (S.Aj c_q_cut (hr.mono (by decide)) (S.Aa (S.Kv (ts:=["_law_k"]) (fs:=[(0,"_law_cell")]) rfl (Dp.of (sc:=Ag Ss) (N:=["_law_cell","_law_most"]) rfl rfl (by decide+kernel)) (S.Kd rfl z_range (S.Aa (S.Ai Dz (S.Ai Dz (S.pv 0) S.Ad) (S.Ai Cj (S.pv 1) S.Ad)) S.Ab)) (fun _ _ _=>(S.Aw (i:=0) (show List.Nodup (["_law_k","_law_cell"]:List Str)by decide+kernel) rfl (Or.inl rfl))) (fun _ _ _=>S.Jz) (fun _ _ _=>(S.Aj c_q_weight (hr.mono (by decide)) (S.Aa (S.Ai Gb (S.pv 1) S.Ad) (S.Aa (S.pv 0) S.Ab))))) S.Ab)))),?_⟩
  contradiction
  have b0:=Int.emod_nonneg (c%20) (by omega:m+2≠0)
  have b1:=Int.emod_lt_of_pos (c%20) (by omega:0<m+2)
  refine⟨by decide,by omega,by omega,by omega,fun p hp=>Afx (es:=List.range (c%20%(m+2)).toNat) (inj:=fun i=> .int (0+(i:Nat))) (fun _ n=>Sz 50 n) ?_ hp Aad ?_ ?_⟩
  . rw [List.length_range]
    exact Nat.le_trans (show(c%20%(m+2)).toNat<=100 by omega) (by decide)
  . intro e H2 R he s2 hR
    have he':=List.mem_range.mp he
    contradiction
    exact⟨⟨by decide,by decide⟩,Afj (by omega) (by omega) fun n H3 s3 nz=>hR n H3 s3 nz⟩
  . intro ns H2 hl hz s2 h2
    rw [List.length_range]at hl
    refine Alv (.inl (.of h2)) (by omega) fun z H3 s3 hT=>q _ _ (trim ns) ?_ ⟨⟨z,rfl,hT⟩,Av _,?_,fun i=> ?_⟩
    . exact s2.trans s3
    . have:=Kf ns
      omega
    . rw [Ak]
      refine Yw (by decide) (fun x hx=> ?_) i
      obtain⟨j,hj,e⟩:=List.getElem_of_mem hx
      exact hz j j x (by rw [List.getElem?_range (by omega)]) (by rw [List.getElem?_eq_getElem hj,e])
theorem Acf {H:Hp}{Q:VK}{E:XK}{c m:Int} (m0:0<=m) (m1:m<=16) (h:∀z H' p,Same H H'->Po K H' z p (m.toNat+1) 50->Q z H'):Pk K [.int c,.int m] H Q E:=⟨c,m,rfl,m0,m1,h⟩
def Mu (K:PySem.W.Frag):Sp:=fun vs H Q _=>∃(a:Addr) (ns:List Int),vs=[.ref a]/\SqI K H a ns/\ns.length<=1000/\∀z H',Same H H'->SqT K H' z ((trim ns).map V.int)->Q (.ref z) H'
theorem Aik {f:Addr}{fd:FuncData} (F:Df K mg "poly" Aeu ["weights"] f fd) (z_len:mg "len"=none) (z_tuple:mg "tuple"=none)   :Cal P w K mg base 33 "poly" ["weights"] (Mu K):=by
  refine F.cal (F.fn.ok Zv (fun vs H Q E h=> ?_) (fun cdv A outer s H vs Q E hr h=> ?_))
  . obtain⟨a,ns,rfl,_⟩:=h
    rfl
  obtain⟨a,ns,rfl,hS,hl,q⟩:=h
  refine S.Bb ⟨_,(S.Ac (S.Ah (i:=1) Zv.nd rfl (Or.inl rfl) (S.Dn Am rfl z_len PySem.boot_len (S.Aa (S.pv 0) S.Ab)))
      (S.Ac (S.Hh PassesOwn.never (S.O2 (S.Rv (S.Al R7 (S.pv 1) S.Ad (Ar _)) (S.Ng (S.Al N6 (S.Bl Als (S.pv 0) (S.Ai Gg (S.pv 1) S.Ad) (fun _ _=>rfl)) S.Ad (Ar _))))) (S.Ae (S.Ah (i:=1) Zv.nd rfl (Or.inl rfl) (S.Ai Gg (S.pv 1) S.Ad))))
      (S.Ae (S.Ao (S.Hg Gi rfl z_tuple PyProof.Rows.boot_tuple (S.Aa (S.Ln Alz (S.pv 0) S.Oq (S.O6 (S.pv 1))) S.Ab)))))),?_⟩
  contradiction
  refine⟨a,_,rfl,hS,?_⟩
  rw [List.length_map]
  refine Qd (fun σ H'=>H'=H/\∃n:Nat,σ=[some (.ref a),some (.int n)]/\n<=ns.length/\∀i,n<=i->co ns i=0) (fun σ _=>match σ with | [_,some (.int n)]=>n.toNat | _=>0)
    ⟨rfl,_,rfl,Nat.le_refl _,fun i h=>Bm h⟩ ?_
  rintro σ H' ⟨rfl,n,rfl,hn,hz⟩
  have fin:(n=0\/co ns (n-1)≠0)->Aon K (V.ref a) none (some (n:Int)) H' (fun x H1=>∃p ys,[x]=[V.ref p]/\((SqL K H1 p ys/\∀(l:Addr),H1 l=none->Q (V.ref l) (upd H1 l (HO.tup ys)))\/SqT K H1 p ys/\Q (V.ref p) H1)):=fun h=>by
    have e:T6 (ns.map V.int) none (some (n:Int))=(trim ns).map V.int:=by
      rw [Ad8 hz h]
      unfold T6
      rw [HT.S6,HT.Vz,List.drop_zero,Nat.sub_zero,List.length_map,Nat.min_eq_left hn,List.map_take]
    rcases hS with hS | hS
    . refine⟨a,_,rfl,.inl ⟨hS,fun z H2 s2 hz2=> ?_⟩⟩
      rw [e]at hz2
      exact⟨z,_,rfl,.inl ⟨hz2,fun y hy=>q y _ (s2.trans (Same.upd hy _)) (.of Af)⟩⟩
    . refine⟨a,_,rfl,.inr ⟨hS,fun z H2 s2 hz2=> ?_⟩⟩
      rw [e]at hz2
      exact⟨z,_,rfl,.inr ⟨hz2,q z _ s2 hz2⟩⟩
  contradiction
  by_cases h0:(0:Int)<n
  . rw [if_pos h0]
    refine⟨a,_,_,.int (co ns (n-1)),rfl,rfl,hS,?_,?_⟩
    . have e:=Jw (xs:=ns.map V.int) (j:=n-1) (v:= .int (co ns (n-1))) (by rw [List.getElem?_map,List.getElem?_eq_getElem (by omega),Eb (by omega)];rfl)
      rw [show((n-1:Nat):Int)=(n:Int)-1 by omega]at e
      exact e
    contradiction
    by_cases hc:co ns (n-1)=0
    . rw [if_pos hc]
      refine Agf ?_
      contradiction
      refine⟨⟨n-1,by rw [show((n-1:Nat):Int)=(n:Int)-1 by omega],by omega,fun i hi=> ?_⟩,by omega⟩
      by_cases hi':i=n-1
      . rw [hi',hc]
      . exact hz i (by omega)
    . rw [if_neg hc]
      exact fin (.inr hc)
  . rw [if_neg h0]
    exact fin (.inl (by omega))
def Am0:Sp:=fun vs H Q _=>∃a b:Int,vs=[.int a,.int b]/\Q (.int (Int.gcd a b:Int)) H
def Np (_:PySem.W.Frag):Sp:=Am0
theorem Abs {f:Addr}{fd:FuncData} (F:Df K mg "divisor" Te ["one","other"] f fd) (z_abs:mg "abs"=none)   :Cal P w K mg base 33 "divisor" ["one","other"] (Np K):=by
  refine F.cal (F.fn.ok Nt (fun vs H Q E h=> ?_) (fun cdv A outer s H vs Q E hr h=> ?_))
  . obtain⟨a,b,rfl,_⟩:=h
    rfl
  obtain⟨a,b,rfl,q⟩:=h
  refine S.Bb ⟨_,(S.Ac (S.Ah (i:=2) Nt.nd rfl (Or.inl rfl) (S.Dn Vr rfl z_abs PyProof.Rows.boot_abs (S.Aa (S.pv 0) S.Ab)))
      (S.Ac (S.Ah (i:=3) Nt.nd rfl (Or.inl rfl) (S.Dn Vr rfl z_abs PyProof.Rows.boot_abs (S.Aa (S.pv 1) S.Ab)))
      (S.Ac (S.Hh PassesOwn.never (S.Al Q6 (S.pv 3) S.Ad (Ar _)) (S.Ae (S.Qi (i:=2) (j:=3) rfl Nt.nd rfl rfl (by decide) rfl rfl (S.Aa (S.pv 3) (S.Aa (S.Ai Dz (S.pv 2) (S.pv 3)) S.Ab)) rfl)))
      (S.Ae (S.Ao (S.pv 2)))))),?_⟩
  simp only [Ib,Fv,Il,Ii,Fz,Hy,Bw,Hu,Em,Ef,z_c,Pj,Qq,Qx,Iz,Qu,Iw,Hw,Im,Hz,Ea,Qp,Hr,Ij,Ip,Fg,Fq,Ie,Hs,Qs,Fj,Ht,Er,Qw,Fi,Ia,Ga,Qt,Hq,Iv,Cz,Ew,Ez,Fy,Cr,Ed,Ir,Ih,Hl,G7,Qv,Bo,Et,Ig,Qo,Iu,Fe,Ja,Jc,Ei,Io,Eo,Eh,Fl,Cm,Jb,Cq,En,Ek,Ft,Cy,Es,Cu,Hx,Ey,Ho,Ej,Fx,Ec,Cv,Bp,Ck,Fw,Ik,El,Fo,Cw,Eu,Qn,cpσ,List.getElem?_cons_zero,List.getElem?_cons_succ,Option.join_some,List.set_cons_zero,List.set_cons_succ,List.append_nil,decide_eq_true_eq,Bool.not_eq_true',decide_eq_false_iff_not,Bool.not_not,ite_not,Bool.false_eq_true,Bool.true_eq_false,if_false,if_true,if_pos,List.length_cons,List.length_nil,Nat.zero_add,Nat.reduceAdd,Fb,Ep,true_and,and_true,L2.start,List.map_cons,List.map_nil,Bool.not_true,Bool.not_false,Nat.reduceSub,List.replicate_succ,List.replicate_zero,List.cons_append,List.nil_append,abs_eq]
  refine Afk (fun σ H'=>H'=H/\∃x y:Nat,σ=[some (.int a),some (.int b),some (.int x),some (.int y)]/\Nat.gcd x y=Nat.gcd a.natAbs b.natAbs)
    (fun σ _=>match σ with | [_,_,_,some (.int y)]=>y.toNat | _=>0) ⟨rfl,_,_,rfl,rfl⟩ ?_ ?_
  . rintro σ H' ⟨rfl,x,y,rfl,e⟩
    contradiction
    by_cases hy:(y:Int)=0
    . rw [if_pos hy]
      have hy':y=0:=by omega
      subst hy'
      rw [Nat.gcd_zero_right]at e
      subst e
      exact q
    . rw [if_neg hy]
      refine⟨by omega,⟨y,x%y,by rw [Int.natCast_emod],by rw [Agl];exact e⟩,?_⟩
      show((x:Int)%(y:Int)).toNat<(y:Int).toNat
      rw [<-Int.natCast_emod,Int.toNat_natCast,Int.toNat_natCast]
      exact Nat.mod_lt _ (by omega)
  . intro σ H' Q1 Q2 h12
    simp only [Ea,Pj]
    rintro⟨v,e1,hs⟩
    exact⟨v,e1,by
      obtain⟨s1,k,e2,h3⟩:=hs
      exact⟨s1,k,e2,h12 _ _ h3⟩⟩
def Gw (K:PySem.W.Frag):Sp:=fun vs H Q _=>∃(x:V) (p:List Int) (l n:Nat),vs=[x]/\Po K H x p l n/\Q (.int ((p.length:Int)-1)) H
theorem Ac6 {f:Addr}{fd:FuncData} (F:Df K mg "degree" Vv ["one"] f fd) (z_len:mg "len"=none)   :Cal P w K mg base 33 "degree" ["one"] (Gw K):=by
  refine F.cal (F.fn.ok Ack (fun vs H Q E h=> ?_) (fun cdv A outer s H vs Q E hr h=> ?_))
  . obtain⟨x,p,_,_,rfl,_⟩:=h
    rfl
  obtain⟨x,p,l,n,rfl,⟨⟨a,rfl,ha⟩,tp,lp,zp⟩,k⟩:=h
  refine S.Bb ⟨_,(S.Ae (S.Ao (S.Ai Gg (S.Dn Am rfl z_len PySem.boot_len (S.Aa (S.pv 0) S.Ab)) S.Ad))),?_⟩
  contradiction
  refine⟨a,_,rfl,.inr ha,?_⟩
  simp only [Ib,Fv,Il,Ii,Fz,Hy,Bw,Hu,Em,Ef,z_c,Pj,Qq,Qx,Iz,Qu,Iw,Hw,Im,Hz,Ea,Qp,Hr,Ij,Ip,Fg,Fq,Ie,Hs,Qs,Fj,Ht,Er,Qw,Fi,Ia,Ga,Qt,Hq,Iv,Cz,Ew,Ez,Fy,Cr,Ed,Ir,Ih,Hl,G7,Qv,Bo,Et,Ig,Qo,Iu,Fe,Ja,Jc,Ei,Io,Eo,Eh,Fl,Cm,Jb,Cq,En,Ek,Ft,Cy,Es,Cu,Hx,Ey,Ho,Ej,Fx,Ec,Cv,Bp,Ck,Fw,Ik,El,Fo,Cw,Eu,Qn,cpσ,List.getElem?_cons_zero,List.getElem?_cons_succ,Option.join_some,List.set_cons_zero,List.set_cons_succ,List.append_nil,decide_eq_true_eq,Bool.not_eq_true',decide_eq_false_iff_not,Bool.not_not,ite_not,Bool.false_eq_true,Bool.true_eq_false,if_false,if_true,if_pos,List.length_cons,List.length_nil,Nat.zero_add,Nat.reduceAdd,Fb,Ep,true_and,and_true,L2.start,List.map_cons,List.map_nil,Bool.not_true,Bool.not_false,Nat.reduceSub,List.replicate_succ,List.replicate_zero,List.cons_append,List.nil_append,List.length_map]
  exact k
theorem Dd {H H1:Hp}{Q:VK}{E:XK}{x:V}{p:List Int}{l n:Nat} (hx:Po K H1 x p l n) (s1:Same H1 H) (h:Q (.int ((p.length:Int)-1)) H):Gw K [x] H Q E:=⟨x,p,l,n,rfl,hx.mono s1,h⟩
theorem Acm {H:Hp}{Q:VK}{E:XK}{a:Addr}{ns:List Int} (h0:SqL K H a (ns.map V.int)) (hl:ns.length<=1000) (h:∀z H',Same H H'->SqT K H' z ((trim ns).map V.int)->Q (.ref z) H'):Mu K [.ref a] H Q E:=⟨a,ns,rfl,by first | exact h0 | exact .inl h0,hl,h⟩
def Aos (K:PySem.W.Frag) (c:List Int->List Int->Prop):Sp:=fun vs H Q _=>∃(x y:V) (p q:List Int) (l l' n n':Nat),vs=[x,y]/\Po K H x p l n/\Po K H y q l' n'/\l<=500/\l'<=500/\c p q/\∀z H',Same H H'->Po K H' z (ta p q) (max l l') (max n n'+1)->Q z H'
def Abj (K:PySem.W.Frag):Sp:=Aos K fun p q=>q.length<=p.length
def Ua (K:PySem.W.Frag):Sp:=Aos K fun _ _=>True
theorem Abl {f:Addr}{fd:FuncData} (F:Df K mg "p_plus" S7 ["one","other"] f fd) (z_list:mg "list"=none) (z_enumerate:mg "enumerate"=none) (z_len:mg "len"=none)  (c_poly:Cal P w K mg base 33 "poly" ["weights"] (Mu K)):Cal P w K mg base 34 "p_plus" ["one","other"] (Abj K):=by
  refine F.cal (F.fn.ok Jl (fun vs H Q E h=> ?_) (fun cdv A outer s H vs Q E hr h=> ?_))
  . obtain⟨x,y,p,q,_,_,_,_,rfl,_⟩:=h
    rfl
  obtain⟨x,y,p,q,l,l',n,n',rfl,⟨⟨a,rfl,ha⟩,tp,lp,zp⟩,⟨⟨b,rfl,hb⟩,tq,lq,zq⟩,l5,l5',hc,k⟩:=h
  refine S.Bb ⟨_,(S.Ac (S.Du (S.Al Wf (S.Dn Am rfl z_len PySem.boot_len (S.Aa (S.pv 0) S.Ab)) (S.Dn Am rfl z_len PySem.boot_len (S.Aa (S.pv 1) S.Ab)) (Ar _)) (S.Ae S.Lj) S.Ay)
      (S.Ac (S.Ah (i:=2) Jl.nd rfl (Or.inl rfl) (S.Hg Jj rfl z_list PyProof.Rows.boot_list (S.Aa (S.pv 0) S.Ab)))
      (S.Ac (S.Gq PassesOwn.never rfl (S.U3 rfl z_enumerate (S.Aa (S.pv 1) S.Ab)) (S.Jd rfl (S.Bd (S.Aw (i:=3) Jl.nd rfl (Or.inl rfl)) (S.Bd (S.Aw (i:=4) Jl.nd rfl (Or.inl rfl)) S.Gv))) (S.Ae (S.Jq (S.Ai Cj (S.Bl G3 (S.pv 2) (S.pv 3) (fun _ _=>rfl)) (S.pv 4)) (S.Ms (S.pv 2) (S.pv 3) set_list))))
      (S.Ae (S.Ao (S.Aj c_poly (hr.mono (by decide)) (S.Aa (S.pv 2) S.Ab))))))),?_⟩
  contradiction
  refine⟨a,_,rfl,.inr ha,b,_,rfl,.inr hb,?_⟩
  simp only [Ib,Fv,Il,Ii,Fz,Hy,Bw,Hu,Em,Ef,z_c,Pj,Qq,Qx,Iz,Qu,Iw,Hw,Im,Hz,Ea,Qp,Hr,Ij,Ip,Fg,Fq,Ie,Hs,Qs,Fj,Ht,Er,Qw,Fi,Ia,Ga,Qt,Hq,Iv,Cz,Ew,Ez,Fy,Cr,Ed,Ir,Ih,Hl,G7,Qv,Bo,Et,Ig,Qo,Iu,Fe,Ja,Jc,Ei,Io,Eo,Eh,Fl,Cm,Jb,Cq,En,Ek,Ft,Cy,Es,Cu,Hx,Ey,Ho,Ej,Fx,Ec,Cv,Bp,Ck,Fw,Ik,El,Fo,Cw,Eu,Qn,cpσ,List.getElem?_cons_zero,List.getElem?_cons_succ,Option.join_some,List.set_cons_zero,List.set_cons_succ,List.append_nil,decide_eq_true_eq,Bool.not_eq_true',decide_eq_false_iff_not,Bool.not_not,ite_not,Bool.false_eq_true,Bool.true_eq_false,if_false,if_true,if_pos,List.length_cons,List.length_nil,Nat.zero_add,Nat.reduceAdd,Fb,Ep,true_and,and_true,L2.start,List.map_cons,List.map_nil,Bool.not_true,Bool.not_false,Nat.reduceSub,List.replicate_succ,List.replicate_zero,List.cons_append,List.nil_append,List.length_map]
  have hc':¬((p.length:Nat):Int)<(q.length:Nat):=by omega
  rw [if_neg hc']
  refine⟨a,_,rfl,.inr ha,fun l0 hn=> ?_⟩
  have s0:=Same.upd hn (.lst (p.map V.int))
  try contradiction
  refine⟨⟨_,s0.tup hb⟩,Abb (es:=q) (inj:=V.int) (fun pre σ H'=>∃(o1 o2:Option V) (ms:List Int),σ=[some (.ref a),some (.ref b),some (.ref l0),o1,o2]/\Same H H'/\H' l0=some (.lst (ms.map V.int))/\ms.length=p.length/\∀i,co ms i=co p i+co pre i)
    ⟨_,_,p,rfl,s0,Af,rfl,fun i=>by rw [Az,Int.add_zero]⟩ ?_ ?_ ?_⟩
  . rintro pre σ H' ⟨o1,o2,ms,rfl,s1,_⟩
    exact s1.tup hb
  . rintro pre e post σ H' p1 he ⟨o1,o2,ms,rfl,s1,hm,hlm,hco⟩ hp1
    refine J1 (.of Af) ?_
    have hlen:=congrArg List.length he
    rw [List.length_append,List.length_cons]at hlen
    have hj:pre.length<ms.length:=by omega
    have s2:=Same.upd hp1 (.tup [V.int (pre.length:Nat),V.int e])
    have hm2:=s2 _ _ hm
    try contradiction
    refine P0 (.of hm2) (G6 hj) ?_
    try contradiction
    refine Yi hm2 (by rw [List.length_map];exact hj) ?_
    try contradiction
    rw [Kq]
    refine⟨_,_,ms.set pre.length (ms[pre.length]+e),rfl,?_,Af,by rw [List.length_set];exact hlm,fun i=> ?_⟩
    . intro c o hc
      rw [Bv (Bt hc hn)]
      exact s2 _ _ (s1 _ _ hc)
    . rw [Ru _ _ _ hj,J6,hco i]
      by_cases hi:i=pre.length
      . subst hi
        rw [if_pos rfl,if_pos rfl,<-Eb hj,hco,Bm (p:=pre) (Nat.le_refl _)]
        omega
      . rw [if_neg hi,if_neg hi]
  . rintro σ H' ⟨o1,o2,ms,rfl,s1,hm,hlm,hco⟩
    try contradiction
    refine Acm (.of hm) (by omega) fun z H2 s2 hz=>k _ _ (s1.trans s2) ⟨⟨z,rfl,?_⟩,U5 _ _,?_,fun i=> ?_⟩
    . have e:trim ms=ta p q:=Rp fun i=>by rw [hco,R9]
      rw [<-e]
      exact hz
    . have:=Ahh p q
      omega
    . rw [Ph]
      exact(zp i).add (zq i)
theorem Ac8 {f:Addr}{fd:FuncData} (F:Df K mg "p_plus" S7 ["one","other"] f fd) (z_list:mg "list"=none) (z_enumerate:mg "enumerate"=none) (z_len:mg "len"=none)  (c_poly:Cal P w K mg base 33 "poly" ["weights"] (Mu K)):Cal P w K mg base 35 "p_plus" ["one","other"] (Ua K):=by
  have c_p_plus:=Abl F (z_len:=z_len) (z_list:=z_list) (z_enumerate:=z_enumerate) (c_poly:=c_poly)
  refine F.cal (F.fn.ok Jl (fun vs H Q E h=> ?_) (fun cdv A outer s H vs Q E hr h=> ?_))
  . obtain⟨x,y,p,q,_,_,_,_,rfl,_⟩:=h
    rfl
  obtain⟨x,y,p,q,l,l',n,n',rfl,⟨⟨a,rfl,ha⟩,tp,lp,zp⟩,⟨⟨b,rfl,hb⟩,tq,lq,zq⟩,l5,l5',hc,k⟩:=h
  refine S.Bb ⟨_,(S.Ac (S.Du (S.Al Wf (S.Dn Am rfl z_len PySem.boot_len (S.Aa (S.pv 0) S.Ab)) (S.Dn Am rfl z_len PySem.boot_len (S.Aa (S.pv 1) S.Ab)) (Ar _)) (S.Ae (S.Ao (S.Aj c_p_plus (hr.mono (by decide)) (S.Aa (S.pv 1) (S.Aa (S.pv 0) S.Ab))))) S.Ay)
      (S.Ac (S.Ah (i:=2) Jl.nd rfl (Or.inl rfl) (S.Hg Jj rfl z_list PyProof.Rows.boot_list (S.Aa (S.pv 0) S.Ab)))
      (S.Ac (S.Gq PassesOwn.never rfl (S.U3 rfl z_enumerate (S.Aa (S.pv 1) S.Ab)) (S.Jd rfl (S.Bd (S.Aw (i:=3) Jl.nd rfl (Or.inl rfl)) (S.Bd (S.Aw (i:=4) Jl.nd rfl (Or.inl rfl)) S.Gv))) (S.Ae (S.Jq (S.Ai Cj (S.Bl G3 (S.pv 2) (S.pv 3) (fun _ _=>rfl)) (S.pv 4)) (S.Ms (S.pv 2) (S.pv 3) set_list))))
      (S.Ae (S.Ao (S.Aj c_poly (hr.mono (by decide)) (S.Aa (S.pv 2) S.Ab))))))),?_⟩
  contradiction
  refine⟨a,_,rfl,.inr ha,b,_,rfl,.inr hb,?_⟩
  simp only [Ib,Fv,Il,Ii,Fz,Hy,Bw,Hu,Em,Ef,z_c,Pj,Qq,Qx,Iz,Qu,Iw,Hw,Im,Hz,Ea,Qp,Hr,Ij,Ip,Fg,Fq,Ie,Hs,Qs,Fj,Ht,Er,Qw,Fi,Ia,Ga,Qt,Hq,Iv,Cz,Ew,Ez,Fy,Cr,Ed,Ir,Ih,Hl,G7,Qv,Bo,Et,Ig,Qo,Iu,Fe,Ja,Jc,Ei,Io,Eo,Eh,Fl,Cm,Jb,Cq,En,Ek,Ft,Cy,Es,Cu,Hx,Ey,Ho,Ej,Fx,Ec,Cv,Bp,Ck,Fw,Ik,El,Fo,Cw,Eu,Qn,cpσ,List.getElem?_cons_zero,List.getElem?_cons_succ,Option.join_some,List.set_cons_zero,List.set_cons_succ,List.append_nil,decide_eq_true_eq,Bool.not_eq_true',decide_eq_false_iff_not,Bool.not_not,ite_not,Bool.false_eq_true,Bool.true_eq_false,if_false,if_true,if_pos,List.length_cons,List.length_nil,Nat.zero_add,Nat.reduceAdd,Fb,Ep,true_and,and_true,L2.start,List.map_cons,List.map_nil,Bool.not_true,Bool.not_false,Nat.reduceSub,List.replicate_succ,List.replicate_zero,List.cons_append,List.nil_append,List.length_map]
  by_cases hc':((p.length:Nat):Int)<(q.length:Nat)
  . rw [if_pos hc']
    refine⟨_,_,q,p,l',l,n',n,rfl,⟨⟨b,rfl,hb⟩,tq,lq,zq⟩,⟨⟨a,rfl,ha⟩,tp,lp,zp⟩,l5',l5,by omega,fun z H' s i=>k z H' s ?_⟩
    rw [Aj8 p q,Nat.max_comm l l',Nat.max_comm n n']
    exact i
  rw [if_neg hc']
  refine⟨a,_,rfl,.inr ha,fun l0 hn=> ?_⟩
  have s0:=Same.upd hn (.lst (p.map V.int))
  try contradiction
  refine⟨⟨_,s0.tup hb⟩,Abb (es:=q) (inj:=V.int) (fun pre σ H'=>∃(o1 o2:Option V) (ms:List Int),σ=[some (.ref a),some (.ref b),some (.ref l0),o1,o2]/\Same H H'/\H' l0=some (.lst (ms.map V.int))/\ms.length=p.length/\∀i,co ms i=co p i+co pre i)
    ⟨_,_,p,rfl,s0,Af,rfl,fun i=>by rw [Az,Int.add_zero]⟩ ?_ ?_ ?_⟩
  . rintro pre σ H' ⟨o1,o2,ms,rfl,s1,_⟩
    exact s1.tup hb
  . rintro pre e post σ H' p1 he ⟨o1,o2,ms,rfl,s1,hm,hlm,hco⟩ hp1
    refine J1 (.of Af) ?_
    have hlen:=congrArg List.length he
    rw [List.length_append,List.length_cons]at hlen
    have hj:pre.length<ms.length:=by omega
    have s2:=Same.upd hp1 (.tup [V.int (pre.length:Nat),V.int e])
    have hm2:=s2 _ _ hm
    try contradiction
    refine P0 (.of hm2) (G6 hj) ?_
    try contradiction
    refine Yi hm2 (by rw [List.length_map];exact hj) ?_
    try contradiction
    rw [Kq]
    refine⟨_,_,ms.set pre.length (ms[pre.length]+e),rfl,?_,Af,by rw [List.length_set];exact hlm,fun i=> ?_⟩
    . intro c o hc
      rw [Bv (Bt hc hn)]
      exact s2 _ _ (s1 _ _ hc)
    . rw [Ru _ _ _ hj,J6,hco i]
      by_cases hi:i=pre.length
      . subst hi
        rw [if_pos rfl,if_pos rfl,<-Eb hj,hco,Bm (p:=pre) (Nat.le_refl _)]
        omega
      . rw [if_neg hi,if_neg hi]
  . rintro σ H' ⟨o1,o2,ms,rfl,s1,hm,hlm,hco⟩
    try contradiction
    refine Acm (.of hm) (by omega) fun z H2 s2 hz=>k _ _ (s1.trans s2) ⟨⟨z,rfl,?_⟩,U5 _ _,?_,fun i=> ?_⟩
    . have e:trim ms=ta p q:=Rp fun i=>by rw [hco,R9]
      rw [<-e]
      exact hz
    . have:=Ahh p q
      omega
    . rw [Ph]
      exact(zp i).add (zq i)
def M4 (K:PySem.W.Frag):Sp:=fun vs H Q _=>∃(x:V) (c:Int) (p:List Int) (l n m:Nat),vs=[x,.int c]/\Po K H x p l n/\Sz m c/\l<=500/\n+m<=100000000/\∀z H',Same H H'->Po K H' z (ng p c) l (n+m)->Q z H'
theorem Aem {f:Addr}{fd:FuncData} (F:Df K mg "scaled" Sw ["one","factor"] f fd) (z_tuple:mg "tuple"=none)   :Cal P w K mg base 33 "scaled" ["one","factor"] (M4 K):=by
  refine F.cal (F.fn.ok Ad1 (fun vs H Q E h=> ?_) (fun cdv A outer s H vs Q E hr h=> ?_))
  . obtain⟨x,c,p,_,_,_,rfl,_⟩:=h
    rfl
  obtain⟨x,c,p,l,n,m,rfl,⟨⟨a,rfl,ha⟩,tp,lp,zp⟩,hm,l5,hz,k⟩:=h
  refine S.Bb ⟨_,(S.Ac (S.Du (S.Al N6 (S.pv 1) S.Ad (Ar _)) (S.Ae (S.Ao (S.Bq S.Ab))) S.Ay)
      (S.Ae (S.Ao (S.Hg Gi rfl z_tuple PyProof.Rows.boot_tuple (S.Aa (S.Kv (ts:=["weight"]) (fs:=[(1,"factor")]) rfl (Dp.of (sc:=Ag Sw) (N:=["one","factor"]) rfl rfl (by decide+kernel)) (S.Ug (S.pv 0)) (fun _ _ _=>(S.Aw (i:=0) (show List.Nodup (["weight","factor"]:List Str)by decide+kernel) rfl (Or.inl rfl))) (fun _ _ _=>S.Jz) (fun _ _ _=>(S.Ai Cg (S.pv 0) (S.pv 1)))) S.Ab))))),?_⟩
  contradiction
  have szc:∀i,Sz (n+m) (co (ng p c) i):=fun i=>by
    rw [Ue]
    exact(zp i).mul hm
  by_cases hc:c=0
  . rw [if_pos hc]
    refine⟨by decide,fun z hz'=>k _ _ (Same.upd hz' _) ⟨⟨z,rfl,?_⟩,Av _,?_,szc⟩⟩
    . have e:ng p c=[]:=(Av _).ext (.inl rfl) fun i=>by
        have:=Ue p c i
        rw [hc,Int.mul_zero]at this
        rw [Az,<-this,hc,ng]
      rw [e]
      exact .of Af
    . have:=Kf (p.map (· *c))
      rw [List.length_map]at this
      exact Nat.le_trans this lp
  . rw [if_neg hc]
    refine⟨⟨_,ha⟩,fun p1 hp1=>Om (es:=p) (inj:=V.int) (fun w=> .int (w*c)) (Nat.le_trans lp (Nat.le_trans l5 (by decide))) hp1 (Xr ha) ?_ ?_⟩
    . intro e H2 R he s2 hR
      contradiction
      obtain⟨i,hi,ei⟩:=List.getElem_of_mem he
      have ze:=zp i
      rw [Eb hi,ei]at ze
      exact⟨ze.mulOk hm (by omega),hR _ (Same.refl _)⟩
    . intro H2 s2 h2
      try contradiction
      have e:ng p c=p.map (· *c):=Zu (.of (by
        by_cases hp:p=[]
        . left;rw [hp];rfl
        . right
          have:=tp.lead hp
          rw [List.length_map,<-Ak,show trim (p.map (· *c))=ng p c from rfl,Ue]
          exact Int.mul_ne_zero this hc))
      refine⟨p1,_,rfl,.inl ⟨.of h2,fun z hz'=>k _ _ (s2.trans (Same.upd hz' _)) ⟨⟨z,rfl,?_⟩,Av _,?_,szc⟩⟩⟩
      . rw [e,List.map_map]
        exact .of Af
      . rw [e,List.length_map]
        exact lp
def Nv (K:PySem.W.Frag):Sp:=fun vs H Q _=>∃(x y:V) (p q:List Int) (l l' n n':Nat),vs=[x,y]/\Po K H x p l n/\Po K H y q l' n'/\l<=500/\l'<=500/\n'<=90000000/\∀z H',Same H H'->Po K H' z (ta p (ng q (-1))) (max l l') (max n (n'+1)+1)->Q z H'
theorem Abe {f:Addr}{fd:FuncData} (F:Df K mg "p_minus" Uo ["one","other"] f fd)   (c_p_plus:Cal P w K mg base 35 "p_plus" ["one","other"] (Ua K)) (c_scaled:Cal P w K mg base 33 "scaled" ["one","factor"] (M4 K)):Cal P w K mg base 36 "p_minus" ["one","other"] (Nv K):=by
  refine F.cal (F.fn.ok Aaw (fun vs H Q E h=> ?_) (fun cdv A outer s H vs Q E hr h=> ?_))
  . obtain⟨x,y,p,q,_,_,_,_,rfl,_⟩:=h
    rfl
  obtain⟨x,y,p,q,l,l',n,n',rfl,hx,hy,l5,l5',hn,k⟩:=h
  refine S.Bb ⟨_,(S.Ae (S.Ao (S.Aj c_p_plus (hr.mono (by decide)) (S.Aa (S.pv 0) (S.Aa (S.Aj c_scaled (hr.mono (by decide)) (S.Aa (S.pv 1) (S.Aa (S.Hv Gf S.Ad) S.Ab))) S.Ab))))),?_⟩
  contradiction
  refine⟨y,-1,q,l',n',1,rfl,hy,by unfold Sz;decide,l5',by omega,fun z H1 s1 hz=> ?_⟩
  try contradiction
  exact⟨x,z,p,ng q (-1),l,l',n,n'+1,rfl,hx.mono s1,hz,l5,l5',trivial,fun z2 H2 s2 h2=>k z2 H2 (s1.trans s2) h2⟩
theorem Agi {q:List Int}{n n':Nat} (hq:∀i,Sz n' (co q i)):∀(p:List Int),(∀x∈p,Sz n x)->∀i,Sz (n+n'+p.length) (mu p (co q) i)
  | [],_,i=>by
    have h0:0<2^(n+n'+([]:List Int).length):=Nat.pow_pos (by decide)
    exact h0
  | a::p,h,i=>by
    have ih:=Agi hq p fun x hx=>h x (List.mem_cons_of_mem _ hx)
    have h1:=(h a List.mem_cons_self).mul (hq i)
    have h2:Sz (n+n'+p.length) (sh (mu p (co q)) i):=by
      cases i with
      | zero=>
        have h0:0<2^(n+n'+p.length):=Nat.pow_pos (by decide)
        exact h0
      | succ i=>exact ih i
    exact(h1.add h2).mono (by simp only [List.length_cons];omega)
theorem Po.mem {K:PySem.W.Frag}{H:Hp}{v:V}{p:List Int}{l n:Nat} (h:Po K H v p l n):∀x∈p,Sz n x:=fun x hx=>by
  obtain⟨i,hi,ei⟩:=List.getElem_of_mem hx
  have z:=h.2.2.2 i
  rw [Eb hi,ei]at z
  exact z
def K4 (K:PySem.W.Frag):Sp:=fun vs H Q _=>∃(x y:V) (p q:List Int) (l l' n n':Nat),vs=[x,y]/\Po K H x p l n/\Po K H y q l' n'/\l<=500/\l'<=500/\n+n'<=100000000/\∀z H',Same H H'->Po K H' z (tm p q) (l+l') (n+n'+l)->Q z H'
theorem Abh {f:Addr}{fd:FuncData} (F:Df K mg "p_times" Uk ["one","other"] f fd) (z_enumerate:mg "enumerate"=none) (z_tuple:mg "tuple"=none) (z_len:mg "len"=none)   :Cal P w K mg base 33 "p_times" ["one","other"] (K4 K):=by
  refine F.cal (F.fn.ok Jv (fun vs H Q E h=> ?_) (fun cdv A outer s H vs Q E hr h=> ?_))
  . obtain⟨x,y,p,q,_,_,_,_,rfl,_⟩:=h
    rfl
  obtain⟨x,y,p,q,l,l',n,n',rfl,hx,hy,l5,l5',hn,k⟩:=h
  have mx:=hx.mem
  have my:=hy.mem
  obtain⟨⟨a,rfl,ha⟩,tp,lp,zp⟩:=hx
  obtain⟨⟨b,rfl,hb⟩,tq,lq,zq⟩:=hy
  have res:∀(z:Addr) (H':Hp),Same H H'->SqT K H' z ((tm p q).map V.int)->Q (.ref z) H':=fun z H' s hz=>by
    refine k _ _ s ⟨⟨z,rfl,hz⟩,Gy _ _,?_,fun i=> ?_⟩
    . by_cases h1:p=[]
      . rw [h1,Gd,Ob]
        exact Nat.zero_le _
      . by_cases h2:q=[]
        . rw [h2,Ob]
          exact Nat.zero_le _
        . have:=Oh tp tq h1 h2
          omega
    . rw [Ci]
      exact(Agi zq p mx i).mono (by omega)
  refine S.Bb ⟨_,(S.Ac (S.Du (S.O2 (S.N7 (S.Al (J2 hr.units) (S.pv 0) (S.Bq S.Ab) (Ar _)) (S.Nh (S.Al (J2 hr.units) (S.pv 1) (S.Bq S.Ab) (Ar _))))) (S.Ae (S.Ao (S.Bq S.Ab))) S.Ay)
      (S.Ac (S.Ah (i:=2) Jv.nd rfl (Or.inl rfl) (S.Ai Aah (S.Ka (S.Aa S.Ad S.Ab)) (S.Ai Gg (S.Ai Cj (S.Dn Am rfl z_len PySem.boot_len (S.Aa (S.pv 0) S.Ab)) (S.Dn Am rfl z_len PySem.boot_len (S.Aa (S.pv 1) S.Ab))) S.Ad)))
      (S.Ac (S.Gq PassesOwn.never rfl (S.U3 rfl z_enumerate (S.Aa (S.pv 0) S.Ab)) (S.Jd rfl (S.Bd (S.Aw (i:=3) Jv.nd rfl (Or.inl rfl)) (S.Bd (S.Aw (i:=4) Jv.nd rfl (Or.inl rfl)) S.Gv))) (S.Ae (S.Du (S.Al Q6 (S.pv 4) S.Ad (Ar _)) (S.Ae (S.Gq PassesOwn.never rfl (S.U3 rfl z_enumerate (S.Aa (S.pv 1) S.Ab)) (S.Jd rfl (S.Bd (S.Aw (i:=5) Jv.nd rfl (Or.inl rfl)) (S.Bd (S.Aw (i:=6) Jv.nd rfl (Or.inl rfl)) S.Gv))) (S.Ae (S.Jq (S.Ai Cj (S.Bl G3 (S.pv 2) (S.Ai Cj (S.pv 3) (S.pv 5)) (fun _ _=>rfl)) (S.Ai Cg (S.pv 4) (S.pv 6))) (S.Ms (S.pv 2) (S.Ai Cj (S.pv 3) (S.pv 5)) set_list))))) S.Ay)))
      (S.Ae (S.Ao (S.Hg Gi rfl z_tuple PyProof.Rows.boot_tuple (S.Aa (S.pv 2) S.Ab))))))),?_⟩
  contradiction
  refine⟨by decide,fun p1 hp1=> ?_⟩
  have s1:=Same.upd hp1 (.tup [])
  refine Dh (ms:=[]) (s1.tup ha) (.of Af) ?_
  try contradiction
  by_cases h1:p=[]
  . rw [if_pos h1]
    refine⟨by decide,fun z hz=>res z _ (s1.trans (Same.upd hz _)) ?_⟩
    rw [h1,Gd,Ob]
    exact .of Af
  rw [if_neg h1]
  refine⟨by decide,fun p2 hp2=> ?_⟩
  have s2:=s1.trans (Same.upd hp2 (.tup []))
  refine Dh (ms:=[]) (s2.tup hb) (.of Af) ?_
  try contradiction
  by_cases h2:q=[]
  . rw [if_pos h2]
    refine⟨by decide,fun z hz=>res z _ (s2.trans (Same.upd hz _)) ?_⟩
    rw [h2,Ob]
    exact .of Af
  rw [if_neg h2]
  intro p3 hp3
  have s3:=s2.trans (Same.upd hp3 (.lst [V.int 0]))
  have q1:=List.length_pos_iff.mpr h1
  have q2:=List.length_pos_iff.mpr h2
  have sz5:1000<=sizeLine:=by decide
  refine⟨a,_,rfl,.inr (s3.tup ha),b,_,rfl,.inr (s3.tup hb),?_⟩
  simp only [List.length_map]
  have hN:((p.length:Int)+(q.length:Int)-1).toNat=p.length+q.length-1:=by omega
  refine⟨p3,_,[V.int 0],rfl,rfl,Af,by omega,by omega,by rw [hN];simp only [List.length_cons,List.length_nil];omega,fun l0 hn=> ?_⟩
  rw [hN,Mr]
  have hnH:H l0=none:=Same.free s3 hn
  have s4:=s3.trans (Same.upd hn (.lst ((List.replicate (p.length+q.length-1) (0:Int)).map V.int)))
  refine⟨⟨_,s4.tup ha⟩,Abb (es:=p) (inj:=V.int) (fun pre σ H'=>∃(o1 o2 o3 o4:Option V) (ms:List Int),σ=[some (.ref a),some (.ref b),some (.ref l0),o1,o2,o3,o4]/\Same H H'/\H' l0=some (.lst (ms.map V.int))/\ms.length=p.length+q.length-1/\∀i,co ms i=mu pre (co q) i)
    ⟨_,_,_,_,List.replicate (p.length+q.length-1) 0,rfl,s4,Af,by rw [List.length_replicate],fun i=> ?_⟩ ?_ ?_ ?_⟩
  . show _=0
    unfold co
    rw [List.getD_eq_getElem?_getD,List.getElem?_replicate]
    split<;>rfl
  . rintro pre σ H' ⟨o1,o2,o3,o4,ms,rfl,s5,_⟩
    exact s5.tup ha
  . rintro pre e post σ H' p4 he ⟨o1,o2,o3,o4,ms,rfl,s5,hm,hlm,hco⟩ hp4
    refine J1 (.of Af) ?_
    have hlen:=congrArg List.length he
    rw [List.length_append,List.length_cons]at hlen
    have ez:Sz n e:=mx e (by rw [he];simp)
    have s6:=s5.trans (Same.upd hp4 (.tup [V.int (pre.length:Nat),V.int e]))
    have hm6:=Same.upd hp4 (.tup [V.int (pre.length:Nat),V.int e]) _ _ hm
    try contradiction
    by_cases hz:e=0
    . rw [if_pos hz]
      exact⟨_,_,_,_,ms,rfl,s6,hm6,hlm,fun i=>by rw [Nb,hco,hz];simp⟩
    . rw [if_neg hz]
      refine⟨⟨_,s6.tup hb⟩,Abb (es:=q) (inj:=V.int) (fun pre2 σ H2=>∃(o3 o4:Option V) (ms2:List Int),σ=[some (.ref a),some (.ref b),some (.ref l0),some (.int (pre.length:Nat)),some (.int e),o3,o4]/\Same H H2/\H2 l0=some (.lst (ms2.map V.int))/\ms2.length=p.length+q.length-1/\
          ∀i,co ms2 i=mu pre (co q) i+(if pre.length<=i then e*co pre2 (i-pre.length)else 0)) ⟨_,_,ms,rfl,s6,hm6,hlm,fun i=> ?_⟩ ?_ ?_ ?_⟩
      . rw [hco,Az,Int.mul_zero]
        split<;>simp
      . rintro pre2 σ H2 ⟨o3,o4,ms2,rfl,s7,_⟩
        exact s7.tup hb
      . rintro pre2 f post2 σ H2 p5 he2 ⟨o3,o4,ms2,rfl,s7,hm7,hlm2,hco2⟩ hp5
        refine J1 (.of Af) ?_
        have hlen2:=congrArg List.length he2
        rw [List.length_append,List.length_cons]at hlen2
        have fz:Sz n' f:=my f (by rw [he2];simp)
        have hj:pre.length+pre2.length<ms2.length:=by omega
        have s8:=Same.upd hp5 (.tup [V.int (pre2.length:Nat),V.int f])
        have hm8:=s8 _ _ hm7
        simp only [Ib,Fv,Il,Ii,Fz,Hy,Bw,Hu,Em,Ef,z_c,Pj,Qq,Qx,Iz,Qu,Iw,Hw,Im,Hz,Ea,Qp,Hr,Ij,Ip,Fg,Fq,Ie,Hs,Qs,Fj,Ht,Er,Qw,Fi,Ia,Ga,Qt,Hq,Iv,Cz,Ew,Ez,Fy,Cr,Ed,Ir,Ih,Hl,G7,Qv,Bo,Et,Ig,Qo,Iu,Fe,Ja,Jc,Ei,Io,Eo,Eh,Fl,Cm,Jb,Cq,En,Ek,Ft,Cy,Es,Cu,Hx,Ey,Ho,Ej,Fx,Ec,Cv,Bp,Ck,Fw,Ik,El,Fo,Cw,Eu,Qn,cpσ,List.getElem?_cons_zero,List.getElem?_cons_succ,Option.join_some,List.set_cons_zero,List.set_cons_succ,List.append_nil,decide_eq_true_eq,Bool.not_eq_true',decide_eq_false_iff_not,Bool.not_not,ite_not,Bool.false_eq_true,Bool.true_eq_false,if_false,if_true,if_pos,List.length_cons,List.length_nil,Nat.zero_add,Nat.reduceAdd,Fb,Ep,true_and,and_true,L2.start,List.map_cons,List.map_nil,Bool.not_true,Bool.not_false,Nat.reduceSub,List.replicate_succ,List.replicate_zero,List.cons_append,List.nil_append,<-Int.natCast_add]
        refine P0 (.of hm8) (G6 hj) ?_
        try contradiction
        refine⟨ez.mulOk fz (by omega),?_⟩
        refine Yi hm8 (by rw [List.length_map];exact hj) ?_
        try contradiction
        rw [Kq]
        refine⟨_,_,ms2.set (pre.length+pre2.length) (ms2[pre.length+pre2.length]+e*f),rfl,?_,Af,by rw [List.length_set];exact hlm2,fun i=> ?_⟩
        . intro c o hc
          rw [Bv (Bt hc hnH)]
          exact s8 _ _ (s7 _ _ hc)
        . rw [Ru _ _ _ hj,J6,hco2 i]
          by_cases hi:i=pre.length+pre2.length
          . subst hi
            rw [if_pos rfl,<-Eb hj,hco2,if_pos (by omega),if_pos (by omega),if_pos (by omega),show pre.length+pre2.length-pre.length=pre2.length by omega,Bm (p:=pre2) (Nat.le_refl _)]
            omega
          . rw [if_neg hi]
            by_cases hi2:pre.length<=i
            . rw [if_pos hi2,if_pos hi2,if_neg (by omega)]
            . rw [if_neg hi2,if_neg hi2]
      . rintro σ H2 ⟨o3,o4,ms2,rfl,s7,hm7,hlm2,hco2⟩
        try contradiction
        exact⟨_,_,_,_,ms2,rfl,s7,hm7,hlm2,fun i=>by rw [Nb,hco2]⟩
  . rintro σ H' ⟨o1,o2,o3,o4,ms,rfl,s5,hm,hlm,hco⟩
    try contradiction
    have e:ms=tm p q:=by
      have tl:=Oh tp tq h1 h2
      refine List.ext_getElem (by omega) fun i g1 g2=> ?_
      rw [<-Eb g1,<-Eb g2,hco,Ci]
    refine⟨l0,_,rfl,.inl ⟨.of hm,fun z hz=>res z _ (s5.trans (Same.upd hz _)) ?_⟩⟩
    rw [<-e]
    exact .of Af
theorem Aom {p:List Int}{l n:Nat} (tp:Tr p) (lp:p.length<=l) (zp:∀i,Sz n (co p i)):∀m,(pw p m).length<=m*l+1/\∀i,Sz (m*(n+l)+1) (co (pw p m) i)
  | 0=>⟨by simp [pw],fun i=>by
    rw [pw]
    refine Yw (by omega) (fun x hx=> ?_) i
    have e:x=1:=by simpa using hx
    subst e
    unfold Sz
    rw [Nat.zero_mul]
    decide⟩
  | m+1=>by
    obtain⟨h1,h2⟩:=Aom tp lp zp m
    have e1:(m+1)*l=m*l+l:=Nat.succ_mul _ _
    have e2:(m+1)*(n+l)=m*(n+l)+(n+l):=Nat.succ_mul _ _
    refine⟨?_,fun i=> ?_⟩
    . rw [pw]
      by_cases z1:p=[]
      . rw [z1,Gd,Ob]
        exact Nat.zero_le _
      . by_cases z2:pw p m=[]
        . rw [z2,Ob]
          exact Nat.zero_le _
        . have:=Oh tp (Aaz p m) z1 z2
          omega
    . rw [pw,Ci]
      exact(Agi h2 p (fun x hx=>by
        obtain⟨i,hi,ei⟩:=List.getElem_of_mem hx
        have z:=zp i
        rw [Eb hi,ei]at z
        exact z) i).mono (by omega)
def Uh (K:PySem.W.Frag):Sp:=fun vs H Q _=>∃(x0 x:V) (m M:Nat) (mi:Int) (p:List Int) (l n:Nat),vs=[x0,x,.int mi,.ref (cA K "p_times")]/\(mi=(m:Nat)\/mi<0/\m=0)/\(∃a,x0= .ref a/\SqT K H a [V.int 1])/\Po K H x p l n/\m<=M/\1<=M/\M*l+1<=500/\M*(n+l)+1<=20000000/\∀z H',Same H H'->Po K H' z (pw p m) (m*l+1) (m*(n+l)+1)->Q z H'
theorem Y6 {f:Addr}{fd:FuncData} (F:Df K mg "repeated" Rm ["start","one","many","product"] f fd)  (xm_p_times:mg "p_times"=some (.ref (cA K "p_times"))) (c_p_times:Cal P w K mg base 33 "p_times" ["one","other"] (K4 K)):Cal P w K mg base 34 "repeated" ["start","one","many","product"] (Uh K):=by
  refine F.cal (F.fn.ok G8 (fun vs H Q E h=> ?_) (fun cdv A outer s H vs Q E hr h=> ?_))
  . obtain⟨x0,x,m,M,mi,p,_,_,rfl,_⟩:=h
    rfl
  obtain⟨_,x,m,M,mi,p,l,n,rfl,hmi,⟨p0,rfl,hp0⟩,hx,hm,hM,hl,hn,k⟩:=h
  have hx':=hx
  obtain⟨_,tp,lp,zp⟩:=hx'
  have bd:=Aom tp lp zp
  have sm:∀a,a<=M->a*l+1<=500/\a*(n+l)+1<=20000000:=fun a ha=>by
    have h1:a*l<=M*l:=Nat.mul_le_mul_right _ ha
    have h2:a*(n+l)<=M*(n+l):=Nat.mul_le_mul_right _ ha
    omega
  have conv:∀(H':Hp) (z:V) (a b L N:Nat),Po K H' z (tm (pw p a) (pw p b)) L N->Po K H' z (pw p (a+b)) ((a+b)*l+1) ((a+b)*(n+l)+1):=fun H' z a b L N h=>by
    rw [Ah0]at h
    exact⟨h.1,Aaz _ _,bd (a+b)⟩
  refine S.Bb ⟨_,(S.Ac (S.Ah (i:=4) G8.nd rfl (Or.inl rfl) (S.pv 0))
      (S.Ac (S.Ah (i:=5) G8.nd rfl (Or.inl rfl) (S.pv 1))
      (S.Ac (S.Ah (i:=6) G8.nd rfl (Or.inl rfl) (S.pv 2))
      (S.Ac (S.Hh PassesOwn.never (S.Al R7 (S.pv 6) S.Ad (Ar _)) (S.Ac (S.Du (S.Al N6 (S.Ai Dz (S.pv 6) S.Ad) S.Ad (Ar _)) (S.Ae (S.Ah (i:=4) G8.nd rfl (Or.inl rfl) (S.Abq c_p_times xm_p_times (hr.mono (by decide)) (S.pv 3) (S.Aa (S.pv 4) (S.Aa (S.pv 5) S.Ab))))) S.Ay)
      (S.Ac (S.Ah (i:=6) G8.nd rfl (Or.inl rfl) (S.Ai Gb (S.pv 6) S.Ad))
      (S.Ae (S.Du (S.Al R7 (S.pv 6) S.Ad (Ar _)) (S.Ae (S.Ah (i:=5) G8.nd rfl (Or.inl rfl) (S.Abq c_p_times xm_p_times (hr.mono (by decide)) (S.pv 3) (S.Aa (S.pv 5) (S.Aa (S.pv 5) S.Ab))))) S.Ay)))))
      (S.Ae (S.Ao (S.pv 4))))))),?_⟩
  contradiction
  have s0:=Same.refl H
  have i1:Po K H (.ref p0) (pw p 0) (0*l+1) (0*(n+l)+1):=⟨⟨p0,rfl,hp0⟩,Aaz _ _,bd 0⟩
  have i2:Po K H x (pw p 1) (1*l+1) (1*(n+l)+1):=⟨by rw [Al9 tp];exact hx.1,Aaz _ _,bd 1⟩
  rcases hmi with rfl | ⟨hneg,rfl⟩
  case inr=>
    refine Qd (fun σ H'=>σ=[some (.ref p0),some x,some (.int mi),some (.ref (cA K "p_times")),some (.ref p0),some x,some (.int mi)]/\H'=H) (fun _ _=>0) ⟨rfl,rfl⟩ ?_
    rintro σ H' ⟨rfl,rfl⟩
    contradiction
    rw [if_neg (by omega)]
    exact k _ _ s0 i1
  refine Qd (fun σ H'=>∃(zp zs:V) (a b t:Nat),σ=[some (.ref p0),some x,some (.int (m:Nat)),some (.ref (cA K "p_times")),some zp,some zs,some (.int (t:Nat))]/\Same H H'/\Po K H' zp (pw p a) (a*l+1) (a*(n+l)+1)/\Po K H' zs (pw p b) (b*l+1) (b*(n+l)+1)/\a+b*t=m/\b<=M)
    (fun σ _=>match σ with | [_,_,_,_,_,_,some (.int t)]=>t.toNat | _=>0) ⟨_,_,0,1,m,rfl,s0,i1,i2,by omega,hM⟩ ?_
  rintro σ H' ⟨yp,ys,a,b,t,rfl,s1,ia,ib,hab,hb⟩
  contradiction
  by_cases ht:(0:Int)<(t:Nat)
  . rw [if_pos ht]
    refine Agf ?_
    contradiction
    refine⟨by decide,?_⟩
    have d2:((t:Nat):Int)/2=((t/2:Nat):Int):=by omega
    have ha:a<=M:=by omega
    have step:∀(H2:Hp) (z:V) (a':Nat),Same H' H2->Po K H2 z (pw p a') (a'*l+1) (a'*(n+l)+1)->a'+2*b*(t/2)=m->
        Amd (t:Nat) 2/\(if(0:Int)<((t:Nat):Int)/2 then K4 K [ys,ys] H2 (fun w H3=>(∃(zp zs:V) (a b u:Nat),[some (.ref p0),some x,some (.int (m:Nat)),some (.ref (cA K "p_times")),some z,some w,some (.int (((t:Nat):Int)/2))]=[some (.ref p0),some x,some (.int (m:Nat)),some (.ref (cA K "p_times")),some zp,some zs,some (.int (u:Nat))]/\Same H H3/\Po K H3 zp (pw p a) (a*l+1) (a*(n+l)+1)/\Po K H3 zs (pw p b) (b*l+1) (b*(n+l)+1)/\a+b*u=m/\b<=M)/\(((t:Nat):Int)/2).toNat<((t:Nat):Int).toNat) E0
          else(∃(zp zs:V) (a b u:Nat),[some (.ref p0),some x,some (.int (m:Nat)),some (.ref (cA K "p_times")),some z,some ys,some (.int (((t:Nat):Int)/2))]=[some (.ref p0),some x,some (.int (m:Nat)),some (.ref (cA K "p_times")),some zp,some zs,some (.int (u:Nat))]/\Same H H2/\Po K H2 zp (pw p a) (a*l+1) (a*(n+l)+1)/\Po K H2 zs (pw p b) (b*l+1) (b*(n+l)+1)/\a+b*u=m/\b<=M)/\(((t:Nat):Int)/2).toNat<((t:Nat):Int).toNat):=fun H2 z a' s2 iz e=>by
      rw [d2]
      refine⟨⟨by decide,by decide⟩,?_⟩
      by_cases h2:(0:Int)<((t/2:Nat):Int)
      . rw [if_pos h2]
        have hbb:2*b<=2*b*(t/2):=Nat.le_mul_of_pos_right _ (by omega)
        have q1:=sm b hb
        refine⟨ys,ys,_,_,_,_,_,_,rfl,ib.mono s2,ib.mono s2,q1.1,q1.1,by omega,fun w H3 s3 iw=>⟨⟨z,w,a',b+b,t/2,rfl,(s1.trans s2).trans s3,iz.mono s3,conv _ _ _ _ _ _ iw,?_,by omega⟩,by omega⟩⟩
        rw [<-Nat.two_mul]
        exact e
      . rw [if_neg h2]
        have t0:t/2=0:=by omega
        refine⟨⟨z,ys,a',b,t/2,rfl,s1.trans s2,iz,ib.mono s2,?_,hb⟩,by omega⟩
        rw [t0]at e ⊢
        simpa using e
    have e3:b*t=2*b*(t/2)+b*(t%2):=by
      have e:=Nat.div_add_mod t 2
      calc b*t=b*(2*(t/2)+t%2):=by rw [e]
        _=2*b*(t/2)+b*(t%2):=by rw [Nat.mul_add,<-Nat.mul_assoc,Nat.mul_comm b 2]
    have q1:=sm a ha
    have q2:=sm b hb
    by_cases ho:((t:Nat):Int)%2=1
    . rw [if_pos ho]
      have o1:t%2=1:=by omega
      refine⟨yp,ys,_,_,_,_,_,_,rfl,ia,ib,q1.1,q2.1,by omega,fun w H2 s2 iw=>step H2 w (a+b) s2 (conv _ _ _ _ _ _ iw) ?_⟩
      rw [o1,Nat.mul_one]at e3
      omega
    . rw [if_neg ho]
      have o1:t%2=0:=by omega
      refine step H' yp a (Same.refl _) ia ?_
      rw [o1,Nat.mul_zero]at e3
      omega
  . rw [if_neg ht]
    have t0:t=0:=by omega
    subst t0
    have e:a=m:=by simpa using hab
    subst e
    exact k _ _ s1 ia
@[irreducible] def LIM:Nat:=400000
theorem Ah1:LIM=400000:=by unfold LIM;rfl
@[irreducible] def BIG:Nat:=60000000
theorem Aca:BIG=60000000:=by unfold BIG;rfl
theorem Lf {q:List Int} (hq:q≠ []):atI (q.map V.int) (-1)=some (.int (co q (q.length-1))):=by
  obtain⟨ini,c,rfl⟩:∃(i:List Int) (x:Int),q=i++ [x]:=⟨_,_,(List.dropLast_concat_getLast hq).symm⟩
  rw [List.map_append,List.length_append,List.length_singleton,Nat.add_sub_cancel,J6,if_pos rfl]
  exact Wg _ _
def LdR (K:PySem.W.Frag) (bb:Bool) (p q:List Int) (Q:VK) (H:Hp):Prop:=∀(z:Addr) (H':Hp) (s:Int) (c d:V) (u r:List Int),Same H H'->SqT K H' z [.int s,c,d]->Po K H' c u 60 BIG->Po K H' d r 60 BIG->1<=s->Sz BIG s->(bb=false->s=1)->
  (∀k,s*co p k=mu u (co q) k+co r k)->r.length<q.length->Cop s u r->Q (.ref z) H'
def Jf (K:PySem.W.Frag):Sp:=fun vs H Q E=>∃(x y:V) (bb:Bool) (p q:List Int) (l l' n n':Nat),vs=[x,y,.bl bb]/\Po K H x p l n/\Po K H y q l' n'/\l<=60/\l'<=60/\n<=400000/\n'<=400000/\(q=[]->∀H',Same H H'->E (.ref (cA K "NoPart")) none H')/\(bb=false->q≠ []->¬Exact p q->∀H',Same H H'->Q .non H')/\(q≠ []->LdR K bb p q Q H)
theorem R8 {f:Addr}{fd:FuncData} (F:Df K mg "long_division" Gu ["one","other","scaling"] f fd) (z_list:mg "list"=none) (z_range:mg "range"=none) (z_max:mg "max"=none) (z_len:mg "len"=none) (z_abs:mg "abs"=none) (z_enumerate:mg "enumerate"=none) (py:Pyl P base) (xk_NoPart:Wz K (cA K "NoPart")) (xm_NoPart:mg "NoPart"=some (.ref (cA K "NoPart"))) (c_poly:Cal P w K mg base 33 "poly" ["weights"] (Mu K)) (c_divisor:Cal P w K mg base 33 "divisor" ["one","other"] (Np K)) (c_degree:Cal P w K mg base 33 "degree" ["one"] (Gw K)):Oz P w K mg base 34 "long_division" ["one","other","scaling"] (Jf K):=by
  refine F.calE (F.fn.okE Bj (fun vs H Q E h=> ?_) (fun cdv A outer s H vs Q E hr h=> ?_))
  . obtain⟨x,y,bb,p,q,_,_,_,_,rfl,_⟩:=h
    rfl
  obtain⟨x,y,bb,p,q,l,l',n,n',rfl,hx,hy,h15,h15',hn,hn',k0,kn,k⟩:=h
  have mx:=hx.mem
  have my:=hy.mem
  obtain⟨⟨a,rfl,ha⟩,tp,lp,zp⟩:=id hx
  obtain⟨⟨b,rfl,hb⟩,tq,lq,zq⟩:=id hy
  refine S.Bb ⟨_,(S.Ac (S.Du (S.Al (J2 hr.units) (S.pv 1) (S.Bq S.Ab) (Ar _)) (S.Ae (S.Hi xk_NoPart xm_NoPart (S.Aa S.K8 S.Ab))) S.Ay)
      (S.Ac (S.Ah (i:=3) Bj.nd rfl (Or.inl rfl) S.Ad)
      (S.Ac (S.Ah (i:=4) Bj.nd rfl (Or.inl rfl) (S.Ai Aah (S.Ka (S.Aa S.Ad S.Ab)) (S.Dn (Xj rfl) rfl z_max PyProof.Rows.boot_max (S.Aa (S.Ai Cj (S.Ai Gg (S.Dn Am rfl z_len PySem.boot_len (S.Aa (S.pv 0) S.Ab)) (S.Dn Am rfl z_len PySem.boot_len (S.Aa (S.pv 1) S.Ab))) S.Ad) (S.Aa S.Ad S.Ab)))))
      (S.Ac (S.Ah (i:=5) Bj.nd rfl (Or.inl rfl) (S.Hg Jj rfl z_list PyProof.Rows.boot_list (S.Aa (S.pv 0) S.Ab)))
      (S.Ac (S.Aac (S.Gq PassesOwn.never rfl (S.Ot rfl z_range (S.Aa (S.Ai Gg (S.Dn Am rfl z_len PySem.boot_len (S.Aa (S.pv 4) S.Ab)) S.Ad) (S.Aa (S.Hv Gf S.Ad) (S.Aa (S.Hv Gf S.Ad) S.Ab)))) (S.Aw (i:=6) Bj.nd rfl (Or.inl rfl)) (S.Ac (S.Ah (i:=7) Bj.nd rfl (Or.inr rfl) (S.Ai (Lp py (hr.far (by decide)) rfl rfl rfl rfl rfl) (S.Dn Vr rfl z_abs PyProof.Rows.boot_abs (S.Aa (S.Bl Bc (S.pv 1) (S.Hv Gf S.Ad) (fun _ _=>rfl)) S.Ab)) (S.Aj c_divisor (hr.mono (by decide)) (S.Aa (S.Bl G3 (S.pv 5) (S.Ai Cj (S.pv 6) (S.Aj c_degree (hr.mono (by decide)) (S.Aa (S.pv 1) S.Ab))) (fun _ _=>rfl)) (S.Aa (S.Bl Bc (S.pv 1) (S.Hv Gf S.Ad) (fun _ _=>rfl)) S.Ab)))))
      (S.Ac (S.Du (S.Al Q6 (S.pv 7) S.Ad (Ar _)) (S.Ac (S.Du (S.K9 (S.Jp (S.pv 2))) (S.Ae (S.Ao S.X5)) S.Ay)
      (S.Ac (S.Ah (i:=3) Bj.nd rfl (Or.inl rfl) (S.Ai Cg (S.pv 3) (S.pv 7)))
      (S.Ac (S.Rh (ts:=["weight"]) (fs:=[(7,"missing")]) rfl (Dp.of (sc:=Ag Gu) (N:=["one","other","scaling","scale","quotient","rest","place","missing","factor","further","weight"]) rfl rfl (by decide+kernel)) (S.Ly (S.pv 4)) (fun _ _ _=>(S.Aw (i:=0) (show List.Nodup (["weight","missing"]:List Str)by decide+kernel) rfl (Or.inl rfl))) (fun _ _ _=>S.Jz) (fun _ _ _=>(S.Ai Cg (S.pv 0) (S.pv 1))) (S.Aw (i:=4) Bj.nd rfl (Or.inl rfl)))
      (S.Ae (S.Rh (ts:=["weight"]) (fs:=[(7,"missing")]) rfl (Dp.of (sc:=Ag Gu) (N:=["one","other","scaling","scale","quotient","rest","place","missing","factor","further","weight"]) rfl rfl (by decide+kernel)) (S.Ly (S.pv 5)) (fun _ _ _=>(S.Aw (i:=0) (show List.Nodup (["weight","missing"]:List Str)by decide+kernel) rfl (Or.inl rfl))) (fun _ _ _=>S.Jz) (fun _ _ _=>(S.Ai Cg (S.pv 0) (S.pv 1))) (S.Aw (i:=5) Bj.nd rfl (Or.inl rfl))))))) S.Ay)
      (S.Ac (S.Ah (i:=8) Bj.nd rfl (Or.inl rfl) (S.Ai (Lp py (hr.far (by decide)) rfl rfl rfl rfl rfl) (S.Bl G3 (S.pv 5) (S.Ai Cj (S.pv 6) (S.Aj c_degree (hr.mono (by decide)) (S.Aa (S.pv 1) S.Ab))) (fun _ _=>rfl)) (S.Bl Bc (S.pv 1) (S.Hv Gf S.Ad) (fun _ _=>rfl))))
      (S.Ac (S.Jq (S.pv 8) (S.Ms (S.pv 4) (S.pv 6) set_list))
      (S.Ae (S.Du (S.Al Q6 (S.pv 8) S.Ad (Ar _)) (S.Ae (S.Gq PassesOwn.never rfl (S.U3 rfl z_enumerate (S.Aa (S.pv 1) S.Ab)) (S.Jd rfl (S.Bd (S.Aw (i:=9) Bj.nd rfl (Or.inl rfl)) (S.Bd (S.Aw (i:=10) Bj.nd rfl (Or.inl rfl)) S.Gv))) (S.Ae (S.Jq (S.Ai Gg (S.Bl G3 (S.pv 5) (S.Ai Cj (S.pv 6) (S.pv 9)) (fun _ _=>rfl)) (S.Ai Cg (S.pv 8) (S.pv 10))) (S.Ms (S.pv 5) (S.Ai Cj (S.pv 6) (S.pv 9)) set_list))))) S.Ay))))))))
      (S.Ae (S.Ao (S.Bq (S.Aa (S.pv 3) (S.Aa (S.Aj c_poly (hr.mono (by decide)) (S.Aa (S.pv 4) S.Ab)) (S.Aa (S.Aj c_poly (hr.mono (by decide)) (S.Aa (S.pv 5) S.Ab)) S.Ab))))))))))),?_⟩
  refine Ba (fun σ' H'=>Same H H'/\q≠ []/\σ'=[some (.ref a),some (.ref b),some (.bl bb),none,none,none,none,none,none,none,none]) (fun N hN=> ?_) ?_
  . contradiction
    refine⟨by decide,fun e0 he0=> ?_⟩
    have se:=Same.upd he0 (.tup [])
    refine Dh (ms:=[]) (se.tup hb) (.of Af) ?_
    try contradiction
    split
    . rename_i h
      exact k0 h _ se
    . rename_i h
      exact hN _ _ ⟨se,h,rfl⟩
  rintro σ H1 ⟨s1,hq,rfl⟩
  replace k:=k hq
  replace kn:=fun h=>kn h hq
  have hql:0<q.length:=List.length_pos_iff.mpr hq
  have sz5:1000<=sizeLine:=by decide
  obtain⟨L,hL⟩:∃L,L=p.length+1-q.length:=⟨_,rfl⟩
  have l0:co q (q.length-1)≠0:=tq.lead hq
  have eL:(if(0:Int)>(p.length:Int)-(q.length:Int)+1 then(0:Int)else(p.length:Int)-(q.length:Int)+1)=(L:Int):=by
    subst hL
    split<;>omega
  refine Ba (fun σ' H'=>H'=H1/\σ'=[some (.ref a),some (.ref b),some (.bl bb),some (.int 1),none,none,none,none,none,none,none]) (fun N hN=> ?_) ?_
  . contradiction
    exact hN _ _ ⟨rfl,rfl⟩
  rintro σ H2 ⟨rfl,rfl⟩
  refine Ba (fun σ' H'=>Same H H'/\∃cq,σ'=[some (.ref a),some (.ref b),some (.bl bb),some (.int 1),some (.ref cq),none,none,none,none,none,none]/\H cq=none/\H' cq=some (.lst ((List.replicate L (0:Int)).map V.int))) (fun N hN=> ?_) ?_
  . contradiction
    intro p3 hp3
    have s3:=s1.trans (Same.upd hp3 (.lst [V.int 0]))
    refine⟨a,_,rfl,.inr (s3.tup ha),b,_,rfl,.inr (s3.tup hb),?_⟩
    simp only [Ib,Fv,Il,Ii,Fz,Hy,Bw,Hu,Em,Ef,z_c,Pj,Qq,Qx,Iz,Qu,Iw,Hw,Im,Hz,Ea,Qp,Hr,Ij,Ip,Fg,Fq,Ie,Hs,Qs,Fj,Ht,Er,Qw,Fi,Ia,Ga,Qt,Hq,Iv,Cz,Ew,Ez,Fy,Cr,Ed,Ir,Ih,Hl,G7,Qv,Bo,Et,Ig,Qo,Iu,Fe,Ja,Jc,Ei,Io,Eo,Eh,Fl,Cm,Jb,Cq,En,Ek,Ft,Cy,Es,Cu,Hx,Ey,Ho,Ej,Fx,Ec,Cv,Bp,Ck,Fw,Ik,El,Fo,Cw,Eu,Qn,cpσ,List.getElem?_cons_zero,List.getElem?_cons_succ,Option.join_some,List.set_cons_zero,List.set_cons_succ,List.append_nil,decide_eq_true_eq,Bool.not_eq_true',decide_eq_false_iff_not,Bool.not_not,ite_not,Bool.false_eq_true,Bool.true_eq_false,if_false,if_true,if_pos,List.length_cons,List.length_nil,Nat.zero_add,Nat.reduceAdd,Fb,Ep,true_and,and_true,L2.start,List.map_cons,List.map_nil,Bool.not_true,Bool.not_false,Nat.reduceSub,List.replicate_succ,List.replicate_zero,List.cons_append,List.nil_append,List.length_map,eL]
    refine⟨p3,_,[V.int 0],rfl,rfl,Af,by omega,by omega,by simp only [Int.toNat_natCast,List.length_cons,List.length_nil];omega,fun cq hcq=> ?_⟩
    rw [Int.toNat_natCast,Mr]
    exact hN _ _ ⟨s3.trans (Same.upd hcq _),cq,rfl,Same.free s3 hcq,Af⟩
  rintro σ H3 ⟨s3,cq,rfl,nq,hcq⟩
  refine Ba (fun σ' H'=>Same H H'/\∃cq cr,σ'=[some (.ref a),some (.ref b),some (.bl bb),some (.int 1),some (.ref cq),some (.ref cr),none,none,none,none,none]/\H cq=none/\H cr=none/\cq≠cr/\H' cq=some (.lst ((List.replicate L (0:Int)).map V.int))/\H' cr=some (.lst (p.map V.int))) (fun N hN=> ?_) ?_
  . contradiction
    refine⟨a,_,rfl,.inr (s3.tup ha),fun cr hcr=>hN _ _ ⟨s3.trans (Same.upd hcr _),cq,cr,rfl,nq,Same.free s3 hcr,?_,Same.upd hcr _ _ _ hcq,Af⟩⟩
    exact Bt hcq hcr
  clear hcq nq s3
  rintro σ H4 ⟨s4,cq,cr,rfl,nq,nr,ne,hcq,hcr⟩
  obtain⟨B,hB⟩:∃B:Nat->Nat,B=fun i=>n+(n'+1)*i:=⟨_,rfl⟩
  have B1:∀i,B (i+1)=B i+n'+1:=fun i=>by rw [hB];show n+(n'+1)*(i+1)=n+(n'+1)*i+n'+1;rw [Nat.mul_succ];omega
  have Bn:∀i,i<=60->B i<=50000000:=fun i hi=>by
    rw [hB]
    have:(n'+1)*i<=(n'+1)*60:=Nat.mul_le_mul_left _ hi
    show n+(n'+1)*i<=50000000
    omega
  have B0:B 0=n:=by rw [hB];rfl
  have hL15:L<=60:=by omega
  refine Ba (fun σ' H'=>Same H H'/\∃(sc:Int) (cq cr:Addr) (qs rs:List Int) (o6 o7 o8 o9 o10:Option V),σ'=[some (.ref a),some (.ref b),some (.bl bb),some (.int sc),some (.ref cq),some (.ref cr),o6,o7,o8,o9,o10]/\H' cq=some (.lst (qs.map V.int))/\H' cr=some (.lst (rs.map V.int))/\qs.length=L/\rs.length=p.length/\DV p q sc qs rs 0/\(bb=false->sc=1)/\Sz (B L+1) sc/\(∀x∈qs,Sz (B L+1) x)/\∀x∈rs,Sz (B L+1) x) (fun N hN=> ?_) ?_
  . rw [G7]
    contradiction
    refine⟨cq,_,rfl,.inl (.of hcq),?_⟩
    try contradiction
    rw [List.length_map,List.length_replicate]
    refine⟨by omega,?_⟩
    refine Al0 L (fun i=> .int ((L:Int)-1-(i:Nat))) (fun i σ' H'=>Same H H'/\∃(sc:Int) (cq cr:Addr) (qs rs:List Int) (o6 o7 o8 o9 o10:Option V),σ'=[some (.ref a),some (.ref b),some (.bl bb),some (.int sc),some (.ref cq),some (.ref cr),o6,o7,o8,o9,o10]/\H cq=none/\H cr=none/\cq≠cr/\H' cq=some (.lst (qs.map V.int))/\H' cr=some (.lst (rs.map V.int))/\qs.length=L/\rs.length=p.length/\DV p q sc qs rs (L-i)/\(bb=false->sc=1)/\Sz (B i+1) sc/\(∀x∈qs,Sz (B i+1) x)/\∀x∈rs,Sz (B i+1) x) ?_ ?_ ?_ ?_
    . refine⟨s4,1,cq,cr,_,_,_,_,_,_,_,rfl,nq,nr,ne,hcq,hcr,List.length_replicate,rfl,by rw [hL,Nat.sub_zero];exact DV.start p q hq,fun _=>rfl,?_,fun x hx=> ?_,fun x hx=>(mx x hx).mono (by rw [B0];omega)⟩
      . exact(show Sz 1 (1:Int)by unfold Sz;decide).mono (by omega)
      . rw [List.eq_of_mem_replicate hx]
        exact Sz0 (by omega)
    . intro i σ' H' _
      have e:((L:Int)-1- -1).toNat=L:=by omega
      rw [e]
      exact Ur
    . clear hcq hcr nq nr ne s4
      rintro i σ' H5 hi ⟨s5,sc,cq,cr,qs,rs,o6,o7,o8,o9,o10,rfl,nq,nr,ne,hcq,hcr,hlq,hlr,dv,b1,zs,zqs,zrs⟩
      obtain⟨j,hj⟩:∃j:Nat,j+1=L-i:=⟨L-i-1,by omega⟩
      have pj:(L:Int)-1-(i:Nat)=(j:Int):=by omega
      rw [<-hj]at dv
      rw [Bw,pj]
      simp only [List.set_cons_succ,List.set_cons_zero]
      obtain⟨d,hd⟩:∃d,d+1=q.length:=⟨q.length-1,by omega⟩
      have hd':q.length-1=d:=by omega
      have hjd:j+d<rs.length:=by omega
      have hjq:j<qs.length:=by omega
      rw [hd']at l0
      have ix:(j:Int)+((q.length:Int)-1)=((j+d:Nat):Int):=by omega
      have hlast:=Lf hq
      rw [hd']at hlast
      have er:rs[j+d]=co rs (j+d):=(Eb hjd).symm
      have zl:Sz n' (co q d):=zq d
      have Bi:=Bn i (by omega)
      obtain⟨m,fc,em,ef,m1,emf,cp,mle,fle⟩:=Anz (co rs (j+d)) (co q d) l0
      have g0:0<Int.gcd (co rs (j+d)) (co q d):=Int.gcd_pos_of_ne_zero_right _ l0
      have gz:Sz n' ((Int.gcd (co rs (j+d)) (co q d):Nat):Int):=zl.of_abs (by
        have:=Nat.le_of_dvd (by omega) (Int.gcd_dvd_natAbs_right (co rs (j+d)) (co q d))
        omega)
      have zr:Sz (B i+1) (co rs (j+d)):=by rw [<-er];exact zrs _ (List.getElem_mem hjd)
      have zm:Sz n' m:=zl.of_abs mle
      have zf:Sz (B i+1) fc:=zr.of_abs fle
      refine Ba (fun σ' H'=>H'=H5/\σ'=[some (.ref a),some (.ref b),some (.bl bb),some (.int sc),some (.ref cq),some (.ref cr),some (.int j),some (.int m),o8,o9,o10]) (fun N hN=> ?_) ?_
      . contradiction
        refine Dj (s5.tup hb) hlast ?_
        simp only [Ib,Fv,Il,Ii,Fz,Hy,Bw,Hu,Em,Ef,z_c,Pj,Qq,Qx,Iz,Qu,Iw,Hw,Im,Hz,Ea,Qp,Hr,Ij,Ip,Fg,Fq,Ie,Hs,Qs,Fj,Ht,Er,Qw,Fi,Ia,Ga,Qt,Hq,Iv,Cz,Ew,Ez,Fy,Cr,Ed,Ir,Ih,Hl,G7,Qv,Bo,Et,Ig,Qo,Iu,Fe,Ja,Jc,Ei,Io,Eo,Eh,Fl,Cm,Jb,Cq,En,Ek,Ft,Cy,Es,Cu,Hx,Ey,Ho,Ej,Fx,Ec,Cv,Bp,Ck,Fw,Ik,El,Fo,Cw,Eu,Qn,cpσ,List.getElem?_cons_zero,List.getElem?_cons_succ,Option.join_some,List.set_cons_zero,List.set_cons_succ,List.append_nil,decide_eq_true_eq,Bool.not_eq_true',decide_eq_false_iff_not,Bool.not_not,ite_not,Bool.false_eq_true,Bool.true_eq_false,if_false,if_true,if_pos,List.length_cons,List.length_nil,Nat.zero_add,Nat.reduceAdd,Fb,Ep,true_and,and_true,L2.start,List.map_cons,List.map_nil,Bool.not_true,Bool.not_false,Nat.reduceSub,List.replicate_succ,List.replicate_zero,List.cons_append,List.nil_append,abs_eq]
        refine Dd hy s5 ?_
        simp only [Ib,Fv,Il,Ii,Fz,Hy,Bw,Hu,Em,Ef,z_c,Pj,Qq,Qx,Iz,Qu,Iw,Hw,Im,Hz,Ea,Qp,Hr,Ij,Ip,Fg,Fq,Ie,Hs,Qs,Fj,Ht,Er,Qw,Fi,Ia,Ga,Qt,Hq,Iv,Cz,Ew,Ez,Fy,Cr,Ed,Ir,Ih,Hl,G7,Qv,Bo,Et,Ig,Qo,Iu,Fe,Ja,Jc,Ei,Io,Eo,Eh,Fl,Cm,Jb,Cq,En,Ek,Ft,Cy,Es,Cu,Hx,Ey,Ho,Ej,Fx,Ec,Cv,Bp,Ck,Fw,Ik,El,Fo,Cw,Eu,Qn,cpσ,List.getElem?_cons_zero,List.getElem?_cons_succ,Option.join_some,List.set_cons_zero,List.set_cons_succ,List.append_nil,decide_eq_true_eq,Bool.not_eq_true',decide_eq_false_iff_not,Bool.not_not,ite_not,Bool.false_eq_true,Bool.true_eq_false,if_false,if_true,if_pos,List.length_cons,List.length_nil,Nat.zero_add,Nat.reduceAdd,Fb,Ep,true_and,and_true,L2.start,List.map_cons,List.map_nil,Bool.not_true,Bool.not_false,Nat.reduceSub,List.replicate_succ,List.replicate_zero,List.cons_append,List.nil_append,ix]
        refine P0 (.of hcr) (G6 hjd) ?_
        try contradiction
        refine Dj (s5.tup hb) hlast ?_
        try contradiction
        rw [er]
        refine⟨_,_,rfl,?_⟩
        try contradiction
        refine⟨by omega,?_⟩
        rw [em]
        exact hN _ _ ⟨rfl,rfl⟩
      rintro σ' H6 ⟨rfl,rfl⟩
      refine Ba (fun σ' H'=>Same H H'/\(bb=false->m=1)/\∃cq cr,σ'=[some (.ref a),some (.ref b),some (.bl bb),some (.int (sc*m)),some (.ref cq),some (.ref cr),some (.int j),some (.int m),o8,o9,o10]/\H cq=none/\H cr=none/\cq≠cr/\H' cq=some (.lst ((qs.map (· *m)).map V.int))/\H' cr=some (.lst ((rs.map (· *m)).map V.int))) (fun N hN=> ?_) ?_
      . contradiction
        split
        . rename_i h1
          have one:∀x:List Int,x.map (· *m)=x:=fun x=>by
            rw [h1]
            simp
          refine hN _ _ ⟨s5,fun _=>h1,cq,cr,by rw [h1,Int.mul_one],nq,nr,ne,by rw [one];exact hcq,by rw [one];exact hcr⟩
        . rename_i h1
          cases bb with
          | false=>
            try contradiction
            refine kn rfl (fun ex=>h1 ?_) _ s5
            have b1':=b1 rfl
            subst b1'
            have dd:=dv.exact_top hq (by rw [hd'];exact l0) ex
            rw [hd']at dd
            rw [<-em]
            exact Agt l0 dd
          | true=>
            try contradiction
            refine⟨zs.mulOk zm (by omega),⟨_,.of hcq⟩,fun p1 hp1=>Om (es:=qs) (inj:=V.int) (fun x=> .int (x*m)) (by omega) hp1 (Wd (.of hcq)) ?_ ?_⟩
            . intro e H7 R he s7 hR
              contradiction
              exact⟨(zqs e he).mulOk zm (by omega),hR _ (Same.refl _)⟩
            intro H7 s7 h7
            try contradiction
            have hcr7:=s7 _ _ hcr
            refine⟨⟨_,.of hcr7⟩,fun p2 hp2=>Om (es:=rs) (inj:=V.int) (fun x=> .int (x*m)) (by omega) hp2 (Wd (.of hcr7)) ?_ ?_⟩
            . intro e H8 R he s8 hR
              contradiction
              exact⟨(zrs e he).mulOk zm (by omega),hR _ (Same.refl _)⟩
            intro H8 s8 h8
            try contradiction
            refine hN _ _ ⟨(s5.trans s7).trans s8,(fun h=>nomatch h),p1,p2,rfl,Same.free s5 hp1,Same.free (s5.trans s7) hp2,Bt h7 hp2,by rw [List.map_map];exact s8 _ _ h7,by rw [List.map_map];exact h8⟩
      clear hcq hcr nq nr ne s5
      rintro σ' H6 ⟨s5,bm,cq,cr,rfl,nq,nr,ne,hcq,hcr⟩
      have hjd':j+d<(rs.map (· *m)).length:=by rw [List.length_map];exact hjd
      refine Ba (fun σ' H'=>H'=H6/\σ'=[some (.ref a),some (.ref b),some (.bl bb),some (.int (sc*m)),some (.ref cq),some (.ref cr),some (.int j),some (.int m),some (.int fc),o9,o10]) (fun N hN=> ?_) ?_
      . contradiction
        refine Dd hy s5 ?_
        simp only [Ib,Fv,Il,Ii,Fz,Hy,Bw,Hu,Em,Ef,z_c,Pj,Qq,Qx,Iz,Qu,Iw,Hw,Im,Hz,Ea,Qp,Hr,Ij,Ip,Fg,Fq,Ie,Hs,Qs,Fj,Ht,Er,Qw,Fi,Ia,Ga,Qt,Hq,Iv,Cz,Ew,Ez,Fy,Cr,Ed,Ir,Ih,Hl,G7,Qv,Bo,Et,Ig,Qo,Iu,Fe,Ja,Jc,Ei,Io,Eo,Eh,Fl,Cm,Jb,Cq,En,Ek,Ft,Cy,Es,Cu,Hx,Ey,Ho,Ej,Fx,Ec,Cv,Bp,Ck,Fw,Ik,El,Fo,Cw,Eu,Qn,cpσ,List.getElem?_cons_zero,List.getElem?_cons_succ,Option.join_some,List.set_cons_zero,List.set_cons_succ,List.append_nil,decide_eq_true_eq,Bool.not_eq_true',decide_eq_false_iff_not,Bool.not_not,ite_not,Bool.false_eq_true,Bool.true_eq_false,if_false,if_true,if_pos,List.length_cons,List.length_nil,Nat.zero_add,Nat.reduceAdd,Fb,Ep,true_and,and_true,L2.start,List.map_cons,List.map_nil,Bool.not_true,Bool.not_false,Nat.reduceSub,List.replicate_succ,List.replicate_zero,List.cons_append,List.nil_append,ix]
        refine P0 (.of hcr) (G6 hjd') ?_
        try contradiction
        refine Dj (s5.tup hb) hlast ?_
        try contradiction
        rw [List.getElem_map,er]
        refine⟨l0,?_⟩
        rw [ef]
        exact hN _ _ ⟨rfl,rfl⟩
      rintro σ' H7 ⟨rfl,rfl⟩
      refine Ba (fun σ' H'=>Same H H'/\σ'=[some (.ref a),some (.ref b),some (.bl bb),some (.int (sc*m)),some (.ref cq),some (.ref cr),some (.int j),some (.int m),some (.int fc),o9,o10]/\H' cq=some (.lst (((qs.map (· *m)).set j fc).map V.int))/\H' cr=some (.lst ((rs.map (· *m)).map V.int))) (fun N hN=> ?_) ?_
      . contradiction
        refine Yi hcq (by rw [List.length_map,List.length_map];exact hjq) ?_
        rw [Kq]
        exact hN _ _ ⟨s5.put nq,rfl,Af,by rw [Bv (Ne.symm ne)];exact hcr⟩
      clear hcq hcr s5
      rintro σ' H8 ⟨s5,rfl,hcq,hcr⟩
      have zB1:=B1 i
      have fin:∀(rs':List Int) (o9 o10:Option V) (H9:Hp),Same H H9->H9 cq=some (.lst (((qs.map (· *m)).set j fc).map V.int))->H9 cr=some (.lst (rs'.map V.int))->rs'.length=rs.length->(∀k,co rs' k=co rs k*m-(if j<=k then fc*co q (k-j)else 0))->
          Same H H9/\∃(sc':Int) (cq' cr':Addr) (qs' rs'':List Int) (u6 u7 u8 u9 u10:Option V),[some (V.ref a),some (.ref b),some (.bl bb),some (.int (sc*m)),some (.ref cq),some (.ref cr),some (.int j),some (.int m),some (.int fc),o9,o10]=[some (.ref a),some (.ref b),some (.bl bb),some (.int sc'),some (.ref cq'),some (.ref cr'),u6,u7,u8,u9,u10]/\H cq'=none/\H cr'=none/\cq'≠cr'/\H9 cq'=some (.lst (qs'.map V.int))/\H9 cr'=some (.lst (rs''.map V.int))/\qs'.length=L/\rs''.length=p.length/\DV p q sc' qs' rs'' (L-(i+1))/\(bb=false->sc'=1)/\Sz (B (i+1)+1) sc'/\(∀x∈qs',Sz (B (i+1)+1) x)/\∀x∈rs'',Sz (B (i+1)+1) x:=by
        intro rs' o9 o10 H9 s9 h1 h2 hl2 hco
        refine⟨s9,sc*m,cq,cr,_,rs',_,_,_,_,_,rfl,nq,nr,ne,h1,h2,by rw [List.length_set,List.length_map];exact hlq,by omega,?_,fun hb0=>by rw [b1 hb0,bm hb0];rfl,(zs.mul zm).mono (by omega),fun x hx=> ?_,fun x hx=> ?_⟩
        . rw [show L-(i+1)=j by omega]
          exact dv.step hq m1 hjq (by rw [hd'];exact emf) cp hco
        . rcases List.mem_or_eq_of_mem_set hx with hx | hx
          . obtain⟨y,hy',rfl⟩:=List.mem_map.mp hx
            exact((zqs y hy').mul zm).mono (by omega)
          . rw [hx];exact zf.mono (by omega)
        . obtain⟨t,ht,et⟩:=List.getElem_of_mem hx
          have z:=hco t
          rw [Eb ht,et]at z
          rw [z]
          have za:Sz (B i+1+n') (co rs t*m):=by
            by_cases h:t<rs.length
            . rw [Eb h];exact(zrs _ (List.getElem_mem h)).mul zm
            . rw [Bm (by omega),Int.zero_mul];exact Sz0 (by omega)
          have zb:Sz (B i+1+n') (if j<=t then fc*co q (t-j)else 0):=by
            split
            . exact zf.mul (zq _)
            . exact Sz0 (by omega)
          exact(za.sub zb).mono (by omega)
      contradiction
      split
      . rename_i h0
        refine fin (rs.map (· *m)) _ _ _ s5 hcq hcr (by rw [List.length_map]) fun t=> ?_
        rw [Vu,h0]
        split<;>simp
      . refine⟨⟨_,s5.tup hb⟩,Abb (es:=q) (inj:=V.int) (fun pre σ' H'=>Same H H'/\∃(u9 u10:Option V) (ms:List Int),σ'=[some (.ref a),some (.ref b),some (.bl bb),some (.int (sc*m)),some (.ref cq),some (.ref cr),some (.int j),some (.int m),some (.int fc),u9,u10]/\H' cq=some (.lst (((qs.map (· *m)).set j fc).map V.int))/\H' cr=some (.lst (ms.map V.int))/\ms.length=rs.length/\∀t,co ms t=co rs t*m-(if j<=t then fc*co pre (t-j)else 0)) ⟨s5,_,_,rs.map (· *m),rfl,hcq,hcr,by rw [List.length_map],fun t=>by rw [Vu];split<;>simp [Az]⟩ ?_ ?_ ?_⟩
        . rintro pre σ' H' ⟨s9,_⟩
          exact s9.tup hb
        . rintro pre e post σ' H9 p1 he ⟨s9,u9,u10,ms,rfl,h1,h2,hlm,hco⟩ hp1
          refine J1 (.of Af) ?_
          have hlen:=congrArg List.length he
          rw [List.length_append,List.length_cons]at hlen
          have hjj:j+pre.length<ms.length:=by omega
          have s10:=Same.upd hp1 (.tup [V.int (pre.length:Nat),V.int e])
          have h1':=s10 _ _ h1
          have h2':=s10 _ _ h2
          have ze:Sz n' e:=my e (by rw [he];simp)
          simp only [Ib,Fv,Il,Ii,Fz,Hy,Bw,Hu,Em,Ef,z_c,Pj,Qq,Qx,Iz,Qu,Iw,Hw,Im,Hz,Ea,Qp,Hr,Ij,Ip,Fg,Fq,Ie,Hs,Qs,Fj,Ht,Er,Qw,Fi,Ia,Ga,Qt,Hq,Iv,Cz,Ew,Ez,Fy,Cr,Ed,Ir,Ih,Hl,G7,Qv,Bo,Et,Ig,Qo,Iu,Fe,Ja,Jc,Ei,Io,Eo,Eh,Fl,Cm,Jb,Cq,En,Ek,Ft,Cy,Es,Cu,Hx,Ey,Ho,Ej,Fx,Ec,Cv,Bp,Ck,Fw,Ik,El,Fo,Cw,Eu,Qn,cpσ,List.getElem?_cons_zero,List.getElem?_cons_succ,Option.join_some,List.set_cons_zero,List.set_cons_succ,List.append_nil,decide_eq_true_eq,Bool.not_eq_true',decide_eq_false_iff_not,Bool.not_not,ite_not,Bool.false_eq_true,Bool.true_eq_false,if_false,if_true,if_pos,List.length_cons,List.length_nil,Nat.zero_add,Nat.reduceAdd,Fb,Ep,true_and,and_true,L2.start,List.map_cons,List.map_nil,Bool.not_true,Bool.not_false,Nat.reduceSub,List.replicate_succ,List.replicate_zero,List.cons_append,List.nil_append,<-Int.natCast_add]
          refine P0 (.of h2') (G6 hjj) ?_
          try contradiction
          refine⟨zf.mulOk ze (by omega),?_⟩
          refine Yi h2' (by rw [List.length_map];exact hjj) ?_
          try contradiction
          rw [Kq]
          refine⟨(s9.trans s10).put nr,_,_,ms.set (j+pre.length) (ms[j+pre.length]-fc*e),rfl,by rw [Bv ne];exact h1',Af,by rw [List.length_set];exact hlm,fun t=> ?_⟩
          rw [Ru _ _ _ hjj,J6,hco t]
          by_cases ht:t=j+pre.length
          . subst ht
            rw [if_pos rfl,if_pos (by omega),if_pos (by omega),<-Eb hjj,hco,if_pos (by omega),show j+pre.length-j=pre.length by omega,Bm (p:=pre) (Nat.le_refl _)]
            omega
          . rw [if_neg ht]
            by_cases hjt:j<=t
            . rw [if_pos hjt,if_pos hjt,if_neg (by omega)]
            . rw [if_neg hjt,if_neg hjt]
        . rintro σ' H9 ⟨s9,u9,u10,ms,rfl,h1,h2,hlm,hco⟩
          exact fin ms u9 u10 H9 s9 h1 h2 hlm hco
    . rintro σ' H5 ⟨s5,sc,cq,cr,qs,rs,o6,o7,o8,o9,o10,rfl,nq,nr,ne,hcq,hcr,hlq,hlr,dv,b1,zs,zqs,zrs⟩
      rw [Nat.sub_self]at dv
      exact hN _ _ ⟨s5,sc,cq,cr,qs,rs,o6,o7,o8,o9,o10,rfl,hcq,hcr,hlq,hlr,dv,b1,zs,zqs,zrs⟩
  rintro σ H5 ⟨s5,sc,cq,cr,qs,rs,o6,o7,o8,o9,o10,rfl,hcq,hcr,hlq,hlr,dv,b1,zs,zqs,zrs⟩
  have BL:=Bn L hL15
  have bigE:=Aca
  contradiction
  refine⟨cq,qs,rfl,.inl (.of hcq),by omega,fun z1 H6 s6 h6=> ?_⟩
  try contradiction
  refine⟨cr,rs,rfl,.inl (.of (s6 _ _ hcr)),by omega,fun z2 H7 s7 h7=> ?_⟩
  try contradiction
  refine⟨by decide,fun z hz=> ?_⟩
  have s8:=Same.upd hz (.tup [V.int sc,V.ref z1,V.ref z2])
  have csz:∀(x:List Int),(∀y∈x,Sz (B L+1) y)->∀t,Sz BIG (co (trim x) t):=fun x hx t=>by
    rw [Ak]
    by_cases h:t<x.length
    . rw [Eb h];exact(hx _ (List.getElem_mem h)).mono (by omega)
    . rw [Bm (by omega)];exact Sz0 (by omega)
  have t1:=Kf qs
  have t2:=Kf rs
  refine k z _ sc (.ref z1) (.ref z2) (trim qs) (trim rs) (((s5.trans s6).trans s7).trans s8) (.of Af) ⟨⟨z1,rfl,s8.tup (s7.tup h6)⟩,Av _,by omega,csz qs zqs⟩ ⟨⟨z2,rfl,s8.tup h7⟩,Av _,by omega,csz rs zrs⟩ dv.pos (zs.mono (by omega)) b1 (fun t=> ?_) ?_ ?_
  . rw [dv.eq,Ax (co q) (trim qs) qs fun i=>Ak qs i,Ak]
  . have:(trim rs).length<=q.length-1:=by
      have h:=(Av rs).len (q:=rs.take (q.length-1)) fun t=>by
        rw [Ak,Ks]
        split
        . rfl
        . exact dv.top t (by omega)
      rw [List.length_take]at h
      omega
    omega
  . intro e h1 h2 h3
    exact dv.cop e h1 (fun t=>by rw [<-Ak];exact h2 t) fun t=>by rw [<-Ak];exact h3 t
theorem Acl:∀(p r:List Int),gl (p++r)=Int.gcd (gl p:Nat) (gl r:Nat)
  | [],r=>by rw [List.nil_append,gl];simp
  | a::p,r=>by rw [List.cons_append,gl,Acl p r,gl,Int.gcd_assoc]
theorem Air (p:List Int) (e:Int):gl (p++ [e])=Int.gcd (gl p:Nat) e:=by
  rw [Acl,gl,gl]
  simp [Int.gcd]
def Aok (K:PySem.W.Frag):Sp:=fun vs H Q _=>∃(a:Addr) (ns:List Int),vs=[.ref a]/\SqT K H a (ns.map V.int)/\Q (.int (gl ns:Nat)) H
def Qe (K:PySem.W.Frag):Sp:=Aok K
theorem Vw {f:Addr}{fd:FuncData} (F:Df K mg "divisor_of" Mt ["some"] f fd)   (c_divisor:Cal P w K mg base 33 "divisor" ["one","other"] (Np K)):Cal P w K mg base 34 "divisor_of" ["some"] (Qe K):=by
  refine F.cal (F.fn.ok Js (fun vs H Q E h=> ?_) (fun cdv A outer s H vs Q E hr h=> ?_))
  . obtain⟨a,ns,rfl,_⟩:=h
    rfl
  obtain⟨a,ns,rfl,hS,q⟩:=h
  refine S.Bb ⟨_,(S.Ac (S.Ah (i:=1) Js.nd rfl (Or.inl rfl) S.Ad)
      (S.Ac (S.Gq PassesOwn.never rfl (S.Ug (S.pv 0)) (S.Aw (i:=2) Js.nd rfl (Or.inl rfl)) (S.Ac (S.Ah (i:=1) Js.nd rfl (Or.inl rfl) (S.Aj c_divisor (hr.mono (by decide)) (S.Aa (S.pv 1) (S.Aa (S.pv 2) S.Ab))))
      (S.Ae (S.Du (S.Al N6 (S.pv 1) S.Ad (Ar _)) (S.Ae (S.Ao (S.pv 1))) S.Ay))))
      (S.Ae (S.Ao (S.pv 1))))),?_⟩
  contradiction
  refine⟨⟨_,hS⟩,V0 (es:=ns) (inj:=V.int) (fun pre σ H'=>H'=H/\∃o,σ=[some (.ref a),some (.int (gl pre:Nat)),o]) ⟨rfl,_,rfl⟩ ?_ ?_ ?_⟩
  . rintro pre σ H' ⟨rfl,_⟩
    exact Agu hS
  . rintro pre e post σ H' he ⟨rfl,o,rfl⟩
    contradiction
    refine⟨_,_,rfl,?_⟩
    rw [<-Air]
    contradiction
    split
    . rename_i h1
      have h1':gl (pre++ [e])=1:=by omega
      have e2:gl ns=gl (pre++ [e]):=by
        rw [he,<-List.singleton_append,<-List.append_assoc,Acl,h1']
        simp
      rw [<-e2]
      exact q
    . exact⟨_,rfl⟩
  . rintro σ H' ⟨rfl,o,rfl⟩
    contradiction
    exact q
def U9 (K:PySem.W.Frag):Sp:=Aok K
theorem Aax {f:Addr}{fd:FuncData} (F:Df K mg "content" T9 ["one"] f fd)   (c_divisor_of:Cal P w K mg base 34 "divisor_of" ["some"] (Qe K)):Cal P w K mg base 35 "content" ["one"] (U9 K):=by
  refine F.cal (F.fn.ok Aa5 (fun vs H Q E h=> ?_) (fun cdv A outer s H vs Q E hr h=> ?_))
  . obtain⟨a,ns,rfl,_⟩:=h
    rfl
  obtain⟨a,ns,rfl,hS,q⟩:=h
  refine S.Bb ⟨_,(S.Ae (S.Ao (S.Aj c_divisor_of (hr.mono (by decide)) (S.Aa (S.pv 0) S.Ab)))),?_⟩
  contradiction
  exact⟨a,ns,rfl,hS,q⟩
def Aen (K:PySem.W.Frag):Sp:=fun vs H Q _=>∃(a:Addr) (p:List Int),vs=[.ref a]/\SqT K H a (p.map V.int)/\∀H',Same H H'->Q (.int (un p)) H'
theorem Ajp {f:Addr}{fd:FuncData} (F:Df K mg "unit" Acj ["one"] f fd)   (c_content:Cal P w K mg base 35 "content" ["one"] (U9 K)):Cal P w K mg base 36 "unit" ["one"] (Aen K):=by
  refine F.cal (F.fn.ok Aj9 (fun vs H Q E h=> ?_) (fun cdv A outer s H vs Q E hr h=> ?_))
  . obtain⟨a,p,rfl,_⟩:=h
    rfl
  obtain⟨a,p,rfl,hS,k⟩:=h
  refine S.Bb ⟨_,(S.Ac (S.Du (S.O2 (S.Rv (S.Al (Vg hr.units) (S.pv 0) (S.Bq S.Ab) (Ar _)) (S.Ng (S.Al Wf (S.Bl Bc (S.pv 0) (S.Hv Gf S.Ad) (fun _ _=>rfl)) S.Ad (Ar _))))) (S.Ae (S.Ao (S.Hv Gf (S.Aj c_content (hr.mono (by decide)) (S.Aa (S.pv 0) S.Ab))))) S.Ay)
      (S.Ae (S.Ao (S.Aj c_content (hr.mono (by decide)) (S.Aa (S.pv 0) S.Ab))))),?_⟩
  contradiction
  refine⟨by decide,fun e0 he0=> ?_⟩
  have se:=Same.upd he0 (.tup [])
  refine Dh (ms:=[]) (se.tup hS) (.of Af) ?_
  by_cases h0:p=[]
  . subst h0
    try contradiction
    exact⟨a,[],rfl,se.tup hS,k _ se⟩
  . rw [decide_eq_false h0]
    try contradiction
    refine Dj (se.tup hS) (Lf h0) ?_
    try contradiction
    split
    . rename_i hl
      refine⟨a,p,rfl,se.tup hS,?_⟩
      try contradiction
      have:un p= -((gl p:Nat):Int):=if_pos hl
      rw [<-this]
      exact k _ se
    . rename_i hl
      refine⟨a,p,rfl,se.tup hS,?_⟩
      try contradiction
      have:un p=((gl p:Nat):Int):=if_neg hl
      rw [<-this]
      exact k _ se
def Tz (K:PySem.W.Frag):Sp:=fun vs H Q _=>∃(a:Addr) (p:List Int) (d:Int),vs=[.ref a,.int d]/\SqT K H a (p.map V.int)/\p.length<=1000/\(p≠ []->d≠0/\Sz LIM d)/\∀z H',Same H H'->SqT K H' z ((p.map fun x=>x.fdiv d).map V.int)->Q (.ref z) H'
theorem Acv {f:Addr}{fd:FuncData} (F:Df K mg "shrunk" Sv ["one","number"] f fd) (z_tuple:mg "tuple"=none) (py:Pyl P base)  :Cal P w K mg base 33 "shrunk" ["one","number"] (Tz K):=by
  refine F.cal (F.fn.ok Aeo (fun vs H Q E h=> ?_) (fun cdv A outer s H vs Q E hr h=> ?_))
  . obtain⟨a,p,d,rfl,_⟩:=h
    rfl
  obtain⟨a,p,d,rfl,hS,hl,hd,k⟩:=h
  refine S.Bb ⟨_,(S.Ae (S.Ao (S.Hg Gi rfl z_tuple PyProof.Rows.boot_tuple (S.Aa (S.Kv (ts:=["weight"]) (fs:=[(1,"number")]) rfl (Dp.of (sc:=Ag Sv) (N:=["one","number"]) rfl rfl (by decide+kernel)) (S.Ug (S.pv 0)) (fun _ _ _=>(S.Aw (i:=0) (show List.Nodup (["weight","number"]:List Str)by decide+kernel) rfl (Or.inl rfl))) (fun _ _ _=>S.Jz) (fun _ _ _=>(S.Ai (Lp py (hr.far (by decide)) rfl rfl rfl rfl rfl) (S.pv 0) (S.pv 1)))) S.Ab)))),?_⟩
  contradiction
  refine⟨⟨_,hS⟩,fun p1 hp1=>Om (es:=p) (inj:=V.int) (fun x=> .int (x.fdiv d)) (Nat.le_trans hl (by decide)) hp1 (Xr hS) ?_ ?_⟩
  . intro e H2 R he s2 hR
    have:=hd (List.ne_nil_of_mem he)
    contradiction
    exact⟨this.1,hR _ (Same.refl _)⟩
  intro H2 s2 h2
  try contradiction
  have em:p.map (fun x=>V.int (x.fdiv d))=(p.map fun x=>x.fdiv d).map V.int:=by rw [List.map_map];rfl
  rw [em]at h2
  exact⟨p1,_,rfl,.inl ⟨.of h2,fun z hz=>k z _ (s2.trans (Same.upd hz _)) (.of Af)⟩⟩
def Nx (K:PySem.W.Frag):Sp:=fun vs H Q _=>∃(x:V) (p:List Int) (l n:Nat),vs=[x]/\Po K H x p l n/\l<=100/\n<=400000/\∀z H',Same H H'->Po K H' z (pln p) l n->Q z H'
theorem An8 {p:List Int}{n:Nat} (hp:Tr p) (h:p≠ []) (z:Sz n (co p (p.length-1))):Sz n (un p):=z.of_abs (Nat.le_of_dvd (Int.natAbs_pos.mpr (hp.lead h)) (Int.natAbs_dvd_natAbs.mpr (Ah7 p _)))
theorem Akj {p:List Int}{n:Nat} (hp:Tr p) (z:∀i,Sz n (co p i)) (i:Nat):Sz n (co (pln p) i):=by
  by_cases h:p=[]
  . subst h;exact z i
  . refine(z i).of_abs ?_
    have e:=Kc hp h i
    by_cases h0:co p i=0
    . have:co (pln p) i=0:=by
        rw [h0]at e
        exact(Int.mul_eq_zero.mp e).resolve_left (Qm hp h)
      rw [this]
      exact Nat.zero_le _
    . exact Nat.le_of_dvd (Int.natAbs_pos.mpr h0) (Int.natAbs_dvd_natAbs.mpr ⟨un p,by rw [Int.mul_comm];exact e.symm⟩)
theorem Agh {f:Addr}{fd:FuncData} (F:Df K mg "plain" Za ["one"] f fd)   (c_shrunk:Cal P w K mg base 33 "shrunk" ["one","number"] (Tz K)) (c_unit:Cal P w K mg base 36 "unit" ["one"] (Aen K)):Cal P w K mg base 37 "plain" ["one"] (Nx K):=by
  refine F.cal (F.fn.ok Af1 (fun vs H Q E h=> ?_) (fun cdv A outer s H vs Q E hr h=> ?_))
  . obtain⟨x,p,_,_,rfl,_⟩:=h
    rfl
  obtain⟨x,p,l,n,rfl,⟨⟨a,rfl,ha⟩,tp,lp,zp⟩,hl,hn,k⟩:=h
  refine S.Bb ⟨_,(S.Ae (S.Ao (S.Aj c_shrunk (hr.mono (by decide)) (S.Aa (S.pv 0) (S.Aa (S.Aj c_unit (hr.mono (by decide)) (S.Aa (S.pv 0) S.Ab)) S.Ab))))),?_⟩
  contradiction
  refine⟨a,p,rfl,ha,fun H1 s1=> ?_⟩
  try contradiction
  refine⟨a,p,un p,rfl,s1.tup ha,by omega,fun h0=>⟨Qm tp h0,(An8 tp h0 (zp _)).mono (by rw [Ah1];exact hn)⟩,fun z H2 s2 h2=>k _ _ (s1.trans s2) ⟨⟨z,rfl,h2⟩,Kh tp,by rw [G4];exact lp,Akj tp zp⟩⟩
theorem T8 {H H1:Hp}{Q:VK}{E:XK}{x:V}{p:List Int}{l n:Nat} (hx:Po K H1 x p l n) (s1:Same H1 H) (hl:l<=100) (hn:n<=400000) (h:∀z H',Same H H'->Po K H' z (pln p) l n->Q z H'):Nx K [x] H Q E:=⟨x,p,l,n,rfl,hx.mono s1,hl,hn,h⟩
theorem at0 {α:Type} (x:α) (r:List α):atI (x::r) 0=some x:=Jw (j:=0) rfl
theorem at1 {α:Type} (x y:α) (r:List α):atI (x::y::r) 1=some y:=Jw (j:=1) rfl
theorem at2 {α:Type} (x y z:α) (r:List α):atI (x::y::z::r) 2=some z:=Jw (j:=2) rfl
def WpR (K:PySem.W.Frag) (p q:List Int) (Q:VK) (H:Hp):Prop:=(¬Exact p q->∀H',Same H H'->Q .non H')/\∀z H' u,Same H H'->Po K H' z u 60 BIG->(∀k,co p k=mu u (co q) k)->Q z H'
def Ji (K:PySem.W.Frag):Sp:=fun vs H Q E=>∃(x y:V) (p q:List Int) (l l' n n':Nat),vs=[x,y]/\Po K H x p l n/\Po K H y q l' n'/\l<=60/\l'<=60/\n<=400000/\n'<=400000/\(q=[]->∀H',Same H H'->E (.ref (cA K "NoPart")) none H')/\(q≠ []->WpR K p q Q H)
def Qg (K:PySem.W.Frag):Sp:=fun vs H Q _=>∃(x y:V) (p q:List Int) (l l' n n':Nat),vs=[x,y]/\Po K H x p l n/\Po K H y q l' n'/\l<=60/\l'<=60/\n<=400000/\n'<=400000/\q≠ []/\WpR K p q Q H
theorem Tw (K:PySem.W.Frag):∀vs H Q E,Qg K vs H Q E->Ji K vs H Q E0:=by
  rintro vs H Q E ⟨x,y,p,q,l,l',n,n',rfl,hx,hy,h1,h2,h3,h4,hq,k⟩
  exact⟨x,y,p,q,l,l',n,n',rfl,hx,hy,h1,h2,h3,h4,fun z=>(hq z).elim,fun _=>k⟩
theorem Vo {f:Addr}{fd:FuncData} (F:Df K mg "whole_part" Nf ["one","other"] f fd)   (ce_long_division:Oz P w K mg base 34 "long_division" ["one","other","scaling"] (Jf K)):Oz P w K mg base 35 "whole_part" ["one","other"] (Ji K):=by
  refine F.calE (F.fn.okE Ql (fun vs H Q E h=> ?_) (fun cdv A outer s H vs Q E hr h=> ?_))
  . obtain⟨x,y,p,q,_,_,_,_,rfl,_⟩:=h
    rfl
  obtain⟨x,y,p,q,l,l',n,n',rfl,hx,hy,h1,h2,h3,h4,k0,k⟩:=h
  refine S.Bb ⟨_,(S.Ac (S.Ah (i:=2) Ql.nd rfl (Or.inl rfl) (S.Gj ce_long_division (hr.mono (by decide)) (S.Aa (S.pv 0) (S.Aa (S.pv 1) (S.Aa S.O5 S.Ab)))))
      (S.Ac (S.Du (S.O2 (S.N7 (S.Al Amb (S.pv 2) S.X5 (Ar _)) (S.Nh (S.Al (Vg hr.units) (S.Bl Bc (S.pv 2) S.Ad (fun _ _=>rfl)) (S.Bq S.Ab) (Ar _))))) (S.Ae (S.Ao S.X5)) S.Ay)
      (S.Ae (S.Ao (S.Bl Bc (S.pv 2) S.Ad (fun _ _=>rfl)))))),?_⟩
  contradiction
  refine⟨x,y,false,p,q,l,l',n,n',rfl,hx,hy,h1,h2,h3,h4,k0,fun _ hq nex H1 s1=> ?_,fun hq z H1 sc c d u r s1 hz iu ir sc1 _ one heq lr cop=> ?_⟩
  . try contradiction
    exact(k hq).1 nex _ s1
  . have one':=one rfl
    subst one'
    try contradiction
    rw [if_neg (show ¬V.ref z=V.non from nofun)]
    refine Dj hz (at2 _ _ _ _) ?_
    try contradiction
    refine⟨by decide,fun e0 he0=> ?_⟩
    have se:=Same.upd he0 (.tup [])
    obtain⟨⟨rd,rfl,hrd⟩,tr,_⟩:=id (ir.mono se)
    refine Dh (ms:=[]) hrd (.of Af) ?_
    by_cases h0:r=[]
    . rw [decide_eq_true h0]
      try contradiction
      refine Dj (se.tup hz) (at1 _ _ _) ?_
      try contradiction
      exact(k hq).2 _ _ u (s1.trans se) (iu.mono se) fun t=>by
        have:=heq t
        rw [h0,Az]at this
        omega
    . rw [decide_eq_false h0]
      try contradiction
      exact(k hq).1 (fun ex=>h0 (Ags hq (hy.2.1.lead hq) heq sc1 tr lr cop ex).2) _ (s1.trans se)
def Vj (K:PySem.W.Frag):Sp:=fun vs H Q E=>∃(x y:V) (p q:List Int) (l l' n n':Nat),vs=[x,y]/\Po K H x p l n/\Po K H y q l' n'/\l<=60/\l'<=60/\n<=400000/\n'<=400000/\(q=[]->∀H',Same H H'->E (.ref (cA K "NoPart")) none H')/\(q≠ []->LdR K true p q Q H)
def Xo (K:PySem.W.Frag):Sp:=fun vs H Q _=>∃(x y:V) (p q:List Int) (l l' n n':Nat),vs=[x,y]/\Po K H x p l n/\Po K H y q l' n'/\l<=60/\l'<=60/\n<=400000/\n'<=400000/\q≠ []/\LdR K true p q Q H
theorem Yt (K:PySem.W.Frag):∀vs H Q E,Xo K vs H Q E->Vj K vs H Q E0:=by
  rintro vs H Q E ⟨x,y,p,q,l,l',n,n',rfl,hx,hy,h1,h2,h3,h4,hq,k⟩
  exact⟨x,y,p,q,l,l',n,n',rfl,hx,hy,h1,h2,h3,h4,fun z=>(hq z).elim,fun _=>k⟩
theorem Ac5 {f:Addr}{fd:FuncData} (F:Df K mg "parted" Wi ["one","other"] f fd)   (ce_long_division:Oz P w K mg base 34 "long_division" ["one","other","scaling"] (Jf K)):Oz P w K mg base 35 "parted" ["one","other"] (Vj K):=by
  refine F.calE (F.fn.okE Ad3 (fun vs H Q E h=> ?_) (fun cdv A outer s H vs Q E hr h=> ?_))
  . obtain⟨x,y,p,q,_,_,_,_,rfl,_⟩:=h
    rfl
  obtain⟨x,y,p,q,l,l',n,n',rfl,hx,hy,h1,h2,h3,h4,k0,k⟩:=h
  refine S.Bb ⟨_,(S.Ae (S.Ao (S.Gj ce_long_division (hr.mono (by decide)) (S.Aa (S.pv 0) (S.Aa (S.pv 1) (S.Aa S.O5 S.Ab)))))),?_⟩
  contradiction
  exact⟨x,y,true,p,q,l,l',n,n',rfl,hx,hy,h1,h2,h3,h4,k0,(fun h=>nomatch h),k⟩
def md (p:List Int) (m:Int):List Int:=trim (p.map (· %m))
theorem Abw (p:List Int) (m:Int) (i:Nat):co (md p m) i=co p i%m:=by
  rw [md,Ak]
  by_cases h:i<p.length
  . rw [Eb (by simpa using h),Eb h,List.getElem_map]
  . rw [Bm (by simpa using h),Bm (by omega),Int.zero_emod]
theorem Al5 (p:List Int) (m:Int):Tr (md p m):=Av _
theorem Ahz (p:List Int) (m:Int):(md p m).length<=p.length:=by
  have:=Kf (p.map (· %m))
  rw [List.length_map]at this
  exact this
theorem Ako {k:Nat}{m:Int} (hm:0<m) (hz:Sz k m) (x:Int):Sz k (x%m):=by
  have h0:=Int.emod_nonneg x (Int.ne_of_gt hm)
  have h1:=Int.emod_lt_of_pos x hm
  generalize x%m=y at*
  exact hz.of_abs (by omega)
def Jk (K:PySem.W.Frag):Sp:=fun vs H Q _=>∃(x:V) (m:Int) (p:List Int) (l n k:Nat),vs=[x,.int m]/\Po K H x p l n/\l<=500/\0<m/\Sz k m/\∀z H',Same H H'->Po K H' z (md p m) l k->Q z H'
theorem X7 {f:Addr}{fd:FuncData} (F:Df K mg "by_number" Ls ["one","m"] f fd)   (c_poly:Cal P w K mg base 33 "poly" ["weights"] (Mu K)):Cal P w K mg base 34 "by_number" ["one","m"] (Jk K):=by
  refine F.cal (F.fn.ok Yd (fun vs H Q E h=> ?_) (fun cdv A outer s H vs Q E hr h=> ?_))
  . obtain⟨x,m,p,_,_,_,rfl,_⟩:=h
    rfl
  obtain⟨x,m,p,l,n,k,rfl,⟨⟨a,rfl,ha⟩,tp,lp,zp⟩,hl,hm,hk,q⟩:=h
  refine S.Bb ⟨_,(S.Ae (S.Ao (S.Aj c_poly (hr.mono (by decide)) (S.Aa (S.Kv (ts:=["weight"]) (fs:=[(1,"m")]) rfl (Dp.of (sc:=Ag Ls) (N:=["one","m"]) rfl rfl (by decide+kernel)) (S.Ug (S.pv 0)) (fun _ _ _=>(S.Aw (i:=0) (show List.Nodup (["weight","m"]:List Str)by decide+kernel) rfl (Or.inl rfl))) (fun _ _ _=>S.Jz) (fun _ _ _=>(S.Ai Dz (S.pv 0) (S.pv 1)))) S.Ab)))),?_⟩
  contradiction
  refine⟨⟨_,ha⟩,fun p1 hp1=>Om (es:=p) (inj:=V.int) (fun e=> .int (e%m)) (Nat.le_trans (Nat.le_trans lp hl) (by decide)) hp1 (Xr ha) ?_ ?_⟩
  . intro e H2 R he s2 hR
    contradiction
    exact⟨hm,hR _ (Same.refl _)⟩
  intro H2 s2 h2
  try contradiction
  have em:p.map (fun e=>V.int (e%m))=(p.map (· %m)).map V.int:=by rw [List.map_map];rfl
  rw [em]at h2
  refine Acm (.of h2) (by rw [List.length_map];omega) fun z H3 s3 h3=>q _ _ (s2.trans s3) ⟨⟨z,rfl,h3⟩,Av _,Nat.le_trans (Ahz p m) lp,fun i=> ?_⟩
  rw [Abw]
  exact Ako hm hk _
theorem Uq {H H1:Hp}{Q:VK}{E:XK}{x:V}{m:Int}{p:List Int}{l n k:Nat} (hx:Po K H1 x p l n) (s1:Same H1 H) (hl:l<=500) (hm:0<m) (hk:Sz k m) (h:∀z H',Same H H'->Po K H' z (md p m) l k->Q z H'):Jk K [x,.int m] H Q E:=⟨x,m,p,l,n,k,rfl,hx.mono s1,hl,hm,hk,h⟩
theorem Adz (g l:Int):Int.gcd l (g-g/l*l)=Int.gcd g l:=by
  rw [Int.gcd_sub_mul_right_right,Int.gcd_comm]
def Akg (m g l x y:Int):Prop:=∃A B:Nat,((x=(A:Nat)/\y= -((B:Nat):Int))\/(x= -((A:Nat):Int)/\y=(B:Nat)))/\(B:Int)*g+(A:Int)*l=m
theorem Akg.next {m g l x y:Int} (h:Akg m g l x y) (hg:0<=g) (hl:0<l):Akg m l (g-g/l*l) y (x-g/l*y):=by
  obtain⟨A,B,h,e⟩:=h
  have q0:0<=g/l:=Int.ediv_nonneg hg (Int.le_of_lt hl)
  obtain⟨q,hq⟩:∃q:Nat,g/l=q:=⟨(g/l).toNat,by omega⟩
  rw [hq]
  refine⟨B,A+q*B,?_,?_⟩
  . rcases h with⟨rfl,rfl⟩ | ⟨rfl,rfl⟩
    . refine .inr ⟨rfl,?_⟩
      push_cast
      rw [Int.mul_neg]
      omega
    . refine .inl ⟨rfl,?_⟩
      push_cast
      omega
  . push_cast
    rw [<-e]
    grind
theorem Akg.here {m g l x y:Int} (h:Akg m g l x y) (hg:0<g) (hl:0<=l):y.natAbs<=m.natAbs:=by
  obtain⟨A,B,h,e⟩:=h
  have h1:(B:Int)*1<=(B:Int)*g:=Int.mul_le_mul_of_nonneg_left (by omega) (by omega)
  have h2:(0:Int)<=(A:Int)*l:=Int.mul_nonneg (by omega) hl
  rcases h with⟨_,rfl⟩ | ⟨_,rfl⟩<;>omega
def Ku (K:PySem.W.Frag):Sp:=fun vs H Q E=>∃(a m:Int) (k:Nat),vs=[.int a,.int m]/\1<m/\Sz k m/\k<=8000/\(Int.gcd a m≠1->E (.ref (cA K "NoPart")) none H)/\(Int.gcd a m=1->∀r,0<=r->r<m->r*a%m=1->Q (.int r) H)
def Px (K:PySem.W.Frag):Sp:=fun vs H Q _=>∃(a m:Int) (k:Nat),vs=[.int a,.int m]/\1<m/\Sz k m/\k<=8000/\Int.gcd a m=1/\(∀r,0<=r->r<m->r*a%m=1->Q (.int r) H)
theorem Us (K:PySem.W.Frag):∀vs H Q E,Px K vs H Q E->Ku K vs H Q E0:=by
  rintro vs H Q E ⟨a,m,k,rfl,hm,hk,h8,hg,c⟩
  exact⟨a,m,k,rfl,hm,hk,h8,fun h=>(h hg).elim,fun _=>c⟩
theorem Vm {f:Addr}{fd:FuncData} (F:Df K mg "inverse_by" Ni ["number","m"] f fd)  (xk_NoPart:Wz K (cA K "NoPart")) (xm_NoPart:mg "NoPart"=some (.ref (cA K "NoPart")))  :Oz P w K mg base 33 "inverse_by" ["number","m"] (Ku K):=by
  refine F.calE (F.fn.okE Dy (fun vs H Q E h=> ?_) (fun cdv A outer s H vs Q E hr h=> ?_))
  . obtain⟨a,m,k,rfl,_⟩:=h
    rfl
  obtain⟨a,m,k,rfl,hm,hk,h8,kE,kQ⟩:=h
  refine S.Bb ⟨_,(S.Ac (S.Ah (i:=2) Dy.nd rfl (Or.inl rfl) (S.pv 1))
      (S.Ac (S.Ah (i:=3) Dy.nd rfl (Or.inl rfl) (S.Ai Dz (S.pv 0) (S.pv 1)))
      (S.Ac (S.Ah (i:=4) Dy.nd rfl (Or.inl rfl) S.Ad)
      (S.Ac (S.Ah (i:=5) Dy.nd rfl (Or.inl rfl) S.Ad)
      (S.Ac (S.Aac (S.Hh PassesOwn.never (S.Al Q6 (S.pv 3) S.Ad (Ar _)) (S.Ac (S.Ah (i:=6) Dy.nd rfl (Or.inl rfl) (S.Ai Gb (S.pv 2) (S.pv 3)))
      (S.Ac (S.Qi (i:=2) (j:=3) rfl Dy.nd rfl rfl (by decide) rfl rfl (S.Aa (S.pv 3) (S.Aa (S.Ai Gg (S.pv 2) (S.Ai Cg (S.pv 6) (S.pv 3))) S.Ab)) rfl)
      (S.Ae (S.Qi (i:=4) (j:=5) rfl Dy.nd rfl rfl (by decide) rfl rfl (S.Aa (S.pv 5) (S.Aa (S.Ai Gg (S.pv 4) (S.Ai Cg (S.pv 6) (S.pv 5))) S.Ab)) rfl))))))
      (S.Ac (S.Du (S.Al Q6 (S.pv 2) S.Ad (Ar _)) (S.Ae (S.Hi xk_NoPart xm_NoPart (S.Aa S.K8 S.Ab))) S.Ay)
      (S.Ae (S.Ao (S.Ai Dz (S.pv 4) (S.pv 1)))))))))),?_⟩
  contradiction
  have m0:=Int.emod_nonneg a (by omega:m≠0)
  have m1:=Int.emod_lt_of_pos a (by omega:0<m)
  refine⟨by omega,?_⟩
  refine Qd (fun σ H'=>H'=H/\∃(g l x y:Int) (o:Option V),σ=[some (.int a),some (.int m),some (.int g),some (.int l),some (.int x),some (.int y),o]/\0<g/\g<=m/\0<=l/\l<=m/\Int.gcd g l=Int.gcd a m/\m∣x*a-g/\m∣y*a-l/\Akg m g l x y)
    (fun σ _=>match σ with | [_,_,_,some (.int l),_,_,_]=>l.toNat | _=>0) ⟨rfl,m,a%m,0,1,_,rfl,by omega,Int.le_refl _,m0,by omega,?_,⟨-1,by omega⟩,⟨a/m,?_⟩,⟨0,1,.inr ⟨rfl,rfl⟩,by simp⟩⟩ ?_
  . have e:a%m=a-a/m*m:=by
      have:=Int.mul_ediv_add_emod a m
      rw [Int.mul_comm]at this
      omega
    rw [e]
    exact Adz a m
  . have:=Int.mul_ediv_add_emod a m
    omega
  rintro σ H' ⟨rfl,g,l,x,y,o,rfl,g0,gm,l0,lm,hg,hx,hy,hS⟩
  contradiction
  by_cases hl:l=0
  . rw [if_pos hl]
    subst hl
    have eg:((Int.gcd a m:Nat):Int)=g:=by
      rw [<-hg,Int.gcd_zero_right]
      omega
    try contradiction
    by_cases h1:g=1
    . rw [if_pos h1]
      subst h1
      try contradiction
      refine⟨by omega,kQ (by omega) _ (Int.emod_nonneg _ (by omega)) (Int.emod_lt_of_pos _ (by omega)) ?_⟩
      obtain⟨c,hc⟩:=hx
      have e:x%m*a=1+m*(c-x/m*a):=by
        have:=Int.mul_ediv_add_emod x m
        have e2:x%m=x-m*(x/m):=by omega
        rw [e2]
        grind
      rw [e,Int.add_mul_emod_self_left]
      exact Int.emod_eq_of_lt (by decide) hm
    . rw [if_neg h1]
      try contradiction
      exact kE (by omega)
  . rw [if_neg hl]
    refine Agf ?_
    try contradiction
    have lp:0<l:=by omega
    have q0:0<=g/l:=Int.ediv_nonneg (by omega) l0
    have q1:g/l<=g:=Int.ediv_le_self _ (by omega)
    have zl:Sz k l:=hk.of_abs (by omega)
    have zq:Sz k (g/l):=hk.of_abs (by omega)
    have zy:Sz k y:=hk.of_abs (hS.here g0 l0)
    have e1:g-g/l*l=g%l:=by
      have:=Int.mul_ediv_add_emod g l
      rw [Int.mul_comm]at this
      omega
    have r0:=Int.emod_nonneg g hl
    have r1:=Int.emod_lt_of_pos g lp
    refine⟨⟨lp,zl.log2 hl (by omega)⟩,zq.mulOk zl (by omega),zq.mulOk zy (by omega),⟨_,_,_,_,_,rfl,lp,lm,by omega,by omega,(Adz g l).trans hg,hy,?_,hS.next (by omega) lp⟩,by omega⟩
    obtain⟨c,hc⟩:=hx
    obtain⟨d,hd⟩:=hy
    refine⟨c-g/l*d,?_⟩
    have ex:x*a=m*c+g:=by omega
    have ey:y*a=m*d+l:=by omega
    rw [Int.sub_mul,Int.mul_assoc,ex,ey]
    grind
def MpR (K:PySem.W.Frag) (m:Int) (p q:List Int) (k:Nat) (Q:VK) (H:Hp):Prop:=∀(z:Addr) (H':Hp) (c d:V) (u r:List Int),Same H H'->SqT K H' z [c,d]->Po K H' c u p.length k->Po K H' d r p.length k->
  (∀i,m∣co p i-(mu u (co q) i+co r i))->r.length<q.length->(∀i,0<=co u i/\co u i<m)->(∀i,0<=co r i/\co r i<m)->Q (.ref z) H'
def R3 (K:PySem.W.Frag):Sp:=fun vs H Q E=>∃(x y:V) (m:Int) (p q:List Int) (l l' n n' k:Nat),vs=[x,y,.int m]/\Po K H x p l n/\Po K H y q l' n'/\l<=100/\l'<=100/\n'<=100000/\1<m/\Sz k m/\k<=8000/\(q=[]\/Int.gcd (co q (q.length-1)) m≠1->∀H',Same H H'->E (.ref (cA K "NoPart")) none H')/\(q≠ []->Int.gcd (co q (q.length-1)) m=1->MpR K m p q k Q H)
def T3 (K:PySem.W.Frag):Sp:=fun vs H Q _=>∃(x y:V) (m:Int) (p q:List Int) (l l' n n' k:Nat),vs=[x,y,.int m]/\Po K H x p l n/\Po K H y q l' n'/\l<=100/\l'<=100/\n'<=100000/\1<m/\Sz k m/\k<=8000/\q≠ []/\Int.gcd (co q (q.length-1)) m=1/\MpR K m p q k Q H
theorem V7 (K:PySem.W.Frag):∀vs H Q E,T3 K vs H Q E->R3 K vs H Q E0:=by
  rintro vs H Q E ⟨x,y,m,p,q,l,l',n,n',k,rfl,hx,hy,h1,h2,h4,hm,hk,h8,hq,hg,c⟩
  exact⟨x,y,m,p,q,l,l',n,n',k,rfl,hx,hy,h1,h2,h4,hm,hk,h8,fun z=>by
    rcases z with z | z
    . exact(hq z).elim
    . exact(z hg).elim,fun _ _=>c⟩
theorem Zc {f:Addr}{fd:FuncData} (F:Df K mg "m_parted" Rg ["one","other","m"] f fd) (z_list:mg "list"=none) (z_range:mg "range"=none) (z_max:mg "max"=none) (z_len:mg "len"=none) (z_enumerate:mg "enumerate"=none) (xk_NoPart:Wz K (cA K "NoPart")) (xm_NoPart:mg "NoPart"=some (.ref (cA K "NoPart"))) (ce_inverse_by:Oz P w K mg base 33 "inverse_by" ["number","m"] (Ku K)) (c_by_number:Cal P w K mg base 34 "by_number" ["one","m"] (Jk K)) (c_poly:Cal P w K mg base 33 "poly" ["weights"] (Mu K)) (c_degree:Cal P w K mg base 33 "degree" ["one"] (Gw K)):Oz P w K mg base 35 "m_parted" ["one","other","m"] (R3 K):=by
  refine F.calE (F.fn.okE Gn (fun vs H Q E h=> ?_) (fun cdv A outer s H vs Q E hr h=> ?_))
  . obtain⟨x,y,m,p,q,_,_,_,_,_,rfl,_⟩:=h
    rfl
  obtain⟨x,y,m,p,q,l,l',n,n',k,rfl,hx,hy,h15,h15',hn',hm,hk,h8,k0,kq⟩:=h
  have my:=hy.mem
  obtain⟨⟨a,rfl,ha⟩,tp,lp,zp⟩:=id hx
  obtain⟨⟨b,rfl,hb⟩,tq,lq,zq⟩:=id hy
  refine S.Bb ⟨_,(S.Ac (S.Du (S.Al (J2 hr.units) (S.pv 1) (S.Bq S.Ab) (Ar _)) (S.Ae (S.Hi xk_NoPart xm_NoPart (S.Aa S.K8 S.Ab))) S.Ay)
      (S.Ac (S.Ah (i:=3) Gn.nd rfl (Or.inl rfl) (S.Gj ce_inverse_by (hr.mono (by decide)) (S.Aa (S.Bl Bc (S.pv 1) (S.Hv Gf S.Ad) (fun _ _=>rfl)) (S.Aa (S.pv 2) S.Ab))))
      (S.Ac (S.Ah (i:=4) Gn.nd rfl (Or.inl rfl) (S.Hg Jj rfl z_list PyProof.Rows.boot_list (S.Aa (S.Aj c_by_number (hr.mono (by decide)) (S.Aa (S.pv 0) (S.Aa (S.pv 2) S.Ab))) S.Ab)))
      (S.Ac (S.Ah (i:=5) Gn.nd rfl (Or.inl rfl) (S.Ai Aah (S.Ka (S.Aa S.Ad S.Ab)) (S.Dn (Xj rfl) rfl z_max PyProof.Rows.boot_max (S.Aa (S.Ai Cj (S.Ai Gg (S.Dn Am rfl z_len PySem.boot_len (S.Aa (S.pv 4) S.Ab)) (S.Dn Am rfl z_len PySem.boot_len (S.Aa (S.pv 1) S.Ab))) S.Ad) (S.Aa S.Ad S.Ab)))))
      (S.Ac (S.Aac (S.Gq PassesOwn.never rfl (S.Ot rfl z_range (S.Aa (S.Ai Gg (S.Dn Am rfl z_len PySem.boot_len (S.Aa (S.pv 5) S.Ab)) S.Ad) (S.Aa (S.Hv Gf S.Ad) (S.Aa (S.Hv Gf S.Ad) S.Ab)))) (S.Aw (i:=6) Gn.nd rfl (Or.inl rfl)) (S.Ac (S.Ah (i:=7) Gn.nd rfl (Or.inl rfl) (S.Ai Dz (S.Ai Cg (S.Bl G3 (S.pv 4) (S.Ai Cj (S.pv 6) (S.Aj c_degree (hr.mono (by decide)) (S.Aa (S.pv 1) S.Ab))) (fun _ _=>rfl)) (S.pv 3)) (S.pv 2)))
      (S.Ac (S.Jq (S.pv 7) (S.Ms (S.pv 5) (S.pv 6) set_list))
      (S.Ae (S.Du (S.Al Q6 (S.pv 7) S.Ad (Ar _)) (S.Ae (S.Gq PassesOwn.never rfl (S.U3 rfl z_enumerate (S.Aa (S.pv 1) S.Ab)) (S.Jd rfl (S.Bd (S.Aw (i:=8) Gn.nd rfl (Or.inl rfl)) (S.Bd (S.Aw (i:=9) Gn.nd rfl (Or.inl rfl)) S.Gv))) (S.Ae (S.Jq (S.Ai Dz (S.Ai Gg (S.Bl G3 (S.pv 4) (S.Ai Cj (S.pv 6) (S.pv 8)) (fun _ _=>rfl)) (S.Ai Cg (S.pv 7) (S.pv 9))) (S.pv 2)) (S.Ms (S.pv 4) (S.Ai Cj (S.pv 6) (S.pv 8)) set_list))))) S.Ay))))))
      (S.Ae (S.Ao (S.Bq (S.Aa (S.Aj c_poly (hr.mono (by decide)) (S.Aa (S.pv 5) S.Ab)) (S.Aa (S.Aj c_poly (hr.mono (by decide)) (S.Aa (S.pv 4) S.Ab)) S.Ab)))))))))),?_⟩
  refine Ba (fun σ' H'=>Same H H'/\q≠ []/\σ'=[some (.ref a),some (.ref b),some (.int m),none,none,none,none,none,none,none]) (fun N hN=> ?_) ?_
  . contradiction
    refine⟨by decide,fun e0 he0=> ?_⟩
    have se:=Same.upd he0 (.tup [])
    refine Dh (ms:=[]) (se.tup hb) (.of Af) ?_
    try contradiction
    split
    . rename_i h
      exact k0 (.inl h) _ se
    . rename_i h
      exact hN _ _ ⟨se,h,rfl⟩
  rintro σ H1 ⟨s1,hq,rfl⟩
  have hql:0<q.length:=List.length_pos_iff.mpr hq
  have sz5:1000<=sizeLine:=by decide
  refine Ba (fun σ' H'=>H'=H1/\Int.gcd (co q (q.length-1)) m=1/\∃iv:Int,σ'=[some (.ref a),some (.ref b),some (.int m),some (.int iv),none,none,none,none,none,none]/\0<=iv/\iv<m/\iv*co q (q.length-1)%m=1) (fun N hN=> ?_) ?_
  . contradiction
    refine Dj (s1.tup hb) (Lf hq) ?_
    try contradiction
    exact⟨_,m,k,rfl,hm,hk,h8,fun hg=>k0 (.inr hg) _ s1,fun hg r r0 r1 hr=>hN _ _ ⟨rfl,hg,r,rfl,r0,r1,hr⟩⟩
  rintro σ H2 ⟨rfl,hg,iv,rfl,iv0,iv1,hiv⟩
  replace kq:=kq hq hg
  refine Ba (fun σ' H'=>Same H H'/\∃cr,σ'=[some (.ref a),some (.ref b),some (.int m),some (.int iv),some (.ref cr),none,none,none,none,none]/\H cr=none/\H' cr=some (.lst ((md p m).map V.int))) (fun N hN=> ?_) ?_
  . contradiction
    refine Uq hx s1 (by omega) (by omega) hk fun z H3 s3 i3=> ?_
    obtain⟨⟨c,rfl,hc⟩,_⟩:=i3
    try contradiction
    exact⟨c,_,rfl,.inr hc,fun cr hcr=>hN _ _ ⟨(s1.trans s3).trans (Same.upd hcr _),cr,rfl,Same.free (s1.trans s3) hcr,Af⟩⟩
  rintro σ H3 ⟨s3,cr,rfl,nr,hcr⟩
  obtain⟨L,hL⟩:∃L,L=(md p m).length+1-q.length:=⟨_,rfl⟩
  have lmd:=Ahz p m
  have eL:(if(0:Int)>((md p m).length:Int)-(q.length:Int)+1 then(0:Int)else((md p m).length:Int)-(q.length:Int)+1)=(L:Int):=by
    subst hL
    split<;>omega
  refine Ba (fun σ' H'=>Same H H'/\∃cq,σ'=[some (.ref a),some (.ref b),some (.int m),some (.int iv),some (.ref cr),some (.ref cq),none,none,none,none]/\H cq=none/\cq≠cr/\H' cq=some (.lst ((List.replicate L (0:Int)).map V.int))/\H' cr=some (.lst ((md p m).map V.int))) (fun N hN=> ?_) ?_
  . contradiction
    intro p3 hp3
    have t3:=Same.upd hp3 (.lst [V.int 0])
    have u3:=s3.trans t3
    refine⟨cr,_,rfl,.inl (.of (t3 _ _ hcr)),b,_,rfl,.inr (u3.tup hb),?_⟩
    simp only [Ib,Fv,Il,Ii,Fz,Hy,Bw,Hu,Em,Ef,z_c,Pj,Qq,Qx,Iz,Qu,Iw,Hw,Im,Hz,Ea,Qp,Hr,Ij,Ip,Fg,Fq,Ie,Hs,Qs,Fj,Ht,Er,Qw,Fi,Ia,Ga,Qt,Hq,Iv,Cz,Ew,Ez,Fy,Cr,Ed,Ir,Ih,Hl,G7,Qv,Bo,Et,Ig,Qo,Iu,Fe,Ja,Jc,Ei,Io,Eo,Eh,Fl,Cm,Jb,Cq,En,Ek,Ft,Cy,Es,Cu,Hx,Ey,Ho,Ej,Fx,Ec,Cv,Bp,Ck,Fw,Ik,El,Fo,Cw,Eu,Qn,cpσ,List.getElem?_cons_zero,List.getElem?_cons_succ,Option.join_some,List.set_cons_zero,List.set_cons_succ,List.append_nil,decide_eq_true_eq,Bool.not_eq_true',decide_eq_false_iff_not,Bool.not_not,ite_not,Bool.false_eq_true,Bool.true_eq_false,if_false,if_true,if_pos,List.length_cons,List.length_nil,Nat.zero_add,Nat.reduceAdd,Fb,Ep,true_and,and_true,L2.start,List.map_cons,List.map_nil,Bool.not_true,Bool.not_false,Nat.reduceSub,List.replicate_succ,List.replicate_zero,List.cons_append,List.nil_append,List.length_map,eL]
    refine⟨p3,_,[V.int 0],rfl,rfl,Af,by omega,by omega,by simp only [Int.toNat_natCast,List.length_cons,List.length_nil];omega,fun cq hcq=> ?_⟩
    rw [Int.toNat_natCast,Mr]
    have t4:=t3.trans (Same.upd hcq (.lst ((List.replicate L (0:Int)).map V.int)))
    exact hN _ _ ⟨s3.trans t4,cq,rfl,Same.free u3 hcq,Ne.symm (Bt (t3 _ _ hcr) hcq),Af,t4 _ _ hcr⟩
  clear hcr s3
  rintro σ H4 ⟨s4,cq,rfl,nq,ne,hcq,hcr⟩
  have hm0:0<m:=by omega
  refine Ba (fun σ' H'=>Same H H'/\∃(qs rs:List Int) (o6 o7 o8 o9:Option V),σ'=[some (.ref a),some (.ref b),some (.int m),some (.int iv),some (.ref cr),some (.ref cq),o6,o7,o8,o9]/\H' cq=some (.lst (qs.map V.int))/\H' cr=some (.lst (rs.map V.int))/\qs.length=L/\rs.length=(md p m).length/\MV m p q qs rs 0) (fun N hN=> ?_) ?_
  . rw [G7]
    contradiction
    refine⟨cq,_,rfl,.inl (.of hcq),?_⟩
    try contradiction
    rw [List.length_map,List.length_replicate]
    refine⟨by omega,?_⟩
    refine Al0 L (fun i=> .int ((L:Int)-1-(i:Nat))) (fun i σ' H'=>Same H H'/\∃(qs rs:List Int) (o6 o7 o8 o9:Option V),σ'=[some (.ref a),some (.ref b),some (.int m),some (.int iv),some (.ref cr),some (.ref cq),o6,o7,o8,o9]/\H' cq=some (.lst (qs.map V.int))/\H' cr=some (.lst (rs.map V.int))/\qs.length=L/\rs.length=(md p m).length/\MV m p q qs rs (L-i)) ?_ ?_ ?_ ?_
    . refine⟨s4,_,_,_,_,_,_,rfl,hcq,hcr,List.length_replicate,rfl,?_⟩
      rw [hL,Nat.sub_zero]
      refine MV.start hm0 hq (fun t=> ?_) fun t=> ?_
      . rw [Abw]
        exact⟨co p t/m,by have:=Int.mul_ediv_add_emod (co p t) m;omega⟩
      . rw [Abw]
        exact⟨Int.emod_nonneg _ (by omega),Int.emod_lt_of_pos _ hm0⟩
    . intro i σ' H' _
      have e:((L:Int)-1- -1).toNat=L:=by omega
      rw [e]
      exact Ur
    . clear hcq hcr s4
      rintro i σ' H5 hi ⟨s5,qs,rs,o6,o7,o8,o9,rfl,hcq,hcr,hlq,hlr,dv⟩
      obtain⟨j,hj⟩:∃j:Nat,j+1=L-i:=⟨L-i-1,by omega⟩
      have pj:(L:Int)-1-(i:Nat)=(j:Int):=by omega
      rw [<-hj]at dv
      rw [Bw,pj]
      simp only [List.set_cons_succ,List.set_cons_zero]
      obtain⟨d,hd⟩:∃d,d+1=q.length:=⟨q.length-1,by omega⟩
      have hd':q.length-1=d:=by omega
      have hjd:j+d<rs.length:=by omega
      have hjq:j<qs.length:=by omega
      have ix:(j:Int)+((q.length:Int)-1)=((j+d:Nat):Int):=by omega
      have er:rs[j+d]=co rs (j+d):=(Eb hjd).symm
      rw [hd']at hiv
      have zr:Sz k (co rs (j+d)):=hk.of_abs (by have:=dv.rr (j+d);omega)
      have ziv:Sz k iv:=hk.of_abs (by omega)
      obtain⟨fc,hfc⟩:∃fc,fc=co rs (j+d)*iv%m:=⟨_,rfl⟩
      have f0:0<=fc:=by rw [hfc];exact Int.emod_nonneg _ (by omega)
      have f1:fc<m:=by rw [hfc];exact Int.emod_lt_of_pos _ hm0
      have zf:Sz k fc:=hk.of_abs (by omega)
      have ef:m∣co rs (j+d)-fc*co q d:=by rw [hfc];exact Agx hiv hm
      refine Ba (fun σ' H'=>H'=H5/\σ'=[some (.ref a),some (.ref b),some (.int m),some (.int iv),some (.ref cr),some (.ref cq),some (.int j),some (.int fc),o8,o9]) (fun N hN=> ?_) ?_
      . contradiction
        refine Dd hy s5 ?_
        simp only [Ib,Fv,Il,Ii,Fz,Hy,Bw,Hu,Em,Ef,z_c,Pj,Qq,Qx,Iz,Qu,Iw,Hw,Im,Hz,Ea,Qp,Hr,Ij,Ip,Fg,Fq,Ie,Hs,Qs,Fj,Ht,Er,Qw,Fi,Ia,Ga,Qt,Hq,Iv,Cz,Ew,Ez,Fy,Cr,Ed,Ir,Ih,Hl,G7,Qv,Bo,Et,Ig,Qo,Iu,Fe,Ja,Jc,Ei,Io,Eo,Eh,Fl,Cm,Jb,Cq,En,Ek,Ft,Cy,Es,Cu,Hx,Ey,Ho,Ej,Fx,Ec,Cv,Bp,Ck,Fw,Ik,El,Fo,Cw,Eu,Qn,cpσ,List.getElem?_cons_zero,List.getElem?_cons_succ,Option.join_some,List.set_cons_zero,List.set_cons_succ,List.append_nil,decide_eq_true_eq,Bool.not_eq_true',decide_eq_false_iff_not,Bool.not_not,ite_not,Bool.false_eq_true,Bool.true_eq_false,if_false,if_true,if_pos,List.length_cons,List.length_nil,Nat.zero_add,Nat.reduceAdd,Fb,Ep,true_and,and_true,L2.start,List.map_cons,List.map_nil,Bool.not_true,Bool.not_false,Nat.reduceSub,List.replicate_succ,List.replicate_zero,List.cons_append,List.nil_append,ix]
        refine P0 (.of hcr) (G6 hjd) ?_
        try contradiction
        rw [er,<-hfc]
        exact⟨zr.mulOk ziv (by omega),hm0,hN _ _ ⟨rfl,rfl⟩⟩
      rintro σ' H6 ⟨rfl,rfl⟩
      refine Ba (fun σ' H'=>Same H H'/\σ'=[some (.ref a),some (.ref b),some (.int m),some (.int iv),some (.ref cr),some (.ref cq),some (.int j),some (.int fc),o8,o9]/\H' cq=some (.lst ((qs.set j fc).map V.int))/\H' cr=some (.lst (rs.map V.int))) (fun N hN=> ?_) ?_
      . contradiction
        refine Yi hcq (by rw [List.length_map];exact hjq) ?_
        rw [Kq]
        exact hN _ _ ⟨s5.put nq,rfl,Af,by rw [Bv (Ne.symm ne)];exact hcr⟩
      clear hcq hcr s5
      rintro σ' H8 ⟨s5,rfl,hcq,hcr⟩
      have fin:∀(rs':List Int) (o8 o9:Option V) (H9:Hp),Same H H9->H9 cq=some (.lst ((qs.set j fc).map V.int))->H9 cr=some (.lst (rs'.map V.int))->rs'.length=rs.length->(∀k,co rs' k=(co rs k-(if j<=k then fc*co q (k-j)else 0))%m)->
          Same H H9/\∃(qs' rs'':List Int) (u6 u7 u8 u9:Option V),[some (V.ref a),some (.ref b),some (.int m),some (.int iv),some (.ref cr),some (.ref cq),some (.int j),some (.int fc),o8,o9]=[some (.ref a),some (.ref b),some (.int m),some (.int iv),some (.ref cr),some (.ref cq),u6,u7,u8,u9]/\H9 cq=some (.lst (qs'.map V.int))/\H9 cr=some (.lst (rs''.map V.int))/\qs'.length=L/\rs''.length=(md p m).length/\MV m p q qs' rs'' (L-(i+1)):=by
        intro rs' o8 o9 H9 s9 h1 h2 hl2 hco
        refine⟨s9,_,rs',_,_,_,_,rfl,h1,h2,by rw [List.length_set];exact hlq,by omega,?_⟩
        rw [show L-(i+1)=j by omega]
        exact dv.step hm0 hq hjq f0 f1 (by rw [hd'];exact ef) hco
      contradiction
      split
      . rename_i h0
        refine fin rs _ _ _ s5 hcq hcr rfl fun t=> ?_
        rw [h0]
        have:=dv.rr t
        rw [show(if j<=t then 0*co q (t-j)else 0)=0 by split<;>simp,Int.sub_zero,Int.emod_eq_of_lt this.1 this.2]
      . refine⟨⟨_,s5.tup hb⟩,Abb (es:=q) (inj:=V.int) (fun pre σ' H'=>Same H H'/\∃(u8 u9:Option V) (ms:List Int),σ'=[some (.ref a),some (.ref b),some (.int m),some (.int iv),some (.ref cr),some (.ref cq),some (.int j),some (.int fc),u8,u9]/\H' cq=some (.lst ((qs.set j fc).map V.int))/\H' cr=some (.lst (ms.map V.int))/\ms.length=rs.length/\∀t,co ms t=(co rs t-(if j<=t then fc*co pre (t-j)else 0))%m) ⟨s5,_,_,rs,rfl,hcq,hcr,rfl,fun t=> ?_⟩ ?_ ?_ ?_⟩
        . have:=dv.rr t
          rw [Az,show(if j<=t then fc*0 else 0)=0 by split<;>simp,Int.sub_zero,Int.emod_eq_of_lt this.1 this.2]
        . rintro pre σ' H' ⟨s9,_⟩
          exact s9.tup hb
        . rintro pre e post σ' H9 p1 he ⟨s9,u8,u9,ms,rfl,h1,h2,hlm,hco⟩ hp1
          refine J1 (.of Af) ?_
          have hlen:=congrArg List.length he
          rw [List.length_append,List.length_cons]at hlen
          have hjj:j+pre.length<ms.length:=by omega
          have s10:=Same.upd hp1 (.tup [V.int (pre.length:Nat),V.int e])
          have h1':=s10 _ _ h1
          have h2':=s10 _ _ h2
          have ze:Sz n' e:=my e (by rw [he];simp)
          simp only [Ib,Fv,Il,Ii,Fz,Hy,Bw,Hu,Em,Ef,z_c,Pj,Qq,Qx,Iz,Qu,Iw,Hw,Im,Hz,Ea,Qp,Hr,Ij,Ip,Fg,Fq,Ie,Hs,Qs,Fj,Ht,Er,Qw,Fi,Ia,Ga,Qt,Hq,Iv,Cz,Ew,Ez,Fy,Cr,Ed,Ir,Ih,Hl,G7,Qv,Bo,Et,Ig,Qo,Iu,Fe,Ja,Jc,Ei,Io,Eo,Eh,Fl,Cm,Jb,Cq,En,Ek,Ft,Cy,Es,Cu,Hx,Ey,Ho,Ej,Fx,Ec,Cv,Bp,Ck,Fw,Ik,El,Fo,Cw,Eu,Qn,cpσ,List.getElem?_cons_zero,List.getElem?_cons_succ,Option.join_some,List.set_cons_zero,List.set_cons_succ,List.append_nil,decide_eq_true_eq,Bool.not_eq_true',decide_eq_false_iff_not,Bool.not_not,ite_not,Bool.false_eq_true,Bool.true_eq_false,if_false,if_true,if_pos,List.length_cons,List.length_nil,Nat.zero_add,Nat.reduceAdd,Fb,Ep,true_and,and_true,L2.start,List.map_cons,List.map_nil,Bool.not_true,Bool.not_false,Nat.reduceSub,List.replicate_succ,List.replicate_zero,List.cons_append,List.nil_append,<-Int.natCast_add]
          refine P0 (.of h2') (G6 hjj) ?_
          try contradiction
          refine⟨zf.mulOk ze (by omega),hm0,?_⟩
          refine Yi h2' (by rw [List.length_map];exact hjj) ?_
          try contradiction
          rw [Kq]
          refine⟨(s9.trans s10).put nr,_,_,ms.set (j+pre.length) ((ms[j+pre.length]-fc*e)%m),rfl,by rw [Bv ne];exact h1',Af,by rw [List.length_set];exact hlm,fun t=> ?_⟩
          rw [Ru _ _ _ hjj,J6,hco t]
          by_cases ht:t=j+pre.length
          . subst ht
            rw [if_pos rfl,if_pos (by omega),if_pos (by omega),<-Eb hjj,hco,if_pos (by omega),show j+pre.length-j=pre.length by omega,Bm (p:=pre) (Nat.le_refl _),Int.mul_zero,Int.sub_zero,Int.emod_sub_emod]
          . rw [if_neg ht]
            by_cases hjt:j<=t
            . rw [if_pos hjt,if_pos hjt,if_neg (by omega)]
            . rw [if_neg hjt,if_neg hjt]
        . rintro σ' H9 ⟨s9,u8,u9,ms,rfl,h1,h2,hlm,hco⟩
          exact fin ms u8 u9 H9 s9 h1 h2 hlm hco
    . rintro σ' H5 ⟨s5,qs,rs,o6,o7,o8,o9,rfl,hcq,hcr,hlq,hlr,dv⟩
      rw [Nat.sub_self]at dv
      exact hN _ _ ⟨s5,qs,rs,o6,o7,o8,o9,rfl,hcq,hcr,hlq,hlr,dv⟩
  rintro σ H5 ⟨s5,qs,rs,o6,o7,o8,o9,rfl,hcq,hcr,hlq,hlr,dv⟩
  contradiction
  refine⟨cq,qs,rfl,.inl (.of hcq),by omega,fun z1 H6 s6 h6=> ?_⟩
  try contradiction
  refine⟨cr,rs,rfl,.inl (.of (s6 _ _ hcr)),by omega,fun z2 H7 s7 h7=> ?_⟩
  try contradiction
  intro z hz
  have s8:=Same.upd hz (.tup [V.ref z1,V.ref z2])
  have csz:∀(x:List Int),(∀t,0<=co x t/\co x t<m)->∀t,Sz k (co (trim x) t):=fun x hx t=>by
    rw [Ak]
    exact hk.of_abs (by have:=hx t;omega)
  have t1:=Kf qs
  have t2:=Kf rs
  refine kq z _ (.ref z1) (.ref z2) (trim qs) (trim rs) (((s5.trans s6).trans s7).trans s8) (.of Af) ⟨⟨z1,rfl,s8.tup (s7.tup h6)⟩,Av _,by omega,csz qs dv.rq⟩ ⟨⟨z2,rfl,s8.tup h7⟩,Av _,by omega,csz rs dv.rr⟩ (fun t=> ?_) ?_ (fun t=>by rw [Ak];exact dv.rq t) (fun t=>by rw [Ak];exact dv.rr t)
  . rw [Ax (co q) (trim qs) qs fun i=>Ak qs i,Ak]
    exact dv.eq t
  . have:(trim rs).length<=q.length-1:=by
      have h:=(Av rs).len (q:=rs.take (q.length-1)) fun t=>by
        rw [Ak,Ks]
        split
        . rfl
        . exact dv.top t (by omega)
      rw [List.length_take]at h
      omega
    omega
def W5 (K:PySem.W.Frag):Sp:=fun vs H Q _=>∃(x y:V) (m:Int) (p q:List Int) (l l' n n' k:Nat),vs=[x,y,.int m]/\Po K H x p l n/\Po K H y q l' n'/\l<=100/\l'<=100/\n'<=100000/\1<m/\Sz k m/\k<=8000/\q≠ []/\Int.gcd (co q (q.length-1)) m=1/\∀(d:V) (H':Hp) (u r:List Int),Same H H'->Po K H' d r p.length k->(∀i,m∣co p i-(mu u (co q) i+co r i))->r.length<q.length->(∀i,0<=co r i/\co r i<m)->Q d H'
theorem Ac7 {f:Addr}{fd:FuncData} (F:Df K mg "m_rest" Vs ["one","other","m"] f fd)   (c_m_parted:Cal P w K mg base 35 "m_parted" ["one","other","m"] (T3 K)):Cal P w K mg base 36 "m_rest" ["one","other","m"] (W5 K):=by
  refine F.cal (F.fn.ok Aep (fun vs H Q E h=> ?_) (fun cdv A outer s H vs Q E hr h=> ?_))
  . obtain⟨x,y,m,p,q,_,_,_,_,_,rfl,_⟩:=h
    rfl
  obtain⟨x,y,m,p,q,l,l',n,n',k,rfl,hx,hy,h1,h2,h4,hm,hk,h8,hq,hg,c⟩:=h
  refine S.Bb ⟨_,(S.Ae (S.Ao (S.Bl Bc (S.Aj c_m_parted (hr.mono (by decide)) (S.Aa (S.pv 0) (S.Aa (S.pv 1) (S.Aa (S.pv 2) S.Ab)))) S.Ad (fun _ _=>rfl)))),?_⟩
  contradiction
  refine⟨x,y,m,p,q,l,l',n,n',k,rfl,hx,hy,h1,h2,h4,hm,hk,h8,hq,hg,fun z H' a b u r s1 hz iu ir he hl ru rr=> ?_⟩
  exact Dj hz (at1 _ _ _) (c b H' u r s1 ir he hl rr)
theorem Ace {t x:Int} (ht:Pr t) (h0:0<=x) (h1:x<t) (hx:x≠0):Int.gcd x t=1:=ht.2 x fun z=>by
  have:=Int.le_of_dvd (by omega) z
  omega
theorem Afe (t:Int) (p:List Int) (d:List Int):Dm t d (md p t)↔Dm t d p:=by
  have e:∀i,t∣co (md p t) i-co p i:=fun i=>by
    rw [Abw]
    exact⟨-(co p i/t),by have:=Int.mul_ediv_add_emod (co p i) t;rw [Int.mul_neg];omega⟩
  exact⟨fun h=>h.congr fun i=>Wo (e i),fun h=>h.congr e⟩
theorem Aeg {t:Int} (ht:0<t) (p:List Int) (i:Nat):0<=co (md p t) i/\co (md p t) i<t:=by
  rw [Abw]
  exact⟨Int.emod_nonneg _ (by omega),Int.emod_lt_of_pos _ ht⟩
structure Sgl (t:Int) (p g:List Int):Prop where
  tr:Tr g
  rng:∀i,0<=co g i/\co g i<t
  dm:∀d,Dm t d g↔Dm t d p
  len:g.length=(md p t).length
  one:g≠ []->co g (g.length-1)=1
theorem Aj3 {t:Int} (ht:0<t) {p:List Int} (h:md p t=[]):Sgl t p []:=⟨.inl rfl,fun i=>by rw [Az];omega,fun d=>by rw [<-Afe t p d,h],by rw [h],fun z=>(z rfl).elim⟩
theorem Aky {t k:Int} (ht:Pr t) {p:List Int} (h:md p t≠ []) (hk:k*co (md p t) ((md p t).length-1)%t=1):Sgl t p (md (ng (md p t) k) t):=by
  have t0:0<t:=by have:=ht.1;omega
  have c:∀i,co (md (ng (md p t) k) t) i=co (md p t) i*k%t:=fun i=>by rw [Abw,Ue]
  have hl:=List.length_pos_iff.mpr h
  have top:co (md (ng (md p t) k) t) ((md p t).length-1)=1:=by rw [c,Int.mul_comm];exact hk
  have len:(md (ng (md p t) k) t).length=(md p t).length:=by
    refine Nat.le_antisymm ?_ ?_
    . refine Nat.le_of_not_lt fun z=> ?_
      have ne:md (ng (md p t) k) t≠ []:=fun y=>by rw [y]at z;exact absurd z (by simp)
      have:=(Al5 (ng (md p t) k) t).lead ne
      rw [c,Bm (by omega)]at this
      simp at this
    . refine Nat.le_of_not_lt fun z=> ?_
      rw [Bm (by omega)]at top
      cases top
  refine⟨Al5 _ _,Aeg t0 _,fun d=> ?_,len,fun _=>by rw [len];exact top⟩
  constructor
  . intro hd
    rw [<-Afe t p d]
    refine hd.by (k:=co (md p t) ((md p t).length-1)) fun i=> ?_
    rw [c]
    have e1:=Int.mul_ediv_add_emod (co (md p t) i*k) t
    have e2:=Int.mul_ediv_add_emod (k*co (md p t) ((md p t).length-1)) t
    rw [hk]at e2
    generalize co (md p t) ((md p t).length-1)=l at*
    generalize co (md p t) i=x at*
    refine⟨l*(x*k/t)-x*(k*l/t),?_⟩
    have e3:x*k%t=x*k-t*(x*k/t):=by omega
    rw [e3]
    have e4:l*(x*k)=x*(t*(k*l/t)+1):=by rw [e2];grind
    have:l*(x*k-t*(x*k/t))=l*(x*k)-t*(l*(x*k/t)):=by grind
    rw [this,e4]
    grind
  . intro hd
    rw [<-Afe t p d]at hd
    refine hd.by (k:=k) fun i=> ?_
    rw [c,Int.mul_comm]
    exact⟨-(k*co (md p t) i/t),by have:=Int.mul_ediv_add_emod (k*co (md p t) i) t;rw [Int.mul_neg];omega⟩
def X4 (K:PySem.W.Frag):Sp:=fun vs H Q _=>∃(x:V) (t:Int) (p:List Int) (l n k:Nat),vs=[x,.int t]/\Po K H x p l n/\l<=100/\Pr t/\Sz k t/\k<=8000/\∀(d:V) (H':Hp) (g:List Int),Same H H'->Po K H' d g l k->Sgl t p g->Q d H'
theorem Adv {f:Addr}{fd:FuncData} (F:Df K mg "single" V1 ["one","t"] f fd)   (c_by_number:Cal P w K mg base 34 "by_number" ["one","m"] (Jk K)) (c_scaled:Cal P w K mg base 33 "scaled" ["one","factor"] (M4 K)) (c_inverse_by:Cal P w K mg base 33 "inverse_by" ["number","m"] (Px K)):Cal P w K mg base 35 "single" ["one","t"] (X4 K):=by
  refine F.cal (F.fn.ok Xy (fun vs H Q E h=> ?_) (fun cdv A outer s H vs Q E hr h=> ?_))
  . obtain⟨x,t,p,_,_,_,rfl,_⟩:=h
    rfl
  obtain⟨x,t,p,l,n,k,rfl,hx,hl,ht,hk,h8,c⟩:=h
  have t0:0<t:=by have:=ht.1;omega
  refine S.Bb ⟨_,(S.Ac (S.Ah (i:=2) Xy.nd rfl (Or.inl rfl) (S.Aj c_by_number (hr.mono (by decide)) (S.Aa (S.pv 0) (S.Aa (S.pv 1) S.Ab))))
      (S.Ac (S.Du (S.Al (J2 hr.units) (S.pv 2) (S.Bq S.Ab) (Ar _)) (S.Ae (S.Ao (S.Bq S.Ab))) S.Ay)
      (S.Ae (S.Ao (S.Aj c_by_number (hr.mono (by decide)) (S.Aa (S.Aj c_scaled (hr.mono (by decide)) (S.Aa (S.pv 2) (S.Aa (S.Aj c_inverse_by (hr.mono (by decide)) (S.Aa (S.Bl Bc (S.pv 2) (S.Hv Gf S.Ad) (fun _ _=>rfl)) (S.Aa (S.pv 1) S.Ab))) S.Ab))) (S.Aa (S.pv 1) S.Ab))))))),?_⟩
  contradiction
  refine Uq hx (Same.refl _) (by omega) t0 hk fun z H1 s1 i1=> ?_
  try contradiction
  refine⟨by decide,fun e0 he0=> ?_⟩
  have se:=Same.upd he0 (.tup [])
  obtain⟨⟨a,rfl,ha⟩,tm',lm,zm⟩:=id i1
  refine Dh (ms:=[]) (se.tup ha) (.of Af) ?_
  try contradiction
  split
  . rename_i h
    refine⟨by decide,fun e1 he1=> ?_⟩
    exact c _ _ [] ((s1.trans se).trans (Same.upd he1 _)) ⟨⟨e1,rfl,.of Af⟩,.inl rfl,Nat.zero_le _,fun i=>by rw [Az];exact hk.of_abs (by simp)⟩ (Aj3 t0 h)
  . rename_i h
    refine Dj (se.tup ha) (Lf h) ?_
    try contradiction
    have r:=Aeg t0 p ((md p t).length-1)
    refine⟨_,t,k,rfl,ht.1,hk,h8,Ace ht r.1 r.2 (tm'.lead h),fun iv iv0 iv1 hiv=> ?_⟩
    try contradiction
    refine⟨_,iv,_,l,k,k,rfl,i1.mono se,hk.of_abs (by omega),by omega,by omega,fun w H2 s2 i2=> ?_⟩
    try contradiction
    exact Uq i2 (Same.refl _) (by omega) t0 hk fun v H3 s3 i3=>c v H3 _ (((s1.trans se).trans s2).trans s3) i3 (Aky ht h hiv)
def Ti (K:PySem.W.Frag):Sp:=fun vs H Q _=>∃(x y:V) (t:Int) (p q:List Int) (l l' n n' k:Nat),vs=[x,y,.int t]/\Po K H x p l n/\Po K H y q l' n'/\l<=100/\l'<=100/\Pr t/\Sz k t/\k<=8000/\∀(d:V) (H':Hp) (f g:List Int),Same H H'->Po K H' d g (max l l') k->Sgl t f g->Aig t f [] p q->Q d H'
theorem Yv {f:Addr}{fd:FuncData} (F:Df K mg "m_shared" Ro ["one","other","t"] f fd)   (c_by_number:Cal P w K mg base 34 "by_number" ["one","m"] (Jk K)) (c_single:Cal P w K mg base 35 "single" ["one","t"] (X4 K)) (c_m_rest:Cal P w K mg base 36 "m_rest" ["one","other","m"] (W5 K)):Cal P w K mg base 37 "m_shared" ["one","other","t"] (Ti K):=by
  refine F.cal (F.fn.ok Lk (fun vs H Q E h=> ?_) (fun cdv A outer s H vs Q E hr h=> ?_))
  . obtain⟨x,y,t,p,q,_,_,_,_,_,rfl,_⟩:=h
    rfl
  obtain⟨x,y,t,p,q,l,l',n,n',k,rfl,hx,hy,hl,hl',ht,hk,h8,c⟩:=h
  have t0:0<t:=by have:=ht.1;omega
  refine S.Bb ⟨_,(S.Ac (S.Ah (i:=3) Lk.nd rfl (Or.inl rfl) (S.Aj c_by_number (hr.mono (by decide)) (S.Aa (S.pv 0) (S.Aa (S.pv 2) S.Ab))))
      (S.Ac (S.Ah (i:=4) Lk.nd rfl (Or.inl rfl) (S.Aj c_by_number (hr.mono (by decide)) (S.Aa (S.pv 1) (S.Aa (S.pv 2) S.Ab))))
      (S.Ac (S.Hh PassesOwn.never (S.Al (Vg hr.units) (S.pv 4) (S.Bq S.Ab) (Ar _)) (S.Ae (S.Qi (i:=3) (j:=4) rfl Lk.nd rfl rfl (by decide) rfl rfl (S.Aa (S.pv 4) (S.Aa (S.Aj c_m_rest (hr.mono (by decide)) (S.Aa (S.pv 3) (S.Aa (S.pv 4) (S.Aa (S.pv 2) S.Ab)))) S.Ab)) rfl)))
      (S.Ae (S.Ao (S.Aj c_single (hr.mono (by decide)) (S.Aa (S.pv 3) (S.Aa (S.pv 2) S.Ab)))))))),?_⟩
  contradiction
  refine Uq hx (Same.refl _) (by omega) t0 hk fun z1 H1 s1 i1=> ?_
  try contradiction
  refine Uq hy s1 (by omega) t0 hk fun z2 H2 s2 i2=> ?_
  try contradiction
  refine Yu (fun m σ H'=>Same H H'/\∃(v w:V) (f g:List Int),σ=[some x,some y,some (.int t),some v,some w]/\m=g.length/\Po K H' v f (max l l') k/\Po K H' w g (max l l') k/\(∀i,0<=co g i/\co g i<t)/\Aig t f g p q) _
    ⟨s1.trans s2,z1,z2,_,_,rfl,rfl,⟨(i1.mono s2).1,i1.2.1,Nat.le_trans i1.2.2.1 (Nat.le_max_left ..),i1.2.2.2⟩,⟨i2.1,i2.2.1,Nat.le_trans i2.2.2.1 (Nat.le_max_right ..),i2.2.2.2⟩,Aeg t0 q,fun d=>by rw [Afe,Afe]⟩ ?_
  rintro m σ H' ⟨s3,v,w,f,g,rfl,rfl,iv,iw,rg,sm⟩
  contradiction
  refine⟨by decide,fun e0 he0=> ?_⟩
  have se:=Same.upd he0 (.tup [])
  obtain⟨⟨b,rfl,hb⟩,tg,lg,zg⟩:=id iw
  refine Dh (ms:=[]) (se.tup hb) (.of Af) ?_
  try contradiction
  by_cases hg:g=[]
  . rw [if_pos hg]
    subst hg
    try contradiction
    exact⟨v,t,f,max l l',k,k,rfl,iv.mono se,by omega,ht,hk,h8,fun d H4 g s4 i4 hs=>c d H4 f g ((s3.trans se).trans s4) i4 hs sm⟩
  . rw [if_neg hg]
    refine Ajs ?_
    try contradiction
    have r:=rg (g.length-1)
    refine⟨v,.ref b,t,f,g,_,_,_,_,k,rfl,iv.mono se,iw.mono se,by omega,by omega,by omega,ht.1,hk,h8,hg,Ace ht r.1 r.2 (tg.lead hg),fun d H4 u r s4 i4 he hlr rr=> ?_⟩
    try contradiction
    refine⟨r.length,hlr,(s3.trans se).trans s4,.ref b,d,g,r,rfl,rfl,iw.mono (se.trans s4),⟨i4.1,i4.2.1,Nat.le_trans (Nat.le_of_lt hlr) lg,i4.2.2.2⟩,rr,fun e=>(Abu he e).trans (sm e)⟩
def Mq (K:PySem.W.Frag):Sp:=fun vs H Q _=>∃(x y:V) (p q:List Int) (l l' n n':Nat),vs=[x,y]/\Po K H x p l n/\Po K H y q l' n'/\l<=100/\l'<=100/\∀(b:Bool) (H':Hp),Same H H'->(b=true->Gc p q [1])->Q (.bl b) H'
theorem Uu {f:Addr}{fd:FuncData} (F:Df K mg "surely_apart" Ky ["one","other"] f fd)  (xc_PRIME:∃u,mg "PRIME"=some u/\RelV (V.int 2305843009213693951) u) (c_degree:Cal P w K mg base 33 "degree" ["one"] (Gw K)) (c_m_shared:Cal P w K mg base 37 "m_shared" ["one","other","t"] (Ti K)):Cal P w K mg base 38 "surely_apart" ["one","other"] (Mq K):=by
  refine F.cal (F.fn.ok S9 (fun vs H Q E h=> ?_) (fun cdv A outer s H vs Q E hr h=> ?_))
  . obtain⟨x,y,p,q,_,_,_,_,rfl,_⟩:=h
    rfl
  obtain⟨x,y,p,q,l,l',n,n',rfl,hx,hy,hl,hl',c⟩:=h
  obtain⟨⟨a,rfl,ha⟩,tp,lp,zp⟩:=id hx
  obtain⟨⟨b,rfl,hb⟩,tq,lq,zq⟩:=id hy
  refine S.Bb ⟨_,(S.Ac (S.Du (S.O2 (S.N7 (S.Al (J2 hr.units) (S.pv 0) (S.Bq S.Ab) (Ar _)) (S.N7 (S.Al (J2 hr.units) (S.pv 1) (S.Bq S.Ab) (Ar _)) (S.Nh (S.Al N6 (S.Ai Dz (S.Bl Bc (S.pv 0) (S.Hv Gf S.Ad) (fun _ _=>rfl)) (S.Qf (v:= .int 2305843009213693951) rfl xc_PRIME)) S.Ad (Ar _)))))) (S.Ae (S.Ao S.O5)) S.Ay)
      (S.Ae (S.Ao (S.Gz N6 (S.Aj c_degree (hr.mono (by decide)) (S.Aa (S.Aj c_m_shared (hr.mono (by decide)) (S.Aa (S.pv 0) (S.Aa (S.pv 1) (S.Aa (S.Qf (v:= .int 2305843009213693951) rfl xc_PRIME) S.Ab)))) S.Ab)) S.Ad (Ar _))))),?_⟩
  contradiction
  refine⟨by decide,fun e0 he0=> ?_⟩
  have s0:=Same.upd he0 (.tup [])
  refine Dh (ms:=[]) (s0.tup ha) (.of Af) ?_
  try contradiction
  by_cases hp:p=[]
  . rw [if_pos hp]
    exact c false _ s0 fun h=>nomatch h
  rw [if_neg hp]
  refine⟨by decide,fun e1 he1=> ?_⟩
  have s1:=s0.trans (Same.upd he1 (.tup []))
  refine Dh (ms:=[]) (s1.tup hb) (.of Af) ?_
  try contradiction
  by_cases hq:q=[]
  . rw [if_pos hq]
    exact c false _ s1 fun h=>nomatch h
  rw [if_neg hq]
  refine Dj (s1.tup ha) (Lf hp) ?_
  try contradiction
  refine⟨by decide,?_⟩
  by_cases hz:co p (p.length-1)%2305843009213693951=0
  . rw [if_pos hz]
    exact c false _ s1 fun h=>nomatch h
  rw [if_neg hz]
  refine⟨_,_,_,p,q,l,l',n,n',61,rfl,hx.mono s1,hy.mono s1,hl,hl',Ahq,by unfold Sz;decide,by decide,fun d H4 f g s4 i4 hs sm=> ?_⟩
  try contradiction
  refine Dd i4 (Same.refl _) ?_
  try contradiction
  refine c _ _ (s1.trans s4) fun hd=> ?_
  have hd':g.length=1:=by
    have:=of_decide_eq_true hd
    omega
  have g1:g=[1]:=by
    match g,hd' with
    | [k],_=>
      have:=hs.one (by simp)
      have e:k=1:=this
      rw [e]
  refine apart Ahq tp hp (fun z=>hz (Int.emod_eq_zero_of_dvd z)) fun e h1 h2=> ?_
  rw [<-g1,hs.dm]
  exact((sm e).mpr ⟨h1,h2⟩).1
def Sx (K:PySem.W.Frag):Sp:=fun vs H Q _=>∃(x:V) (m M:Nat) (mi:Int) (p:List Int) (l n:Nat),vs=[x,.int mi]/\(mi=(m:Nat)\/mi<0/\m=0)/\Po K H x p l n/\m<=M/\1<=M/\M*l+1<=500/\M*(n+l)+1<=20000000/\∀z H',Same H H'->Po K H' z (pw p m) (m*l+1) (m*(n+l)+1)->Q z H'
theorem Afv {f:Addr}{fd:FuncData} (F:Df K mg "power" Y9 ["one","many"] f fd)  (xm_p_times:mg "p_times"=some (.ref (cA K "p_times"))) (c_repeated:Cal P w K mg base 34 "repeated" ["start","one","many","product"] (Uh K)):Cal P w K mg base 35 "power" ["one","many"] (Sx K):=by
  refine F.cal (F.fn.ok Agj (fun vs H Q E h=> ?_) (fun cdv A outer s H vs Q E hr h=> ?_))
  . obtain⟨x,m,M,mi,p,_,_,rfl,_⟩:=h
    rfl
  obtain⟨x,m,M,mi,p,l,n,rfl,hmi,hx,hm,hM,hl,hn,k⟩:=h
  refine S.Bb ⟨_,(S.Ae (S.Ao (S.Aj c_repeated (hr.mono (by decide)) (S.Aa (S.Bq (S.Aa S.Ad S.Ab)) (S.Aa (S.pv 0) (S.Aa (S.pv 1) (S.Aa (S.O9 (v:= .ref (cA K "p_times")) rfl xm_p_times rfl) S.Ab))))))),?_⟩
  contradiction
  intro p0 hp0
  have s0:=Same.upd hp0 (.tup [V.int 1])
  refine⟨_,x,m,M,_,p,l,n,rfl,hmi,⟨p0,rfl,.of Af⟩,hx.mono s0,hm,hM,hl,hn,fun z H' s1 i1=>k _ _ (s0.trans s1) i1⟩
theorem Ahd (b:Int) (hb:b≠0):∀m:Nat,pw [b] m=[b^m]
  | 0=>by rw [pw,Int.pow_zero]
  | m+1=>by
    rw [pw,Ahd b hb m]
    refine(Gy _ _).ext (.inr ⟨by simp,by simp;exact Int.pow_ne_zero hb⟩) fun i=> ?_
    rw [Ci]
    cases i with
    | zero=>simp [mu,sh,Cd,Int.pow_succ];exact Int.mul_comm _ _
    | succ i=>cases i<;>simp [mu,sh,Ce,Az]
def G5 (K:PySem.W.Frag):Sp:=fun vs H Q _=>∃(b mi:Int) (m n:Nat),vs=[.int b,.int mi]/\(mi=(m:Nat)\/mi<0/\m=0)/\b≠0/\Sz n b/\n<=400000/\m<=40/\∀H',Same H H'->Q (.int (b^m)) H'
theorem U4 {f:Addr}{fd:FuncData} (F:Df K mg "whole_power" Lq ["number","many"] f fd)   (c_power:Cal P w K mg base 35 "power" ["one","many"] (Sx K)):Cal P w K mg base 36 "whole_power" ["number","many"] (G5 K):=by
  refine F.cal (F.fn.ok Uz (fun vs H Q E h=> ?_) (fun cdv A outer s H vs Q E hr h=> ?_))
  . obtain⟨b,mi,m,n,rfl,_⟩:=h
    rfl
  obtain⟨b,mi,m,n,rfl,hmi,hb,zb,hn,hm,k⟩:=h
  refine S.Bb ⟨_,(S.Ae (S.Ao (S.Bl Bc (S.Aj c_power (hr.mono (by decide)) (S.Aa (S.Bq (S.Aa (S.pv 0) S.Ab)) (S.Aa (S.pv 1) S.Ab))) S.Ad (fun _ _=>rfl)))),?_⟩
  contradiction
  intro p0 hp0
  have i0:Po K (upd H p0 (.tup [V.int b])) (.ref p0) [b] 1 (n+1):=⟨⟨p0,rfl,.of Af⟩,.inr ⟨by simp,by simpa using hb⟩,Nat.le_refl _,fun i=>Yw (by omega) (fun x hx=>by
    have e:x=b:=by simpa using hx
    rw [e];exact zb.mono (by omega)) i⟩
  refine⟨_,m,40,_,_,_,_,rfl,hmi,i0,hm,by decide,by decide,by omega,fun z H' s' i=> ?_⟩
  obtain⟨⟨c,rfl,hc⟩,_⟩:=i
  rw [Ahd b hb]at hc
  exact Dj hc (at0 _ _) (k _ ((Same.upd hp0 _).trans s'))
theorem Aap {H:Hp}{Q:VK}{E:XK}{b:Int}{m n:Nat}{mi:Int} (e:mi=(m:Nat)) (hb:b≠0) (zb:Sz n b) (hn:n<=400000) (hm:m<=40) (h:∀H',Same H H'->Q (.int (b^m)) H'):G5 K [.int b,.int mi] H Q E:=⟨b,mi,m,n,rfl,.inl e,hb,zb,hn,hm,h⟩
theorem Vc {n:Nat}{b:Int} (h:Sz n b):∀m:Nat,Sz (n*m+1) (b^m)
  | 0=>by
    rw [Int.pow_zero,Nat.mul_zero]
    unfold Sz
    decide
  | m+1=>by
    rw [Int.pow_succ,Nat.mul_succ]
    exact((Vc h m).mul h).mono (by omega)
def rs (p:List Int) (m:Nat):List Int:=if p=[]then []else List.replicate m 0++p
def Xl (K:PySem.W.Frag):Sp:=fun vs H Q _=>∃(x:V) (m:Nat) (p:List Int) (l n:Nat),vs=[x,.int (m:Nat)]/\Po K H x p l n/\m<=100/\l<=400/\∀z H',Same H H'->SqT K H' z ((rs p m).map V.int)->Q (.ref z) H'
theorem Ad9 {f:Addr}{fd:FuncData} (F:Df K mg "raised" V6 ["one","many"] f fd)    :Cal P w K mg base 33 "raised" ["one","many"] (Xl K):=by
  refine F.cal (F.fn.ok Ab6 (fun vs H Q E h=> ?_) (fun cdv A outer s H vs Q E hr h=> ?_))
  . obtain⟨x,m,p,_,_,rfl,_⟩:=h
    rfl
  obtain⟨x,m,p,l,n,rfl,⟨⟨a,rfl,ha⟩,tp,lp,zp⟩,hm,hl,k⟩:=h
  have sz5:1000<=sizeLine:=by decide
  refine S.Bb ⟨_,(S.Ac (S.Du (S.Al (J2 hr.units) (S.pv 0) (S.Bq S.Ab) (Ar _)) (S.Ae (S.Ao (S.Bq S.Ab))) S.Ay)
      (S.Ae (S.Ao (S.Ai Ajk (S.Ai Aji (S.Bq (S.Aa S.Ad S.Ab)) (S.pv 1)) (S.pv 0))))),?_⟩
  contradiction
  refine⟨by decide,fun p1 hp1=> ?_⟩
  have s1:=Same.upd hp1 (.tup [])
  refine Dh (ms:=[]) (s1.tup ha) (.of Af) ?_
  try contradiction
  by_cases h1:p=[]
  . rw [if_pos h1]
    refine⟨by decide,fun z hz=>k z _ (s1.trans (Same.upd hz _)) ?_⟩
    rw [rs,if_pos h1]
    exact .of Af
  rw [if_neg h1]
  intro p2 hp2
  have s2:=s1.trans (Same.upd hp2 (.tup [V.int 0]))
  refine⟨p2,m,[V.int 0],rfl,rfl,.of Af,by simp,by omega,by simp only [List.length_cons,List.length_nil];omega,fun z H2 s3 hz=> ?_⟩
  rw [Mr]at hz
  refine⟨z,a,_,_,rfl,rfl,hz,(s2.trans s3).tup ha,by rw [List.length_map,List.length_map,List.length_replicate];omega,fun z2 H3 s4 h4=>k z2 _ ((s2.trans s3).trans s4) ?_⟩
  rw [rs,if_neg h1,List.map_append]
  exact h4
theorem Zx (j:Nat) (p:List Int) (i:Nat):co (List.replicate j 0++p) i=if j<=i then co p (i-j)else 0:=by
  unfold co
  rw [List.getD_eq_getElem?_getD,List.getD_eq_getElem?_getD]
  by_cases h:j<=i
  . rw [if_pos h,List.getElem?_append_right (by rw [List.length_replicate];exact h),List.length_replicate]
  . rw [if_neg h,List.getElem?_append_left (by rw [List.length_replicate];omega),List.getElem?_replicate]
    split<;>rfl
theorem Ai9 (p:List Int) (m i:Nat):co (rs p m) i=if m<=i then co p (i-m)else 0:=by
  unfold rs
  split
  . rename_i h
    rw [h,Az,Az]
    split<;>rfl
  . exact Zx m p i
theorem Am4 {p:List Int} (h:Tr p) (m:Nat):Tr (rs p m):=by
  unfold rs
  split
  . exact .inl rfl
  . rename_i n
    refine Tr.of (.inr ?_)
    rw [Zx,List.length_append,List.length_replicate,if_pos (by have:=List.length_pos_iff.mpr n;omega)]
    have:=h.lead n
    rw [show m+p.length-1-m=p.length-1 by omega]
    exact this
theorem Ame (p:List Int) (m:Nat):(rs p m).length<=m+p.length:=by
  unfold rs
  split
  . simp
  . rw [List.length_append,List.length_replicate]
    exact Nat.le_refl _
theorem Ahj (c:Int) (i:Nat):co [c] i=if i=0 then c else 0:=by
  cases i with
  | zero=>rw [Cd];rfl
  | succ i=>rw [Ce,Az];rfl
theorem Adb (c:Int) (j:Nat) (q:List Int) (i:Nat):mu (rs (trim [c]) j) (co q) i=if j<=i then c*co q (i-j)else 0:=by
  have e:∀k,co (rs (trim [c]) j) k=co (List.replicate j 0++ [c]) k:=fun k=>by
    rw [Ai9,Zx]
    split
    . rw [Ak]
    . rfl
  rw [congrFun (Ax (co q) _ _ e) i,Nb,Vf,List.length_replicate,Int.zero_add]
def SdR (K:PySem.W.Frag) (p q:List Int) (l:Nat) (Q:VK) (H:Hp):Prop:=∀(z:Addr) (H':Hp) (c d:V) (u r:List Int),Same H H'->SqT K H' z [c,d]->Po K H' c u l BIG->Po K H' d r l BIG->
  (∀k,co q (q.length-1)^(p.length-q.length+1)*co p k=mu u (co q) k+co r k)->r.length<q.length->u.length<=p.length-q.length+1->Q (.ref z) H'
def Kr (K:PySem.W.Frag):Sp:=fun vs H Q _=>∃(x y:V) (p q:List Int) (l n:Nat),vs=[x,y]/\Po K H x p l n/\Po K H y q l n/\l<=60/\n<=400000/\q≠ []/\q.length<=p.length/\SdR K p q l Q H
theorem Qh {f:Addr}{fd:FuncData} (F:Df K mg "scaled_division" Je ["one","other"] f fd) (z_range:mg "range"=none) (z_len:mg "len"=none)  (c_raised:Cal P w K mg base 33 "raised" ["one","many"] (Xl K)) (c_p_plus:Cal P w K mg base 35 "p_plus" ["one","other"] (Ua K)) (c_p_minus:Cal P w K mg base 36 "p_minus" ["one","other"] (Nv K)) (c_degree:Cal P w K mg base 33 "degree" ["one"] (Gw K)) (c_poly:Cal P w K mg base 33 "poly" ["weights"] (Mu K)) (c_scaled:Cal P w K mg base 33 "scaled" ["one","factor"] (M4 K)) (c_p_times:Cal P w K mg base 33 "p_times" ["one","other"] (K4 K)):Cal P w K mg base 37 "scaled_division" ["one","other"] (Kr K):=by
  refine F.cal (F.fn.ok Br (fun vs H Q E h=> ?_) (fun cdv A outer s H vs Q E hr h=> ?_))
  . obtain⟨x,y,p,q,_,_,rfl,_⟩:=h
    rfl
  obtain⟨x,y,p,q,l,n,rfl,hx,hy,hl,hn,hq,hqp,k⟩:=h
  obtain⟨⟨a,rfl,ha⟩,tp,lp,zp⟩:=id hx
  obtain⟨⟨b,rfl,hb⟩,tq,lq,zq⟩:=id hy
  have hql:0<q.length:=List.length_pos_iff.mpr hq
  have bigE:=Aca
  obtain⟨L,hL⟩:∃L,L=p.length-q.length+1:=⟨_,rfl⟩
  obtain⟨lc,hlc⟩:∃lc,lc=co q (q.length-1):=⟨_,rfl⟩
  obtain⟨B,hB⟩:∃B:Nat->Nat,B=fun i=>n+(n+l+4)*i:=⟨_,rfl⟩
  have B1:∀i,B (i+1)=B i+n+l+4:=fun i=>by rw [hB];show n+(n+l+4)*(i+1)=n+(n+l+4)*i+n+l+4;rw [Nat.mul_succ];omega
  have Bn:∀i,i<=60->B i<=56000000:=fun i hi=>by
    rw [hB]
    have:(n+l+4)*i<=(n+l+4)*60:=Nat.mul_le_mul_left _ hi
    show n+(n+l+4)*i<=56000000
    omega
  have B0:B 0=n:=by rw [hB];rfl
  refine S.Bb ⟨_,(S.Ac (S.Ah (i:=2) Br.nd rfl (Or.inl rfl) (S.Bq S.Ab))
      (S.Ac (S.Ah (i:=3) Br.nd rfl (Or.inl rfl) (S.pv 0))
      (S.Ac (S.Gq PassesOwn.never rfl (S.Ot rfl z_range (S.Aa (S.Ai Gg (S.Aj c_degree (hr.mono (by decide)) (S.Aa (S.pv 0) S.Ab)) (S.Aj c_degree (hr.mono (by decide)) (S.Aa (S.pv 1) S.Ab))) (S.Aa (S.Hv Gf S.Ad) (S.Aa (S.Hv Gf S.Ad) S.Ab)))) (S.Aw (i:=4) Br.nd rfl (Or.inl rfl)) (S.Ac (S.Ah (i:=5) Br.nd rfl (Or.inl rfl) (S.Ny (S.Al Wf (S.Ai Cj (S.pv 4) (S.Aj c_degree (hr.mono (by decide)) (S.Aa (S.pv 1) S.Ab))) (S.Dn Am rfl z_len PySem.boot_len (S.Aa (S.pv 3) S.Ab)) (Ar _)) (S.Bl Bc (S.pv 3) (S.Ai Cj (S.pv 4) (S.Aj c_degree (hr.mono (by decide)) (S.Aa (S.pv 1) S.Ab))) (fun _ _=>rfl)) S.Ad))
      (S.Ac (S.Ah (i:=6) Br.nd rfl (Or.inl rfl) (S.Aj c_raised (hr.mono (by decide)) (S.Aa (S.Aj c_poly (hr.mono (by decide)) (S.Aa (S.Bq (S.Aa (S.pv 5) S.Ab)) S.Ab)) (S.Aa (S.pv 4) S.Ab))))
      (S.Ac (S.Ah (i:=2) Br.nd rfl (Or.inl rfl) (S.Aj c_p_plus (hr.mono (by decide)) (S.Aa (S.Aj c_scaled (hr.mono (by decide)) (S.Aa (S.pv 2) (S.Aa (S.Bl Bc (S.pv 1) (S.Hv Gf S.Ad) (fun _ _=>rfl)) S.Ab))) (S.Aa (S.pv 6) S.Ab))))
      (S.Ae (S.Ah (i:=3) Br.nd rfl (Or.inl rfl) (S.Aj c_p_minus (hr.mono (by decide)) (S.Aa (S.Aj c_scaled (hr.mono (by decide)) (S.Aa (S.pv 3) (S.Aa (S.Bl Bc (S.pv 1) (S.Hv Gf S.Ad) (fun _ _=>rfl)) S.Ab))) (S.Aa (S.Aj c_p_times (hr.mono (by decide)) (S.Aa (S.pv 6) (S.Aa (S.pv 1) S.Ab))) S.Ab)))))))))
      (S.Ae (S.Ao (S.Bq (S.Aa (S.pv 2) (S.Aa (S.pv 3) S.Ab)))))))),?_⟩
  refine Ba (fun σ' H'=>Same H H'/\∃e0,σ'=[some (.ref a),some (.ref b),some (.ref e0),none,none,none,none]/\H' e0=some (.tup [])) (fun N hN=> ?_) ?_
  . contradiction
    refine⟨by decide,fun e0 he0=>hN _ _ ⟨Same.upd he0 _,e0,rfl,Af⟩⟩
  rintro σ H1 ⟨s1,e0,rfl,g0⟩
  refine Ba (fun σ' H'=>H'=H1/\σ'=[some (.ref a),some (.ref b),some (.ref e0),some (.ref a),none,none,none]) (fun N hN=> ?_) ?_
  . contradiction
    exact hN _ _ ⟨rfl,rfl⟩
  rintro σ H2 ⟨rfl,rfl⟩
  refine Ba (fun σ' H'=>Same H H'/\∃(c d:V) (u r:List Int) (o4 o5 o6:Option V),σ'=[some (.ref a),some (.ref b),some c,some d,o4,o5,o6]/\Po K H' c u l (B L)/\Po K H' d r l (B L)/\(∀k,lc^L*co p k=mu u (co q) k+co r k)/\(∀k,p.length-L<=k->co r k=0)/\∀k,L<=k->co u k=0) (fun N hN=> ?_) ?_
  . rw [G7]
    contradiction
    refine Dd hx s1 ?_
    try contradiction
    refine Dd hy s1 ?_
    try contradiction
    refine⟨by omega,?_⟩
    have en:((p.length:Int)-1-((q.length:Int)-1)- -1).toNat=L:=by omega
    refine Al0 L (fun i=> .int ((p.length:Int)-1-((q.length:Int)-1)-(i:Nat))) (fun i σ' H'=>Same H H'/\∃(c d:V) (u r:List Int) (o4 o5 o6:Option V),σ'=[some (.ref a),some (.ref b),some c,some d,o4,o5,o6]/\Po K H' c u l (B i)/\Po K H' d r l (B i)/\(∀k,lc^i*co p k=mu u (co q) k+co r k)/\(∀k,p.length-i<=k->co r k=0)/\∀k,L<=k->co u k=0) ?_ ?_ ?_ ?_
    . refine⟨s1,_,_,[],p,_,_,_,rfl,⟨⟨e0,rfl,.of g0⟩,.inl rfl,Nat.zero_le _,fun i=>by rw [Az,B0];exact(zp p.length).of_abs (by simp)⟩,by rw [B0];exact hx.mono s1,fun t=> ?_,fun t ht=>Bm (by omega),fun t _=>Az t⟩
      rw [Int.pow_zero,Int.one_mul]
      show _=0+co p t
      omega
    . intro i σ' H' _
      rw [en]
      exact Ur
    . rintro i σ' H5 hi ⟨s5,c,d,u,r,o4,o5,o6,rfl,ic,ir,he,hr0,hu0⟩
      obtain⟨j,hj⟩:∃j:Nat,j+1=L-i:=⟨L-i-1,by omega⟩
      have pj:(p.length:Int)-1-((q.length:Int)-1)-(i:Nat)=(j:Int):=by omega
      rw [Bw,pj]
      simp only [List.set_cons_succ,List.set_cons_zero]
      have ix:(j:Int)+((q.length:Int)-1)=((j+(q.length-1):Nat):Int):=by omega
      obtain⟨e,he'⟩:∃e,e=j+(q.length-1):=⟨_,rfl⟩
      rw [<-he']at ix
      obtain⟨tp',htp⟩:∃t,t=co r e:=⟨_,rfl⟩
      have Bi:=Bn i (by omega)
      have Bs:=B1 i
      have zt:Sz (B i) tp':=by rw [htp];exact ir.2.2.2 e
      have zl:Sz n lc:=by rw [hlc];exact zq _
      refine Ba (fun σ' H'=>H'=H5/\σ'=[some (.ref a),some (.ref b),some c,some d,some (.int j),some (.int tp'),o6]) (fun N hN=> ?_) ?_
      . contradiction
        refine Dd hy s5 ?_
        simp only [Ib,Fv,Il,Ii,Fz,Hy,Bw,Hu,Em,Ef,z_c,Pj,Qq,Qx,Iz,Qu,Iw,Hw,Im,Hz,Ea,Qp,Hr,Ij,Ip,Fg,Fq,Ie,Hs,Qs,Fj,Ht,Er,Qw,Fi,Ia,Ga,Qt,Hq,Iv,Cz,Ew,Ez,Fy,Cr,Ed,Ir,Ih,Hl,G7,Qv,Bo,Et,Ig,Qo,Iu,Fe,Ja,Jc,Ei,Io,Eo,Eh,Fl,Cm,Jb,Cq,En,Ek,Ft,Cy,Es,Cu,Hx,Ey,Ho,Ej,Fx,Ec,Cv,Bp,Ck,Fw,Ik,El,Fo,Cw,Eu,Qn,cpσ,List.getElem?_cons_zero,List.getElem?_cons_succ,Option.join_some,List.set_cons_zero,List.set_cons_succ,List.append_nil,decide_eq_true_eq,Bool.not_eq_true',decide_eq_false_iff_not,Bool.not_not,ite_not,Bool.false_eq_true,Bool.true_eq_false,if_false,if_true,if_pos,List.length_cons,List.length_nil,Nat.zero_add,Nat.reduceAdd,Fb,Ep,true_and,and_true,L2.start,List.map_cons,List.map_nil,Bool.not_true,Bool.not_false,Nat.reduceSub,List.replicate_succ,List.replicate_zero,List.cons_append,List.nil_append,ix]
        obtain⟨⟨dr,rfl,hdr⟩,_,lr,_⟩:=id ir
        refine⟨dr,_,rfl,.inr hdr,?_⟩
        try contradiction
        rw [List.length_map]
        split
        . rename_i h
          have h':e<r.length:=by omega
          refine Dd hy s5 ?_
          simp only [Ib,Fv,Il,Ii,Fz,Hy,Bw,Hu,Em,Ef,z_c,Pj,Qq,Qx,Iz,Qu,Iw,Hw,Im,Hz,Ea,Qp,Hr,Ij,Ip,Fg,Fq,Ie,Hs,Qs,Fj,Ht,Er,Qw,Fi,Ia,Ga,Qt,Hq,Iv,Cz,Ew,Ez,Fy,Cr,Ed,Ir,Ih,Hl,G7,Qv,Bo,Et,Ig,Qo,Iu,Fe,Ja,Jc,Ei,Io,Eo,Eh,Fl,Cm,Jb,Cq,En,Ek,Ft,Cy,Es,Cu,Hx,Ey,Ho,Ej,Fx,Ec,Cv,Bp,Ck,Fw,Ik,El,Fo,Cw,Eu,Qn,cpσ,List.getElem?_cons_zero,List.getElem?_cons_succ,Option.join_some,List.set_cons_zero,List.set_cons_succ,List.append_nil,decide_eq_true_eq,Bool.not_eq_true',decide_eq_false_iff_not,Bool.not_not,ite_not,Bool.false_eq_true,Bool.true_eq_false,if_false,if_true,if_pos,List.length_cons,List.length_nil,Nat.zero_add,Nat.reduceAdd,Fb,Ep,true_and,and_true,L2.start,List.map_cons,List.map_nil,Bool.not_true,Bool.not_false,Nat.reduceSub,List.replicate_succ,List.replicate_zero,List.cons_append,List.nil_append,ix]
          refine Dj hdr (v:= .int tp') (by rw [htp,Eb h'];exact Jw (G6 h')) ?_
          try contradiction
          exact hN _ _ ⟨rfl,rfl⟩
        . rename_i h
          have:tp'=0:=by rw [htp];exact Bm (by omega)
          rw [this]at hN
          exact hN _ _ ⟨rfl,rfl⟩
      rintro σ' H6 ⟨rfl,rfl⟩
      refine Ba (fun σ' H'=>Same H6 H'/\∃tv:V,σ'=[some (.ref a),some (.ref b),some c,some d,some (.int j),some (.int tp'),some tv]/\Po K H' tv (rs (trim [tp']) j) l (B i)) (fun N hN=> ?_) ?_
      . contradiction
        intro p1 hp1
        have s6:=Same.upd hp1 (.tup [V.int tp'])
        refine⟨p1,[tp'],rfl,.inr (.of Af),by simp,fun z H7 s7 h7=> ?_⟩
        try contradiction
        have it:Po K H7 (.ref z) (trim [tp']) 1 (B i):=⟨⟨z,rfl,h7⟩,Av _,Nat.le_trans (Kf _) (by simp),fun t=>by
          rw [Ak,Ahj]
          split
          . exact zt
          . exact zt.of_abs (by simp)⟩
        refine⟨_,j,_,1,B i,rfl,it,by omega,by decide,fun z2 H8 s8 h8=>hN _ _ ⟨(s6.trans s7).trans s8,_,rfl,⟨⟨z2,rfl,h8⟩,Am4 (Av _) j,?_,fun t=> ?_⟩⟩⟩
        . have h1:=Ame (trim [tp']) j
          have h2:=it.2.2.1
          omega
        . rw [Ai9]
          split
          . exact it.2.2.2 _
          . exact zt.of_abs (by simp)
      rintro σ' H7 ⟨s7,tv,rfl,it⟩
      have s57:=s5.trans s7
      refine Ba (fun σ' H'=>Same H7 H'/\∃cv:V,σ'=[some (.ref a),some (.ref b),some cv,some d,some (.int j),some (.int tp'),some tv]/\Po K H' cv (ta (ng u lc) (rs (trim [tp']) j)) l (B (i+1))) (fun N hN=> ?_) ?_
      . contradiction
        refine Dj (s57.tup hb) (Lf hq) ?_
        rw [<-hlc]
        try contradiction
        refine⟨c,lc,u,l,B i,n,rfl,ic.mono s7,zl,by omega,by omega,fun z H8 s8 i8=> ?_⟩
        try contradiction
        refine⟨z,tv,_,_,l,l,B i+n,B i,rfl,i8,it.mono s8,by omega,by omega,trivial,fun w H9 s9 i9=>hN _ _ ⟨s8.trans s9,w,rfl,⟨i9.1,i9.2.1,Nat.le_trans i9.2.2.1 (by omega),fun t=>(i9.2.2.2 t).mono (by omega)⟩⟩⟩
      rintro σ' H8 ⟨s8,cv,rfl,icv⟩
      contradiction
      refine Dj ((s57.trans s8).tup hb) (Lf hq) ?_
      rw [<-hlc]
      try contradiction
      refine⟨d,lc,r,l,B i,n,rfl,ir.mono (s7.trans s8),zl,by omega,by omega,fun z H9 s9 i9=> ?_⟩
      try contradiction
      refine⟨tv,.ref b,_,q,l,l,B i,n,rfl,it.mono (s8.trans s9),hy.mono ((s57.trans s8).trans s9),by omega,by omega,by omega,fun w Ha sa ia=> ?_⟩
      try contradiction
      refine⟨z,w,_,_,l,l+l,B i+n,B i+n+l,rfl,i9.mono sa,ia,by omega,by omega,by omega,fun v Hb sb ib=> ?_⟩
      try contradiction
      have rco:∀t,co (ta (ng r lc) (ng (tm (rs (trim [tp']) j) q) (-1))) t=co r t*lc-(if j<=t then tp'*co q (t-j)else 0):=fun t=>by
        rw [Ph,Ue,Ue,Ci,Adb]
        omega
      have r0:∀t,p.length-(i+1)<=t->co (ta (ng r lc) (ng (tm (rs (trim [tp']) j) q) (-1))) t=0:=fun t ht=>by
        rw [rco,if_pos (by omega)]
        by_cases h:t=e
        . rw [h,<-htp,he',show j+(q.length-1)-j=q.length-1 by omega,hlc]
          omega
        . rw [hr0 t (by omega),Bm (p:=q) (by omega)]
          simp
      refine⟨((((s57.trans s8).trans s9).trans sa).trans sb),cv,v,_,_,_,_,_,rfl,icv.mono ((s9.trans sa).trans sb),⟨ib.1,ib.2.1,?_,fun t=>(ib.2.2.2 t).mono (by omega)⟩,fun t=> ?_,r0,fun t ht=> ?_⟩
      . refine Nat.le_trans (ib.2.1.len (q:=(ta (ng r lc) (ng (tm (rs (trim [tp']) j) q) (-1))).take l) fun t=> ?_) (List.length_take_le _ _)
        rw [Ks]
        split
        . rfl
        . exact r0 t (by omega)
      . rw [rco,<-Ci,Int.pow_succ]
        have e1:co (tm (ta (ng u lc) (rs (trim [tp']) j)) q) t=mu u (co q) t*lc+(if j<=t then tp'*co q (t-j)else 0):=by
          rw [Gd,Am3,Ph,Gd q (rs (trim [tp']) j),Ci (rs (trim [tp']) j),Adb,Ci,J8]
          congr 1
          have e2:mu (ng u lc) (co q) t=mu (u.map (lc* ·)) (co q) t:=congrFun (Ax (co q) _ _ fun k=>by rw [Ue,Ds,Int.mul_comm]) t
          rw [e2,Od,Int.mul_comm]
        rw [e1]
        have:=he t
        have e3:lc^i*lc*co p t=(lc^i*co p t)*lc:=by grind
        rw [e3,this]
        grind
      . rw [Ph,Ue,hu0 t ht,Ai9]
        split
        . rw [Ak,Ahj,if_neg (by omega)]
          simp
        . simp
    . rintro σ' H5 ⟨s5,c,d,u,r,o4,o5,o6,rfl,ic,ir,he,hr0,hu0⟩
      exact hN _ _ ⟨s5,c,d,u,r,o4,o5,o6,rfl,ic,ir,he,hr0,hu0⟩
  rintro σ H5 ⟨s5,c,d,u,r,o4,o5,o6,rfl,ic,ir,he,hr0,hu0⟩
  have BL:=Bn L (by omega)
  contradiction
  intro z hz
  have s6:=Same.upd hz (.tup [c,d])
  have big:∀ {v:V}{f:List Int},Po K H5 v f l (B L)->Po K (upd H5 z (.tup [c,d])) v f l BIG:=fun h=>⟨(h.mono s6).1,h.2.1,h.2.2.1,fun t=>(h.2.2.2 t).mono (by omega)⟩
  refine k z _ c d u r (s5.trans s6) (.of Af) (big ic) (big ir) (by rw [<-hlc,<-hL];exact he) ?_ ?_
  . have h:=ir.2.1.len (q:=r.take (q.length-1)) fun t=>by
      rw [Ks]
      split
      . rfl
      . exact hr0 t (by omega)
    rw [List.length_take]at h
    omega
  . have h:=ic.2.1.len (q:=u.take L) fun t=>by
      rw [Ks]
      split
      . rfl
      . exact hu0 t (by omega)
    rw [List.length_take]at h
    omega
def RwV (K:PySem.W.Frag) (H:Hp) (vs:List V) (fs:List (List Int)) (l n:Nat):Prop:=vs.length=fs.length/\∀c,c<fs.length->Po K H (vs.getD c .non) (fs.getD c []) l n
def Rw (K:PySem.W.Frag) (H:Hp) (x:V) (fs:List (List Int)) (l n:Nat):Prop:=∃a vs,x= .ref a/\SqT K H a vs/\RwV K H vs fs l n
theorem RwV.mono {H H':Hp}{vs:List V}{fs:List (List Int)}{l n:Nat} (h:RwV K H vs fs l n) (s:Same H H'):RwV K H' vs fs l n:=⟨h.1,fun c hc=>(h.2 c hc).mono s⟩
theorem Rw.mono {H H':Hp}{x:V}{fs:List (List Int)}{l n:Nat} (h:Rw K H x fs l n) (s:Same H H'):Rw K H' x fs l n:=by
  obtain⟨a,vs,e,t,r⟩:=h
  exact⟨a,vs,e,s.tup t,r.mono s⟩
theorem getD_at {vs:List V}{j:Nat} (h:j<vs.length):atI vs ((j:Nat):Int)=some (vs.getD j .non):=Jw (by rw [List.getD_eq_getElem?_getD,List.getElem?_eq_getElem h];rfl)
def NrR (K:PySem.W.Frag) (fs gs:List (List Int)) (β:Int) (l:Nat) (Q:VK) (H:Hp):Prop:=∀(z:V) (H':Hp) (ts:List (List Int)) (u r:List Int),Same H H'->Rw K H' z ts (2*l) (2*BIG)->ts.length=fs.length->
  (∀k,co (gs.getD 0 []) ((gs.getD 0 []).length-1)^((fs.getD 0 []).length-(gs.getD 0 []).length+1)*co (fs.getD 0 []) k=mu u (co (gs.getD 0 [])) k+co r k)->r.length<(gs.getD 0 []).length->u.length<=(fs.getD 0 []).length-(gs.getD 0 []).length+1->
  (∀c,c<fs.length->∀i,co (gs.getD 0 []) ((gs.getD 0 []).length-1)^((fs.getD 0 []).length-(gs.getD 0 []).length+1)*co (fs.getD c []) i=β*co (ts.getD c []) i+mu u (co (gs.getD c [])) i)->Q z H'
def NrE (fs gs:List (List Int)) (β:Int):Prop:=∀(u r:List Int),(∀k,co (gs.getD 0 []) ((gs.getD 0 []).length-1)^((fs.getD 0 []).length-(gs.getD 0 []).length+1)*co (fs.getD 0 []) k=mu u (co (gs.getD 0 [])) k+co r k)->r.length<(gs.getD 0 []).length->u.length<=(fs.getD 0 []).length-(gs.getD 0 []).length+1->
  ∀c,c<fs.length->∀i,β∣co (gs.getD 0 []) ((gs.getD 0 []).length-1)^((fs.getD 0 []).length-(gs.getD 0 []).length+1)*co (fs.getD c []) i-mu u (co (gs.getD c [])) i
def Ol (K:PySem.W.Frag):Sp:=fun vs H Q _=>∃(x y:V) (β:Int) (fs gs:List (List Int)) (l n:Nat),vs=[x,y,.int β]/\Rw K H x fs l n/\Rw K H y gs l n/\gs.length=fs.length/\1<=fs.length/\fs.length<=3/\l<=60/\n<=400000/\gs.getD 0 []≠ []/\(gs.getD 0 []).length<=(fs.getD 0 []).length/\(fs.getD 0 []).length<=(gs.getD 0 []).length+38/\β≠0/\Sz LIM β/\NrE fs gs β/\NrR K fs gs β l Q H
theorem Wb {d:Int} (p:List Int) (i:Nat):co (p.map fun x=>x.fdiv d) i=(co p i).fdiv d:=Td (f:=fun x=>x.fdiv d) (Int.zero_fdiv d) p i
theorem Y5 {x d:Int} (h0:d≠0) (h:d∣x):d*x.fdiv d=x:=by
  obtain⟨k,rfl⟩:=h
  rw [Int.mul_fdiv_cancel_left _ h0]
theorem Adm {p:List Int}{d:Int} (h0:d≠0) (tp:Tr p) (h:∀i,d∣co p i):Tr (p.map fun x=>x.fdiv d):=by
  by_cases n:p=[]
  . subst n;exact .inl rfl
  . refine Tr.of (.inr ?_)
    rw [List.length_map,Wb]
    intro z
    have:=Y5 h0 (h (p.length-1))
    rw [z,Int.mul_zero]at this
    exact tp.lead n this.symm
theorem Ae1 {n:Nat}{x d:Int} (h0:d≠0) (h:d∣x) (z:Sz n x):Sz n (x.fdiv d):=z.of_abs (by
  have:=congrArg Int.natAbs (Y5 h0 h)
  rw [Int.natAbs_mul]at this
  have hd:=Int.natAbs_pos.mpr h0
  have:=Nat.le_mul_of_pos_left (x.fdiv d).natAbs hd
  omega)
theorem Zg {f:Addr}{fd:FuncData} (F:Df K mg "next_row" Rn ["first","second","known"] f fd) (z_zip:mg "zip"=none) (z_tuple:mg "tuple"=none)  (c_whole_power:Cal P w K mg base 36 "whole_power" ["number","many"] (G5 K)) (c_scaled_division:Cal P w K mg base 37 "scaled_division" ["one","other"] (Kr K)) (c_shrunk:Cal P w K mg base 33 "shrunk" ["one","number"] (Tz K)) (c_degree:Cal P w K mg base 33 "degree" ["one"] (Gw K)) (c_p_minus:Cal P w K mg base 36 "p_minus" ["one","other"] (Nv K)) (c_scaled:Cal P w K mg base 33 "scaled" ["one","factor"] (M4 K)) (c_p_times:Cal P w K mg base 33 "p_times" ["one","other"] (K4 K)):Cal P w K mg base 38 "next_row" ["first","second","known"] (Ol K):=by
  refine F.cal (F.fn.ok G9 (fun vs H Q E h=> ?_) (fun cdv A outer s H vs Q E hr h=> ?_))
  . obtain⟨x,y,β,fs,gs,_,_,rfl,_⟩:=h
    rfl
  obtain⟨x,y,β,fs,gs,l,n,rfl,⟨a,vs,rfl,ha,hvl,hv⟩,⟨b,ws,rfl,hb,hwl,hw⟩,hgf,hf1,hf3,hl,hn,hg0,hgl,hd38,β0,βz,ex,k⟩:=h
  have bigE:=Aca
  have p0:=hv 0 (by omega)
  have q0:=hw 0 (by omega)
  have hq0:=hg0
  have gl0:0<(gs.getD 0 []).length:=List.length_pos_iff.mpr hg0
  obtain⟨L,hL⟩:∃L,L=co (gs.getD 0 []) ((gs.getD 0 []).length-1)^((fs.getD 0 []).length-(gs.getD 0 []).length+1):=⟨_,rfl⟩
  have ld0:co (gs.getD 0 []) ((gs.getD 0 []).length-1)≠0:=q0.2.1.lead hg0
  obtain⟨⟨b0,eb0,hb0⟩,_⟩:=id q0
  obtain⟨⟨a0,ea0,ha0⟩,_⟩:=id p0
  have atF:atI vs 0=some (vs.getD 0 .non):=getD_at (j:=0) (by omega)
  have atG:atI ws 0=some (ws.getD 0 .non):=getD_at (j:=0) (by omega)
  have LS:Sz (n*((fs.getD 0 []).length-(gs.getD 0 []).length+1)+1) L:=by rw [hL];exact Vc (q0.2.2.2 _) _
  have hN:n*((fs.getD 0 []).length-(gs.getD 0 []).length+1)<=400000*39:=Nat.mul_le_mul hn (by omega)
  refine S.Bb ⟨_,(S.Ac (S.Ah (i:=3) G9.nd rfl (Or.inl rfl) (S.Aj c_whole_power (hr.mono (by decide)) (S.Aa (S.Bl Bc (S.Bl Bc (S.pv 1) S.Ad (fun _ _=>rfl)) (S.Hv Gf S.Ad) (fun _ _=>rfl)) (S.Aa (S.Ai Cj (S.Ai Gg (S.Aj c_degree (hr.mono (by decide)) (S.Aa (S.Bl Bc (S.pv 0) S.Ad (fun _ _=>rfl)) S.Ab)) (S.Aj c_degree (hr.mono (by decide)) (S.Aa (S.Bl Bc (S.pv 1) S.Ad (fun _ _=>rfl)) S.Ab))) S.Ad) S.Ab))))
      (S.Ac (S.Jq (S.Aj c_scaled_division (hr.mono (by decide)) (S.Aa (S.Bl Bc (S.pv 0) S.Ad (fun _ _=>rfl)) (S.Aa (S.Bl Bc (S.pv 1) S.Ad (fun _ _=>rfl)) S.Ab))) (S.Jd rfl (S.Bd (S.Aw (i:=5) G9.nd rfl (Or.inl rfl)) (S.Bd (S.Aw (i:=6) G9.nd rfl (Or.inl rfl)) S.Gv))))
      (S.Ac (S.Ah (i:=4) G9.nd rfl (Or.inl rfl) (S.Ka (S.Aa (S.Aj c_shrunk (hr.mono (by decide)) (S.Aa (S.pv 6) (S.Aa (S.pv 2) S.Ab))) S.Ab)))
      (S.Ac (S.Gq PassesOwn.never rfl (S.Ul true true rfl z_zip (S.Aa (S.Ln Zm (S.pv 0) (S.O6 S.Ad) S.Oq) (S.Aa (S.Ln Zm (S.pv 1) (S.O6 S.Ad) S.Oq) S.Ab))) (S.Jd rfl (S.Bd (S.Aw (i:=7) G9.nd rfl (Or.inl rfl)) (S.Bd (S.Aw (i:=8) G9.nd rfl (Or.inl rfl)) S.Gv))) (S.Ae (S.Kz (S.T7 PySem.F.plainAttrs_list PySem.F.slot_list_append PySem.F.type_list_append Mx (S.pv 4) (S.Aa (S.Aj c_shrunk (hr.mono (by decide)) (S.Aa (S.Aj c_p_minus (hr.mono (by decide)) (S.Aa (S.Aj c_scaled (hr.mono (by decide)) (S.Aa (S.pv 7) (S.Aa (S.pv 3) S.Ab))) (S.Aa (S.Aj c_p_times (hr.mono (by decide)) (S.Aa (S.pv 5) (S.Aa (S.pv 8) S.Ab))) S.Ab))) (S.Aa (S.pv 2) S.Ab))) S.Ab)))))
      (S.Ae (S.Ao (S.Hg Gi rfl z_tuple PyProof.Rows.boot_tuple (S.Aa (S.pv 4) S.Ab)))))))),?_⟩
  refine Ba (fun σ' H'=>Same H H'/\σ'=[some (.ref a),some (.ref b),some (.int β),some (.int L),none,none,none,none,none]) (fun N hN=> ?_) ?_
  . contradiction
    refine Dj hb atG ?_
    rw [eb0]
    refine Dj hb0 (Lf hg0) ?_
    try contradiction
    refine Dj ha atF ?_
    refine Dd p0 (Same.refl _) ?_
    try contradiction
    refine Dj hb atG ?_
    refine Dd q0 (Same.refl _) ?_
    try contradiction
    refine Aap (m:=(fs.getD 0 []).length-(gs.getD 0 []).length+1) (by omega) ld0 (q0.2.2.2 _) (by omega) (by omega) fun H' s'=> ?_
    rw [<-hL]
    exact hN _ _ ⟨s',rfl⟩
  rintro σ H1 ⟨s1,rfl⟩
  refine Ba (fun σ' H'=>Same H H'/\∃(c d:V) (u r:List Int),σ'=[some (.ref a),some (.ref b),some (.int β),some (.int L),none,some c,some d,none,none]/\Po K H' c u l BIG/\Po K H' d r l BIG/\(∀k,L*co (fs.getD 0 []) k=mu u (co (gs.getD 0 [])) k+co r k)/\r.length<(gs.getD 0 []).length/\u.length<=(fs.getD 0 []).length-(gs.getD 0 []).length+1) (fun N hN=> ?_) ?_
  . contradiction
    refine Dj (s1.tup ha) atF (Dj (s1.tup hb) atG ?_)
    refine⟨_,_,fs.getD 0 [],gs.getD 0 [],l,n,rfl,p0.mono s1,q0.mono s1,hl,by omega,hg0,hgl,fun z H2 c d u r s2 hz ic id he hlr hlu=> ?_⟩
    refine J1 hz ?_
    exact hN _ _ ⟨s1.trans s2,c,d,u,r,rfl,ic,id,by rw [hL];exact he,hlr,hlu⟩
  rintro σ H2 ⟨s2,c,d,u,r,rfl,ic,ir,he,hlr,hlu⟩
  rw [hL]at he
  have ex':=ex u r he hlr hlu
  rw [<-hL]at ex' he
  obtain⟨T,hT⟩:∃T:Nat->List Int,T=fun c=>(trim (al ((fs.getD c []).map (L* ·)) ((ml u (gs.getD c [])).map (-1* ·)))).map fun x=>x.fdiv β:=⟨_,rfl⟩
  have R0:∀c i,co (trim (al ((fs.getD c []).map (L* ·)) ((ml u (gs.getD c [])).map (-1* ·)))) i=L*co (fs.getD c []) i-mu u (co (gs.getD c [])) i:=fun c i=>by
    rw [Ak,R9,Ds,Ds,Pq]
    omega
  have Tco:∀c,c<fs.length->∀i,β*co (T c) i=L*co (fs.getD c []) i-mu u (co (gs.getD c [])) i:=fun c hc i=>by
    rw [hT]
    show β*co (List.map _ _) i=_
    rw [Wb,R0]
    exact Y5 β0 (ex' c hc i)
  refine Ba (fun σ' H'=>Same H H'/\∃(t3:Addr) (z0:V),σ'=[some (.ref a),some (.ref b),some (.int β),some (.int L),some (.ref t3),some c,some d,none,none]/\H t3=none/\Po K H' c u l BIG/\H' t3=some (.lst [z0])/\Po K H' z0 (T 0) (2*l) (2*BIG)) (fun N hN=> ?_) ?_
  . contradiction
    obtain⟨⟨dr,rfl,hdr⟩,tr,lr,zr⟩:=id ir
    have er:r=trim (al ((fs.getD 0 []).map (L* ·)) ((ml u (gs.getD 0 [])).map (-1* ·))):=tr.ext (Av _) fun i=>by rw [R0,he];omega
    have dv:∀i,β∣co r i:=fun i=>by rw [er,R0];exact ex' 0 (by omega) i
    refine⟨dr,r,β,rfl,hdr,by omega,fun _=>⟨β0,βz⟩,fun z H3 s3 h3=> ?_⟩
    try contradiction
    intro t3 ht3
    have st:=Same.upd ht3 (.lst [V.ref z])
    have eT:T 0=r.map fun x=>x.fdiv β:=by rw [hT,er]
    refine hN _ _ ⟨(s2.trans s3).trans st,t3,_,rfl,Same.free (s2.trans s3) ht3,ic.mono (s3.trans st),Af,⟨⟨z,rfl,by rw [eT];exact st.tup h3⟩,by rw [eT];exact Adm β0 tr dv,by rw [eT,List.length_map];omega,fun i=> ?_⟩⟩
    rw [eT,Wb]
    exact(Ae1 β0 (dv i) (zr i)).mono (by omega)
  rintro σ H3 ⟨s3,t3,z0,rfl,nt3,ic3,g3,i0⟩
  refine Ba (fun σ' H'=>Same H H'/\∃(zs:List V) (o7 o8:Option V),σ'=[some (.ref a),some (.ref b),some (.int β),some (.int L),some (.ref t3),some c,some d,o7,o8]/\H' t3=some (.lst zs)/\zs.length=fs.length/\∀j,j<fs.length->Po K H' (zs.getD j .non) (T j) (2*l) (2*BIG)) (fun N hN=> ?_) ?_
  . contradiction
    have cutA:T6 vs (some 1) none=vs.drop 1:=by
      unfold T6
      rw [show(1:Int)=((1:Nat):Int)from rfl,HT.S6,HT.Vz,Nat.min_eq_left (by omega),List.take_of_length_le (by simp)]
    have cutB:T6 ws (some 1) none=ws.drop 1:=by
      unfold T6
      rw [show(1:Int)=((1:Nat):Int)from rfl,HT.S6,HT.Vz,Nat.min_eq_left (by omega),List.take_of_length_le (by simp)]
    refine⟨a,vs,rfl,s3.tup ha,fun ca H4 s4 h4=> ?_⟩
    try contradiction
    refine⟨b,ws,rfl,(s3.trans s4).tup hb,fun cb H5 s5 h5=> ?_⟩
    rw [cutA]at h4
    rw [cutB]at h5
    try contradiction
    refine⟨ca,cb,rfl,⟨_,s5.tup h4⟩,⟨_,h5⟩,?_⟩
    refine Aih (xs:=vs.drop 1) (ys:=ws.drop 1) (fs.length-1) (by rw [List.length_drop,List.length_drop];omega) (fun i σ' H'=>Same H H'/\SqT K H' ca (vs.drop 1)/\SqT K H' cb (ws.drop 1)/\Po K H' c u l BIG/\∃(zs:List V) (o7 o8:Option V),σ'=[some (.ref a),some (.ref b),some (.int β),some (.int L),some (.ref t3),some c,some d,o7,o8]/\H' t3=some (.lst zs)/\zs.length=i+1/\∀j,j<i+1->Po K H' (zs.getD j .non) (T j) (2*l) (2*BIG)) ?_ ?_ ?_ ?_
    . refine⟨(s3.trans s4).trans s5,s5.tup h4,h5,ic3.mono (s4.trans s5),[z0],_,_,rfl,(s4.trans s5) _ _ g3,rfl,fun j hj=> ?_⟩
      have:j=0:=by omega
      subst this
      exact i0.mono (s4.trans s5)
    . rintro i σ' H' ⟨_,x1,x2,_⟩
      exact⟨x1,x2⟩
    . rintro i σ' H6 p6 hi ⟨s6,x1,x2,ic6,zs,o7,o8,rfl,g6,hzl,hz⟩ hp6
      refine J1 (.of Af) ?_
      have s7:=Same.upd hp6 (.tup [(vs.drop 1).getD i .non,(ws.drop 1).getD i .non])
      have ev:(vs.drop 1).getD i .non=vs.getD (i+1) .non:=by
        rw [List.getD_eq_getElem?_getD,List.getD_eq_getElem?_getD,List.getElem?_drop,Nat.add_comm]
      have ew:(ws.drop 1).getD i .non=ws.getD (i+1) .non:=by
        rw [List.getD_eq_getElem?_getD,List.getD_eq_getElem?_getD,List.getElem?_drop,Nat.add_comm]
      rw [ev,ew]at s7 ⊢
      generalize upd H6 p6 (.tup [vs.getD (i+1) .non,ws.getD (i+1) .non])=H7 at*
      have iu:=(hv (i+1) (by omega)).mono (s6.trans s7)
      have iw:=(hw (i+1) (by omega)).mono (s6.trans s7)
      have g7:=s7 _ _ g6
      try contradiction
      refine⟨.inl ⟨rfl,_,.of g7⟩,?_⟩
      refine⟨_,L,fs.getD (i+1) [],l,n,_,rfl,iu,LS,by omega,by omega,fun w1 H8 s8 i8=> ?_⟩
      try contradiction
      refine⟨c,_,u,gs.getD (i+1) [],l,l,BIG,n,rfl,ic6.mono (s7.trans s8),iw.mono s8,by omega,by omega,by omega,fun w2 H9 s9 i9=> ?_⟩
      try contradiction
      refine⟨w1,w2,_,_,_,_,_,_,rfl,i8.mono s9,i9,by omega,by omega,by omega,fun w3 Ha sa ia=> ?_⟩
      try contradiction
      have er:ta (ng (fs.getD (i+1) []) L) (ng (tm u (gs.getD (i+1) [])) (-1))=trim (al ((fs.getD (i+1) []).map (L* ·)) ((ml u (gs.getD (i+1) [])).map (-1* ·))):=(U5 _ _).ext (Av _) fun t=>by
        rw [R0,Ph,Ue,Ue,Ci]
        grind
      obtain⟨⟨wr,rfl,hwr⟩,tr,lr,zr⟩:=id ia
      have dv:∀t,β∣co (ta (ng (fs.getD (i+1) []) L) (ng (tm u (gs.getD (i+1) [])) (-1))) t:=fun t=>by rw [er,R0];exact ex' (i+1) (by omega) t
      refine⟨wr,_,β,rfl,hwr,by omega,fun _=>⟨β0,βz⟩,fun z Hb sb hb'=> ?_⟩
      have t7:=((s8.trans s9).trans sa).trans sb
      have gb:=t7 _ _ g7
      try contradiction
      refine⟨t3,_,_,rfl,rfl,gb,by rw [hzl];exact Nat.lt_of_lt_of_le (show i+1<1000 by omega) (by decide),?_⟩
      have nT:=((s6.trans s7).trans t7)
      have sput:Same H (upd Hb t3 (.lst (zs++ [V.ref z]))):=nT.put nt3
      have keep:∀ {v:V}{f:List Int}{x y:Nat},Po K Hb v f x y->Po K (upd Hb t3 (.lst (zs++ [V.ref z]))) v f x y:=fun h=>⟨by
        obtain⟨q,e,t⟩:=h.1
        exact⟨q,e,Zb t gb⟩,h.2⟩
      have eT:T (i+1)=(ta (ng (fs.getD (i+1) []) L) (ng (tm u (gs.getD (i+1) [])) (-1))).map fun x=>x.fdiv β:=by rw [hT,er]
      refine⟨sput,Zb ((s7.trans t7).tup x1) gb,Zb ((s7.trans t7).tup x2) gb,keep (ic6.mono (s7.trans t7)),zs++ [V.ref z],_,_,rfl,Af,by rw [List.length_append,hzl];rfl,fun j hj=> ?_⟩
      by_cases hj2:j=i+1
      . subst hj2
        have e1:(zs++ [V.ref z]).getD (i+1) .non=V.ref z:=by
          rw [List.getD_eq_getElem?_getD,List.getElem?_append_right (by omega),hzl,Nat.sub_self]
          rfl
        rw [e1]
        refine keep ⟨⟨z,rfl,by rw [eT];exact hb'⟩,by rw [eT];exact Adm β0 tr dv,by rw [eT,List.length_map];omega,fun t=> ?_⟩
        rw [eT,Wb]
        exact(Ae1 β0 (dv t) (zr t)).mono (by omega)
      . have e1:(zs++ [V.ref z]).getD j .non=zs.getD j .non:=by
          rw [List.getD_eq_getElem?_getD,List.getElem?_append_left (by omega),<-List.getD_eq_getElem?_getD]
        rw [e1]
        exact keep ((hz j (by omega)).mono (s7.trans t7))
    . rintro σ' H6 ⟨s6,_,_,_,zs,o7,o8,rfl,g6,hzl,hz⟩
      exact hN _ _ ⟨s6,zs,o7,o8,rfl,g6,by omega,fun j hj=>hz j (by omega)⟩
  rintro σ H4 ⟨s4,zs,o7,o8,rfl,g4,hzl,hz⟩
  contradiction
  refine⟨t3,zs,rfl,.inl ⟨.of g4,fun z hz'=> ?_⟩⟩
  have s5:=Same.upd hz' (.tup zs)
  refine k _ _ ((List.range fs.length).map T) u r (s4.trans s5) ⟨z,zs,rfl,.of Af,by rw [List.length_map,List.length_range];exact hzl,fun j hj=> ?_⟩ (by rw [List.length_map,List.length_range]) (by rw [<-hL];exact he) hlr hlu fun j hj i=> ?_
  . rw [List.length_map,List.length_range]at hj
    have e:((List.range fs.length).map T).getD j []=T j:=by
      rw [List.getD_eq_getElem?_getD,List.getElem?_map,List.getElem?_range hj]
      rfl
    rw [e]
    exact(hz j hj).mono s5
  . have e:((List.range fs.length).map T).getD j []=T j:=by
      rw [List.getD_eq_getElem?_getD,List.getElem?_map,List.getElem?_range hj]
      rfl
    rw [e,<-hL,Tco j hj i]
    omega
def O7 (fs:List (List Int)):Nat->Nat->Int:=fun c i=>co (fs.getD c []) i
def Keeps (s:Nat) (B:List (List Int)->Prop):Prop:=∀(f g t:List (List Int)) (u:List Int) (L β:Int),β≠0->f.length=s->g.length=s->t.length=s->B f->B g->(∀c,c<s->∀i,L*co (f.getD c []) i=β*co (t.getD c []) i+mu u (co (g.getD c [])) i)->B t
def LrR (K:PySem.W.Frag) (p q:List Int) (s l b:Nat) (B:List (List Int)->Prop) (Q:VK) (H:Hp):Prop:=∀(z:V) (H':Hp) (hs:List (List Int)),Same H H'->Rw K H' z hs (2*l) ((b+6)*(2*l)+1)->hs.length=s->Gc p q (pln (hs.getD 0 []))->B hs->Q z H'
def Am9 (K:PySem.W.Frag) (cnd:Nat->Nat->Prop):Sp:=fun vs H Q _=>∃(x y:V) (fs gs:List (List Int)) (l b:Nat) (B:List (List Int)->Prop),vs=[x,y]/\Rw K H x fs l b/\Rw K H y gs l b/\gs.length=fs.length/\1<=fs.length/\fs.length<=3/\l<=30/\1<=l/\1<=b/\(4*l+l*l)*(b+6)+4*l+10<=750000/\B fs/\B gs/\Keeps fs.length B/\cnd (fs.getD 0 []).length (gs.getD 0 []).length/\LrR K (fs.getD 0 []) (gs.getD 0 []) fs.length l b B Q H
def Xp (K:PySem.W.Frag):Sp:=Am9 K fun x y=>y<=x
def Um (K:PySem.W.Frag):Sp:=Am9 K fun _ _=>True
theorem RwV.weak {H:Hp}{vs:List V}{fs:List (List Int)}{l n l2 n2:Nat} (h:RwV K H vs fs l n) (h1:l<=l2) (h2:n<=n2):RwV K H vs fs l2 n2:=⟨h.1,fun c hc=>⟨(h.2 c hc).1,(h.2 c hc).2.1,Nat.le_trans (h.2 c hc).2.2.1 h1,fun i=>((h.2 c hc).2.2.2 i).mono h2⟩⟩
theorem Rw.weak {H:Hp}{x:V}{fs:List (List Int)}{l n l2 n2:Nat} (h:Rw K H x fs l n) (h1:l<=l2) (h2:n<=n2):Rw K H x fs l2 n2:=by
  obtain⟨a,vs,e,t,r⟩:=h
  exact⟨a,vs,e,t,r.weak h1 h2⟩
theorem Rw.abs {H:Hp}{x:V}{fs:List (List Int)}{l n:Nat} (h:Rw K H x fs l n) (c i:Nat):(O7 fs c i).natAbs<=2^n:=by
  obtain⟨a,vs,e,t,r⟩:=h
  unfold O7
  by_cases hc:c<fs.length
  . exact Nat.le_of_lt ((r.2 c hc).2.2.2 i)
  . rw [List.getD_eq_getElem?_getD,List.getElem?_eq_none (by omega)]
    show(co [] i).natAbs<=_
    rw [Az]
    simp
theorem Rw.top {H:Hp}{x:V}{fs:List (List Int)}{l n:Nat} (h:Rw K H x fs l n) (c i:Nat) (hi:l<=i):O7 fs c i=0:=by
  obtain⟨a,vs,e,t,r⟩:=h
  unfold O7
  by_cases hc:c<fs.length
  . exact Bm (Nat.le_trans (r.2 c hc).2.2.1 hi)
  . rw [List.getD_eq_getElem?_getD,List.getElem?_eq_none (by omega)]
    exact Az i
theorem Rw.first {H:Hp}{x:V}{fs:List (List Int)}{l n:Nat} (h:Rw K H x fs l n) (h1:1<=fs.length):∃a vs,x= .ref a/\SqT K H a vs/\atI vs 0=some (vs.getD 0 .non)/\Po K H (vs.getD 0 .non) (fs.getD 0 []) l n:=by
  obtain⟨a,vs,e,t,r⟩:=h
  exact⟨a,vs,e,t,getD_at (j:=0) (by have:=r.1;omega),r.2 0 (by omega)⟩
theorem V8 (fs:List (List Int)) {n:Nat} (h:(fs.getD 0 []).length<=n):Dg (O7 fs) n:=fun i hi=>Bm (by omega)
theorem Ai0 (u:List Int) (i:Nat):mu u (co []) i=0:=by
  have:mu u (fun _=>0) i=0:=congrFun (Tp u) i
  rw [<-this]
  exact Jr (fun k=>Az k) u i
theorem Vy {fs:List (List Int)}{c:Nat} (h:fs.length<=c):fs.getD c []=[]:=by
  rw [List.getD_eq_getElem?_getD,List.getElem?_eq_none h]
  rfl
theorem Akz {f g t:List (List Int)}{u:List Int}{L β:Int}{s:Nat} (hf:f.length=s) (hg:g.length=s) (ht:t.length=s) (h:∀c,c<s->∀i,L*co (f.getD c []) i=β*co (t.getD c []) i+mu u (co (g.getD c [])) i) (c i:Nat):L*O7 f c i=β*O7 t c i+mu u (O7 g c) i:=by
  by_cases hc:c<s
  . exact h c hc i
  . unfold O7
    rw [Vy (fs:=f) (by omega),Vy (fs:=t) (by omega),Vy (fs:=g) (by omega),Az,Ai0]
    simp
theorem Xm {F1 F2:Nat->Nat->Int}{n1 n2:Nat}{f g:List (List Int)}{l h:Int}{s:Nat} (hf:f.length=s) (hg:g.length=s) (ch:Chn F1 n1 F2 n2 (O7 f) ((f.getD 0 []).length-1) (O7 g) ((g.getD 0 []).length-1) l h) (tg:Tr (g.getD 0 [])) (g2:2<=(g.getD 0 []).length) (hle:(g.getD 0 []).length<=(f.getD 0 []).length) {u r:List Int}
    (he:∀k,co (g.getD 0 []) ((g.getD 0 []).length-1)^((f.getD 0 []).length-(g.getD 0 []).length+1)*co (f.getD 0 []) k=mu u (co (g.getD 0 [])) k+co r k) (hr:r.length<(g.getD 0 []).length) (hu:u.length<=(f.getD 0 []).length-(g.getD 0 []).length+1):
    ∃e,Sg e/\∀c i,co (g.getD 0 []) ((g.getD 0 []).length-1)^((f.getD 0 []).length-(g.getD 0 []).length+1)*O7 f c i-mu u (O7 g c) i=l*h^((f.getD 0 []).length-(g.getD 0 []).length)*(e*Sr ((g.getD 0 []).length-1-1) F1 n1 F2 n2 (c,i)):=by
  have ng:g.getD 0 []≠ []:=fun z=>by rw [z]at g2;exact absurd g2 (by decide)
  have e0:(f.getD 0 []).length-1-((g.getD 0 []).length-1)=(f.getD 0 []).length-(g.getD 0 []).length:=by omega
  have z:=ch.rest (R:=fun c i=>co (g.getD 0 []) ((g.getD 0 []).length-1)^((f.getD 0 []).length-(g.getD 0 []).length+1)*O7 f c i-mu u (O7 g c) i) (q:=u) (V8 g (by omega)) (fun i hi=>by
      show _*co (f.getD 0 []) i-mu u (co (g.getD 0 [])) i=0
      rw [he,Bm (p:=r) (by omega)]
      omega) (by omega) (by omega) (by omega) (tg.lead ng) (fun c i=>by
      rw [e0]
      show co (g.getD 0 []) ((g.getD 0 []).length-1)^_*_=_
      omega)
  rw [e0]at z
  exact z
theorem Ye {f:Addr}{fd:FuncData} (F:Df K mg "last_row" Nq ["first","second"] f fd)  (py:Pyl P base) (c_degree:Cal P w K mg base 33 "degree" ["one"] (Gw K)) (c_next_row:Cal P w K mg base 38 "next_row" ["first","second","known"] (Ol K)) (c_whole_power:Cal P w K mg base 36 "whole_power" ["number","many"] (G5 K)):Uw P w K mg base CX0 39 f fd ["first","second"] (Xp K):=by
  refine F.fn.ok Bk (fun vs H Q E h=> ?_) (fun cdv A outer s H vs Q E hr h=> ?_)
  . obtain⟨x,y,fs,gs,_,_,_,rfl,_⟩:=h
    rfl
  obtain⟨x,y,fs,gs,l,b,B,rfl,hx,hy,hgl,hf1,hf3,hl30,hl1,hb1,hcond,bf,bg,Kp,hcn,k⟩:=h
  obtain⟨ax,vx,ex,tx,atx,hx0⟩:=hx.first (by omega)
  obtain⟨ay,vy,ey,ty,aty,hy0⟩:=hy.first (by omega)
  refine S.Bb ⟨_,(S.Ac (S.Du (S.Al Wf (S.Aj c_degree (hr.mono (by decide)) (S.Aa (S.Bl Bc (S.pv 0) S.Ad (fun _ _=>rfl)) S.Ab)) (S.Aj c_degree (hr.mono (by decide)) (S.Aa (S.Bl Bc (S.pv 1) S.Ad (fun _ _=>rfl)) S.Ab)) (Ar _)) (S.Ae S.Lj) S.Ay)
      (S.Ac (S.Ah (i:=2) Bk.nd rfl (Or.inl rfl) S.Ad)
      (S.Ac (S.Ah (i:=3) Bk.nd rfl (Or.inl rfl) S.Ad)
      (S.Ac (S.Hh PassesOwn.never (S.Al R7 (S.Aj c_degree (hr.mono (by decide)) (S.Aa (S.Bl Bc (S.pv 1) S.Ad (fun _ _=>rfl)) S.Ab)) S.Ad (Ar _)) (S.Ac (S.Ah (i:=4) Bk.nd rfl (Or.inl rfl) (S.Ai Gg (S.Aj c_degree (hr.mono (by decide)) (S.Aa (S.Bl Bc (S.pv 0) S.Ad (fun _ _=>rfl)) S.Ab)) (S.Aj c_degree (hr.mono (by decide)) (S.Aa (S.Bl Bc (S.pv 1) S.Ad (fun _ _=>rfl)) S.Ab))))
      (S.Ac (S.Ah (i:=5) Bk.nd rfl (Or.inl rfl) (S.Ai Cg (S.pv 2) (S.Aj c_whole_power (hr.mono (by decide)) (S.Aa (S.pv 3) (S.Aa (S.pv 4) S.Ab)))))
      (S.Ac (S.Ah (i:=6) Bk.nd rfl (Or.inl rfl) (S.Aj c_next_row (hr.mono (by decide)) (S.Aa (S.pv 0) (S.Aa (S.pv 1) (S.Aa (S.pv 5) S.Ab)))))
      (S.Ac (S.Ah (i:=2) Bk.nd rfl (Or.inl rfl) (S.Bl Bc (S.Bl Bc (S.pv 1) S.Ad (fun _ _=>rfl)) (S.Hv Gf S.Ad) (fun _ _=>rfl)))
      (S.Ac (S.Du (S.Al R7 (S.pv 4) S.Ad (Ar _)) (S.Ae (S.Ah (i:=3) Bk.nd rfl (Or.inl rfl) (S.Ai (Lp py (hr.far (by decide)) rfl rfl rfl rfl rfl) (S.Aj c_whole_power (hr.mono (by decide)) (S.Aa (S.pv 2) (S.Aa (S.pv 4) S.Ab))) (S.Aj c_whole_power (hr.mono (by decide)) (S.Aa (S.pv 3) (S.Aa (S.Ai Gg (S.pv 4) S.Ad) S.Ab)))))) S.Ay)
      (S.Ae (S.Qi (i:=0) (j:=1) rfl Bk.nd rfl rfl (by decide) rfl rfl (S.Aa (S.pv 1) (S.Aa (S.pv 6) S.Ab)) rfl))))))))
      (S.Ae (S.Ao (S.Ny (S.Al (J2 hr.units) (S.Bl Bc (S.pv 1) S.Ad (fun _ _=>rfl)) (S.Bq S.Ab) (Ar _)) (S.pv 0) (S.pv 1)))))))),?_⟩
  refine Ba (fun σ' H'=>Same H H'/\σ'=[some x,some y,none,none,none,none,none]) (fun N hN=> ?_) ?_
  . contradiction
    rw [ex,ey]at hN ⊢
    refine Dj tx atx (Dd hx0 (Same.refl _) ?_)
    try contradiction
    refine Dj ty aty (Dd hy0 (Same.refl _) ?_)
    try contradiction
    rw [if_neg (by have:(gs.getD 0 []).length<=(fs.getD 0 []).length:=hcn;omega)]
    exact hN _ _ ⟨Same.refl _,rfl⟩
  rintro σ H1 ⟨s1,rfl⟩
  clear ex ey tx ty
  obtain⟨N,hN⟩:∃N,N=(b+6)*(2*l)+1:=⟨_,rfl⟩
  have hNb:N<=400000:=by
    have:(4*l)*(b+6)<=(4*l+l*l)*(b+6):=Nat.mul_le_mul_right _ (Nat.le_add_right _ _)
    have e:(4*l)*(b+6)=2*((b+6)*(2*l)):=by grind
    omega
  have kb:∀x st:Nat,x<=(fs.getD 0 []).length-1->st<=x->N+st*((b+6)*((fs.getD 0 []).length-1+((gs.getD 0 []).length-1)-2*x)+1)+3<=400000:=fun x st hx hst=>by
    have lf:=(hx0.2.2.1)
    have lg:=(hy0.2.2.1)
    have z:=Abk (l:=l) (b:=b) (n1:=(fs.getD 0 []).length-1) (n2:=(gs.getD 0 []).length-1) (x:=x) (s:=st) (by omega) (by omega) hx hst
    have e:(4*l+l*l)*(b+6)=2*((b+6)*(2*l))+l*l*(b+6):=by grind
    omega
  have LB:b<=N:=by
    have:(b+6)*1<=(b+6)*(2*l):=Nat.mul_le_mul_left _ (by omega)
    omega
  refine Ba (fun σ' H'=>H1=H'/\σ'=[some x,some y,some (.int 1),none,none,none,none]) (fun N hN=> ?_) ?_
  . contradiction
    exact hN _ _ ⟨rfl,rfl⟩
  rintro σ H2 ⟨rfl,rfl⟩
  refine Ba (fun σ' H'=>H1=H'/\σ'=[some x,some y,some (.int 1),some (.int 1),none,none,none]) (fun N hN=> ?_) ?_
  . contradiction
    exact hN _ _ ⟨rfl,rfl⟩
  rintro σ H2 ⟨rfl,rfl⟩
  refine Ba (fun σ' H'=>Same H1 H'/\∃(v w:V) (f g:List (List Int)) (o2 o3 o4 o5 o6:Option V),σ'=[some v,some w,o2,o3,o4,o5,o6]/\Rw K H' v f (2*l) N/\Rw K H' w g (2*l) N/\f.length=fs.length/\g.length=fs.length/\(g.getD 0 []).length<2/\Rr (f.getD 0 []) (g.getD 0 []) (fs.getD 0 []) (gs.getD 0 [])/\B f/\B g) (fun M hM=> ?_) ?_
  . contradiction
    refine Yu (fun m σ' H'=>Same H1 H'/\∃(v w:V) (f g:List (List Int)) (ld ht:Int) (o4 o5 o6:Option V),σ'=[some v,some w,some (.int ld),some (.int ht),o4,o5,o6]/\m=(g.getD 0 []).length/\Rw K H' v f (2*l) N/\Rw K H' w g (2*l) N/\f.length=fs.length/\g.length=fs.length/\(g.getD 0 []).length<=(f.getD 0 []).length/\(f.getD 0 []).length<=(fs.getD 0 []).length/\(g.getD 0 []).length<=(gs.getD 0 []).length/\ld≠0/\Sz N ld/\ht≠0/\Sz ((b+6)*((fs.getD 0 []).length-1+((gs.getD 0 []).length-1)-2*((f.getD 0 []).length-1))+1) ht/\
        (g.getD 0 []≠ []->Chn (O7 fs) ((fs.getD 0 []).length-1) (O7 gs) ((gs.getD 0 []).length-1) (O7 f) ((f.getD 0 []).length-1) (O7 g) ((g.getD 0 []).length-1) ld ht)/\Rr (f.getD 0 []) (g.getD 0 []) (fs.getD 0 []) (gs.getD 0 [])/\B f/\B g) _
      ⟨Same.refl _,x,y,fs,gs,1,1,_,_,_,rfl,rfl,(hx.mono s1).weak (by omega) LB,(hy.mono s1).weak (by omega) LB,rfl,hgl,hcn,Nat.le_refl _,Nat.le_refl _,by decide,(show Sz 1 (1:Int)by unfold Sz;decide).mono (by omega),by decide,(show Sz 1 (1:Int)by unfold Sz;decide).mono (by omega),fun _=>Chn.start _ _ _ _,Rr.refl _ _,bf,bg⟩ ?_
    rintro m σ' H3 ⟨s3,v,w,f,g,ld,ht,o4,o5,o6,rfl,rfl,iv,iw,lf,lg,hle,hfl,hgle,ld0,zld,ht0,zht,ch,sm,Bf,Bg⟩
    obtain⟨av,vv,rfl,tv,atv,pv0⟩:=iv.first (by omega)
    obtain⟨aw,vw,rfl,tw,atw,pw0⟩:=iw.first (by omega)
    contradiction
    refine Dj tw atw (Dd pw0 (Same.refl _) ?_)
    try contradiction
    by_cases hg2:(0:Int)<((g.getD 0 []).length:Int)-1
    case neg=>
      rw [if_neg hg2]
      exact hM _ _ ⟨s3,_,_,f,g,_,_,_,_,_,rfl,iv,iw,lf,lg,by omega,sm,Bf,Bg⟩
    rw [if_pos hg2]
    have g2:2<=(g.getD 0 []).length:=by omega
    have gn:g.getD 0 []≠ []:=fun z=>by rw [z]at g2;exact absurd g2 (by decide)
    replace ch:=ch gn
    obtain⟨δ,hδ⟩:∃δ,δ=(f.getD 0 []).length-(g.getD 0 []).length:=⟨_,rfl⟩
    obtain⟨lg0,hlg0⟩:∃x,x=co (g.getD 0 []) ((g.getD 0 []).length-1):=⟨_,rfl⟩
    have lgn:lg0≠0:=by rw [hlg0];exact pw0.2.1.lead gn
    have lfl:=hx0.2.2.1
    have bits:=kb ((f.getD 0 []).length-1) δ (by omega) (by omega)
    have pz:=Vc zht δ
    have bz:Sz LIM (ld*ht^δ):=(zld.mul pz).mono (by
      rw [Ah1]
      rw [Nat.mul_comm _ δ]
      omega)
    have bne:ld*ht^δ≠0:=Int.mul_ne_zero ld0 (Qc ht0 _)
    have hbz:(b+6)*((fs.getD 0 []).length-1+((gs.getD 0 []).length-1)-2*((f.getD 0 []).length-1))<=(b+6)*(2*l):=Nat.mul_le_mul_left _ (by have:=hy0.2.2.1;omega)
    refine Ajs ?_
    refine Ba (fun σ' H'=>H'=H3/\σ'=[some (.ref av),some (.ref aw),some (.int ld),some (.int ht),some (.int (δ:Nat)),o5,o6]) (fun N hN=> ?_) ?_
    . contradiction
      refine Dj tv atv (Dd pv0 (Same.refl _) ?_)
      try contradiction
      refine Dj tw atw (Dd pw0 (Same.refl _) ?_)
      try contradiction
      have e:((f.getD 0 []).length:Int)-1-(((g.getD 0 []).length:Int)-1)=(δ:Nat):=by omega
      rw [e]
      exact hN _ _ ⟨rfl,rfl⟩
    rintro σ' H4 ⟨rfl,rfl⟩
    refine Ba (fun σ' H'=>Same H4 H'/\σ'=[some (.ref av),some (.ref aw),some (.int ld),some (.int ht),some (.int (δ:Nat)),some (.int (ld*ht^δ)),o6]) (fun M' hM'=> ?_) ?_
    . contradiction
      refine Aap rfl ht0 zht (by omega) (by omega) fun H' s'=> ?_
      try contradiction
      exact⟨zld.mulOk pz (by rw [Nat.mul_comm _ δ];omega),hM' _ _ ⟨s',rfl⟩⟩
    rintro σ' H5 ⟨s5,rfl⟩
    refine Ba (fun σ' H'=>Same H4 H'/\∃(t:V) (ts:List (List Int)) (u r:List Int) (e:Int),σ'=[some (.ref av),some (.ref aw),some (.int ld),some (.int ht),some (.int (δ:Nat)),some (.int (ld*ht^δ)),some t]/\Rw K H' t ts (2*l) N/\ts.length=fs.length/\(ts.getD 0 []).length<(g.getD 0 []).length/\u.length<=δ+1/\(∀c,c<fs.length->∀i,lg0^(δ+1)*co (f.getD c []) i=ld*ht^δ*co (ts.getD c []) i+mu u (co (g.getD c [])) i)) (fun M' hM'=> ?_) ?_
    . contradiction
      refine⟨_,_,_,f,g,2*l,N,rfl,iv.mono s5,iw.mono s5,by omega,by omega,by omega,by omega,hNb,gn,hle,by omega,bne,bz,fun u r he hr hu c hc i=> ?_,fun z H6 ts u r s6 iz lz he hr hu hco=> ?_⟩
      . obtain⟨e,_,hex⟩:=Xm lf lg ch pw0.2.1 g2 hle he hr hu
        have:=hex c i
        unfold O7 at this
        rw [this,<-hδ]
        exact⟨_,rfl⟩
      . obtain⟨e,hse,hex⟩:=Xm lf lg ch pw0.2.1 g2 hle he hr hu
        rw [<-hδ,<-hlg0]at hex hco
        have Tv:∀c,c<fs.length->∀i,co (ts.getD c []) i=e*Sr ((g.getD 0 []).length-1-1) (O7 fs) ((fs.getD 0 []).length-1) (O7 gs) ((gs.getD 0 []).length-1) (c,i):=fun c hc i=>by
          have h1:lg0^(δ+1)*co (f.getD c []) i-mu u (co (g.getD c [])) i=_:=hex c i
          have h2:=hco c (by omega) i
          refine Int.eq_of_mul_eq_mul_left bne (Eq.trans ?_ h1)
          omega
        have ab:∀c i,(Sr ((g.getD 0 []).length-1-1) (O7 fs) ((fs.getD 0 []).length-1) (O7 gs) ((gs.getD 0 []).length-1) (c,i)).natAbs<=2^((b+6)*(2*l)):=fun c i=>by
          have hlg':=hy0.2.2.1
          refine Nat.le_trans (Ahr hx.abs hy.abs (by omega) (by omega) (by omega) (c,i)) (Nat.pow_le_pow_right (by decide) (Nat.mul_le_mul_left _ (by omega)))
        obtain⟨az,vz,rfl,tz,lvz,pz'⟩:=iz
        refine hM' _ _ ⟨s5.trans s6,_,ts,u,r,e,rfl,⟨az,vz,rfl,tz,lvz,fun c hc=> ?_⟩,by omega,?_,by omega,fun c hc i=>hco c (by omega) i⟩
        . have hp:=pz' c hc
          refine⟨hp.1,hp.2.1,?_,fun i=> ?_⟩
          . have h:=hp.2.1.len (q:=(ts.getD c []).take (2*l)) fun i=>by
              rw [Ks]
              split
              . rfl
              . rw [Tv c (by omega),Aka (l:=l) hx.top hy.top (by have:=hx0.2.2.1;omega) (by have:=hy0.2.2.1;omega) c i (by omega),Int.mul_zero]
            rw [List.length_take]at h
            omega
          . rw [Tv c (by omega)]
            unfold Sz
            rw [Int.natAbs_mul]
            have:e.natAbs=1:=by rcases hse with rfl | rfl<;>rfl
            rw [this,Nat.one_mul,hN]
            exact Nat.lt_of_le_of_lt (ab c i) (Nat.pow_lt_pow_right (by decide) (by omega))
        . have hp:=(pz' 0 (by omega)).2.1
          have h:=hp.len (q:=(ts.getD 0 []).take r.length) fun i=>by
            rw [Ks]
            split
            . rfl
            . have h1:=hco 0 (by omega) i
              have h2:=he i
              rw [<-hδ,<-hlg0,Bm (p:=r) (by omega)]at h2
              have:ld*ht^δ*co (ts.getD 0 []) i=0:=by omega
              rcases Int.mul_eq_zero.mp this with z | z
              . exact absurd z bne
              . exact z
          rw [List.length_take]at h
          omega
    rintro σ' H6 ⟨s6,t,ts,u,r,e,rfl,it,lt,hlt,hu,hco⟩
    refine Ba (fun σ' H'=>H'=H6/\σ'=[some (.ref av),some (.ref aw),some (.int lg0),some (.int ht),some (.int (δ:Nat)),some (.int (ld*ht^δ)),some t]) (fun M' hM'=> ?_) ?_
    . contradiction
      obtain⟨⟨b0,eb0,hb0⟩,_⟩:=id pw0
      refine Dj (s6.tup tw) atw ?_
      rw [eb0]
      refine Dj (s6.tup hb0) (Lf gn) ?_
      try contradiction
      rw [<-hlg0]
      exact hM' _ _ ⟨rfl,rfl⟩
    rintro σ' H7 ⟨rfl,rfl⟩
    have zlg:Sz N lg0:=by rw [hlg0];exact pw0.2.2.2 _
    refine Ba (fun σ' H'=>Same H7 H'/\∃h':Int,σ'=[some (.ref av),some (.ref aw),some (.int lg0),some (.int h'),some (.int (δ:Nat)),some (.int (ld*ht^δ)),some t]/\h'≠0/\Sz ((b+6)*((fs.getD 0 []).length-1+((gs.getD 0 []).length-1)-2*((g.getD 0 []).length-1))+1) h'/\(((f.getD 0 []).length-1=(g.getD 0 []).length-1/\h'=ht)\/((g.getD 0 []).length-1<(f.getD 0 []).length-1/\ht^((f.getD 0 []).length-1-((g.getD 0 []).length-1)-1)*h'=lg0^((f.getD 0 []).length-1-((g.getD 0 []).length-1))))) (fun M' hM'=> ?_) ?_
    . contradiction
      by_cases hd0:(0:Int)<(δ:Nat)
      . rw [if_pos hd0]
        obtain⟨e2,he2,hh⟩:=ch.height (V8 g (by omega)) (by omega)
        have hlt':=hy0.2.2.1
        have hz':Sz ((b+6)*((fs.getD 0 []).length-1+((gs.getD 0 []).length-1)-2*((g.getD 0 []).length-1))+1) (e2*Sr ((g.getD 0 []).length-1) (O7 fs) ((fs.getD 0 []).length-1) (O7 gs) ((gs.getD 0 []).length-1) (0,(g.getD 0 []).length-1)):=by
          unfold Sz
          rw [Int.natAbs_mul]
          have:e2.natAbs=1:=by rcases he2 with rfl | rfl<;>rfl
          rw [this,Nat.one_mul]
          exact Nat.lt_of_le_of_lt (Ahr hx.abs hy.abs (by omega) (by omega) (by omega) _) (Nat.pow_lt_pow_right (by decide) (by omega))
        generalize e2*Sr ((g.getD 0 []).length-1) (O7 fs) ((fs.getD 0 []).length-1) (O7 gs) ((gs.getD 0 []).length-1) (0,(g.getD 0 []).length-1)=h' at*
        have hh':ht^((f.getD 0 []).length-1-((g.getD 0 []).length-1)-1)*h'=lg0^((f.getD 0 []).length-1-((g.getD 0 []).length-1)):=by rw [hlg0];exact hh
        have ed:(f.getD 0 []).length-1-((g.getD 0 []).length-1)=δ:=by omega
        have h'n:h'≠0:=fun z=>by
          rw [z,Int.mul_zero]at hh'
          exact Qc lgn _ hh'.symm
        have pz1:=Vc zht (δ-1)
        have hpn:=Qc ht0 (δ-1)
        have pb:(δ-1)*((b+6)*((fs.getD 0 []).length-1+((gs.getD 0 []).length-1)-2*((f.getD 0 []).length-1))+1)<=δ*((b+6)*((fs.getD 0 []).length-1+((gs.getD 0 []).length-1)-2*((f.getD 0 []).length-1))+1):=Nat.mul_le_mul_right _ (by omega)
        refine Aap rfl lgn zlg (by omega) (by omega) fun Ha sa=> ?_
        try contradiction
        refine Aap (m:=δ-1) (by omega) ht0 zht (by omega) (by omega) fun Hb sb=> ?_
        try contradiction
        refine⟨hpn,?_⟩
        have ef:(lg0^δ).fdiv (ht^(δ-1))=h':=by
          rw [ed]at hh'
          rw [<-hh',Int.mul_fdiv_cancel_left _ hpn]
        rw [ef]
        exact hM' _ _ ⟨sa.trans sb,h',rfl,h'n,hz',.inr ⟨by omega,hh'⟩⟩
      . rw [if_neg hd0]
        have el:(f.getD 0 []).length=(g.getD 0 []).length:=by omega
        refine hM' _ _ ⟨Same.refl _,ht,rfl,ht0,?_,.inl ⟨by omega,rfl⟩⟩
        rw [<-el]
        exact zht
    rintro σ' H8 ⟨s8,h',rfl,h'n,zh',hh⟩
    contradiction
    refine⟨(ts.getD 0 []).length,hlt,s3.trans (s6.trans s8),.ref aw,t,g,ts,lg0,h',_,_,_,rfl,rfl,iw.mono (s6.trans s8),it.mono s8,lg,lt,by omega,by omega,by omega,lgn,zlg,h'n,zh',fun tn=> ?_,?_,Bg,?_⟩
    . have:=ch.next (T:=O7 ts) (k:=(ts.getD 0 []).length-1) (q:=u) (h':=h') (V8 g (by omega)) (V8 ts (by omega)) (by omega) (by omega) (by have:=List.length_pos_iff.mpr tn;omega) (by show co (g.getD 0 []) _≠0;rw [<-hlg0];exact lgn) ld0 ht0 (fun c i=> ?_) (by
        rcases hh with z | z
        . exact .inl z
        . exact .inr ⟨z.1,by show _=co (g.getD 0 []) _^_;rw [<-hlg0];exact z.2⟩)
      . show Chn _ _ _ _ (O7 g) _ (O7 ts) _ lg0 h'
        rw [hlg0]
        exact this
      . have ed:(f.getD 0 []).length-1-((g.getD 0 []).length-1)=δ:=by omega
        rw [ed]
        show co (g.getD 0 []) _^_*_=_
        rw [<-hlg0]
        exact Akz lf lg lt hco c i
    . refine Rr.trans (Aa2 (Qc lgn (δ+1)) bne (hco 0 (by omega))) sm
    . exact Kp f g ts u _ _ bne lf lg lt Bf Bg hco
  rintro σ H3 ⟨s3,v,w,f,g,o2,o3,o4,o5,o6,rfl,iv,iw,lf,lg,hg2,sm,Bf,Bg⟩
  obtain⟨av,vv,rfl,tv,atv,pv0⟩:=iv.first (by omega)
  obtain⟨aw,vw,rfl,tw,atw,pw0⟩:=iw.first (by omega)
  rw [hN]at iv iw
  contradiction
  refine Dj tw atw ?_
  try contradiction
  refine⟨by decide,fun e0 he0=> ?_⟩
  have se:=Same.upd he0 (.tup [])
  obtain⟨⟨b0,eb0,hb0⟩,tg0,_,_⟩:=id pw0
  rw [eb0]
  refine Dh (ms:=[]) (se.tup hb0) (.of Af) ?_
  try contradiction
  by_cases hg:g.getD 0 []=[]
  . rw [if_pos hg]
    rw [hg]at sm
    exact k _ _ f ((s1.trans s3).trans se) (iv.mono se) lf (Al6 pv0.2.1 sm) Bf
  . rw [if_neg hg]
    have gl1:(g.getD 0 []).length=1:=by
      have:=List.length_pos_iff.mpr hg
      omega
    obtain⟨c,hc⟩:∃c,g.getD 0 []=[c]:=by
      match hm:g.getD 0 [],gl1 with
      | [c],_=>exact⟨c,rfl⟩
    have c0:c≠0:=by
      have:=tg0.lead hg
      rw [hc]at this
      exact this
    rw [hc]at sm
    exact k _ _ g ((s1.trans s3).trans se) (iw.mono se) lg (by rw [hc];exact Afz c0 sm) Bg
theorem Ai4 {k:Nat}{f:Addr}{fd:FuncData}{ps:List Str}{s1 s2 s3:Sp} (a:Uw P w K mg base CX0 k f fd ps s1) (b:Uw P w K mg base CX0 k f fd ps s2) (h:∀vs H Q E,s3 vs H Q E->s1 vs H Q E\/s2 vs H Q E):Uw P w K mg base CX0 k f fd ps s3:=
  ⟨fun vs H Q E q=>(h _ _ _ _ q).elim (a.len vs H Q E) (b.len vs H Q E),fun A outer s H args us vs Q E hr he hb hv hs=>(h _ _ _ _ hs).elim (a.run A outer s H args us vs Q E hr he hb hv) (b.run A outer s H args us vs Q E hr he hb hv)⟩
theorem Y4 {f:Addr}{fd:FuncData} (F:Df K mg "last_row" Nq ["first","second"] f fd)  (py:Pyl P base) (c_degree:Cal P w K mg base 33 "degree" ["one"] (Gw K)) (c_next_row:Cal P w K mg base 38 "next_row" ["first","second","known"] (Ol K)) (c_whole_power:Cal P w K mg base 36 "whole_power" ["number","many"] (G5 K)):Cal P w K mg base 40 "last_row" ["first","second"] (Um K):=by
  have fo:=Ye (P:=P) (w:=w) (base:=base) F (py:=py) (c_degree:=c_degree) (c_whole_power:=c_whole_power) (c_next_row:=c_next_row)
  have c_last_row:=F.cal fo
  refine F.cal (Ai4 (s2:=Am9 K fun x y=>x<y) (fo.mono (by decide)) (F.fn.ok Bk (fun vs H Q E h=> ?_) (fun cdv A outer s H vs Q E hr h=> ?_)) fun vs H Q E h=> ?_)
  . obtain⟨x,y,fs,gs,_,_,_,rfl,_⟩:=h
    rfl
  . obtain⟨x,y,fs,gs,l,b,B,rfl,hx,hy,hgl,hf1,hf3,hl30,hl1,hb1,hcond,bf,bg,Kp,hcn,k⟩:=h
    obtain⟨ax,vx,ex,tx,atx,hx0⟩:=hx.first (by omega)
    obtain⟨ay,vy,ey,ty,aty,hy0⟩:=hy.first (by omega)
    refine S.Bb ⟨_,(S.Ac (S.Du (S.Al Wf (S.Aj c_degree (hr.mono (by decide)) (S.Aa (S.Bl Bc (S.pv 0) S.Ad (fun _ _=>rfl)) S.Ab)) (S.Aj c_degree (hr.mono (by decide)) (S.Aa (S.Bl Bc (S.pv 1) S.Ad (fun _ _=>rfl)) S.Ab)) (Ar _)) (S.Ae (S.Ao (S.Aj c_last_row (hr.mono (by decide)) (S.Aa (S.pv 1) (S.Aa (S.pv 0) S.Ab))))) S.Ay)
      (S.Ac (S.Ah (i:=2) Bk.nd rfl (Or.inl rfl) S.Ad)
      (S.Ac (S.Ah (i:=3) Bk.nd rfl (Or.inl rfl) S.Ad)
      (S.Ac (S.Hh PassesOwn.never (S.Al R7 (S.Aj c_degree (hr.mono (by decide)) (S.Aa (S.Bl Bc (S.pv 1) S.Ad (fun _ _=>rfl)) S.Ab)) S.Ad (Ar _)) (S.Ac (S.Ah (i:=4) Bk.nd rfl (Or.inl rfl) (S.Ai Gg (S.Aj c_degree (hr.mono (by decide)) (S.Aa (S.Bl Bc (S.pv 0) S.Ad (fun _ _=>rfl)) S.Ab)) (S.Aj c_degree (hr.mono (by decide)) (S.Aa (S.Bl Bc (S.pv 1) S.Ad (fun _ _=>rfl)) S.Ab))))
      (S.Ac (S.Ah (i:=5) Bk.nd rfl (Or.inl rfl) (S.Ai Cg (S.pv 2) (S.Aj c_whole_power (hr.mono (by decide)) (S.Aa (S.pv 3) (S.Aa (S.pv 4) S.Ab)))))
      (S.Ac (S.Ah (i:=6) Bk.nd rfl (Or.inl rfl) (S.Aj c_next_row (hr.mono (by decide)) (S.Aa (S.pv 0) (S.Aa (S.pv 1) (S.Aa (S.pv 5) S.Ab)))))
      (S.Ac (S.Ah (i:=2) Bk.nd rfl (Or.inl rfl) (S.Bl Bc (S.Bl Bc (S.pv 1) S.Ad (fun _ _=>rfl)) (S.Hv Gf S.Ad) (fun _ _=>rfl)))
      (S.Ac (S.Du (S.Al R7 (S.pv 4) S.Ad (Ar _)) (S.Ae (S.Ah (i:=3) Bk.nd rfl (Or.inl rfl) (S.Ai (Lp py (hr.far (by decide)) rfl rfl rfl rfl rfl) (S.Aj c_whole_power (hr.mono (by decide)) (S.Aa (S.pv 2) (S.Aa (S.pv 4) S.Ab))) (S.Aj c_whole_power (hr.mono (by decide)) (S.Aa (S.pv 3) (S.Aa (S.Ai Gg (S.pv 4) S.Ad) S.Ab)))))) S.Ay)
      (S.Ae (S.Qi (i:=0) (j:=1) rfl Bk.nd rfl rfl (by decide) rfl rfl (S.Aa (S.pv 1) (S.Aa (S.pv 6) S.Ab)) rfl))))))))
      (S.Ae (S.Ao (S.Ny (S.Al (J2 hr.units) (S.Bl Bc (S.pv 1) S.Ad (fun _ _=>rfl)) (S.Bq S.Ab) (Ar _)) (S.pv 0) (S.pv 1)))))))),?_⟩
    contradiction
    rw [ex,ey]
    refine Dj tx atx (Dd hx0 (Same.refl _) ?_)
    try contradiction
    refine Dj ty aty (Dd hy0 (Same.refl _) ?_)
    try contradiction
    rw [if_pos (by omega),<-ex,<-ey]
    exact⟨y,x,gs,fs,l,b,B,rfl,hy,hx,by omega,by omega,by omega,hl30,hl1,hb1,hcond,bg,bf,by rw [hgl];exact Kp,by show(fs.getD 0 []).length<=_;omega,fun z H' hs s' iz lz gc Bh=>k z H' hs s' iz (by omega) gc.symm Bh⟩
  . obtain⟨x,y,fs,gs,l,b,B,e,hx,hy,hgl,hf1,hf3,hl30,hl1,hb1,hcond,bf,bg,Kp,_,k⟩:=h
    by_cases hcn:(gs.getD 0 []).length<=(fs.getD 0 []).length
    . exact .inl ⟨x,y,fs,gs,l,b,B,e,hx,hy,hgl,hf1,hf3,hl30,hl1,hb1,hcond,bf,bg,Kp,hcn,k⟩
    . exact .inr ⟨x,y,fs,gs,l,b,B,e,hx,hy,hgl,hf1,hf3,hl30,hl1,hb1,hcond,bf,bg,Kp,by omega,k⟩
theorem Ah4 {H:Hp}{a:Addr}{v:V}{p:List Int}{l n:Nat} (h:SqT K H a [v]) (hp:Po K H v p l n):Rw K H (.ref a) [p] l n:=⟨a,[v],rfl,h,rfl,fun c hc=>by
  have:c=0:=by simpa using hc
  subst this
  exact hp⟩
def Few (l b:Nat):Prop:=l<=30/\1<=l/\1<=b/\(4*l+l*l)*(b+6)+4*l+10<=750000
theorem Few.bits {l b:Nat} (h:Few l b):(b+6)*(2*l)+1<=400000:=by
  obtain⟨_,_,_,h⟩:=h
  have:(4*l)*(b+6)<=(4*l+l*l)*(b+6):=Nat.mul_le_mul_right _ (Nat.le_add_right _ _)
  have e:(4*l)*(b+6)=2*((b+6)*(2*l)):=by grind
  omega
def K3 (K:PySem.W.Frag):Sp:=fun vs H Q _=>∃(x y:V) (p q:List Int) (l b:Nat),vs=[x,y]/\Po K H x p l b/\Po K H y q l b/\Few l b/\∀z H' g,Same H H'->Po K H' z g (2*l) ((b+6)*(2*l)+1)->Gc p q g->Q z H'
theorem Acq {f:Addr}{fd:FuncData} (F:Df K mg "shared" Vq ["one","other"] f fd)   (c_surely_apart:Cal P w K mg base 38 "surely_apart" ["one","other"] (Mq K)) (c_plain:Cal P w K mg base 37 "plain" ["one"] (Nx K)) (c_last_row:Cal P w K mg base 40 "last_row" ["first","second"] (Um K)):Cal P w K mg base 41 "shared" ["one","other"] (K3 K):=by
  refine F.cal (F.fn.ok Ad7 (fun vs H Q E h=> ?_) (fun cdv A outer s H vs Q E hr h=> ?_))
  . obtain⟨x,y,p,q,_,_,rfl,_⟩:=h
    rfl
  obtain⟨x,y,p,q,l,b,rfl,hx,hy,few,k⟩:=h
  have fb:=few.bits
  obtain⟨f1,f2,f3,f4⟩:=few
  refine S.Bb ⟨_,(S.Ac (S.Du (S.Jp (S.Aj c_surely_apart (hr.mono (by decide)) (S.Aa (S.pv 0) (S.Aa (S.pv 1) S.Ab)))) (S.Ae (S.Ao (S.Bq (S.Aa S.Ad S.Ab)))) S.Ay)
      (S.Ae (S.Ao (S.Aj c_plain (hr.mono (by decide)) (S.Aa (S.Bl Bc (S.Aj c_last_row (hr.mono (by decide)) (S.Aa (S.Bq (S.Aa (S.pv 0) S.Ab)) (S.Aa (S.Bq (S.Aa (S.pv 1) S.Ab)) S.Ab))) S.Ad (fun _ _=>rfl)) S.Ab))))),?_⟩
  contradiction
  refine⟨x,y,p,q,l,l,b,b,rfl,hx,hy,by omega,by omega,fun bb H1 s1 hb=> ?_⟩
  try contradiction
  split
  . rename_i h
    intro z hz
    have sz:=Same.upd hz (.tup [V.int 1])
    refine k _ _ [1] (s1.trans sz) ⟨⟨z,rfl,.of Af⟩,.inr ⟨by simp,by decide⟩,by simp;omega,fun i=>Yw (by omega) (fun x hx=>by
      have:x=1:=by simpa using hx
      subst this
      exact(show Sz 1 (1:Int)by unfold Sz;decide).mono (by omega)) i⟩ (hb h)
  . (intro q1 hq1;generalize eq1:upd _ q1 _=Gq1;obtain⟨sq1,gq1⟩:=nw hq1 eq1;clear eq1 hq1)
    (intro q2 hq2;generalize eq2:upd _ q2 _=Gq2;obtain⟨sq2,gq2⟩:=nw hq2 eq2;clear eq2 hq2)
    have s2:=(s1.trans sq1).trans sq2
    refine⟨_,_,[p],[q],l,b,fun _=>True,rfl,Ah4 (.of (sq2 _ _ gq1)) (hx.mono s2),Ah4 (.of gq2) (hy.mono s2),rfl,Nat.le_refl 1,show 1<=3 by decide,f1,f2,f3,f4,trivial,trivial,fun _ _ _ _ _ _ _ _ _ _ _ _ _=>trivial,trivial,fun z H' hs s' iz lz gc _=> ?_⟩
    obtain⟨az,vz,rfl,tz,atz,pz⟩:=iz.first (by rw [lz];exact Nat.le_refl 1)
    refine Dj tz atz ?_
    try contradiction
    exact T8 pz (Same.refl _) (by omega) fb fun w H2 s3 iw=>k w H2 _ ((s2.trans s').trans s3) iw gc
theorem Nz {H H1 H2:Hp}{Q:VK}{E:XK}{x y:V}{p q:List Int}{l b:Nat} (hx:Po K H1 x p l b) (s1:Same H1 H) (hy:Po K H2 y q l b) (s2:Same H2 H) (f:Few l b) (h:∀z H' g,Same H H'->Po K H' z g (2*l) ((b+6)*(2*l)+1)->Gc p q g->Q z H'):K3 K [x,y] H Q E:=⟨x,y,p,q,l,b,rfl,hx.mono s1,hy.mono s2,f,h⟩
theorem Aoz (xs:List V):T6 xs (some 1) none=xs.drop 1:=by
  unfold T6
  rw [HT.S6,show(some (1:Int))=some ((1:Nat):Int)from rfl,HT.Vz]
  cases xs with
  | nil=>rfl
  | cons x r=>
    rw [Nat.min_eq_left (by simp),List.take_of_length_le (by simp)]
def Ju (K:PySem.W.Frag):Sp:=fun vs H Q _=>∃(x:V) (p:List Int) (l n:Nat),vs=[x]/\Po K H x p l n/\l<=200/\n<=100000/\∀z H',Same H H'->Po K H' z (dr p) l (n+8)->Q z H'
theorem Abm {f:Addr}{fd:FuncData} (F:Df K mg "derived" Pb ["one"] f fd) (z_tuple:mg "tuple"=none) (z_enumerate:mg "enumerate"=none)   :Cal P w K mg base 33 "derived" ["one"] (Ju K):=by
  refine F.cal (F.fn.ok Aa1 (fun vs H Q E h=> ?_) (fun cdv A outer s H vs Q E hr h=> ?_))
  . obtain⟨x,p,_,_,rfl,_⟩:=h
    rfl
  obtain⟨x,p,l,n,rfl,hx,hl,hn,k⟩:=h
  obtain⟨⟨a,rfl,ha⟩,tp,lp,zp⟩:=id hx
  refine S.Bb ⟨_,(S.Ae (S.Ao (S.Hg Gi rfl z_tuple PyProof.Rows.boot_tuple (S.Aa (S.Ln Zn (S.Kv (ts:=["place","weight"]) (fs:=[]) rfl (Dp.of (sc:=Ag Pb) (N:=["one"]) rfl rfl (by decide+kernel)) (S.U3 rfl z_enumerate (S.Aa (S.pv 0) S.Ab)) (fun _ _ _=>(S.Rf K 2 rfl rfl (S.Bd (S.Aw (i:=0) (show List.Nodup (["place","weight"]:List Str)by decide+kernel) rfl (Or.inl rfl) (hf:=Or.inr rfl)) (S.Bd (S.Aw (i:=1) (show List.Nodup (["place","weight"]:List Str)by decide+kernel) rfl (Or.inl rfl) (hf:=Or.inr rfl)) S.Gv)))) (fun _ _ _=>S.Jz) (fun _ _ _=>(S.Ai Cg (S.pv 0) (S.pv 1)))) (S.O6 S.Ad) S.Oq) S.Ab)))),?_⟩
  contradiction
  refine⟨⟨_,ha⟩,fun p1 hp1=>Alx (es:=p) (inj:=V.int) (fun i e=> .int ((i:Int)*e)) (Nat.le_trans lp (Nat.le_trans hl (by decide))) hp1 ha ?_ ?_⟩
  . intro i e b H2 R he s2 hb hR
    have hi:i<p.length:=(List.getElem?_eq_some_iff.mp he).1
    have ze:Sz n e:=hx.mem e (List.mem_of_getElem? he)
    refine J1 (.of Af) ?_
    contradiction
    exact⟨(show Sz 8 ((i:Nat):Int)by unfold Sz;omega).mulOk ze (by omega),hR _ (Same.upd hb _)⟩
  intro H2 s2 h2
  have em:(p.mapIdx fun i e=>V.int ((i:Int)*e))=(p.mapIdx fun i e=>(i:Int)*e).map V.int:=by
    apply List.ext_getElem?
    intro i
    rw [List.getElem?_map,List.getElem?_mapIdx,List.getElem?_mapIdx]
    cases p[i]? <;>rfl
  rw [em]at h2
  have ec:T6 ((p.mapIdx fun i e=>(i:Int)*e).map V.int) (some 1) none=(dr p).map V.int:=by
    rw [Aoz,dr,List.map_drop]
  refine⟨p1,_,rfl,.of h2,fun p2 hp2=>⟨p2,_,rfl,.inl ⟨.of Af,fun p3 hp3=> ?_⟩⟩⟩
  rw [ec]at hp3 ⊢
  refine k _ _ ((s2.trans (Same.upd hp2 _)).trans (Same.upd hp3 _)) ⟨⟨p3,rfl,.of Af⟩,Ajv tp,by rw [Yk];omega,fun i=> ?_⟩
  rw [U6]
  by_cases hi:i+1<p.length
  . exact((show Sz 8 ((i:Nat)+1:Int)by unfold Sz;omega).mul (zp (i+1))).mono (by omega)
  . rw [Bm (by omega),Int.mul_zero]
    exact Sz0 (by omega)
theorem J4 {H H1:Hp}{Q:VK}{E:XK}{x:V}{p:List Int}{l n:Nat} (hx:Po K H1 x p l n) (s1:Same H1 H) (hl:l<=200) (hn:n<=100000) (h:∀z H',Same H H'->Po K H' z (dr p) l (n+8)->Q z H'):Ju K [x] H Q E:=⟨x,p,l,n,rfl,hx.mono s1,hl,hn,h⟩
open Classical in
noncomputable def frB (p:List Int):Bool:=decide (p≠ []/\∃g,Gc p (dr p) g/\g.length=1)
open Classical in
theorem Aef {p g:List Int} (h:p≠ []) (hg:Gc p (dr p) g):frB p=decide (g.length=1):=by
  unfold frB
  by_cases e:g.length=1
  . rw [decide_eq_true e]
    exact decide_eq_true ⟨h,g,hg,e⟩
  . rw [decide_eq_false e]
    refine decide_eq_false ?_
    rintro⟨_,g',hg',e'⟩
    rw [hg'.uniq hg]at e'
    exact e e'
open Classical in
theorem Acd:frB []=false:=by
  unfold frB
  exact decide_eq_false fun h=>h.1 rfl
def Ri (K:PySem.W.Frag):Sp:=fun vs H Q _=>∃(x:V) (p:List Int) (l b:Nat),vs=[x]/\Po K H x p l b/\Few l (b+8)/\b<=100000/\∀H',Same H H'->Q (.bl (frB p)) H'
theorem Aa7 {f:Addr}{fd:FuncData} (F:Df K mg "is_free" Tc ["one"] f fd)   (c_degree:Cal P w K mg base 33 "degree" ["one"] (Gw K)) (c_shared:Cal P w K mg base 41 "shared" ["one","other"] (K3 K)) (c_derived:Cal P w K mg base 33 "derived" ["one"] (Ju K)):Cal P w K mg base 42 "is_free" ["one"] (Ri K):=by
  refine F.cal (F.fn.ok Abg (fun vs H Q E h=> ?_) (fun cdv A outer s H vs Q E hr h=> ?_))
  . obtain⟨x,p,_,_,rfl,_⟩:=h
    rfl
  obtain⟨x,p,l,b,rfl,hx,few,hb,k⟩:=h
  obtain⟨⟨a,rfl,ha⟩,tp,lp,zp⟩:=id hx
  refine S.Bb ⟨_,(S.Ae (S.Ao (S.Tq (S.Gz (Vg hr.units) (S.pv 0) (S.Bq S.Ab) (Ar _)) (S.Rx (S.Gz N6 (S.Aj c_degree (hr.mono (by decide)) (S.Aa (S.Aj c_shared (hr.mono (by decide)) (S.Aa (S.pv 0) (S.Aa (S.Aj c_derived (hr.mono (by decide)) (S.Aa (S.pv 0) S.Ab)) S.Ab))) S.Ab)) S.Ad (Ar _)))))),?_⟩
  contradiction
  refine⟨by decide,fun e0 he0=> ?_⟩
  have se:=Same.upd he0 (.tup [])
  refine Dh (ms:=[]) (se.tup ha) (.of Af) ?_
  by_cases h0:p=[]
  . subst h0
    try contradiction
    rw [Acd]at k
    exact k _ se
  . rw [decide_eq_false h0]
    try contradiction
    refine J4 hx se (by have:=few.1;omega) hb fun z H1 s1 i1=> ?_
    try contradiction
    have hx1:Po K H1 (.ref a) p l (b+8):=⟨⟨a,rfl,(se.trans s1).tup ha⟩,tp,lp,fun i=>(zp i).mono (by omega)⟩
    refine Nz hx1 (Same.refl _) i1 (Same.refl _) few fun z2 H2 g s2 i2 gc=> ?_
    try contradiction
    refine Dd i2 (Same.refl _) ?_
    try contradiction
    have e:decide (((g.length:Nat):Int)-1=0)=frB p:=by
      rw [Aef h0 gc]
      exact decide_eq_decide.mpr ⟨fun h=>by omega,fun h=>by omega⟩
    rw [e]
    exact k _ ((se.trans s1).trans s2)
theorem Po.weak {H:Hp}{p:List Int}{v:V}{l n l2 n2:Nat} (h:Po K H v p l n) (h1:l<=l2) (h2:n<=n2):Po K H v p l2 n2:=⟨h.1,h.2.1,Nat.le_trans h.2.2.1 h1,fun i=>(h.2.2.2 i).mono h2⟩
theorem Wm {p q:List Int} (tq:Tr q) (nq:q≠ []) (pq:pln q=q) (dv:Dv q p):Exact p q:=Nk tq nq (by have:=Jh tq nq;rwa [pq]at this) dv
theorem Aek {H:Hp}{Q:VK}{p q:List Int}{l n:Nat} (tp:Tr p) (lp:p.length<=l) (l13:l<=13) (zp:∀i,Sz n (co p i)) (tq:Tr q) (nq:q≠ []) (pq:pln q=q) (dv:Dv q p) (k:∀z H' u,Same H H'->Po K H' z u l (n+141)->tm u q=p->Q z H'):WpR K p q Q H:=by
  refine⟨fun h=>absurd (Wm tq nq pq dv) h,fun z H' u s iu e=> ?_⟩
  have eu:tm u q=p:=(Gy _ _).ext tp fun i=>by rw [Ci,e]
  refine k z H' u s ?_ eu
  obtain⟨tu,lu,zu⟩:=iu.2
  by_cases hp:p=[]
  . have u0:u=[]:=Classical.byContradiction fun nu=>by
      rw [hp]at eu
      exact Aiv tu tq nu nq eu
    subst u0
    exact⟨iu.1,tu,Nat.zero_le _,fun i=>by rw [Az];exact Sz0 (by omega)⟩
  . have nu:u≠ []:=fun z=>hp (by rw [<-eu,z];rfl)
    have ul:=Oh tu tq nu nq
    rw [eu]at ul
    have q1:=List.length_pos_iff.mpr nq
    refine⟨iu.1,tu,by omega,fun i=> ?_⟩
    have:=Adj (p:=p) (T:=u) (S:=q) (n:=n) (fun i=>by rw [e,J8]) ⟨p.length-1,tp.lead hp⟩ (fun i=>Nat.le_of_lt (zp i)) (by omega) (by omega) i
    refine Nat.lt_of_le_of_lt this ?_
    exact Nat.pow_lt_pow_right (by decide) (by omega)
def Jg (K:PySem.W.Frag):Sp:=fun vs H Q E=>∃(x:V) (p:List Int) (l n:Nat),vs=[x]/\Po K H x p l n/\(p≠ []->∀H',Same H H'->Q .non H')/\(p=[]->∀H',Same H H'->E (.ref (cA K "NoFree")) none H')
theorem Sq {f:Addr}{fd:FuncData} (F:Df K mg "refuse_nought" Jy ["one"] f fd)  (xk_NoFree:Wz K (cA K "NoFree")) (xm_NoFree:mg "NoFree"=some (.ref (cA K "NoFree")))  :Oz P w K mg base 33 "refuse_nought" ["one"] (Jg K):=by
  refine F.calE (F.fn.okE R5 (fun vs H Q E h=> ?_) (fun cdv A outer s H vs Q E hr h=> ?_))
  . obtain⟨x,p,_,_,rfl,_⟩:=h
    rfl
  obtain⟨x,p,l,n,rfl,hx,k,kx⟩:=h
  obtain⟨⟨a,rfl,ha⟩,tp,lp,zp⟩:=id hx
  refine S.Bb ⟨_,(S.Ae (S.Du (S.Al (J2 hr.units) (S.pv 0) (S.Bq S.Ab) (Ar _)) (S.Ae (S.Hi xk_NoFree xm_NoFree (S.Aa S.K8 S.Ab))) S.Ay)),?_⟩
  simp only [Ib,Fv,Il,Ii,Fz,Hy,Bw,Hu,Em,Ef,z_c,Pj,Qq,Qx,Iz,Qu,Iw,Hw,Im,Hz,Ea,Qp,Hr,Ij,Ip,Fg,Fq,Ie,Hs,Qs,Fj,Ht,Er,Qw,Fi,Ia,Ga,Qt,Hq,Iv,Cz,Ew,Ez,Fy,Cr,Ed,Ir,Ih,Hl,G7,Qv,Bo,Et,Ig,Qo,Iu,Fe,Ja,Jc,Ei,Io,Eo,Eh,Fl,Cm,Jb,Cq,En,Ek,Ft,Cy,Es,Cu,Hx,Ey,Ho,Ej,Fx,Ec,Cv,Bp,Ck,Fw,Ik,El,Fo,Cw,Eu,Qn,cpσ,List.getElem?_cons_zero,List.getElem?_cons_succ,Option.join_some,List.set_cons_zero,List.set_cons_succ,List.append_nil,decide_eq_true_eq,Bool.not_eq_true',decide_eq_false_iff_not,Bool.not_not,ite_not,Bool.false_eq_true,Bool.true_eq_false,if_false,if_true,if_pos,List.length_cons,List.length_nil,Nat.zero_add,Nat.reduceAdd,Fb,Ep,true_and,and_true,L2.start,List.map_cons,List.map_nil,Bool.not_true,Bool.not_false,Nat.reduceSub,List.replicate_succ,List.replicate_zero,List.cons_append,List.nil_append]
  refine⟨by decide,fun e0 he0=> ?_⟩
  have se:=Same.upd he0 (.tup [])
  refine Dh (ms:=[]) (se.tup ha) (.of Af) ?_
  try contradiction
  by_cases h0:p=[]
  . rw [if_pos h0]
    exact kx h0 _ se
  . rw [if_neg h0]
    exact k h0 _ se
structure Fre (A W G:Pol):Prop where
  nA:A≠0
  pA:pln A.l=A.l
  gc:Gc A.l (D A).l G.l
  eA:A=W*G
theorem Fre.uniq {A W G W' G':Pol} (h:Fre A W G) (k:Fre A W' G'):W=W':=by
  have e:G=G':=Mj fun i=>by rw [h.gc.uniq k.gc]
  subst e
  have nG:G≠0:=fun z=>h.nA (by rw [h.eA,z];grind)
  exact Dw nG (by rw [<-h.eA,<-k.eA])
theorem Fre.sq {A W G:Pol} (h:Fre A W G):∃V,D A=V*G/\Sqf W:=by
  have nG:G≠0:=fun z=>h.nA (by rw [h.eA,z];grind)
  have nW:W≠0:=fun z=>h.nA (by rw [h.eA,z];grind)
  obtain⟨v,hv⟩:=Wm G.tr (Bu.mp nG) h.gc.pl h.gc.two
  have eV:D A=⟨trim v,Av v⟩*G:=Mj fun i=>by rw [Jo,hv,Ax _ (trim v) v (fun i=>Ak _ _)]
  refine⟨_,eV,Z1 nW nG ?_ (h.gc.cp nG h.eA eV)⟩
  rw [<-h.eA]
  exact eV
abbrev mk (p:List Int) (h:Tr p):Pol:=⟨p,h⟩
def plP (p:Pol):Pol:=⟨pln p.l,Kh p.tr⟩
theorem Ahm {p:Pol} (h:p≠0):plP p≠0:=Bu.mpr fun z=>by
  have:=G4 p.l
  rw [show pln p.l=[]from z]at this
  exact Bu.mp h (List.length_eq_zero_iff.mp this.symm)
def Jt (K:PySem.W.Frag):Sp:=fun vs H Q E=>∃(x:V) (p:Pol) (l n:Nat),vs=[x]/\Po K H x p.l l n/\l<=13/\n<=100000/\Few l (n+8)/\(p≠0->∀z H' W G,Same H H'->Po K H' z W.l l (n+141)->Fre (plP p) W G->Q z H')/\(p=0->∀H',Same H H'->E (.ref (cA K "NoFree")) none H')
def M6 (K:PySem.W.Frag):Sp:=fun vs H Q _=>∃(x:V) (p:Pol) (l n:Nat),vs=[x]/\Po K H x p.l l n/\l<=13/\n<=100000/\Few l (n+8)/\p≠0/\∀z H' W G,Same H H'->Po K H' z W.l l (n+141)->Fre (plP p) W G->Q z H'
theorem Ux (K:PySem.W.Frag):∀vs H Q E,M6 K vs H Q E->Jt K vs H Q E0:=by
  rintro vs H Q E ⟨x,p,l,n,rfl,hx,l13,n1,few,np,k⟩
  exact⟨x,p,l,n,rfl,hx,l13,n1,few,fun _=>k,fun z=>(np z).elim⟩
theorem Few.n {l b:Nat} (h:Few l b):b<=400000/\1<=l:=by
  obtain⟨_,h1,_,h⟩:=h
  refine⟨?_,h1⟩
  have:1*(b+6)<=(4*l+l*l)*(b+6):=Nat.mul_le_mul_right _ (by omega)
  have e:=Nat.le_trans this (show(4*l+l*l)*(b+6)<=750000 by omega)
  have l4:4*(b+6)<=(4*l+l*l)*(b+6):=Nat.mul_le_mul_right _ (by omega)
  omega
theorem Yj {f:Addr}{fd:FuncData} (F:Df K mg "free_part" Pa ["one"] f fd)   (ce_refuse_nought:Oz P w K mg base 33 "refuse_nought" ["one"] (Jg K)) (c_plain:Cal P w K mg base 37 "plain" ["one"] (Nx K)) (ce_whole_part:Oz P w K mg base 35 "whole_part" ["one","other"] (Ji K)) (c_shared:Cal P w K mg base 41 "shared" ["one","other"] (K3 K)) (c_derived:Cal P w K mg base 33 "derived" ["one"] (Ju K)):Oz P w K mg base 42 "free_part" ["one"] (Jt K):=by
  refine F.calE (F.fn.okE R4 (fun vs H Q E h=> ?_) (fun cdv A outer s H vs Q E hr h=> ?_))
  . obtain⟨x,p,_,_,rfl,_⟩:=h
    rfl
  obtain⟨x,p,l,n,rfl,hx,l13,n1,few,k,kx⟩:=h
  refine S.Bb ⟨_,(S.Ac (S.Kz (S.Gj ce_refuse_nought (hr.mono (by decide)) (S.Aa (S.pv 0) S.Ab)))
      (S.Ac (S.Ah (i:=1) R4.nd rfl (Or.inl rfl) (S.Aj c_plain (hr.mono (by decide)) (S.Aa (S.pv 0) S.Ab)))
      (S.Ae (S.Ao (S.Gj ce_whole_part (hr.mono (by decide)) (S.Aa (S.pv 1) (S.Aa (S.Aj c_shared (hr.mono (by decide)) (S.Aa (S.pv 1) (S.Aa (S.Aj c_derived (hr.mono (by decide)) (S.Aa (S.pv 1) S.Ab)) S.Ab))) S.Ab))))))),?_⟩
  simp only [Ib,Fv,Il,Ii,Fz,Hy,Bw,Hu,Em,Ef,z_c,Pj,Qq,Qx,Iz,Qu,Iw,Hw,Im,Hz,Ea,Qp,Hr,Ij,Ip,Fg,Fq,Ie,Hs,Qs,Fj,Ht,Er,Qw,Fi,Ia,Ga,Qt,Hq,Iv,Cz,Ew,Ez,Fy,Cr,Ed,Ir,Ih,Hl,G7,Qv,Bo,Et,Ig,Qo,Iu,Fe,Ja,Jc,Ei,Io,Eo,Eh,Fl,Cm,Jb,Cq,En,Ek,Ft,Cy,Es,Cu,Hx,Ey,Ho,Ej,Fx,Ec,Cv,Bp,Ck,Fw,Ik,El,Fo,Cw,Eu,Qn,cpσ,List.getElem?_cons_zero,List.getElem?_cons_succ,Option.join_some,List.set_cons_zero,List.set_cons_succ,List.append_nil,decide_eq_true_eq,Bool.not_eq_true',decide_eq_false_iff_not,Bool.not_not,ite_not,Bool.false_eq_true,Bool.true_eq_false,if_false,if_true,if_pos,List.length_cons,List.length_nil,Nat.zero_add,Nat.reduceAdd,Fb,Ep,true_and,and_true,L2.start,List.map_cons,List.map_nil,Bool.not_true,Bool.not_false,Nat.reduceSub,List.replicate_succ,List.replicate_zero,List.cons_append,List.nil_append]
  refine⟨x,p.l,l,n,rfl,hx,fun h0 H1 s1=> ?_,fun h0 H1 s1=>kx (Classical.byContradiction fun z=>Bu.mp z h0) _ s1⟩
  try contradiction
  have np:=Bu.mpr h0
  obtain⟨fn,f1⟩:=few.n
  refine T8 hx s1 (by omega) (by omega) fun y H2 s2 iy=> ?_
  try contradiction
  refine J4 iy (Same.refl _) (by omega) (by omega) fun y3 H3 s3 i3=> ?_
  try contradiction
  refine Nz (iy.mono s3 |>.weak (Nat.le_refl _) (Nat.le_add_right _ _)) (Same.refl _) i3 (Same.refl _) few fun y4 H4 g s4 i4 gc=> ?_
  try contradiction
  have nA:=Ahm np
  have ng:g≠ []:=(gc.one.len gc.tr (Kh p.tr) (Bu.mp nA)).1
  have b4:=few.bits
  obtain⟨_,tA,lA,zA⟩:=id iy
  refine⟨y,y4,_,g,l,2*l,n,(n+8+6)*(2*l)+1,rfl,iy.mono (s3.trans s4),i4,by omega,by omega,by omega,by omega,fun z=>absurd z ng,fun _=> ?_⟩
  refine Aek tA lA l13 zA gc.tr ng gc.pl gc.one fun z H5 u s5 i5 e5=> ?_
  have tu:=i5.2.1
  exact k np z H5 ⟨u,tu⟩ ⟨g,gc.tr⟩ ((s1.trans s2).trans ((s3.trans s4).trans s5)) i5 ⟨nA,Li p.tr,gc,Mj fun i=>by show co (pln p.l) i=co (tm u g) i;rw [e5]⟩
abbrev Le:=Addr × V × Pol × Nat
structure Ll (K:PySem.W.Frag) (H:Hp) (z:Addr) (es:List Le) (l n:Nat):Prop where
  it:H z=some (.lst (es.map fun e=>V.ref e.1))
  al:∀e∈es,H e.1=some (.tup [e.2.1,.int (e.2.2.2:Nat)])/\Po K H e.2.1 e.2.2.1.l l n
theorem Ll.mono {H H':Hp}{z:Addr}{es:List Le}{l n:Nat} (h:Ll K H z es l n) (s:Same H H'):Ll K H' z es l n:=⟨s _ _ h.it,fun e he=>⟨s _ _ (h.al e he).1,(h.al e he).2.mono s⟩⟩
abbrev Hj (es:List Le):List (Pol × Nat):=es.map fun e=>(e.2.2.1,e.2.2.2)
def Aof (K:PySem.W.Frag) (p:Pol) (l n:Nat) (Q:VK) (H:Hp):Prop:=∀z H' es W G V,H z=none->Same H H'->Ll K H' z es l (n+141)->Fre (plP p) W G->D (plP p)=V*G->Run W (V-D W) 1 [] (Hj es)->Lay (plP p) W (Hj es)->Q (.ref z) H'
def Qy (K:PySem.W.Frag):Sp:=fun vs H Q E=>∃(x:V) (p:Pol) (l n:Nat),vs=[x]/\Po K H x p.l l n/\l<=10/\n<=2000/\(p≠0->Aof K p l n Q H)/\(p=0->∀H',Same H H'->E (.ref (cA K "NoFree")) none H')
def Xi (K:PySem.W.Frag):Sp:=fun vs H Q _=>∃(x:V) (p:Pol) (l n:Nat),vs=[x]/\Po K H x p.l l n/\l<=10/\n<=2000/\p≠0/\Aof K p l n Q H
theorem Zk (K:PySem.W.Frag):∀vs H Q E,Xi K vs H Q E->Qy K vs H Q E0:=by
  rintro vs H Q E ⟨x,p,l,n,rfl,hx,l13,few,np,k⟩
  exact⟨x,p,l,n,rfl,hx,l13,few,fun _=>k,fun z=>(np z).elim⟩
theorem Al8 {l n:Nat} (l1:1<=l) (l10:l<=10) (n1:1<=n) (h:n<=5000):Few l n:=by
  refine⟨by omega,l1,n1,?_⟩
  have h1:4*l+l*l<=140:=by
    have:l*l<=10*10:=Nat.mul_le_mul l10 l10
    omega
  have:=Nat.mul_le_mul h1 (show n+6<=5006 by omega)
  omega
theorem Al2 (a b:Pol):(a-b).l=ta a.l (ng b.l (-1)):=(a-b).tr.ext (U5 _ _) fun i=>by
  show co (a+ -b).l i=_
  rw [Jx,Aaj,Ph,Ue]
  omega
theorem Tg {A S f:Pol} (nA:A≠0) (e:A=S*f):f≠0/\f.l.length<=A.l.length:=(Di.len nA (d:=f) (by rw [e];exact .mul f S))
theorem Ad5 {A S f:Pol}{n:Nat} (nA:A≠0) (e:A=S*f) (l:A.l.length<=13) (z:∀i,Sz n (co A.l i)) (i:Nat):Sz (n+141) (co f.l i):=by
  have:=Adj (p:=A.l) (T:=f.l) (S:=S.l) (n:=n) (fun i=>by rw [e,Jo]) ⟨A.l.length-1,A.tr.lead (Bu.mp nA)⟩ (fun i=>Nat.le_of_lt (z i)) l (Tg nA e).2 i
  exact Nat.lt_of_le_of_lt this (Nat.pow_lt_pow_right (by decide) (by omega))
theorem YI.fac {A W L T B:Pol}{t:Nat}{fs:List (Pol × Nat)} (h:YI A W L T B t fs):∃S,A=S*L:=by
  have t1:=h.t1
  obtain⟨j,rfl⟩:∃j,t=j+1:=⟨t-1,by omega⟩
  refine⟨prK fs*L^j*B,?_⟩
  have e:=h.pr
  rw [show L^(j+1)=L^j*L by grind]at e
  rw [e]
  grind
theorem Anu {t:Nat}:∀ {fs:List (Pol × Nat)},fs.Pairwise (fun a b=>a.2<b.2)->(∀z∈fs,1<=z.2/\z.2<t)->fs.length<=t
  | [],_,_=>Nat.zero_le _
  | x::fs,h,al=>by
    have gen:∀(k:Nat) (gs:List (Pol × Nat)),gs.Pairwise (fun a b=>a.2<b.2)->(∀z∈gs,k<=z.2/\z.2<t)->k<=t->gs.length+k<=t:=fun k gs=>by
      induction gs generalizing k with
      | nil=>
        intro _ _ h
        rw [List.length_nil]
        omega
      | cons g gs ih=>
        intro hp ha _
        rw [List.pairwise_cons]at hp
        have g1:=ha g (.head _)
        have:=ih (g.2+1) hp.2 (fun z hz=>⟨hp.1 z hz,(ha z (.tail _ hz)).2⟩) (by omega)
        rw [List.length_cons]
        omega
    have x1:=al x (.head _)
    have:=gen 1 (x::fs) h al (by omega)
    omega
theorem Po.put {H:Hp}{q:Addr}{v:V}{p:List Int}{l n:Nat}{acc:List V}{o:HO} (h:Po K H v p l n) (hq:H q=some (.lst acc)):Po K (upd H q o) v p l n:=by
  obtain⟨⟨a,e,t⟩,r⟩:=h
  refine⟨⟨a,e,?_⟩,r⟩
  rcases t with(h | ⟨o',h⟩) | h
  . exact .inl (.inl (by rw [Bv (Zt h hq (by intro z;cases z))];exact h))
  . exact .inl (.inr ⟨o',by rw [Bv (Zt h hq (by intro z;cases z))];exact h⟩)
  . exact .inr h
structure Lyi (K:PySem.W.Frag) (H H':Hp) (q:Addr) (vL vT:V) (A W T1 L T B:Pol) (t:Nat) (es:List Le) (l n:Nat):Prop where
  sm:Same H H'
  iL:Po K H' vL L.l l (n+141)
  iT:Po K H' vT T.l l (n+300+150*t)
  ll:Ll K H' q es l (n+141)
  yi:YI A W L T B t (Hj es)
  rn:∀out,Run L T t (Hj es) out->Run W T1 1 [] out
  tb:t+L.l.length+B.l.length<=12
theorem Acn {f:Addr}{fd:FuncData} (F:Df K mg "layers" Ww ["one"] f fd)  (xm_repeated:mg "repeated"=some (.ref (cA K "repeated"))) (ce_refuse_nought:Oz P w K mg base 33 "refuse_nought" ["one"] (Jg K)) (c_plain:Cal P w K mg base 37 "plain" ["one"] (Nx K)) (c_shared:Cal P w K mg base 41 "shared" ["one","other"] (K3 K)) (ce_whole_part:Oz P w K mg base 35 "whole_part" ["one","other"] (Ji K)) (c_p_minus:Cal P w K mg base 36 "p_minus" ["one","other"] (Nv K)) (c_derived:Cal P w K mg base 33 "derived" ["one"] (Ju K)) (c_degree:Cal P w K mg base 33 "degree" ["one"] (Gw K)) (c_whole_part:Cal P w K mg base 35 "whole_part" ["one","other"] (Qg K)):Oz P w K mg base 42 "layers" ["one"] (Qy K):=by
  refine F.calE (F.fn.okE Gp (fun vs H Q E h=> ?_) (fun cdv A outer s H vs Q E hr h=> ?_))
  . obtain⟨x,p,_,_,rfl,_⟩:=h
    rfl
  obtain⟨x,p,l,n,rfl,hx,l10,n2,k,kx⟩:=h
  refine S.Bb ⟨_,(S.Ac (S.Kz (S.Gj ce_refuse_nought (hr.mono (by decide)) (S.Aa (S.pv 0) S.Ab)))
      (S.Ac (S.Ah (i:=1) Gp.nd rfl (Or.inl rfl) (S.Aj c_plain (hr.mono (by decide)) (S.Aa (S.pv 0) S.Ab)))
      (S.Ac (S.Ah (i:=2) Gp.nd rfl (Or.inl rfl) (S.Aj c_shared (hr.mono (by decide)) (S.Aa (S.pv 1) (S.Aa (S.Aj c_derived (hr.mono (by decide)) (S.Aa (S.pv 1) S.Ab)) S.Ab))))
      (S.Ac (S.Ah (i:=3) Gp.nd rfl (Or.inl rfl) (S.Gj ce_whole_part (hr.mono (by decide)) (S.Aa (S.pv 1) (S.Aa (S.pv 2) S.Ab))))
      (S.Ac (S.Ah (i:=4) Gp.nd rfl (Or.inl rfl) (S.Aj c_p_minus (hr.mono (by decide)) (S.Aa (S.Gj ce_whole_part (hr.mono (by decide)) (S.Aa (S.Aj c_derived (hr.mono (by decide)) (S.Aa (S.pv 1) S.Ab)) (S.Aa (S.pv 2) S.Ab))) (S.Aa (S.Aj c_derived (hr.mono (by decide)) (S.Aa (S.pv 3) S.Ab)) S.Ab))))
      (S.Ac (S.Ah (i:=5) Gp.nd rfl (Or.inl rfl) S.Ad)
      (S.Ac (S.Ah (i:=6) Gp.nd rfl (Or.inl rfl) (S.Ka S.Ab))
      (S.Ac (S.Aac (S.Hh PassesOwn.never (S.Al R7 (S.Aj c_degree (hr.mono (by decide)) (S.Aa (S.pv 3) S.Ab)) S.Ad (Ar _)) (S.Ac (S.Ah (i:=7) Gp.nd rfl (Or.inl rfl) (S.Aj c_shared (hr.mono (by decide)) (S.Aa (S.pv 3) (S.Aa (S.pv 4) S.Ab))))
      (S.Ac (S.Du (S.Al R7 (S.Aj c_degree (hr.mono (by decide)) (S.Aa (S.pv 7) S.Ab)) S.Ad (Ar _)) (S.Ae (S.Kz (S.T7 PySem.F.plainAttrs_list PySem.F.slot_list_append PySem.F.type_list_append Mx (S.pv 6) (S.Aa (S.Bq (S.Aa (S.pv 7) (S.Aa (S.pv 5) S.Ab))) S.Ab)))) S.Ay)
      (S.Ac (S.Ah (i:=3) Gp.nd rfl (Or.inl rfl) (S.Aj c_whole_part (hr.mono (by decide)) (S.Aa (S.pv 3) (S.Aa (S.pv 7) S.Ab))))
      (S.Ac (S.Ah (i:=4) Gp.nd rfl (Or.inl rfl) (S.Aj c_p_minus (hr.mono (by decide)) (S.Aa (S.Aj c_whole_part (hr.mono (by decide)) (S.Aa (S.pv 4) (S.Aa (S.pv 7) S.Ab))) (S.Aa (S.Aj c_derived (hr.mono (by decide)) (S.Aa (S.pv 3) S.Ab)) S.Ab))))
      (S.Ae (S.Ah (i:=5) Gp.nd rfl (Or.inl rfl) (S.Ai Cj (S.pv 5) S.Ad)))))))))
      (S.Ae (S.Ao (S.pv 6))))))))))),?_⟩
  simp only [Ib,Fv,Il,Ii,Fz,Hy,Bw,Hu,Em,Ef,z_c,Pj,Qq,Qx,Iz,Qu,Iw,Hw,Im,Hz,Ea,Qp,Hr,Ij,Ip,Fg,Fq,Ie,Hs,Qs,Fj,Ht,Er,Qw,Fi,Ia,Ga,Qt,Hq,Iv,Cz,Ew,Ez,Fy,Cr,Ed,Ir,Ih,Hl,G7,Qv,Bo,Et,Ig,Qo,Iu,Fe,Ja,Jc,Ei,Io,Eo,Eh,Fl,Cm,Jb,Cq,En,Ek,Ft,Cy,Es,Cu,Hx,Ey,Ho,Ej,Fx,Ec,Cv,Bp,Ck,Fw,Ik,El,Fo,Cw,Eu,Qn,cpσ,List.getElem?_cons_zero,List.getElem?_cons_succ,Option.join_some,List.set_cons_zero,List.set_cons_succ,List.append_nil,decide_eq_true_eq,Bool.not_eq_true',decide_eq_false_iff_not,Bool.not_not,ite_not,Bool.false_eq_true,Bool.true_eq_false,if_false,if_true,if_pos,List.length_cons,List.length_nil,Nat.zero_add,Nat.reduceAdd,Fb,Ep,true_and,and_true,L2.start,List.map_cons,List.map_nil,Bool.not_true,Bool.not_false,Nat.reduceSub,List.replicate_succ,List.replicate_zero,List.cons_append,List.nil_append]
  refine⟨x,p.l,l,n,rfl,hx,fun h0 H1 s1=> ?_,fun h0 H1 s1=>kx (Classical.byContradiction fun z=>Bu.mp z h0) _ s1⟩
  have np:=Bu.mpr h0
  replace k:=k np
  clear kx
  have l1:1<=l:=Nat.le_trans (len_pos np) hx.2.2.1
  have few:=Al8 (n:=n+8) l1 l10 (by omega) (by omega)
  refine T8 hx s1 (by omega) (by omega) fun y H2 s2 iy=> ?_
  refine J4 iy (Same.refl _) (by omega) (by omega) fun y3 H3 s3 i3=> ?_
  refine Nz (iy.mono s3 |>.weak (Nat.le_refl _) (Nat.le_add_right _ _)) (Same.refl _) i3 (Same.refl _) few fun y4 H4 g s4 i4 gc=> ?_
  have nA:=Ahm np
  have ng:g≠ []:=(gc.one.len gc.tr (Kh p.tr) (Bu.mp nA)).1
  have b4:=few.bits
  obtain⟨_,tA,lA,zA⟩:=id iy
  have iy4:=iy.mono (s3.trans s4)
  refine⟨y,y4,_,g,l,2*l,n,(n+8+6)*(2*l)+1,rfl,iy4,i4,by omega,by omega,by omega,by omega,fun z=>absurd z ng,fun _=> ?_⟩
  refine Aek tA lA (by omega) zA gc.tr ng gc.pl gc.one fun y5 H5 u s5 i5 e5=> ?_
  try contradiction
  refine J4 iy4 s5 (by omega) (by omega) fun y6 H6 s6 i6=> ?_
  obtain⟨_,tD,lD,zD⟩:=id i6
  refine⟨y6,y4,_,g,l,2*l,n+8,(n+8+6)*(2*l)+1,rfl,i6,i4.mono (s5.trans s6),by omega,by omega,by omega,by omega,fun z=>absurd z ng,fun _=> ?_⟩
  refine Aek tD lD (by omega) zD gc.tr ng gc.pl gc.two fun y7 H7 v s7 i7 e7=> ?_
  have i57:=i5.mono (s6.trans s7)
  refine J4 i57 (Same.refl _) (by omega) (by omega) fun y8 H8 s8 i8=> ?_
  have tu:=i5.2.1
  have tv:=i7.2.1
  obtain⟨W,eW⟩:∃W:Pol,W.l=u:=⟨⟨u,tu⟩,rfl⟩
  obtain⟨Vp,eV⟩:∃Vp:Pol,Vp.l=v:=⟨⟨v,tv⟩,rfl⟩
  obtain⟨G,eG⟩:∃G:Pol,G.l=g:=⟨⟨g,gc.tr⟩,rfl⟩
  obtain⟨A,eA⟩:∃A:Pol,A=plP p:=⟨_,rfl⟩
  subst eW eV eG
  have aW:A=W*G:=Mj fun i=>by
    rw [eA]
    show co (pln p.l) i=co (tm W.l G.l) i
    rw [e5]
  have aV:D A=Vp*G:=Mj fun i=>by
    rw [eA]
    show co (dr (pln p.l)) i=co (tm Vp.l G.l) i
    rw [e7]
  have fre:Fre A W G:=by
    rw [eA]
    exact⟨nA,Li p.tr,gc,by rw [<-eA];exact aW⟩
  have y0:YI A W W (Vp-D W) G 1 []:=YI.start fre.nA fre.pA fre.gc fre.eA aV
  have sW:=y0.sq
  have nA':=fre.nA
  have lA':A.l.length<=l:=by rw [eA];exact lA
  have zA':∀i,Sz n (co A.l i):=by rw [eA];exact zA
  have g0:W.l.length+G.l.length=A.l.length+1:=by rw [aW];exact(Kw y0.nl y0.nb).symm
  refine⟨y7,y8,_,_,l,l,n+8+141,n+141+8,rfl,i7.mono s8,i8,by omega,by omega,by omega,fun y9 H9 s9 i9=>⟨by decide,fun q hq=> ?_⟩⟩
  have tq:=Same.upd hq (.lst [])
  have s09:Same H H9:=((s1.trans s2).trans (s3.trans s4)).trans (((s5.trans s6).trans (s7.trans s8)).trans s9)
  have nq:H q=none:=by
    cases e:H q with
    | none=>rfl
    | some o=>exact absurd (s09 _ _ e) (by rw [hq];simp)
  rw [Nat.max_self]at i9
  have i9':Po K H9 y9 (Vp-D W).l l (n+300+150*1):=by
    rw [Al2]
    exact i9.weak (Nat.le_refl _) (by omega)
  have wf:∀ {L T:Pol}{B:Pol}{t:Nat}{fs:List (Pol × Nat)},YI A W L T B t fs->∃S,A=S*L:=fun h=>h.fac
  refine Yu (fun m σ' H'=>∃(vL vT:V) (L T B:Pol) (t:Nat) (es:List Le) (o7:Option V),σ'=[some x,some y,some y4,some vL,some vT,some (.int (t:Nat)),some (.ref q),o7]/\m=L.l.length+B.l.length/\Lyi K H H' q vL vT A W (Vp-D W) L T B t es l n) _ ⟨y5,y9,W,_,G,1,[],_,rfl,rfl,s09.trans tq,(i57.mono (s8.trans s9)).mono tq,i9'.mono tq,⟨Af,by simp⟩,y0,fun out h=>h,by omega⟩ ?_
  rintro m σ' H' ⟨vL,vT,L,T,B,t,es,o7,rfl,rfl,li⟩
  simp only [Ib,Fv,Il,Ii,Fz,Hy,Bw,Hu,Em,Ef,z_c,Pj,Qq,Qx,Iz,Qu,Iw,Hw,Im,Hz,Ea,Qp,Hr,Ij,Ip,Fg,Fq,Ie,Hs,Qs,Fj,Ht,Er,Qw,Fi,Ia,Ga,Qt,Hq,Iv,Cz,Ew,Ez,Fy,Cr,Ed,Ir,Ih,Hl,G7,Qv,Bo,Et,Ig,Qo,Iu,Fe,Ja,Jc,Ei,Io,Eo,Eh,Fl,Cm,Jb,Cq,En,Ek,Ft,Cy,Es,Cu,Hx,Ey,Ho,Ej,Fx,Ec,Cv,Bp,Ck,Fw,Ik,El,Fo,Cw,Eu,Qn,cpσ,List.getElem?_cons_zero,List.getElem?_cons_succ,Option.join_some,List.set_cons_zero,List.set_cons_succ,List.append_nil,decide_eq_true_eq,Bool.not_eq_true',decide_eq_false_iff_not,Bool.not_not,ite_not,Bool.false_eq_true,Bool.true_eq_false,if_false,if_true,if_pos,List.length_cons,List.length_nil,Nat.zero_add,Nat.reduceAdd,Fb,Ep,true_and,and_true,L2.start,List.map_cons,List.map_nil,Bool.not_true,Bool.not_false,Nat.reduceSub,List.replicate_succ,List.replicate_zero,List.cons_append,List.nil_append]
  refine Dd li.iL (Same.refl _) ?_
  try contradiction
  have nL:=li.yi.nl
  have nB:=li.yi.nb
  have L1:=len_pos nL
  have B1:=len_pos nB
  have tb:=li.tb
  by_cases hd:L.l.length<=1
  . rw [if_neg (by omega)]
    have ll:=li.ll
    exact k q H' es W G Vp nq li.sm ll (by rw [<-eA];exact fre) (by rw [<-eA];exact aV) (li.rn _ (.stop hd)) (by rw [<-eA];exact li.yi.stop sW hd)
  . rw [if_pos (by omega)]
    refine Ajs ?_
    have fewT:Few l (n+300+150*t):=Al8 l1 l10 (by omega) (by omega)
    refine Ba (fun σ' H2=>∃(vf:V) (f:Pol),σ'=[some x,some y,some y4,some vL,some vT,some (.int (t:Nat)),some (.ref q),some vf]/\Same H' H2/\Po K H2 vf f.l l (n+141)/\Gc L.l T.l f.l/\f≠0) (fun M hM=> ?_) ?_
    . simp only [Ib,Fv,Il,Ii,Fz,Hy,Bw,Hu,Em,Ef,z_c,Pj,Qq,Qx,Iz,Qu,Iw,Hw,Im,Hz,Ea,Qp,Hr,Ij,Ip,Fg,Fq,Ie,Hs,Qs,Fj,Ht,Er,Qw,Fi,Ia,Ga,Qt,Hq,Iv,Cz,Ew,Ez,Fy,Cr,Ed,Ir,Ih,Hl,G7,Qv,Bo,Et,Ig,Qo,Iu,Fe,Ja,Jc,Ei,Io,Eo,Eh,Fl,Cm,Jb,Cq,En,Ek,Ft,Cy,Es,Cu,Hx,Ey,Ho,Ej,Fx,Ec,Cv,Bp,Ck,Fw,Ik,El,Fo,Cw,Eu,Qn,cpσ,List.getElem?_cons_zero,List.getElem?_cons_succ,Option.join_some,List.set_cons_zero,List.set_cons_succ,List.append_nil,decide_eq_true_eq,Bool.not_eq_true',decide_eq_false_iff_not,Bool.not_not,ite_not,Bool.false_eq_true,Bool.true_eq_false,if_false,if_true,if_pos,List.length_cons,List.length_nil,Nat.zero_add,Nat.reduceAdd,Fb,Ep,true_and,and_true,L2.start,List.map_cons,List.map_nil,Bool.not_true,Bool.not_false,Nat.reduceSub,List.replicate_succ,List.replicate_zero,List.cons_append,List.nil_append]
      refine Nz (li.iL.weak (Nat.le_refl _) (by omega)) (Same.refl _) li.iT (Same.refl _) fewT fun vf H2 f s2 i2 gf=> ?_
      obtain⟨Fp,eF⟩:∃Fp:Pol,Fp.l=f:=⟨⟨f,gf.tr⟩,rfl⟩
      subst eF
      have nf:=(Di.len nL (d:=Fp) (Mi.mpr gf.one)).1
      obtain⟨v0,hv0⟩:=Wm gf.tr (Bu.mp nf) gf.pl gf.one
      have eLf:L=⟨trim v0,Av v0⟩*Fp:=Mj fun i=>by rw [Jo,hv0,Ax _ (trim v0) v0 (fun i=>Ak _ _)]
      obtain⟨S,eS⟩:=li.yi.fac
      have eAf:A=(S*⟨trim v0,Av v0⟩)*Fp:=by
        rw [eS,eLf]
        grind
      exact hM _ _ ⟨vf,Fp,rfl,s2,⟨i2.1,gf.tr,Nat.le_trans (Tg nA' eAf).2 lA',Ad5 nA' eAf (by omega) zA'⟩,gf,nf⟩
    rintro _ H2 ⟨vf,f,rfl,s2,i2,gf,nf⟩
    have iL2:=li.iL.mono s2
    have iT2:=li.iT.mono s2
    have ll2:=li.ll.mono s2
    have s02:=li.sm.trans s2
    refine Ba (fun σ' H3=>∃es',σ'=[some x,some y,some y4,some vL,some vT,some (.int (t:Nat)),some (.ref q),some vf]/\Same H H3/\Po K H3 vL L.l l (n+141)/\Po K H3 vT T.l l (n+300+150*t)/\Po K H3 vf f.l l (n+141)/\Ll K H3 q es' l (n+141)/\Hj es'=kpt f t (Hj es)) (fun M hM=> ?_) ?_
    . simp only [Ib,Fv,Il,Ii,Fz,Hy,Bw,Hu,Em,Ef,z_c,Pj,Qq,Qx,Iz,Qu,Iw,Hw,Im,Hz,Ea,Qp,Hr,Ij,Ip,Fg,Fq,Ie,Hs,Qs,Fj,Ht,Er,Qw,Fi,Ia,Ga,Qt,Hq,Iv,Cz,Ew,Ez,Fy,Cr,Ed,Ir,Ih,Hl,G7,Qv,Bo,Et,Ig,Qo,Iu,Fe,Ja,Jc,Ei,Io,Eo,Eh,Fl,Cm,Jb,Cq,En,Ek,Ft,Cy,Es,Cu,Hx,Ey,Ho,Ej,Fx,Ec,Cv,Bp,Ck,Fw,Ik,El,Fo,Cw,Eu,Qn,cpσ,List.getElem?_cons_zero,List.getElem?_cons_succ,Option.join_some,List.set_cons_zero,List.set_cons_succ,List.append_nil,decide_eq_true_eq,Bool.not_eq_true',decide_eq_false_iff_not,Bool.not_not,ite_not,Bool.false_eq_true,Bool.true_eq_false,if_false,if_true,if_pos,List.length_cons,List.length_nil,Nat.zero_add,Nat.reduceAdd,Fb,Ep,true_and,and_true,L2.start,List.map_cons,List.map_nil,Bool.not_true,Bool.not_false,Nat.reduceSub,List.replicate_succ,List.replicate_zero,List.cons_append,List.nil_append]
      refine Dd i2 (Same.refl _) ?_
      try contradiction
      by_cases hf:1<f.l.length
      . rw [if_pos (by omega)]
        refine⟨.inl ⟨rfl,_,.of ll2.it⟩,fun c hc=> ?_⟩
        have tc:=Same.upd hc (.tup [vf,.int (t:Nat)])
        have ll3:=ll2.mono tc
        have el:(es.map fun e=>V.ref e.1).length<sizeLine:=by
          have:=li.yi.up
          have al:=li.yi.al
          have:es.length<=t:=by
            have h1:(Hj es).length<=t:=Anu li.yi.up fun z hz=>⟨(al z hz).1,(al z hz).2.1⟩
            rw [List.length_map]at h1
            exact h1
          rw [List.length_map]
          exact Nat.lt_of_lt_of_le (show es.length<16 by omega) (by decide)
        have keep:∀ {v:V}{r:List Int}{m:Nat},Po K (upd H2 c (.tup [vf,.int (t:Nat)])) v r l m->Po K (upd (upd H2 c (.tup [vf,.int (t:Nat)])) q (.lst ((es.map fun e=>V.ref e.1)++ [.ref c]))) v r l m:=fun h=>h.put ll3.it
        refine⟨q,_,_,rfl,rfl,ll3.it,el,hM _ _ ⟨es++ [(c,vf,f,t)],rfl,(s02.trans tc).put nq,keep (iL2.mono tc),keep (iT2.mono tc),keep (i2.mono tc),⟨?_,fun e he=> ?_⟩,?_⟩⟩
        . rw [Af,List.map_append]
          rfl
        . have tup_keep:∀ {a:Addr}{ys:List V},upd H2 c (.tup [vf,.int (t:Nat)]) a=some (.tup ys)->upd (upd H2 c (.tup [vf,.int (t:Nat)])) q (.lst ((es.map fun e=>V.ref e.1)++ [.ref c])) a=some (.tup ys):=fun h=>by
            rw [Bv (Zt h ll3.it (by intro z;cases z))]
            exact h
          rcases List.mem_append.mp he with he | he
          . exact⟨tup_keep (ll3.al e he).1,keep (ll3.al e he).2⟩
          . rw [List.mem_singleton.mp he]
            exact⟨tup_keep Af,keep (i2.mono tc)⟩
        . unfold kpt
          rw [if_pos hf,Hj,List.map_append]
          rfl
      . rw [if_neg (by omega)]
        refine hM _ _ ⟨es,rfl,s02,iL2,iT2,i2,ll2,?_⟩
        unfold kpt
        rw [if_neg hf]
    rintro _ H3 ⟨es',rfl,s03,iL3,iT3,i3',ll3,efs⟩
    obtain⟨_,tL,lL,zL⟩:=id iL3
    obtain⟨_,tT,lT,zT⟩:=id iT3
    simp only [Ib,Fv,Il,Ii,Fz,Hy,Bw,Hu,Em,Ef,z_c,Pj,Qq,Qx,Iz,Qu,Iw,Hw,Im,Hz,Ea,Qp,Hr,Ij,Ip,Fg,Fq,Ie,Hs,Qs,Fj,Ht,Er,Qw,Fi,Ia,Ga,Qt,Hq,Iv,Cz,Ew,Ez,Fy,Cr,Ed,Ir,Ih,Hl,G7,Qv,Bo,Et,Ig,Qo,Iu,Fe,Ja,Jc,Ei,Io,Eo,Eh,Fl,Cm,Jb,Cq,En,Ek,Ft,Cy,Es,Cu,Hx,Ey,Ho,Ej,Fx,Ec,Cv,Bp,Ck,Fw,Ik,El,Fo,Cw,Eu,Qn,cpσ,List.getElem?_cons_zero,List.getElem?_cons_succ,Option.join_some,List.set_cons_zero,List.set_cons_succ,List.append_nil,decide_eq_true_eq,Bool.not_eq_true',decide_eq_false_iff_not,Bool.not_not,ite_not,Bool.false_eq_true,Bool.true_eq_false,if_false,if_true,if_pos,List.length_cons,List.length_nil,Nat.zero_add,Nat.reduceAdd,Fb,Ep,true_and,and_true,L2.start,List.map_cons,List.map_nil,Bool.not_true,Bool.not_false,Nat.reduceSub,List.replicate_succ,List.replicate_zero,List.cons_append,List.nil_append]
    refine⟨vL,vf,_,_,l,l,_,_,rfl,iL3,i3',by omega,by omega,by omega,by omega,Bu.mp nf,?_⟩
    refine Aek tL lL (by omega) zL f.tr (Bu.mp nf) gf.pl gf.one fun w4 H4 a4 s4 i4' e4=> ?_
    refine⟨vT,vf,_,_,l,l,_,_,rfl,iT3.mono s4,i3'.mono s4,by omega,by omega,by omega,by omega,Bu.mp nf,?_⟩
    refine Aek tT lT (by omega) zT f.tr (Bu.mp nf) gf.pl gf.two fun w5 H5 a5 s5 i5' e5'=> ?_
    obtain⟨L2,eL2⟩:∃L2:Pol,L2.l=a4:=⟨⟨a4,i4'.2.1⟩,rfl⟩
    obtain⟨T2,eT2⟩:∃T2:Pol,T2.l=a5:=⟨⟨a5,i5'.2.1⟩,rfl⟩
    subst eL2 eT2
    have fL:L=L2*f:=Mj fun i=>by rw [<-e4];rfl
    have fT:T=T2*f:=Mj fun i=>by rw [<-e5'];rfl
    obtain⟨B2,yi2,dec⟩:=li.yi.step (by omega) gf fL fT
    obtain⟨S,eS⟩:=yi2.fac
    have iL5:Po K H5 w4 L2.l l (n+141):=⟨(i4'.mono s5).1,L2.tr,Nat.le_trans (Tg nA' eS).2 lA',Ad5 nA' eS (by omega) zA'⟩
    refine J4 iL5 (Same.refl _) (by omega) (by omega) fun w6 H6 s6 i6'=> ?_
    refine⟨w5,w6,_,_,l,l,_,_,rfl,i5'.mono s6,i6',by omega,by omega,by omega,fun w7 H7 s7 i7'=> ?_⟩
    rw [Nat.max_self]at i7'
    have s37:=(s4.trans s5).trans (s6.trans s7)
    refine⟨_,dec,w4,w7,L2,T2-D L2,B2,t+1,es',_,by rw [Int.natCast_add];rfl,rfl,s03.trans s37,iL5.mono (s6.trans s7),?_,ll3.mono s37,by rw [efs];exact yi2,fun out h=>li.rn out (.step (by omega) gf fL fT (by rw [<-efs];exact h)),by omega⟩
    rw [Al2]
    exact i7'.weak (Nat.le_refl _) (by omega)
def IsQ (K:PySem.W.Frag) (H:Hp) (v:V) (q:Rat):Prop:=∃a,v= .ref a/\SqT K H a [.int q.num,.int (q.den:Int)]
def Szq (n:Nat) (q:Rat):Prop:=Sz n q.num/\Sz n (q.den:Int)
theorem IsQ.mono {H H':Hp}{v:V}{q:Rat} (h:IsQ K H v q) (s:Same H H'):IsQ K H' v q:=by
  obtain⟨a,e,t⟩:=h
  exact⟨a,e,s.tup t⟩
theorem Szq.of {n:Nat}{a b:Int} (h:Sz n a) (g:Sz n b) (hb:b≠0):Szq n (Rat.divInt a b):=
  ⟨h.of_abs (Alw a b),g.of_abs (by have:=Alc (a:=a) hb;omega)⟩
def Rz (K:PySem.W.Frag):Sp:=fun vs H Q E=>∃a b:Int,vs=[.int a,.int b]/\(b≠0->∀z H',Same H H'->IsQ K H' z (Rat.divInt a b)->Q z H')/\(b=0->E (.ref (cA K "NoPart")) none H)
def Ub (K:PySem.W.Frag):Sp:=fun vs H Q _=>∃a b:Int,vs=[.int a,.int b]/\b≠0/\∀z H',Same H H'->IsQ K H' z (Rat.divInt a b)->Q z H'
theorem V5 (K:PySem.W.Frag):∀vs H Q E,Ub K vs H Q E->Rz K vs H Q E0:=by
  rintro vs H Q E ⟨a,b,rfl,hb,q⟩
  exact⟨a,b,rfl,fun _=>q,fun z=>(hb z).elim⟩
theorem Zq {f:Addr}{fd:FuncData} (F:Df K mg "fraction" Rj ["top","bottom"] f fd)  (py:Pyl P base) (xm_shared:mg "shared"=some (.ref (cA K "shared"))) (xk_NoPart:Wz K (cA K "NoPart")) (xm_NoPart:mg "NoPart"=some (.ref (cA K "NoPart"))) (c_divisor:Cal P w K mg base 33 "divisor" ["one","other"] (Np K)):Oz P w K mg base 34 "fraction" ["top","bottom"] (Rz K):=by
  refine F.calE (F.fn.okE Oj (fun vs H Q E h=> ?_) (fun cdv A outer s H vs Q E hr h=> ?_))
  . obtain⟨a,b,rfl,_⟩:=h
    rfl
  obtain⟨a,b,rfl,q,q0⟩:=h
  refine S.Bb ⟨_,(S.Ac (S.Du (S.Al N6 (S.pv 1) S.Ad (Ar _)) (S.Ae (S.Hi xk_NoPart xm_NoPart (S.Aa S.K8 S.Ab))) S.Ay)
      (S.Ac (S.Ah (i:=2) Oj.nd rfl (Or.inl rfl) (S.Aj c_divisor (hr.mono (by decide)) (S.Aa (S.pv 0) (S.Aa (S.pv 1) S.Ab))))
      (S.Ac (S.Du (S.Al Wf (S.pv 1) S.Ad (Ar _)) (S.Ae (S.Ah (i:=2) Oj.nd rfl (Or.inl rfl) (S.Hv Gf (S.pv 2)))) S.Ay)
      (S.Ae (S.Ao (S.Bq (S.Aa (S.Ai (Lp py (hr.far (by decide)) rfl rfl rfl rfl rfl) (S.pv 0) (S.pv 2)) (S.Aa (S.Ai (Lp py (hr.far (by decide)) rfl rfl rfl rfl rfl) (S.pv 1) (S.pv 2)) S.Ab)))))))),?_⟩
  simp only [Ib,Fv,Il,Ii,Fz,Hy,Bw,Hu,Em,Ef,z_c,Pj,Qq,Qx,Iz,Qu,Iw,Hw,Im,Hz,Ea,Qp,Hr,Ij,Ip,Fg,Fq,Ie,Hs,Qs,Fj,Ht,Er,Qw,Fi,Ia,Ga,Qt,Hq,Iv,Cz,Ew,Ez,Fy,Cr,Ed,Ir,Ih,Hl,G7,Qv,Bo,Et,Ig,Qo,Iu,Fe,Ja,Jc,Ei,Io,Eo,Eh,Fl,Cm,Jb,Cq,En,Ek,Ft,Cy,Es,Cu,Hx,Ey,Ho,Ej,Fx,Ec,Cv,Bp,Ck,Fw,Ik,El,Fo,Cw,Eu,Qn,cpσ,List.getElem?_cons_zero,List.getElem?_cons_succ,Option.join_some,List.set_cons_zero,List.set_cons_succ,List.append_nil,decide_eq_true_eq,Bool.not_eq_true',decide_eq_false_iff_not,Bool.not_not,ite_not,Bool.false_eq_true,Bool.true_eq_false,if_false,if_true,if_pos,List.length_cons,List.length_nil,Nat.zero_add,Nat.reduceAdd,Fb,Ep,true_and,and_true,L2.start,List.map_cons,List.map_nil,Bool.not_true,Bool.not_false,Nat.reduceSub,List.replicate_succ,List.replicate_zero,List.cons_append,List.nil_append]
  by_cases hb:b=0
  . rw [if_pos hb]
    exact q0 hb
  rw [if_neg hb]
  replace q:=q hb
  refine⟨a,b,rfl,?_⟩
  contradiction
  have hg0:((Int.gcd a b:Nat):Int)≠0:=by
    have:=Int.gcd_pos_of_ne_zero_right a hb
    omega
  split
  . rename_i hneg
    refine⟨by omega,by omega,fun p hp=> ?_⟩
    rw [(Z6 hneg).1,(Z6 hneg).2]
    exact q _ _ (Same.upd hp _) ⟨p,rfl,.of Af⟩
  . rename_i hneg
    have hpos:0<b:=by omega
    refine⟨hg0,hg0,fun p hp=> ?_⟩
    rw [(V9 hpos).1,(V9 hpos).2]
    exact q _ _ (Same.upd hp _) ⟨p,rfl,.of Af⟩
theorem Amg {t b:Int}{n m:Nat} (ht:Sz m t) (hb:Sz m b):∀p:List Int,(∀x∈p,Sz n x)->Sz (n+(m+2)*p.length) (hv p t b)
  | [],_=>Nat.two_pow_pos _
  | w::r,h=>by
    have z1:=Amg ht hb r fun x hx=>h x (List.mem_cons_of_mem _ hx)
    have z2:=(h w (by simp)).mul (Vc hb r.length)
    rw [hv]
    have e:(m+2)*r.length=m*r.length+2*r.length:=Nat.add_mul _ _ _
    have e2:(m+2)*(r.length+1)=(m+2)*r.length+(m+2):=Nat.mul_succ _ _
    refine((z1.mul ht).add z2).mono ?_
    rw [List.length_cons,e2,e]
    generalize m*r.length=A
    omega
def Pt (K:PySem.W.Frag) (H:Hp) (v:V) (q:Rat):Prop:=IsQ K H v q/\Szq 110 q
theorem Pt.mono {H H':Hp}{v:V}{q:Rat} (h:Pt K H v q) (s:Same H H'):Pt K H' v q:=⟨h.1.mono s,h.2⟩
def Oc (K:PySem.W.Frag):Sp:=fun vs H Q _=>∃(x y:V) (p:List Int) (q:Rat) (l n:Nat),vs=[x,y]/\Po K H x p l n/\Pt K H y q/\l<=20/\n<=100000/\Q (.int (hv p q.num q.den)) H
theorem Uy {f:Addr}{fd:FuncData} (F:Df K mg "whole_value" Lg ["one","point"] f fd) (z_reversed:mg "reversed"=none)   :Cal P w K mg base 33 "whole_value" ["one","point"] (Oc K):=by
  refine F.cal (F.fn.ok Dk (fun vs H Q E h=> ?_) (fun cdv A outer s H vs Q E hr h=> ?_))
  . obtain⟨x,y,_,_,_,_,rfl,_⟩:=h
    rfl
  obtain⟨x,y,p,q,l,n,rfl,hx,hy,hl,hn,k⟩:=h
  obtain⟨⟨a,rfl,ha⟩,tp,lp,zp⟩:=id hx
  obtain⟨⟨b,rfl,hb⟩,zt,zb⟩:=id hy
  refine S.Bb ⟨_,(S.Ac (S.Jq (S.pv 1) (S.Jd rfl (S.Bd (S.Aw (i:=5) Dk.nd rfl (Or.inl rfl)) (S.Bd (S.Aw (i:=6) Dk.nd rfl (Or.inl rfl)) S.Gv))))
      (S.Ac (S.Ah (i:=2) Dk.nd rfl (Or.inl rfl) S.Ad)
      (S.Ac (S.Ah (i:=3) Dk.nd rfl (Or.inl rfl) S.Ad)
      (S.Ac (S.Gq PassesOwn.never rfl (S.Agw rfl z_reversed (S.Aa (S.pv 0) S.Ab)) (S.Aw (i:=4) Dk.nd rfl (Or.inl rfl)) (S.Ac (S.Ah (i:=2) Dk.nd rfl (Or.inl rfl) (S.Ai Cj (S.Ai Cg (S.pv 2) (S.pv 5)) (S.Ai Cg (S.pv 4) (S.pv 3))))
      (S.Ae (S.Ah (i:=3) Dk.nd rfl (Or.inl rfl) (S.Ai Cg (S.pv 3) (S.pv 6))))))
      (S.Ae (S.Ao (S.pv 2))))))),?_⟩
  contradiction
  refine J1 hb ?_
  contradiction
  refine⟨_,ha,?_⟩
  rw [List.length_map]
  refine V0 (es:=p.reverse) (inj:=V.int) (fun pre σ H'=>H'=H/\∃o:Option V,σ=[some (.ref a),some (.ref b),some (.int (hv pre.reverse q.num q.den)),some (.int (((q.den:Nat):Int)^pre.length)),o,some (.int q.num),some (.int (q.den:Nat))]) ⟨rfl,_,rfl⟩ ?_ ?_ ?_
  . rintro pre σ H' ⟨rfl,_⟩
    exact Ajx ha
  . rintro pre e post σ H' he ⟨rfl,o,rfl⟩
    have hpl:pre.length<=l:=by
      have:=congrArg List.length he
      simp at this
      omega
    have he':Sz n e:=hx.mem e (by
      have:e∈p.reverse:=by rw [he];simp
      exact List.mem_reverse.mp this)
    have z1:=Amg zt zb pre.reverse fun x hm=>hx.mem x (by
      have:x∈p.reverse:=by rw [he];exact List.mem_append_left _ (List.mem_reverse.mp hm)
      exact List.mem_reverse.mp this)
    rw [List.length_reverse]at z1
    have z2:=Vc zb pre.length
    contradiction
    refine⟨z1.mulOk zt (by omega),he'.mulOk z2 (by omega),z2.mulOk zb (by omega),?_⟩
    try contradiction
    refine⟨some (.int e),?_⟩
    rw [List.reverse_append,List.reverse_singleton,List.singleton_append,hv,List.length_reverse,List.length_append,List.length_singleton,Int.pow_succ]
  . rintro σ H' ⟨rfl,o,rfl⟩
    contradiction
    rw [List.reverse_reverse]
    exact k
def sgI (n:Int):Int:=if n=0 then 0 else if 0<n then 1 else-1
theorem Z7 (x:Int):sgI x=0↔x=0:=by
  unfold sgI
  split<;>(try split)<;>omega
def Mf (_:PySem.W.Frag):Sp:=fun vs H Q _=>∃n:Int,vs=[.int n]/\Q (.int (sgI n)) H
theorem Sd {f:Addr}{fd:FuncData} (F:Df K mg "sign_of_whole" J0 ["number"] f fd)    :Cal P w K mg base 33 "sign_of_whole" ["number"] (Mf K):=by
  refine F.cal (F.fn.ok R6 (fun vs H Q E h=> ?_) (fun cdv A outer s H vs Q E hr h=> ?_))
  . obtain⟨n,rfl,_⟩:=h
    rfl
  obtain⟨n,rfl,k⟩:=h
  refine S.Bb ⟨_,(S.Ac (S.Du (S.Al N6 (S.pv 0) S.Ad (Ar _)) (S.Ae (S.Ao S.Ad)) S.Ay)
      (S.Ae (S.Ao (S.Ny (S.Al R7 (S.pv 0) S.Ad (Ar _)) S.Ad (S.Hv Gf S.Ad))))),?_⟩
  contradiction
  unfold sgI at k
  split
  . rename_i h
    rw [if_pos h]at k
    exact k
  . rename_i h
    rw [if_neg h]at k
    split
    . rename_i h'
      rw [if_pos h']at k
      exact k
    . rename_i h'
      rw [if_neg h']at k
      exact k
def U8 (K:PySem.W.Frag):Sp:=fun vs H Q _=>∃(x y:V) (p:List Int) (q:Rat) (l n:Nat),vs=[x,y]/\Po K H x p l n/\Pt K H y q/\l<=20/\n<=100000/\Q (.int (sgI (hv p q.num q.den))) H
theorem Abx {f:Addr}{fd:FuncData} (F:Df K mg "sign_at" Tj ["one","point"] f fd)   (c_sign_of_whole:Cal P w K mg base 33 "sign_of_whole" ["number"] (Mf K)) (c_whole_value:Cal P w K mg base 33 "whole_value" ["one","point"] (Oc K)):Cal P w K mg base 34 "sign_at" ["one","point"] (U8 K):=by
  refine F.cal (F.fn.ok Aa8 (fun vs H Q E h=> ?_) (fun cdv A outer s H vs Q E hr h=> ?_))
  . obtain⟨x,y,_,_,_,_,rfl,_⟩:=h
    rfl
  obtain⟨x,y,p,q,l,n,rfl,hx,hy,hl,hn,k⟩:=h
  refine S.Bb ⟨_,(S.Ae (S.Ao (S.Aj c_sign_of_whole (hr.mono (by decide)) (S.Aa (S.Aj c_whole_value (hr.mono (by decide)) (S.Aa (S.pv 0) (S.Aa (S.pv 1) S.Ab))) S.Ab)))),?_⟩
  contradiction
  exact⟨x,y,p,q,l,n,rfl,hx,hy,hl,hn,⟨_,rfl,k⟩⟩
inductive Wh (K:PySem.W.Frag) (H:Hp):V->Bool->Prop where
  | int (i:Int):Wh K H (.int i) true
  | bl (b:Bool):Wh K H (.bl b) false
  | non:Wh K H .non false
  | str (x:Str):Wh K H (.str x) false
  | tup {a:Addr}{xs:List V} (e:H a=some (.tup xs)):Wh K H (.ref a) false
  | lst {a:Addr}{xs:List V} (e:H a=some (.lst xs)):Wh K H (.ref a) false
def Ao7 (K:PySem.W.Frag):Sp:=fun vs H Q _=>∃v b,vs=[v]/\Wh K H v b/\Q (.bl b) H
theorem isi {H:Hp}{GB:Bool->Prop}{v:V}{t:Value}{T:String}{b:Bool} (ht:Yr K H v t) (hk:PySem.W.kitOne K t (.type T)=some b) (q:GB b):
    ∃x t' T' b',[v,V.ty T]=[x,V.ty T']/\Yr K H x t'/\PySem.W.kitOne K t' (.type T')=some b'/\GB b':=⟨v,t,T,b,rfl,ht,hk,q⟩
theorem Afi {T U:String}{b:Bool} (h:(if(Value.type T==Value.type U)=true then some true else if PySem.W.kitMeta U=true then PySem.W.subIn [] (.type T) (.type U)else none)=some b):PySem.W.kitOne K (.type T) (.type U)=some b:=h
theorem Aku:PySem.W.kitOne K (.type "int") (.type "int")=some true:=Afi (by decide+kernel)
theorem Al3:PySem.W.kitOne K (.type "int") (.type "bool")=some false:=Afi (by decide+kernel)
theorem Amn:PySem.W.kitOne K (.type "bool") (.type "int")=some true:=Afi (by decide+kernel)
theorem Akp:PySem.W.kitOne K (.type "bool") (.type "bool")=some true:=Afi (by decide+kernel)
theorem Alf:PySem.W.kitOne K (.type "NoneType") (.type "int")=some false:=Afi (by decide+kernel)
theorem Aml:PySem.W.kitOne K (.type "str") (.type "int")=some false:=Afi (by decide+kernel)
theorem Ak3:PySem.W.kitOne K (.type "tuple") (.type "int")=some false:=Afi (by decide+kernel)
theorem Akn:PySem.W.kitOne K (.type "list") (.type "int")=some false:=Afi (by decide+kernel)
def Q5 (K:PySem.W.Frag):Sp:=Ao7 K
theorem Aa0 {f:Addr}{fd:FuncData} (F:Df K mg "_law_whole" Tt ["_law_found"] f fd) (z_isinstance:mg "isinstance"=none) (z_int:mg "int"=none) (z_bool:mg "bool"=none)   :Cal P w K mg base 33 "_law_whole" ["_law_found"] (Q5 K):=by
  refine F.cal (F.fn.ok Abv (fun vs H Q E h=> ?_) (fun cdv A outer s H vs Q E hr h=> ?_))
  . obtain⟨v,b,rfl,_⟩:=h
    rfl
  obtain⟨v,b,rfl,hv,q⟩:=h
  refine S.Bb ⟨_,(S.Ae (S.Ao (S.Tq (S.Dn Wj rfl z_isinstance PyProof.Rows.boot_isinstance (S.Aa (S.pv 0) (S.Aa (S.Lr (v:= .ty "int") rfl z_int PyProof.Rows.boot_int rfl) S.Ab))) (S.Rx (S.Z8 (S.Dn Wj rfl z_isinstance PyProof.Rows.boot_isinstance (S.Aa (S.pv 0) (S.Aa (S.Lr (v:= .ty "bool") rfl z_bool PyProof.Rows.boot_bool rfl) S.Ab)))))))),?_⟩
  contradiction
  cases hv with
  | int i=>
    refine isi (.int i) Aku ?_
    contradiction
    refine isi (.int i) Al3 ?_
    contradiction
    exact q
  | bl b=>
    refine isi (.bl b) Amn ?_
    contradiction
    refine isi (.bl b) Akp ?_
    contradiction
    exact q
  | non=>
    refine isi .non Alf ?_
    contradiction
    exact q
  | str x=>
    refine isi (.str x) Aml ?_
    contradiction
    exact q
  | tup e=>
    refine isi (.tup e) Ak3 ?_
    contradiction
    exact q
  | lst e=>
    refine isi (.lst e) Akn ?_
    contradiction
    exact q
def Ko (K:PySem.W.Frag):Sp:=fun vs H Q _=>∃(x y:V) (p q:List Int) (l l' n n':Nat),vs=[x,y]/\Po K H x p l n/\Po K H y q l' n'/\l<=400/\l'<=400/\n+n'<=100000000/\∀z H',Same H H'->Po K H' z (tm p q) (l+l') (n+n'+l)->Q z H'
theorem Xn {f:Addr}{fd:FuncData} (F:Df K mg "_law_product" Ow ["_law_one","_law_other"] f fd) (z_range:mg "range"=none) (z_len:mg "len"=none)  (c_q_cut:Cal P w K mg base 33 "_law_cut" ["_law_weights"] (S8 K)):Cal P w K mg base 34 "_law_product" ["_law_one","_law_other"] (Ko K):=by
  refine F.cal (F.fn.ok Kg (fun vs H Q E h=> ?_) (fun cdv A outer s H vs Q E hr h=> ?_))
  . obtain⟨x,y,p,q,_,_,_,_,rfl,_⟩:=h
    rfl
  obtain⟨x,y,p,q,l,l',n,n',rfl,hx,hy,l5,l5',hn,k⟩:=h
  have mx:=hx.mem
  have my:=hy.mem
  obtain⟨⟨a,rfl,ha⟩,tp,lp,zp⟩:=hx
  obtain⟨⟨b,rfl,hb⟩,tq,lq,zq⟩:=hy
  have res:∀(z:Addr) (H':Hp),Same H H'->SqT K H' z ((tm p q).map V.int)->Q (.ref z) H':=fun z H' s hz=>by
    refine k _ _ s ⟨⟨z,rfl,hz⟩,Gy _ _,?_,fun i=> ?_⟩
    . by_cases h1:p=[]
      . rw [h1,Gd,Ob]
        exact Nat.zero_le _
      . by_cases h2:q=[]
        . rw [h2,Ob]
          exact Nat.zero_le _
        . have:=Oh tp tq h1 h2
          omega
    . rw [Ci]
      exact(Agi zq p mx i).mono (by omega)
  refine S.Bb ⟨_,(S.Ac (S.Ah (i:=2) Kg.nd rfl (Or.inl rfl) (S.Ai Aah (S.Ka (S.Aa S.Ad S.Ab)) (S.Ai Cj (S.Dn Am rfl z_len PySem.boot_len (S.Aa (S.pv 0) S.Ab)) (S.Dn Am rfl z_len PySem.boot_len (S.Aa (S.pv 1) S.Ab)))))
      (S.Ac (S.Gq PassesOwn.never rfl (S.Kd rfl z_range (S.Aa (S.Dn Am rfl z_len PySem.boot_len (S.Aa (S.pv 0) S.Ab)) S.Ab)) (S.Aw (i:=3) Kg.nd rfl (Or.inl rfl)) (S.Ae (S.Gq PassesOwn.never rfl (S.Kd rfl z_range (S.Aa (S.Dn Am rfl z_len PySem.boot_len (S.Aa (S.pv 1) S.Ab)) S.Ab)) (S.Aw (i:=4) Kg.nd rfl (Or.inl rfl)) (S.Ae (S.Jq (S.Ai Cj (S.Bl G3 (S.pv 2) (S.Ai Cj (S.pv 3) (S.pv 4)) (fun _ _=>rfl)) (S.Ai Cg (S.Bl Bc (S.pv 0) (S.pv 3) (fun _ _=>rfl)) (S.Bl Bc (S.pv 1) (S.pv 4) (fun _ _=>rfl)))) (S.Ms (S.pv 2) (S.Ai Cj (S.pv 3) (S.pv 4)) set_list))))))
      (S.Ae (S.Ao (S.Aj c_q_cut (hr.mono (by decide)) (S.Aa (S.pv 2) S.Ab)))))),?_⟩
  contradiction
  intro p3 hp3
  have s3:=Same.upd hp3 (.lst [V.int 0])
  have sz5:1000<=sizeLine:=by decide
  refine⟨a,_,rfl,.inr (s3.tup ha),b,_,rfl,.inr (s3.tup hb),?_⟩
  simp only [List.length_map]
  have hN:((p.length:Int)+(q.length:Int)).toNat=p.length+q.length:=by omega
  refine⟨p3,_,[V.int 0],rfl,rfl,Af,by omega,by omega,by rw [hN];simp only [List.length_cons,List.length_nil];omega,fun l0 hn'=> ?_⟩
  rw [hN,Mr]
  have hnH:H l0=none:=Same.free s3 hn'
  have s4:=s3.trans (Same.upd hn' (.lst ((List.replicate (p.length+q.length) (0:Int)).map V.int)))
  refine⟨a,_,rfl,.inr (s4.tup ha),?_⟩
  simp only [Ib,Fv,Il,Ii,Fz,Hy,Bw,Hu,Em,Ef,z_c,Pj,Qq,Qx,Iz,Qu,Iw,Hw,Im,Hz,Ea,Qp,Hr,Ij,Ip,Fg,Fq,Ie,Hs,Qs,Fj,Ht,Er,Qw,Fi,Ia,Ga,Qt,Hq,Iv,Cz,Ew,Ez,Fy,Cr,Ed,Ir,Ih,Hl,G7,Qv,Bo,Et,Ig,Qo,Iu,Fe,Ja,Jc,Ei,Io,Eo,Eh,Fl,Cm,Jb,Cq,En,Ek,Ft,Cy,Es,Cu,Hx,Ey,Ho,Ej,Fx,Ec,Cv,Bp,Ck,Fw,Ik,El,Fo,Cw,Eu,Qn,cpσ,List.getElem?_cons_zero,List.getElem?_cons_succ,Option.join_some,List.set_cons_zero,List.set_cons_succ,List.append_nil,decide_eq_true_eq,Bool.not_eq_true',decide_eq_false_iff_not,Bool.not_not,ite_not,Bool.false_eq_true,Bool.true_eq_false,if_false,if_true,if_pos,List.length_cons,List.length_nil,Nat.zero_add,Nat.reduceAdd,Fb,Ep,true_and,and_true,L2.start,List.map_cons,List.map_nil,Bool.not_true,Bool.not_false,Nat.reduceSub,List.replicate_succ,List.replicate_zero,List.cons_append,List.nil_append,List.length_map,Int.toNat_natCast]
  refine⟨by omega,by omega,V0 (es:=List.range p.length) (inj:=fun i=> .int (0+(i:Nat))) (fun pre σ H'=>∃(o1 o2:Option V) (ms:List Int),σ=[some (.ref a),some (.ref b),some (.ref l0),o1,o2]/\pre=List.range pre.length/\Same H H'/\H' l0=some (.lst (ms.map V.int))/\ms.length=p.length+q.length/\∀i,co ms i=mu (p.take pre.length) (co q) i)
    ⟨_,_,List.replicate (p.length+q.length) 0,rfl,rfl,s4,Af,by rw [List.length_replicate],fun i=> ?_⟩ ?_ ?_ ?_⟩
  . show _=0
    unfold co
    rw [List.getD_eq_getElem?_getD,List.getElem?_replicate]
    split<;>rfl
  . rintro pre σ H' _
    exact N5
  . rintro pre e post σ H' he ⟨o1,o2,ms,rfl,hpre,s5,hm,hlm,hco⟩
    have hlen:=congrArg List.length he
    rw [List.length_range,List.length_append,List.length_cons]at hlen
    have ee:e=pre.length:=by
      have:=congrArg (fun l=>l[pre.length]?) he
      simp only [List.getElem?_append_right (Nat.le_refl _),Nat.sub_self,List.getElem?_cons_zero]at this
      rw [List.getElem?_range (by omega)]at this
      exact(Option.some.inj this).symm
    subst ee
    have hpp:pre++ [pre.length]=List.range (pre++ [pre.length]).length:=by
      rw [List.length_append,List.length_singleton,List.range_succ,<-hpre]
    have hk:pre.length<p.length:=by omega
    have ez:Sz n p[pre.length]:=mx _ (List.getElem_mem hk)
    try contradiction
    refine⟨b,_,rfl,.inr (s5.tup hb),?_⟩
    simp only [Ib,Fv,Il,Ii,Fz,Hy,Bw,Hu,Em,Ef,z_c,Pj,Qq,Qx,Iz,Qu,Iw,Hw,Im,Hz,Ea,Qp,Hr,Ij,Ip,Fg,Fq,Ie,Hs,Qs,Fj,Ht,Er,Qw,Fi,Ia,Ga,Qt,Hq,Iv,Cz,Ew,Ez,Fy,Cr,Ed,Ir,Ih,Hl,G7,Qv,Bo,Et,Ig,Qo,Iu,Fe,Ja,Jc,Ei,Io,Eo,Eh,Fl,Cm,Jb,Cq,En,Ek,Ft,Cy,Es,Cu,Hx,Ey,Ho,Ej,Fx,Ec,Cv,Bp,Ck,Fw,Ik,El,Fo,Cw,Eu,Qn,cpσ,List.getElem?_cons_zero,List.getElem?_cons_succ,Option.join_some,List.set_cons_zero,List.set_cons_succ,List.append_nil,decide_eq_true_eq,Bool.not_eq_true',decide_eq_false_iff_not,Bool.not_not,ite_not,Bool.false_eq_true,Bool.true_eq_false,if_false,if_true,if_pos,List.length_cons,List.length_nil,Nat.zero_add,Nat.reduceAdd,Fb,Ep,true_and,and_true,L2.start,List.map_cons,List.map_nil,Bool.not_true,Bool.not_false,Nat.reduceSub,List.replicate_succ,List.replicate_zero,List.cons_append,List.nil_append,List.length_map,Int.toNat_natCast,Int.zero_add]
    refine⟨by omega,by omega,V0 (es:=List.range q.length) (inj:=fun i=> .int (0+(i:Nat))) (fun pre2 σ H2=>∃(o2:Option V) (ms2:List Int),σ=[some (.ref a),some (.ref b),some (.ref l0),some (.int (pre.length:Nat)),o2]/\pre2=List.range pre2.length/\Same H H2/\H2 l0=some (.lst (ms2.map V.int))/\ms2.length=p.length+q.length/\
        ∀i,co ms2 i=mu (p.take pre.length) (co q) i+(if pre.length<=i then p[pre.length]*co (q.take pre2.length) (i-pre.length)else 0)) ⟨_,ms,rfl,rfl,s5,hm,hlm,fun i=> ?_⟩ ?_ ?_ ?_⟩
    . rw [hco,List.length_nil,List.take_zero,Az,Int.mul_zero]
      split<;>simp
    . rintro pre2 σ H2 _
      exact N5
    . rintro pre2 f post2 σ H2 he2 ⟨o2,ms2,rfl,hpre2,s7,hm7,hlm2,hco2⟩
      have hlen2:=congrArg List.length he2
      rw [List.length_range,List.length_append,List.length_cons]at hlen2
      have ff:f=pre2.length:=by
        have:=congrArg (fun l=>l[pre2.length]?) he2
        simp only [List.getElem?_append_right (Nat.le_refl _),Nat.sub_self,List.getElem?_cons_zero]at this
        rw [List.getElem?_range (by omega)]at this
        exact(Option.some.inj this).symm
      subst ff
      have hpp2:pre2++ [pre2.length]=List.range (pre2++ [pre2.length]).length:=by
        rw [List.length_append,List.length_singleton,List.range_succ,<-hpre2]
      have hk2:pre2.length<q.length:=by omega
      have fz:Sz n' q[pre2.length]:=my _ (List.getElem_mem hk2)
      have hj:pre.length+pre2.length<ms2.length:=by omega
      simp only [Ib,Fv,Il,Ii,Fz,Hy,Bw,Hu,Em,Ef,z_c,Pj,Qq,Qx,Iz,Qu,Iw,Hw,Im,Hz,Ea,Qp,Hr,Ij,Ip,Fg,Fq,Ie,Hs,Qs,Fj,Ht,Er,Qw,Fi,Ia,Ga,Qt,Hq,Iv,Cz,Ew,Ez,Fy,Cr,Ed,Ir,Ih,Hl,G7,Qv,Bo,Et,Ig,Qo,Iu,Fe,Ja,Jc,Ei,Io,Eo,Eh,Fl,Cm,Jb,Cq,En,Ek,Ft,Cy,Es,Cu,Hx,Ey,Ho,Ej,Fx,Ec,Cv,Bp,Ck,Fw,Ik,El,Fo,Cw,Eu,Qn,cpσ,List.getElem?_cons_zero,List.getElem?_cons_succ,Option.join_some,List.set_cons_zero,List.set_cons_succ,List.append_nil,decide_eq_true_eq,Bool.not_eq_true',decide_eq_false_iff_not,Bool.not_not,ite_not,Bool.false_eq_true,Bool.true_eq_false,if_false,if_true,if_pos,List.length_cons,List.length_nil,Nat.zero_add,Nat.reduceAdd,Fb,Ep,true_and,and_true,L2.start,List.map_cons,List.map_nil,Bool.not_true,Bool.not_false,Nat.reduceSub,List.replicate_succ,List.replicate_zero,List.cons_append,List.nil_append,Int.zero_add,<-Int.natCast_add]
      refine P0 (.of hm7) (G6 hj) (Dj (s7.tup ha) (Jw (G6 hk)) (Dj (s7.tup hb) (Jw (G6 hk2)) ?_))
      try contradiction
      refine⟨ez.mulOk fz (by omega),Yi hm7 (by rw [List.length_map];exact hj) ?_⟩
      rw [Kq]
      refine⟨_,ms2.set (pre.length+pre2.length) (ms2[pre.length+pre2.length]+p[pre.length]*q[pre2.length]),rfl,hpp2,?_,Af,by rw [List.length_set];exact hlm2,fun i=> ?_⟩
      . intro c o hc
        rw [Bv (Bt hc hnH)]
        exact s7 _ _ hc
      . rw [Ru _ _ _ hj,hco2 i,List.length_append,List.length_singleton]
        have tk:q.take (pre2.length+1)=q.take pre2.length++ [q[pre2.length]]:=by rw [List.take_succ,List.getElem?_eq_getElem hk2];rfl
        have tl:(q.take pre2.length).length=pre2.length:=by rw [List.length_take];omega
        rw [tk,J6,tl]
        by_cases hi:i=pre.length+pre2.length
        . subst hi
          rw [if_pos rfl,<-Eb hj,hco2,if_pos (by omega),if_pos (by omega),if_pos (by omega),show pre.length+pre2.length-pre.length=pre2.length by omega,Bm (p:=q.take pre2.length) (by omega)]
          omega
        . rw [if_neg hi]
          by_cases hi2:pre.length<=i
          . rw [if_pos hi2,if_pos hi2,if_neg (by omega)]
          . rw [if_neg hi2,if_neg hi2]
    . rintro σ H2 ⟨o2,ms2,rfl,_,s7,hm7,hlm2,hco2⟩
      try contradiction
      refine⟨_,_,ms2,rfl,hpp,s7,hm7,hlm2,fun i=> ?_⟩
      have tk:p.take (pre.length+1)=p.take pre.length++ [p[pre.length]]:=by rw [List.take_succ,List.getElem?_eq_getElem hk];rfl
      have tl:(p.take pre.length).length=pre.length:=by rw [List.length_take];omega
      rw [List.length_append,List.length_singleton,tk,Nb,hco2,tl,List.length_range,List.take_length]
  . rintro σ H' ⟨o1,o2,ms,rfl,_,s5,hm,hlm,hco⟩
    try contradiction
    refine Alv (.inl (.of hm)) (by omega) fun z H2 s2 hz=>res z H2 (s5.trans s2) ?_
    have e:trim ms=tm p q:=Rp fun i=>by rw [hco,List.length_range,List.take_length,Pq]
    rw [<-e]
    exact hz
theorem Ag7:PySem.W.kitOne K (.type "tuple") (.type "tuple")=some true:=Afi (by decide+kernel)
def M5 (K:PySem.W.Frag):Sp:=fun vs H Q _=>∃(x:V) (p:List Int) (l n:Nat),vs=[x]/\Po K H x p l n/\l<=1000/\∀H',Same H H'->Q (.bl true) H'
theorem Xh {f:Addr}{fd:FuncData} (F:Df K mg "_law_is_poly" Lh ["_law_found"] f fd) (z_isinstance:mg "isinstance"=none) (z_tuple:mg "tuple"=none) (z_all:mg "all"=none)  (c_q_whole:Cal P w K mg base 33 "_law_whole" ["_law_found"] (Q5 K)):Cal P w K mg base 34 "_law_is_poly" ["_law_found"] (M5 K):=by
  refine F.cal (F.fn.ok Xk (fun vs H Q E h=> ?_) (fun cdv A outer s H vs Q E hr h=> ?_))
  . obtain⟨x,p,_,_,rfl,_⟩:=h
    rfl
  obtain⟨x,p,l,n,rfl,⟨⟨a,rfl,ha⟩,tp,lp,zp⟩,hl,k⟩:=h
  refine S.Bb ⟨_,(S.Ac (S.Du (S.O2 (S.N7 (S.K9 (S.Jp (S.Dn Aai rfl z_isinstance PyProof.Rows.boot_isinstance (S.Aa (S.pv 0) (S.Aa (S.Lr (v:= .ty "tuple") rfl z_tuple PyProof.Rows.boot_tuple rfl) S.Ab))))) (S.Nh (S.K9 (S.Jp (S.Dn (Z4 rfl) rfl z_all PyProof.Rows.boot_all (S.Aa (S.Kv (ts:=["_law_weight_here"]) (fs:=[]) rfl (Dp.of (sc:=Ag Lh) (N:=["_law_found"]) rfl rfl (by decide+kernel)) (S.Ug (S.pv 0)) (fun _ _ _=>(S.Aw (i:=0) (show List.Nodup (["_law_weight_here"]:List Str)by decide+kernel) rfl (Or.inl rfl))) (fun _ _ _=>S.Jz) (fun _ _ _=>(S.Aj c_q_whole (hr.mono (by decide)) (S.Aa (S.pv 0) S.Ab)))) S.Ab))))))) (S.Ae (S.Ao S.O5)) S.Ay)
      (S.Ae (S.Ao (S.Ajr (S.Gz (J2 hr.units) (S.pv 0) (S.Bq S.Ab) (Ar _)) (S.Rx (S.Gz Q6 (S.Bl Bc (S.pv 0) (S.Hv Gf S.Ad) (fun _ _=>rfl)) S.Ad (Ar _))))))),?_⟩
  contradiction
  refine⟨a,_,_,_,rfl,ha,Ag7,?_⟩
  try contradiction
  refine⟨⟨_,ha⟩,fun p1 hp1=>Om (es:=p) (inj:=V.int) (fun _=> .bl true) (Nat.le_trans lp (Nat.le_trans hl (by decide))) hp1 (Xr ha) ?_ ?_⟩
  . intro e H2 R he s2 hR
    contradiction
    exact⟨_,_,rfl,.int e,hR _ (Same.refl _)⟩
  intro H2 s2 h2
  have em:p.map (fun _=>V.bl true)=(p.map fun _=>true).map V.bl:=by rw [List.map_map];rfl
  rw [em]at h2
  have ea:(p.map fun _=>true).all id=true:=by simp
  try contradiction
  refine⟨p1,_,rfl,.of h2,?_⟩
  rw [ea]
  try contradiction
  refine⟨by decide,fun p2 hp2=> ?_⟩
  have s3:=s2.trans (Same.upd hp2 (.tup []))
  refine Dh (ms:=[]) (s3.tup ha) (.of Af) ?_
  try contradiction
  by_cases h0:p=[]
  . rw [if_pos h0]
    exact k _ s3
  . rw [if_neg h0]
    obtain⟨ini,d,rfl⟩:∃(i:List Int) (x:Int),p=i++ [x]:=⟨_,_,(List.dropLast_concat_getLast h0).symm⟩
    have em2:(ini++ [d]).map V.int=ini.map V.int++ [V.int d]:=by rw [List.map_append];rfl
    refine Dj (s3.tup ha) (v:= .int d) (by rw [em2];exact Wg _ _) ?_
    try contradiction
    have hd:d≠0:=by
      have:=tp.lead h0
      rw [List.length_append,List.length_singleton,Nat.add_sub_cancel,J6,if_pos rfl]at this
      exact this
    rw [decide_eq_false hd]
    exact k _ s3
theorem Aec {H H1:Hp}{Q:VK}{E:XK}{x:V}{p:List Int}{l n:Nat} (hx:Po K H1 x p l n) (s1:Same H1 H) (hl:l<=1000) (h:∀H',Same H H'->Q (.bl true) H'):M5 K [x] H Q E:=⟨x,p,l,n,rfl,hx.mono s1,hl,h⟩
theorem Vl {H H1:Hp}{Q:VK}{E:XK}{a:Addr}{ns:List Int}{j:Int} (hS:SqL K H1 a (ns.map V.int)) (s1:Same H1 H) (h0:0<=j) (h:Q (.int (cell ns j)) H):Kl K [.ref a,.int j] H Q E:=⟨a,ns,j,rfl,s1.seq hS,h0,h⟩
theorem Ajo {p q u r:List Int}{s:Int} (hs:1<=s) (h:∀k,s*co p k=mu u (co q) k+co r k) (tr:Tr r) (tq:Tr q) (lr:r.length<q.length):r=[]↔Dv q p:=by
  constructor
  . rintro rfl
    exact⟨s,u,by omega,fun i=>by rw [h,Az,Int.add_zero]⟩
  . intro hd
    by_cases n:r=[]
    . exact n
    . exfalso
      have:Dv q r:=Dv.comb hd (Dv.refl q) (k:=1) (by decide) (a:=[s]) (b:=u.map (-1* ·)) fun i=>by
        rw [Ams,Od]
        have:=h i
        omega
      have:=(this.len tq tr n).2
      omega
def Mv (K:PySem.W.Frag):Sp:=fun vs H Q _=>∃(x y:V) (d f:List Int) (l n:Nat),vs=[x,y]/\Po K H x d l n/\Po K H y f l n/\l<=60/\n<=400000/\d≠ []/\∀(b:Bool) H',Same H H'->(b=true↔Dv d f)->Q (.bl b) H'
theorem Yc {f:Addr}{fd:FuncData} (F:Df K mg "_law_divides" O4 ["_law_one","_law_other"] f fd)   (c_parted:Cal P w K mg base 35 "parted" ["one","other"] (Xo K)):Cal P w K mg base 36 "_law_divides" ["_law_one","_law_other"] (Mv K):=by
  refine F.cal (F.fn.ok Xf (fun vs H Q E h=> ?_) (fun cdv A outer s H vs Q E hr h=> ?_))
  . obtain⟨x,y,d,f,_,_,rfl,_⟩:=h
    rfl
  obtain⟨x,y,d,f,l,n,rfl,hx,hy,hl,hn,hd,k⟩:=h
  obtain⟨_,td,_⟩:=id hx
  obtain⟨_,tf,_⟩:=id hy
  refine S.Bb ⟨_,(S.Ae (S.Ao (S.Gz (J2 hr.units) (S.Bl Bc (S.Aj c_parted (hr.mono (by decide)) (S.Aa (S.pv 1) (S.Aa (S.pv 0) S.Ab))) S.Ad (fun _ _=>rfl)) (S.Bq S.Ab) (Ar _)))),?_⟩
  contradiction
  refine⟨_,_,f,d,l,l,n,n,rfl,hy,hx,hl,hl,by omega,by omega,hd,fun z H1 sc c e u r s1 hz iu ir sc1 zsc bb heq hlr cop=> ?_⟩
  refine Dj hz (Jw (j:=2) rfl) ?_
  try contradiction
  refine⟨by decide,fun e1 he1=> ?_⟩
  have s2:=Same.upd he1 (.tup [])
  obtain⟨⟨dr,rfl,hdr⟩,tr,_⟩:=id ir
  refine Dh (ms:=[]) (s2.tup hdr) (.of Af) ?_
  exact k _ _ (s1.trans s2) (by rw [decide_eq_true_eq];exact Ajo sc1 heq tr td hlr)
theorem Afq {x:Int} (h:x.natAbs<2^60):Builtin.Int.intBits x<=64:=Nat.le_trans (PySem.intBits_le_iff.mpr h) (by decide)
theorem Ll.snoc {H:Hp}{q c:Addr}{v:V}{es:List Le}{f:Pol}{k l n:Nat} (h:Ll K H q es l n) (hc:H c=some (.tup [v,.int (k:Nat)])) (hv:Po K H v f.l l n):Ll K (upd H q (.lst ((es.map fun e=>V.ref e.1)++ [.ref c]))) q (es++ [(c,v,f,k)]) l n:=by
  have tup_keep:∀ {a:Addr}{ys:List V},H a=some (.tup ys)->upd H q (.lst ((es.map fun e=>V.ref e.1)++ [.ref c])) a=some (.tup ys):=fun g=>by
    rw [Bv (Zt g h.it (by intro z;cases z))]
    exact g
  refine⟨by rw [Af,List.map_append];rfl,fun e he=> ?_⟩
  rcases List.mem_append.mp he with he | he
  . exact⟨tup_keep (h.al e he).1,(h.al e he).2.put h.it⟩
  . rw [List.mem_singleton.mp he]
    exact⟨tup_keep hc,hv.put h.it⟩
def Ym (es:List Le):Nat:=(es.map fun e=>(e.2.2.1.l.length-1)*e.2.2.2).sum
theorem M8 (es:List Le) (e:Le):Ym (es++ [e])=Ym es+(e.2.2.1.l.length-1)*e.2.2.2:=by
  unfold Ym
  rw [List.map_append,List.sum_append]
  rfl
theorem Af2 {es pre post:List Le} (h:es=pre++post):Ym pre<=Ym es:=by
  unfold Ym
  rw [h,List.map_append,List.sum_append]
  omega
theorem Ad6 {f:Pol} (nf:f≠0):∀k:Nat,(f^k).l.length=(f.l.length-1)*k+1
  | 0=>rfl
  | k+1=>by
    have:=Kw (Oa nf k) nf
    rw [show f^k*f=f^(k+1)by grind,Ad6 nf k]at this
    have f1:=len_pos nf
    rw [Nat.mul_succ]
    omega
structure Pts (es:List Le):Prop where
  n4:es.length<=4
  d9:Ym es<=9
  al:∀e∈es,e.2.2.1≠0/\1<=e.2.2.2/\e.2.2.2<=4
def Vi (K:PySem.W.Frag):Sp:=fun vs H Q _=>∃(a:Addr) (ns:List Int),vs=[.ref a]/\SqL K H a (ns.map V.int)/\∀z va b (whole:Pol) es H',Same H H'->H' z=some (.tup [va,.ref b])->Po K H' va whole.l 10 1200->whole≠0->Ll K H' b es 3 50->Pts es->(∀e∈es,Di (e.2.2.1^e.2.2.2) whole)->Q (.ref z) H'
theorem Abz {f:Addr}{fd:FuncData} (F:Df K mg "_law_built" Ui ["_law_script"] f fd) (z_range:mg "range"=none) (z_len:mg "len"=none)  (c_q_cell_at:Cal P w K mg base 33 "_law_cell_at" ["_law_script","_law_k"] (Kl K)) (c_q_poly:Cal P w K mg base 35 "_law_poly" ["_law_cell","_law_most"] (Pk K)) (c_q_product:Cal P w K mg base 34 "_law_product" ["_law_one","_law_other"] (Ko K)) (c_power:Cal P w K mg base 35 "power" ["one","many"] (Sx K)):Cal P w K mg base 36 "_law_built" ["_law_script"] (Vi K):=by
  refine F.cal (F.fn.ok Dl (fun vs H Q E h=> ?_) (fun cdv A outer s H vs Q E hr h=> ?_))
  . obtain⟨a,ns,rfl,_⟩:=h
    rfl
  obtain⟨a,ns,rfl,hS,k⟩:=h
  refine S.Bb ⟨_,(S.Ac (S.Ah (i:=1) Dl.nd rfl (Or.inl rfl) (S.Ka S.Ab))
      (S.Ac (S.Ah (i:=2) Dl.nd rfl (Or.inl rfl) S.Ad)
      (S.Ac (S.Gq PassesOwn.never rfl (S.Kd rfl z_range (S.Aa (S.Ai Dz (S.Aj c_q_cell_at (hr.mono (by decide)) (S.Aa (S.pv 0) (S.Aa S.Ad S.Ab))) S.Ad) S.Ab)) (S.Aw (i:=3) Dl.nd rfl (Or.inl rfl)) (S.Ac (S.Ah (i:=4) Dl.nd rfl (Or.inl rfl) (S.Aj c_q_cell_at (hr.mono (by decide)) (S.Aa (S.pv 0) (S.Aa (S.Ai Cj S.Ad (S.pv 3)) S.Ab))))
      (S.Ac (S.Ah (i:=6) Dl.nd rfl (Or.inl rfl) (S.Aj c_q_poly (hr.mono (by decide)) (S.Aa (S.Ai Cj (S.Ai Cj (S.Ai Cg (S.Ai Gb (S.pv 4) S.Ad) S.Ad) S.Ad) (S.Ai Dz (S.Ai Gb (S.pv 4) S.Ad) S.Ad)) (S.Aa S.Ad S.Ab))))
      (S.Ac (S.Ah (i:=7) Dl.nd rfl (Or.inl rfl) (S.Ai Cj S.Ad (S.Ai Dz (S.pv 4) S.Ad)))
      (S.Ae (S.Du (S.O2 (S.Rv (S.Al (Vg hr.units) (S.pv 6) (S.Bq S.Ab) (Ar _)) (S.Ng (S.Al Alq (S.Ai Cg (S.Ai Gg (S.Dn Am rfl z_len PySem.boot_len (S.Aa (S.pv 6) S.Ab)) S.Ad) (S.pv 7)) (S.pv 2) (Ar _))))) (S.Ac (S.Ah (i:=2) Dl.nd rfl (Or.inl rfl) (S.Ai Gg (S.pv 2) (S.Ai Cg (S.Ai Gg (S.Dn Am rfl z_len PySem.boot_len (S.Aa (S.pv 6) S.Ab)) S.Ad) (S.pv 7))))
      (S.Ae (S.Kz (S.T7 PySem.F.plainAttrs_list PySem.F.slot_list_append PySem.F.type_list_append Mx (S.pv 1) (S.Aa (S.Bq (S.Aa (S.pv 6) (S.Aa (S.pv 7) S.Ab))) S.Ab))))) S.Ay))))))
      (S.Ac (S.Ah (i:=4) Dl.nd rfl (Or.inl rfl) (S.Aj c_q_cell_at (hr.mono (by decide)) (S.Aa (S.pv 0) (S.Aa S.Ad S.Ab))))
      (S.Ac (S.Ah (i:=5) Dl.nd rfl (Or.inl rfl) (S.Bq (S.Aa (S.Ai Cg (S.Bl G3 (S.Ka (S.Aa S.Ad (S.Aa (S.Hv Gf S.Ad) S.Ab))) (S.Ai Dz (S.pv 4) S.Ad) (fun _ _=>rfl)) (S.Ai Cj S.Ad (S.Ai Dz (S.Ai Gb (S.pv 4) S.Ad) (S.Bl G3 (S.Ka (S.Aa S.Ad (S.Aa (S.Ai Ae9 S.Ad S.Ad) S.Ab))) (S.Ai Dz (S.Ai Gb (S.pv 4) S.Ad) S.Ad) (fun _ _=>rfl))))) S.Ab)))
      (S.Ac (S.Gq PassesOwn.never rfl (S.Ly (S.pv 1)) (S.Jd rfl (S.Bd (S.Aw (i:=6) Dl.nd rfl (Or.inl rfl)) (S.Bd (S.Aw (i:=7) Dl.nd rfl (Or.inl rfl)) S.Gv))) (S.Ae (S.Ah (i:=5) Dl.nd rfl (Or.inl rfl) (S.Aj c_q_product (hr.mono (by decide)) (S.Aa (S.pv 5) (S.Aa (S.Aj c_power (hr.mono (by decide)) (S.Aa (S.pv 6) (S.Aa (S.pv 7) S.Ab))) S.Ab))))))
      (S.Ae (S.Ao (S.Bq (S.Aa (S.pv 5) (S.Aa (S.pv 1) S.Ab))))))))))),?_⟩
  refine Ba (fun σ' H'=>∃b,σ'=[some (.ref a),some (.ref b),none,none,none,none,none,none]/\Same H H'/\H b=none/\H' b=some (.lst [])) (fun M hM=> ?_) ?_
  . contradiction
    exact⟨by decide,fun b hb=>hM _ _ ⟨b,rfl,Same.upd hb _,hb,Af⟩⟩
  rintro _ H0 ⟨b,rfl,tb,hb,gb⟩
  refine Ba (fun σ' H'=>σ'=[some (.ref a),some (.ref b),some (.int 9),none,none,none,none,none]/\H'=H0) (fun M hM=> ?_) ?_
  . contradiction
    exact hM _ _ ⟨rfl,rfl⟩
  rintro _ _ ⟨rfl,e0⟩
  rw [e0]
  clear e0
  refine Ba (fun σ' H'=>∃(es:List Le) (o2 o3 o4 o6 o7:Option V),σ'=[some (.ref a),some (.ref b),o2,o3,o4,none,o6,o7]/\Same H H'/\Ll K H' b es 3 50/\Pts es) (fun M hM=> ?_) ?_
  . contradiction
    refine Vl hS tb (by decide) ?_
    try contradiction
    refine⟨by decide,by omega,by omega,?_⟩
    obtain⟨m,em,m4⟩:∃m:Nat,(cell ns 0%5).toNat=m/\m<=4:=⟨_,rfl,by omega⟩
    rw [em]
    refine Al0 m (fun i=> .int (0+(i:Nat))) (fun i σ' H'=>∃(es:List Le) (o3 o4 o6 o7:Option V),σ'=[some (.ref a),some (.ref b),some (.int (9-(Ym es:Nat))),o3,o4,none,o6,o7]/\Same H H'/\Ll K H' b es 3 50/\Pts es/\es.length<=i) ⟨[],_,_,_,_,rfl,tb,⟨gb,by simp⟩,⟨by decide,by decide,by simp⟩,Nat.le_refl _⟩ ?_ ?_ ?_
    . rintro i σ' H' _
      exact N5
    . rintro i σ' H1 hi ⟨es,o3,o4,o6,o7,rfl,s1,ll,pt,el⟩
      contradiction
      refine Vl hS s1 (by omega) ?_
      try contradiction
      generalize cell ns (1+(0+(i:Int)))=c
      refine⟨⟨by decide,by decide⟩,.of_right (Afq (by decide)),⟨by decide,by decide⟩,by decide,?_⟩
      refine Acf (by decide) (by decide) fun v H2 q s2 iv=> ?_
      try contradiction
      refine⟨by decide,?_⟩
      obtain⟨⟨av,rfl,hv⟩,tq,lq,zq⟩:=id iv
      refine⟨by decide,fun e0 he0=> ?_⟩
      have se:=Same.upd he0 (.tup [])
      refine Dh (ms:=[]) (se.tup hv) (.of Af) ?_
      have ll2:=ll.mono (s2.trans se)
      have s02:=s1.trans (s2.trans se)
      have lq3:q.length<=3:=lq
      obtain⟨k4,ek,k1,k4'⟩:∃k:Nat,1+c%4=((k:Nat):Int)/\1<=k/\k<=4:=⟨(1+c%4).toNat,by omega,by omega,by omega⟩
      rw [ek]
      refine⟨_,rfl,?_⟩
      by_cases q0:q=[]
      . rw [decide_eq_true q0,if_neg (by decide)]
        exact⟨es,_,_,_,_,rfl,s02,ll2,pt,by omega⟩
      rw [decide_eq_false q0,if_pos (by decide)]
      have hv2:=se.tup hv
      have lk:IntMulOk ((((q.map V.int).length:Nat):Int)-1) (k4:Nat):= .of_right (Afq (by omega))
      refine⟨av,_,rfl,.inr hv2,lk,?_⟩
      rw [List.length_map]at lk ⊢
      have q1:=List.length_pos_iff.mpr q0
      have e9:((q.length:Nat):Int)-1=((q.length-1:Nat):Int):=by omega
      have e10:(((q.length-1:Nat):Int))*((k4:Nat):Int)=(((q.length-1)*k4:Nat):Int):=by rw [Int.natCast_mul]
      rw [e9]at lk ⊢
      have d9:=pt.d9
      by_cases hle:(((q.length-1:Nat):Int))*((k4:Nat):Int)<=9-((Ym es:Nat):Int)
      . rw [if_pos hle]
        rw [e10]at hle
        refine⟨av,_,rfl,.inr hv2,by rw [List.length_map,e9];exact lk,.inl ⟨rfl,_,.of ll2.it⟩,fun d hd=> ?_⟩
        have tc:=Same.upd hd (.tup [V.ref av,V.int (k4:Nat)])
        have ll3:=ll2.mono tc
        rw [List.length_map,e9,e10]
        have e11:9-((Ym es:Nat):Int)-(((q.length-1)*k4:Nat):Int)=9-((Ym (es++ [(d,.ref av,⟨q,tq⟩,k4)]):Nat):Int):=by
          rw [M8]
          show _=9-((Ym es+(q.length-1)*k4:Nat):Int)
          omega
        rw [e11]
        refine⟨b,_,_,rfl,rfl,ll3.it,?_,es++ [(d,.ref av,⟨q,tq⟩,k4)],_,_,_,_,rfl,(s02.trans tc).put hb,ll3.snoc Af ((iv.mono se).mono tc),⟨?_,?_,fun e he=> ?_⟩,?_⟩
        . rw [List.length_map]
          exact Nat.lt_of_lt_of_le (show es.length<6 by omega) (by decide)
        . rw [List.length_append,List.length_singleton]
          omega
        . rw [M8]
          show Ym es+(q.length-1)*k4<=9
          omega
        . rcases List.mem_append.mp he with he | he
          . exact pt.al e he
          . rw [List.mem_singleton.mp he]
            exact⟨Bu.mpr q0,k1,k4'⟩
        . rw [List.length_append,List.length_singleton]
          omega
      . rw [if_neg hle]
        exact⟨es,_,_,_,_,rfl,s02,ll2,pt,by omega⟩
    . rintro σ' H' ⟨es,o3,o4,o6,o7,rfl,s',ll,pt,_⟩
      exact hM _ _ ⟨es,_,_,_,_,_,rfl,s',ll,pt⟩
  rintro _ H1 ⟨es,o2,o3,o4,o6,o7,rfl,s1,ll,pt⟩
  refine Ba (fun σ' H'=>∃c:Int,σ'=[some (.ref a),some (.ref b),o2,o3,some (.int c),none,o6,o7]/\H'=H1) (fun M hM=> ?_) ?_
  . contradiction
    refine Vl hS s1 (by decide) ?_
    try contradiction
    exact hM _ _ ⟨_,rfl,rfl⟩
  rintro _ _ ⟨c,rfl,e0⟩
  rw [e0]
  clear e0
  refine Ba (fun σ' H'=>∃(vw:V) (w:Pol),σ'=[some (.ref a),some (.ref b),o2,o3,some (.int c),some vw,o6,o7]/\Same H1 H'/\Po K H' vw w.l 10 22/\w≠0/\w.l.length=1) (fun M hM=> ?_) ?_
  . contradiction
    (intro p1 hp1;generalize ep1:upd _ p1 _=Gp1;obtain⟨sp1,gp1⟩:=nw hp1 ep1;clear ep1 hp1)
    refine⟨by decide,?_⟩
    obtain⟨sg,hsg,sg1⟩:∃sg:Int,atI [V.int 1,V.int (-1)] (c%2)=some (.int sg)/\(sg=1\/sg= -1):=by
      have:c%2=0\/c%2=1:=by omega
      rcases this with h | h<;>rw [h]
      . exact⟨1,at0 _ _,.inl rfl⟩
      . exact⟨-1,at1 _ _ _,.inr rfl⟩
    refine Y7 (.of gp1) hsg ?_
    try contradiction
    refine⟨⟨by decide,by decide⟩,⟨by decide,by decide,by decide⟩,?_⟩
    (intro p2 hp2;generalize ep2:upd _ p2 _=Gp2;obtain⟨sp2,gp2⟩:=nw hp2 ep2;clear ep2 hp2)
    refine⟨⟨by decide,by decide⟩,by decide,?_⟩
    obtain⟨m,hm,m1,m2⟩:∃m:Int,atI [V.int 6,V.int (10^Int.toNat 6)] (c/12%2)=some (.int m)/\1<=m/\m<=1000000:=by
      have:c/12%2=0\/c/12%2=1:=by omega
      rcases this with h | h<;>rw [h]
      . exact⟨6,at0 _ _,by decide,by decide⟩
      . exact⟨_,at1 _ _ _,by decide,by decide⟩
    refine Y7 (.of gp2) hm ?_
    try contradiction
    have r0:=Int.emod_nonneg (c/2) (show m≠0 by omega)
    have r1:=Int.emod_lt_of_pos (c/2) (show 0<m by omega)
    generalize c/2%m=r at r0 r1
    refine⟨by omega,.of_left (Afq (by rcases sg1 with rfl | rfl<;>decide)),fun p3 hp3=> ?_⟩
    have x0:sg*(1+r)≠0/\(sg*(1+r)).natAbs<2^22:=by rcases sg1 with rfl | rfl<;>omega
    generalize sg*(1+r)=x at x0
    refine hM _ _ ⟨.ref p3,cst x,rfl,(sp1.trans sp2).trans (Same.upd hp3 _),?_,Uc x0.1,by rw [Yy x0.1];rfl⟩
    rw [Yy x0.1]
    refine⟨⟨p3,rfl,.of Af⟩,.inr ⟨by simp,by simpa using x0.1⟩,show 1<=10 by decide,fun i=>Yw (by decide) (fun y hy=> ?_) i⟩
    rw [List.mem_singleton.mp hy]
    exact x0.2
  rintro _ H2 ⟨vw,w0,rfl,s2,iw,nw',lw⟩
  have ll2:=ll.mono s2
  refine Ba (fun σ' H'=>∃(vw:V) (w:Pol) (o6 o7:Option V),σ'=[some (.ref a),some (.ref b),o2,o3,some (.int c),some vw,o6,o7]/\Same H2 H'/\Po K H' vw w.l 10 1200/\w≠0/\∀e∈es,Di (e.2.2.1^e.2.2.2) w) (fun M hM=> ?_) ?_
  . contradiction
    refine⟨⟨_,.of ll2.it⟩,V0 (es:=es) (inj:=fun e=> .ref e.1) (fun pre σ' H'=>∃(vw:V) (w:Pol) (o6 o7:Option V),σ'=[some (.ref a),some (.ref b),o2,o3,some (.int c),some vw,o6,o7]/\Same H2 H'/\Po K H' vw w.l 10 (22+250*pre.length)/\w≠0/\w.l.length=Ym pre+1/\∀e∈pre,Di (e.2.2.1^e.2.2.2) w) ⟨vw,w0,_,_,rfl,Same.refl _,iw,nw',lw,by simp⟩ ?_ ?_ ?_⟩
    . rintro pre σ' H' ⟨_,_,_,_,_,s',_⟩
      exact Pg (.of (s' _ _ ll2.it))
    . rintro pre e post σ' H3 he ⟨vw,w,o6,o7,rfl,s3,i3,nw3,lw3,dv⟩
      have em:e∈es:=by rw [he];simp
      obtain⟨nf,k1,k4⟩:=pt.al e em
      have pl:pre.length<4:=by
        have:=congrArg List.length he
        rw [List.length_append,List.length_cons]at this
        have:=pt.n4
        omega
      have gp:Ym (pre++ [e])<=9:=Nat.le_trans (Af2 (post:=post) (by rw [he];simp)) pt.d9
      rw [M8]at gp
      obtain⟨ge,pe⟩:=ll2.al e em
      refine J1 (.of (s3 _ _ ge)) ?_
      contradiction
      refine⟨e.2.1,e.2.2.2,4,_,_,3,50,rfl,.inl rfl,pe.mono s3,k4,by decide,by decide,by decide,fun z H4 s4 i4=> ?_⟩
      have kl:e.2.2.2*(50+3)+1<=213:=by omega
      refine⟨vw,z,w.l,_,10,_,_,_,rfl,i3.mono s4,i4,by decide,by omega,by omega,fun z5 H5 s5 i5=> ?_⟩
      have ep:(w*e.2.2.1^e.2.2.2).l=tm w.l (pw e.2.2.1.l e.2.2.2):=rfl
      have np:=Oo nw3 (Oa nf e.2.2.2)
      have lp:(w*e.2.2.1^e.2.2.2).l.length=Ym (pre++ [e])+1:=by
        have:=Kw nw3 (Oa nf e.2.2.2)
        rw [Ad6 nf]at this
        rw [M8]
        omega
      rw [<-ep]at i5
      refine⟨z5,w*e.2.2.1^e.2.2.2,_,_,rfl,s3.trans (s4.trans s5),⟨i5.1,i5.2.1,by rw [lp,M8];omega,fun i=>(i5.2.2.2 i).mono (by rw [List.length_append,List.length_singleton];omega)⟩,np,lp,fun x hx=> ?_⟩
      rcases List.mem_append.mp hx with hx | hx
      . exact(dv x hx).trans (by rw [Mh];exact .mul w _)
      . rw [List.mem_singleton.mp hx]
        exact .mul _ w
    . rintro σ' H' ⟨vw,w,o6,o7,rfl,s',i',nw3,lw3,dv⟩
      have:=pt.n4
      exact hM _ _ ⟨vw,w,_,_,rfl,s',i'.weak (Nat.le_refl _) (by omega),nw3,dv⟩
  rintro _ H3 ⟨vw,w,o6,o7,rfl,s3,i3,nw3,dv⟩
  contradiction
  intro z hz
  have tz:=Same.upd hz (.tup [vw,.ref b])
  exact k z vw b w es _ ((s1.trans s2).trans (s3.trans tz)) Af (i3.mono tz) nw3 (ll2.mono (s3.trans tz)) pt dv
theorem Aj5 (fs gs:List (Pol × Nat)):prK (fs++gs)=prK fs*prK gs:=by
  induction fs with
  | nil=>
    show prK gs=1*prK gs
    grind
  | cons x fs ih=>
    obtain⟨f,k⟩:=x
    show f^k*prK (fs++gs)=f^k*prK fs*prK gs
    rw [ih]
    grind
theorem Ac4 (fs gs:List (Pol × Nat)):pr1 (fs++gs)=pr1 fs*pr1 gs:=by
  induction fs with
  | nil=>
    show pr1 gs=1*pr1 gs
    grind
  | cons x fs ih=>
    obtain⟨f,k⟩:=x
    show f*pr1 (fs++gs)=f*pr1 fs*pr1 gs
    rw [ih]
    grind
theorem Afh (n:Nat):∀fs:List (Pol × Nat),∃S,pr1 fs=S*prF n fs
  | []=>⟨1,by show(1:Pol)=1*1;grind⟩
  | (f,k)::fs=>by
    obtain⟨S,e⟩:=Afh n fs
    show ∃S,f*pr1 fs=S*if n<=k then f*prF n fs else prF n fs
    split
    . exact⟨S,by rw [e];grind⟩
    . exact⟨f*S,by rw [e];grind⟩
theorem S5 (es gs:List Le):Hj (es++gs)=Hj es++Hj gs:=List.map_append
structure Lys (K:PySem.W.Frag) (H:Hp) (z:Addr) (A W G:Pol) (es:List Le):Prop where
  ll:Ll K H z es 10 1341
  fr:Fre A W G
  ly:Lay A W (Hj es)
  lA:A.l.length<=10
  zA:∀i,Sz 1200 (co A.l i)
theorem Lys.mono {H H':Hp}{z:Addr}{A W G:Pol}{es:List Le} (h:Lys K H z A W G es) (s:Same H H'):Lys K H' z A W G es:={ h with ll:=h.ll.mono s}
theorem Lys.fac {H:Hp}{z:Addr}{A W G S f:Pol}{es:List Le} (h:Lys K H z A W G es) (e:A=S*f):f≠0/\f.l.length<=10/\∀i,Sz 1341 (co f.l i):=
  ⟨(Tg h.fr.nA e).1,Nat.le_trans (Tg h.fr.nA e).2 h.lA,Ad5 h.fr.nA e (by have:=h.lA;omega) h.zA⟩
theorem Aly {f g d:Pol} (gc:Gc f.l g.l d.l) (nf:f≠0) (cp:Cp f g):d.l.length=1:=by
  have a:=cp.const (Mi.mpr gc.one) (Mi.mpr gc.two)
  have b:=len_pos (Di.len nf (Mi.mpr gc.one)).1
  omega
def Lb (K:PySem.W.Frag):Sp:=fun vs H Q _=>∃(va vd:V) (z:Addr) (whole dr:Pol) (W G:Pol) (es:List Le),vs=[va,.ref z,vd]/\Po K H va whole.l 10 1200/\whole≠0/\Po K H vd dr.l 3 50/\Lys K H z (plP whole) W G es/\∀H',Same H H'->Q (.bl true) H'
theorem Q9 {f:Addr}{fd:FuncData} (F:Df K mg "_law_layers_right" Jm ["_law_whole_here","_law_found","_law_drawn"] f fd) (z_isinstance:mg "isinstance"=none) (z_tuple:mg "tuple"=none) (z_len:mg "len"=none)  (c_q_product:Cal P w K mg base 34 "_law_product" ["_law_one","_law_other"] (Ko K)) (c_q_divides:Cal P w K mg base 36 "_law_divides" ["_law_one","_law_other"] (Mv K)) (c_power:Cal P w K mg base 35 "power" ["one","many"] (Sx K)) (c_plain:Cal P w K mg base 37 "plain" ["one"] (Nx K)) (c_free_part:Cal P w K mg base 42 "free_part" ["one"] (M6 K)) (c_q_is_poly:Cal P w K mg base 34 "_law_is_poly" ["_law_found"] (M5 K)) (c_q_whole:Cal P w K mg base 33 "_law_whole" ["_law_found"] (Q5 K)) (c_shared:Cal P w K mg base 41 "shared" ["one","other"] (K3 K)) (c_derived:Cal P w K mg base 33 "derived" ["one"] (Ju K)):Cal P w K mg base 43 "_law_layers_right" ["_law_whole_here","_law_found","_law_drawn"] (Lb K):=by
  refine F.cal (F.fn.ok Bx (fun vs H Q E h=> ?_) (fun cdv A outer s H vs Q E hr h=> ?_))
  . obtain⟨va,vd,z,whole,dr,W,G,es,rfl,_⟩:=h
    rfl
  obtain⟨va,vd,z,whole,dr,W,G,es,rfl,iw,nw',id',lys,k⟩:=h
  refine S.Bb ⟨_,(S.Ac (S.Ah (i:=3) Bx.nd rfl (Or.inl rfl) S.Ad)
      (S.Ac (S.Ah (i:=4) Bx.nd rfl (Or.inl rfl) (S.Bq (S.Aa S.Ad S.Ab)))
      (S.Ac (S.Ah (i:=5) Bx.nd rfl (Or.inl rfl) (S.Bq (S.Aa S.Ad S.Ab)))
      (S.Ac (S.Gq PassesOwn.never rfl (S.Ly (S.pv 1)) (S.Aw (i:=6) Bx.nd rfl (Or.inl rfl)) (S.Ac (S.Du (S.O2 (S.N7 (S.K9 (S.Jp (S.Dn Aai rfl z_isinstance PyProof.Rows.boot_isinstance (S.Aa (S.pv 6) (S.Aa (S.Lr (v:= .ty "tuple") rfl z_tuple PyProof.Rows.boot_tuple rfl) S.Ab))))) (S.N7 (S.Al Q6 (S.Dn Am rfl z_len PySem.boot_len (S.Aa (S.pv 6) S.Ab)) S.Ad (Ar _)) (S.N7 (S.K9 (S.Jp (S.Aj c_q_is_poly (hr.mono (by decide)) (S.Aa (S.Bl Bc (S.pv 6) S.Ad (fun _ _=>rfl)) S.Ab)))) (S.Nh (S.K9 (S.Jp (S.Aj c_q_whole (hr.mono (by decide)) (S.Aa (S.Bl Bc (S.pv 6) S.Ad (fun _ _=>rfl)) S.Ab))))))))) (S.Ae (S.Ao S.O5)) S.Ay)
      (S.Ac (S.Du (S.O2 (S.N7 (S.Al Alq (S.Bl Bc (S.pv 6) S.Ad (fun _ _=>rfl)) (S.pv 3) (Ar _)) (S.N7 (S.Al Wf (S.Dn Am rfl z_len PySem.boot_len (S.Aa (S.Bl Bc (S.pv 6) S.Ad (fun _ _=>rfl)) S.Ab)) S.Ad (Ar _)) (S.Nh (S.Al (Vg hr.units) (S.Bl Bc (S.pv 6) S.Ad (fun _ _=>rfl)) (S.Aj c_plain (hr.mono (by decide)) (S.Aa (S.Bl Bc (S.pv 6) S.Ad (fun _ _=>rfl)) S.Ab)) (Ar _)))))) (S.Ae (S.Ao S.O5)) S.Ay)
      (S.Ac (S.Du (S.O2 (S.N7 (S.Al Q6 (S.Dn Am rfl z_len PySem.boot_len (S.Aa (S.Aj c_shared (hr.mono (by decide)) (S.Aa (S.Bl Bc (S.pv 6) S.Ad (fun _ _=>rfl)) (S.Aa (S.Aj c_derived (hr.mono (by decide)) (S.Aa (S.Bl Bc (S.pv 6) S.Ad (fun _ _=>rfl)) S.Ab)) S.Ab))) S.Ab)) S.Ad (Ar _)) (S.Nh (S.Al Q6 (S.Dn Am rfl z_len PySem.boot_len (S.Aa (S.Aj c_shared (hr.mono (by decide)) (S.Aa (S.Bl Bc (S.pv 6) S.Ad (fun _ _=>rfl)) (S.Aa (S.pv 5) S.Ab))) S.Ab)) S.Ad (Ar _))))) (S.Ae (S.Ao S.O5)) S.Ay)
      (S.Ac (S.Du (S.O2 (S.Rv (S.Al R7 (S.Dn Am rfl z_len PySem.boot_len (S.Aa (S.pv 2) S.Ab)) S.Ad (Ar _)) (S.Ng (S.Jp (S.Aj c_q_divides (hr.mono (by decide)) (S.Aa (S.Aj c_q_product (hr.mono (by decide)) (S.Aa (S.pv 2) (S.Aa (S.pv 2) S.Ab))) (S.Aa (S.Bl Bc (S.pv 6) S.Ad (fun _ _=>rfl)) S.Ab))))))) (S.Ae (S.Ao S.O5)) S.Ay)
      (S.Ac (S.Ah (i:=3) Bx.nd rfl (Or.inl rfl) (S.Bl Bc (S.pv 6) S.Ad (fun _ _=>rfl)))
      (S.Ac (S.Ah (i:=4) Bx.nd rfl (Or.inl rfl) (S.Aj c_q_product (hr.mono (by decide)) (S.Aa (S.pv 4) (S.Aa (S.Aj c_power (hr.mono (by decide)) (S.Aa (S.Bl Bc (S.pv 6) S.Ad (fun _ _=>rfl)) (S.Aa (S.Bl Bc (S.pv 6) S.Ad (fun _ _=>rfl)) S.Ab))) S.Ab))))
      (S.Ae (S.Ah (i:=5) Bx.nd rfl (Or.inl rfl) (S.Aj c_q_product (hr.mono (by decide)) (S.Aa (S.pv 5) (S.Aa (S.Bl Bc (S.pv 6) S.Ad (fun _ _=>rfl)) S.Ab))))))))))))
      (S.Ae (S.Ao (S.Tq (S.Gz (J2 hr.units) (S.pv 4) (S.Aj c_plain (hr.mono (by decide)) (S.Aa (S.pv 0) S.Ab)) (Ar _)) (S.Rx (S.Gz (J2 hr.units) (S.Aj c_free_part (hr.mono (by decide)) (S.Aa (S.pv 0) S.Ab)) (S.pv 5) (Ar _)))))))))),?_⟩
  contradiction
  (intro p1 hp1;generalize ep1:upd _ p1 _=Gp1;obtain⟨sp1,gp1⟩:=nw hp1 ep1;clear ep1 hp1)
  (intro p2 hp2;generalize ep2:upd _ p2 _=Gp2;obtain⟨sp2,gp2⟩:=nw hp2 ep2;clear ep2 hp2)
  have s12:=sp1.trans sp2
  have sqW:=lys.ly.sq
  have one10:∀ {H':Hp}{p:Addr},H' p=some (.tup [V.int 1])->Po K H' (.ref p) (1:Pol).l 10 1341:=fun {H' p} g=>⟨⟨p,rfl,.of g⟩,(1:Pol).tr,show 1<=10 by decide,fun i=>Yw (by decide) (fun x hx=>by rw [List.mem_singleton.mp hx];exact(show Sz 1 (1:Int)by unfold Sz;decide).mono (by decide)) i⟩
  have lz:=lys.mono s12
  refine⟨⟨_,.of lz.ll.it⟩,V0 (es:=es) (inj:=fun e=> .ref e.1) (fun pre σ' H'=>∃(t:Nat) (vg vo:V) (o6:Option V),σ'=[some va,some (.ref z),some vd,some (.int (t:Nat)),some vg,some vo,o6]/\Same H H'/\Po K H' vg (prK (Hj pre)).l 10 1341/\Po K H' vo (pr1 (Hj pre)).l 10 1341/\(t=0\/∃x∈pre,t=x.2.2.2)) ⟨0,.ref p1,.ref p2,_,rfl,s12,one10 (sp2 _ _ gp1),one10 gp2,.inl rfl⟩ ?_ ?_ ?_⟩
  . rintro pre σ' H' ⟨t,vg,vo,o6,rfl,s',_⟩
    exact Pg (.of (s' _ _ lys.ll.it))
  . rintro pre e post σ' H1 he ⟨t,vg,vo,o6,rfl,s1,ig,io,ht⟩
    have em:e∈es:=by rw [he];simp
    obtain⟨ge,pe⟩:=lys.ll.al e em
    obtain⟨k1,pf,lf⟩:=lys.ly.al (e.2.2.1,e.2.2.2) (List.mem_map.mpr ⟨e,em,rfl⟩)
    have efs:Hj es=Hj pre++((e.2.2.1,e.2.2.2)::Hj post):=by rw [he,S5];rfl
    have kt:t<e.2.2.2:=by
      rcases ht with h | ⟨x,hx,h⟩
      . have:1<=e.2.2.2:=k1
        omega
      . have up:=lys.ly.up
        rw [efs,List.pairwise_append]at up
        rw [h]
        exact up.2.2 (x.2.2.1,x.2.2.2) (List.mem_map.mpr ⟨x,hx,rfl⟩) (e.2.2.1,e.2.2.2) (.head _)
    obtain⟨tf,ek⟩:∃tf:Nat,tf=e.2.2.2:=⟨_,rfl⟩
    obtain⟨f,ef⟩:∃f:Pol,f=e.2.2.1:=⟨_,rfl⟩
    replace k1:1<=e.2.2.2:=k1
    replace pf:pln e.2.2.1.l=e.2.2.1.l:=pf
    replace lf:2<=e.2.2.1.l.length:=lf
    rw [<-ek]at ge
    rw [<-ef]at pe
    rw [<-ek,<-ef]at efs
    rw [<-ek]at kt k1
    rw [<-ef]at pf lf
    have eA:=lys.ly.pr
    have eW:=lys.ly.on
    have eWG:=lys.fr.eA
    rw [efs,Aj5]at eA
    rw [efs,Ac4]at eW
    have a1:plP whole=prK (Hj post)*(prK (Hj pre)*f^tf):=by
      rw [eA]
      show prK (Hj pre)*(f^tf*prK (Hj post))=_
      grind
    have w1:W=(pr1 (Hj pre)*f)*pr1 (Hj post):=by
      rw [eW]
      show pr1 (Hj pre)*(f*pr1 (Hj post))=_
      grind
    have f1:=lys.fac (S:=prK (Hj post)) a1
    have f2:=lys.fac (S:=pr1 (Hj post)*G) (f:=pr1 (Hj pre)*f) (by rw [eWG,w1];grind)
    have f3:=lys.fac (S:=prK (Hj post)*prK (Hj pre)) (f:=f^tf) (by rw [a1];grind)
    have nf:f≠0:=Bu.mpr fun z=>by rw [z]at lf;simp at lf
    have tf9:tf<=9:=by
      have:=Zi lf tf
      have:=f3.2.1
      omega
    have sqf:Sqf (pr1 (Hj pre)*f):=sqW.di ⟨1,pr1 (Hj post),by decide,by rw [show cst 1=(1:Pol)from rfl,w1];grind⟩
    have sf:Sqf f:=sqf.di (.mul f _)
    have cpf:Cp f (pr1 (Hj pre)):=sqf.parts.symm
    obtain⟨⟨av,eav,hav⟩,_,lf10,zf⟩:=id pe
    refine Ba (fun σ' H'=>σ'=[some va,some (.ref z),some vd,some (.int (t:Nat)),some vg,some vo,some (.ref e.1)]/\Same H1 H') (fun M hM=> ?_) ?_
    . contradiction
      have ge1:=s1 _ _ ge
      refine⟨e.1,_,_,true,rfl,.of ge1,Ag7,?_⟩
      rw [if_neg (by decide)]
      refine⟨e.1,_,rfl,.inr (.of ge1),?_⟩
      rw [if_pos (show((([e.2.1,V.int (tf:Nat)]:List V).length:Nat):Int)=2 from rfl)]
      refine Dj (.of ge1) (at0 _ _) (Aec (pe.mono s1) (Same.refl _) (by decide) fun H2 s2=>⟨true,rfl,?_⟩)
      rw [if_neg (by decide)]
      refine Dj (.of (s2 _ _ ge1)) (at1 _ _ _) ⟨_,true,rfl,.int _,true,rfl,?_⟩
      rw [if_neg (by decide)]
      exact hM _ _ ⟨rfl,s2⟩
    rintro _ H2 ⟨rfl,s2⟩
    have s02:=s1.trans s2
    refine Ba (fun σ' H'=>σ'=[some va,some (.ref z),some vd,some (.int (t:Nat)),some vg,some vo,some (.ref e.1)]/\Same H2 H') (fun M hM=> ?_) ?_
    . contradiction
      have ge2:=s02 _ _ ge
      refine Dj (.of ge2) (at1 _ _ _) ?_
      try contradiction
      rw [if_neg (by omega)]
      refine Dj (.of ge2) (at0 _ _) ?_
      try contradiction
      refine⟨av,_,by rw [eav],.inr (s02.tup hav),?_⟩
      rw [List.length_map,if_neg (by omega)]
      refine Dj (.of ge2) (at0 _ _) (Dj (.of ge2) (at0 _ _) ?_)
      refine T8 pe s02 (by decide) (by decide) fun y H3 s3 iy=> ?_
      obtain⟨⟨ay,rfl,hay⟩,_⟩:=id iy
      rw [eav]
      refine Dh ((s02.trans s3).tup hav) hay ?_
      rw [pf,decide_eq_true rfl]
      refine⟨_,rfl,?_⟩
      rw [if_neg (by decide)]
      exact hM _ _ ⟨rfl,s3⟩
    rintro _ H3 ⟨rfl,s3⟩
    have s03:=s02.trans s3
    refine Ba (fun σ' H'=>σ'=[some va,some (.ref z),some vd,some (.int (t:Nat)),some vg,some vo,some (.ref e.1)]/\Same H3 H') (fun M hM=> ?_) ?_
    . contradiction
      have ge3:=s03 _ _ ge
      refine Dj (.of ge3) (at0 _ _) (Dj (.of ge3) (at0 _ _) ?_)
      refine J4 pe s03 (by decide) (by decide) fun y H4 s4 i4=> ?_
      have fw:Few 10 (1341+8):=⟨by decide,by decide,by decide,by decide⟩
      refine Nz (pe.weak (Nat.le_refl _) (Nat.le_add_right _ _)) (s03.trans s4) i4 (Same.refl _) fw fun y5 H5 g s5 i5 gc=> ?_
      obtain⟨⟨a5,rfl,h5⟩,t5,_⟩:=id i5
      have g1:g.length=1:=Aly (d:=⟨g,t5⟩) (g:=D f) gc nf sf
      refine⟨a5,_,rfl,.inr h5,?_⟩
      rw [List.length_map,g1,if_pos (by decide)]
      have s35:=s4.trans s5
      refine Dj (.of (s35 _ _ ge3)) (at0 _ _) ?_
      have few:Few 10 1341:=⟨by decide,by decide,by decide,by decide⟩
      refine Nz pe (s03.trans s35) io (((s2.trans s3)).trans s35) few fun y6 H6 g' s6 i6 gc'=> ?_
      obtain⟨⟨a6,rfl,h6⟩,t6,_⟩:=id i6
      have g1':g'.length=1:=Aly (d:=⟨g',t6⟩) (g:=pr1 (Hj pre)) gc' nf cpf
      refine⟨a6,_,rfl,.inr h6,?_⟩
      rw [List.length_map,g1',if_pos (by decide)]
      exact hM _ _ ⟨rfl,s35.trans s6⟩
    rintro _ H4 ⟨rfl,s4⟩
    have s04:=s03.trans s4
    refine Ba (fun σ' H'=>σ'=[some va,some (.ref z),some vd,some (.int (t:Nat)),some vg,some vo,some (.ref e.1)]/\Same H4 H') (fun M hM=> ?_) ?_
    . contradiction
      obtain⟨⟨ad,ead,had⟩,td,ld,zd⟩:=id id'
      refine⟨ad,_,by rw [ead],.inr (s04.tup had),?_⟩
      rw [List.length_map]
      by_cases hd:dr.l.length<=1
      . rw [if_neg (by omega)]
        exact hM _ _ ⟨rfl,Same.refl _⟩
      . rw [if_pos (by omega)]
        refine⟨vd,vd,dr.l,dr.l,3,3,50,50,rfl,id'.mono s04,id'.mono s04,by decide,by decide,by decide,fun y H5 s5 i5=> ?_⟩
        refine Dj (.of ((s04.trans s5) _ _ ge)) (at0 _ _) ?_
        have nd:dr≠0:=Bu.mpr fun z=>by rw [z]at hd;simp at hd
        refine⟨y,e.2.1,_,f.l,10,1341,rfl,i5.weak (by decide) (by decide),pe.mono (s04.trans s5),by decide,by decide,Bu.mp (Oo nd nd),fun bb H6 s6 hb=> ?_⟩
        have bf:bb=false:=by
          cases bb with
          | false=>rfl
          | true=>exact absurd (sf.sq (Mi.mpr (hb.mp rfl))) hd
        rw [bf]
        refine⟨false,rfl,?_⟩
        rw [if_neg (by decide)]
        exact hM _ _ ⟨rfl,s5.trans s6⟩
    rintro _ H5 ⟨rfl,s5⟩
    have s05:=s04.trans s5
    have s15:=((s2.trans s3).trans s4).trans s5
    contradiction
    have ge5:=s05 _ _ ge
    refine Dj (.of ge5) (at1 _ _ _) (Dj (.of ge5) (at0 _ _) (Dj (.of ge5) (at1 _ _ _) ?_))
    refine⟨e.2.1,tf,9,_,_,10,1341,rfl,.inl rfl,pe.mono s05,tf9,by decide,by decide,by decide,fun y H6 s6 i6=> ?_⟩
    have bl:tf*10+1<=91:=by omega
    have bn:tf*(1341+10)+1<=12160:=by
      have:=Nat.mul_le_mul_right (1341+10) tf9
      omega
    refine⟨vg,y,(prK (Hj pre)).l,_,10,_,1341,_,rfl,ig.mono (s15.trans s6),i6,by decide,by omega,by omega,fun y7 H7 s7 i7=> ?_⟩
    have s57:=s6.trans s7
    refine Dj (.of (s57 _ _ ge5)) (at0 _ _) ?_
    refine⟨vo,e.2.1,(pr1 (Hj pre)).l,f.l,10,10,1341,1341,rfl,io.mono (s15.trans s57),pe.mono (s05.trans s57),by decide,by decide,by decide,fun y8 H8 s8 i8=> ?_⟩
    have e1:Hj (pre++ [e])=Hj pre++ [(f,tf)]:=by rw [S5,ef,ek];rfl
    refine⟨tf,y7,y8,_,rfl,s05.trans (s57.trans s8),?_,?_,.inr ⟨e,by simp,ek⟩⟩
    . rw [e1,Vt]
      exact⟨(i7.mono s8).1,(prK (Hj pre)*f^tf).tr,f1.2.1,f1.2.2⟩
    . rw [e1,Wt]
      exact⟨i8.1,(pr1 (Hj pre)*f).tr,f2.2.1,f2.2.2⟩
  . rintro σ' H' ⟨t,vg,vo,o6,rfl,s',ig,io,_⟩
    contradiction
    obtain⟨⟨ag,rfl,hg⟩,_⟩:=id ig
    obtain⟨⟨ao,rfl,ho⟩,_⟩:=id io
    refine T8 iw s' (by decide) (by decide) fun y H2 s2 iy=> ?_
    obtain⟨⟨ay,rfl,hay⟩,_⟩:=id iy
    refine Dh (s2.tup hg) hay ?_
    have eA:(prK (Hj es)).l=pln whole.l:=by rw [<-lys.ly.pr];rfl
    rw [decide_eq_true eA]
    refine⟨true,rfl,?_⟩
    rw [if_pos rfl]
    refine⟨va,whole,10,1200,rfl,iw.mono (s'.trans s2),by decide,by decide,⟨by decide,by decide,by decide,by decide⟩,nw',fun y3 H3 W' G' s3 i3 fr=> ?_⟩
    obtain⟨⟨a3,rfl,h3⟩,_⟩:=id i3
    refine Dh h3 ((s2.trans s3).tup ho) ?_
    have eW:W'.l=(pr1 (Hj es)).l:=by rw [fr.uniq lys.fr,lys.ly.on]
    rw [decide_eq_true eW]
    exact k _ ((s'.trans s2).trans s3)
theorem Am1:Few 1 (1+8):=⟨by decide,by decide,by decide,by decide⟩
def Oe (K:PySem.W.Frag):Sp:=fun vs H _ E=>∃x:V,vs=[x]/\Po K H x (0:Pol).l 1 1/\∀H',Same H H'->E (.ref (cA K "NoFree")) none H'
theorem V3 {f:Addr}{fd:FuncData} (F:Df K mg "free_paper" Mp ["one"] f fd)   (ce_free_part:Oz P w K mg base 42 "free_part" ["one"] (Jt K)):Oz P w K mg base 43 "free_paper" ["one"] (Oe K):=by
  refine F.calE (F.fn.okE Pu (fun vs H Q E h=> ?_) (fun cdv A outer s H vs Q E hr h=> ?_))
  . obtain⟨x,rfl,_⟩:=h
    rfl
  obtain⟨x,rfl,hx,k⟩:=h
  refine S.Bb ⟨_,(S.Ac (S.Ah (i:=1) Pu.nd rfl (Or.inl rfl) (S.Gj ce_free_part (hr.mono (by decide)) (S.Aa (S.pv 0) S.Ab)))
      (S.Ac S.Lj
      (S.Ac S.Lj
      (S.Ae S.Lj)))),?_⟩
  simp only [Ib,Fv,Il,Ii,Fz,Hy,Bw,Hu,Em,Ef,z_c,Pj,Qq,Qx,Iz,Qu,Iw,Hw,Im,Hz,Ea,Qp,Hr,Ij,Ip,Fg,Fq,Ie,Hs,Qs,Fj,Ht,Er,Qw,Fi,Ia,Ga,Qt,Hq,Iv,Cz,Ew,Ez,Fy,Cr,Ed,Ir,Ih,Hl,G7,Qv,Bo,Et,Ig,Qo,Iu,Fe,Ja,Jc,Ei,Io,Eo,Eh,Fl,Cm,Jb,Cq,En,Ek,Ft,Cy,Es,Cu,Hx,Ey,Ho,Ej,Fx,Ec,Cv,Bp,Ck,Fw,Ik,El,Fo,Cw,Eu,Qn,cpσ,List.getElem?_cons_zero,List.getElem?_cons_succ,Option.join_some,List.set_cons_zero,List.set_cons_succ,List.append_nil,decide_eq_true_eq,Bool.not_eq_true',decide_eq_false_iff_not,Bool.not_not,ite_not,Bool.false_eq_true,Bool.true_eq_false,if_false,if_true,if_pos,List.length_cons,List.length_nil,Nat.zero_add,Nat.reduceAdd,Fb,Ep,true_and,and_true,L2.start,List.map_cons,List.map_nil,Bool.not_true,Bool.not_false,Nat.reduceSub,List.replicate_succ,List.replicate_zero,List.cons_append,List.nil_append]
  exact⟨x,0,1,1,rfl,hx,by decide,by decide,Am1,fun z=>absurd rfl z,fun _=>k⟩
def Rt (K:PySem.W.Frag):Sp:=fun vs H Q _=>vs=[]/\∀H',Same H H'->Q (.bl true) H'
theorem Xq {f:Addr}{fd:FuncData} (F:Df K mg "_law_refused" O1 [] f fd) (z_int:mg "int"=none) (z_isinstance:mg "isinstance"=none) (xk_NoFree:Wz K (cA K "NoFree")) (xm_NoFree:mg "NoFree"=some (.ref (cA K "NoFree"))) (xi_NoFree:Afb K (cA K "NoFree")) (xm_CourtError:mg "CourtError"=some (.ref (cA K "CourtError"))) (ki_NoFree_CourtError:PySem.W.kitOne K (.ref (cA K "NoFree")) (.ref (cA K "CourtError"))=some true) (xm_NoPart:mg "NoPart"=some (.ref (cA K "NoPart"))) (ki_NoFree_NoPart:PySem.W.kitOne K (.ref (cA K "NoFree")) (.ref (cA K "NoPart"))=some false) (ce_free_part:Oz P w K mg base 42 "free_part" ["one"] (Jt K)) (ce_free_paper:Oz P w K mg base 43 "free_paper" ["one"] (Oe K)) (ce_layers:Oz P w K mg base 42 "layers" ["one"] (Qy K)) (c_is_free:Cal P w K mg base 42 "is_free" ["one"] (Ri K)):Cal P w K mg base 44 "_law_refused" [] (Rt K):=by
  refine F.cal (F.fn.ok Hf (fun vs H Q E h=> ?_) (fun cdv A outer s H vs Q E hr h=> ?_))
  . obtain⟨rfl,_⟩:=h
    rfl
  obtain⟨rfl,k⟩:=h
  refine S.Bb ⟨_,(S.Ac (S.Ah (i:=0) Hf.nd rfl (Or.inl rfl) S.K8)
      (S.Ac (S.Gm (i:=1) ce_free_part (hr.mono (by decide)) (S.Aa (S.Bq S.Ab) S.Ab) S.K7 xk_NoFree xm_NoFree (fun x oe hc=>(S.Ae (S.Ah (i:=0) Hf.nd rfl (Or.inl rfl) (S.Ai Q0 (S.pv 0) (S.Bl G3 (S.Ka (S.Aa S.K8 (S.Aa S.K8 S.Ab))) (S.Hg Adl rfl z_int PyProof.Rows.boot_int (S.Aa (S.Tq (S.Dn (Xc (List.mem_cons_self ..) hc xi_NoFree) rfl z_isinstance PyProof.Rows.boot_isinstance (S.Aa (S.pv 1) (S.Aa (S.O9 (v:= .ref (cA K "CourtError")) rfl xm_CourtError rfl) S.Ab))) (S.Rx (S.Z8 (S.Dn (Xc (List.mem_cons_self ..) hc xi_NoFree) rfl z_isinstance PyProof.Rows.boot_isinstance (S.Aa (S.pv 1) (S.Aa (S.O9 (v:= .ref (cA K "NoPart")) rfl xm_NoPart rfl) S.Ab)))))) S.Ab)) (fun _ _=>rfl)))))) Hf.nd rfl)
      (S.Ac (S.Ma ce_free_paper (hr.mono (by decide)) (S.Aa (S.Bq S.Ab) S.Ab) S.K7 xk_NoFree xm_NoFree (fun x oe hc=>(S.Ae (S.Ah (i:=0) Hf.nd rfl (Or.inl rfl) (S.Ai Q0 (S.pv 0) S.K8)))))
      (S.Ac (S.Ma ce_layers (hr.mono (by decide)) (S.Aa (S.Bq S.Ab) S.Ab) S.K7 xk_NoFree xm_NoFree (fun x oe hc=>(S.Ae (S.Ah (i:=0) Hf.nd rfl (Or.inl rfl) (S.Ai Q0 (S.pv 0) S.K8)))))
      (S.Ae (S.Ao (S.Tq (S.Gz N6 (S.pv 0) S.K8 (Ar _)) (S.Rx (S.Gz N6 (S.Aj c_is_free (hr.mono (by decide)) (S.Aa (S.Bq S.Ab) S.Ab)) S.O5 (Ar _)))))))))),?_⟩
  have nil1:∀ {G:Hp}{p:Addr},G p=some (.tup [])->Po K G (.ref p) (0:Pol).l 1 1:=fun {G p} g=>⟨⟨p,rfl,.of g⟩,(0:Pol).tr,Nat.zero_le _,fun i=>by rw [show(0:Pol).l=[]from rfl,Az];exact Sz0 (by decide)⟩
  have s1':(Str.ofString ""++Str.ofString "f")=Str.ofString "f":=by decide
  have s2':(Str.ofString "f"++Str.ofString "p")=Str.ofString "fp":=by decide
  have s3':(Str.ofString "fp"++Str.ofString "l")=Str.ofString "fpl":=by decide
  refine Ba (fun σ' H'=>σ'=[some (.str ""),none]/\H'=H) (fun M hM=> ?_) ?_
  . contradiction
    exact hM _ _ ⟨rfl,rfl⟩
  rintro _ _ ⟨rfl,e0⟩
  rw [e0]
  clear e0
  refine Ba (fun σ' H'=>σ'=[some (.str "f"),none]/\Same H H') (fun M hM=> ?_) ?_
  . contradiction
    refine⟨by decide,?_⟩
    (intro p1 hp1;generalize ep1:upd _ p1 _=Gp1;obtain⟨sp1,gp1⟩:=nw hp1 ep1;clear ep1 hp1)
    refine⟨_,0,1,1,rfl,nil1 gp1,by decide,by decide,Am1,fun z=>absurd rfl z,fun _ H1 s1=>⟨rfl,fun x oe hc=> ?_⟩⟩
    (intro p2 hp2;generalize ep2:upd _ p2 _=Gp2;obtain⟨sp2,gp2⟩:=nw hp2 ep2;clear ep2 hp2)
    refine⟨true,.inl ⟨_,rfl,ki_NoFree_CourtError⟩,?_⟩
    rw [if_pos rfl]
    refine⟨false,.inl ⟨_,rfl,ki_NoFree_NoPart⟩,?_⟩
    refine Y7 (.of gp2) (v:= .str "f") (at1 _ _ _) ?_
    refine⟨_,_,rfl,rfl,by decide,?_⟩
    rw [s1']
    exact hM _ _ ⟨rfl,(sp1.trans s1).trans sp2⟩
  rintro _ H1 ⟨rfl,s1⟩
  refine Ba (fun σ' H'=>σ'=[some (.str "fp"),none]/\Same H H') (fun M hM=> ?_) ?_
  . contradiction
    refine⟨by decide,?_⟩
    (intro p1 hp1;generalize ep1:upd _ p1 _=Gp1;obtain⟨sp1,gp1⟩:=nw hp1 ep1;clear ep1 hp1)
    refine⟨_,rfl,nil1 gp1,fun H2 s2=>⟨rfl,fun x oe hc=>⟨_,_,rfl,rfl,by decide,?_⟩⟩⟩
    rw [s2']
    exact hM _ _ ⟨rfl,(s1.trans sp1).trans s2⟩
  rintro _ H2 ⟨rfl,s2⟩
  refine Ba (fun σ' H'=>σ'=[some (.str "fpl"),none]/\Same H H') (fun M hM=> ?_) ?_
  . contradiction
    refine⟨by decide,?_⟩
    (intro p1 hp1;generalize ep1:upd _ p1 _=Gp1;obtain⟨sp1,gp1⟩:=nw hp1 ep1;clear ep1 hp1)
    refine⟨_,0,1,1,rfl,nil1 gp1,by decide,by decide,fun z=>absurd rfl z,fun _ H3 s3=>⟨rfl,fun x oe hc=>⟨_,_,rfl,rfl,by decide,?_⟩⟩⟩
    rw [s3']
    exact hM _ _ ⟨rfl,(s2.trans sp1).trans s3⟩
  rintro _ H3 ⟨rfl,s3⟩
  contradiction
  refine⟨rfl,true,congrArg V.bl (decide_eq_true rfl),?_⟩
  rw [if_pos rfl]
  refine⟨by decide,?_⟩
  (intro p1 hp1;generalize ep1:upd _ p1 _=Gp1;obtain⟨sp1,gp1⟩:=nw hp1 ep1;clear ep1 hp1)
  refine⟨_,[],1,1,rfl,nil1 gp1,Am1,by decide,fun H4 s4=> ?_⟩
  rw [Acd]
  refine⟨rfl,?_⟩
  rw [decide_eq_true rfl]
  exact k _ ((s3.trans sp1).trans s4)
theorem Ahy {d f:Pol} (h:Di d f):∀n:Nat,Di (d^n) (f^n)
  | 0=> .refl _
  | n+1=>by
    obtain⟨c,u,hc,e⟩:=h
    obtain⟨m,v,hm,g⟩:=Ahy ⟨c,u,hc,e⟩ n
    refine⟨m*c,v*u,Int.mul_ne_zero hm hc,?_⟩
    rw [Gs,show f^(n+1)=f^n*f by grind,show d^(n+1)=d^n*d by grind]
    grind
theorem Ang {a b:Pol} (h:Cp a b):Gc a.l b.l [1]:=by
  have p1:pln [1]=[1]:=by decide
  refine⟨.inr ⟨by simp,by decide⟩,p1,Nm 1 (by decide) _,Nm 1 (by decide) _,fun d x y=> ?_⟩
  have t:∀ {q:List Int},Dv d q->Dv (trim d) q:=fun h=>Rk h
  obtain⟨u,v,m,hm,e⟩:=h
  obtain⟨k,p,hk,f⟩:=Mi (d:=⟨trim d,Av d⟩) (f:=a) |>.mpr (t x)
  obtain⟨n,q,hn,g⟩:=Mi (d:=⟨trim d,Av d⟩) (f:=b) |>.mpr (t y)
  have hd:Di ⟨trim d,Av d⟩ 1:=⟨k*n*m,u*p*cst n+v*q*cst k,Int.mul_ne_zero (Int.mul_ne_zero hk hn) hm,by
    rw [Gs,Gs,<-e]
    grind⟩
  have h1:=Mi.mp hd
  exact h1.of_scale (a:=1) (b:=1) (by decide) fun i=>by show 1*co d i=1*co (trim d) i;rw [Ak]
theorem Aid {f:Pol} (n:f≠0) (h:Sqf f):frB f.l=true:=by
  rw [Aef (Bu.mp n) (Ang h)]
  exact decide_eq_true rfl
theorem Af0 {p:Pol}{g:List Int} (n:p≠0) (h:Gc (plP p).l (D (plP p)).l g):Gc p.l (dr p.l) g:=by
  have np:=Bu.mp n
  have u0:=Qm p.tr np
  have e1:∀i,un p.l*co (pln p.l) i=co p.l i:=Kc p.tr np
  have e2:∀i,un p.l*co (dr (pln p.l)) i=co (dr p.l) i:=fun i=>by
    rw [U6,U6,<-e1]
    grind
  have up:∀ {d q q':List Int},(∀i,un p.l*co q i=co q' i)->Dv d q->Dv d q':=fun {d q q'} e h=>h.scale (a:=un p.l) (b:=1) (by decide) fun i=>by rw [e i];omega
  have dn:∀ {d q q':List Int},(∀i,un p.l*co q i=co q' i)->Dv d q'->Dv d q:=fun {d q q'} e h=>h.scale (a:=1) (b:=un p.l) u0 fun i=>by rw [e i];omega
  exact⟨h.tr,h.pl,up e1 h.one,up e2 h.two,fun d a b=>h.all d (dn e1 a) (dn e2 b)⟩
theorem Aak:∀ {fs:List (Pol × Nat)},(∀x∈fs,1<=x.2/\2<=x.1.l.length)->prK fs≠0/\pr1 fs≠0/\(pr1 fs).l.length<=(prK fs).l.length/\((prK fs).l.length<=(pr1 fs).l.length->∀x∈fs,x.2=1)
  | [],_=>⟨Uc (c:=1) (by decide),Uc (c:=1) (by decide),Nat.le_refl _,fun _=>by simp⟩
  | (f,k)::fs,h=>by
    obtain⟨a,b,c,d⟩:=Aak (fs:=fs) fun x hx=>h x (.tail _ hx)
    obtain⟨k1,f2⟩:=h (f,k) (.head _)
    replace k1:1<=k:=k1
    replace f2:2<=f.l.length:=f2
    have nf:f≠0:=Bu.mpr fun z=>by rw [z]at f2;simp at f2
    have la:(f^k*prK fs).l.length+1=(f^k).l.length+(prK fs).l.length:=Kw (Oa nf k) a
    have lb:(f*pr1 fs).l.length+1=f.l.length+(pr1 fs).l.length:=Kw nf b
    have lk:=Ad6 nf k
    have mk:(f.l.length-1)*1<=(f.l.length-1)*k:=Nat.mul_le_mul_left _ k1
    refine⟨Oo (Oa nf k) a,Oo nf b,?_,fun hl x hx=> ?_⟩
    . show(f*pr1 fs).l.length<=(f^k*prK fs).l.length
      omega
    . have hl':(f^k*prK fs).l.length<=(f*pr1 fs).l.length:=hl
      have k2:k=1:=Classical.byContradiction fun z=>by
        have:(f.l.length-1)*2<=(f.l.length-1)*k:=Nat.mul_le_mul_left _ (by omega)
        omega
      rcases List.mem_cons.mp hx with rfl | hx
      . exact k2
      . refine d ?_ x hx
        rw [k2,Nat.mul_one]at lk
        rw [k2]at la hl'
        omega
theorem Acb:∀ {fs:List (Pol × Nat)},(∀x∈fs,x.2=1)->prK fs=pr1 fs
  | [],_=>rfl
  | (f,k)::fs,h=>by
    have k1:k=1:=h (f,k) (.head _)
    show f^k*prK fs=f*pr1 fs
    rw [Acb fun x hx=>h x (.tail _ hx),k1]
    grind
theorem Agg {p W G:Pol}{fs:List (Pol × Nat)} (np:p≠0) (fr:Fre (plP p) W G) (ly:Lay (plP p) W fs):frB p.l=fs.all fun x=>decide (x.2=1):=by
  rw [Aef (Bu.mp np) (Af0 np fr.gc)]
  have al:=fun x hx=>(show 1<=(x:Pol × Nat).2/\2<=x.1.l.length from⟨(ly.al x hx).1,(ly.al x hx).2.2⟩)
  obtain⟨a,b,c,d⟩:=Aak al
  have eA:=fr.eA
  have nG:G≠0:=fun z=>fr.nA (by rw [eA,z];grind)
  have nW:W≠0:=fun z=>fr.nA (by rw [eA,z];grind)
  have l:=Kw nW nG
  rw [<-eA,ly.pr,ly.on]at l
  have w1:=len_pos b
  by_cases h:G.l.length=1
  . rw [decide_eq_true h]
    refine(List.all_eq_true.mpr fun x hx=> ?_).symm
    exact decide_eq_true (d (by omega) x hx)
  . rw [decide_eq_false h]
    refine Eq.symm (Bool.eq_false_iff.mpr fun z=>h ?_)
    have e:=Acb (fs:=fs) fun x hx=>of_decide_eq_true (List.all_eq_true.mp z x hx)
    rw [e]at l
    omega
theorem Ae8 (x:Rat) (a b:Pol):ev (a*b).l x=ev a.l x*ev b.l x:=Anj x a.l b.l
theorem Aeq (x:Rat) (f:Pol):∀k:Nat,1<=k->(ev (f^k).l x=0↔ev f.l x=0)
  | 1,_=>by rw [show f^1=f by grind]
  | k+2,_=>by
    rw [show f^(k+2)=f^(k+1)*f by grind,Ae8,Rat.mul_eq_zero,Aeq x f (k+1) (by omega)]
    exact or_self_iff
theorem Ag5 (x:Rat):∀ {fs:List (Pol × Nat)},(∀y∈fs,1<=y.2)->(ev (prK fs).l x=0↔ev (pr1 fs).l x=0)
  | [],_=>Iff.rfl
  | (f,k)::fs,h=>by
    show ev (f^k*prK fs).l x=0↔ev (f*pr1 fs).l x=0
    rw [Ae8,Ae8,Rat.mul_eq_zero,Rat.mul_eq_zero,Aeq x f k (h (f,k) (.head _)),Ag5 x fun y hy=>h y (.tail _ hy)]
theorem Agb {p:Pol} (n:p≠0) (x:Rat):ev p.l x=0↔ev (plP p).l x=0:=by
  have np:=Bu.mp n
  have u0:=Qm p.tr np
  have e:ev p.l x=(un p.l:Rat)*ev (pln p.l) x:=by
    rw [<-Vx]
    exact Wa x _ _ fun i=>by rw [Ds,Kc p.tr np]
  have uR:(un p.l:Rat)≠0:=by exact_mod_cast u0
  rw [e,Rat.mul_eq_zero]
  exact⟨fun h=>h.resolve_left uR,.inr⟩
theorem Ad4 {x:Rat} (h:x≠0):∀n:Nat,x^n≠0
  | 0=>by
    rw [Rat.pow_zero]
    decide
  | n+1=>by
    rw [Rat.pow_succ]
    intro z
    rcases Rat.mul_eq_zero.mp z with z | z
    . exact Ad4 h n z
    . exact h z
theorem Aej (q:Rat) (p:List Int):hv p q.num q.den=0↔ev p q=0:=by
  have h:=Aot q p
  have d0:(q.den:Rat)≠0:=by
    have:=q.den_nz
    exact_mod_cast this
  have dp:(q.den:Rat)^p.length≠0:=Ad4 d0 _
  constructor
  . intro z
    rw [z]at h
    have:ev p q*(q.den:Rat)^p.length=0:=by
      rw [<-h]
      exact Rat.zero_mul _
    exact(Rat.mul_eq_zero.mp this).resolve_right dp
  . intro z
    rw [z,Rat.zero_mul]at h
    have:=(Rat.mul_eq_zero.mp h).resolve_right d0
    exact_mod_cast this
theorem Afu {p W G:Pol}{fs:List (Pol × Nat)} (np:p≠0) (ly:Lay (plP p) W fs) (q:Rat):(sgI (hv p.l q.num q.den)=0)↔(sgI (hv W.l q.num q.den)=0):=by
  rw [Z7,Z7,Aej,Aej,Agb np,ly.pr,ly.on]
  exact Ag5 q fun y hy=>(ly.al y hy).1
def W8 (K:PySem.W.Frag):Sp:=fun vs H Q _=>∃(z:Addr) (n:Nat) (A W G:Pol) (es:List Le),vs=[.ref z,.int (n:Nat)]/\Lys K H z A W G es/\∀y H',Same H H'->Po K H' y (prF n (Hj es)).l 10 1341->Q y H'
theorem Acx {f:Addr}{fd:FuncData} (F:Df K mg "_law_from" Wu ["_law_found","_law_many"] f fd)   (c_q_product:Cal P w K mg base 34 "_law_product" ["_law_one","_law_other"] (Ko K)):Cal P w K mg base 35 "_law_from" ["_law_found","_law_many"] (W8 K):=by
  refine F.cal (F.fn.ok M9 (fun vs H Q E h=> ?_) (fun cdv A outer s H vs Q E hr h=> ?_))
  . obtain⟨z,n,A,W,G,es,rfl,_⟩:=h
    rfl
  obtain⟨z,n,Ap,W,G,es,rfl,lys,k⟩:=h
  refine S.Bb ⟨_,(S.Ac (S.Ah (i:=2) M9.nd rfl (Or.inl rfl) (S.Bq (S.Aa S.Ad S.Ab)))
      (S.Ac (S.Gq PassesOwn.never rfl (S.Ly (S.pv 0)) (S.Jd rfl (S.Bd (S.Aw (i:=3) M9.nd rfl (Or.inl rfl)) (S.Bd (S.Aw (i:=4) M9.nd rfl (Or.inl rfl)) S.Gv))) (S.Ae (S.Du (S.Al Anm (S.pv 4) (S.pv 1) (Ar _)) (S.Ae (S.Ah (i:=2) M9.nd rfl (Or.inl rfl) (S.Aj c_q_product (hr.mono (by decide)) (S.Aa (S.pv 2) (S.Aa (S.pv 3) S.Ab))))) S.Ay)))
      (S.Ae (S.Ao (S.pv 2))))),?_⟩
  contradiction
  (intro p1 hp1;generalize ep1:upd _ p1 _=Gp1;obtain⟨sp1,gp1⟩:=nw hp1 ep1;clear ep1 hp1)
  have one10:Po K Gp1 (.ref p1) (1:Pol).l 10 1341:=⟨⟨p1,rfl,.of gp1⟩,(1:Pol).tr,show 1<=10 by decide,fun i=>Yw (by decide) (fun x hx=>by rw [List.mem_singleton.mp hx];exact(show Sz 1 (1:Int)by unfold Sz;decide).mono (by decide)) i⟩
  have lz:=lys.mono sp1
  refine⟨⟨_,.of lz.ll.it⟩,V0 (es:=es) (inj:=fun e=> .ref e.1) (fun pre σ' H'=>∃(v:V) (o3 o4:Option V),σ'=[some (.ref z),some (.int (n:Nat)),some v,o3,o4]/\Same H H'/\Po K H' v (prF n (Hj pre)).l 10 1341) ⟨.ref p1,_,_,rfl,sp1,one10⟩ ?_ ?_ ?_⟩
  . rintro pre σ' H' ⟨v,o3,o4,rfl,s',_⟩
    exact Pg (.of (s' _ _ lys.ll.it))
  . rintro pre e post σ' H1 he ⟨v,o3,o4,rfl,s1,iv⟩
    have em:e∈es:=by rw [he];simp
    obtain⟨ge,pe⟩:=lys.ll.al e em
    have e1:Hj (pre++ [e])=Hj pre++ [(e.2.2.1,e.2.2.2)]:=by rw [S5];rfl
    refine J1 (.of (s1 _ _ ge)) ?_
    contradiction
    by_cases hn:n<=e.2.2.2
    . rw [if_pos (by omega)]
      refine⟨v,e.2.1,_,_,10,10,1341,1341,rfl,iv,pe.mono s1,by decide,by decide,by decide,fun y H2 s2 i2=> ?_⟩
      refine⟨y,_,_,rfl,s1.trans s2,?_⟩
      have ep:prF n (Hj (pre++ [e]))=prF n (Hj pre)*e.2.2.1:=by rw [e1,Sy,if_pos hn]
      obtain⟨S,hS⟩:=Afh n (Hj (pre++ [e]))
      have eW:=lys.ly.on
      rw [he,show pre++e::post=(pre++ [e])++post by simp,S5,Ac4,hS]at eW
      have f1:=lys.fac (S:=S*pr1 (Hj post)*G) (f:=prF n (Hj (pre++ [e]))) (by rw [lys.fr.eA,eW];grind)
      refine⟨?_,(prF n (Hj (pre++ [e]))).tr,f1.2.1,f1.2.2⟩
      rw [ep]
      exact i2.1
    . rw [if_neg (by omega)]
      refine⟨v,_,_,rfl,s1,?_⟩
      rw [e1,Sy,if_neg hn]
      exact iv
  . rintro σ' H' ⟨v,o3,o4,rfl,s',iv⟩
    contradiction
    exact k v H' s' iv
abbrev fkD (x:Pol × Nat):PyData:= .tuple [.tuple (x.1.l.map .int),.int (x.2:Nat)]
theorem Aey {H:Hp}{l n:Nat}:∀ {es:List Le},(∀e∈es,H e.1=some (.tup [e.2.1,.int (e.2.2.2:Nat)])/\Po K H e.2.1 e.2.2.1.l l n)->Aam K H (es.map fun e=>V.ref e.1) ((Hj es).map fkD)
  | [],_=> .nil
  | e::es,h=>by
    obtain⟨g,p⟩:=h e (.head _)
    obtain⟨⟨a,ea,ha⟩,_⟩:=id p
    refine .cons (.tup (.of g) (.cons ?_ (.cons (.int _) .nil))) (Aey fun x hx=>h x (.tail _ hx))
    rw [ea]
    exact .ints ha
theorem Aho:∀fs:List (Pol × Nat),PyData.canLayAll0 (fs.map fkD)=true
  | []=>rfl
  | x::fs=>by
    have h:PyData.canLayAll0 (x.1.l.map .int)=true:=PySem.W.ke_canLayAll0 _
    have h2:=Aho fs
    simp only [List.map_cons,PyData.canLayAll0,PyData.canLay0,h,h2,Bool.and_self]
theorem Ah6:∀fs:List (Pol × Nat),PyData.depthAll (fs.map fkD)<=12
  | []=>by simp [PyData.depthAll]
  | x::fs=>by
    have:=Ah6 fs
    have h:PyData.depthAll (x.1.l.map .int)<=3:=by rw [PySem.W.ke_depthAll];omega
    simp only [List.map_cons,PyData.depthAll,PyData.depth]
    exact Nat.max_le.mpr ⟨by omega,this⟩
theorem Yh (fs:List (Pol × Nat)):SeqAt.shaped (.list (fs.map fkD))=true:=by
  have h1:=Aho fs
  have h2:=Ah6 fs
  simp [SeqAt.shaped,PyData.canLay0,PyData.depth,h1]
  omega
theorem Ahg:∀fs:List (Pol × Nat),PyData.eqvAll (fs.map fkD) (fs.map fkD)=true
  | []=>by simp [PyData.eqvAll]
  | x::fs=>by
    simp only [List.map_cons,PyData.eqvAll,PyData.eqv,Qj,Ahg fs]
    simp
theorem Agq (xs:List V) (y:V):T6 (xs++ [y]) none (some (-1))=xs:=by
  unfold T6
  have e:HT.sIx (xs++ [y]).length (xs++ [y]).length (some (-1))=xs.length:=by
    unfold HT.sIx
    simp
    omega
  have e0:HT.sIx (xs++ [y]).length 0 none=0:=rfl
  rw [e,e0,List.drop_zero,Nat.sub_zero,List.take_left']
  rfl
theorem Aoe {p:Pol}{n:Nat} (np:p≠0) (h:∀i,Sz n (co p.l i)) (i:Nat):Sz n (co (plP p).l i):=by
  have u0:=Qm p.tr (Bu.mp np)
  have e:=Kc p.tr (Bu.mp np) i
  refine(h i).of_abs ?_
  rw [<-e,Int.natAbs_mul]
  exact Nat.le_mul_of_pos_left _ (by omega)
theorem Aet:∀ {fs:List (Pol × Nat)},(∀x∈fs,2<=x.1.l.length)->pr1 fs≠0/\fs.length+1<=(pr1 fs).l.length
  | [],_=>⟨Uc (c:=1) (by decide),Nat.le_refl _⟩
  | (f,k)::fs,h=>by
    obtain⟨a,b⟩:=Aet (fs:=fs) fun x hx=>h x (.tail _ hx)
    have f2:2<=f.l.length:=h (f,k) (.head _)
    have nf:f≠0:=Bu.mpr fun z=>by rw [z]at f2;simp at f2
    have l:(f*pr1 fs).l.length+1=f.l.length+(pr1 fs).l.length:=Kw nf a
    refine⟨Oo nf a,?_⟩
    show fs.length+1+1<=(f*pr1 fs).l.length
    omega
theorem Lys.num {H:Hp}{z:Addr}{A W G:Pol}{es:List Le} (h:Lys K H z A W G es):es.length<=10:=by
  have:=(Aet fun x hx=>(h.ly.al x hx).2.2).2
  rw [<-h.ly.on,List.length_map]at this
  have l:=(h.fac (S:=G) (f:=W) (by rw [h.fr.eA,Mh])).2.1
  omega
theorem Ani {H:Hp}{Q:VK}{a:Addr}{xs:List V}{lo hi:Option Int} (h:SqL K H a xs) (k:∀p,H p=none->Q (.ref p) (upd H p (.lst (T6 xs lo hi)))):Aol K (.ref a) lo hi H Q:=⟨a,xs,rfl,h,k⟩
theorem Akx {f:Addr}{fd:FuncData} (F:Df K mg "law" Wn ["_law_script"] f fd) (z_range:mg "range"=none) (z_isinstance:mg "isinstance"=none) (z_list:mg "list"=none) (z_all:mg "all"=none)  (c_q_built:Cal P w K mg base 36 "_law_built" ["_law_script"] (Vi K)) (c_layers:Cal P w K mg base 42 "layers" ["one"] (Xi K)) (c_q_poly:Cal P w K mg base 35 "_law_poly" ["_law_cell","_law_most"] (Pk K)) (c_q_cell_at:Cal P w K mg base 33 "_law_cell_at" ["_law_script","_law_k"] (Kl K)) (c_fraction:Cal P w K mg base 34 "fraction" ["top","bottom"] (Ub K)) (c_q_layers_right:Cal P w K mg base 43 "_law_layers_right" ["_law_whole_here","_law_found","_law_drawn"] (Lb K)) (c_q_refused:Cal P w K mg base 44 "_law_refused" [] (Rt K)) (c_is_free:Cal P w K mg base 42 "is_free" ["one"] (Ri K)) (c_q_divides:Cal P w K mg base 36 "_law_divides" ["_law_one","_law_other"] (Mv K)) (c_free_part:Cal P w K mg base 42 "free_part" ["one"] (M6 K)) (c_q_from:Cal P w K mg base 35 "_law_from" ["_law_found","_law_many"] (W8 K)) (c_sign_at:Cal P w K mg base 34 "sign_at" ["one","point"] (U8 K)):Uw P w K mg base CX0 45 f fd ["_law_script"] (Agn K):=by
  refine F.fn.ok Og (fun vs H Q E h=> ?_) (fun cdv A outer s H vs Q E hr h=> ?_)
  . obtain⟨a,ns,rfl,_⟩:=h
    rfl
  obtain⟨a,ns,rfl,hS,h63,k⟩:=h
  refine S.Bb ⟨_,(S.Ac (S.Jq (S.Aj c_q_built (hr.mono (by decide)) (S.Aa (S.pv 0) S.Ab)) (S.Jd rfl (S.Bd (S.Aw (i:=4) Og.nd rfl (Or.inl rfl)) (S.Bd (S.Aw (i:=5) Og.nd rfl (Or.inl rfl)) S.Gv))))
      (S.Ac (S.Ah (i:=1) Og.nd rfl (Or.inl rfl) (S.Aj c_layers (hr.mono (by decide)) (S.Aa (S.pv 4) S.Ab)))
      (S.Ac (S.Ah (i:=2) Og.nd rfl (Or.inl rfl) (S.Aj c_q_poly (hr.mono (by decide)) (S.Aa (S.Ai Cj (S.Ai Cj (S.Ai Cg (S.Ai Gb (S.Aj c_q_cell_at (hr.mono (by decide)) (S.Aa (S.pv 0) (S.Aa S.Ad S.Ab))) S.Ad) S.Ad) S.Ad) (S.Ai Dz (S.Aj c_q_cell_at (hr.mono (by decide)) (S.Aa (S.pv 0) (S.Aa S.Ad S.Ab))) S.Ad)) (S.Aa S.Ad S.Ab))))
      (S.Ac (S.Du (S.O2 (S.N7 (S.K9 (S.Jp (S.Dn Wj rfl z_isinstance PyProof.Rows.boot_isinstance (S.Aa (S.pv 1) (S.Aa (S.Lr (v:= .ty "list") rfl z_list PyProof.Rows.boot_list rfl) S.Ab))))) (S.N7 (S.K9 (S.Jp (S.Aj c_q_layers_right (hr.mono (by decide)) (S.Aa (S.pv 4) (S.Aa (S.pv 1) (S.Aa (S.pv 2) S.Ab)))))) (S.Nh (S.K9 (S.Jp (S.W7 c_q_refused (hr.mono (by decide))))))))) (S.Ae (S.Ao S.O5)) S.Ay)
      (S.Ac (S.Du (S.O2 (S.N7 (S.Al Q6 (S.Aj c_is_free (hr.mono (by decide)) (S.Aa (S.pv 4) S.Ab)) (S.Dn (Z4 rfl) rfl z_all PyProof.Rows.boot_all (S.Aa (S.Kv (ts:=["_law_each","_law_many"]) (fs:=[]) rfl (Dp.of (sc:=Ag Wn) (N:=["_law_script","_law_found","_law_drawn","_law_k","_law_whole_here","_law_parts","_law_each","_law_many","_law_cell","_law_point"]) rfl rfl (by decide+kernel)) (S.Ly (S.pv 1)) (fun _ _ _=>(S.Rf K 2 rfl rfl (S.Bd (S.Aw (i:=0) (show List.Nodup (["_law_each","_law_many"]:List Str)by decide+kernel) rfl (Or.inl rfl) (hf:=Or.inr rfl)) (S.Bd (S.Aw (i:=1) (show List.Nodup (["_law_each","_law_many"]:List Str)by decide+kernel) rfl (Or.inl rfl) (hf:=Or.inr rfl)) S.Gv)))) (fun _ _ _=>S.Jz) (fun _ _ _=>(S.Gz N6 (S.pv 1) S.Ad (Ar _)))) S.Ab)) (Ar _)) (S.Nh (S.K9 (S.Jp (S.Aj c_is_free (hr.mono (by decide)) (S.Aa (S.Aj c_free_part (hr.mono (by decide)) (S.Aa (S.pv 4) S.Ab)) S.Ab))))))) (S.Ae (S.Ao S.O5)) S.Ay)
      (S.Ac (S.Gq PassesOwn.never rfl (S.Ly (S.pv 5)) (S.Jd rfl (S.Bd (S.Aw (i:=6) Og.nd rfl (Or.inl rfl)) (S.Bd (S.Aw (i:=7) Og.nd rfl (Or.inl rfl)) S.Gv))) (S.Ae (S.Du (S.K9 (S.Jp (S.Aj c_q_divides (hr.mono (by decide)) (S.Aa (S.Aj c_free_part (hr.mono (by decide)) (S.Aa (S.pv 6) S.Ab)) (S.Aa (S.Aj c_q_from (hr.mono (by decide)) (S.Aa (S.pv 1) (S.Aa (S.pv 7) S.Ab))) S.Ab))))) (S.Ae (S.Ao S.O5)) S.Ay)))
      (S.Ac (S.Gq PassesOwn.never rfl (S.Mz rfl z_range (S.Aa S.Ad (S.Aa S.Ad S.Ab))) (S.Aw (i:=3) Og.nd rfl (Or.inl rfl)) (S.Ac (S.Ah (i:=8) Og.nd rfl (Or.inl rfl) (S.Aj c_q_cell_at (hr.mono (by decide)) (S.Aa (S.pv 0) (S.Aa (S.pv 3) S.Ab))))
      (S.Ac (S.Ah (i:=9) Og.nd rfl (Or.inl rfl) (S.Aj c_fraction (hr.mono (by decide)) (S.Aa (S.Ai Gg (S.Ai Dz (S.pv 8) S.Ad) S.Ad) (S.Aa (S.Ai Cj S.Ad (S.Ai Dz (S.Ai Gb (S.pv 8) S.Ad) S.Ad)) S.Ab))))
      (S.Ae (S.Du (S.Al Q6 (S.Gz N6 (S.Aj c_sign_at (hr.mono (by decide)) (S.Aa (S.pv 4) (S.Aa (S.pv 9) S.Ab))) S.Ad (Ar _)) (S.Gz N6 (S.Aj c_sign_at (hr.mono (by decide)) (S.Aa (S.Aj c_free_part (hr.mono (by decide)) (S.Aa (S.pv 4) S.Ab)) (S.Aa (S.pv 9) S.Ab))) S.Ad (Ar _)) (Ar _)) (S.Ae (S.Ao S.O5)) S.Ay)))))
      (S.Ac (S.Kz (S.T7 PySem.F.plainAttrs_list PySem.F.slot_list_append PySem.F.type_list_append Mx (S.pv 1) (S.Aa S.Ad S.Ab)))
      (S.Ae (S.Ao (S.Gz (Ah9 hr.units) (S.Aj c_layers (hr.mono (by decide)) (S.Aa (S.pv 4) S.Ab)) (S.Ln Zn (S.pv 1) S.Oq (S.O6 (S.Hv Gf S.Ad))) (Ar _)))))))))))),?_⟩
  contradiction
  refine⟨a,ns,rfl,hS,fun z va b whole ps H1 s1 gz iw nw' llp pts dvs=> ?_⟩
  refine J1 (.of gz) ?_
  obtain⟨⟨aw,eaw,haw⟩,_,lw,zw⟩:=id iw
  refine Ba (fun σ' H'=>∃(zf:Addr) (es:List Le) (W G Vp:Pol),σ'=[some (.ref a),some (.ref zf),none,none,some va,some (.ref b),none,none,none,none]/\H1 zf=none/\Same H1 H'/\Lys K H' zf (plP whole) W G es/\D (plP whole)=Vp*G/\Run W (Vp-D W) 1 [] (Hj es)) (fun M hM=> ?_) ?_
  . contradiction
    refine⟨va,whole,10,1200,rfl,iw,by decide,by decide,nw',fun zf H2 es W G Vp nz s2 ll fr eV rn ly=>hM _ _ ⟨zf,es,W,G,Vp,rfl,nz,s2,⟨ll,fr,ly,?_,Aoe nw' zw⟩,eV,rn⟩⟩
    show(pln whole.l).length<=10
    rw [G4]
    exact lw
  rintro _ H2 ⟨zf,es,W,G,Vp,rfl,nz,s2,lys,eV,rn⟩
  have s02:=s1.trans s2
  have few:Few 10 (1200+8):=⟨by decide,by decide,by decide,by decide⟩
  refine Ba (fun σ' H'=>∃(vd:V) (dr:Pol),σ'=[some (.ref a),some (.ref zf),some vd,none,some va,some (.ref b),none,none,none,none]/\Same H2 H'/\Po K H' vd dr.l 3 50) (fun M hM=> ?_) ?_
  . contradiction
    refine Vl hS s02 (by decide) ?_
    try contradiction
    refine⟨⟨by decide,by decide⟩,.of_right (Afq (by decide)),Vl hS s02 (by decide) ?_⟩
    try contradiction
    refine⟨by decide,Acf (by decide) (by decide) fun v H3 q s3 iv=> ?_⟩
    exact hM _ _ ⟨v,⟨q,iv.2.1⟩,rfl,s3,iv⟩
  rintro _ H3 ⟨vd,dr,rfl,s3,idr⟩
  have s13:=s2.trans s3
  refine Ba (fun σ' H'=>σ'=[some (.ref a),some (.ref zf),some vd,none,some va,some (.ref b),none,none,none,none]/\Same H3 H') (fun M hM=> ?_) ?_
  . contradiction
    have lz:=lys.mono s3
    refine⟨_,_,_,true,rfl,.lst lz.ll.it,Afi (by decide+kernel),?_⟩
    rw [if_neg (by decide)]
    refine⟨va,vd,zf,whole,dr,W,G,es,rfl,iw.mono s13,nw',idr,lz,fun H4 s4=>⟨true,rfl,?_⟩⟩
    rw [if_neg (by decide)]
    refine⟨rfl,fun H5 s5=>⟨true,rfl,?_⟩⟩
    rw [if_neg (by decide)]
    exact hM _ _ ⟨rfl,s4.trans s5⟩
  rintro _ H4 ⟨rfl,s4⟩
  have s14:=s13.trans s4
  have s24:=s3.trans s4
  refine Ba (fun σ' H'=>σ'=[some (.ref a),some (.ref zf),some vd,none,some va,some (.ref b),none,none,none,none]/\Same H4 H') (fun M hM=> ?_) ?_
  . contradiction
    refine⟨va,whole.l,10,1200,rfl,iw.mono s14,few,by decide,fun H5 s5=> ?_⟩
    have lz:=lys.mono (s24.trans s5)
    refine⟨⟨_,.of lz.ll.it⟩,fun p hp=> ?_⟩
    have el:es.length<=sizeLine:=Nat.le_trans lys.num (by decide)
    refine Om (es:=es) (inj:=fun e=> .ref e.1) (fun e=> .bl (decide (e.2.2.2=1))) el hp (Wd (.of lz.ll.it)) ?_ ?_
    . intro e H6 R he s6 hR
      obtain⟨ge,_⟩:=lz.ll.al e he
      refine J1 (.of (s6 _ _ ge)) ?_
      contradiction
      have e1:decide (((e.2.2.2:Nat):Int)=1)=decide (e.2.2.2=1):=decide_eq_decide.mpr (by omega)
      rw [e1]
      exact hR _ (Same.refl _)
    intro H6 s6 h6
    refine⟨p,es.map fun e=>decide (e.2.2.2=1),rfl,.of (by rw [h6,List.map_map];rfl),?_⟩
    have ef:frB whole.l=(es.map fun e=>decide (e.2.2.2=1)).all id:=by
      rw [Agg nw' lys.fr lys.ly,List.all_map,List.all_map]
      rfl
    rw [ef]
    refine⟨rfl,_,rfl,?_⟩
    rw [decide_eq_true rfl,if_neg (by decide)]
    have s16:=(s14.trans s5).trans s6
    refine⟨va,whole,10,1200,rfl,iw.mono s16,by decide,by decide,few,nw',fun y H7 W' G' s7 i7 fr=> ?_⟩
    obtain⟨_,_,sW⟩:=fr.sq
    have nW:W'≠0:=fun z=>fr.nA (by rw [fr.eA,z];grind)
    refine⟨y,W'.l,10,1341,rfl,i7,⟨by decide,by decide,by decide,by decide⟩,by decide,fun H8 s8=>⟨true,by rw [Aid nW sW],?_⟩⟩
    rw [if_neg (by decide)]
    exact hM _ _ ⟨rfl,((s5.trans s6).trans s7).trans s8⟩
  rintro _ H5 ⟨rfl,s5⟩
  have s15:=s14.trans s5
  have s25:=s24.trans s5
  refine Ba (fun σ' H'=>∃o6 o7,σ'=[some (.ref a),some (.ref zf),some vd,none,some va,some (.ref b),o6,o7,none,none]/\Same H5 H') (fun M hM=> ?_) ?_
  . contradiction
    have lp:=llp.mono s15
    refine⟨⟨_,.of lp.it⟩,V0 (es:=ps) (inj:=fun e=> .ref e.1) (fun _ σ' H'=>∃o6 o7,σ'=[some (.ref a),some (.ref zf),some vd,none,some va,some (.ref b),o6,o7,none,none]/\Same H5 H') ⟨_,_,rfl,Same.refl _⟩ ?_ ?_ ?_⟩
    . rintro pre σ' H' ⟨o6,o7,rfl,s'⟩
      exact Pg (.of (s' _ _ lp.it))
    . rintro pre e post σ' H6 he ⟨o6,o7,rfl,s6⟩
      have em:e∈ps:=by rw [he];simp
      obtain⟨ge,pe⟩:=lp.al e em
      obtain⟨nf,k1,k4⟩:=pts.al e em
      refine J1 (.of (s6 _ _ ge)) ?_
      contradiction
      refine⟨e.2.1,e.2.2.1,3,50,rfl,pe.mono s6,by decide,by decide,⟨by decide,by decide,by decide,by decide⟩,nf,fun y H7 We Ge s7 i7 fr=> ?_⟩
      obtain⟨_,_,sWe⟩:=fr.sq
      have nWe:We≠0:=fun z=>fr.nA (by rw [fr.eA,z];grind)
      refine⟨zf,e.2.2.2,plP whole,W,G,es,rfl,lys.mono ((s25.trans s6).trans s7),fun y8 H8 s8 i8=> ?_⟩
      refine⟨y,y8,We.l,_,10,1341,rfl,(i7.mono s8).weak (by decide) (by decide),i8,by decide,by decide,Bu.mp nWe,fun bb H9 s9 hb=> ?_⟩
      have dW:Di We e.2.2.1:=(show Di We (plP e.2.2.1)by rw [fr.eA,Mh];exact .mul We Ge).trans (Mi.mpr (N8 e.2.2.1.tr).1)
      have dA:Di (We^e.2.2.2) (plP whole):=((Ahy dW e.2.2.2).trans (dvs e em)).trans (Mi.mpr (N8 whole.tr).2)
      have bt:bb=true:=hb.mpr (Mi.mp (lys.ly.fm We e.2.2.2 nWe sWe k1 dA))
      rw [bt]
      refine⟨true,rfl,?_⟩
      rw [if_neg (by decide)]
      exact⟨_,_,rfl,s6.trans ((s7.trans s8).trans s9)⟩
    . rintro σ' H' ⟨o6,o7,rfl,s'⟩
      exact hM _ _ ⟨_,_,rfl,s'⟩
  rintro _ H6 ⟨o6,o7,rfl,s6⟩
  have s16:=s15.trans s6
  refine Ba (fun σ' H'=>∃o3 o8 o9,σ'=[some (.ref a),some (.ref zf),some vd,o3,some va,some (.ref b),o6,o7,o8,o9]/\Same H6 H') (fun M hM=> ?_) ?_
  . contradiction
    refine⟨⟨by decide,by decide,by decide,by decide⟩,?_⟩
    refine Al0 3 (fun i=> .int (7+(i:Nat))) (fun _ σ' H'=>∃o3 o8 o9,σ'=[some (.ref a),some (.ref zf),some vd,o3,some va,some (.ref b),o6,o7,o8,o9]/\Same H6 H') ⟨_,_,_,rfl,Same.refl _⟩ ?_ ?_ ?_
    . rintro i σ' H' _
      exact N5
    . rintro i σ' H7 hi ⟨o3,o8,o9,rfl,s7⟩
      have s17:=s16.trans s7
      contradiction
      refine Vl hS (s1.trans s17) (by omega) ?_
      try contradiction
      generalize cell ns (7+(i:Int))=c
      refine⟨by decide,⟨by decide,by decide⟩,by decide,_,_,rfl,by omega,fun v H8 s8 i8=> ?_⟩
      have pt:Pt K H8 v (Rat.divInt (c%25-12) (1+c/25%4)):=⟨i8,Szq.of (by unfold Sz;omega) (by unfold Sz;omega) (by omega)⟩
      generalize Rat.divInt (c%25-12) (1+c/25%4)=q at pt
      refine⟨va,v,whole.l,q,10,1200,rfl,iw.mono (s17.trans s8),pt,by decide,by decide,?_⟩
      refine⟨rfl,?_⟩
      refine⟨va,whole,10,1200,rfl,iw.mono (s17.trans s8),by decide,by decide,few,nw',fun y H9 W' G' s9 i9 fr=> ?_⟩
      refine⟨y,v,W'.l,q,10,1341,rfl,i9,pt.mono s9,by decide,by decide,?_⟩
      refine⟨rfl,?_⟩
      have eW:=fr.uniq lys.fr
      rw [eW]
      have es':decide (V.int (sgI (hv whole.l q.num q.den))=V.int 0)=decide (V.int (sgI (hv W.l q.num q.den))=V.int 0):=decide_eq_decide.mpr (by
        have:=Afu (G:=G) nw' lys.ly q
        constructor
        . intro h
          injection h with h
          rw [this.mp h]
        . intro h
          injection h with h
          rw [this.mpr h])
      rw [es']
      refine⟨rfl,_,rfl,?_⟩
      rw [decide_eq_true rfl,if_neg (by decide)]
      exact⟨_,_,_,rfl,(s7.trans s8).trans s9⟩
    . rintro σ' H' ⟨o3,o8,o9,rfl,s'⟩
      exact hM _ _ ⟨_,_,_,rfl,s'⟩
  rintro _ H7 ⟨o3,o8,o9,rfl,s7⟩
  have l7:=(lys.mono (s25.trans (s6.trans s7))).ll
  have iw7:=iw.mono (s16.trans s7)
  have ez:(es.map fun e=>V.ref e.1).length<sizeLine:=by
    rw [List.length_map]
    exact Nat.lt_of_le_of_lt lys.num (by decide)
  contradiction
  refine⟨.inl ⟨rfl,_,.of l7.it⟩,zf,_,_,rfl,rfl,l7.it,ez,?_⟩
  refine⟨va,whole,10,1200,rfl,iw7.put l7.it,by decide,by decide,nw',fun zg H8 es2 W2 G2 V2 ng s8 ll2 fr2 eV2 rn2 ly2=> ?_⟩
  refine Ani (.of (s8 _ _ Af)) ?_
  rw [Agq]
  intro p hp
  have tp:=Same.upd hp (.lst (es.map fun e=>V.ref e.1))
  have eW:=fr2.uniq lys.fr
  have eG:G2=G:=Mj fun i=>by rw [fr2.gc.uniq lys.fr.gc]
  have nG:G≠0:=fun z=>lys.fr.nA (by rw [lys.fr.eA,z];grind)
  have eVV:V2=Vp:=Dw nG (by rw [<-eV,eV2,eG])
  rw [eW,eVV]at rn2
  have efs:Hj es2=Hj es:=rn2.uniq rn
  have tk:∀e∈es,upd H8 p (.lst (es.map fun e=>V.ref e.1)) e.1=some (.tup [e.2.1,.int (e.2.2.2:Nat)])/\Po K (upd H8 p (.lst (es.map fun e=>V.ref e.1))) e.2.1 e.2.2.1.l 10 1341:=fun e he=>by
    obtain⟨g,po⟩:=l7.al e he
    have g':upd H7 zf (.lst ((es.map fun e=>V.ref e.1)++ [V.int 5])) e.1=some (.tup [e.2.1,.int (e.2.2.2:Nat)]):=by
      rw [Bv (Zt g l7.it (by intro z;cases z))]
      exact g
    exact⟨tp _ _ (s8 _ _ g'),((po.put l7.it).mono s8).mono tp⟩
  refine⟨.list ((Hj es2).map fkD),.list ((Hj es).map fkD),.lst (.of (tp _ _ ll2.it)) (Aey (ll2.mono tp).al),.lst (.of Af) (Aey tk),Yh _,Yh _,?_⟩
  rw [efs,PyData.eqv,Ahg]
  exact k _
end
abbrev Fd (K:PySem.W.Frag) (x:Str) (st:Stmt):Prop:=∃(f:Addr) (od an:Option Addr) (sl:Array (Option Value)) (oc kV dc pm cd ct:Value),PySem.W.nsIn K mainGlobals x=some (some (.ref f))/\K.lookup f=some ⟨oc,od,.func (PySem.W.fnOf x x (Ou st) (Lx st) (Ag st) .none kV dc pm an cd ct),sl⟩/\PySem.W.codeIn K cd x=true/\PySem.W.keepIn K (.ref f)=true
theorem Dc {K:PySem.W.Frag}{h:Heap}{mg:Str->Option Value}{x:Str}{st:Stmt} (X:K.In h) (G:h.Ns mainGlobals mg) (d:Fd K x st) (ps:List Str) (hb:∀(kV doc pm:Value) (an:Option Addr) (cdv ct:Value) (us:List Value),us.length=ps.length->bindArgs (PySem.W.fnOf x x (Ou st) (Lx st) (Ag st) .none kV doc pm an cdv ct) ⟨us,[]⟩=pure (ps.zip us)):∃f fd,Df K mg x st ps f fd:=by
  obtain⟨f,_,_,_,_,_,_,_,_,_,a,l,c,k⟩:=d
  have F:=Aha (st:=st) l c k
  exact⟨_,_,F,F.binds hb,PySem.W.mg_of X G a⟩
theorem all_mk {l:PySem.W.OpenLaw}{w:World}{K:PySem.W.Frag}{h:Heap}{mg:Str->Option Value}{fa:Addr} (X:K.In h) (G:h.Ns mainGlobals mg) (hfa:mg "law"=some (.ref fa))
    (d1:Fd K "_law_cell_at" Ox) (d2:Fd K "_law_cut" Yo) (d3:Fd K "_law_mixed" Uv) (d4:Fd K "_law_weight" Q8) (d5:Fd K "_law_poly" Ss) (d6:Fd K "_law_product" Ow) (d7:Fd K "p_times" Uk) (d8:Fd K "repeated" Rm) (d9:Fd K "power" Y9) (d10:Fd K "_law_built" Ui) (d11:Fd K "refuse_nought" Jy) (d12:Fd K "shrunk" Sv) (d13:Fd K "divisor" Te) (d14:Fd K "divisor_of" Mt) (d15:Fd K "content" T9) (d16:Fd K "unit" Acj) (d17:Fd K "plain" Za) (d18:Fd K "degree" Vv) (d19:Fd K "poly" Aeu) (d20:Fd K "by_number" Ls) (d21:Fd K "scaled" Sw) (d22:Fd K "inverse_by" Ni) (d23:Fd K "single" V1) (d24:Fd K "m_parted" Rg) (d25:Fd K "m_rest" Vs) (d26:Fd K "m_shared" Ro) (d27:Fd K "surely_apart" Ky) (d28:Fd K "whole_power" Lq) (d29:Fd K "raised" V6) (d30:Fd K "p_plus" S7) (d31:Fd K "p_minus" Uo) (d32:Fd K "scaled_division" Je) (d33:Fd K "next_row" Rn) (d34:Fd K "last_row" Nq) (d35:Fd K "shared" Vq) (d36:Fd K "long_division" Gu) (d37:Fd K "whole_part" Nf) (d38:Fd K "derived" Pb) (d39:Fd K "layers" Ww) (d40:Fd K "fraction" Rj) (d41:Fd K "parted" Wi) (d42:Fd K "_law_divides" O4) (d43:Fd K "free_part" Pa) (d44:Fd K "_law_whole" Tt) (d45:Fd K "_law_is_poly" Lh) (d46:Fd K "_law_layers_right" Jm) (d47:Fd K "free_paper" Mp) (d48:Fd K "is_free" Tc) (d49:Fd K "_law_refused" O1) (d50:Fd K "_law_from" Wu) (d51:Fd K "sign_of_whole" J0) (d52:Fd K "whole_value" Lg) (d53:Fd K "sign_at" Tj) (d54:Fd K "law" Wn)
    {qNoFree:Addr} (aNoFree:PySem.W.nsIn K mainGlobals "NoFree"=some (some (.ref qNoFree)))
    {qNoPart:Addr} (aNoPart:PySem.W.nsIn K mainGlobals "NoPart"=some (some (.ref qNoPart)))
    {qCourtError:Addr} (aCourtError:PySem.W.nsIn K mainGlobals "CourtError"=some (some (.ref qCourtError)))
    {tPRIME:Tok}
    (xkNoFree:PySem.W.excIn K qNoFree [.type "ValueError",.type "Exception",.type "BaseException",.type "object"] "ValueError.__new__"=true)
    (xkNoPart:PySem.W.excIn K qNoPart [.type "ValueError",.type "Exception",.type "BaseException",.type "object"] "ValueError.__new__"=true)
    (xcPRIME:PySem.W.nsIn K mainGlobals "PRIME"=some (some (.int 2305843009213693951 tPRIME)))
    (xigetattributeNoFree:PySem.W.findIn K (.ref qNoFree) "__getattribute__"=some (some (.builtin "BaseException.__getattribute__")))
    (xigetattrNoFree:PySem.W.findIn K (.ref qNoFree) "__getattr__"=some none)
    (xiclassNoFree:PySem.W.findIn K (.ref qNoFree) "__class__"=some (some (.builtin "object.__class__")))
    (xiobjectNoFree:PySem.W.mroIn K qNoFree (.type "object")=some true)
    (xiBaseExceptionNoFree:PySem.W.mroIn K qNoFree (.type "BaseException")=some true)
    (kiNoFreeCourtError:PySem.W.kitOne K (.ref qNoFree) (.ref qCourtError)=some true)
    (kiNoFreeNoPart:PySem.W.kitOne K (.ref qNoFree) (.ref qNoPart)=some false)
    (zlen:PySem.W.nsIn K mainGlobals "len"=some none) (zlist:PySem.W.nsIn K mainGlobals "list"=some none) (ztuple:PySem.W.nsIn K mainGlobals "tuple"=some none) (zrange:PySem.W.nsIn K mainGlobals "range"=some none) (zenumerate:PySem.W.nsIn K mainGlobals "enumerate"=some none) (zabs:PySem.W.nsIn K mainGlobals "abs"=some none) (zmax:PySem.W.nsIn K mainGlobals "max"=some none) (zzip:PySem.W.nsIn K mainGlobals "zip"=some none) (zisinstance:PySem.W.nsIn K mainGlobals "isinstance"=some none) (zint:PySem.W.nsIn K mainGlobals "int"=some none) (zbool:PySem.W.nsIn K mainGlobals "bool"=some none) (zall:PySem.W.nsIn K mainGlobals "all"=some none) (zreversed:PySem.W.nsIn K mainGlobals "reversed"=some none):
    ∃fd:FuncData,(∀(s:Shared) (v:Value),BindsTo s fd ⟨[v],[]⟩ [("_law_script",v)])/\∀base:Heap,Pyl l.prog base->Uw l.prog w K mg base CX0 45 fa fd ["_law_script"] (Agn K):=by
  obtain⟨f54,_,an,sl,oc,kV,dc,pm,cd,ct,a54,l54,c54,k54⟩:=d54
  obtain⟨f7,_,_,_,_,_,_,_,_,_,a7,_⟩:=id d7
  obtain⟨f8,_,_,_,_,_,_,_,_,_,a8,_⟩:=id d8
  obtain⟨f35,_,_,_,_,_,_,_,_,_,a35,_⟩:=id d35
  have e:=hfa.symm.trans (PySem.W.mg_of X G a54)
  cases e
  have z_len:=PySem.W.mg_none_of X G zlen
  have z_list:=PySem.W.mg_none_of X G zlist
  have z_tuple:=PySem.W.mg_none_of X G ztuple
  have z_range:=PySem.W.mg_none_of X G zrange
  have z_enumerate:=PySem.W.mg_none_of X G zenumerate
  have z_abs:=PySem.W.mg_none_of X G zabs
  have z_max:=PySem.W.mg_none_of X G zmax
  have z_zip:=PySem.W.mg_none_of X G zzip
  have z_isinstance:=PySem.W.mg_none_of X G zisinstance
  have z_int:=PySem.W.mg_none_of X G zint
  have z_bool:=PySem.W.mg_none_of X G zbool
  have z_all:=PySem.W.mg_none_of X G zall
  have z_reversed:=PySem.W.mg_none_of X G zreversed
  have eNoFree:=Abi aNoFree
  have eNoPart:=Abi aNoPart
  have eCourtError:=Abi aCourtError
  have ep_times:=Abi a7
  have erepeated:=Abi a8
  have eshared:=Abi a35
  have xm_p_times:mg "p_times"=some (.ref (cA K "p_times")):=by rw [ep_times];exact PySem.W.mg_of X G a7
  have xk_NoFree:Wz K (cA K "NoFree"):=by rw [eNoFree];exact xkNoFree
  have xm_NoFree:mg "NoFree"=some (.ref (cA K "NoFree")):=by rw [eNoFree];exact PySem.W.mg_of X G aNoFree
  have xk_NoPart:Wz K (cA K "NoPart"):=by rw [eNoPart];exact xkNoPart
  have xm_NoPart:mg "NoPart"=some (.ref (cA K "NoPart")):=by rw [eNoPart];exact PySem.W.mg_of X G aNoPart
  have xc_PRIME:∃u,mg "PRIME"=some u/\RelV (V.int 2305843009213693951) u:=⟨_,PySem.W.mg_of X G xcPRIME,⟨_,rfl⟩⟩
  have xm_repeated:mg "repeated"=some (.ref (cA K "repeated")):=by rw [erepeated];exact PySem.W.mg_of X G a8
  have xm_shared:mg "shared"=some (.ref (cA K "shared")):=by rw [eshared];exact PySem.W.mg_of X G a35
  have xi_NoFree:Afb K (cA K "NoFree"):=by rw [eNoFree];exact⟨xigetattributeNoFree,xigetattrNoFree,xiclassNoFree,xiobjectNoFree,xiBaseExceptionNoFree⟩
  have xm_CourtError:mg "CourtError"=some (.ref (cA K "CourtError")):=by rw [eCourtError];exact PySem.W.mg_of X G aCourtError
  have ki_NoFree_CourtError:PySem.W.kitOne K (.ref (cA K "NoFree")) (.ref (cA K "CourtError"))=some true:=by rw [eNoFree];rw [eCourtError];exact kiNoFreeCourtError
  have ki_NoFree_NoPart:PySem.W.kitOne K (.ref (cA K "NoFree")) (.ref (cA K "NoPart"))=some false:=by rw [eNoFree];rw [eNoPart];exact kiNoFreeNoPart
  obtain⟨_,_,D1⟩:=Dc X G d1 ["_law_script","_law_k"] fun _ _ _ _ _ _ us hl=>match us,hl with | [_,_],_=>rfl
  obtain⟨_,_,D2⟩:=Dc X G d2 ["_law_weights"] fun _ _ _ _ _ _ us hl=>match us,hl with | [_],_=>rfl
  obtain⟨_,_,D3⟩:=Dc X G d3 ["_law_cell","_law_k"] fun _ _ _ _ _ _ us hl=>match us,hl with | [_,_],_=>rfl
  obtain⟨_,_,D4⟩:=Dc X G d4 ["_law_cell","_law_k"] fun _ _ _ _ _ _ us hl=>match us,hl with | [_,_],_=>rfl
  obtain⟨_,_,D5⟩:=Dc X G d5 ["_law_cell","_law_most"] fun _ _ _ _ _ _ us hl=>match us,hl with | [_,_],_=>rfl
  obtain⟨_,_,D6⟩:=Dc X G d6 ["_law_one","_law_other"] fun _ _ _ _ _ _ us hl=>match us,hl with | [_,_],_=>rfl
  obtain⟨_,_,D7⟩:=Dc X G d7 ["one","other"] fun _ _ _ _ _ _ us hl=>match us,hl with | [_,_],_=>rfl
  obtain⟨_,_,D8⟩:=Dc X G d8 ["start","one","many","product"] fun _ _ _ _ _ _ us hl=>match us,hl with | [_,_,_,_],_=>rfl
  obtain⟨_,_,D9⟩:=Dc X G d9 ["one","many"] fun _ _ _ _ _ _ us hl=>match us,hl with | [_,_],_=>rfl
  obtain⟨_,_,D10⟩:=Dc X G d10 ["_law_script"] fun _ _ _ _ _ _ us hl=>match us,hl with | [_],_=>rfl
  obtain⟨_,_,D11⟩:=Dc X G d11 ["one"] fun _ _ _ _ _ _ us hl=>match us,hl with | [_],_=>rfl
  obtain⟨_,_,D12⟩:=Dc X G d12 ["one","number"] fun _ _ _ _ _ _ us hl=>match us,hl with | [_,_],_=>rfl
  obtain⟨_,_,D13⟩:=Dc X G d13 ["one","other"] fun _ _ _ _ _ _ us hl=>match us,hl with | [_,_],_=>rfl
  obtain⟨_,_,D14⟩:=Dc X G d14 ["some"] fun _ _ _ _ _ _ us hl=>match us,hl with | [_],_=>rfl
  obtain⟨_,_,D15⟩:=Dc X G d15 ["one"] fun _ _ _ _ _ _ us hl=>match us,hl with | [_],_=>rfl
  obtain⟨_,_,D16⟩:=Dc X G d16 ["one"] fun _ _ _ _ _ _ us hl=>match us,hl with | [_],_=>rfl
  obtain⟨_,_,D17⟩:=Dc X G d17 ["one"] fun _ _ _ _ _ _ us hl=>match us,hl with | [_],_=>rfl
  obtain⟨_,_,D18⟩:=Dc X G d18 ["one"] fun _ _ _ _ _ _ us hl=>match us,hl with | [_],_=>rfl
  obtain⟨_,_,D19⟩:=Dc X G d19 ["weights"] fun _ _ _ _ _ _ us hl=>match us,hl with | [_],_=>rfl
  obtain⟨_,_,D20⟩:=Dc X G d20 ["one","m"] fun _ _ _ _ _ _ us hl=>match us,hl with | [_,_],_=>rfl
  obtain⟨_,_,D21⟩:=Dc X G d21 ["one","factor"] fun _ _ _ _ _ _ us hl=>match us,hl with | [_,_],_=>rfl
  obtain⟨_,_,D22⟩:=Dc X G d22 ["number","m"] fun _ _ _ _ _ _ us hl=>match us,hl with | [_,_],_=>rfl
  obtain⟨_,_,D23⟩:=Dc X G d23 ["one","t"] fun _ _ _ _ _ _ us hl=>match us,hl with | [_,_],_=>rfl
  obtain⟨_,_,D24⟩:=Dc X G d24 ["one","other","m"] fun _ _ _ _ _ _ us hl=>match us,hl with | [_,_,_],_=>rfl
  obtain⟨_,_,D25⟩:=Dc X G d25 ["one","other","m"] fun _ _ _ _ _ _ us hl=>match us,hl with | [_,_,_],_=>rfl
  obtain⟨_,_,D26⟩:=Dc X G d26 ["one","other","t"] fun _ _ _ _ _ _ us hl=>match us,hl with | [_,_,_],_=>rfl
  obtain⟨_,_,D27⟩:=Dc X G d27 ["one","other"] fun _ _ _ _ _ _ us hl=>match us,hl with | [_,_],_=>rfl
  obtain⟨_,_,D28⟩:=Dc X G d28 ["number","many"] fun _ _ _ _ _ _ us hl=>match us,hl with | [_,_],_=>rfl
  obtain⟨_,_,D29⟩:=Dc X G d29 ["one","many"] fun _ _ _ _ _ _ us hl=>match us,hl with | [_,_],_=>rfl
  obtain⟨_,_,D30⟩:=Dc X G d30 ["one","other"] fun _ _ _ _ _ _ us hl=>match us,hl with | [_,_],_=>rfl
  obtain⟨_,_,D31⟩:=Dc X G d31 ["one","other"] fun _ _ _ _ _ _ us hl=>match us,hl with | [_,_],_=>rfl
  obtain⟨_,_,D32⟩:=Dc X G d32 ["one","other"] fun _ _ _ _ _ _ us hl=>match us,hl with | [_,_],_=>rfl
  obtain⟨_,_,D33⟩:=Dc X G d33 ["first","second","known"] fun _ _ _ _ _ _ us hl=>match us,hl with | [_,_,_],_=>rfl
  obtain⟨_,_,D34⟩:=Dc X G d34 ["first","second"] fun _ _ _ _ _ _ us hl=>match us,hl with | [_,_],_=>rfl
  obtain⟨_,_,D35⟩:=Dc X G d35 ["one","other"] fun _ _ _ _ _ _ us hl=>match us,hl with | [_,_],_=>rfl
  obtain⟨_,_,D36⟩:=Dc X G d36 ["one","other","scaling"] fun _ _ _ _ _ _ us hl=>match us,hl with | [_,_,_],_=>rfl
  obtain⟨_,_,D37⟩:=Dc X G d37 ["one","other"] fun _ _ _ _ _ _ us hl=>match us,hl with | [_,_],_=>rfl
  obtain⟨_,_,D38⟩:=Dc X G d38 ["one"] fun _ _ _ _ _ _ us hl=>match us,hl with | [_],_=>rfl
  obtain⟨_,_,D39⟩:=Dc X G d39 ["one"] fun _ _ _ _ _ _ us hl=>match us,hl with | [_],_=>rfl
  obtain⟨_,_,D40⟩:=Dc X G d40 ["top","bottom"] fun _ _ _ _ _ _ us hl=>match us,hl with | [_,_],_=>rfl
  obtain⟨_,_,D41⟩:=Dc X G d41 ["one","other"] fun _ _ _ _ _ _ us hl=>match us,hl with | [_,_],_=>rfl
  obtain⟨_,_,D42⟩:=Dc X G d42 ["_law_one","_law_other"] fun _ _ _ _ _ _ us hl=>match us,hl with | [_,_],_=>rfl
  obtain⟨_,_,D43⟩:=Dc X G d43 ["one"] fun _ _ _ _ _ _ us hl=>match us,hl with | [_],_=>rfl
  obtain⟨_,_,D44⟩:=Dc X G d44 ["_law_found"] fun _ _ _ _ _ _ us hl=>match us,hl with | [_],_=>rfl
  obtain⟨_,_,D45⟩:=Dc X G d45 ["_law_found"] fun _ _ _ _ _ _ us hl=>match us,hl with | [_],_=>rfl
  obtain⟨_,_,D46⟩:=Dc X G d46 ["_law_whole_here","_law_found","_law_drawn"] fun _ _ _ _ _ _ us hl=>match us,hl with | [_,_,_],_=>rfl
  obtain⟨_,_,D47⟩:=Dc X G d47 ["one"] fun _ _ _ _ _ _ us hl=>match us,hl with | [_],_=>rfl
  obtain⟨_,_,D48⟩:=Dc X G d48 ["one"] fun _ _ _ _ _ _ us hl=>match us,hl with | [_],_=>rfl
  obtain⟨_,_,D49⟩:=Dc X G d49 [] fun _ _ _ _ _ _ us hl=>match us,hl with | [],_=>rfl
  obtain⟨_,_,D50⟩:=Dc X G d50 ["_law_found","_law_many"] fun _ _ _ _ _ _ us hl=>match us,hl with | [_,_],_=>rfl
  obtain⟨_,_,D51⟩:=Dc X G d51 ["number"] fun _ _ _ _ _ _ us hl=>match us,hl with | [_],_=>rfl
  obtain⟨_,_,D52⟩:=Dc X G d52 ["one","point"] fun _ _ _ _ _ _ us hl=>match us,hl with | [_,_],_=>rfl
  obtain⟨_,_,D53⟩:=Dc X G d53 ["one","point"] fun _ _ _ _ _ _ us hl=>match us,hl with | [_,_],_=>rfl
  have F54:=Aha (st:=Wn) l54 c54 k54
  have D54:Df K mg "law" Wn ["_law_script"] _ _:=⟨F54,F54.binds (ps:=["_law_script"]) fun _ _ _ _ _ _ us hl=>match us,hl with | [_],_=>rfl,PySem.W.mg_of X G a54⟩
  refine⟨PySem.W.fnOf "law" "law" (Ou Wn) (Lx Wn) (Ag Wn) .none kV dc pm an cd ct,fun s v=> .of_eq rfl,fun base py=> ?_⟩
  have C_q_cell_at:=Xb (P:=l.prog) (w:=w) (base:=base) D1 z_len
  have C_q_cut:=Agk (P:=l.prog) (w:=w) (base:=base) D2 z_list z_tuple
  have C_q_mixed:=Aba (P:=l.prog) (w:=w) (base:=base) D3
  have C_q_weight:=Zo (P:=l.prog) (w:=w) (base:=base) D4 C_q_mixed
  have C_q_poly:=Acr (P:=l.prog) (w:=w) (base:=base) D5 z_range C_q_cut C_q_weight
  have C_q_product:=Xn (P:=l.prog) (w:=w) (base:=base) D6 z_range z_len C_q_cut
  have C_p_times:=Abh (P:=l.prog) (w:=w) (base:=base) D7 z_enumerate z_tuple z_len
  have C_repeated:=Y6 (P:=l.prog) (w:=w) (base:=base) D8 xm_p_times C_p_times
  have C_power:=Afv (P:=l.prog) (w:=w) (base:=base) D9 xm_p_times C_repeated
  have C_q_built:=Abz (P:=l.prog) (w:=w) (base:=base) D10 z_range z_len C_q_cell_at C_q_poly C_q_product C_power
  have CE_refuse_nought:=Sq (P:=l.prog) (w:=w) (base:=base) D11 xk_NoFree xm_NoFree
  have C_shrunk:=Acv (P:=l.prog) (w:=w) (base:=base) D12 z_tuple py
  have C_divisor:=Abs (P:=l.prog) (w:=w) (base:=base) D13 z_abs
  have C_divisor_of:=Vw (P:=l.prog) (w:=w) (base:=base) D14 C_divisor
  have C_content:=Aax (P:=l.prog) (w:=w) (base:=base) D15 C_divisor_of
  have C_unit:=Ajp (P:=l.prog) (w:=w) (base:=base) D16 C_content
  have C_plain:=Agh (P:=l.prog) (w:=w) (base:=base) D17 C_shrunk C_unit
  have C_degree:=Ac6 (P:=l.prog) (w:=w) (base:=base) D18 z_len
  have C_poly:=Aik (P:=l.prog) (w:=w) (base:=base) D19 z_len z_tuple
  have C_by_number:=X7 (P:=l.prog) (w:=w) (base:=base) D20 C_poly
  have C_scaled:=Aem (P:=l.prog) (w:=w) (base:=base) D21 z_tuple
  have CE_inverse_by:=Vm (P:=l.prog) (w:=w) (base:=base) D22 xk_NoPart xm_NoPart
  have C_inverse_by:=CE_inverse_by.calm (Us K)
  have C_single:=Adv (P:=l.prog) (w:=w) (base:=base) D23 C_by_number C_scaled C_inverse_by
  have CE_m_parted:=Zc (P:=l.prog) (w:=w) (base:=base) D24 z_list z_range z_max z_len z_enumerate xk_NoPart xm_NoPart CE_inverse_by C_by_number C_poly C_degree
  have C_m_parted:=CE_m_parted.calm (V7 K)
  have C_m_rest:=Ac7 (P:=l.prog) (w:=w) (base:=base) D25 C_m_parted
  have C_m_shared:=Yv (P:=l.prog) (w:=w) (base:=base) D26 C_by_number C_single C_m_rest
  have C_surely_apart:=Uu (P:=l.prog) (w:=w) (base:=base) D27 xc_PRIME C_degree C_m_shared
  have C_whole_power:=U4 (P:=l.prog) (w:=w) (base:=base) D28 C_power
  have C_raised:=Ad9 (P:=l.prog) (w:=w) (base:=base) D29
  have C_p_plus:=Ac8 (P:=l.prog) (w:=w) (base:=base) D30 z_list z_enumerate z_len C_poly
  have C_p_minus:=Abe (P:=l.prog) (w:=w) (base:=base) D31 C_p_plus C_scaled
  have C_scaled_division:=Qh (P:=l.prog) (w:=w) (base:=base) D32 z_range z_len C_raised C_p_plus C_p_minus C_degree C_poly C_scaled C_p_times
  have C_next_row:=Zg (P:=l.prog) (w:=w) (base:=base) D33 z_zip z_tuple C_whole_power C_scaled_division C_shrunk C_degree C_p_minus C_scaled C_p_times
  have C_last_row:=Y4 (P:=l.prog) (w:=w) (base:=base) D34 py C_degree C_next_row C_whole_power
  have C_shared:=Acq (P:=l.prog) (w:=w) (base:=base) D35 C_surely_apart C_plain C_last_row
  have CE_long_division:=R8 (P:=l.prog) (w:=w) (base:=base) D36 z_list z_range z_max z_len z_abs z_enumerate py xk_NoPart xm_NoPart C_poly C_divisor C_degree
  have CE_whole_part:=Vo (P:=l.prog) (w:=w) (base:=base) D37 CE_long_division
  have C_whole_part:=CE_whole_part.calm (Tw K)
  have C_derived:=Abm (P:=l.prog) (w:=w) (base:=base) D38 z_tuple z_enumerate
  have CE_layers:=Acn (P:=l.prog) (w:=w) (base:=base) D39 xm_repeated CE_refuse_nought C_plain C_shared CE_whole_part C_p_minus C_derived C_degree C_whole_part
  have C_layers:=CE_layers.calm (Zk K)
  have CE_fraction:=Zq (P:=l.prog) (w:=w) (base:=base) D40 py xm_shared xk_NoPart xm_NoPart C_divisor
  have C_fraction:=CE_fraction.calm (V5 K)
  have CE_parted:=Ac5 (P:=l.prog) (w:=w) (base:=base) D41 CE_long_division
  have C_parted:=CE_parted.calm (Yt K)
  have C_q_divides:=Yc (P:=l.prog) (w:=w) (base:=base) D42 C_parted
  have CE_free_part:=Yj (P:=l.prog) (w:=w) (base:=base) D43 CE_refuse_nought C_plain CE_whole_part C_shared C_derived
  have C_free_part:=CE_free_part.calm (Ux K)
  have C_q_whole:=Aa0 (P:=l.prog) (w:=w) (base:=base) D44 z_isinstance z_int z_bool
  have C_q_is_poly:=Xh (P:=l.prog) (w:=w) (base:=base) D45 z_isinstance z_tuple z_all C_q_whole
  have C_q_layers_right:=Q9 (P:=l.prog) (w:=w) (base:=base) D46 z_isinstance z_tuple z_len C_q_product C_q_divides C_power C_plain C_free_part C_q_is_poly C_q_whole C_shared C_derived
  have CE_free_paper:=V3 (P:=l.prog) (w:=w) (base:=base) D47 CE_free_part
  have C_is_free:=Aa7 (P:=l.prog) (w:=w) (base:=base) D48 C_degree C_shared C_derived
  have C_q_refused:=Xq (P:=l.prog) (w:=w) (base:=base) D49 z_int z_isinstance xk_NoFree xm_NoFree xi_NoFree xm_CourtError ki_NoFree_CourtError xm_NoPart ki_NoFree_NoPart CE_free_part CE_free_paper CE_layers C_is_free
  have C_q_from:=Acx (P:=l.prog) (w:=w) (base:=base) D50 C_q_product
  have C_sign_of_whole:=Sd (P:=l.prog) (w:=w) (base:=base) D51
  have C_whole_value:=Uy (P:=l.prog) (w:=w) (base:=base) D52 z_reversed
  have C_sign_at:=Abx (P:=l.prog) (w:=w) (base:=base) D53 C_sign_of_whole C_whole_value
  exact Akx (P:=l.prog) (w:=w) (base:=base) D54 z_range z_isinstance z_list z_all C_q_built C_layers C_q_poly C_q_cell_at C_fraction C_q_layers_right C_q_refused C_is_free C_q_divides C_free_part C_q_from C_sign_at
theorem walk {l:PySem.W.OpenLaw}{q:Program}{loose:List Str}{XP:(Str->Option Value)->Heap->Prop}{YP:World->Heap->Prop}{d:DefRec}{K:Params->PySem.W.Frag} (hn:l.most=some 63) (hdf:d.params.defaults=[]) (him:PyProof.Rows.importsNone q=true) (htr:l.prog.given.tree=none)
    (hY:∀(w:World) (h:Heap),YP w h->(K w.params).In h)
    (F:∀(w:World) (mg:Str->Option Value) (fa:Addr) (h:Heap),(K w.params).In h->h.Ns mainGlobals mg->mg d.name=some (.ref fa)->
      ∃fd:FuncData,(∀(s:Shared) (u:Value),BindsTo s fd ⟨[u],[]⟩ [("_law_script",u)])/\∀base:Heap,Pyl l.prog base->Uw l.prog w (K w.params) mg base CX0 45 fa fd ["_law_script"] (Agn (K w.params))):
    PySem.W.WalkO q loose XP YP l.row.toRowW d [] (fun f vs=>PySem.call f vs):=
  L2.Ag0 (n:=63) (k:=45) (x:="_law_script") (sp:=Agn) hn (by decide) hdf ⟨rfl,by decide,by decide⟩ him htr hY F (fun _ _ a ns hl hS=>⟨a,ns,rfl,hS,hl,fun _=>rfl⟩) fun _ _ _ _ z=>z
end Z
namespace PySem.W.Fast
def tw10039269446376774155:=()
def tw10092808492452854319:=()
def tw10114648864987050743:=()
def tw10126856787750597828:=()
def tw10182948164439960480:=()
def tw10293559787986632227:=()
def tw10394887064567518462:=()
def tw10416003896719272427:=()
def tw10493541013990677830:=()
def tw10605240304325279179:=()
def tw10797891407405450361:=()
def tw10827630068015171249:=()
def tw10845194574799438407:=()
def tw10888003174565011591:=()
def tw1089748478157453410:=()
def tw10983022056340089389:=()
def tw11000167022466490630:=()
def tw11005062265198122985:=()
def tw11076216460201288071:=()
def tw1111185386133118874:=()
def tw11118906560168474856:=()
def tw11136786823274383270:=()
def tw11160291718457794946:=()
def tw11261335435711325502:=()
def tw1134360608362924686:=()
def tw11380413298671832511:=()
def tw11407870944629320719:=()
def tw11433052225290802205:=()
def tw11454873712539474811:=()
def tw11459560722661398815:=()
def tw11469809368524757067:=()
def tw11549030549915158589:=()
def tw11555514684077826651:=()
def tw11556511070162218796:=()
def tw1158364735889378220:=()
def tw1160380095610585413:=()
def tw11675241878287376849:=()
def tw11686084644413524349:=()
def tw11762214889865555714:=()
def tw11833977514476994324:=()
def tw11887421341384539127:=()
def tw12070086320244213695:=()
def tw12229532011725932703:=()
def tw12273091247733940729:=()
def tw12321223827108769416:=()
def tw12330740859259035506:=()
def tw12353485992326513660:=()
def tw1237569488284368121:=()
def tw12377576045691605592:=()
def tw12400628775644545991:=()
def tw12424963823741584793:=()
def tw12443464691617134997:=()
def tw1246403193177510191:=()
def tw12514500569552519444:=()
def tw12656794667937518071:=()
def tw12727393637142234607:=()
def tw12750304322247752198:=()
def tw12774278732811350658:=()
def tw12841464042934011010:=()
def tw12858222168727178891:=()
def tw12890163284179520614:=()
def tw12914701056779810079:=()
def tw12926106600875001075:=()
def tw13010003304188755584:=()
def tw13038714606656472261:=()
def tw13108798258271655772:=()
def tw13165295905226648021:=()
def tw13205247837599159162:=()
def tw1320802990218636295:=()
def tw13240514669958518466:=()
def tw13278585279658207409:=()
def tw13296205635459465645:=()
def tw13447765388389290971:=()
def tw13459407906005948392:=()
def tw13472452223303913484:=()
def tw13482111146740515144:=()
def tw13540696095642615405:=()
def tw13544233676200925364:=()
def tw13545260182835027396:=()
def tw13545364101207157479:=()
def tw13545553951495344865:=()
def tw13606424900202421137:=()
def tw1366819746322998904:=()
def tw13716371162729257209:=()
def tw1373289586903839181:=()
def tw1375128922655514188:=()
def tw13763618486252274434:=()
def tw14031511769094152061:=()
def tw14045361080235592745:=()
def tw14062574457456624974:=()
def tw14151178246816966836:=()
def tw14184459804492762493:=()
def tw14214250269428219054:=()
def tw14225175869744999642:=()
def tw14234052055948158031:=()
def tw1426450591798461512:=()
def tw14274194847484392184:=()
def tw14305440801381599598:=()
def tw1434106587016310240:=()
def tw14399651702935978893:=()
def tw14465706607084959636:=()
def tw14574743899759956035:=()
def tw14580033444821649333:=()
def tw14587964302114209014:=()
def tw14612210846584944237:=()
def tw14756014551173416879:=()
def tw14816695160125198674:=()
def tw1483578592491974251:=()
def tw14852152831714026117:=()
def tw14878319632202143422:=()
def tw14887316747554193343:=()
def tw1489362294322420433:=()
def tw15086273188594017632:=()
def tw15108875811717223436:=()
def tw1521357748920508286:=()
def tw15245434181086580872:=()
def tw15286364017103504571:=()
def tw15377007568400626454:=()
def tw15415024131756851815:=()
def tw15421777252553024369:=()
def tw15480973966208769094:=()
def tw15497957795412198294:=()
def tw15532091849836789470:=()
def tw1554414182575695922:=()
def tw15554015208873594467:=()
def tw1568938088301430265:=()
def tw1573670761115097301:=()
def tw15771149715639182993:=()
def tw15773541224810202530:=()
def tw15776000111353109333:=()
def tw15785977228209137408:=()
def tw15792390831191676091:=()
def tw15863989505728235313:=()
def tw15943168853666545696:=()
def tw15952259150573097147:=()
def tw15971175059824656604:=()
def tw16011606443005739041:=()
def tw16013787632363005776:=()
def tw16033224405089470703:=()
def tw16037298763624986782:=()
def tw16053099409377665656:=()
def tw16076879604827531805:=()
def tw1607908731921710331:=()
def tw16102198336052935577:=()
def tw16112841152588468830:=()
def tw16134318338885569032:=()
def tw16168313657878299899:=()
def tw16173953894484018015:=()
def tw16214258389731067460:=()
def tw16497295547158763360:=()
def tw1654137066914995987:=()
def tw16544596042931187766:=()
def tw16688998046456394724:=()
def tw16705903449096737186:=()
def tw1675925587610239493:=()
def tw16779293541593345399:=()
def tw16870018671738704456:=()
def tw16905699215842434054:=()
def tw16917348368257751829:=()
def tw16988224117426505437:=()
def tw16995012668802560717:=()
def tw17013989358624322191:=()
def tw17022083373992354718:=()
def tw17052051589649225520:=()
def tw17078204417494649701:=()
def tw17095191019452812845:=()
def tw17131805491844612960:=()
def tw17136706346173774107:=()
def tw17159966726446993095:=()
def tw1719801370237799647:=()
def tw17207144925788753378:=()
def tw1724133337027061046:=()
def tw17244536244050331478:=()
def tw17275075291577470763:=()
def tw17304815554369506028:=()
def tw1733151023239867378:=()
def tw17426876929630657975:=()
def tw17434099338394506839:=()
def tw17444768456109779391:=()
def tw17508849803180676176:=()
def tw17512258167378265852:=()
def tw17513105564151640235:=()
def tw17565856474948281190:=()
def tw17576337390662852249:=()
def tw17679203903152020953:=()
def tw17700061992994268265:=()
def tw1771574718124778376:=()
def tw17828816258774510946:=()
def tw17838834356663001542:=()
def tw17840323381401261955:=()
def tw17869352930090031300:=()
def tw17894017088107796912:=()
def tw18004123828379188692:=()
def tw18041928250633597133:=()
def tw18085733055274801140:=()
def tw18126295207498757750:=()
def tw1813118157068176299:=()
def tw18137193335163666221:=()
def tw18139998981044707080:=()
def tw18265087120118833578:=()
def tw18353262441960394597:=()
def tw1998070480917474603:=()
def tw1998413281533303816:=()
def tw2035673557696178200:=()
def tw208671982871772657:=()
def tw2091203517516631076:=()
def tw2106509933624322061:=()
def tw2173560643586957502:=()
def tw2261221836743147368:=()
def tw2267239949486691565:=()
def tw2301540478355532342:=()
def tw2340315209851488796:=()
def tw2432750614668680763:=()
def tw2555948439186558820:=()
def tw258768462771006583:=()
def tw2591953585345238586:=()
def tw2758927157353772950:=()
def tw2821388640799710886:=()
def tw2841350326990262081:=()
def tw2845344118121209622:=()
def tw2876213780269756403:=()
def tw2895234705448369835:=()
def tw2905178663848357059:=()
def tw2915806764719975480:=()
def tw2925848592471713991:=()
def tw297852459987851208:=()
def tw298747846517082595:=()
def tw3010237181740388019:=()
def tw3166107423603135898:=()
def tw3397717793205343055:=()
def tw3403921440824510994:=()
def tw3412605257184592933:=()
def tw3416956916559142148:=()
def tw3491747649876011001:=()
def tw3875079328149252205:=()
def tw3879666475421793174:=()
def tw3887514224060452632:=()
def tw3903008451519560982:=()
def tw3979079876615063689:=()
def tw4005426963880716749:=()
def tw4006053418744699019:=()
def tw4029686497376567871:=()
def tw4031694864526859083:=()
def tw4061225377539727728:=()
def tw4073336685084338492:=()
def tw4099890349943282059:=()
def tw4113415142663795454:=()
def tw4114416433922001323:=()
def tw4135177900577463542:=()
def tw4196638148422554382:=()
def tw4264429535082389046:=()
def tw4319454268975175443:=()
def tw4343222089340730022:=()
def tw43481719408899328:=()
def tw4371049249338545302:=()
def tw4407936158155467362:=()
def tw4408527704399467228:=()
def tw4412623729065553961:=()
def tw445587848581383092:=()
def tw4530998526179837459:=()
def tw4538937172661214234:=()
def tw4732211961867105169:=()
def tw4734822725432442754:=()
def tw4862027831237195936:=()
def tw4897329943464323141:=()
def tw4900152787562328520:=()
def tw4985114293563088630:=()
def tw4993007764302606699:=()
def tw500974013221014094:=()
def tw5067794351186599077:=()
def tw5076169539968620015:=()
def tw5160633157778108830:=()
def tw5259744441527596891:=()
def tw5289349031698401840:=()
def tw5388277297903867452:=()
def tw5419724888435616754:=()
def tw5434728319149108840:=()
def tw5501348847581552447:=()
def tw5519530537405661726:=()
def tw552709749181932900:=()
def tw5659524698649593417:=()
def tw577270945048750996:=()
def tw5786069589138588009:=()
def tw5819816840196872916:=()
def tw5830077338848468947:=()
def tw5865199532088937655:=()
def tw5910280050365523230:=()
def tw5921557162219835873:=()
def tw5930883154006437878:=()
def tw5950053455153658357:=()
def tw6036793979733636312:=()
def tw6039782540903874291:=()
def tw6101667611406606210:=()
def tw6104688809237268397:=()
def tw6118853702647003528:=()
def tw6165839320079693298:=()
def tw6169935335168700426:=()
def tw6239702003256978935:=()
def tw6341447796713277564:=()
def tw6366346375004431556:=()
def tw6396385346515437033:=()
def tw6430952406531429197:=()
def tw6445310122082856238:=()
def tw6537142970896402855:=()
def tw6588019852884286794:=()
def tw66425371002915822:=()
def tw6704193674974340552:=()
def tw6747411129434311355:=()
def tw6871404811056995961:=()
def tw6894015575453331728:=()
def tw6917154212273345286:=()
def tw6942246105269049074:=()
def tw6972550023570222071:=()
def tw7054030020014058912:=()
def tw7116953036122943646:=()
def tw7191634069024842738:=()
def tw7231656737749537087:=()
def tw7231663815309248399:=()
def tw7239356382834098149:=()
def tw7246221882899659351:=()
def tw729563729681865248:=()
def tw732599166366002107:=()
def tw7345343372688046887:=()
def tw7441636152343964107:=()
def tw7589195607690132310:=()
def tw7613693238082080110:=()
def tw7673306808794222175:=()
def tw7734845377947480694:=()
def tw7736597354357123930:=()
def tw7752959236881044673:=()
def tw7806127302391355070:=()
def tw7809044528185583131:=()
def tw7811289975402763146:=()
def tw7893185097027715823:=()
def tw7902508412793249480:=()
def tw7940923594193256334:=()
def tw7957824881995171737:=()
def tw7970662790499086357:=()
def tw8036158011733502118:=()
def tw8137166960044524294:=()
def tw8140681941211005748:=()
def tw8280383741683162882:=()
def tw8365003223062566387:=()
def tw8370074965100050489:=()
def tw8408559309033017673:=()
def tw8452790053121809381:=()
def tw8471493741292556523:=()
def tw8496339223516906193:=()
def tw8523019703615661121:=()
def tw8716727880321555085:=()
def tw881517880461781485:=()
def tw8832508159574926551:=()
def tw883345723067358311:=()
def tw8863805484607913663:=()
def tw8896523637873843837:=()
def tw8917930930994328503:=()
def tw8953427542601379945:=()
def tw8956073521915259500:=()
def tw8985010959606423604:=()
def tw9132861015707428892:=()
def tw9216401836781083637:=()
def tw9269485102745178437:=()
def tw9298569192358749911:=()
def tw931698578058166023:=()
def tw9329204611069799724:=()
def tw9379750786212477363:=()
def tw9405343035600622659:=()
def tw9471186119396985971:=()
def tw9533860596003791367:=()
def tw9586705596154567824:=()
def tw9650492578243329602:=()
def tw9676674551833740116:=()
def tw9684182106527274510:=()
def tw9695869985907015405:=()
def tw9809432537722664791:=()
def tw9866913861022525304:=()
def tw9904874979084927064:=()
def tw9909512709940443067:=()
def tw9932523680705671126:=()
def tw994446607058711960:=()
def tw9963527344738481538:=()
def tw9977114826461081428:=()
def tw9987040989401343638:=()
def tw7703217364124283066:=()
end PySem.W.Fast
open PySem PySem.W PyProof.Rows
set_option maxRecDepth 100000 in
set_option maxHeartbeats 0 in
theorem PySem.Challenge.cw_rootcourt_k15_whole_layers_holds : PySem.Challenge.rw_rootcourt_k15_whole_layers.Holds := by
  w_on;o_law;k_head;(case hw=>w_witness2)
  k_fill
  refine Z.walk (l:=PySem.Challenge.rw_rootcourt_k15_whole_layers) rfl rfl (by decide+kernel) rfl (fun w h Y=>PySem.W.kIn_of Y) ?F
  case F=>
    intro w mg fa h KX G hmg
    refine' Z.all_mk KX G hmg ?d1 ?d2 ?d3 ?d4 ?d5 ?d6 ?d7 ?d8 ?d9 ?d10 ?d11 ?d12 ?d13 ?d14 ?d15 ?d16 ?d17 ?d18 ?d19 ?d20 ?d21 ?d22 ?d23 ?d24 ?d25 ?d26 ?d27 ?d28 ?d29 ?d30 ?d31 ?d32 ?d33 ?d34 ?d35 ?d36 ?d37 ?d38 ?d39 ?d40 ?d41 ?d42 ?d43 ?d44 ?d45 ?d46 ?d47 ?d48 ?d49 ?d50 ?d51 ?d52 ?d53 ?d54 ?aNoFree ?aNoPart ?aCourtError ?xkNoFree ?xkNoPart ?xcPRIME ?xigetattributeNoFree ?xigetattrNoFree ?xiclassNoFree ?xiobjectNoFree ?xiBaseExceptionNoFree ?kiNoFreeCourtError ?kiNoFreeNoPart ?zlen ?zlist ?ztuple ?zrange ?zenumerate ?zabs ?zmax ?zzip ?zisinstance ?zint ?zbool ?zall ?zreversed
    (case aNoFree=>k_is);(case aNoPart=>k_is);(case aCourtError=>k_is);(case xkNoFree=>k_exc);(case xkNoPart=>k_exc);(case xcPRIME=>k_is);(case xigetattributeNoFree=>k_is);(case xigetattrNoFree=>k_is);(case xiclassNoFree=>k_is);(case xiobjectNoFree=>k_is);(case xiBaseExceptionNoFree=>k_is);(case kiNoFreeCourtError=>kit_is);(case kiNoFreeNoPart=>kit_is)
    all_goals first | k_is | exact⟨_,_,_,_,_,_,_,_,_,_,by k_is,by k_is,by k_is,by k_is⟩
