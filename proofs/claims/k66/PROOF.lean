import PyProof.Rows.All
import Wide.All
import OpenK.AllK
import Wide.FinOn
import Lean
import PyProof.EqAt
import PyProof.EqKinds
import PyProof.TupleCall
import PySem.Challenge.RW_rootcourt_k66_signs_of_root_sums
set_option maxHeartbeats 4000000
set_option Elab.async false
set_option linter.all false
set_option maxRecDepth 100000
namespace L2
open PySem PySem.Spec PyProof.Rows
abbrev Key:=Sum Int Str
def Uz:Key->Value->Bool
  | .inl k,v=>Value.isInt k v
  | .inr x,v=>Value.isStrOf x v
def Afi (w:World):Key->Int
  | .inl k=>hashInt k
  | .inr x=>hashStr w x
theorem Ca:∀ {k:Key}{v:Value},Uz k v=true->(∃i t,k=Sum.inl i/\v=Value.int i t)\/(∃x t,k=Sum.inr x/\v=Value.str x t)
  | .inl i,v,h=>by
    obtain⟨t,e⟩:=Value.isInt_shape (k:=i) (v:=v) h
    exact .inl ⟨i,t,rfl,e⟩
  | .inr x,v,h=>by
    obtain⟨t,e⟩:=Value.isStrOf_shape (x:=x) (v:=v) h
    exact .inr ⟨x,t,rfl,e⟩
theorem Wx (i:Int) (t:Tok):Uz (.inl i) (.int i t)=true:=by simp [Uz,Value.isInt]
theorem V2 (x:Str) (t:Tok):Uz (.inr x) (.str x t)=true:=by simp [Uz,Value.isStrOf]
theorem Acf (a b:Int):decide ((Sum.inl a:Key)=Sum.inl b)=(a==b):=by
  by_cases e:a=b
  . subst e;simp
  . have h:¬(Sum.inl a:Key)=Sum.inl b:=fun q=>e (Sum.inl.inj q)
    rw [decide_eq_false h]
    exact(beq_eq_false_iff_ne.mpr e).symm
theorem Ac2 (a b:Str):decide ((Sum.inr a:Key)=Sum.inr b)=decide (a=b):=by
  by_cases e:a=b
  . subst e;simp
  . have h:¬(Sum.inr a:Key)=Sum.inr b:=fun q=>e (Sum.inr.inj q)
    rw [decide_eq_false h,decide_eq_false e]
theorem Adb (a:Int) (b:Str):decide ((Sum.inl a:Key)=Sum.inr b)=false:=decide_eq_false (fun q=>nomatch q)
theorem Ack (a:Str) (b:Int):decide ((Sum.inr a:Key)=Sum.inl b)=false:=decide_eq_false (fun q=>nomatch q)
def Cm (prog:Program) (w:World):PySem.KeyKind prog w Key where
  is:=Uz
  hash:=Afi w
  inj:=fun v a b ha hb=>by
    rcases Ca ha with⟨i,t,rfl,rfl⟩ | ⟨x,t,rfl,rfl⟩
    . rcases Ca hb with⟨j,u,rfl,e⟩ | ⟨y,u,rfl,e⟩
      . injection e with e1 _;rw [e1]
      . exact nomatch e
    . rcases Ca hb with⟨j,u,rfl,e⟩ | ⟨y,u,rfl,e⟩
      . exact nomatch e
      . injection e with e1 _;rw [e1]
  byValue:=fun k v h=>by
    rcases Ca h with⟨i,t,rfl,rfl⟩ | ⟨x,t,rfl,rfl⟩<;>rfl
  pyHash:=fun hv h=>by
    rcases Ca hv with⟨i,t,rfl,rfl⟩ | ⟨x,t,rfl,rfl⟩
    . exact wpAny_pyHash_int h
    . exact wpAny_pyHash_str h
  eqBool:=fun hu hv h=>by
    rcases Ca hu with⟨i,t,rfl,rfl⟩ | ⟨x,t,rfl,rfl⟩
    . rcases Ca hv with⟨j,u,rfl,rfl⟩ | ⟨y,u,rfl,rfl⟩
      . rw [Acf]at h;exact wpAny_eqBool_int h
      . rw [Adb]at h;exact SeqAt.EqAt.int_str i t y u _ _ _ _ h
    . rcases Ca hv with⟨j,u,rfl,rfl⟩ | ⟨y,u,rfl,rfl⟩
      . rw [Ack]at h;exact SeqAt.EqAt.str_int x t j u _ _ _ _ h
      . rw [Ac2]at h;exact wpAny_eqBool_str h
  «strs» :=fun k x t v h=>by
    rcases Ca h with⟨i,u,rfl,e⟩ | ⟨y,u,rfl,e⟩
    . exact nomatch e
    . injection e with e1 _
      subst e1
      cases v<;>rfl
theorem Q6 (prog:Program) (w:World) (i:Int) (t:Tok):(Cm prog w).is (.inl i) (.int i t)=true:=Wx i t
theorem Rf (prog:Program) (w:World) (x:Str) (t:Tok):(Cm prog w).is (.inr x) (.str x t)=true:=V2 x t
end L2
namespace L2
open PySem PySem.Spec PyProof.Rows
inductive V where
  | non | bl (b:Bool) | int (i:Int) | str (x:Str) | byt (b:Array UInt8) | flt (b:UInt64) | ref (a:Addr) | ty (n:String)
  deriving DecidableEq
def RelV:V->Value->Prop
  | .non,u=>u=Value.none
  | .bl b,u=>u=Value.bool b
  | .int i,u=>∃t,u=Value.int i t
  | .str x,u=>∃t,u=Value.str x t
  | .byt b,u=>∃t,u=Value.bytes b t
  | .flt b,u=>∃t,u=Value.float b t
  | .ref a,u=>u=Value.ref a
  | .ty n,u=>u=Value.type n
abbrev Vals:List V->List Value->Prop:=Paired RelV
theorem Vals.length {xs:List V}{us:List Value} (r:Vals xs us):xs.length=us.length:=Paired.length r
theorem Vals.get:∀ {xs:List V}{us:List Value}{i:Nat}{x:V},Vals xs us->xs[i]? =some x->∃u,us[i]? =some u/\RelV x u
  | _,_,_,_,.nil,e=>by simp at e
  | _,_,0,_,.cons r _,e=>by simp at e;subst e;exact⟨_,rfl,r⟩
  | _,_,i+1,x,.cons _ t,e=>by
    obtain⟨u,h1,h2⟩:=Vals.get (i:=i) (x:=x) t (by simpa using e)
    exact⟨u,by simpa using h1,h2⟩
theorem Vals.set {x:V}{u:Value} (r:RelV x u):∀ {xs:List V}{us:List Value} (i:Nat),Vals xs us->Vals (xs.set i x) (us.set i u)
  | _,_,_,.nil=> .nil
  | _,_,0,.cons _ t=> .cons r t
  | _,_,i+1,.cons q t=> .cons q (Vals.set r i t)
theorem Vals.append:∀ {xs ys:List V}{us ws:List Value},Vals xs us->Vals ys ws->Vals (xs++ys) (us++ws)
  | _,_,_,_,.nil,s=>s
  | _,_,_,_,.cons r t,s=> .cons r (Vals.append t s)
theorem Vals.take:∀ {xs:List V}{us:List Value} (n:Nat),Vals xs us->Vals (xs.take n) (us.take n)
  | _,_,0,_=> .nil
  | _,_,_+1,.nil=> .nil
  | _,_,n+1,.cons r t=> .cons r (Vals.take n t)
theorem Vals.drop:∀ {xs:List V}{us:List Value} (n:Nat),Vals xs us->Vals (xs.drop n) (us.drop n)
  | _,_,0,r=>r
  | _,_,_+1,.nil=> .nil
  | _,_,n+1,.cons _ t=>Vals.drop n t
def Ur:Option V->Option Value->Prop
  | some v,some u=>RelV v u
  | none,none=>True
  | _,_=>False
def KV {κ:Type}:List (κ × V)->List (κ × Value)->Prop:=Paired fun(p:κ × V) (q:κ × Value)=>p.1=q.1/\RelV p.2 q.2
def kV:Key->V
  | .inl i=> .int i
  | .inr x=> .str x
inductive HO where
  | lst (xs:List V)
  | tup (xs:List V)
  | dK (kvs:List (Key × V)) | dT (kvs:List (List Key × V))
  | set (S:Int->Bool) (n:Nat)
  | ins (C dx:Addr) (fs:List (Str × V))
  | own (x:Addr)
  | xd (fs:List (Str × V))
  | met (f x:Addr)
  | rng (lo hi:Int)
  | frz (o:Obj) (u:HO)
  | tbl (ps:Array Value)
  | ext (φ:Heap->Prop)
abbrev Hp:=Addr->Option HO
def upd (H:Hp) (a:Addr) (o:HO):Hp:=fun b=>if b=a then some o else H b
theorem Ar {H:Hp}{a:Addr}{o:HO}:upd H a o a=some o:=by unfold upd;rw [if_pos rfl]
theorem Bs {H:Hp}{a b:Addr}{o:HO} (h:b≠a):upd H a o b=H b:=by unfold upd;rw [if_neg h]
theorem Aeq {H:Hp}{a b:Addr}{o u:HO} (h:H a=some o) (h':H b=some u) (d:o≠u):a≠b:=by
  intro e;subst e;rw [h]at h';exact d (Option.some.inj h')
theorem Cg {H:Hp}{a b:Addr}{o:HO} (h:H a=some o) (h':H b=none):a≠b:=by
  intro e;subst e;rw [h]at h';cases h'
section
variable (P:Program) (w:World)
def Dl (H:Hp) (h:Heap) (a:Addr):HO->Prop
  | .lst xs=>xs.length<=sizeLine/\∃(its:List Value) (n:Nat),Vals xs its/\h.get? a=some { cls:= .type "list",data:= .seq its.toArray n}
  | .tup xs=>xs.length<=sizeLine/\∃its:List Value,Vals xs its/\IsTup h a its.toArray
  | .dK kvs=>kvs.length<=sizeLine/\(a==sysModules)=false/\∃vs,KV kvs vs/\h.DictOf (Cm P w) a vs
  | .dT kvs=>kvs.length<=sizeLine/\(a==sysModules)=false/\∃xs:List (List Key × Addr × Value),
      Paired (fun(p:List Key × V) (q:List Key × Addr × Value)=>p.1=q.1/\H q.2.1=some (.tup (p.1.map kV))/\RelV p.2 q.2.2) kvs xs/\
      ∃o es ep,h.get? a=some o/\o.ExactDict/\o.data= .dict es ep/\es.toList=xs.map (entryOfKey (tupleKind (Cm P w)))/\(xs.map (·.1)).Nodup
  | .set S n=>h.SetOf (intKind P w) a S n
  | .ins C dx fs=>H dx=some (.own a)/\fs.length<=1000/\dx≠a/\h.get? a=some (PySem.W.instObj C dx)/\
      ∃mA,h.Ns1 dx mA/\(∀f,Ur (fs.lookup f) (mA f))/\PySem.Within mA (fs.map (·.1))
  | .own _=>∃o,h.get? a=some o
  | .xd fs=>∃mA,h.Ns1 a mA/\∀f,Ur (fs.lookup f) (mA f)
  | .rng lo hi=>∃t u v,h.get? a=some { cls:= .type "range",data:= .fields #[.int lo t,.int hi u,.int 1 v]}
  | .frz o u=>h.get? a=some o/\Dl H h a u
  | .tbl ps=>h.get? a=some { cls:= .none,data:= .fields ps}
  | .met f x=>h.get? a=some (PySem.W.methodObj (.ref f) (.ref x))
  | .ext φ=>φ h/\(∃o,h.get? a=some o)/\∀h1 h2:Heap,φ h1->(∀o,h1.get? a=some o->h2.get? a=some o)->φ h2
def HOk (H:Hp) (h:Heap):Prop:=∀a o,H a=some o->Dl P w H h a o
end
section
variable {P:Program}{w:World}{H H':Hp}{h h':Heap}{a:Addr}{o:HO}
theorem Dl.lt (x:Dl P w H h a o):a<h.objs.size:=by
  cases o with
  | lst xs=>obtain⟨_,_,_,_,e⟩:=x;exact Heap.lt_size e
  | tup xs=>obtain⟨_,_,_,p⟩:=x;exact p.lt
  | dK kvs=>obtain⟨_,_,_,_,o,_,_,e,_⟩:=x;exact Heap.lt_size e
  | dT kvs=>obtain⟨_,_,_,_,o,_,_,e,_⟩:=x;exact Heap.lt_size e
  | set S n=>obtain⟨o,_,_,_,e,_⟩:=x;exact Heap.lt_size e
  | ins C dx fs=>obtain⟨_,_,_,e,_⟩:=x;exact Heap.lt_size e
  | own y=>obtain⟨_,e⟩:=x;exact Heap.lt_size e
  | xd fs=>obtain⟨_,⟨_,_,_,e,_⟩,_⟩:=x;exact Heap.lt_size e
  | rng lo hi=>obtain⟨_,_,_,e⟩:=x;exact Heap.lt_size e
  | frz ob u=>obtain⟨e,_⟩:=x;exact Heap.lt_size e
  | tbl ps=>exact Heap.lt_size (show h.get? a=some _ from x)
  | met f y=>exact Heap.lt_size (show h.get? a=some _ from x)
  | ext φ=>obtain⟨_,⟨_,e⟩,_⟩:=x;exact Heap.lt_size e
theorem Paired.mapP {α β:Type}{F G:α->β->Prop}:∀ {l₁:List α}{l₂:List β},Paired F l₁ l₂->(∀a b,F a b->G a b)->Paired G l₁ l₂
  | _,_,.nil,_=> .nil
  | _,_,.cons r t,f=> .cons (f _ _ r) (Paired.mapP t f)
theorem Dl.stay (x:Dl P w H h a o) (k:∀b u,(b=a\/H b=some (.own a))->h.get? b=some u->h'.get? b=some u)
    (ho:∀b,H b=some (.own a)->H' b=some (.own a)) (ht:∀b xs,H b=some (.tup xs)->H' b=some (.tup xs)):Dl P w H' h' a o:=by
  induction o with
  | lst xs=>obtain⟨z,its,n,r,e⟩:=x;exact⟨z,its,n,r,k _ _ (.inl rfl) e⟩
  | tup xs=>obtain⟨z,its,r,ob,e,c⟩:=x;exact⟨z,its,r,ob,k _ _ (.inl rfl) e,c⟩
  | dK kvs=>obtain⟨z,y,vs,r,ob,es,ep,e,c⟩:=x;exact⟨z,y,vs,r,ob,es,ep,k _ _ (.inl rfl) e,c⟩
  | dT kvs=>
    obtain⟨z,y,xs,r,ob,es,ep,e,c⟩:=x
    exact⟨z,y,xs,Paired.mapP r fun p q z=>⟨z.1,ht _ _ z.2.1,z.2.2⟩,ob,es,ep,k _ _ (.inl rfl) e,c⟩
  | set S n=>obtain⟨ob,es,ep,t,e,c⟩:=x;exact⟨ob,es,ep,t,k _ _ (.inl rfl) e,c⟩
  | ins C dx fs=>
    obtain⟨d,z,ne,e,mA,⟨od,es,ep,e2,c⟩,r⟩:=x
    exact⟨ho _ d,z,ne,k _ _ (.inl rfl) e,mA,⟨od,es,ep,k _ _ (.inr d) e2,c⟩,r⟩
  | own y=>obtain⟨ob,e⟩:=x;exact⟨ob,k _ _ (.inl rfl) e⟩
  | xd fs=>obtain⟨mA,⟨od,es,ep,e,c⟩,r⟩:=x;exact⟨mA,⟨od,es,ep,k _ _ (.inl rfl) e,c⟩,r⟩
  | rng lo hi=>obtain⟨t,u,v,e⟩:=x;exact⟨t,u,v,k _ _ (.inl rfl) e⟩
  | frz ob u ih=>obtain⟨e,q⟩:=x;exact⟨k _ _ (.inl rfl) e,ih q⟩
  | tbl ps=>
    have e:h.get? a=some { cls:= .none,data:= .fields ps}:=x
    show h'.get? a=some { cls:= .none,data:= .fields ps}
    exact k a _ (.inl rfl) e
  | met f y=>
    have e:h.get? a=some (PySem.W.methodObj (.ref f) (.ref y)):=x
    show h'.get? a=some (PySem.W.methodObj (.ref f) (.ref y))
    exact k a _ (.inl rfl) e
  | ext φ=>obtain⟨p,⟨o,e⟩,st⟩:=x;exact⟨st _ _ p fun o q=>k _ _ (.inl rfl) q,⟨o,k _ _ (.inl rfl) e⟩,st⟩
theorem HOk.lt (x:HOk P w H h) (e:H a=some o):a<h.objs.size:=(x a o e).lt
theorem HOk.fresh (x:HOk P w H h) (e:h.objs.size<=a):H a=none:=by
  cases q:H a with
  | none=>rfl
  | some u=>exact absurd (Nat.lt_of_lt_of_le (x.lt q) e) (Nat.lt_irrefl _)
theorem HOk.kept (x:HOk P w H h) (k:∀b u,h.get? b=some u->h'.get? b=some u):HOk P w H h':=fun a o e=>
  (x a o e).stay (fun b u _ q=>k b u q) (fun _ q=>q) fun _ _ q=>q
theorem HOk.laid (x:HOk P w H h) (k:∀b u,h.get? b=some u->h'.get? b=some u) (hp:h.objs.size<=a) (new:Dl P w (upd H a o) h' a o):HOk P w (upd H a o) h':=fun b u e=>by
  have hn:=x.fresh hp
  by_cases hb:b=a
  . subst hb;rw [Ar]at e;cases e;exact new
  . rw [Bs hb]at e
    exact(x b u e).stay (fun c v _ q=>k c v q) (fun c q=>by rw [Bs (Cg q hn)];exact q) fun c xs q=>by rw [Bs (Cg q hn)];exact q
end
def Rd (H:Hp) (a:Addr) (u:HO):Prop:=H a=some u\/∃o,H a=some (.frz o u)
theorem Rd.of {H:Hp}{a:Addr}{u:HO} (h:H a=some u):Rd H a u:= .inl h
theorem Rd.ok {P:Program}{w:World}{H:Hp}{h:Heap}{a:Addr}{u:HO} (r:Rd H a u) (x:HOk P w H h):Dl P w H h a u:=by
  rcases r with r | ⟨o,r⟩
  . exact x a u r
  . obtain⟨_,q⟩:=x a _ r
    exact q
def Mut:Option HO->Prop
  | some (.lst _)=>True
  | some (.dK _)=>True
  | some (.dT _)=>True
  | some (.set _ _)=>True
  | some (.ins _ _ _)=>True
  | some (.ext _)=>True
  | _=>False
section
variable {P:Program}{w:World}{H:Hp}{h h':Heap}{x e:Addr}{o':HO}
theorem HOk.write (ok:HOk P w H h) (mu:Mut (H x)) (he:e=x\/H e=some (.own x)) (k:∀b u,b≠e->h.get? b=some u->h'.get? b=some u) (heo:∃u,h'.get? e=some u)
    (new:Dl P w (upd H x o') h' x o'):HOk P w (upd H x o') h':=fun b u q=>by
  have nown:∀c y,H c=some (.own y)->c≠x:=fun c y r z=>by subst z;rw [r]at mu;exact mu
  have ntup:∀c xs,H c=some (.tup xs)->c≠x:=fun c xs r z=>by subst z;rw [r]at mu;exact mu
  by_cases hb:b=x
  . subst hb;rw [Ar]at q;cases q;exact new
  . rw [Bs hb]at q
    by_cases hbe:b=e
    . have q':H b=some (.own x):=by
        rcases he with z | z
        . exact absurd (hbe.trans z) hb
        . rw [hbe];exact z
      rw [q]at q';cases q'
      obtain⟨v,hv⟩:=heo
      exact⟨v,by rw [hbe];exact hv⟩
    . refine(ok b u q).stay (fun c v hc r=>k c v ?_ r) (fun c r=>by rw [Bs (nown c b r)];exact r) fun c xs r=>by rw [Bs (ntup c xs r)];exact r
      rcases hc with rfl | hc
      . exact hbe
      . rintro rfl
        rcases he with z | z
        . exact nown c b hc z
        . rw [hc]at z;cases z;exact hb rfl
end
structure Un (fs ex:List Addr) (H H':Hp) (h h':Heap):Prop where
  keep:∀b o,h.get? b=some o->H b=none->b∉fs->b∉ex->h'.get? b=some o
  slot:∀b o,h.get? b=some o->H b=none->b∈fs->b∉ex->∃sl,h'.get? b=some { o with slots:=sl}
  free:∀b o,h.get? b=some o->H b=none->b∉ex->H' b=none
  there:∀b o,h.get? b=some o->b∉ex->∃o',h'.get? b=some o'
  tups:∀b xs,H b=some (.tup xs)->H' b=some (.tup xs)
  frzs:∀b o u,H b=some (.frz o u)->H' b=some (.frz o u)
  tbls:∀b ps,H b=some (.tbl ps)->∃more,H' b=some (.tbl (ps++more))
section
variable {fs fs' ex ex':List Addr}{H H1 H2:Hp}{h h1 h2 h':Heap}{a x e:Addr}{o:HO}
theorem Un.any (u:Un fs ex H H1 h h1) {b:Addr}{ob:Obj} (q:h.get? b=some ob) (n:H b=none) (hx:b∉ex):∃sl,h1.get? b=some { ob with slots:=sl}:=by
  by_cases hb:b∈fs
  . exact u.slot b ob q n hb hx
  . exact⟨ob.slots,u.keep b ob q n hb hx⟩
theorem Un.trans (a:Un fs ex H H1 h h1) (b:Un fs ex H1 H2 h1 h2):Un fs ex H H2 h h2 where
  keep:=fun c ob q n hc hx=>b.keep c ob (a.keep c ob q n hc hx) (a.free c ob q n hx) hc hx
  slot:=fun c ob q n hc hx=>by
    obtain⟨sl,e1⟩:=a.slot c ob q n hc hx
    obtain⟨sl',e2⟩:=b.slot c _ e1 (a.free c ob q n hx) hc hx
    exact⟨sl',e2⟩
  free:=fun c ob q n hx=>by
    obtain⟨o',e1⟩:=a.there c ob q hx
    exact b.free c o' e1 (a.free c ob q n hx) hx
  there:=fun c ob q hx=>by
    obtain⟨o',e1⟩:=a.there c ob q hx
    exact b.there c o' e1 hx
  tups:=fun c xs q=>b.tups c xs (a.tups c xs q)
  frzs:=fun c ob xs q=>b.frzs c ob xs (a.frzs c ob xs q)
  tbls:=fun c ps q=>by
    obtain⟨m1,e1⟩:=a.tbls c ps q
    obtain⟨m2,e2⟩:=b.tbls c _ e1
    exact⟨m1++m2,by rw [e2,Array.append_assoc]⟩
theorem Un.kept (k:∀b u,h.get? b=some u->h'.get? b=some u):Un fs ex H H h h':=
  ⟨fun b ob q _ _ _=>k b ob q,fun b ob q _ _ _=>⟨ob.slots,k b ob q⟩,fun _ _ _ n _=>n,fun b ob q _=>⟨ob,k b ob q⟩,fun _ _ q=>q,fun _ _ _ q=>q,fun _ ps q=>⟨#[],by rw [q];simp⟩⟩
theorem Un.refl:Un fs ex H H h h:=Un.kept fun _ _ q=>q
theorem Un.laid (k:∀b u,h.get? b=some u->h'.get? b=some u) (hp:h.objs.size<=a) (hn:H a=none):Un fs ex H (upd H a o) h h' where
  keep:=fun b u q _ _ _=>k b u q
  slot:=fun b u q _ _ _=>⟨u.slots,k b u q⟩
  free:=fun b u q n _=>by rw [Bs (Nat.ne_of_lt (Nat.lt_of_lt_of_le (Heap.lt_size q) hp))];exact n
  there:=fun b u q _=>⟨u,k b u q⟩
  tups:=fun b xs q=>by rw [Bs (Cg q hn)];exact q
  frzs:=fun b u xs q=>by rw [Bs (Cg q hn)];exact q
  tbls:=fun b ps q=>⟨#[],by rw [Bs (Cg q hn),q];simp⟩
theorem Un.write (mu:Mut (H x)) (he:e=x\/H e=some (.own x)) (k:∀b u,b≠e->h.get? b=some u->h'.get? b=some u) (heo:∃u,h'.get? e=some u):Un fs ex H (upd H x o) h h':=by
  have hx:∀b,H b=none->b≠x:=fun b n z=>by subst z;rw [n]at mu;exact mu
  have hb:∀b,H b=none->b≠e:=fun b n z=>by
    subst z
    rcases he with r | r
    . exact hx b n r
    . rw [n]at r;cases r
  have hm:∀b u,H b=some u->¬Mut (some u)->b≠x:=fun b u q nm z=>by subst z;rw [q]at mu;exact nm mu
  refine⟨fun b u q n _ _=>k b u (hb b n) q,fun b u q n _ _=>⟨u.slots,k b u (hb b n) q⟩,fun b u q n _=>by rw [Bs (hx b n)];exact n,fun b u q _=> ?_,
    fun b xs q=>by rw [Bs (hm b _ q fun z=>z)];exact q,fun b u xs q=>by rw [Bs (hm b _ q fun z=>z)];exact q,fun b ps q=>⟨#[],by rw [Bs (hm b _ q fun z=>z),q];simp⟩⟩
  by_cases hbe:b=e
  . subst hbe;exact heo
  . exact⟨u,k b u hbe q⟩
theorem Un.mono (u:Un fs ex H H1 h h1) (hs:∀b∈fs,b∈fs') (hx:∀b∈ex,b∈ex'):Un fs' ex' H H1 h h1:=
  ⟨fun b ob q n hb he=>u.keep b ob q n (fun z=>hb (hs b z)) fun z=>he (hx b z),fun _ _ q n _ he=>u.any q n fun z=>he (hx _ z),fun b ob q n he=>u.free b ob q n fun z=>he (hx b z),fun b ob q he=>u.there b ob q fun z=>he (hx b z),u.tups,u.frzs,u.tbls⟩
end
def trk (h:Heap) (H:Hp):List Addr:=(List.range h.objs.size).filter fun a=>(H a).isSome
def Ys (h:Heap) (H:Hp):Heap:=PySem.W.hideAll h (trk h H)
theorem Vv (h:Heap) (H:Hp):(Ys h H).objs.size=h.objs.size:=PySem.W.hideAll_size _ _
theorem Yn {h:Heap}{H:Hp}{b:Addr}{o:Obj} (e:h.get? b=some o) (n:H b=none):(Ys h H).get? b=some o:=
  PySem.W.hideAll_get _ e fun hm=>by
    have q:(H b).isSome=true:=(List.mem_filter.mp hm).2
    rw [n]at q;simp at q
theorem Aad {h:Heap}{H:Hp}{b:Addr}{o:Obj} (e:(Ys h H).get? b=some o):h.get? b=some o/\H b=none:=by
  have e':h.get? b=some o:=PySem.W.of_hideAll (trk h H) e
  refine⟨e',?_⟩
  cases q:H b with
  | none=>rfl
  | some x=>
    have hm:b∈trk h H:=List.mem_filter.mpr ⟨List.mem_range.mpr (Heap.lt_size e'),by simp [q]⟩
    have z:(Ys h H).get? b=none:=PySem.W.hideAll_none (trk h H) hm
    rw [z]at e;cases e
def Abv (g h:Heap) (L:Addr):List (Addr × Obj):=(List.range h.objs.size).filterMap fun a=>if a=L\/(g.get? a).isSome=true then none else(h.get? a).map fun o=>(a,o)
def rest (g h:Heap) (L d:Addr):List (Addr × Obj):=(Abv g h L).filter fun p=>decide (p.1≠d)
end L2
namespace L2
open PySem PySem.Spec PyProof.Rows
structure Mod (K:PySem.W.Frag) (mg:Str->Option Value) (base:Heap):Prop where
  kin:K.In base
  glob:base.Ns mainGlobals mg
  blt:∃mb,base.Ns builtinsNs mb/\∀x:Str,x≠"__name__"->mb x=bootBuiltins x
  nolimit:base.NoLimit
structure Cx where
  prog:Program
  w:World
  K:PySem.W.Frag
  mg:Str->Option Value
  base:Heap
  A:Around
  N:List Str
  s₀:Shared
  H₀:Hp
  env:Env
  outer:List Env
  stack:List Env
  ex:List Addr
  fn:Str->Bool
  calm:Bool
  pn:List (Addr × Obj)
  xe:Value->Shared->Prop
def frs (l:List Env):List Addr:=l.filterMap (·.frame)
abbrev Cx.fs (X:Cx):List Addr:=frs X.outer
def Vis (sc:Scope) (x:Str):Prop:=sc.names.lookup x=some .local \/sc.names.lookup x=some .cell\/sc.names.lookup x=some .free
def Loc (sc:Scope) (x:Str):Prop:=sc.names.lookup x=some .local \/sc.names.lookup x=some .cell
def Look (env:Env) (h:Heap) (m:Str->Option Value) (x:Str) (u:Value):Prop:=
  (env.kindOf x=some .local /\m x=some u)\/((env.kindOf x=some .cell\/env.kindOf x=some .free)/\∃c,env.cells.lookup x=some c/\h.IsCell c (some u))
structure Cx.Ok (X:Cx):Prop where
  mod:Mod X.K X.mg X.base
  kind:X.env.scope.kind= .function
  glob:X.env.globals=mainGlobals
  blt:X.env.builtins=builtinsNs
  above:X.s₀.heap.objs.size<=X.env.locals
  inj:∀x y c,X.env.cells.lookup x=some c->X.env.cells.lookup y=some c->x=y
  has:∀x,(X.env.kindOf x=some .cell\/X.env.kindOf x=some .free)->∃c,X.env.cells.lookup x=some c
  cab:∀x c,X.fn x=true->X.env.cells.lookup x=some c->X.s₀.heap.objs.size<=c
  hd:X.calm=true->X.A.handled=none
  frames:X.A.frames=some X.stack
  stk:X.stack=X.outer\/(X.stack=X.env::X.outer/\X.env.frame=some X.env.locals)
  exf:∀b∈X.ex,b≠X.env.locals/\∀x c,X.env.cells.lookup x=some c->c≠b
  bs:∀b o,X.base.get? b=some o->X.s₀.heap.get? b=some o/\X.H₀ b=none
  bsz:X.base.objs.size<=X.s₀.heap.objs.size
  noex:∀b o,X.base.get? b=some o->b∉X.ex
  exfs:∀b∈X.ex,b∉X.fs
  funs:X.s₀.heap.FunFrames X.base X.outer
  frf:∀b∈X.fs,X.H₀ b=none
structure Inv (X:Cx) (pins:List (Addr × Obj)) (σ:List (Option V)) (H:Hp) (s:Shared):Prop where
  ok:X.Ok
  os:s.os=X.s₀.os
  bare:AllBare s.gens
  base:Un X.fs X.ex X.H₀ H X.s₀.heap s.heap
  loc:∃m,s.heap.Ns X.env.locals m/\∀(i:Nat) (x:Str) (v:V),X.N[i]? =some x->σ[i]? =some (some v)->Vis X.env.scope x->∃u,RelV v u/\Look X.env s.heap m x u
  cell:∀x c,X.env.cells.lookup x=some c->∃v,s.heap.IsCell c v
  free:H X.env.locals=none
  freeC:∀x c,X.env.cells.lookup x=some c->H c=none
  pin:∀p∈X.pn++pins,s.heap.get? p.1=some p.2/\H p.1=none/\p.1≠X.env.locals/\p.1∉X.fs/\∀v,p.2.data≠ .cell v
  hok:HOk X.prog X.w H s.heap
  len:σ.length=X.N.length
section
variable {X:Cx}{pins:List (Addr × Obj)}{σ:List (Option V)}{H H':Hp}{s:Shared}{h':Heap}
theorem Cx.Ok.nofr (ok:X.Ok) {b:Addr}{o:Obj} (e:X.base.get? b=some o):b∉X.fs:=fun hb=>by
  have:=(ok.funs.mem hb).1
  rw [e]at this;cases this
theorem Inv.bs (I:Inv X pins σ H s):∀b o,X.base.get? b=some o->s.heap.get? b=some o/\H b=none:=fun b o e=>
  ⟨I.base.keep b o (I.ok.bs b o e).1 (I.ok.bs b o e).2 (I.ok.nofr e) (I.ok.noex b o e),I.base.free b o (I.ok.bs b o e).1 (I.ok.bs b o e).2 (I.ok.noex b o e)⟩
theorem Inv.bk (I:Inv X pins σ H s):∀b o,X.base.get? b=some o->s.heap.get? b=some o:=fun b o e=>(I.bs b o e).1
theorem Inv.mod (I:Inv X pins σ H s):Mod X.K X.mg X.base:=I.ok.mod
theorem Inv.kIn (I:Inv X pins σ H s):X.K.In s.heap:=I.ok.mod.kin.keeps I.bk
theorem Inv.nolimit (I:Inv X pins σ H s):s.heap.NoLimit:=I.ok.mod.nolimit.keeps I.bk
theorem Inv.fr (I:Inv X pins σ H s):∃m,Fr X.base X.env.locals s.heap m:=
  let ⟨m,hn,_⟩:=I.loc
  ⟨m,hn,I.bk,Nat.le_trans I.ok.bsz I.ok.above⟩
theorem Inv.lt (I:Inv X pins σ H s):X.env.locals<s.heap.objs.size:=let ⟨_,hn,_⟩:=I.loc;hn.lt
theorem Inv.sz (I:Inv X pins σ H s):X.s₀.heap.objs.size<=s.heap.objs.size:=Nat.le_trans I.ok.above (Nat.le_of_lt I.lt)
theorem Inv.nofs (I:Inv X pins σ H s) {a:Addr} (h:s.heap.objs.size<=a):a∉X.fs:=fun hb=>by
  obtain⟨_,o,ho,_⟩:=I.ok.funs.mem hb
  exact absurd (Nat.lt_of_lt_of_le (Heap.lt_size ho) (Nat.le_trans I.sz h)) (Nat.lt_irrefl _)
theorem Inv.cne (I:Inv X pins σ H s):∀x c,X.env.cells.lookup x=some c->c≠X.env.locals:=fun x c e z=>by
  obtain⟨v,o,ho,hd⟩:=I.cell x c e
  obtain⟨m,⟨o',es,ep,ho',hd',_⟩,_⟩:=I.loc
  rw [z,ho']at ho;cases ho;rw [hd']at hd;cases hd
theorem Inv.funs (I:Inv X pins σ H s):s.heap.FunFrames X.base X.outer:=by
  have all:∀(l:List Env),(∀b∈frs l,b∈X.fs)->X.s₀.heap.FunFrames X.base l->s.heap.FunFrames X.base l:=by
    intro l
    induction l with
    | nil=>intro _ _;trivial
    | cons env r ih=>
      intro hs hl
      obtain⟨hk,⟨L,o,hf,hn,ho,hd⟩,hr⟩:=hl
      have hL:L∈X.fs:=hs L (by unfold frs;rw [List.filterMap_cons,hf];exact List.mem_cons_self)
      obtain⟨sl,e⟩:=I.base.slot L o ho (I.ok.frf L hL) hL fun z=>I.ok.exfs L z hL
      exact⟨hk,⟨L,_,hf,hn,e,hd⟩,ih (fun b hb=>hs b (by unfold frs;rw [List.filterMap_cons,hf];exact List.mem_cons_of_mem _ hb)) hr⟩
  exact all X.outer (fun _ hb=>hb) I.ok.funs
theorem Inv.stack (I:Inv X pins σ H s):s.heap.FunFrames X.base X.stack:=by
  rcases I.ok.stk with e | ⟨e,hf⟩
  . rw [e];exact I.funs
  . rw [e]
    obtain⟨m,hn,_⟩:=I.loc
    refine .cons (by rw [I.ok.kind];decide) hf hn ?_ I.funs
    exact Heap.get?_none_of_le (Nat.le_trans I.ok.bsz I.ok.above)
theorem Inv.stkSub (I:Inv X pins σ H s):∀b∈frs X.stack,b∈X.env.locals::X.fs:=fun b hb=>by
  rcases I.ok.stk with e | ⟨e,hf⟩
  . rw [e]at hb;exact List.mem_cons_of_mem _ hb
  . rw [e]at hb
    unfold frs at hb
    rw [List.filterMap_cons,hf]at hb
    exact hb
theorem Inv.stkFree (I:Inv X pins σ H s):∀b∈frs X.stack,H b=none:=fun b hb=>by
  rcases List.mem_cons.mp (I.stkSub b hb)with e | hb
  . rw [e];exact I.free
  . obtain⟨_,o,ho,_⟩:=I.ok.funs.mem hb
    exact I.base.free b o ho (I.ok.frf b hb) fun z=>I.ok.exfs b z hb
theorem Inv.step {g':Array GenState}{t':Nat}{d':Drawn}{ch:List Addr} (I:Inv X pins σ H s)
    (hch:∀b∈ch,(b∈X.ex\/X.s₀.heap.objs.size<=b)/\b≠X.env.locals/\(∀x c,X.env.cells.lookup x=some c->c≠b)/\∀p∈X.pn++pins,p.1≠b)
    (keep:∀b o,b≠X.env.locals->b∉X.fs->b∉ch->s.heap.get? b=some o->H b=none->h'.get? b=some o)
    (slot:∀b o,b≠X.env.locals->b∈X.fs->b∉ch->s.heap.get? b=some o->H b=none->∃sl,h'.get? b=some { o with slots:=sl}) (free:∀b o,b∉ch->s.heap.get? b=some o->H b=none->H' b=none)
    (there:∀b o,b∉ch->s.heap.get? b=some o->∃o',h'.get? b=some o')
    (tups:∀b xs,H b=some (.tup xs)->H' b=some (.tup xs)) (frzs:∀b o u,H b=some (.frz o u)->H' b=some (.frz o u)) (tbls:∀b ps,H b=some (.tbl ps)->∃more,H' b=some (.tbl (ps++more)))
    (ns:∀m,s.heap.Ns X.env.locals m->h'.Ns X.env.locals m) (hok:HOk X.prog X.w H' h') (hg:AllBare g'):
    Inv X pins σ H' { s with heap:=h',gens:=g',drawn:=d',toks:=t'}:=by
  have neL:∀b o,X.s₀.heap.get? b=some o->b≠X.env.locals:=fun b o e=>Nat.ne_of_lt (Nat.lt_of_lt_of_le (Heap.lt_size e) I.ok.above)
  have neC:∀b o,X.s₀.heap.get? b=some o->b∉X.ex->b∉ch:=fun b o e hx hb=>by
    rcases(hch b hb).1 with z | z
    . exact hx z
    . exact absurd (Nat.lt_of_lt_of_le (Heap.lt_size e) z) (Nat.lt_irrefl _)
  have cellK:∀x c,X.env.cells.lookup x=some c->∀v,s.heap.IsCell c v->h'.IsCell c v:=fun x c e v ⟨o,ho,hd⟩=>by
    have nch:c∉ch:=fun z=>(hch c z).2.2.1 x c e rfl
    by_cases hc:c∈X.fs
    . obtain⟨sl,q⟩:=slot c o (I.cne x c e) hc nch ho (I.freeC x c e)
      exact⟨_,q,hd⟩
    . exact⟨o,keep c o (I.cne x c e) hc nch ho (I.freeC x c e),hd⟩
  refine⟨I.ok,I.os,hg,⟨fun b o e n hb hx=> ?_,fun b o e n hb hx=> ?_,fun b o e n hx=> ?_,fun b o e hx=> ?_,fun b xs e=>tups b xs (I.base.tups b xs e),fun b o xs e=>frzs b o xs (I.base.frzs b o xs e),fun b ps e=> ?_⟩,?_,fun x c e=> ?_,?_,fun x c e=> ?_,fun p hp=> ?_,hok,I.len⟩
  . exact keep b o (neL b o e) hb (neC b o e hx) (I.base.keep b o e n hb hx) (I.base.free b o e n hx)
  . obtain⟨sl,e1⟩:=I.base.slot b o e n hb hx
    obtain⟨sl',e2⟩:=slot b _ (neL b o e) hb (neC b o e hx) e1 (I.base.free b o e n hx)
    exact⟨sl',e2⟩
  . obtain⟨o',e1⟩:=I.base.there b o e hx
    exact free b o' (neC b o e hx) e1 (I.base.free b o e n hx)
  . obtain⟨o',e1⟩:=I.base.there b o e hx
    exact there b o' (neC b o e hx) e1
  . obtain⟨m1,e1⟩:=I.base.tbls b ps e
    obtain⟨m2,e2⟩:=tbls b _ e1
    exact⟨m1++m2,by rw [e2,Array.append_assoc]⟩
  . obtain⟨m,hn,hl⟩:=I.loc
    refine⟨m,ns m hn,fun i x v e1 e2 e3=> ?_⟩
    obtain⟨u,r,l⟩:=hl i x v e1 e2 e3
    refine⟨u,r,?_⟩
    rcases l with l | ⟨k,c,e,z⟩
    . exact .inl l
    . exact .inr ⟨k,c,e,cellK x c e _ z⟩
  . obtain⟨v,z⟩:=I.cell x c e
    exact⟨v,cellK x c e v z⟩
  . obtain⟨m,⟨o,_,_,ho,_⟩,_⟩:=I.loc
    exact free _ o (fun z=>(hch _ z).2.1 rfl) ho I.free
  . obtain⟨v,o,ho,hd⟩:=I.cell x c e
    exact free c o (fun z=>(hch c z).2.2.1 x c e rfl) ho (I.freeC x c e)
  . obtain⟨e,n,ne,nf,d⟩:=I.pin p hp
    have nch:p.1∉ch:=fun z=>(hch p.1 z).2.2.2 p hp rfl
    exact⟨keep p.1 p.2 ne nf nch e n,free p.1 p.2 nch e n,ne,nf,d⟩
theorem Inv.un {t':Nat} (I:Inv X pins σ H s) (u:Un X.fs [] H H' s.heap h') (hok:HOk X.prog X.w H' h'):Inv X pins σ H' { s with heap:=h',toks:=t'}:=by
  obtain⟨m,⟨o,es,ep,ho,r⟩,_⟩:=id I.loc
  obtain⟨sl,hL⟩:=u.any ho I.free (by simp)
  exact I.step (g':=s.gens) (d':=s.drawn) (ch:=[]) (fun _ z=>nomatch z) (fun b o _ hb _ e n=>u.keep b o e n hb (by simp)) (fun b o _ hb _ e n=>u.slot b o e n hb (by simp)) (fun b o _ e n=>u.free b o e n (by simp)) (fun b o _ e=>u.there b o e (by simp)) u.tups u.frzs u.tbls (fun m' hm=>by
    obtain⟨o',es',ep',ho',r'⟩:=hm
    rw [ho]at ho';cases ho'
    exact⟨_,es',ep',hL,r'⟩) hok I.bare
theorem Inv.call {g':Array GenState}{t':Nat}{d':Drawn}{ch:List Addr} (I:Inv X pins σ H s) (u:Un (frs X.stack) ch H H' s.heap h') (hok:HOk X.prog X.w H' h') (hg:AllBare g')
    (hch:∀b∈ch,(b∈X.ex\/X.s₀.heap.objs.size<=b)/\b≠X.env.locals/\(∀x c,X.env.cells.lookup x=some c->c≠b)/\∀p∈X.pn++pins,p.1≠b):
    Inv X pins σ H' { s with heap:=h',gens:=g',drawn:=d',toks:=t'}:=by
  obtain⟨m,⟨o,es,ep,ho,r⟩,_⟩:=id I.loc
  obtain⟨sl,hL⟩:=u.any ho I.free fun z=>(hch _ z).2.1 rfl
  exact I.step (ch:=ch) hch (fun b o hL hb hc e n=>u.keep b o e n (fun z=>(List.mem_cons.mp (I.stkSub b z)).elim hL hb) hc) (fun b o _ _ hc e n=>u.any e n hc) (fun b o hc e n=>u.free b o e n hc) (fun b o hc e=>u.there b o e hc) u.tups u.frzs u.tbls (fun m' hm=>by
    obtain⟨o',es',ep',ho',r'⟩:=hm
    rw [ho]at ho';cases ho'
    exact⟨_,es',ep',hL,r'⟩) hok hg
theorem Inv.turned {t':Nat}{it:Addr} (I:Inv X pins σ H s) (k:∀b o,b≠it->s.heap.get? b=some o->h'.get? b=some o) (hn:H it=none) (hL:it≠X.env.locals)
    (h1:it∈X.ex\/X.s₀.heap.objs.size<=it) (h2:∀x c,X.env.cells.lookup x=some c->c≠it) (h3:∀p∈X.pn++pins,p.1≠it):Inv X pins σ H { s with heap:=h',toks:=t'}:=by
  have nit:∀b u,H b=some u->b≠it:=fun b u e z=>by rw [z,hn]at e;cases e
  refine I.step (g':=s.gens) (d':=s.drawn) (ch:=[it]) (fun b hb=> ?_) (fun b o _ _ hc e _=>k b o (fun z=>hc (by simp [z])) e) (fun b o _ _ hc e _=>⟨o.slots,k b o (fun z=>hc (by simp [z])) e⟩) (fun _ _ _ _ n=>n)
    (fun b o hc e=>⟨o,k b o (fun z=>hc (by simp [z])) e⟩) (fun _ _ e=>e) (fun _ _ _ e=>e) (fun b ps e=>⟨#[],by rw [e];simp⟩) (fun m hm=> ?_) (fun b u e=> ?_) I.bare
  . have e:b=it:=by simpa using hb
    subst e
    exact⟨h1,hL,h2,h3⟩
  . obtain⟨o,es,ep,ho,r⟩:=hm
    exact⟨o,es,ep,k _ o (Ne.symm hL) ho,r⟩
  . refine(I.hok b u e).stay (fun c v hc q=>k c v ?_ q) (fun _ q=>q) fun _ _ q=>q
    rcases hc with z | z
    . rw [z];exact nit b u e
    . exact nit c _ z
theorem Inv.tok (I:Inv X pins σ H s) (t:Nat):Inv X pins σ H { s with toks:=t}:=I.un (h':=s.heap) (t':=t) Un.refl I.hok
theorem Inv.kept {t':Nat} (I:Inv X pins σ H s) (k:∀b u,s.heap.get? b=some u->h'.get? b=some u):Inv X pins σ H { s with heap:=h',toks:=t'}:=I.un (Un.kept k) (I.hok.kept k)
theorem Inv.laid {a:Addr}{o:HO}{t':Nat} (I:Inv X pins σ H s) (k:∀b u,s.heap.get? b=some u->h'.get? b=some u) (hp:s.heap.objs.size<=a) (new:Dl X.prog X.w (upd H a o) h' a o):
    Inv X pins σ (upd H a o) { s with heap:=h',toks:=t'}:=I.un (Un.laid k hp (I.hok.fresh hp)) (I.hok.laid k hp new)
theorem Inv.write {x e:Addr}{o:HO}{t':Nat} (I:Inv X pins σ H s) (mu:Mut (H x)) (he:e=x\/H e=some (.own x)) (k:∀b u,b≠e->s.heap.get? b=some u->h'.get? b=some u) (heo:∃u,h'.get? e=some u)
    (new:Dl X.prog X.w (upd H x o) h' x o):Inv X pins σ (upd H x o) { s with heap:=h',toks:=t'}:=I.un (Un.write mu he k heo) (I.hok.write mu he k heo new)
theorem Inv.pins_of {pins':List (Addr × Obj)} (I:Inv X pins σ H s) (h:∀p∈pins',s.heap.get? p.1=some p.2/\H p.1=none/\p.1≠X.env.locals/\p.1∉X.fs/\∀v,p.2.data≠ .cell v):Inv X pins' σ H s:=
  ⟨I.ok,I.os,I.bare,I.base,I.loc,I.cell,I.free,I.freeC,fun p hp=>(List.mem_append.mp hp).elim (fun z=>I.pin p (List.mem_append_left _ z)) (h p),I.hok,I.len⟩
theorem T3 {N:List Str} (hN:N.Nodup) {i j:Nat}{x:Str} (a:N[i]? =some x) (b:N[j]? =some x):i=j:=by
  obtain⟨h1,e1⟩:=List.getElem?_eq_some_iff.mp a
  obtain⟨h2,e2⟩:=List.getElem?_eq_some_iff.mp b
  exact(List.getElem_inj hN).mp (e1.trans e2.symm)
theorem Xa {M:Model}{A:Around}{E:Value->Shared->Prop}{i:Nat}{x:Str}{v:V}{u:Value}{Q:Unit->Shared->Prop} (I:Inv X pins σ H s) (hN:X.N.Nodup) (hi:X.N[i]? =some x) (hx:Loc X.env.scope x) (r:RelV v u)
    (h:∀s',Inv X pins (σ.set i (some v)) H s'->(∃a,Heap.SameBut a s.heap s'.heap/\(a=X.env.locals\/X.env.cells.lookup x=some a))->Q () s') (hf:X.fn x=true\/X.env.scope.names.lookup x=some .local :=by first | exact .inl rfl | exact .inr rfl | assumption):wpAny M A (storeName X.env x u) Q E s:=by
  obtain⟨m,hn,hl⟩:=id I.loc
  have hcls:(X.env.scope.kind== .class||(X.env.scope.kind== .module&&X.env.locals != X.env.globals))=false:=by rw [I.ok.kind];rfl
  have hiσ:i<σ.length:=by rw [I.len];exact(List.getElem?_eq_some_iff.mp hi).1
  have cne:=I.cne
  have tracked:∀ {a:Addr}{h':Heap},(∃o,s.heap.get? a=some o/\H a=none)->Heap.SameBut a s.heap h'->HOk X.prog X.w H h':=fun {a h'} ha hs b ob e=>by
    obtain⟨_,_,hfree⟩:=ha
    refine(I.hok b ob e).stay (fun c w' hc q=>(hs.2 c ?_).trans q) (fun _ q=>q) fun _ _ q=>q
    rintro rfl
    rcases hc with rfl | hc
    . rw [hfree]at e;cases e
    . rw [hfree]at hc;cases hc
  rcases hx with hk | hk
  . refine wpAny_storeName_local hk hn (fun h' hn' hs=> ?_) hcls
    obtain⟨oL,_,_,hoL,_⟩:=id hn
    refine h _ ⟨I.ok,I.os,I.bare,⟨fun b o e n hb hx=> ?_,fun b o e n hb hx=> ?_,I.base.free,fun b o e hx=> ?_,I.base.tups,I.base.frzs,I.base.tbls⟩,⟨_,hn',fun j y v' e1 e2 e3=> ?_⟩,fun y c e=> ?_,I.free,I.freeC,fun p hp=> ?_,tracked ⟨oL,hoL,I.free⟩ hs,by simpa using I.len⟩ ⟨_,hs,.inl rfl⟩
    . exact(hs.2 b (Nat.ne_of_lt (Nat.lt_of_lt_of_le (Heap.lt_size e) I.ok.above))).trans (I.base.keep b o e n hb hx)
    . obtain⟨sl,e1⟩:=I.base.slot b o e n hb hx
      exact⟨sl,(hs.2 b (Nat.ne_of_lt (Nat.lt_of_lt_of_le (Heap.lt_size e) I.ok.above))).trans e1⟩
    . obtain⟨o',e1⟩:=I.base.there b o e hx
      exact⟨o',(hs.2 b (Nat.ne_of_lt (Nat.lt_of_lt_of_le (Heap.lt_size e) I.ok.above))).trans e1⟩
    . by_cases hj:j=i
      . subst hj
        rw [hi]at e1;cases e1
        rw [List.getElem?_set_self hiσ]at e2
        cases e2
        exact⟨u,r,.inl ⟨hk,by simp⟩⟩
      . rw [List.getElem?_set_ne (Ne.symm hj)]at e2
        obtain⟨u',r',q⟩:=hl j y v' e1 e2 e3
        refine⟨u',r',?_⟩
        rcases q with⟨k,e⟩ | ⟨k,c,e,z⟩
        . refine .inl ⟨k,?_⟩
          have:y≠x:=fun e=>hj (T3 hN e1 (e▸hi))
          simp [this,e]
        . exact .inr ⟨k,c,e,z.sameBut hs (cne y c e)⟩
    . obtain⟨w',z⟩:=I.cell y c e
      exact⟨w',z.sameBut hs (cne y c e)⟩
    . obtain⟨e,n,ne,nf,d⟩:=I.pin p hp
      exact⟨(hs.2 p.1 ne).trans e,n,ne,nf,d⟩
  . have hfn:X.fn x=true:=by
      rcases hf with z | z
      . exact z
      . rw [z]at hk;cases hk
    obtain⟨c,hc⟩:=I.ok.has x (.inl hk)
    obtain⟨w',z⟩:=I.cell x c hc
    refine wpAny_storeName_cell I.ok.kind hk hc z (fun h' hc' hs=> ?_)
    obtain⟨oc,hoc,hocd⟩:=id z
    refine h { s with heap:=h'} ⟨I.ok,I.os,I.bare,⟨fun b o e n hb hx=> ?_,fun b o e n hb hx=> ?_,I.base.free,fun b o e hx=> ?_,I.base.tups,I.base.frzs,I.base.tbls⟩,⟨m,hn.sameBut hs (Ne.symm (cne x c hc)),fun j y v' e1 e2 e3=> ?_⟩,fun y c' e=> ?_,I.free,I.freeC,fun p hp=> ?_,tracked ⟨oc,hoc,I.freeC x c hc⟩ hs,by simpa using I.len⟩ ⟨c,hs,.inr hc⟩
    . exact(hs.2 b (Nat.ne_of_lt (Nat.lt_of_lt_of_le (Heap.lt_size e) (I.ok.cab x c hfn hc)))).trans (I.base.keep b o e n hb hx)
    . obtain⟨sl,e1⟩:=I.base.slot b o e n hb hx
      exact⟨sl,(hs.2 b (Nat.ne_of_lt (Nat.lt_of_lt_of_le (Heap.lt_size e) (I.ok.cab x c hfn hc)))).trans e1⟩
    . obtain⟨o',e1⟩:=I.base.there b o e hx
      exact⟨o',(hs.2 b (Nat.ne_of_lt (Nat.lt_of_lt_of_le (Heap.lt_size e) (I.ok.cab x c hfn hc)))).trans e1⟩
    . by_cases hj:j=i
      . subst hj
        rw [hi]at e1;cases e1
        rw [List.getElem?_set_self hiσ]at e2
        cases e2
        exact⟨u,r,.inr ⟨.inl hk,c,hc,hc'⟩⟩
      . rw [List.getElem?_set_ne (Ne.symm hj)]at e2
        obtain⟨u',r',q⟩:=hl j y v' e1 e2 e3
        refine⟨u',r',?_⟩
        rcases q with q | ⟨k,c',e,z'⟩
        . exact .inl q
        . refine .inr ⟨k,c',e,z'.sameBut hs ?_⟩
          rintro rfl
          exact hj (T3 hN e1 (I.ok.inj _ _ _ e hc▸hi))
    . by_cases hcc:c'=c
      . subst hcc;exact⟨_,hc'⟩
      . obtain⟨w2,z2⟩:=I.cell y c' e
        exact⟨w2,z2.sameBut hs hcc⟩
    . obtain⟨e,n,ne,nf,d⟩:=I.pin p hp
      refine⟨(hs.2 p.1 ?_).trans e,n,ne,nf,d⟩
      intro q
      rw [q,hoc]at e
      have q':oc=p.2:=Option.some.inj e
      exact d w' (by rw [<-q'];exact hocd)
theorem Mq {M:Model}{A:Around}{E:Value->Shared->Prop}{i:Nat}{x:Str}{v:V}{u:Value}{Q:Unit->Shared->Prop} (I:Inv X pins σ H s) (hN:X.N.Nodup) (hi:X.N[i]? =some x) (hx:Loc X.env.scope x) (r:RelV v u)
    (h:∀s',Inv X pins (σ.set i (some v)) H s'->Q () s') (hf:X.fn x=true\/X.env.scope.names.lookup x=some .local :=by first | exact .inl rfl | exact .inr rfl | assumption):wpAny M A (storeName X.env x u) Q E s:=
  Xa I hN hi hx r (fun s' I' _=>h s' I') hf
theorem Inv.call' {s':Shared}{ch:List Addr} (I:Inv X pins σ H s) (ho:s'.os=s.os) (u:Un (frs X.stack) ch H H' s.heap s'.heap) (hok:HOk X.prog X.w H' s'.heap) (hg:AllBare s'.gens)
    (hch:∀b∈ch,(b∈X.ex\/X.s₀.heap.objs.size<=b)/\b≠X.env.locals/\(∀x c,X.env.cells.lookup x=some c->c≠b)/\∀p∈X.pn++pins,p.1≠b):Inv X pins σ H' s':=by
  obtain⟨h',g',d',t',o'⟩:=s'
  have e:o'=s.os:=ho
  subst e
  exact I.call (g':=g') (t':=t') (d':=d') u hok hg hch
end
abbrev XK:=Value->Option Addr->Hp->Prop
abbrev St:=List (Option V)
abbrev VK:=V->Hp->Prop
abbrev TE:=St->Hp->VK->Prop
abbrev TT:=St->Hp->(Bool->Hp->Prop)->Prop
abbrev TA:=St->Hp->(List V->Hp->Prop)->Prop
structure Ends where
  nx:St->Hp->Prop
  rt:VK
  bk:St->Hp->Prop:=fun _ _=>False
  ct:St->Hp->Prop:=fun _ _=>False
abbrev TS:=Ends->St->Hp->Prop
def EP (X:Cx) (pins:List (Addr × Obj)) (σ:St) (Q:VK) (u:Value) (s':Shared):Prop:=∃v H',Inv X pins σ H' s'/\RelV v u/\Q v H'
def TP (X:Cx) (pins:List (Addr × Obj)) (σ:St) (Q:Bool->Hp->Prop) (b:Bool) (s':Shared):Prop:=∃H',Inv X pins σ H' s'/\Q b H'
def AP (X:Cx) (pins:List (Addr × Obj)) (σ:St) (Q:List V->Hp->Prop) (us:List Value) (s':Shared):Prop:=∃vs H',Inv X pins σ H' s'/\Vals vs us/\Q vs H'
def SP (X:Cx) (pins:List (Addr × Obj)) (D:Ends) (f:Flow) (s':Shared):Prop:=
  match f with
  | .next=>∃σ' H',Inv X pins σ' H' s'/\D.nx σ' H'
  | .brk=>∃σ' H',Inv X pins σ' H' s'/\D.bk σ' H'
  | .cont=>∃σ' H',Inv X pins σ' H' s'/\D.ct σ' H'
  | .ret u=>∃v σ' H',Inv X pins σ' H' s'/\RelV v u/\D.rt v H'
def PE (X:Cx) (e:Expr) (t:TE):Prop:=
  ∀(pins:List (Addr × Obj)) (s:Shared) (σ:St) (H:Hp) (Q:VK),Inv X pins σ H s->t σ H Q->wpAny (model X.prog X.w) X.A (eval e X.env) (EP X pins σ Q) X.xe s
def PT (X:Cx) (e:Expr) (t:TT):Prop:=
  ∀(pins:List (Addr × Obj)) (s:Shared) (σ:St) (H:Hp) (Q:Bool->Hp->Prop),Inv X pins σ H s->t σ H Q->wpAny (model X.prog X.w) X.A (isTrue e X.env (eval e X.env)) (TP X pins σ Q) X.xe s
def PW (X:Cx) (e:Expr) (t:TT):Prop:=
  ∀(whole:Sem Value) (pins:List (Addr × Obj)) (s:Shared) (σ:St) (H:Hp) (Q:Bool->Hp->Prop),Inv X pins σ H s->t σ H Q->wpAny (model X.prog X.w) X.A (isTrue e X.env whole) (TP X pins σ Q) X.xe s
theorem PW.pt {X:Cx}{e:Expr}{t:TT} (h:PW X e t):PT X e t:=h _
def PA (X:Cx) (es:List Expr) (t:TA):Prop:=
  ∀(pos:Pos) (pins:List (Addr × Obj)) (s:Shared) (σ:St) (H:Hp) (Q:List V->Hp->Prop),Inv X pins σ H s->t σ H Q->wpAny (model X.prog X.w) X.A (spliced (backTo pos (starEach es X.env))) (AP X pins σ Q) X.xe s
def PS (X:Cx) (st:Stmt) (t:TS):Prop:=
  ∀(pins:List (Addr × Obj)) (s:Shared) (σ:St) (H:Hp) (D:Ends),Inv X pins σ H s->t D σ H->wpAny (model X.prog X.w) X.A (exec st X.env) (SP X pins D) X.xe s
def PSs (X:Cx) (st:List Stmt) (t:TS):Prop:=
  ∀(pins:List (Addr × Obj)) (s:Shared) (σ:St) (H:Hp) (D:Ends),Inv X pins σ H s->t D σ H->wpAny (model X.prog X.w) X.A (execs st X.env) (SP X pins D) X.xe s
theorem thn {α:Type}{t:Sem α}{Q Q':α->Shared->Prop}{M:Model}{A:Around}{E:Value->Shared->Prop}{s:Shared} (h:wpAny M A t Q E s) (hQ:∀a s,Q a s->Q' a s):wpAny M A t Q' E s:=wpAny_mono h hQ fun _ _ x=>x
end L2
namespace L2
open PySem PySem.Spec PyProof.Rows
section
variable {X:Cx}
def Abw (i:Nat):TE:=fun σ H Q=>∃v,σ[i]? =some (some v)/\Q v H
def tC (v:V):TE:=fun _ H Q=>Q v H
theorem Acg {i:Nat}{x:Str}{pos:Pos} (hN:X.N[i]? =some x) (hv:Vis X.env.scope x) (hd:(x==("__debug__":Str))=false:=by decide) (hcd:(x==("__classdict__":Str))=false:=by decide):PE X (.Name x pos) (Abw i):=by
  intro pins s σ H Q I h
  obtain⟨v,e,h⟩:=h
  obtain⟨m,hn,hl⟩:=I.loc
  obtain⟨u,r,l⟩:=hl i x v hN e hv
  have fin:EP X pins σ Q u s:=⟨v,H,I,r,h⟩
  rcases l with⟨hk,hm⟩ | ⟨hk,c,hc,hcell⟩
  . exact wpAny_Name (wpAny_loadName_local I.ok.kind hk hn hm fin) hd
  . rcases hk with hk | hk
    . exact wpAny_Name (wpAny_loadName_cell I.ok.kind hk hc hcell fin) hd
    . exact wpAny_Name (wpAny_loadName_free I.ok.kind hk hc hcell fin hcd) hd
theorem Ab {i j pos}:PE X (.Constant (.int i) j pos) (tC (.int i)):=fun _ _ _ H _ I h=>wpAny_Constant_int ⟨.int i,H,I.tok _,⟨_,rfl⟩,h⟩
theorem Fg {b j pos}:PE X (.Constant (.bool b) j pos) (tC (.bl b)):=fun _ _ _ H _ I h=>Constant_bool ⟨.bl b,H,I,rfl,h⟩
theorem K7 {j pos}:PE X (.Constant .none j pos) (tC .non):=fun _ _ _ H _ I h=>Constant_none ⟨.non,H,I,rfl,h⟩
theorem N5 {x j pos}:PE X (.Constant (.str x) j pos) (tC (.str x)):=fun _ _ _ H _ I h=>Calls.Constant_str ⟨.str x,H,I.tok _,⟨_,rfl⟩,h⟩
def Gl (X:Cx) (x:Str):Prop:=X.env.kindOf x=some .globalImplicit
theorem Sd {E:Value->Shared->Prop}{pins:List (Addr × Obj)}{s:Shared}{σ:St}{H:Hp}{x:Str}{u:Value}{pos:Pos}{Q:Value->Shared->Prop} (I:Inv X pins σ H s) (hg:Gl X x) (hm:X.mg x=some u) (h:Q u s)
    (hd:(x==("__debug__":Str))=false:=by decide):wpAny (model X.prog X.w) X.A (eval (.Name x pos) X.env) Q E s:=
  Calls.Name_function_global I.ok.kind hg (Calls.loadGlobal_global (by rw [I.ok.glob];exact I.mod.glob.keeps I.bk) hm h) hd
theorem Nt {E:Value->Shared->Prop}{pins:List (Addr × Obj)}{s:Shared}{σ:St}{H:Hp}{x:Str}{u:Value}{pos:Pos}{Q:Value->Shared->Prop} (I:Inv X pins σ H s) (hg:Gl X x) (hm:X.mg x=none) (hv:bootBuiltins x=some u) (h:Q u s)
    (hn:x≠"__name__":=by decide) (hd:(x==("__debug__":Str))=false:=by decide):wpAny (model X.prog X.w) X.A (eval (.Name x pos) X.env) Q E s:=by
  obtain⟨mb,h1,h2⟩:=I.mod.blt
  exact Calls.Name_function_global I.ok.kind hg (Calls.loadGlobal_builtin (by rw [I.ok.glob];exact I.mod.glob.keeps I.bk) hm (by rw [I.ok.blt];exact h1.keeps I.bk) ((h2 x hn).trans hv) h) hd
theorem Pb {x:Str}{v:V}{u:Value}{pos:Pos} (hg:Gl X x) (hm:X.mg x=some u) (r:RelV v u) (hd:(x==("__debug__":Str))=false:=by decide):PE X (.Name x pos) (tC v):=
  fun _ _ _ H _ I h=>Sd I hg hm ⟨v,H,I,r,h⟩ hd
theorem Bu {x:Str}{v:V}{u:Value}{pos:Pos} (hg:Gl X x) (hm:X.mg x=none) (hv:bootBuiltins x=some u) (r:RelV v u) (hn:x≠"__name__":=by decide) (hd:(x==("__debug__":Str))=false:=by decide):PE X (.Name x pos) (tC v):=
  fun _ _ _ H _ I h=>Nt I hg hm hv ⟨v,H,I,r,h⟩ hn hd
variable {a b:Expr}{ta tb:TE}{pos:Pos}
def tB (t:TE):TT:=fun σ H Q=>t σ H fun x H1=>∃c,x= .bl c/\Q c H1
theorem Bv {e:Expr}{t:TE} (h:PE X e t) (he:∀whole,isTrue e X.env whole=(do let v<-whole;standAt e.pos;holding [v] (truthy v)):=by intro _;rfl):PT X e (tB t):=by
  intro pins s σ H Q I hw
  refine isTrue_plain (thn (h pins s σ H _ I hw) fun v s1 ⟨x,H1,I1,r1,q1⟩=> ?_) (he _)
  obtain⟨d,rfl,q⟩:=q1
  cases r1
  exact wpAny_truthy_bool ⟨H1,I1,q⟩
variable {tA tB':TT}{rest:List Expr}
def Ae0 (t u:TT):TT:=fun σ H Q=>t σ H fun c H1=>if c=true then u σ H1 Q else Q false H1
def tOr (t u:TT):TT:=fun σ H Q=>t σ H fun c H1=>if c=true then Q true H1 else u σ H1 Q
def Aen (t:TT):TT:=fun σ H Q=>t σ H fun c H1=>Q (!c) H1
theorem Nk (ha:PT X a tA):PW X (.BoolOp .And [a] pos) tA:=by
  intro wh pins s σ H Q I h
  refine isTrue_and (thn (ha pins s σ H Q I h) fun c s1 e=> ?_)
  cases c with
  | true=>exact isTrue_and_nil e
  | false=>exact e
theorem Dv (ha:PT X a tA):PW X (.BoolOp .Or [a] pos) tA:=by
  intro wh pins s σ H Q I h
  refine isTrue_or (thn (ha pins s σ H Q I h) fun c s1 e=> ?_)
  cases c with
  | false=>exact isTrue_or_nil e
  | true=>exact e
theorem Qx (ha:PT X a tA) (hb:PW X (.BoolOp .And (b::rest) pos) tB'):PW X (.BoolOp .And (a::b::rest) pos) (Ae0 tA tB'):=by
  intro wh pins s σ H Q I h
  refine isTrue_and (thn (ha pins s σ H _ I h) fun c s1 ⟨H1,I1,q1⟩=> ?_)
  cases c with
  | true=>exact hb wh pins s1 σ H1 Q I1 q1
  | false=>exact⟨H1,I1,q1⟩
theorem Dn (ha:PT X a tA) (hb:PW X (.BoolOp .Or (b::rest) pos) tB'):PW X (.BoolOp .Or (a::b::rest) pos) (tOr tA tB'):=by
  intro wh pins s σ H Q I h
  refine isTrue_or (thn (ha pins s σ H _ I h) fun c s1 ⟨H1,I1,q1⟩=> ?_)
  cases c with
  | true=>exact⟨H1,I1,q1⟩
  | false=>exact hb wh pins s1 σ H1 Q I1 q1
theorem Dh (ha:PT X a tA):PT X (.UnaryOp .Not a pos) (Aen tA):=by
  intro pins s σ H Q I h
  exact isTrue_not (ha pins s σ H (fun c H1=>Q (!c) H1) I h)
def Aaw (ta tb:TE):TE:=fun σ H Q=>ta σ H fun x H1=>∃c,x= .bl c/\if c=true then tb σ H1 Q else Q (.bl false) H1
def Adw (ta tb:TE):TE:=fun σ H Q=>ta σ H fun x H1=>∃c,x= .bl c/\if c=true then Q (.bl true) H1 else tb σ H1 Q
def Aap (ta:TE):TE:=fun σ H Q=>ta σ H fun x H1=>∃c,x= .bl c/\Q (.bl (!c)) H1
theorem Kv {op}{t:TE} (h:PE X a t):PE X (.BoolOp op [a] pos) t:=fun pins s σ H Q I hw=>BoolOp_one (h pins s σ H Q I hw)
theorem Mg (ha:PE X a ta) (hb:PE X (.BoolOp .And (b::rest) pos) tb):PE X (.BoolOp .And (a::b::rest) pos) (Aaw ta tb):=by
  intro pins s σ H Q I h
  refine BoolOp_and (thn (ha pins s σ H _ I h) fun v s1 ⟨x,H1,I1,r1,q1⟩=> ?_)
  obtain⟨c,rfl,q1⟩:=q1
  cases r1
  refine wpAny_truthy_bool ?_
  cases c with
  | true=>exact hb pins s1 σ H1 Q I1 q1
  | false=>exact⟨.bl false,H1,I1,rfl,q1⟩
theorem Aaa (ha:PE X a ta) (hb:PE X (.BoolOp .Or (b::rest) pos) tb):PE X (.BoolOp .Or (a::b::rest) pos) (Adw ta tb):=by
  intro pins s σ H Q I h
  refine BoolOp_or (thn (ha pins s σ H _ I h) fun v s1 ⟨x,H1,I1,r1,q1⟩=> ?_)
  obtain⟨c,rfl,q1⟩:=q1
  cases r1
  refine wpAny_truthy_bool ?_
  cases c with
  | false=>exact hb pins s1 σ H1 Q I1 q1
  | true=>exact⟨.bl true,H1,I1,rfl,q1⟩
theorem Qt (ha:PE X a ta):PE X (.UnaryOp .Not a pos) (Aap ta):=by
  intro pins s σ H Q I h
  refine UnaryOp_ (thn (ha pins s σ H _ I h) fun v s1 ⟨x,H1,I1,r1,q1⟩=> ?_)
  obtain⟨c,rfl,q1⟩:=q1
  cases r1
  exact not_of (wpAny_truthy_bool ⟨.bl (!c),H1,I1,rfl,q1⟩)
def tIf (t:TT) (ta tb:TE):TE:=fun σ H Q=>t σ H fun c H1=>if c=true then ta σ H1 Q else tb σ H1 Q
theorem Iw {c:Expr} (hc:PT X c tA) (ha:PE X a ta) (hb:PE X b tb):PE X (.IfExp c a b pos) (tIf tA ta tb):=by
  intro pins s σ H Q I h
  refine wpAny_IfExp (thn (hc pins s σ H _ I h) fun d s1 ⟨H1,I1,q1⟩=> ?_)
  cases d with
  | true=>exact ha pins s1 σ H1 Q I1 q1
  | false=>exact hb pins s1 σ H1 Q I1 q1
end
end L2
namespace L2
open PySem PySem.Spec PyProof.Rows
def SqL (K:PySem.W.Frag) (H:Hp) (a:Addr) (xs:List V):Prop:=
  Rd H a (.lst xs)\/
    ∃(o:Obj) (its:Array Value) (n:Nat),K.lookup a=some o/\o.cls= .type "list"/\o.dict=none/\o.data= .seq its n/\its.size<=sizeLine/\Vals xs its.toList
def SqT (K:PySem.W.Frag) (H:Hp) (a:Addr) (xs:List V):Prop:=
  Rd H a (.tup xs)\/
    ∃(o:Obj) (its:Array Value) (n:Nat),K.lookup a=some o/\o.cls= .type "tuple"/\o.data= .seq its n/\its.size<=sizeLine/\Vals xs its.toList
def Afp:Value->Option V
  | .none=>some .non
  | .bool b=>some (.bl b)
  | .int i _=>some (.int i)
  | .str x _=>some (.str x)
  | .bytes b _=>some (.byt b)
  | .float b _=>some (.flt b)
  | .ref a=>some (.ref a)
  | .type n=>some (.ty n)
  | _=>none
theorem RelV.abs {x:V}{u:Value} (r:RelV x u):Afp u=some x:=by
  cases x with
  | non=>cases r;rfl
  | bl _=>cases r;rfl
  | int _=>obtain⟨t,rfl⟩:=r;rfl
  | str _=>obtain⟨t,rfl⟩:=r;rfl
  | byt _=>obtain⟨t,rfl⟩:=r;rfl
  | flt _=>obtain⟨t,rfl⟩:=r;rfl
  | ref _=>cases r;rfl
  | ty _=>cases r;rfl
theorem RelV.inj {x y:V}{u:Value} (r:RelV x u) (q:RelV y u):x=y:=Option.some.inj (r.abs.symm.trans q.abs)
theorem Vals.inj:∀ {xs ys:List V}{us:List Value},Vals xs us->Vals ys us->xs=ys
  | _,_,_,.nil,.nil=>rfl
  | _,_,_,.cons r t,.cons r' t'=>by rw [r.inj r',Vals.inj t t']
section
variable {X:Cx}{pins:List (Addr × Obj)}{σ:St}{H:Hp}{s:Shared}{a:Addr}{xs ys:List V}
theorem SqL.of {K:PySem.W.Frag} (h:H a=some (.lst xs)):SqL K H a xs:= .inl (.inl h)
theorem SqT.of {K:PySem.W.Frag} (h:H a=some (.tup xs)):SqT K H a xs:= .inl (.inl h)
theorem Inv.list (I:Inv X pins σ H s) (h:SqL X.K H a xs):∃its:List Value,Vals xs its/\PlainL s.heap a its.toArray/\xs.length<=sizeLine:=by
  rcases h with h | ⟨o,its,n,hk,hc,hd,hs,hz,r⟩
  . obtain⟨z,its,n,r,e⟩:=h.ok I.hok
    exact⟨its,r,⟨_,n,e,rfl,rfl,rfl⟩,z⟩
  . refine⟨its.toList,r,⟨o,n,I.kIn a o hk,hc,hd,by simpa using hs⟩,?_⟩
    have e:=r.length
    simp only [Array.length_toList]at e
    omega
theorem Inv.tuple (I:Inv X pins σ H s) (h:SqT X.K H a xs):∃its:List Value,Vals xs its/\IsTup s.heap a its.toArray/\xs.length<=sizeLine:=by
  rcases h with h | ⟨o,its,n,hk,hc,hs,hz,r⟩
  . obtain⟨z,its,r,p⟩:=h.ok I.hok
    exact⟨its,r,p,z⟩
  . refine⟨its.toList,r,⟨o,I.kIn a o hk,hc,n,by simpa using hs⟩,?_⟩
    have e:=r.length
    simp only [Array.length_toList]at e
    omega
theorem Inv.list_inj (I:Inv X pins σ H s) (h:SqL X.K H a xs) (h':SqL X.K H a ys):xs=ys:=by
  obtain⟨its,r,⟨o,n,e,_,_,d⟩,_⟩:=I.list h
  obtain⟨its',r',⟨o',n',e',_,_,d'⟩,_⟩:=I.list h'
  rw [e]at e';cases e'
  rw [d]at d'
  injection d' with d1 _
  have:its=its':=by simpa using congrArg Array.toList d1
  subst this
  exact r.inj r'
theorem Inv.tuple_inj (I:Inv X pins σ H s) (h:SqT X.K H a xs) (h':SqT X.K H a ys):xs=ys:=by
  obtain⟨its,r,⟨o,e,_,n,d⟩,_⟩:=I.tuple h
  obtain⟨its',r',⟨o',e',_,n',d'⟩,_⟩:=I.tuple h'
  rw [e]at e';cases e'
  rw [d]at d'
  injection d' with d1 _
  have:its=its':=by simpa using congrArg Array.toList d1
  subst this
  exact r.inj r'
end
abbrev Cx.wish (X:Cx) (E:Value->Shared->Prop):Cx:={ X with xe:=E}
abbrev Cx.nox (X:Cx):Cx:=X.wish fun _ _=>False
theorem Cx.Ok.wish {X:Cx} (ok:X.Ok) (E:Value->Shared->Prop):(X.wish E).Ok:=
  ⟨ok.mod,ok.kind,ok.glob,ok.blt,ok.above,ok.inj,ok.has,ok.cab,ok.hd,ok.frames,ok.stk,ok.exf,ok.bs,ok.bsz,ok.noex,ok.exfs,ok.funs,ok.frf⟩
theorem Cx.Ok.unwish {X:Cx}{E:Value->Shared->Prop} (ok:(X.wish E).Ok):X.Ok:=
  ⟨ok.mod,ok.kind,ok.glob,ok.blt,ok.above,ok.inj,ok.has,ok.cab,ok.hd,ok.frames,ok.stk,ok.exf,ok.bs,ok.bsz,ok.noex,ok.exfs,ok.funs,ok.frf⟩
section
variable {X:Cx}{pins:List (Addr × Obj)}{σ:St}{H:Hp}{s:Shared}{E:Value->Shared->Prop}
theorem Inv.wish (I:Inv X pins σ H s) (E:Value->Shared->Prop):Inv (X.wish E) pins σ H s:=⟨I.ok.wish E,I.os,I.bare,I.base,I.loc,I.cell,I.free,I.freeC,I.pin,I.hok,I.len⟩
theorem Inv.unwish (I:Inv (X.wish E) pins σ H s):Inv X pins σ H s:=⟨I.ok.unwish,I.os,I.bare,I.base,I.loc,I.cell,I.free,I.freeC,I.pin,I.hok,I.len⟩
theorem SP.unwish {D:Ends}{f:Flow}{s':Shared} (h:SP (X.wish E) pins D f s'):SP X pins D f s':=by
  cases f with
  | next=>obtain⟨σ',H',I,q⟩:=h;exact⟨σ',H',I.unwish,q⟩
  | brk=>obtain⟨σ',H',I,q⟩:=h;exact⟨σ',H',I.unwish,q⟩
  | cont=>obtain⟨σ',H',I,q⟩:=h;exact⟨σ',H',I.unwish,q⟩
  | ret u=>obtain⟨v,σ',H',I,r,q⟩:=h;exact⟨v,σ',H',I.unwish,r,q⟩
theorem PE.nox {e:Expr}{t:TE} (h:PE X.nox e t):PE X e t:=fun pins s σ H Q I hw=>
  wpAny_mono (h pins s σ H Q (I.wish _) hw) (fun _ _ ⟨v,H',I',r,q⟩=>⟨v,H',I'.unwish,r,q⟩) fun _ _ z=>False.elim z
theorem PT.nox {e:Expr}{t:TT} (h:PT X.nox e t):PT X e t:=fun pins s σ H Q I hw=>
  wpAny_mono (h pins s σ H Q (I.wish _) hw) (fun _ _ ⟨H',I',q⟩=>⟨H',I'.unwish,q⟩) fun _ _ z=>False.elim z
theorem PSs.nox {st:List Stmt}{t:TS} (h:PSs X.nox st t):PSs X st t:=fun pins s σ H D I hw=>
  wpAny_mono (h pins s σ H D (I.wish _) hw) (fun _ _ q=>q.unwish) fun _ _ z=>False.elim z
end
section
variable {X:Cx}{st:Stmt}{rest:List Stmt}{t u:TS}{e:Expr}{te:TE}{pos:Pos}
def Aa7:TS:=fun D σ H=>D.nx σ H
def Adi (t u:TS):TS:=fun D σ H=>t { D with nx:=u D} σ H
theorem Ax:PSs X [] Aa7:=fun _ _ σ H _ I h=>wpAny_execs_nil ⟨σ,H,I,h⟩
theorem Ad (h1:PS X st t) (h2:PSs X rest u):PSs X (st::rest) (Adi t u):=by
  intro pins s σ H D I h
  refine wpAny_execs_cons (thn (h1 pins s σ H { D with nx:=u D} I h) fun f s1 q=> ?_)
  cases f with
  | next=>
    obtain⟨σ',H',I',q⟩:=q
    exact h2 pins s1 σ' H' D I' q
  | ret v=>exact q
  | brk=>exact q
  | cont=>exact q
theorem Ae (h1:PS X st t):PSs X [st] t:=by
  intro pins s σ H D I h
  refine wpAny_execs_cons (thn (h1 pins s σ H D I h) fun f s1 q=> ?_)
  cases f with
  | next=>exact wpAny_execs_nil q
  | ret v=>exact q
  | brk=>exact q
  | cont=>exact q
theorem Inv.quiet {pins:List (Addr × Obj)}{σ:St}{H:Hp}{s:Shared} (I:Inv X pins σ H s):interactive X.env=false:=by simp [interactive,I.ok.kind]
def Aa2 (te:TE):TS:=fun D σ H=>te σ H fun _ H1=>D.nx σ H1
theorem Ji (he:PE X e te) (hs:swapsWith e none pos.line X.env=pure false:=by rfl):PS X (.Expr e pos) (Aa2 te):=by
  intro pins s σ H D I h
  exact wpAny_Expr_any (thn (he pins s σ H _ I h) fun v s1 ⟨x,H1,I1,r1,q1⟩=>⟨σ,H1,I1,q1⟩) I.quiet hs
def Aes (te:TE):TS:=fun D σ H=>te σ H D.rt
theorem Al (he:PE X e te):PS X (.Return (some e) pos) (Aes te):=by
  intro pins s σ H D I h
  exact wpAny_Return_some (thn (he pins s σ H _ I h) fun v s1 ⟨x,H1,I1,r1,q1⟩=>⟨x,σ,H1,I1,r1,q1⟩)
def Aea (c:TT) (t u:TS):TS:=fun D σ H=>c σ H fun b H1=>if b=true then t D σ H1 else u D σ H1
theorem Bm {c:Expr}{a b:List Stmt}{tc:TT} (hc:PT X c tc) (ha:PSs X a t) (hb:PSs X b u):PS X (.If c a b pos) (Aea tc t u):=by
  intro pins s σ H D I h
  refine wpAny_If (thn (hc pins s σ H _ I h) fun d s1 ⟨H1,I1,q1⟩=> ?_)
  cases d with
  | true=>exact ha pins s1 σ H1 D I1 q1
  | false=>exact hb pins s1 σ H1 D I1 q1
def Z0:TS:=fun _ _ _=>False
theorem Ow:PS X st Z0:=fun _ _ _ _ _ _ h=>h.elim
end
abbrev TG:=V->St->Hp->(St->Hp->Prop)->Prop
abbrev TGs:=List V->St->Hp->(St->Hp->Prop)->Prop
def PG (X:Cx) (target:Expr) (t:TG):Prop:=
  ∀(pins:List (Addr × Obj)) (s:Shared) (σ:St) (H:Hp) (v:V) (u:Value) (Q:St->Hp->Prop),Inv X pins σ H s->RelV v u->t v σ H Q->
    wpAny (model X.prog X.w) X.A (assign target X.env u) (fun _ s'=>∃σ' H',Inv X pins σ' H' s'/\Q σ' H') X.xe s
def PGs (X:Cx) (ts:List Expr) (t:TGs):Prop:=
  ∀(pins:List (Addr × Obj)) (s:Shared) (σ:St) (H:Hp) (vs:List V) (us:List Value) (Q:St->Hp->Prop),Inv X pins σ H s->Vals vs us->t vs σ H Q->
    wpAny (model X.prog X.w) X.A (assignInOrder ((assignEach ts X.env).map (·.2)) us) (fun _ s'=>∃σ' H',Inv X pins σ' H' s'/\Q σ' H') X.xe s
abbrev Ae8:=V->V->V->Hp->(Hp->Prop)->Prop
section
variable {X:Cx}{pos:Pos}
def R8 (i:Nat):TG:=fun v σ H Q=>Q (σ.set i (some v)) H
theorem Aq {i:Nat}{x:Str} (hN:X.N.Nodup) (hi:X.N[i]? =some x) (hx:Loc X.env.scope x) (hf:X.fn x=true\/X.env.scope.names.lookup x=some .local :=by first | exact .inl rfl | exact .inr rfl | assumption):PG X (.Name x pos) (R8 i):=by
  intro pins s σ H v u Q I r h
  exact wpAny_assign_Name (Mq I hN hi hx r (fun s' I'=>⟨_,H,I',h⟩) hf)
def Ae1:TGs:=fun vs σ H Q=>vs=[]/\Q σ H
def Yz (t:TG) (u:TGs):TGs:=fun vs σ H Q=>∃v r,vs=v::r/\t v σ H fun σ' H'=>u r σ' H' Q
theorem Bq:PGs X [] Ae1:=by
  intro pins s σ H vs us Q I r h
  obtain⟨e,h⟩:=h
  subst e
  cases r
  exact assignInOrder_nil ⟨σ,H,I,h⟩
theorem Ao {e:Expr}{es:List Expr}{t:TG}{u:TGs} (h1:PG X e t) (h2:PGs X es u)
    (hs:(assignEach (e::es) X.env).map (·.2)=assign e X.env::(assignEach es X.env).map (·.2):=by rfl):PGs X (e::es) (Yz t u):=by
  intro pins s σ H vs us Q I r h
  obtain⟨v,vr,e1,h⟩:=h
  subst e1
  cases r with
  | cons r rr=>
    rw [hs]
    refine assignInOrder_cons (thn (h1 pins s σ H _ _ _ I r h) fun _ s1 ⟨σ1,H1,I1,q1⟩=> ?_)
    exact h2 pins s1 σ1 H1 _ _ Q I1 rr q1
def Acu (K:PySem.W.Frag) (n:Nat) (t:TGs):TG:=fun v σ H Q=>∃a xs,v= .ref a/\SqT K H a xs/\xs.length=n/\t xs σ H Q
theorem Cr {es:List Expr}{k:Nat}{t:TGs}{n:Nat} (hc:X.calm=true) (h:PGs X es t)
    (hn:(assignEach es X.env).length=n:=by rfl) (hst:(assignEach es X.env).findIdx? (·.1)=none:=by rfl):PG X (.Tuple es k pos) (Acu X.K n t):=by
  intro pins s σ H v u Q I r hw
  obtain⟨a,xs,e1,hq,hl,hw⟩:=hw
  subst e1
  cases r
  obtain⟨its,rv,ht,hz⟩:=I.tuple hq
  refine assign_Tuple_tuple (I.ok.hd hc) ht (by simp [hn,<-hl,rv.length]) hst fun h' hx=> ?_
  have I1:Inv X pins σ H { s with heap:=h'}:=I.kept (t':=s.toks) fun b o e=>hx b o (Nat.ne_of_lt (Heap.lt_size e)) e
  exact h pins _ σ H xs _ Q I1 (by simpa using rv) hw
def Aft (to ti:TE) (t:Ae8):TG:=fun v σ H Q=>to σ H fun o H1=>ti σ H1 fun i H2=>t o i v H2 fun H3=>Q σ H3
def Ab5 (te:TE) (g:TG):TS:=fun D σ H=>te σ H fun x H1=>g x σ H1 D.nx
theorem El {tg e:Expr}{te:TE}{g:TG} (he:PE X e te) (hg:PG X tg g) (hs:swapsWithSole [tg] e pos.line X.env=pure false:=by rfl) (hw:swappedStores [tg] e X.env=pure none:=by rfl)
    (h1:(assignEach [tg] X.env).map (·.2)=[assign tg X.env]:=by rfl):PS X (.Assign [tg] e pos) (Ab5 te g):=by
  intro pins s σ H D I h
  refine wpAny_Assign_stores (thn (he pins s σ H _ I h) fun v s1 ⟨x,H1,I1,r1,q1⟩=> ?_) hs hw
  rw [h1]
  exact thn (hg pins s1 σ H1 x v _ I1 r1 q1) fun _ s2 q=>q
theorem Ai {i:Nat}{x:Str}{e:Expr}{te:TE}{pos':Pos} (hN:X.N.Nodup) (hi:X.N[i]? =some x) (hx:Loc X.env.scope x) (he:PE X e te) (hs:swapsWith e (some (.Name x pos')) pos.line X.env=pure false:=by rfl) (hf:X.fn x=true\/X.env.scope.names.lookup x=some .local :=by first | exact .inl rfl | exact .inr rfl | assumption):
    PS X (.Assign [.Name x pos'] e pos) (Ab5 te (R8 i)):=by
  intro pins s σ H D I h
  refine wpAny_Assign_Name (thn (he pins s σ H _ I h) fun v s1 ⟨y,H1,I1,r1,q1⟩=> ?_) hs
  exact Mq I1 hN hi hx r1 (fun s2 I2=>⟨_,H1,I2,q1⟩) hf
def Adp (i j:Nat) (ta:TA):TS:=fun D σ H=>ta σ H fun vs H1=>∃v w,vs=[v,w]/\D.nx ((σ.set i (some v)).set j (some w)) H1
theorem Ti {i j:Nat}{x y:Str}{a b:Expr}{ta:TA}{px py pt:Pos}{kt k2 pt2} (hc:X.calm=true) (hN:X.N.Nodup) (hi:X.N[i]? =some x) (hj:X.N[j]? =some y) (hij:i≠j)
    (hx:X.env.scope.names.lookup x=some .local) (hy:X.env.scope.names.lookup y=some .local) (ha:PA X [a,b] ta)
    (hw:swappedStores [.Tuple [.Name x px,.Name y py] kt pt] (.Tuple [a,b] k2 pt2) X.env=pure (some [x,y]))
    (hs:swapsWithSole [.Tuple [.Name x px,.Name y py] kt pt] (.Tuple [a,b] k2 pt2) pos.line X.env=pure false:=by rfl):
    PS X (.Assign [.Tuple [.Name x px,.Name y py] kt pt] (.Tuple [a,b] k2 pt2) pos) (Adp i j ta):=by
  intro pins s σ H D I h
  rw [exec_Assign_arm]
  refine wpAny_bind (wpAny_standAt ?_)
  rw [hs]
  refine wpAny_bind (wpAny_pure ?_)
  rw [if_neg (by decide)]
  refine wpAny_bind (Tuple_ (thn (ha _ pins s σ H _ I h) fun us s1 ⟨vs,H1,I1,r1,q1⟩=> ?_))
  obtain⟨v,w,e1,q1⟩:=q1
  subst e1
  obtain⟨u1,u2,rfl,rv,rw'⟩:∃u1 u2,us=[u1,u2]/\RelV v u1/\RelV w u2:=by
    cases r1 with
    | cons p q=>
      cases q with
      | cons p' q'=>
        cases q'
        exact⟨_,_,rfl,p,p'⟩
  refine wpAny_newObj_type ?_ (by show 2<=sizeLine;decide)
  have I2:Inv X pins σ H1 { s1 with heap:=s1.heap.push { cls:= .type "tuple",data:= .seq [u1,u2].toArray}}:=I1.kept (t':=s1.toks) fun b o e=>Heap.get?_push_of_some _ e
  rw [hw]
  refine wpAny_bind (wpAny_pure ?_)
  show wpAny (model X.prog X.w) X.A (do rule "assign.swapped-stores";let items<-unpackItems (.ref s1.heap.objs.size) 2 none;assignInOrder [fun v=>bindName X.env y v,fun v=>bindName X.env x v] items.reverse;pure Flow.next) _ _ _
  refine wpAny_bind (wpAny_rule (wpAny_bind (unpackItems_tuple (items:= #[u1,u2]) (I.ok.hd hc) (IsTup.new s1.heap _) fun h' hx'=> ?_)))
  have I3:=I2.kept (h':=h') (t':=s1.toks) fun b o e=>hx' b o (Nat.ne_of_lt (Heap.lt_size e)) e
  show wpAny _ _ (assignInOrder [fun v=>bindName X.env y v,fun v=>bindName X.env x v] [u2,u1]>>=fun _=>pure Flow.next) _ _ _
  refine wpAny_bind (assignInOrder_cons (wpAny_bindName (Mq I3 hN hj (.inl hy) rw' (fun s2 I4=> ?_) (.inr hy))))
  refine assignInOrder_cons (wpAny_bindName (Mq I4 hN hi (.inl hx) rv (fun s3 I5=>assignInOrder_nil (wpAny_pure ?_)) (.inr hx)))
  rw [List.set_comm _ _ (Ne.symm hij)]at I5
  exact⟨_,H1,I5,q1⟩
end
section
variable {X:Cx}{pos:Pos}
def Tv (c:TT) (tb:TS):TS:=fun D σ H=>∃W:Nat->St->Hp->Prop,(∃m,W m σ H)/\∀m σ H,W m σ H->
  c σ H fun b H1=>if b=true then ∃N:St->Hp->Prop,(∀σ' H',N σ' H'->∃m',m'<m/\W m' σ' H')/\tb { D with nx:=N,ct:=N,bk:=D.nx} σ H1 else D.nx σ H1
theorem Ho {c:Expr}{body:List Stmt}{tc:TT}{tb:TS} (hp:PassesOwn (model X.prog X.w) X.A X.env X.xe) (hc:PT X c tc) (hb:PSs X body tb):PS X (.While c body [] pos) (Tv tc tb):=by
  intro pins s σ H D I h
  obtain⟨W,⟨m0,w0⟩,turn⟩:=h
  refine wpAny_While (codeAny_whileLoop (fun n s'=>∃σ' H',Inv X pins σ' H' s'/\W n σ' H') ?_ m0 ⟨σ,H,I,w0⟩)
  rintro n s1 ⟨σ1,H1,I1,w1⟩
  refine wpAny_passesOwn hp (thn (hc pins s1 σ1 H1 _ I1 (turn n σ1 H1 w1)) fun b s2 ⟨H2,I2,q2⟩=> ?_)
  cases b with
  | true=>
    obtain⟨N,hN,q2⟩:=q2
    rw [if_pos rfl]
    refine wpAny_passesOwn hp (thn (hb pins s2 σ1 H2 _ I2 q2) fun f s3 q3=> ?_)
    cases f with
    | next=>
      obtain⟨σ3,H3,I3,n3⟩:=q3
      obtain⟨m',hm,w3⟩:=hN σ3 H3 n3
      exact⟨m',hm,σ3,H3,I3,w3⟩
    | cont=>
      obtain⟨σ3,H3,I3,n3⟩:=q3
      obtain⟨m',hm,w3⟩:=hN σ3 H3 n3
      exact⟨m',hm,σ3,H3,I3,w3⟩
    | brk=>exact q3
    | ret v=>exact q3
  | false=>
    rw [if_neg Bool.false_ne_true]
    exact wpAny_execs_nil ⟨σ1,H2,I2,q2⟩
end
structure It where
  go:Nat->Hp->Prop
  yld:Nat->Hp->V->Hp->Prop
  stop:Nat->Hp->Prop
def Q5 (X:Cx) (pins:List (Addr × Obj)) (H:Hp) (b:Addr):Prop:=
  H b=none/\b≠X.env.locals/\b∉X.fs/\(b∈X.ex\/X.s₀.heap.objs.size<=b)/\(∀x c,X.env.cells.lookup x=some c->c≠b)/\∀p∈X.pn++pins,p.1≠b
theorem Inv.fpOk {X:Cx}{pins:List (Addr × Obj)}{σ:St}{H H':Hp}{s:Shared}{b:Addr} (I:Inv X pins σ H s) (hb:s.heap.objs.size<=b) (hn:H' b=none):Q5 X pins H' b:=by
  refine⟨hn,Nat.ne_of_gt (Nat.lt_of_lt_of_le I.lt hb),I.nofs hb,.inr (Nat.le_trans I.sz hb),fun x c e z=> ?_,fun p hp z=> ?_⟩
  . obtain⟨v,q⟩:=I.cell x c e
    exact absurd (Nat.lt_of_lt_of_le q.lt (by rw [z];exact hb)) (Nat.lt_irrefl _)
  . exact absurd (Nat.lt_of_lt_of_le (Heap.lt_size (I.pin p hp).1) (by rw [z];exact hb)) (Nat.lt_irrefl _)
structure Turn (P:Program) (w:World) (K:PySem.W.Frag) (tg:Expr) (J:It) (fp:List Addr) (it:Addr) (tn:Nat->Heap->Prop):Prop where
  mem:it∈fp
  obj:∀i h,tn i h->∀b∈fp,∃o,h.get? b=some o/\∀v,o.data≠ .cell v
  keep:∀i h h',tn i h->(∀b∈fp,∀o,h.get? b=some o->h'.get? b=some o)->tn i h'
  item:∀(X:Cx),X.prog=P->X.w=w->X.K=K->X.calm=true->∀(i:Nat) (pins:List (Addr × Obj)) (s:Shared) (σ:St) (H:Hp) (E:Value->Shared->Prop),Inv X pins σ H s->(∀b∈fp,Q5 X pins H b)->tn i s.heap->J.go i H->
    wpAny (model P w) X.A (pyNext (.ref it)) (fun r s1=>∃u,r=some u/\
      wpAny (model P w) X.A (letOwnedTupleGo tg (.ref it) u) (fun _ s2=>∃x H',Inv X pins σ H' s2/\RelV x u/\J.yld i H x H'/\tn (i+1) s2.heap/\∀b∈fp,H' b=none) E s1) E s
  done:∀(X:Cx),X.prog=P->X.w=w->X.K=K->X.calm=true->∀(i:Nat) (pins:List (Addr × Obj)) (s:Shared) (σ:St) (H:Hp) (E:Value->Shared->Prop),Inv X pins σ H s->(∀b∈fp,Q5 X pins H b)->tn i s.heap->J.stop i H->
    wpAny (model P w) X.A (pyNext (.ref it)) (fun r s1=>r=none/\Inv X pins σ H s1) E s
  self:∀(A:Around) (i:Nat) (s:Shared) (Q:Value->Shared->Prop) (E:Value->Shared->Prop),tn i s.heap->Q (.ref it) s->wpAny (model P w) A (pyIter (.ref it)) Q E s
abbrev TI:=St->Hp->(It->Hp->Prop)->Prop
def PIE (X:Cx) (pins:List (Addr × Obj)) (σ:St) (tg:Expr) (R:It->Hp->Prop) (itv:Value) (s2:Shared):Prop:=
  ∃(it:Addr) (fp:List Addr) (tn:Nat->Heap->Prop) (J:It) (H':Hp),itv= .ref it/\Inv X pins σ H' s2/\Turn X.prog X.w X.K tg J fp it tn/\tn 0 s2.heap/\(∀b∈fp,Q5 X pins H' b)/\R J H'
def PI (X:Cx) (tg iter:Expr) (wi:TI):Prop:=
  ∀(pins:List (Addr × Obj)) (s:Shared) (σ:St) (H:Hp) (R:It->Hp->Prop),Inv X pins σ H s->wi σ H R->
    wpAny (model X.prog X.w) X.A (eval iter X.env) (fun v s1=>wpAny (model X.prog X.w) X.A (pyIter v) (PIE X pins σ tg R) X.xe s1) X.xe s
theorem Aat {M:Model}{A:Around}{E:Value->Shared->Prop}{s:Shared}{tg:Expr}{it:Addr}{u:Value}{o:Obj}{n:String}{vs:Array Value}{Q:Unit->Shared->Prop} (ho:s.heap.get? it=some o) (hc:o.cls= .type n) (hd:o.data= .fields vs)
    (hn:["enumerate","zip","dict_itemiterator","dict_reverseitemiterator","odict_iterator","itertools.zip_longest","itertools.pairwise"].contains n=false) (hQ:Q () s):wpAny M A (letOwnedTupleGo tg (.ref it) u) Q E s:=by
  unfold letOwnedTupleGo
  cases tg<;>first
    | exact wpAny_pure hQ
    | (cases u<;>first
        | exact wpAny_pure hQ
        | (refine wpAny_bind (wpAny_load ho ?_)
           rw [hc,hd]
           show wpAny M A (if(["enumerate","zip","dict_itemiterator","dict_reverseitemiterator","odict_iterator","itertools.zip_longest","itertools.pairwise"].contains n&&vs[0]? ==some (rawInt _))=true then _ else _) Q E s
           rw [if_neg (by intro h;rw [hn,Bool.false_and]at h;cases h)]
           exact wpAny_pure hQ))
def Itl (K:PySem.W.Frag) (a:Addr):It:=
  ⟨fun i H=>∃xs x,SqL K H a xs/\xs[i]? =some x,fun i H x H'=>H'=H/\∀xs,SqL K H a xs->xs[i]? =some x,fun i H=>∃xs,SqL K H a xs/\xs.length<=i⟩
def Itt (K:PySem.W.Frag) (a:Addr):It:=
  ⟨fun i H=>∃xs x,SqT K H a xs/\xs[i]? =some x,fun i H x H'=>H'=H/\∀xs,SqT K H a xs->xs[i]? =some x,fun i H=>∃xs,SqT K H a xs/\xs.length<=i⟩
def Itr (lo:Int) (n:Nat):It:=⟨fun i _=>i<n,fun i H x H'=>H'=H/\x= .int (lo+i),fun i _=>n<=i⟩
theorem Qg {P:Program}{w:World}{K:PySem.W.Frag}{tg:Expr} (a it:Addr):Turn P w K tg (Itl K a) [it] it (fun i h=>h.IsListIter it a i) where
  mem:=by simp
  obj:=fun i h st b hb=>by
    have e:b=it:=by simpa using hb
    subst e
    obtain⟨o,e,c,d⟩:=st
    exact⟨o,e,fun v z=>by rw [d]at z;cases z⟩
  keep:=fun i h h' st k=>st.at fun o e=>k it (by simp) o e
  item:=by
    intro X hP hw hK hc i pins s σ H E I hf st hg
    subst hP hw hK
    obtain⟨xs,x,hq,hx⟩:=hg
    obtain⟨its,rv,p,hz⟩:=I.list hq
    obtain⟨u,hu,ru⟩:=rv.get hx
    obtain⟨f0,f1,f2,f3,f4,f5⟩:=hf it (by simp)
    refine wpAny_pyNext_list_item st p.isList (x:=u) (by simpa using hu) fun h' st' sb=> ?_
    have I1:Inv X pins σ H { s with heap:=h'}:=I.turned (t':=s.toks) (fun b o hb e=>(sb.2 b hb).trans e) f0 f1 f3 f4 f5
    obtain⟨o,e,c,d⟩:=id st'
    exact⟨u,rfl,Aat (s:={ s with heap:=h'}) e c d (by decide) ⟨x,H,I1,ru,⟨rfl,fun ys hy=>by rw [I.list_inj hy hq];exact hx⟩,st',fun b hb=>(hf b hb).1⟩⟩
  done:=by
    intro X hP hw hK hc i pins s σ H E I hf st hg
    subst hP hw hK
    obtain⟨xs,hq,hx⟩:=hg
    obtain⟨its,rv,p,hz⟩:=I.list hq
    obtain⟨f0,f1,f2,f3,f4,f5⟩:=hf it (by simp)
    have hl:=rv.length
    exact wpAny_pyNext_list_end (I.ok.hd hc) st p.isList (by simp;omega) fun h' eb=>⟨rfl,I.turned (t':=s.toks) (fun b o hb e=>eb b o hb e) f0 f1 f3 f4 f5⟩
  self:=fun _ _ _ _ _ st h=>wpAny_pyIter_listiter st h
theorem N6 {P:Program}{w:World}{K:PySem.W.Frag}{tg:Expr} (a it:Addr):Turn P w K tg (Itt K a) [it] it (fun i h=>h.IsTupleIter it a i) where
  mem:=by simp
  obj:=fun i h st b hb=>by
    have e:b=it:=by simpa using hb
    subst e
    obtain⟨o,e,c,d⟩:=st
    exact⟨o,e,fun v z=>by rw [d]at z;cases z⟩
  keep:=fun i h h' st k=>st.at fun o e=>k it (by simp) o e
  item:=by
    intro X hP hw hK hc i pins s σ H E I hf st hg
    subst hP hw hK
    obtain⟨xs,x,hq,hx⟩:=hg
    obtain⟨its,rv,p,hz⟩:=I.tuple hq
    obtain⟨u,hu,ru⟩:=rv.get hx
    obtain⟨f0,f1,f2,f3,f4,f5⟩:=hf it (by simp)
    refine wpAny_pyNext_tuple_item st (show s.heap.IsTuple a its.toArray from p) (x:=u) (by simpa using hu) fun h' st' sb=> ?_
    have I1:Inv X pins σ H { s with heap:=h'}:=I.turned (t':=s.toks) (fun b o hb e=>(sb.2 b hb).trans e) f0 f1 f3 f4 f5
    obtain⟨o,e,c,d⟩:=id st'
    exact⟨u,rfl,Aat (s:={ s with heap:=h'}) e c d (by decide) ⟨x,H,I1,ru,⟨rfl,fun ys hy=>by rw [I.tuple_inj hy hq];exact hx⟩,st',fun b hb=>(hf b hb).1⟩⟩
  done:=by
    intro X hP hw hK hc i pins s σ H E I hf st hg
    subst hP hw hK
    obtain⟨xs,hq,hx⟩:=hg
    obtain⟨its,rv,p,hz⟩:=I.tuple hq
    obtain⟨f0,f1,f2,f3,f4,f5⟩:=hf it (by simp)
    have hl:=rv.length
    exact wpAny_pyNext_tuple_end (I.ok.hd hc) st (show s.heap.IsTuple a its.toArray from p) (by simp;omega) fun h' eb=>⟨rfl,I.turned (t':=s.toks) (fun b o hb e=>eb b o hb e) f0 f1 f3 f4 f5⟩
  self:=fun _ _ _ _ _ st h=>wpAny_pyIter_tupleiter st h
theorem U4 {P:Program}{w:World}{K:PySem.W.Frag}{tg:Expr} (it:Addr) (lo:Int) (n:Nat):Turn P w K tg (Itr lo n) [it] it (fun i h=>IsRangeIter h it (lo+(i:Nat)*1) ((n:Int)-(i:Nat)) 1) where
  mem:=by simp
  obj:=fun i h st b hb=>by
    have e:b=it:=by simpa using hb
    subst e
    exact⟨_,st,fun v z=>by
      have z':Data.fields _=Data.cell v:=z
      cases z'⟩
  keep:=fun i h h' st k=>k it (by simp) _ st
  item:=by
    intro X hP hw hK hc i pins s σ H E I hf st hg
    subst hP hw hK
    obtain⟨f0,f1,f2,f3,f4,f5⟩:=hf it (by simp)
    have W:=Walks.range (prog:=X.prog) (w:=X.w) (I.ok.hd hc) it lo 1 n
    refine W.item i s _ _ hg st fun v h' tk hv st' kk=> ?_
    obtain⟨t,rfl⟩:=hv
    have I1:Inv X pins σ H { s with heap:=h',toks:=tk}:=I.turned (fun b o hb e=>kk b o (by simpa using hb) e) f0 f1 f3 f4 f5
    refine⟨_,rfl,Aat (s:={ s with heap:=h',toks:=tk}) (n:="range_iterator") st' rfl rfl (by decide) ⟨.int (lo+i),H,I1,⟨t,?_⟩,⟨rfl,rfl⟩,st',fun b hb=>(hf b hb).1⟩⟩
    rw [Int.mul_one]
  done:=by
    intro X hP hw hK hc i pins s σ H E I hf st hg
    subst hP hw hK
    obtain⟨f0,f1,f2,f3,f4,f5⟩:=hf it (by simp)
    exact wpAny_pyNext_range_end (I.ok.hd hc) st (by have:n<=i:=hg;omega) fun h' eb=>⟨rfl,I.turned (t':=s.toks) (fun b o hb e=>eb b o hb e) f0 f1 f3 f4 f5⟩
  self:=fun _ _ _ _ _ st h=>wpAny_pyIter_rangeiter st h
end L2
namespace L2
open PySem PySem.Spec PyProof.Rows
section
variable {X:Cx}{tg:Expr}
def Abg (K:PySem.W.Frag) (tl:TE):TI:=fun σ H R=>tl σ H fun x H1=>∃a,x= .ref a/\(∃xs,SqL K H1 a xs)/\R (Itl K a) H1
def Aek (K:PySem.W.Frag) (tl:TE):TI:=fun σ H R=>tl σ H fun x H1=>∃a,x= .ref a/\(∃xs,SqT K H1 a xs)/\R (Itt K a) H1
theorem Ld {l:Expr}{tl:TE} (hl:PE X l tl):PI X tg l (Abg X.K tl):=by
  intro pins s σ H R I h
  refine thn (hl pins s σ H _ I h) fun v s1 ⟨x,H1,I1,r1,q1⟩=> ?_
  obtain⟨a,e,⟨xs,hq⟩,q⟩:=q1
  subst e
  cases r1
  obtain⟨its,rv,p,hz⟩:=I1.list hq
  refine wpAny_pyIter_list p.isList ?_
  refine⟨s1.heap.objs.size,[s1.heap.objs.size],_,_,H1,rfl,I1.kept (t':=s1.toks) fun b o e=>Heap.get?_push_of_some _ e,Qg a _,⟨_,Heap.get?_push_size _ rfl,rfl,rfl⟩,fun b hb=> ?_,q⟩
  have e:b=s1.heap.objs.size:=by simpa using hb
  subst e
  exact I1.fpOk (Nat.le_refl _) (I1.hok.fresh (Nat.le_refl _))
theorem Kz {l:Expr}{tl:TE} (hl:PE X l tl):PI X tg l (Aek X.K tl):=by
  intro pins s σ H R I h
  refine thn (hl pins s σ H _ I h) fun v s1 ⟨x,H1,I1,r1,q1⟩=> ?_
  obtain⟨a,e,⟨xs,hq⟩,q⟩:=q1
  subst e
  cases r1
  obtain⟨its,rv,p,hz⟩:=I1.tuple hq
  refine wpAny_pyIter_tuple (show s1.heap.IsTuple a its.toArray from p) ?_
  refine⟨s1.heap.objs.size,[s1.heap.objs.size],_,_,H1,rfl,I1.kept (t':=s1.toks) fun b o e=>Heap.get?_push_of_some _ e,N6 a _,⟨_,Heap.get?_push_size _ rfl,rfl,rfl⟩,fun b hb=> ?_,q⟩
  have e:b=s1.heap.objs.size:=by simpa using hb
  subst e
  exact I1.fpOk (Nat.le_refl _) (I1.hok.fresh (Nat.le_refl _))
theorem Tr {pins:List (Addr × Obj)}{σ:St}{H:Hp}{s:Shared}{R:It->Hp->Prop}{E:Value->Shared->Prop}{lo hi:Int}{t u v:Tok}{tk:Nat} (I:Inv X pins σ H s) (h1: -(2^62)<=lo) (h2:lo<2^62) (h3: -(2^62)<=hi) (h4:hi<2^62)
    (q:R (Itr lo (hi-lo).toNat) H):wpAny (model X.prog X.w) X.A (pyIter (.ref s.heap.objs.size)) (PIE X pins σ tg R) E { s with heap:=s.heap.push { cls:= .type "range",data:= .fields #[.int lo t,.int hi u,.int 1 v]},toks:=tk}:=by
  refine wpAny_pyIter_range (IsRange.new ..) (small_one h1 h2 h3 h4) ?_
  have I1:Inv X pins σ H { s with heap:=s.heap.push { cls:= .type "range",data:= .fields #[.int lo t,.int hi u,.int 1 v]},toks:=tk}:=I.kept fun b o e=>Heap.get?_push_of_some _ e
  refine⟨(s.heap.push { cls:= .type "range",data:= .fields #[.int lo t,.int hi u,.int 1 v]}).objs.size,[(s.heap.push { cls:= .type "range",data:= .fields #[.int lo t,.int hi u,.int 1 v]}).objs.size],_,_,H,rfl,
    I1.kept (t':=tk) fun b o e=>Heap.get?_push_of_some _ e,U4 _ lo (hi-lo).toNat,?_,fun b hb=> ?_,q⟩
  . have e1:lo+((0:Nat):Int)*1=lo:=by simp
    have e2:(((hi-lo).toNat:Nat):Int)-((0:Nat):Int)=Builtin.Range.rangeSize lo hi 1:=by rw [rangeSize_one];split<;>omega
    show IsRangeIter _ _ (lo+((0:Nat):Int)*1) ((((hi-lo).toNat:Nat):Int)-((0:Nat):Int)) 1
    rw [e1,e2]
    exact Heap.get?_push_size _ rfl
  . have e:b=(s.heap.push { cls:= .type "range",data:= .fields #[.int lo t,.int hi u,.int 1 v]}).objs.size:=by simpa using hb
    subst e
    exact I1.fpOk (Nat.le_refl _) (I1.hok.fresh (Nat.le_refl _))
def Abq (ta:TA):TI:=fun σ H R=>ta σ H fun vs H1=>∃j:Int,vs=[.int j]/\ -(2^62)<=j/\j<2^62/\R (Itr 0 j.toNat) H1
def Abf (ta:TA):TI:=fun σ H R=>ta σ H fun vs H1=>∃i j:Int,vs=[.int i,.int j]/\(-(2^62)<=i/\i<2^62/\ -(2^62)<=j/\j<2^62)/\R (Itr i (j-i).toNat) H1
theorem G7 {a:Expr}{ta:TA}{p pos:Pos} (hg:Gl X "range") (hm:X.mg "range"=none) (ha:PA X [a] ta) (hs:starEach [a] X.env=[(false,eval a X.env)]:=by rfl):PI X tg (.Call (.Name "range" p) [a] [] pos) (Abq ta):=by
  intro pins s σ H R I h
  refine Call_ (Nt I hg hm boot_range (PyProof.Rows.callWith_type1 (thn (ha pos pins s σ H _ I h) fun us s1 ⟨vs,H1,I1,r1,q1⟩=> ?_) hs rfl))
  obtain⟨j,e,q1,q2,q⟩:=q1
  subst e
  cases r1 with
  | cons r rr=>
    cases rr
    obtain⟨t,rfl⟩:=r
    exact call_range_1 (Tr I1 (by omega) (by omega) q1 q2 (by simpa using q))
theorem Ig {a b:Expr}{ta:TA}{p pos:Pos} (hg:Gl X "range") (hm:X.mg "range"=none) (ha:PA X [a,b] ta) (hs:starEach [a,b] X.env=[(false,eval a X.env),(false,eval b X.env)]:=by rfl) (hs2:starEach [b] X.env=[(false,eval b X.env)]:=by rfl):
    PI X tg (.Call (.Name "range" p) [a,b] [] pos) (Abf ta):=by
  intro pins s σ H R I h
  refine Call_ (Nt I hg hm boot_range (PyProof.Rows.callWith_type1 (thn (ha pos pins s σ H _ I h) fun us s1 ⟨vs,H1,I1,r1,q1⟩=> ?_) (by rw [hs,hs2]) (by rw [hs2];rfl)))
  obtain⟨i,j,e,⟨q1,q2,q3,q4⟩,q⟩:=q1
  subst e
  cases r1 with
  | cons r rr=>
    cases rr with
    | cons r' rr=>
      cases rr
      obtain⟨t,rfl⟩:=r
      obtain⟨t',rfl⟩:=r'
      exact call_range_2 (Tr I1 q1 q2 q3 q4 q)
def Ad9 (wi:TI) (g:TG) (tb:TS):TS:=fun D σ H=>wi σ H fun J H1=>∃W:Nat->Nat->St->Hp->Prop,(∃m,W 0 m σ H1)/\∀i m σ H,W i m σ H->
  (J.stop i H/\D.nx σ H)\/(J.go i H/\∃N:St->Hp->Prop,(∀σ' H',N σ' H'->∃m',m'<m/\W (i+1) m' σ' H')/\∀x H',J.yld i H x H'->g x σ H' fun σ2 H2=>tb { D with nx:=N,ct:=N,bk:=D.nx} σ2 H2)
def Qj (fp:List Addr) (h:Heap):List (Addr × Obj):=fp.filterMap fun b=>(h.get? b).map fun o=>(b,o)
theorem Ja {fp:List Addr}{h:Heap}{b:Addr}{o:Obj} (hb:b∈fp) (e:h.get? b=some o):(b,o)∈Qj fp h:=List.mem_filterMap.mpr ⟨b,hb,by rw [e];rfl⟩
theorem Vs {fp:List Addr}{h:Heap}{p:Addr × Obj} (hp:p∈Qj fp h):p.1∈fp/\h.get? p.1=some p.2:=by
  obtain⟨b,hb,e⟩:=List.mem_filterMap.mp hp
  cases q:h.get? b with
  | none=>rw [q]at e;cases e
  | some o=>
    rw [q]at e
    have e':(b,o)=p:=Option.some.inj e
    subst e'
    exact⟨hb,q⟩
theorem Inv.pinned {pins:List (Addr × Obj)}{σ:St}{H:Hp}{s:Shared}{fp:List Addr} (I:Inv X pins σ H s) (hf:∀b∈fp,Q5 X pins H b) (ho:∀b∈fp,∃o,s.heap.get? b=some o/\∀v,o.data≠ .cell v):Inv X (pins++Qj fp s.heap) σ H s:=
  I.pins_of fun p hp=>(List.mem_append.mp hp).elim (fun z=>I.pin p (List.mem_append_right _ z)) fun z=>by
    obtain⟨hb,e⟩:=Vs z
    obtain⟨f0,f1,f2,_⟩:=hf p.1 hb
    obtain⟨o,e',d⟩:=ho p.1 hb
    rw [e]at e';cases e'
    exact⟨e,f0,f1,f2,d⟩
theorem Inv.unpinned {pins pl:List (Addr × Obj)}{σ:St}{H:Hp}{s:Shared} (I:Inv X (pins++pl) σ H s):Inv X pins σ H s:=I.pins_of fun p hp=>I.pin p (List.mem_append_right _ (List.mem_append_left _ hp))
theorem Gw {iter:Expr}{body:List Stmt}{wi:TI}{g:TG}{tb:TS}{pos:Pos} (hp:PassesOwn (model X.prog X.w) X.A X.env X.xe) (hc:X.calm=true) (hi:PI X tg iter wi) (hg:PG X tg g) (hb:PSs X body tb)
    (hs:∀x,foldedSetIterable iter X.env x=pure x:=by intro _;rfl):PS X (.For tg iter body [] pos) (Ad9 wi g tb):=by
  intro pins s σ H D I h
  refine wpAny_For (thn (hi pins s σ H _ I h) fun v s1 h1=>thn h1 fun itv s2 h2=> ?_) hs
  obtain⟨it,fp,tn,J,H2,e,I2,T,st2,f2,W,⟨m0,w0⟩,turn⟩:=h2
  subst e
  have stat:∀ {H':Hp},(∀b∈fp,H' b=none)->∀b∈fp,Q5 X pins H' b:=fun hn b hb=>⟨hn b hb,(f2 b hb).2⟩
  refine codeAny_forLoop_any (fun n s'=>∃i σ' H',Inv X pins σ' H' s'/\tn i s'.heap/\(∀b∈fp,H' b=none)/\W i n σ' H') ?_ m0 ⟨0,σ,H2,I2,st2,fun b hb=>(f2 b hb).1,w0⟩
  rintro n s3 ⟨i,σ3,H3,I3,st3,fr3,w3⟩
  rcases turn i n σ3 H3 w3 with⟨stop,qn⟩ | ⟨go,N,hN,step⟩
  . refine wpAny_passesOwn hp (thn (T.done X rfl rfl rfl hc i pins s3 σ3 H3 X.xe I3 (stat fr3) st3 stop) fun r s4 ⟨hr,I4⟩=> ?_)
    subst hr
    exact wpAny_execs_nil ⟨σ3,H3,I4,qn⟩
  . refine wpAny_passesOwn hp (thn (T.item X rfl rfl rfl hc i pins s3 σ3 H3 X.xe I3 (stat fr3) st3 go) fun r s4 ⟨u,hr,h4⟩=> ?_)
    subst hr
    refine wpAny_passesOwn hp (thn h4 fun _ s5 ⟨x,H5,I5,r5,y5,st5,fr5⟩=> ?_)
    have I5':=I5.pinned (stat fr5) (T.obj _ _ st5)
    refine wpAny_passesOwn hp (thn (hg _ s5 σ3 H5 x u _ I5' r5 (step x H5 y5)) fun _ s6 ⟨σ6,H6,I6,q6⟩=> ?_)
    refine wpAny_passesOwn hp (thn (hb _ s6 σ6 H6 _ I6 q6) fun f s7 q7=> ?_)
    have again:∀ {σ7:St}{H7:Hp},Inv X (pins++Qj fp s5.heap) σ7 H7 s7->N σ7 H7->∃m,m<n/\∃i σ' H',Inv X pins σ' H' s7/\tn i s7.heap/\(∀b∈fp,H' b=none)/\W i m σ' H':=fun {σ7 H7} I7 n7=>by
      obtain⟨m',hm,w7⟩:=hN σ7 H7 n7
      refine⟨m',hm,i+1,σ7,H7,I7.unpinned,T.keep _ _ _ st5 fun b hb o e=>(I7.pin (b,o) (List.mem_append_right _ (List.mem_append_right _ (Ja hb e)))).1,fun b hb=> ?_,w7⟩
      obtain⟨o,e,d⟩:=T.obj _ _ st5 b hb
      exact(I7.pin (b,o) (List.mem_append_right _ (List.mem_append_right _ (Ja hb e)))).2.1
    cases f with
    | next=>obtain⟨σ7,H7,I7,n7⟩:=q7;exact again I7 n7
    | cont=>obtain⟨σ7,H7,I7,n7⟩:=q7;exact again I7 n7
    | brk=>obtain⟨σ7,H7,I7,q7⟩:=q7;exact⟨σ7,H7,I7.unpinned,q7⟩
    | ret v=>obtain⟨x7,σ7,H7,I7,r7,q7⟩:=q7;exact⟨x7,σ7,H7,I7.unpinned,r7,q7⟩
end
theorem O7 {c:TT}{tb:TS}{D:Ends}{σ:St}{H:Hp} (Pv:St->Hp->Prop) (μ:St->Hp->Nat) (h0:Pv σ H)
    (hs:∀σ H,Pv σ H->c σ H fun b H1=>if b=true then tb { D with nx:=fun σ' H'=>Pv σ' H'/\μ σ' H'<μ σ H,ct:=fun σ' H'=>Pv σ' H'/\μ σ' H'<μ σ H,bk:=D.nx} σ H1 else D.nx σ H1)
    (mono:∀σ H Q Q',(∀b H1,Q b H1->Q' b H1)->c σ H Q->c σ H Q'):Tv c tb D σ H:=by
  refine⟨fun m σ H=>m=μ σ H/\Pv σ H,⟨_,rfl,h0⟩,?_⟩
  rintro m σ H ⟨rfl,p⟩
  refine mono σ H _ _ (fun b H1 q=> ?_) (hs σ H p)
  cases b with
  | true=>exact⟨_,fun σ' H' ⟨p',l⟩=>⟨_,l,rfl,p'⟩,q⟩
  | false=>exact q
end L2
namespace L2
open PySem PySem.Spec PyProof.Rows
abbrev R2:=V->V->Hp->VK->Prop
def OpR (X:Cx) (f:Value->Value->Sem Value) (r:R2):Prop:=
  ∀(pins:List (Addr × Obj)) (s:Shared) (σ:St) (H:Hp) (x y:V) (v u:Value) (Q:VK),Inv X pins σ H s->RelV x v->RelV y u->r x y H Q->
    wpAny (model X.prog X.w) X.A (f v u) (EP X pins σ Q) X.xe s
def UnR (X:Cx) (f:Value->Sem Value) (r:V->Hp->VK->Prop):Prop:=
  ∀(pins:List (Addr × Obj)) (s:Shared) (σ:St) (H:Hp) (x:V) (v:Value) (Q:VK),Inv X pins σ H s->RelV x v->r x H Q->
    wpAny (model X.prog X.w) X.A (f v) (EP X pins σ Q) X.xe s
def Hy (X:Cx) (f:Value) (r:List V->Hp->VK->Prop):Prop:=
  ∀(pins:List (Addr × Obj)) (s:Shared) (σ:St) (H:Hp) (xs:List V) (us:List Value) (Q:VK),Inv X pins σ H s->Vals xs us->r xs H Q->
    wpAny (model X.prog X.w) X.A (call f us) (EP X pins σ Q) X.xe s
def tOp (r:R2) (ta tb:TE):TE:=fun σ H Q=>ta σ H fun x H1=>tb σ H1 fun y H2=>r x y H2 Q
def tUn (r:V->Hp->VK->Prop) (ta:TE):TE:=fun σ H Q=>ta σ H fun x H1=>r x H1 Q
def rI (C:Int->Int->Prop) (g:Int->Int->V):R2:=fun x y H Q=>∃i j,x= .int i/\y= .int j/\C i j/\Q (g i j) H
def rI0 (g:Int->Int->V):R2:=fun x y H Q=>∃i j,x= .int i/\y= .int j/\Q (g i j) H
def rU (g:Int->V):V->Hp->VK->Prop:=fun x H Q=>∃i,x= .int i/\Q (g i) H
section
variable {X:Cx}{a b c:Expr}{ta tb tc:TE}{pos:Pos}
theorem Aeo (ha:PE X a ta) (hb:PE X b tb) {pins:List (Addr × Obj)}{s:Shared}{σ:St}{H:Hp}{R:V->V->Hp->Prop} (I:Inv X pins σ H s)
    (h:ta σ H fun x H1=>tb σ H1 fun y H2=>R x y H2) {Q:Value->Shared->Prop}{f:Value->Value->Sem Value}
    (hf:∀v u s2 x y H2,Inv X pins σ H2 s2->RelV x v->RelV y u->R x y H2->wpAny (model X.prog X.w) X.A (f v u) Q X.xe s2):
    wpAny (model X.prog X.w) X.A (eval a X.env) (fun v s₁=>wpAny (model X.prog X.w) X.A (eval b X.env) (fun u s₂=>wpAny (model X.prog X.w) X.A (f v u) Q X.xe s₂) X.xe s₁) X.xe s:=by
  refine thn (ha pins s σ H _ I h) fun v s1 ⟨x,H1,I1,r1,q1⟩=> ?_
  refine thn (hb pins s1 σ H1 _ I1 q1) fun u s2 ⟨y,H2,I2,r2,q2⟩=> ?_
  exact hf v u s2 x y H2 I2 r1 r2 q2
theorem Af {op:Operator}{r:R2} (ho:OpR X (binaryOp op) r) (ha:PE X a ta) (hb:PE X b tb):PE X (.BinOp a op b pos) (tOp r ta tb):=by
  intro pins s σ H Q I h
  exact wpAny_BinOp (Aeo ha hb I h fun v u s2 x y H2 I2 rx ry q=>ho pins s2 σ H2 x y v u Q I2 rx ry q)
theorem Jj {op:UnaryOp}{r:V->Hp->VK->Prop} (ho:UnR X (unaryOp op) r) (ha:PE X a ta):PE X (.UnaryOp op a pos) (tUn r ta):=by
  intro pins s σ H Q I h
  exact UnaryOp_ (thn (ha pins s σ H _ I h) fun v s1 ⟨x,H1,I1,r1,q1⟩=>ho pins s1 σ H1 x v Q I1 r1 q1)
theorem opI {f:Value->Value->Sem Value}{C:Int->Int->Prop}{g:Int->Int->Int}
    (rule:∀(i j:Int) (t u:Tok) (s:Shared) (Q:Value->Shared->Prop) (E:Value->Shared->Prop),C i j->Q (.int (g i j) s.toks) { s with toks:=s.toks+1}->wpAny (model X.prog X.w) X.A (f (.int i t) (.int j u)) Q E s):
    OpR X f (rI C fun i j=> .int (g i j)):=by
  intro pins s σ H x y v u Q I rx ry h
  obtain⟨i,j,rfl,rfl,hc,q⟩:=h
  obtain⟨t,rfl⟩:=rx
  obtain⟨t',rfl⟩:=ry
  exact rule i j t t' s _ _ hc ⟨.int (g i j),H,I.tok _,⟨_,rfl⟩,q⟩
theorem Ae7 {f:Value->Value->Sem Value}{g:Int->Int->Int}
    (rule:∀(i j:Int) (t u:Tok) (s:Shared) (Q:Value->Shared->Prop) (E:Value->Shared->Prop),Q (.int (g i j) s.toks) { s with toks:=s.toks+1}->wpAny (model X.prog X.w) X.A (f (.int i t) (.int j u)) Q E s):
    OpR X f (rI0 fun i j=> .int (g i j)):=by
  intro pins s σ H x y v u Q I rx ry h
  obtain⟨i,j,rfl,rfl,q⟩:=h
  obtain⟨t,rfl⟩:=rx
  obtain⟨t',rfl⟩:=ry
  exact rule i j t t' s _ _ ⟨.int (g i j),H,I.tok _,⟨_,rfl⟩,q⟩
theorem Adk {f:Value->Value->Sem Value}{g:Int->Int->Bool}
    (rule:∀(i j:Int) (t u:Tok) (s:Shared) (Q:Value->Shared->Prop) (E:Value->Shared->Prop),Q (.bool (g i j)) s->wpAny (model X.prog X.w) X.A (f (.int i t) (.int j u)) Q E s):
    OpR X f (rI0 fun i j=> .bl (g i j)):=by
  intro pins s σ H x y v u Q I rx ry h
  obtain⟨i,j,rfl,rfl,q⟩:=h
  obtain⟨t,rfl⟩:=rx
  obtain⟨t',rfl⟩:=ry
  exact rule i j t t' s _ _ ⟨.bl (g i j),H,I,rfl,q⟩
def Afr (i j:Int):Prop:=0<=j/\j<=1000000/\i.natAbs<2^64
def Afe (i j:Int):Prop:=(-(2^64)<i/\i<2^64)\/(-(2^64)<j/\j<2^64)
theorem Afe.ok {i j:Int} (h:Afe i j):IntMulOk i j:=by
  rcases h with⟨h1,h2⟩ | ⟨h1,h2⟩
  . exact .of_left (intBits_le_64 h1 h2)
  . exact .of_right (intBits_le_64 h1 h2)
theorem Cu:OpR X (binaryOp .Add) (rI0 fun i j=> .int (i+j)):=Ae7 fun _ _ _ _ _ _ _ q=>add_int q
theorem Ii:OpR X (binaryOp .Sub) (rI0 fun i j=> .int (i-j)):=Ae7 fun _ _ _ _ _ _ _ q=>sub_int q
theorem Ce:OpR X (binaryOp .Mod) (rI (fun _ j=>0<j) fun i j=> .int (i%j)):=opI fun i j _ _ _ _ _ hc q=>by
  have h1:(0:Int)<j:=hc
  exact mod_int' (by omega) (by rw [Int.fmod_eq_emod_of_nonneg i (by omega)];exact q)
theorem Mz:OpR X (binaryOp .Pow) (rI Afr fun i j=> .int (i^j.toNat)):=opI fun _ _ _ _ _ _ _ hc q=>pow_int_small hc.1 hc.2.1 hc.2.2 q
theorem unI {f:Value->Sem Value}{g:Int->Int}
    (rule:∀(i:Int) (t:Tok) (s:Shared) (Q:Value->Shared->Prop) (E:Value->Shared->Prop),Q (.int (g i) s.toks) { s with toks:=s.toks+1}->wpAny (model X.prog X.w) X.A (f (.int i t)) Q E s):
    UnR X f (rU fun i=> .int (g i)):=by
  intro pins s σ H x v Q I rx h
  obtain⟨i,rfl,q⟩:=h
  obtain⟨t,rfl⟩:=rx
  exact rule i t s _ _ ⟨.int (g i),H,I.tok _,⟨_,rfl⟩,q⟩
theorem G6:UnR X (unaryOp .USub) (rU fun i=> .int (-i)):=unI fun _ _ _ _ _ q=>neg_int q
end
def Aby:V->V->Bool
  | .non,.non=>true | .non,.int _=>true | .int _,.non=>true | .non,.bl _=>true | .bl _,.non=>true | .non,.str _=>true | .str _,.non=>true
  | .int _,.int _=>true | .bl _,.bl _=>true | .str _,.str _=>true | .byt _,.byt _=>true
  | .int _,.str _=>true | .str _,.int _=>true | .bl _,.str _=>true | .str _,.bl _=>true
  | _,_=>false
def rEq:R2:=fun x y H Q=>Aby x y=true/\Q (.bl (decide (x=y))) H
def rNe:R2:=fun x y H Q=>Aby x y=true/\Q (.bl (!decide (x=y))) H
theorem Xl {i j:Int}:decide (V.int i=V.int j)=(i==j):=by
  rw [Bool.eq_iff_iff]
  simp
theorem Zi {i j:Bool}:decide (V.bl i=V.bl j)=(i==j):=by
  rw [Bool.eq_iff_iff]
  simp
theorem Wo {i j:Str}:decide (V.str i=V.str j)=(i==j):=by
  rw [Bool.eq_iff_iff]
  simp
theorem W4 {i j:Array UInt8}:decide (V.byt i=V.byt j)=(i.toList==j.toList):=by
  rw [Bool.eq_iff_iff]
  cases i
  cases j
  simp
section
variable {X:Cx}{a b c:Expr}{ta tb tc:TE}{pos:Pos}
theorem Bl {pins:List (Addr × Obj)}{σ:St}{H:Hp}{s:Shared}{Q:VK}{k k':Bool} (I:Inv X pins σ H s) (q:Q (.bl k) H) (e:k=k'):EP X pins σ Q (.bool k') s:=by
  subst e
  exact⟨.bl k,H,I,rfl,q⟩
theorem Dr:OpR X (compareOp .Eq) rEq:=by
  intro pins s σ H x y v u Q I rx ry h
  obtain⟨hs,q⟩:=h
  cases x with
  | non=>
    cases rx
    cases y with
    | non=>cases ry;exact PySem.EqNone.eq_none_none (Bl I q (by simp))
    | bl j=>cases ry;exact PySem.EqNone.eq_none_bool (Bl I q (by simp))
    | int j=>obtain⟨t',rfl⟩:=ry;exact PySem.EqNone.eq_none_int (Bl I q (by simp))
    | str j=>obtain⟨t',rfl⟩:=ry;exact PySem.EqNone.eq_none_str (Bl I q (by simp))
    | _=>exact absurd (show false=true from hs) Bool.false_ne_true
  | bl i=>
    cases rx
    cases y with
    | non=>cases ry;exact PySem.EqNone.eq_bool_none (Bl I q (by simp))
    | bl j=>cases ry;exact eq_bool (Bl I q Zi)
    | str j=>obtain⟨t',rfl⟩:=ry;exact PySem.EqMixed.eq_bool_str (Bl I q (by simp))
    | _=>exact absurd (show false=true from hs) Bool.false_ne_true
  | int i=>
    obtain⟨t,rfl⟩:=rx
    cases y with
    | non=>cases ry;exact PySem.EqNone.eq_int_none (Bl I q (by simp))
    | int j=>obtain⟨t',rfl⟩:=ry;exact eq_int (Bl I q Xl)
    | str j=>obtain⟨t',rfl⟩:=ry;exact PySem.EqMixed.eq_int_str (Bl I q (by simp))
    | _=>exact absurd (show false=true from hs) Bool.false_ne_true
  | str i=>
    obtain⟨t,rfl⟩:=rx
    cases y with
    | non=>cases ry;exact PySem.EqNone.eq_str_none (Bl I q (by simp))
    | bl j=>cases ry;exact PySem.EqMixed.eq_str_bool (Bl I q (by simp))
    | int j=>obtain⟨t',rfl⟩:=ry;exact PySem.EqMixed.eq_str_int (Bl I q (by simp))
    | str j=>obtain⟨t',rfl⟩:=ry;exact eq_str (Bl I q Wo)
    | _=>exact absurd (show false=true from hs) Bool.false_ne_true
  | byt i=>
    obtain⟨t,rfl⟩:=rx
    cases y with
    | byt j=>obtain⟨t',rfl⟩:=ry;exact PySem.W.eq_bytes (Bl I q W4)
    | _=>exact absurd (show false=true from hs) Bool.false_ne_true
  | _=>cases y<;>exact absurd (show false=true from hs) Bool.false_ne_true
theorem Nr:OpR X (compareOp .NotEq) rNe:=by
  intro pins s σ H x y v u Q I rx ry h
  obtain⟨hs,q⟩:=h
  cases x with
  | non=>
    cases rx
    cases y with
    | non=>cases ry;exact PySem.EqNone.ne_none_none (Bl I q (by simp))
    | bl j=>cases ry;exact PySem.EqNone.ne_none_bool (Bl I q (by simp))
    | int j=>obtain⟨t',rfl⟩:=ry;exact PySem.EqNone.ne_none_int (Bl I q (by simp))
    | str j=>obtain⟨t',rfl⟩:=ry;exact PySem.EqNone.ne_none_str (Bl I q (by simp))
    | _=>exact absurd (show false=true from hs) Bool.false_ne_true
  | bl i=>
    cases rx
    cases y with
    | non=>cases ry;exact PySem.EqNone.ne_bool_none (Bl I q (by simp))
    | bl j=>cases ry;exact ne_bool (Bl I q (congrArg not Zi))
    | str j=>obtain⟨t',rfl⟩:=ry;exact PySem.EqMixed.ne_bool_str (Bl I q (by simp))
    | _=>exact absurd (show false=true from hs) Bool.false_ne_true
  | int i=>
    obtain⟨t,rfl⟩:=rx
    cases y with
    | non=>cases ry;exact PySem.EqNone.ne_int_none (Bl I q (by simp))
    | int j=>obtain⟨t',rfl⟩:=ry;exact ne_int (Bl I q (congrArg not Xl))
    | str j=>obtain⟨t',rfl⟩:=ry;exact PySem.EqMixed.ne_int_str (Bl I q (by simp))
    | _=>exact absurd (show false=true from hs) Bool.false_ne_true
  | str i=>
    obtain⟨t,rfl⟩:=rx
    cases y with
    | non=>cases ry;exact PySem.EqNone.ne_str_none (Bl I q (by simp))
    | bl j=>cases ry;exact PySem.EqMixed.ne_str_bool (Bl I q (by simp))
    | int j=>obtain⟨t',rfl⟩:=ry;exact PySem.EqMixed.ne_str_int (Bl I q (by simp))
    | str j=>obtain⟨t',rfl⟩:=ry;exact ne_str (Bl I q (congrArg not Wo))
    | _=>exact absurd (show false=true from hs) Bool.false_ne_true
  | byt i=>
    obtain⟨t,rfl⟩:=rx
    cases y with
    | byt j=>obtain⟨t',rfl⟩:=ry;exact PySem.W.ne_bytes (Bl I q (congrArg not W4))
    | _=>exact absurd (show false=true from hs) Bool.false_ne_true
  | _=>cases y<;>exact absurd (show false=true from hs) Bool.false_ne_true
theorem Nu:OpR X (compareOp .Lt) (rI0 fun i j=> .bl (decide (i<j))):=Adk fun _ _ _ _ _ _ _ q=>lt_int q
theorem Aai:OpR X (compareOp .LtE) (rI0 fun i j=> .bl (decide (i<=j))):=Adk fun _ _ _ _ _ _ _ q=>le_int q
theorem P0:OpR X (compareOp .Gt) (rI0 fun i j=> .bl (decide (j<i))):=Adk fun _ _ _ _ _ _ _ q=>gt_int q
theorem Aec:OpR X (compareOp .GtE) (rI0 fun i j=> .bl (decide (j<=i))):=Adk fun _ _ _ _ _ _ _ q=>ge_int q
theorem Ach:OpR X (compareOp .Is) (fun x y H Q=>y= .non/\Q (.bl (decide (x= .non))) H):=by
  intro pins s σ H x y v u Q I rx ry h
  obtain⟨rfl,q⟩:=h
  cases ry
  refine is_none_gen (Bl I q ?_)
  cases x<;>first
    | (cases rx;rfl)
    | (obtain⟨t,rfl⟩:=rx;rfl)
theorem Aag:OpR X (compareOp .IsNot) (fun x y H Q=>y= .non/\Q (.bl (!decide (x= .non))) H):=by
  intro pins s σ H x y v u Q I rx ry h
  obtain⟨rfl,q⟩:=h
  cases ry
  refine isnot_none_gen (Bl I q ?_)
  cases x<;>first
    | (cases rx;rfl)
    | (obtain⟨t,rfl⟩:=rx;rfl)
theorem Aj (b:Expr) {op:CmpOp} (h:op≠ .In:=by decide) (h2:op≠ .NotIn:=by decide):behindInMarks op b=false:=by
  have e1:(op==CmpOp.In)=false:=by cases op<;>first | rfl | exact absurd rfl h
  have e2:(op==CmpOp.NotIn)=false:=by cases op<;>first | rfl | exact absurd rfl h2
  cases b<;>simp [behindInMarks,e1,e2]
theorem Ci {op:CmpOp}{r:R2} (ho:OpR X (compareOp op) r) (ha:PE X a ta) (hb:PE X b tb) (hm:behindInMarks op b=false):PE X (.Compare a [op] [b] pos) (tOp r ta tb):=by
  intro pins s σ H Q I h
  exact wpAny_Compare1 (Aeo ha hb I h fun v u s2 x y H2 I2 rx ry q=>ho pins s2 σ H2 x y v u Q I2 rx ry q) hm
def Abs (t:TE):TT:=fun σ H Q=>t σ H fun x H'=>∃k,x= .bl k/\Q k H'
theorem Ah {op:CmpOp}{r:R2} (ho:OpR X (compareOp op) r) (ha:PE X a ta) (hb:PE X b tb) (hm:behindInMarks op b=false):PT X (.Compare a [op] [b] pos) (Abs (tOp r ta tb)):=by
  intro pins s σ H Q I h
  refine wpAny_isTrue_Compare1 (thn (ha pins s σ H _ I h) fun v s1 ⟨x,H1,I1,r1,q1⟩=>thn (hb pins s1 σ H1 _ I1 q1) fun u s2 ⟨y,H2,I2,r2,q2⟩=>
    thn (ho pins s2 σ H2 x y v u _ I2 r1 r2 q2) fun c s3 ⟨z,H3,I3,r3,k,e,q3⟩=> ?_) hm
  subst e
  cases r3
  exact wpAny_truthy_bool ⟨H3,I3,q3⟩
def Ac0 (r r':R2) (ta tb tc:TE):TE:=fun σ H Q=>ta σ H fun x H1=>tb σ H1 fun y H2=>r x y H2 fun z H3=>∃k,z= .bl k/\
  (if k=true then tc σ H3 fun w' H4=>r' y w' H4 Q else Q (.bl false) H3)
theorem Wm:(sizeLine:Nat)<2^63:=by rw [sizeLine_eq];decide
theorem vals1 {x:V}{us:List Value} (r:Vals [x] us):∃u,us=[u]/\RelV x u:=by
  cases r with
  | cons r1 r2=>cases r2;exact⟨_,rfl,r1⟩
theorem vals2 {x y:V}{us:List Value} (r:Vals [x,y] us):∃u w',us=[u,w']/\RelV x u/\RelV y w':=by
  cases r with
  | cons r1 r2=>
    cases r2 with
    | cons r3 r4=>cases r4;exact⟨_,_,rfl,r1,r3⟩
theorem T8:Hy X (.builtin "abs") (fun xs H Q=>∃i,xs=[.int i]/\Q (.int (if i<0 then-i else i)) H):=by
  intro pins s σ H xs us Q I r h
  obtain⟨i,rfl,q⟩:=h
  obtain⟨u,rfl,t,rfl⟩:=vals1 r
  exact call_abs_int fun u tk=>⟨.int (if i<0 then-i else i),H,I.tok _,⟨_,rfl⟩,q⟩
theorem Vy (hc:X.calm=true):Hy X (.builtin "max") (fun xs H Q=>∃i j,xs=[.int i,.int j]/\Q (.int (if j>i then j else i)) H):=by
  intro pins s σ H xs us Q I r h
  obtain⟨i,j,rfl,q⟩:=h
  obtain⟨u,w',rfl,⟨t,rfl⟩,⟨t',rfl⟩⟩:=vals2 r
  refine max_two_ints (I.ok.hd hc) fun h' tk k=>⟨_,H,I.kept k,?_,q⟩
  by_cases hj:j>i
  . rw [if_pos hj,if_pos hj];exact⟨_,rfl⟩
  . rw [if_neg hj,if_neg hj];exact⟨_,rfl⟩
theorem Wf (hc:X.calm=true):Hy X (.builtin "min") (fun xs H Q=>∃i j,xs=[.int i,.int j]/\Q (.int (if j<i then j else i)) H):=by
  intro pins s σ H xs us Q I r h
  obtain⟨i,j,rfl,q⟩:=h
  obtain⟨u,w',rfl,⟨t,rfl⟩,⟨t',rfl⟩⟩:=vals2 r
  refine min_two_ints (I.ok.hd hc) fun h' tk k=>⟨_,H,I.kept k,?_,q⟩
  by_cases hj:j<i
  . rw [if_pos hj,if_pos hj];exact⟨_,rfl⟩
  . rw [if_neg hj,if_neg hj];exact⟨_,rfl⟩
end
end L2
namespace L2
open PySem PySem.Spec PyProof.Rows
structure Ad7 (h:Heap) (x dx C:Addr) (mA:Str->Option Value):Prop where
  obj:h.get? x=some (PySem.W.instObj C dx)
  ns:h.Ns1 dx mA
  ne:dx≠x
theorem Vp {h:Heap}{dx:Addr}{mA:Str->Option Value} (n:h.Ns1 dx mA):∃od,h.get? dx=some od/\∀name,PySem.W.lookIn name od=some (mA name):=by
  obtain⟨o,es,ep,ho,hd,hk,_,hm⟩:=n
  refine⟨o,ho,fun name=> ?_⟩
  have e:=hm name
  unfold nsFind findBy at e
  rw [<-Array.find?_toList]at e
  unfold PySem.W.lookIn
  rw [hd]
  dsimp only
  split
  . rename_i y q
    rw [q]at e
    exact congrArg some e
  . rename_i q
    rw [q]at e
    have a:es.toList.any (·.refKey)=false:=by
      rw [List.any_eq_false]
      intro y hy
      obtain⟨z,t,hkey⟩:=hk y (Array.mem_toList_iff.mp hy)
      simp [DictEntry.refKey,hkey]
    have a':¬es.toList.any (·.refKey)=true:=by rw [a];exact Bool.false_ne_true
    rw [if_neg a']
    exact congrArg some e
theorem Ad7.look {h:Heap}{x dx C:Addr}{mA:Str->Option Value} (I:Ad7 h x dx C mA):∃od,PySem.W.InstAt h x (PySem.W.instObj C dx) C (some od)/\∀name,PySem.W.lookIn name od=some (mA name):=
  let ⟨od,ho,hl⟩:=Vp I.ns
  ⟨od,⟨I.obj,rfl,rfl,ho⟩,hl⟩
theorem Ur.some_of {v:V}{o:Option Value} (r:Ur (some v) o):∃u,o=some u/\RelV v u:=by
  cases o with
  | none=>exact(show False from r).elim
  | some u=>exact⟨u,rfl,r⟩
section
variable {P:Program}{w:World}{H H':Hp}{h h':Heap}{a C dx:Addr}{fs fs':List (Str × V)}
theorem Abt (hok:HOk P w H h) (e:H a=some (.ins C dx fs)):∃mA,Ad7 h a dx C mA/\(∀f,Ur (fs.lookup f) (mA f))/\PySem.Within mA (fs.map (·.1))/\fs.length<=1000/\H dx=some (.own a):=by
  obtain⟨d,z,ne,ob,mA,n,r,q⟩:=(show Dl P w H h a (.ins C dx fs)from hok a _ e)
  exact⟨mA,⟨ob,n,ne⟩,r,q,z,d⟩
end
structure Cls (K:PySem.W.Frag) (C:Addr):Prop where
  pg:PySem.W.plainGet K C Str.empty=true
  hd:PySem.W.hasDictIn K C=true
  po:PySem.W.plainOver K C=true
  sa:PySem.W.findIn K (.ref C) "__setattr__"=some (some (.builtin "object.__setattr__"))
theorem Cls.get {K:PySem.W.Frag}{C:Addr} (c:Cls K C) (f:Str):PySem.W.plainGet K C f=true:=c.pg
structure Con (K:PySem.W.Frag) (C:Addr) (f:Str) (v:V) (u:Value):Prop where
  at_:PySem.W.findIn K (.ref C) f=some (some u)
  rel:RelV v u
  get:PySem.W.specialIn K u "__get__"=some none
  cp:PySem.W.copiedNames.contains f=false
structure Meth (K:PySem.W.Frag) (C:Addr) (m:Str) (f:Addr):Prop where
  at_:PySem.W.findIn K (.ref C) m=some (some (.ref f))
  fn:PySem.W.isFn K (.ref f)=true
  kp:PySem.W.keepIn K (.ref f)=true
section
variable {X:Cx}{pins:List (Addr × Obj)}{σ:St}{H:Hp}{s:Shared}{A:Around}{E:Value->Shared->Prop}{Q:Value->Shared->Prop}{c:Value}{b:Bool}
inductive Qu (K:PySem.W.Frag) (H:Hp):V->Value->Prop where
  | non:Qu K H .non (.type "NoneType")
  | bl (x:Bool):Qu K H (.bl x) (.type "bool")
  | int (i:Int):Qu K H (.int i) (.type "int")
  | str (x:Str):Qu K H (.str x) (.type "str")
  | flt (x:UInt64):Qu K H (.flt x) (.type "float")
  | lst {a:Addr}{xs:List V} (e:H a=some (.lst xs)):Qu K H (.ref a) (.type "list")
  | frz {a:Addr}{o:Obj}{xs:List V} (e:H a=some (.frz o (.lst xs))):Qu K H (.ref a) (.type "list")
  | tup {a:Addr}{xs:List V} (e:H a=some (.tup xs)):Qu K H (.ref a) (.type "tuple")
  | dK {a:Addr}{kvs:List (Key × V)} (e:H a=some (.dK kvs)):Qu K H (.ref a) (.type "dict")
  | dT {a:Addr}{kvs:List (List Key × V)} (e:H a=some (.dT kvs)):Qu K H (.ref a) (.type "dict")
  | ins {a C dx:Addr}{fs:List (Str × V)} (e:H a=some (.ins C dx fs)) (cl:Cls K C) (ha:PySem.W.findIn K (.ref C) "__class__"=some (some (.builtin "object.__class__")))
      (hn:PySem.W.specialIn K (.builtin "object.__class__") "__get__"=some (some (.builtin "getset_descriptor.__get__"))) (htk:PySem.W.takesIn K (.builtin "object.__class__")=some true)
      (hm:PySem.W.mroIn K C (.type "object")=some true):Qu K H (.ref a) (.ref C)
theorem Wg {x:V}{u t:Value} (I:Inv X pins σ H s) (rx:RelV x u) (ty:Qu X.K H x t) (e:PySem.W.kitOne X.K t c=some b) (h:∀tk,Q (.bool b) { s with toks:=tk}):
    wpAny (model X.prog X.w) A (call (.builtin "isinstance") [u,c]) Q E s:=by
  cases ty with
  | non=>cases(show u=Value.none from rx);exact PySem.W.kia_one PySem.W.kitx_none I.kIn True.intro e (fun z=>nomatch z) h
  | bl y=>cases(show u=Value.bool y from rx);exact PySem.W.kia_one PySem.W.kitx_bool I.kIn True.intro e (fun z=>nomatch z) h
  | int i=>obtain⟨t,q⟩:=(show ∃t,u=Value.int i t from rx);cases q;exact PySem.W.kia_one PySem.W.kitx_int I.kIn True.intro e (fun z=>nomatch z) h
  | str y=>obtain⟨t,q⟩:=(show ∃t,u=Value.str y t from rx);cases q;exact PySem.W.kia_one PySem.W.kitx_str I.kIn True.intro e (fun z=>nomatch z) h
  | flt y=>obtain⟨t,q⟩:=(show ∃t,u=Value.float y t from rx);cases q;exact PySem.W.kia_one PySem.W.kitx_float I.kIn True.intro e (fun z=>nomatch z) h
  | @lst a xs ea=>
    cases(show u=Value.ref a from rx)
    obtain⟨_,_,n,_,h1⟩:=(show Dl X.prog X.w H s.heap a (.lst xs)from I.hok a _ ea)
    exact PySem.W.kia_one PySem.W.kitx_list I.kIn ⟨_,h1,rfl⟩ e (fun z=>nomatch z) h
  | @frz a ob xs ea=>
    cases(show u=Value.ref a from rx)
    obtain⟨_,_,_,n,_,h1⟩:=(show Dl X.prog X.w H s.heap a (.frz ob (.lst xs))from I.hok a _ ea)
    exact PySem.W.kia_one PySem.W.kitx_list I.kIn ⟨_,h1,rfl⟩ e (fun z=>nomatch z) h
  | @tup a xs ea=>
    cases(show u=Value.ref a from rx)
    obtain⟨_,_,_,p⟩:=(show Dl X.prog X.w H s.heap a (.tup xs)from I.hok a _ ea)
    obtain⟨o,h1,h2,_⟩:=p
    exact PySem.W.kia_one PySem.W.kitx_tuple I.kIn ⟨o,h1,h2⟩ e (fun z=>nomatch z) h
  | @dK a kvs ea=>
    cases(show u=Value.ref a from rx)
    obtain⟨_,_,vs,_,p⟩:=(show Dl X.prog X.w H s.heap a (.dK kvs)from I.hok a _ ea)
    obtain⟨o,es,ep,h1,h2,_⟩:=p
    exact PySem.W.kia_one PySem.W.kitx_dict I.kIn ⟨o,h1,h2.1⟩ e (fun z=>nomatch z) h
  | @dT a kvs ea=>
    cases(show u=Value.ref a from rx)
    obtain⟨_,_,xs,_,o,es,ep,h1,h2,_⟩:=(show Dl X.prog X.w H s.heap a (.dT kvs)from I.hok a _ ea)
    exact PySem.W.kia_one PySem.W.kitx_dict I.kIn ⟨o,h1,h2.1⟩ e (fun z=>nomatch z) h
  | @ins a C dx fs ea cl ha hn htk hm=>
    cases(show u=Value.ref a from rx)
    obtain⟨mA,O,_⟩:=Abt I.hok ea
    obtain⟨od,J,_⟩:=O.look
    exact PySem.W.kia_one (PySem.W.kitx_own (cl.get _) cl.hd ha hn htk hm) I.kIn J e (fun z=>nomatch z) h
end
end L2
namespace L2
open PySem PySem.Spec PyProof.Rows
structure K4 (k:Nat) (A:Around):Prop where
  hd:A.handled=none
  dp:A.depth+3*k+5<recursionLimit
  un:A.units+16*k+200<cLine
theorem K4.mono {j k:Nat}{A:Around} (r:K4 k A) (h:j<=k):K4 j A:=⟨r.hd,by have:=r.dp;omega,by have:=r.un;omega⟩
theorem K4.deeper {k:Nat}{A:Around} (r:K4 (k+1) A) (env:Env):K4 k (A.deeper env):=
  ⟨r.hd,by have:=r.dp;show A.depth+1+3*k+5<_;omega,by have:=r.un;show A.units+3+16*k+200<_;omega⟩
theorem K4.in1 {k:Nat}{A:Around} (r:K4 (k+1) A):K4 k A.in1:=
  ⟨r.hd,by have:=r.dp;show A.depth+3*k+5<_;omega,by have:=r.un;show A.units+1+16*k+200<_;omega⟩
theorem U7 {A:Around}{C:Addr}{us:List Value}{kw:List (Str × Value)}:(A.under (.builtin "type.__call__" ⟨.ref C::us,kw⟩)).depth=A.depth+1:=by
  first | rfl | simp [Around.under,Code.weight,Code.isCreation,Code.isGuard,Code.isCaller,Code.frames,Code.isFrame,guardIds]
theorem Uw {A:Around}{C:Addr}{us:List Value}{kw:List (Str × Value)}:(A.under (.builtin "type.__call__" ⟨.ref C::us,kw⟩)).units=A.units+1:=by
  first | rfl | simp [Around.under,Code.cUnits,Code.frames,Code.isFrame]
theorem K4.make {k:Nat}{A:Around} (r:K4 (k+1) A) (C:Addr) (us:List Value) (kw:List (Str × Value)):K4 k (A.under (.builtin "type.__call__" ⟨.ref C::us,kw⟩)):=
  ⟨r.hd,by have:=r.dp;rw [U7];omega,by have:=r.un;rw [Uw];omega⟩
theorem K4.depth {k:Nat}{A:Around} (r:K4 k A):A.depth<recursionLimit:=by have:=r.dp;omega
theorem K4.units {k:Nat}{A:Around} (r:K4 k A):A.units+64<cLine:=by have:=r.un;omega
def Aej:TA:=fun _ H Q=>Q [] H
def X8 (ta:TE) (tr:TA):TA:=fun σ H Q=>ta σ H fun x H1=>tr σ H1 fun xs H2=>Q (x::xs) H2
section
variable {X:Cx}{e:Expr}{es:List Expr}{te:TE}{t:TA}{pos:Pos}
theorem Ac:PA X [] Aej:=fun _ _ _ _ H Q I h=>Calls.spliced_nil ⟨[],H,I,.nil,h⟩
theorem Aal (ha:PE X e te) (hr:PA X es t) (hs:starEach (e::es) X.env=(false,eval e X.env)::starEach es X.env:=by rfl):PA X (e::es) (X8 te t):=by
  intro pos pins s σ H Q I h
  rw [hs]
  show wpAny _ _ (spliced ((false,eval e X.env)::backTo pos (starEach es X.env))) _ _ s
  refine Calls.spliced_cons (thn (ha pins s σ H _ I h) fun u s1 ⟨x,H1,I1,r1,q1⟩=> ?_)
  exact thn (hr pos pins s1 σ H1 _ I1 q1) fun us s2 ⟨xs,H2,I2,r2,q2⟩=>⟨x::xs,H2,I2,.cons r1 r2,q2⟩
def Ad0 (t:TA):TE:=fun σ H Q=>t σ H fun xs H1=>xs.length<=sizeLine/\∀p,H1 p=none->Q (.ref p) (upd H1 p (.tup xs))
def Aed (t:TA):TE:=fun σ H Q=>t σ H fun xs H1=>xs.length<=sizeLine/\∀p,H1 p=none->Q (.ref p) (upd H1 p (.lst xs))
theorem Av {x1} (h:PA X es t):PE X (.Tuple es x1 pos) (Ad0 t):=by
  intro pins s σ H Q I hq
  refine wpAny_Tuple_spliced (thn (h pos pins s σ H _ I hq) fun us s1 ⟨xs,H1,I1,r,z,q⟩=>⟨by rw [<-r.length];exact z,?_⟩)
  have hf:H1 s1.heap.objs.size=none:=I1.hok.fresh (Nat.le_refl _)
  refine⟨.ref s1.heap.objs.size,upd H1 s1.heap.objs.size (.tup xs),I1.laid (t':=s1.toks) (fun b u e=>Heap.get?_push_of_some _ e) (Nat.le_refl _) ?_,rfl,q _ hf⟩
  exact⟨z,us,r,⟨_,Heap.get?_push_size _ rfl,rfl,_,rfl⟩⟩
theorem Cp (h:PA X es t):PE X (.List es pos) (Aed t):=by
  intro pins s σ H Q I hq
  refine wpAny_List_spliced (thn (h pos pins s σ H _ I hq) fun us s1 ⟨xs,H1,I1,r,z,q⟩=>⟨by rw [<-r.length];exact z,?_⟩)
  have hf:H1 s1.heap.objs.size=none:=I1.hok.fresh (Nat.le_refl _)
  refine⟨.ref s1.heap.objs.size,upd H1 s1.heap.objs.size (.lst xs),I1.laid (t':=s1.toks) (fun b u e=>Heap.get?_push_of_some _ e) (Nat.le_refl _) ?_,rfl,q _ hf⟩
  exact⟨z,us,0,r,Heap.get?_push_size _ rfl⟩
end
abbrev Sp:=List V->Hp->VK->XK->Prop
abbrev CXT:=List Env->Hp->Shared->XK->Value->Shared->Prop
structure X5 (P:Program) (w:World) (K:PySem.W.Frag) (mg:Str->Option Value) (base:Heap) (A:Around) (outer:List Env) (s:Shared) (H:Hp):Prop where
  frames:A.frames=some outer
  mod:Mod K mg base
  bs:∀b o,base.get? b=some o->s.heap.get? b=some o/\H b=none
  bsz:base.objs.size<=s.heap.objs.size
  funs:s.heap.FunFrames base outer
  frf:∀b∈frs outer,H b=none
  hok:HOk P w H s.heap
  bare:AllBare s.gens
def CE (outer:List Env) (P:Program) (w:World) (H:Hp) (s:Shared) (Q:VK) (u:Value) (s':Shared):Prop:=
  ∃v H',s'.os=s.os/\AllBare s'.gens/\Un (frs outer) [] H H' s.heap s'.heap/\HOk P w H' s'.heap/\RelV v u/\Q v H'
def CR (CX:CXT) (outer:List Env) (P:Program) (w:World) (H:Hp) (s:Shared) (Q:VK) (E:XK) (r:Result) (s':Shared):Prop:=
  match r with
  | .ok (.ret u)=>CE outer P w H s Q u s'
  | .ok _=>False
  | .error e=>CX outer H s E e s'
structure Oe (P:Program) (w:World) (K:PySem.W.Frag) (mg:Str->Option Value) (base:Heap) (CX:CXT) (k:Nat) (f:Addr) (fd:FuncData) (ps:List Str) (sp:Sp):Prop where
  len:∀vs H Q E,sp vs H Q E->vs.length=ps.length
  run:∀(A:Around) (outer:List Env) (s:Shared) (H:Hp) (args:Args) (us:List Value) (vs:List V) (Q:VK) (E:XK),K4 k A->X5 P w K mg base A outer s H->BindsTo s fd args (ps.zip us)->Vals vs us->sp vs H Q E->
    codeAny (model P w) A (.call (.ref f) args) (CR CX outer P w H s Q E) s
theorem Oe.mono {P:Program}{w:World}{K:PySem.W.Frag}{mg:Str->Option Value}{base:Heap}{CX:CXT}{j k:Nat}{f:Addr}{fd:FuncData}{ps:List Str}{sp:Sp} (F:Oe P w K mg base CX j f fd ps sp) (h:j<=k):
    Oe P w K mg base CX k f fd ps sp:=⟨F.len,fun A outer s H args us vs Q E hr=>F.run A outer s H args us vs Q E (hr.mono h)⟩
theorem Oe.imp {P:Program}{w:World}{K:PySem.W.Frag}{mg:Str->Option Value}{base:Heap}{CX:CXT}{k:Nat}{f:Addr}{fd:FuncData}{ps:List Str}{sp sp':Sp} (F:Oe P w K mg base CX k f fd ps sp)
    (h:∀vs H Q E,sp' vs H Q E->sp vs H Q E):Oe P w K mg base CX k f fd ps sp':=
  ⟨fun vs H Q E q=>F.len vs H Q E (h _ _ _ _ q),fun A outer s H args us vs Q E hr he hb hv hs=>F.run A outer s H args us vs Q E hr he hb hv (h _ _ _ _ hs)⟩
theorem X5.make {P:Program}{w:World}{K:PySem.W.Frag}{mg:Str->Option Value}{base:Heap}{A:Around}{outer:List Env}{s:Shared}{H:Hp} (e:X5 P w K mg base A outer s H) (C:Addr) (us:List Value) (kw:List (Str × Value)):
    X5 P w K mg base (A.under (.builtin "type.__call__" ⟨.ref C::us,kw⟩)) outer s H:=⟨by first | exact e.frames | (simpa [Around.under,Code.envs,Code.isFrame,pushEnvs]using e.frames),e.mod,e.bs,e.bsz,e.funs,e.frf,e.hok,e.bare⟩
theorem X5.in1 {P:Program}{w:World}{K:PySem.W.Frag}{mg:Str->Option Value}{base:Heap}{A:Around}{outer:List Env}{s:Shared}{H:Hp} (e:X5 P w K mg base A outer s H):
    X5 P w K mg base A.in1 outer s H:=⟨e.frames,e.mod,e.bs,e.bsz,e.funs,e.frf,e.hok,e.bare⟩
section
variable {X:Cx}{pins:List (Addr × Obj)}{σ:St}{H:Hp}{s s':Shared}
theorem Inv.env0 (I:Inv X pins σ H s):X5 X.prog X.w X.K X.mg X.base X.A X.stack s H:=
  ⟨I.ok.frames,I.ok.mod,I.bs,Nat.le_trans I.ok.bsz I.sz,I.stack,I.stkFree,I.hok,I.bare⟩
theorem Inv.after {Q:VK}{u:Value} (I:Inv X pins σ H s) (h:CE X.stack X.prog X.w H s Q u s'):EP X pins σ Q u s':=by
  obtain⟨v,H',os,bare,un,hok,r,q⟩:=h
  obtain⟨hh,g,d,t,os'⟩:=s'
  obtain rfl:os'=s.os:=os
  exact⟨v,H',I.call (h':=hh) (g':=g) (d':=d) (t':=t) (ch:=[]) un hok bare (fun b z=>absurd z (by simp)),r,q⟩
end
def Ra (sp:Sp) (dvs:List V) (E:XK) (t:TA):TE:=fun σ H Q=>t σ H fun vs H1=>sp (vs++dvs) H1 Q E
def Binds (K:PySem.W.Frag) (fd:FuncData) (ps:List Str) (ds:List Value):Prop:=
  ∀(s:Shared) (us:List Value),K.In s.heap->(us++ds).length=ps.length->BindsTo s fd ⟨us,[]⟩ (ps.zip (us++ds))
theorem Binds.all {K:PySem.W.Frag}{fd:FuncData}{ps:List Str} (h:∀us:List Value,us.length=ps.length->bindArgs fd ⟨us,[]⟩=pure (ps.zip us)):Binds K fd ps []:=fun s us _ hl=>by
  rw [List.append_nil]at hl ⊢
  exact .of_eq (h us hl)
def Passes (CX:CXT) (X:Cx) (E:XK):Prop:=∀(pins:List (Addr × Obj)) (σ:St) (H:Hp) (s:Shared) (e:Value) (s':Shared),Inv X pins σ H s->CX X.stack H s E e s'->X.xe e s'
section
variable {X:Cx}{CX:CXT}{k:Nat}{f C:Addr}{fd:FuncData}{ps:List Str}{sp:Sp}{dvs:List V}{ds:List Value}{E:XK}{x m:Str}{p pos apos:Pos}{e o:Expr}{es:List Expr}{ta:TE}{t:TA}
theorem Aco {pins:List (Addr × Obj)}{σ:St}{H:Hp}{s:Shared}{Q:VK}{us:List Value}{vs:List V} (F:Oe X.prog X.w X.K X.mg X.base CX k f fd ps sp) (hr:K4 k X.A) (hb:Binds X.K fd ps ds) (hd:Vals dvs ds) (hx:Passes CX X E)
    (I:Inv X pins σ H s) (r:Vals vs us) (h:sp (vs++dvs) H Q E):wpAny (model X.prog X.w) X.A (call (.ref f) us) (EP X pins σ Q) X.xe s:=by
  have r2:Vals (vs++dvs) (us++ds):=r.append hd
  have hl:(us++ds).length=ps.length:=by rw [<-r2.length];exact F.len _ _ _ _ h
  refine wpAny_call (codeAny_mono (F.run X.A X.stack s H ⟨us,[]⟩ (us++ds) (vs++dvs) Q E hr I.env0 (hb s us I.kIn hl) r2 h) fun r s' hq=> ?_)
  cases r with
  | error e=>exact hx pins σ H s e s' I hq
  | ok fl=>
    cases fl with
    | ret u=>exact I.after hq
    | next=>exact False.elim hq
    | brk=>exact False.elim hq
    | cont=>exact False.elim hq
theorem Xd (F:Oe X.prog X.w X.K X.mg X.base CX k f fd ps sp) (hr:K4 k X.A) (hg:Gl X x) (hm:X.mg x=some (.ref f)) (hk:PySem.W.keepIn X.K (.ref f)=true) (hb:Binds X.K fd ps ds) (hd:Vals dvs ds) (hx:Passes CX X E)
    (ha:PA X (e::es) t) (hdb:(x==("__debug__":Str))=false:=by decide) (he:starEach (e::es) X.env=(false,eval e X.env)::starEach es X.env:=by rfl) (hpl:(backTo pos (starEach es X.env)).any (·.1)=false:=by rfl):
    PE X (.Call (.Name x p) (e::es) [] pos) (Ra sp dvs E t):=by
  intro pins s σ H Q I h
  refine wpAny_Call_Name_kw (Sd I hg hm ?_ hdb)
  refine PySem.W.callWith_K (h₀:=X.base) I.ok.mod.kin hk (thn (ha pos pins s σ H _ I h) fun us s1 ⟨vs,H1,I1,r,q⟩=>⟨I1.kIn,?_⟩) he hpl
  exact Aco F hr hb hd hx I1 r q
structure Mk (K:PySem.W.Frag) (C f:Addr):Prop where
  makes:PySem.W.makesIn K C=true
  init:PySem.W.findIn K (.ref C) "__init__"=some (some (.ref f))
  fn:PySem.W.isFn K (.ref f)=true
  kp:PySem.W.keepIn K (.ref C)=true
end
section
variable {X:Cx}{CX:CXT}{k:Nat}{f C:Addr}{fd:FuncData}{ps ks:List Str}{sp:Sp}{E:XK}{x m:Str}{p pos apos kpos:Pos}{e o:Expr}{es:List Expr}{kws:List Keyword}{te ta:TE}{t tk:TA}{nm:Option Str}
structure Afg (K:PySem.W.Frag) (fd:FuncData) (ps ks:List Str) (g:List Value->List Value->List Value) (gV:List V->List V->List V):Prop where
  to:∀(s:Shared) (us ws:List Value),K.In s.heap->(g us ws).length=ps.length->BindsTo s fd ⟨us,ks.zip ws⟩ (ps.zip (g us ws))
  rel:∀ {vs:List V}{us:List Value}{zs:List V}{ws:List Value},Vals vs us->Vals zs ws->Vals (gV vs zs) (g us ws)
variable {g:List Value->List Value->List Value}{gV:List V->List V->List V}
end
structure Ba (N P:List Str) (sc:Scope):Prop where
  kind:sc.kind= .function
  co:sc.isCoroutine=false
  gen:sc.isGenerator=false
  nd:N.Nodup
  pre:N.take P.length=P
  par:∀x∈P,sc.names.lookup x=some .local \/sc.names.lookup x=some .cell
  nofree:∀y∈sc.names,y.2≠ .free
theorem Qf {kindOf:Str->Option NameKind}{x:Str}:∀ {binds:List (Str × Value)}{m:Str->Option Value},(∀v,(x,v)∉binds)->bindL kindOf binds m x=m x
  | [],_,_=>rfl
  | (n,v)::r,m,h=>by
    unfold bindL
    rw [Qf fun w hw=>h w (List.mem_cons_of_mem _ hw)]
    split
    . have:x≠n:=by rintro rfl;exact h v List.mem_cons_self
      simp [this]
    . rfl
theorem Pu {kindOf:Str->Option NameKind}{x:Str}:∀ {binds:List (Str × Value)}{m:Str->Option Value},(∀v,(x,v)∉binds)->bindC kindOf binds m x=m x
  | [],_,_=>rfl
  | (n,v)::r,m,h=>by
    unfold bindC
    rw [Pu fun w hw=>h w (List.mem_cons_of_mem _ hw)]
    split
    . rfl
    . have:x≠n:=by rintro rfl;exact h v List.mem_cons_self
      simp [this]
theorem Pj {kindOf:Str->Option NameKind}{x:Str}{v:Value}:∀ {P:List Str}{vs:List Value}{i:Nat}{m:Str->Option Value},P.Nodup->P[i]? =some x->vs[i]? =some v->kindOf x=some .local ->
    bindL kindOf (P.zip vs) m x=some v
  | [],_,_,_,_,h,_,_=>by simp at h
  | _::_,[],_,_,_,_,h,_=>by simp at h
  | p::P,w::vs,0,m,nd,h1,h2,hk=>by
    simp at h1 h2;subst h1;subst h2
    show bindL kindOf ((p,w)::P.zip vs) m p=_
    unfold bindL
    rw [Qf fun v hv=>(List.nodup_cons.mp nd).1 (List.of_mem_zip hv).1,if_pos hk]
    simp
  | p::P,w::vs,i+1,m,nd,h1,h2,hk=>by
    show bindL kindOf ((p,w)::P.zip vs) m x=_
    unfold bindL
    exact Pj (i:=i) (List.nodup_cons.mp nd).2 (by simpa using h1) (by simpa using h2) hk
theorem Ql {kindOf:Str->Option NameKind}{x:Str}{v:Value}:∀ {P:List Str}{vs:List Value}{i:Nat}{m:Str->Option Value},P.Nodup->P[i]? =some x->vs[i]? =some v->kindOf x≠some .local ->
    bindC kindOf (P.zip vs) m x=some v
  | [],_,_,_,_,h,_,_=>by simp at h
  | _::_,[],_,_,_,_,h,_=>by simp at h
  | p::P,w::vs,0,m,nd,h1,h2,hk=>by
    simp at h1 h2;subst h1;subst h2
    show bindC kindOf ((p,w)::P.zip vs) m p=_
    unfold bindC
    rw [Pu fun v hv=>(List.nodup_cons.mp nd).1 (List.of_mem_zip hv).1,if_neg hk]
    simp
  | p::P,w::vs,i+1,m,nd,h1,h2,hk=>by
    show bindC kindOf ((p,w)::P.zip vs) m x=_
    unfold bindC
    exact Ql (i:=i) (List.nodup_cons.mp nd).2 (by simpa using h1) (by simpa using h2) hk
def start (N:List Str) (vs:List V):St:=vs.map some++List.replicate (N.length-vs.length) none
def Nf (CX:CXT) (P:Program) (w:World) (K:PySem.W.Frag) (mg:Str->Option Value) (base:Heap) (N:List Str) (qual:Str) (scope:Scope) (f:Addr) (cd:Value) (A:Around) (outer:List Env) (s:Shared) (H:Hp) (E:XK):Cx where
  prog:=P
  w:=w
  K:=K
  mg:=mg
  base:=base
  A:=A.deeper (envOfC qual scope s.heap.objs.size f cd)
  N:=N
  s₀:=s
  H₀:=H
  env:=envOfC qual scope s.heap.objs.size f cd
  outer:=outer
  stack:=envOfC qual scope s.heap.objs.size f cd::outer
  ex:=[]
  calm:=true
  fn:=fun _=>true
  pn:=[]
  xe:=fun e s'=>wpAny (model P w) (A.deeper (envOfC qual scope s.heap.objs.size f cd)) (leaving (envOfC qual scope s.heap.objs.size f cd) e) (fun _ s''=>CX outer H s E e s'') (fun e' s''=>CX outer H s E e' s'') s'
theorem Tt {sc:Scope}{n:Nat}{x:Str} (h:sc.names.lookup x=some .cell):∃c,(cellsFrom n sc.names []).lookup x=some c:=by
  have q:=PySem.W.cellsFrom_some sc.names n [] (.inl h)
  exact Option.isSome_iff_exists.mp q
theorem Xu {CX:CXT}{P:Program}{w:World}{K:PySem.W.Frag}{mg:Str->Option Value}{base:Heap}{N ps:List Str}{qual:Str}{scope:Scope}{f:Addr}{cd:Value}{A:Around}{outer:List Env}{s s1:Shared}{H:Hp}{E:XK}{us:List Value}{vs:List V}
    (S:Ba N ps scope) (hd:A.handled=none) (e0:X5 P w K mg base A outer s H) (hl:vs.length=ps.length) (r:Vals vs us)
    (x:InCallC s s.heap.objs.size (bindL (envOfC qual scope s.heap.objs.size f cd).kindOf (ps.zip us) fun _=>none) (cellsFrom (s.heap.objs.size+1) scope.names []) (bindC (envOfC qual scope s.heap.objs.size f cd).kindOf (ps.zip us) fun _=>none) s1):
    Inv (Nf CX P w K mg base N qual scope f cd A outer s H E) [] (start N vs) H s1:=by
  have hpl:ps.length<=N.length:=by have:=congrArg List.length S.pre;rw [List.length_take]at this;omega
  obtain⟨h1,tk,rfl,hk⟩:=x.done
  have noA:∀b:Addr,b∉(Nf CX P w K mg base N qual scope f cd A outer s H E).ex:=fun b z=>absurd (show b∈([]:List Addr)from z) (by simp)
  refine⟨⟨e0.mod,S.kind,rfl,rfl,Nat.le_refl _,fun y z c h1 h2=> ?_,fun y hy=> ?_,fun y c _ h=> ?_,fun _=>hd,Around.frames_deeper e0.frames,.inr ⟨rfl,rfl⟩,fun b z=>absurd z (noA b),e0.bs,e0.bsz,fun b _ _=>noA b,fun b z=>absurd z (noA b),e0.funs,e0.frf⟩,
    rfl,e0.bare,Un.kept hk,⟨_,x.toInCall.ns,fun i y v h1 h2 h3=> ?_⟩,fun y c h=>⟨_,x.cell y c h⟩,e0.hok.fresh (Nat.le_refl _),fun y c h=> ?_,fun p hp=>absurd (show p∈([]:List (Addr × Obj))from hp) (by simp),e0.hok.kept hk,?_⟩
  . exact name_of_addr x.apart (PySem.mem_of_lookup h1) (PySem.mem_of_lookup h2)
  . have hy:scope.names.lookup y=some .cell\/scope.names.lookup y=some .free:=hy
    rcases hy with hy | hy
    . exact Tt hy
    . exact absurd rfl (S.nofree _ (PySem.mem_of_lookup hy))
  . exact Nat.le_of_lt (x.above y c (PySem.mem_of_lookup h))
  . have hi:i<vs.length:=by
      unfold start at h2
      by_cases hi:i<vs.length
      . exact hi
      . rw [List.getElem?_append_right (by simpa using hi)]at h2
        rw [List.getElem?_replicate]at h2
        split at h2<;>cases h2
    have ha:vs[i]? =some v:=by
      unfold start at h2
      rw [List.getElem?_append_left (by simpa using hi),List.getElem?_map]at h2
      cases e:vs[i]? with
      | none=>rw [e]at h2;cases h2
      | some a=>rw [e]at h2;cases h2;rfl
    obtain⟨u,hu,rv⟩:=r.get ha
    have hp:ps[i]? =some y:=by
      rw [<-S.pre,List.getElem?_take_of_lt (by omega)];exact h1
    have ndP:ps.Nodup:=by rw [<-S.pre];exact S.nd.sublist (List.take_sublist _ _)
    refine⟨u,rv,?_⟩
    rcases S.par y (List.mem_of_getElem? hp)with k | k
    . exact .inl ⟨k,Pj ndP hp hu k⟩
    . obtain⟨c,e⟩:=Tt (n:=s.heap.objs.size+1) k
      refine .inr ⟨.inl k,c,e,?_⟩
      have q:=x.cell y c e
      rw [Ql ndP hp hu (by show scope.names.lookup y≠_;rw [k];decide)]at q
      exact q
  . exact e0.hok.fresh (Nat.le_of_lt (x.above y c (PySem.mem_of_lookup h)))
  . unfold start
    show _=N.length
    rw [List.length_append,List.length_map,List.length_replicate]
    omega
theorem Ace {CX:CXT}{P:Program}{w:World}{K:PySem.W.Frag}{mg:Str->Option Value}{base:Heap}{k:Nat}{f:Addr}{name qual:Str}{params:Arguments}{body:List Stmt}{scope:Scope}{dV kV doc pm cdv ct oc:Value}{an od:Option Addr}
    {osl:Array (Option Value)}{N ps:List Str}{sp:Sp} (lk:K.lookup f=some ⟨oc,od,.func (PySem.W.fnOf name qual params body scope dV kV doc pm an cdv ct),osl⟩) (hcd:PySem.W.codeIn K cdv qual=true) (S:Ba N ps scope)
    (len:∀vs H Q E,sp vs H Q E->vs.length=ps.length)
    (hbody:∀(A:Around) (outer:List Env) (s:Shared) (H:Hp) (vs:List V) (Q:VK) (E:XK),K4 k (A.deeper (envOfC qual scope s.heap.objs.size f cdv))->sp vs H Q E->
      ∃t,PSs (Nf CX P w K mg base N qual scope f cdv A outer s H E) body t/\t { nx:=fun _ H'=>Q .non H',rt:=Q} (start N vs) H):
    Oe P w K mg base CX (k+1) f (PySem.W.fnOf name qual params body scope dV kV doc pm an cdv ct) ps sp:=by
  refine⟨len,fun A outer s H args us vs Q E hr e0 hb r hsp=> ?_⟩
  have hl:=len _ _ _ _ hsp
  have KX:K.In s.heap:=e0.mod.kin.keeps fun b o e=>(e0.bs b o e).1
  have lim:s.heap.NoLimit:=e0.mod.nolimit.keeps fun b o e=>(e0.bs b o e).1
  have hkind:∀y∈ps.zip us,scope.names.lookup y.1=some .local \/(scope.names.lookup y.1=some .cell/\((cellsFrom (s.heap.objs.size+1) scope.names []).lookup y.1).isSome=true):=fun⟨n,v⟩ hy=>by
    rcases S.par n (List.of_mem_zip hy).1 with q | q
    . exact .inl q
    . exact .inr ⟨q,PySem.W.cellsFrom_some _ _ _ (.inl q)⟩
  refine codeAny_call_function hr.depth (KX _ _ lk) rfl S.co S.gen rfl (PySem.W.codeRec_of KX hcd) (hb _ _ _ _ ?_)
  refine wpAny_newFunctionEnv_cells S.kind hkind fun env he s1 x=> ?_
  subst he
  refine⟨lim.keeps x.toInCall.keep,codeAny_func ?_⟩
  obtain⟨t,ht,hq⟩:=hbody A outer s H vs Q E (hr.deeper _) hsp
  have I:Inv (Nf CX P w K mg base N qual scope f cdv A outer s H E) [] (start N vs) H s1:=Xu S hr.hd e0 hl r x
  refine wpAny_mono (ht [] s1 (start N vs) H _ I hq) (fun fl s' hs=> ?_) fun e s' hs=>hs
  have fin:∀ {σ':St}{H':Hp}{v:V}{u:Value},Inv (Nf CX P w K mg base N qual scope f cdv A outer s H E) [] σ' H' s'->RelV v u->Q v H'->CE outer P w H s Q u s':=
    fun {σ' H' v u} J rv q=>⟨v,H',J.os,J.bare,J.base,J.hok,rv,q⟩
  cases fl with
  | ret u=>
    obtain⟨v,σ',H',J,rv,q⟩:=hs
    exact fin J rv q
  | next=>
    obtain⟨σ',H',J,q⟩:=hs
    exact fin (v:=V.non) (u:=Value.none) J rfl q
  | brk=>
    obtain⟨_,_,_,q⟩:=hs
    exact False.elim q
  | cont=>
    obtain⟨_,_,_,q⟩:=hs
    exact False.elim q
end L2
namespace L2
open PySem PySem.Spec PyProof.Rows
section
variable {X:Cx}{x:Str}{p pos:Pos}{e:Expr}{es:List Expr}{t:TA}{id T:String}{r:List V->Hp->VK->Prop}
def tCB (r:List V->Hp->VK->Prop) (t:TA):TE:=fun σ H Q=>t σ H fun vs H1=>r vs H1 Q
theorem Yj (hc:Hy X (.builtin id) r) (hg:Gl X x) (hm:X.mg x=none) (hv:bootBuiltins x=some (.builtin id)) (ha:PA X (e::es) t) (hn:x≠"__name__":=by decide) (hdb:(x==("__debug__":Str))=false:=by decide)
    (he:starEach (e::es) X.env=(false,eval e X.env)::starEach es X.env:=by rfl) (hpl:(backTo pos (starEach es X.env)).any (·.1)=false:=by rfl):PE X (.Call (.Name x p) (e::es) [] pos) (tCB r t):=by
  intro pins s σ H Q I h
  refine wpAny_Call_Name_kw (Nt I hg hm hv ?_ hn hdb)
  exact PyProof.Rows.callWith_builtin1 (thn (ha pos pins s σ H _ I h) fun us s1 ⟨vs,H1,I1,r1,q1⟩=>hc pins s1 σ H1 vs us Q I1 r1 q1) he hpl
theorem V5 (hc:Hy X (.type T) r) (hg:Gl X x) (hm:X.mg x=none) (hv:bootBuiltins x=some (.type T)) (ha:PA X (e::es) t) (hn:x≠"__name__":=by decide) (hdb:(x==("__debug__":Str))=false:=by decide)
    (he:starEach (e::es) X.env=(false,eval e X.env)::starEach es X.env:=by rfl) (hpl:(backTo pos (starEach es X.env)).any (·.1)=false:=by rfl):PE X (.Call (.Name x p) (e::es) [] pos) (tCB r t):=by
  intro pins s σ H Q I h
  refine wpAny_Call_Name_kw (Nt I hg hm hv ?_ hn hdb)
  exact PyProof.Rows.callWith_type1 (thn (ha pos pins s σ H _ I h) fun us s1 ⟨vs,H1,I1,r1,q1⟩=>hc pins s1 σ H1 vs us Q I1 r1 q1) he hpl
end
end L2
namespace HT
open PySem PyProof.Rows
section
variable {prog:Program}{w:World}{A:Around}{E:Value->Shared->Prop}{s:Shared}
theorem Abk {t b:Addr}{vs ws:List Value}{Q:Value->Shared->Prop} (ht:IsTup s.heap t vs.toArray) (hb:IsTup s.heap b ws.toArray) (hv:vs≠ [])
    (h1:ws=[]->Q (.ref t) s) (h2:ws≠ []->Q (.ref s.heap.objs.size) { s with heap:=s.heap.push { cls:= .type "tuple",data:= .seq (vs++ws).toArray}})
    (hsz:vs.length+ws.length<=sizeLine):wpAny (model prog w) A (binaryOp .Add (.ref t) (.ref b)) Q E s:=by
  obtain⟨⟨cls,dd,data,sl⟩,ho,hc,n,hd⟩:=id ht
  obtain⟨⟨cls2,dd2,data2,sl2⟩,ho2,hc2,n2,hd2⟩:=id hb
  simp only at hc hd hc2 hd2
  subst hc hd hc2 hd2
  have e:vs.toArray++ws.toArray=(vs++ws).toArray:=by simp
  by_cases hw:ws=[]
  . exact concat_meets ⟨_,ho,rfl⟩ ⟨_,ho2,rfl⟩ noFill_tuple_add seq_tuple_add PySem.F.slot_tuple_add PySem.F.entry_tuple_add (PySem.F.args_tuple_add_2 _ _)
      (tuple_addW1 t b vs.toArray ws.toArray n n2 dd dd2 sl sl2 (by simpa using hv) (by simp [hw])) ⟨ho,ho2,h1 hw⟩
  . refine concat_meets ⟨_,ho,rfl⟩ ⟨_,ho2,rfl⟩ noFill_tuple_add seq_tuple_add PySem.F.slot_tuple_add PySem.F.entry_tuple_add (PySem.F.args_tuple_add_2 _ _)
      (tuple_addW2 t b vs.toArray ws.toArray n n2 dd dd2 sl sl2 (by simpa using hv) (by simpa using hw) (by rw [List.size_toArray,List.size_toArray];exact hsz)) ⟨ho,ho2,?_⟩
    rw [e]
    exact h2 hw
def sIx (n d:Nat):Option Int->Nat
  | none=>d
  | some v=>if v<0 then(v+(n:Int)).toNat else min v.toNat n
theorem T5 (n d:Nat):sIx n d none=d:=rfl
theorem V6 (n d k:Nat):sIx n d (some (k:Int))=min k n:=by
  show(if(k:Int)<0 then((k:Int)+(n:Int)).toNat else min (k:Int).toNat n)=min k n
  rw [if_neg (by omega),Int.toNat_natCast]
theorem Ab7 (n d:Nat) (hd:d<=n) (o:Option Int):sIx n d o<=n:=by
  cases o with
  | none=>exact hd
  | some v=>
    show(if v<0 then(v+(n:Int)).toNat else min v.toNat n)<=n
    by_cases hv:v<0
    . rw [if_pos hv];omega
    . rw [if_neg hv];exact Nat.min_le_right _ _
theorem Vt (v:Int) (n d:Nat):(if v<0 then max (v+(n:Int)) 0 else min v (n:Int))=((sIx n d (some v):Nat):Int):=by
  show(if v<0 then max (v+(n:Int)) 0 else min v (n:Int))=(((if v<0 then(v+(n:Int)).toNat else min v.toNat n):Nat):Int)
  by_cases hv:v<0
  . simp only [if_pos hv];omega
  . simp only [if_neg hv];omega
theorem U3 (lo hi:Option Int) (n:Nat):Builtin.Slice.sliceAdjust lo hi 1 (n:Int)=(((sIx n 0 lo:Nat):Int),((sIx n n hi:Nat):Int)):=by
  have h1:¬((1:Int)<0):=by omega
  unfold Builtin.Slice.sliceAdjust
  simp only [h1,if_false]
  refine Prod.ext ?_ ?_
  . cases lo with
    | none=>rfl
    | some v=>exact Vt v n 0
  . cases hi with
    | none=>rfl
    | some v=>exact Vt v n n
theorem Ul (i j:Nat):Builtin.Slice.slicePlaces (i:Int) (j:Int) 1=j-i:=by
  unfold Builtin.Slice.slicePlaces
  have h1:(1:Int)>0:=by omega
  simp only [h1,if_true,Int.ediv_one]
  split<;>omega
theorem Ny {v:Value}{o:Option Int}{Q:Option Int->Shared->Prop} (p:IsPart v o) (h:Q o s):wpAny (model prog w) A (Builtin.Slice.slicePartIndex v) Q E s:=by
  cases p with
  | none=>exact slicePart_none h
  | int i t=>exact slicePart_int h
theorem Hv {sl:Addr}{vl vu:Value}{lo hi:Option Int}{n:Nat}{Q:Int × Int × Nat->Shared->Prop} (hs:s.heap.IsSliceOf sl vl vu .none) (pl:IsPart vl lo) (pu:IsPart vu hi)
    (h:Q (((sIx n 0 lo:Nat):Int),1,sIx n n hi-sIx n 0 lo) s):wpAny (model prog w) A (Builtin.Slice.sliceApplied (.ref sl) (pure (n:Int))) Q E s:=by
  obtain⟨os,hos,hcs,hds⟩:=id hs
  unfold Builtin.Slice.sliceApplied Builtin.Slice.sliceFields
  refine wpAny_bind (wpAny_bind (wpAny_field hos hds (x:=vl) rfl (wpAny_bind (wpAny_field hos hds (x:=vu) rfl (wpAny_bind (wpAny_field hos hds (x:= .none) rfl (wpAny_pure ?_)))))))
  refine wpAny_bind (slicePart_none ?_)
  show wpAny _ _ (if((1:Int)==0)=true then _ else _) _ _ s
  rw [if_neg (by decide)]
  refine wpAny_bind (Ny pl (wpAny_bind (Ny pu (wpAny_bind (wpAny_pure ?_)))))
  show wpAny _ _ (match Builtin.Slice.sliceAdjust lo hi 1 (n:Int)with | (lo,hi)=>pure (lo,(1:Int),Builtin.Slice.slicePlaces lo hi 1)) _ _ s
  rw [U3 lo hi n]
  show wpAny _ _ (pure (((sIx n 0 lo:Nat):Int),(1:Int),Builtin.Slice.slicePlaces ((sIx n 0 lo:Nat):Int) ((sIx n n hi:Nat):Int) 1)) _ _ s
  rw [Ul]
  exact wpAny_pure h
theorem Yd (xs:Array Value) (i k:Nat):((List.range k).filterMap fun(m:Nat)=>xs[((i:Int)+(m:Int)*1).toNat]?).toArray=((xs.toList.drop i).take k).toArray:=by
  have e:(fun(m:Nat)=>xs[((i:Int)+(m:Int)*1).toNat]?)=fun m=>xs[i+m]? :=by
    funext m
    have:((i:Int)+(m:Int)*1).toNat=i+m:=by omega
    rw [this]
  rw [e]
  have:=pick_run xs i k
  rw [List.filterMap_map]at this
  have e2:((fun x=>xs[x]?) ∘ fun x=>i+x)=fun m=>xs[i+m]? :=rfl
  rw [e2]at this
  rw [this]
theorem Lx {t sl:Addr}{items:Array Value}{vl vu:Value}{lo hi:Option Int}{Q:Value->Shared->Prop} (ht:IsTup s.heap t items) (hs:s.heap.IsSliceOf sl vl vu .none) (pl:IsPart vl lo) (pu:IsPart vu hi)
    (hw:¬(sIx items.size 0 lo=0/\sIx items.size items.size hi=items.size))
    (h:Q (.ref s.heap.objs.size) { s with heap:=s.heap.push { cls:= .type "tuple",data:= .seq ((items.toList.drop (sIx items.size 0 lo)).take (sIx items.size items.size hi-sIx items.size 0 lo)).toArray}})
    (hsz:items.size<=sizeLine):wpAny (model prog w) A (getItem (.ref t) (.ref sl)) Q E s:=by
  have htake:sizeOk (.seq ((items.toList.drop (sIx items.size 0 lo)).take (sIx items.size items.size hi-sIx items.size 0 lo)).toArray):=by
    show((items.toList.drop (sIx items.size 0 lo)).take (sIx items.size items.size hi-sIx items.size 0 lo)).toArray.size<=sizeLine
    rw [List.size_toArray,List.length_take,List.length_drop,Array.length_toList]
    omega
  have hj:sIx items.size items.size hi<=items.size:=Ab7 _ _ (Nat.le_refl _) hi
  obtain⟨os,hos,hcs,hds⟩:=id hs
  have hTs:s.TypeIs (.ref sl) "slice":=⟨os,hos,hcs⟩
  unfold getItem
  try with_reducible refine wpAny_holding ?_
  first | refine wpAny_bind (wpAny_pure ?_) | skip
  refine wpAny_bind (wpAny_sequenceKey ht.typeIs (by decide) ?_)
  refine wpAny_bind (wpAny_callSpecial?_slot (name:=Str.ofString "__getitem__") ht.typeIs PyProof.Rows.slot_tuple_getitem
    (wpAny_call_entry PyProof.Rows.slot_tuple_getitem ht.typeIs entry_tuple_getitem ?_ (args_tuple_getitem _ _)))
  show wpAny _ _ (Builtin.Tuple.tupleItemsOf (.ref t)>>=_) _ _ s
  refine wpAny_bind (tupleItemsOf_ ht ?_)
  refine wpAny_bind (wpAny_typeOf hTs ?_)
  rw [if_pos (by decide)]
  refine wpAny_bind (Hv hs pl pu ?_)
  have hno:¬((((sIx items.size 0 lo:Nat):Int)==0&&(1:Int)==1&&(sIx items.size items.size hi-sIx items.size 0 lo)==items.size)=true):=by
    intro q
    rw [Bool.and_eq_true,Bool.and_eq_true]at q
    have q1:((sIx items.size 0 lo:Nat):Int)=0:=eq_of_beq q.1.1
    have q2:sIx items.size items.size hi-sIx items.size 0 lo=items.size:=eq_of_beq q.2
    exact hw ⟨by omega,by omega⟩
  show wpAny _ _ (if(((sIx items.size 0 lo:Nat):Int)==0&&(1:Int)==1&&(sIx items.size items.size hi-sIx items.size 0 lo)==items.size)=true then _ else _) _ _ s
  rw [if_neg hno,Yd]
  first
    | exact wpAny_bind (m:=Builtin.Tuple.tupleExact _) (wpAny_newObj_type (wpAny_pure ⟨_,rfl,wpAny_pure h⟩) htake)
    | exact wpAny_bind (m:=Builtin.Tuple.tupleExact _) (wpAny_newObj_type (wpAny_bind (wpAny_pure (wpAny_pure ⟨_,rfl,wpAny_pure h⟩))) htake)
    | exact wpAny_bind (wpAny_bind (m:=Builtin.Tuple.tupleExact _) (wpAny_newObj_type (wpAny_pure (wpAny_pure ⟨_,rfl,wpAny_pure h⟩)) htake))
    | exact wpAny_bind (wpAny_bind (m:=Builtin.Tuple.tupleExact _) (wpAny_newObj_type (wpAny_pure ⟨_,rfl,wpAny_pure h⟩) htake))
end
end HT
namespace L2
open PySem PySem.Spec PyProof.Rows
abbrev TO:=St->Hp->(Option Int->Hp->Prop)->Prop
def PO (X:Cx) (e:Option Expr) (t:TO):Prop:=
  ∀(pins:List (Addr × Obj)) (s:Shared) (σ:St) (H:Hp) (Q:Option Int->Hp->Prop),Inv X pins σ H s->t σ H Q->
    wpAny (model X.prog X.w) X.A (evalPart e X.env) (fun u s'=>∃o H',Inv X pins σ H' s'/\IsPart u o/\Q o H') X.xe s
def R5:TO:=fun _ H Q=>Q none H
def Aab (t:TE):TO:=fun σ H Q=>t σ H fun x H1=>∃i,x= .int i/\Q (some i) H1
section
variable {X:Cx}{e:Expr}{te:TE}{lo hi:Option Expr}{tl th:TO}{pos p2:Pos}
theorem Ka:PO X none R5:=by
  intro pins s σ H Q I h
  rw [evalPart_none]
  exact wpAny_pure ⟨none,H,I,.none,h⟩
theorem Jv (h:PE X e te):PO X (some e) (Aab te):=by
  intro pins s σ H Q I hw
  rw [evalPart_some]
  refine thn (h pins s σ H _ I hw) fun u s1 ⟨x,H1,I1,r1,q1⟩=> ?_
  obtain⟨i,rfl,q⟩:=q1
  obtain⟨t,rfl⟩:=r1
  exact⟨some i,H1,I1,.int i t,q⟩
def SlR (X:Cx) (r:V->Option Int->Option Int->Hp->VK->Prop):Prop:=
  ∀(pins:List (Addr × Obj)) (s:Shared) (σ:St) (H:Hp) (x:V) (v vl vu:Value) (lo hi:Option Int) (sl:Addr) (Q:VK),Inv X pins σ H s->RelV x v->s.heap.IsSliceOf sl vl vu .none->IsPart vl lo->IsPart vu hi->r x lo hi H Q->
    ∃T id,typeLookup (.type T) "__getitem__"=pure (some (.builtin id))/\s.TypeIs v T/\wpAny (model X.prog X.w) X.A (getItem v (.ref sl)) (EP X pins σ Q) X.xe s
def tSl (r:V->Option Int->Option Int->Hp->VK->Prop) (te:TE) (tl th:TO):TE:=fun σ H Q=>te σ H fun x H1=>tl σ H1 fun l H2=>th σ H2 fun u H3=>r x l u H3 Q
theorem Hs {r:V->Option Int->Option Int->Hp->VK->Prop} (hr:SlR X r) (he:PE X e te) (hl:PO X lo tl) (hu:PO X hi th):PE X (.Subscript e (.Slice lo hi none p2) pos) (tSl r te tl th):=by
  intro pins s σ H Q I h
  refine Subscript_ (thn (he pins s σ H _ I h) fun v s1 ⟨x,H1,I1,r1,q1⟩=> ?_)
  refine wpAny_Slice (thn (hl pins s1 σ H1 _ I1 q1) fun vl s2 ⟨l,H2,I2,pl,q2⟩=>thn (hu pins s2 σ H2 _ I2 q2) fun vu s3 ⟨u,H3,I3,pu,q3⟩=> ?_)
  rw [evalPart_none]
  refine wpAny_pure ?_
  have I4:Inv X pins σ H3 { s3 with heap:=s3.heap.push { cls:= .type "slice",data:= .fields #[vl,vu,.none]}}:=I3.kept (t':=s3.toks) fun b ob q=>Heap.get?_push_of_some _ q
  obtain⟨T,id,hT,ht,hg⟩:=hr pins { s3 with heap:=s3.heap.push { cls:= .type "slice",data:= .fields #[vl,vu,.none]}} σ H3 x v vl vu l u s3.heap.objs.size Q I4 r1 (Heap.IsSliceOf.new ..) pl pu q3
  show wpAny (model X.prog X.w) X.A (subscriptTail e (.Slice lo hi none p2) v (.ref s3.heap.objs.size)) (EP X pins σ Q) X.xe { s3 with heap:=s3.heap.push { cls:= .type "slice",data:= .fields #[vl,vu,.none]}}
  exact tail_any (ops:=[.ref s3.heap.objs.size,v]) ht hT hg (by with_unfolding_all rfl)
def Vc (xs:List V) (lo hi:Option Int):List V:=(xs.drop (HT.sIx xs.length 0 lo)).take (HT.sIx xs.length xs.length hi-HT.sIx xs.length 0 lo)
theorem Rm (xs:List V) (lo hi:Option Int):(Vc xs lo hi).length<=xs.length:=by
  unfold Vc
  rw [List.length_take,List.length_drop]
  omega
def Afh (K:PySem.W.Frag):V->Option Int->Option Int->Hp->VK->Prop:=fun x lo hi H Q=>∃a xs,x= .ref a/\SqT K H a xs/\
  ¬(HT.sIx xs.length 0 lo=0/\HT.sIx xs.length xs.length hi=xs.length)/\∀p,H p=none->Q (.ref p) (upd H p (.tup (Vc xs lo hi)))
theorem Acq:SlR X (Afh X.K):=by
  intro pins s σ H x v vl vu lo hi sl Q I rx hs pl pu h
  obtain⟨a,xs,rfl,hx,hw,q⟩:=h
  cases rx
  obtain⟨its,r,ht,hz⟩:=I.tuple hx
  have hlen:its.toArray.size=xs.length:=by rw [List.size_toArray];exact r.length.symm
  refine⟨"tuple",_,PyProof.Rows.slot_tuple_getitem.lookup,ht.typeIs,?_⟩
  refine HT.Lx ht hs pl pu (by rw [hlen];exact hw) ?_ (by rw [hlen];exact hz)
  rw [hlen]
  refine⟨.ref s.heap.objs.size,_,I.laid (t':=s.toks) (o:= .tup (Vc xs lo hi)) (fun b ob q=>Heap.get?_push_of_some _ q) (Nat.le_refl _) ?_,rfl,q _ (I.hok.fresh (Nat.le_refl _))⟩
  exact⟨Nat.le_trans (Rm xs lo hi) hz,_,(r.drop (HT.sIx xs.length 0 lo)).take (HT.sIx xs.length xs.length hi-HT.sIx xs.length 0 lo),IsTup.new _ _⟩
def Adx (K:PySem.W.Frag):R2:=fun x y H Q=>∃a b xs ys,x= .ref a/\y= .ref b/\SqT K H a xs/\SqT K H b ys/\xs≠ []/\xs.length+ys.length<=sizeLine/\
  (ys=[]->Q (.ref a) H)/\(ys≠ []->∀p,H p=none->Q (.ref p) (upd H p (.tup (xs++ys))))
theorem Vals.nil_iff {xs:List V}{us:List Value} (r:Vals xs us):us=[]↔xs=[]:=by
  cases r with
  | nil=>simp
  | cons _ _=>simp
theorem Aaq:OpR X (binaryOp .Add) (Adx X.K):=by
  intro pins s σ H x y v u Q I rx ry h
  obtain⟨a,b,xs,ys,rfl,rfl,ha,hb,hx,hz,q1,q2⟩:=h
  cases rx
  cases ry
  obtain⟨its,r1,p1,_⟩:=I.tuple ha
  obtain⟨its2,r2,p2,_⟩:=I.tuple hb
  refine HT.Abk p1 p2 (fun z=>hx (r1.nil_iff.mp z)) (fun z=>⟨.ref a,H,I,rfl,q1 (r2.nil_iff.mp z)⟩) (fun z=> ?_) (by rw [<-r1.length,<-r2.length];exact hz)
  refine⟨.ref s.heap.objs.size,_,I.laid (t':=s.toks) (o:= .tup (xs++ys)) (fun b ob q=>Heap.get?_push_of_some _ q) (Nat.le_refl _) ?_,rfl,q2 (fun w=>z (r2.nil_iff.mpr w)) _ (I.hok.fresh (Nat.le_refl _))⟩
  exact⟨by rw [List.length_append];exact hz,_,r1.append r2,IsTup.new _ _⟩
end
end L2
namespace L2
open PySem PySem.Spec PyProof.Rows
def ixN (n:Nat) (i:Int):Option Nat:=if 0<=i then(if i<n then some i.toNat else none)else if-(n:Int)<=i then some (i+n).toNat else none
def atI {α:Type} (xs:List α) (i:Int):Option α:=(ixN xs.length i).bind fun j=>xs[j]?
theorem Abn {n:Nat}{i:Int}{j:Nat} (h:ixN n i=some j):seqIndex? i n=some j/\j<n/\ -(n:Int)<=i/\i<n:=by
  unfold ixN at h
  by_cases h0:0<=i
  . rw [if_pos h0]at h
    by_cases h1:i<n
    . rw [if_pos h1]at h
      have e:i.toNat=j:=Option.some.inj h
      exact⟨by rw [seqIndex_of h0 h1,e],by omega,by omega,h1⟩
    . rw [if_neg h1]at h;cases h
  . rw [if_neg h0]at h
    by_cases h1: -(n:Int)<=i
    . rw [if_pos h1]at h
      have e:(i+n).toNat=j:=Option.some.inj h
      exact⟨by rw [seqIndex_neg (by omega) h1,e],by omega,h1,by omega⟩
    . rw [if_neg h1]at h;cases h
theorem Wu {α:Type}{xs:List α}{i:Int}{v:α} (h:atI xs i=some v):∃j,seqIndex? i xs.length=some j/\xs[j]? =some v/\j<xs.length/\ -(xs.length:Int)<=i/\i<xs.length:=by
  unfold atI at h
  cases e:ixN xs.length i with
  | none=>rw [e]at h;cases h
  | some j=>
    rw [e]at h
    obtain⟨h1,h2,h3,h4⟩:=Abn e
    exact⟨j,h1,h,h2,h3,h4⟩
theorem Bk {α:Type}{xs:List α}{j:Nat}{v:α} (h:xs[j]? =some v):atI xs (j:Int)=some v:=by
  have hj:j<xs.length:=(List.getElem?_eq_some_iff.mp h).1
  have e:ixN xs.length (j:Int)=some j:=by
    unfold ixN
    rw [if_pos (by omega),if_pos (by omega)];simp
  unfold atI;rw [e];exact h
theorem Y7 {α:Type} (xs:List α) (v:α):atI (xs++ [v]) (-1)=some v:=by
  have hl:(xs++ [v]).length=xs.length+1:=by simp
  have e:ixN (xs++ [v]).length (-1)=some xs.length:=by
    unfold ixN
    rw [hl,if_neg (by decide),if_pos (by omega)]
    congr 1
    omega
  unfold atI
  rw [e]
  show(xs++ [v])[xs.length]? =some v
  simp
def Vo (b:Expr):Prop:=∀o i,subscripted b false o i=operate [o,i] (getItem o i)
def IxR (X:Cx) (r:R2):Prop:=
  ∀(value slice:Expr) (pins:List (Addr × Obj)) (s:Shared) (σ:St) (H:Hp) (x y:V) (v u:Value) (Q:VK),Inv X pins σ H s->RelV x v->RelV y u->r x y H Q->
    subscripted slice false v u=operate [v,u] (getItem v u)->wpAny (model X.prog X.w) X.A (subscriptTail value slice v u) (EP X pins σ Q) X.xe s
def MtR (X:Cx) (id:String) (r:V->List V->Hp->VK->Prop):Prop:=
  ∀(pins:List (Addr × Obj)) (s:Shared) (σ:St) (H:Hp) (x:V) (xs:List V) (v:Value) (us:List Value) (Q:VK),Inv X pins σ H s->RelV x v->Vals xs us->r x xs H Q->
    wpAny (model X.prog X.w) X.A (call (.builtin id) (v::us)) (EP X pins σ Q) X.xe s
section
variable {X:Cx}{a b:Expr}{ta tb:TE}{pos:Pos}
theorem Ay {r:R2} (hr:IxR X r) (ha:PE X a ta) (hb:PE X b tb) (hs:Vo b):PE X (.Subscript a b pos) (tOp r ta tb):=by
  intro pins s σ H Q I h
  exact Subscript_ (Aeo ha hb I h fun v u s2 x y H2 I2 rx ry q=>hr a b pins s2 σ H2 x y v u Q I2 rx ry q (hs _ _))
def Adf (K:PySem.W.Frag):R2:=fun x y H Q=>∃p xs i v,x= .ref p/\y= .int i/\SqL K H p xs/\atI xs i=some v/\Q v H
def Aee (K:PySem.W.Frag):R2:=fun x y H Q=>∃p xs i v,x= .ref p/\y= .int i/\SqT K H p xs/\atI xs i=some v/\Q v H
theorem G9:IxR X (Adf X.K):=by
  intro value slice pins s σ H x y v u Q I rx ry h hs
  obtain⟨p,xs,i,z,rfl,rfl,hq,he,q⟩:=h
  cases rx
  obtain⟨t,rfl⟩:=ry
  obtain⟨its,r,pl,hz⟩:=I.list hq
  obtain⟨j,h1,h2,h3,h4,h5⟩:=Wu he
  obtain⟨w,ew,rw'⟩:=r.get h2
  have hl:=r.length
  have hn:=Wm
  have fin:EP X pins σ Q w s:=⟨z,H,I,rw',q⟩
  by_cases h0:0<=i
  . have hj:i.toNat=j:=by
      rw [seqIndex_of h0 h5]at h1
      exact Option.some.inj h1
    exact item_listR pl.isList h0 (by omega) (by rw [hj];simpa using ew) fin hs
  . have hj:(i+(its.toArray.size:Int)).toNat=j:=by
      rw [seqIndex_neg (by omega) h4]at h1
      rw [List.size_toArray,<-hl]
      exact Option.some.inj h1
    exact subscriptTail_builtinR (x:=w) pl.isList.typeIs slot_list_getitem.lookup
      (wpAny_getItem_list_neg (Q:=fun r s'=>r=w/\EP X pins σ Q r s') pl.isList (by omega) (by rw [List.size_toArray]<;>omega) (by omega) (by rw [hj];simpa using ew) ⟨rfl,fin⟩) hs
theorem Ak:IxR X (Aee X.K):=by
  intro value slice pins s σ H x y v u Q I rx ry h hs
  obtain⟨p,xs,i,z,rfl,rfl,hq,he,q⟩:=h
  cases rx
  obtain⟨t,rfl⟩:=ry
  obtain⟨its,r,pl,hz⟩:=I.tuple hq
  obtain⟨j,h1,h2,h3,h4,h5⟩:=Wu he
  obtain⟨w,ew,rw'⟩:=r.get h2
  have hl:=r.length
  have hn:=Wm
  have fin:EP X pins σ Q w s:=⟨z,H,I,rw',q⟩
  exact subscriptTail_builtinR (x:=w) pl.typeIs slot_tuple_getitem.lookup
    (getItem_tuple (j:=j) (Q:=fun r s'=>r=w/\EP X pins σ Q r s') pl (by omega) (by omega) (by rw [List.size_toArray,<-hl];exact h1) (by simpa using ew) ⟨rfl,fin⟩) hs
theorem Inv.lst {pins:List (Addr × Obj)}{σ:St}{H:Hp}{s:Shared}{p:Addr}{xs:List V} (I:Inv X pins σ H s) (h:H p=some (.lst xs)):
    ∃(its:List Value) (n:Nat),Vals xs its/\s.heap.get? p=some { cls:= .type "list",data:= .seq its.toArray n}/\xs.length<=sizeLine:=by
  obtain⟨z,its,n,r,e⟩:=I.hok p _ h
  exact⟨its,n,r,e,z⟩
def Qi:V->Bool
  | .non=>true
  | .bl _=>true
  | .int _=>true
  | .str _=>true
  | _=>false
def eqV:V->V->Bool
  | .non,.non=>true
  | .bl a,.bl b=>a==b
  | .bl a,.int b=>(if a then 1 else 0)==b
  | .int a,.bl b=>a==(if b then 1 else 0)
  | .int a,.int b=>a==b
  | .str a,.str b=>a==b
  | _,_=>false
theorem Ac5 {A:Around}{s:Shared}{y x:V}{u v:Value} (ry:RelV y u) (rx:RelV x v) (fy:Qi y=true) (fx:Qi x=true):SeqAt.EqAt A s u v (eqV y x):=by
  cases y with
  | non=>
    cases ry
    cases x with
    | non=>cases rx;exact SeqAt.EqAt.same _
    | bl b=>cases rx;exact SeqAt.EqAt.none_bool b
    | int b=>obtain⟨t,rfl⟩:=rx;exact SeqAt.EqAt.none_int b t
    | str b=>obtain⟨t,rfl⟩:=rx;exact SeqAt.EqAt.none_str b t
    | _=>exact absurd (show false=true from fx) Bool.false_ne_true
  | bl a=>
    cases ry
    cases x with
    | non=>cases rx;exact SeqAt.EqAt.bool_none a
    | bl b=>cases rx;exact SeqAt.EqAt.bool_bool a b
    | int b=>obtain⟨t,rfl⟩:=rx;exact SeqAt.EqAt.bool_int a b t
    | str b=>obtain⟨t,rfl⟩:=rx;exact SeqAt.EqAt.bool_str a b t
    | _=>exact absurd (show false=true from fx) Bool.false_ne_true
  | int a=>
    obtain⟨t',rfl⟩:=ry
    cases x with
    | non=>cases rx;exact SeqAt.EqAt.int_none a t'
    | bl b=>cases rx;exact SeqAt.EqAt.int_bool a t' b
    | int b=>obtain⟨t,rfl⟩:=rx;exact SeqAt.EqAt.int_int a t' b t
    | str b=>obtain⟨t,rfl⟩:=rx;exact SeqAt.EqAt.int_str a t' b t
    | _=>exact absurd (show false=true from fx) Bool.false_ne_true
  | str a=>
    obtain⟨t',rfl⟩:=ry
    cases x with
    | non=>cases rx;exact SeqAt.EqAt.str_none a t'
    | bl b=>cases rx;exact SeqAt.EqAt.str_bool a t' b
    | int b=>obtain⟨t,rfl⟩:=rx;exact SeqAt.EqAt.str_int a t' b t
    | str b=>obtain⟨t,rfl⟩:=rx;exact SeqAt.EqAt.str_str a t' b t
    | _=>exact absurd (show false=true from fx) Bool.false_ne_true
  | _=>exact absurd (show false=true from fy) Bool.false_ne_true
def eqU (x:V) (u:Value):Bool:=match u with
  | .none=>eqV .non x
  | .bool b=>eqV (.bl b) x
  | .int i _=>eqV (.int i) x
  | .str z _=>eqV (.str z) x
  | _=>false
theorem Z8 {x y:V}{u:Value} (r:RelV y u) (f:Qi y=true):eqU x u=eqV y x:=by
  cases y with
  | non=>cases r;rfl
  | bl b=>cases r;rfl
  | int i=>obtain⟨t,rfl⟩:=r;rfl
  | str z=>obtain⟨t,rfl⟩:=r;rfl
  | _=>exact absurd (show false=true from f) Bool.false_ne_true
theorem Rn {x:V}:∀ {xs:List V}{us:List Value},Vals xs us->xs.all Qi=true->us.any (eqU x)=xs.any fun y=>eqV y x
  | _,_,.nil,_=>rfl
  | y::xs,u::us,.cons r t,f=>by
    rw [List.all_cons,Bool.and_eq_true]at f
    rw [List.any_cons,List.any_cons,Z8 r f.1,Rn t f.2]
theorem Ou {A:Around}{s:Shared}{x:V}{v:Value} (rx:RelV x v) (fx:Qi x=true):∀ {xs:List V}{us:List Value},Vals xs us->xs.all Qi=true->∀u∈us,SeqAt.EqAt A s u v (eqU x u)
  | _,_,.nil,_=>fun u hu=>by cases hu
  | y::xs,u::us,.cons r t,f=>fun u' hu=>by
    rw [List.all_cons,Bool.and_eq_true]at f
    rcases List.mem_cons.mp hu with rfl | hu
    . rw [Z8 r f.1];exact Ac5 r rx f.1 fx
    . exact Ou rx fx t f.2 u' hu
def inV (x:V) (xs:List V):Bool:=xs.any fun y=>eqV y x
def rIn (K:PySem.W.Frag) (neg:Bool):R2:=fun x y H Q=>∃p xs,y= .ref p/\(SqL K H p xs\/SqT K H p xs)/\Qi x=true/\xs.all Qi=true/\Q (.bl (if neg then !inV x xs else inV x xs)) H
theorem Qq:OpR X (compareOp .NotIn) (rIn X.K true):=by
  intro pins s σ H x y v u Q I rx ry h
  obtain⟨p,xs,rfl,hq,fx,fs,q⟩:=h
  cases ry
  rcases hq with hq | hq
  . obtain⟨its,r,pl,hz⟩:=I.list hq
    refine SeqAt.notIn_listAt (eqU x) pl.isList (fun w hw=>Ou rx fx r fs w (by simpa using hw)) ⟨.bl _,H,I,rfl,?_⟩
    rw [show its.toArray.any (eqU x)=its.any (eqU x)by simp,Rn r fs]
    exact q
  . obtain⟨its,r,pl,hz⟩:=I.tuple hq
    refine SeqAt.notIn_tupleAt (eqU x) pl (fun w hw=>Ou rx fx r fs w (by simpa using hw)) ⟨.bl _,H,I,rfl,?_⟩
    rw [show its.toArray.any (eqU x)=its.any (eqU x)by simp,Rn r fs]
    exact q
theorem Bb:Hy X (.builtin "len") (fun xs H Q=>∃p ys,xs=[.ref p]/\(SqL X.K H p ys\/SqT X.K H p ys)/\Q (.int ys.length) H):=by
  intro pins s σ H xs us Q I r h
  obtain⟨p,ys,rfl,hq,q⟩:=h
  obtain⟨u,rfl,rx⟩:=vals1 r
  cases rx
  have hn:=Wm
  rcases hq with hq | hq
  . obtain⟨its,r',pl,hz⟩:=I.list hq
    have hlen:=r'.length
    exact Calls.call_len_list pl.isList (by simp only [List.size_toArray]<;>omega) ⟨.int ys.length,H,I.tok _,⟨s.toks+1,by rw [List.size_toArray,hlen]⟩,q⟩
  . obtain⟨its,r',pl,hz⟩:=I.tuple hq
    have hlen:=r'.length
    exact len_tuple pl (by simp only [List.size_toArray]<;>omega) ⟨.int ys.length,H,I.tok _,⟨s.toks+1,by rw [List.size_toArray,hlen]⟩,q⟩
theorem Gz:Hy X (.type "list") (fun xs H Q=>∃p ys,xs=[.ref p]/\(SqL X.K H p ys\/SqT X.K H p ys)/\∀l,H l=none->Q (.ref l) (upd H l (.lst ys))):=by
  intro pins s σ H xs us Q I r h
  obtain⟨p,ys,rfl,hq,q⟩:=h
  obtain⟨u,rfl,rx⟩:=vals1 r
  cases rx
  have fin:∀(its:List Value),Vals ys its->ys.length<=sizeLine->∀(h':Heap) (c':Nat),(∀b o',s.heap.get? b=some o'->h'.get? b=some o')->
      h'.get? s.heap.objs.size=some { cls:= .type "list",dict:=none,data:= .seq its.toArray c',slots:= #[]}->EP X pins σ Q (.ref s.heap.objs.size) { s with heap:=h'}:=fun its r' hz h' c' kp e=>
    ⟨.ref s.heap.objs.size,_,I.laid (t':=s.toks) kp (Nat.le_refl _) (show Dl X.prog X.w _ h' _ (.lst ys)from⟨hz,its,c',r',e⟩),rfl,q _ (I.hok.fresh (Nat.le_refl _))⟩
  rcases hq with hq | hq
  . obtain⟨its,r',pl,hz⟩:=I.list hq
    have hlen:=r'.length
    obtain⟨o,ho,hc,n,hd⟩:=pl.isList
    exact call_list_seq p (.inl rfl) ho hc hd (fun h' c' kp e=>fin its r' hz h' c' kp e) (by simp only [List.size_toArray]<;>omega)
  . obtain⟨its,r',pl,hz⟩:=I.tuple hq
    have hlen:=r'.length
    obtain⟨o,ho,hc,n,hd⟩:=pl
    exact call_list_seq p (.inr rfl) ho hc hd (fun h' c' kp e=>fin its r' hz h' c' kp e) (by simp only [List.size_toArray]<;>omega)
theorem Eb:Hy X (.type "tuple") (fun xs H Q=>∃p ys,xs=[.ref p]/\((SqL X.K H p ys/\∀l,H l=none->Q (.ref l) (upd H l (.tup ys)))\/(SqT X.K H p ys/\Q (.ref p) H))):=by
  intro pins s σ H xs us Q I r h
  obtain⟨p,ys,rfl,h⟩:=h
  obtain⟨u,rfl,rx⟩:=vals1 r
  cases rx
  rcases h with⟨hq,q⟩ | ⟨hq,q⟩
  . obtain⟨its,r',pl,hz⟩:=I.list hq
    have hlen:=r'.length
    refine call_tuple_list pl.isList (fun h' kp=> ?_) (by simp only [List.size_toArray]<;>omega)
    have I1:Inv X pins σ H { s with heap:=h'}:=I.kept (t':=s.toks) kp
    have I2:Inv X pins σ (upd H h'.objs.size (.tup ys)) { s with heap:=h'.push { cls:= .type "tuple",data:= .seq its.toArray}}:=
      I1.laid (t':=s.toks) (fun b o e=>Heap.get?_push_of_some _ e) (Nat.le_refl _) (show Dl X.prog X.w _ _ _ (.tup ys)from⟨hz,its,r',IsTup.new _ _⟩)
    exact⟨.ref h'.objs.size,_,I2,rfl,q _ (I1.hok.fresh (Nat.le_refl _))⟩
  . obtain⟨its,r',pl,hz⟩:=I.tuple hq
    exact call_tuple_same pl ⟨.ref p,H,I,rfl,q⟩
def tyV (K:PySem.W.Frag) (T:String) (x:V) (H:Hp):Prop:=match x with
  | .str _=>T="str"
  | .int _=>T="int"
  | .ref p=>(T="list"/\∃xs,SqL K H p xs)\/(T="tuple"/\∃o,K.lookup p=some o/\o.cls= .type "tuple"/\o.dict=none)\/
      (T="dict"/\((∃kvs,H p=some (.dK kvs))\/∃kvs,H p=some (.dT kvs)))\/(T="set"/\∃S n,H p=some (.set S n))
  | _=>False
theorem Zk {pins:List (Addr × Obj)}{σ:St}{H:Hp}{s:Shared}{T:String}{x:V}{v:Value} (I:Inv X pins σ H s) (r:RelV x v) (ty:tyV X.K T x H):
    s.TypeIs v T/\∀a,v= .ref a->∃ob,s.heap.get? a=some ob/\ob.dict=none:=by
  cases x with
  | str z=>
    obtain⟨t,rfl⟩:=r
    cases(show T="str" from ty)
    exact⟨typeIs_str s z t,fun _ e=>nomatch e⟩
  | int i=>
    obtain⟨t,rfl⟩:=r
    cases(show T="int" from ty)
    exact⟨typeIs_int s i t,fun _ e=>nomatch e⟩
  | ref p=>
    cases r
    rcases ty with⟨rfl,xs,hq⟩ | ⟨rfl,o,hk,hc,hd⟩ | ⟨rfl,hk⟩ | ⟨rfl,S,n,hk⟩
    . obtain⟨its,_,pl,_⟩:=I.list hq
      refine⟨pl.isList.typeIs,fun a e=> ?_⟩
      cases e
      obtain⟨o,n,e,c,hd,_⟩:=pl
      exact⟨o,e,hd⟩
    . refine⟨⟨o,I.kIn p o hk,hc⟩,fun a e=> ?_⟩
      cases e
      exact⟨o,I.kIn _ o hk,hd⟩
    . have z:∃o,s.heap.get? p=some o/\o.ExactDict:=by
        rcases hk with⟨kvs,hk⟩ | ⟨kvs,hk⟩
        . obtain⟨_,_,_,_,o,_,_,e,ex,_⟩:=I.hok p _ hk
          exact⟨o,e,ex⟩
        . obtain⟨_,_,_,_,o,_,_,e,ex,_⟩:=I.hok p _ hk
          exact⟨o,e,ex⟩
      obtain⟨o,e,ex⟩:=z
      refine⟨⟨o,e,ex.1⟩,fun a e2=> ?_⟩
      cases e2
      exact⟨o,e,ex.2.1⟩
    . obtain⟨o,_,_,_,e,ex,_⟩:=I.hok p _ hk
      refine⟨⟨o,e,ex.1⟩,fun a e2=> ?_⟩
      cases e2
      exact⟨o,e,ex.2.1⟩
  | _=>exact False.elim ty
def Ael (K:PySem.W.Frag) (T:String) (r:V->List V->Hp->VK->Prop) (to:TE):TE:=fun σ H Q=>to σ H fun x H1=>tyV K T x H1/\r x [] H1 Q
def tBM (K:PySem.W.Frag) (T:String) (r:V->List V->Hp->VK->Prop) (to:TE) (t:TA):TE:=fun σ H Q=>to σ H fun x H1=>tyV K T x H1/\t σ H1 fun xs H2=>r x xs H2 Q
variable {o e:Expr}{es:List Expr}{to:TE}{t:TA}{name:Str}{apos cpos:Pos}{T id:String}{r:V->List V->Hp->VK->Prop}
theorem Qc (pa:PlainAttrs T) (slot:Slot T name id) (hty:typeOf (.builtin id)=pure (.type "method_descriptor")) (hm:MtR X id r) (ho:PE X o to)
    (hbase:attributeBase o name X.env (eval o X.env)=eval o X.env:=by rfl) (hline:(apos.endLine==cpos.line)=true:=by rfl):PE X (.Call (.Attribute o name apos) [] [] cpos) (Ael X.K T r to):=by
  intro pins s σ H Q I h
  refine wpAny_Call_method0_late hbase hline (thn (ho pins s σ H _ I h) fun v s1 ⟨x,H1,I1,r1,ty,q1⟩=> ?_)
  obtain⟨h1,h2⟩:=Zk I1 r1 ty
  exact⟨T,id,pa,slot,hty,h1,h2,Calls.callWith_builtin rfl (PySem.evalArgs_none (hm pins s1 σ H1 x [] v [] Q I1 r1 .nil q1))⟩
theorem M8 (pa:PlainAttrs T) (slot:Slot T name id) (hty:typeOf (.builtin id)=pure (.type "method_descriptor")) (hm:MtR X id r) (ho:PE X o to) (ha:PA X (e::es) t)
    (hbase:attributeBase o name X.env (eval o X.env)=eval o X.env:=by rfl)
    (hfew:((backTo cpos (starEach (e::es) X.env)).all (fun x=> !x.1)&&(backToKw cpos (keywordEach [] X.env)).all (fun x=>x.1.isSome)
      &&decide ((e::es).length+([]:List Keyword).length+(if([]:List Keyword).isEmpty then 0 else 1)<30))=true:=by rfl)
    (hline:(apos.endLine==cpos.line)=true:=by rfl) (hs:starEach (e::es) X.env=(false,eval e X.env)::starEach es X.env:=by rfl) (hplain:(backTo cpos (starEach es X.env)).any (·.1)=false:=by rfl):
    PE X (.Call (.Attribute o name apos) (e::es) [] cpos) (tBM X.K T r to t):=by
  intro pins s σ H Q I h
  refine wpAny_Call_method_late hbase hfew hline rfl (thn (ho pins s σ H _ I h) fun v s1 ⟨x,H1,I1,r1,ty,q1⟩=> ?_)
  obtain⟨h1,h2⟩:=Zk I1 r1 ty
  refine⟨T,id,pa,slot,hty,h1,h2,?_⟩
  have hA:=ha cpos pins s1 σ H1 _ I1 q1
  rw [hs]at hA ⊢
  refine Calls.callWith_builtin (by show(false||(backTo cpos (starEach es X.env)).any (·.1))=false;rw [hplain]<;>rfl) (Calls.evalArgs_plain ?_)
  exact thn hA fun us s2 ⟨vs,H2,I2,r2,q2⟩=>hm pins s2 σ H2 x vs v us Q I2 r1 r2 q2
/-xs.append(e),list.index on a module's tuple .. are MtR facts of 06m-/
end
end L2
namespace L2
open PySem PySem.Spec PyProof.Rows
def MtM (X:Cx) (id:String) (r:V->List V->Hp->VK->Prop):Prop:=
  ∀(pins:List (Addr × Obj)) (s:Shared) (σ:St) (H:Hp) (x:V) (xs:List V) (v:Value) (us:List Value) (Q:VK),Inv X pins σ H s->RelV x v->Vals xs us->r x xs H Q->
    wpAny (model X.prog X.w) X.A (call (.builtin id) (v::us)) (EP X pins σ Q) X.xe s
theorem Vals.one:∀ {x:V}{us:List Value},Vals [x] us->∃u,us=[u]/\RelV x u
  | _,_,.cons r .nil=>⟨_,rfl,r⟩
theorem Vals.two:∀ {x y:V}{us:List Value},Vals [x,y] us->∃u v,us=[u,v]/\RelV x u/\RelV y v
  | _,_,_,.cons r (.cons q .nil)=>⟨_,_,rfl,r,q⟩
theorem Vals.zero:∀ {us:List Value},Vals [] us->us=[]
  | _,.nil=>rfl
theorem Vals.dropLast {xs:List V}{us:List Value} (h:Vals xs us):Vals xs.dropLast us.dropLast:=by
  induction h with
  | nil=>exact .nil
  | cons r t ih=>
    cases t with
    | nil=>exact .nil
    | cons q t'=>exact .cons r ih
theorem Vals.reverse {xs:List V}{us:List Value} (h:Vals xs us):Vals xs.reverse us.reverse:=by
  induction h with
  | nil=>exact .nil
  | cons r t ih=>rw [List.reverse_cons,List.reverse_cons];exact Vals.append ih (.cons r .nil)
theorem Vals.rep {xs:List V}{us:List Value} (h:Vals xs us):∀k:Nat,Vals (List.replicate k xs).flatten (List.replicate k us).flatten
  | 0=> .nil
  | k+1=>by
    rw [List.replicate_succ,List.replicate_succ,List.flatten_cons,List.flatten_cons]
    exact Vals.append h (Vals.rep h k)
theorem foldl_rep (its:List Value):∀(k:Nat) (acc:List Value),
    List.foldl (fun x1 x2=>x1++x2) acc.toArray (List.replicate k its.toArray)=(acc++(List.replicate k its).flatten).toArray
  | 0,acc=>by simp
  | k+1,acc=>by
    have e:acc.toArray++its.toArray=(acc++its).toArray:=by simp
    have e2:(acc++its)++(List.replicate k its).flatten=acc++(List.replicate (k+1) its).flatten:=by
      rw [List.replicate_succ,List.flatten_cons,List.append_assoc]
    rw [<-e2,<-foldl_rep its k (acc++its),<-e,List.replicate_succ,List.foldl_cons]
section
variable {X:Cx}{pins:List (Addr × Obj)}{σ:St}{H:Hp}{s:Shared}{l b:Addr}{xs ys zs:List V}
theorem Inv.lset {its its':List Value}{n:Nat}{f:Array Value->Array Value}{t':Nat} (I:Inv X pins σ H s) (hH:H l=some (.lst xs))
    (e:s.heap.get? l=some { cls:= .type "list",data:= .seq its.toArray n}) (hf:f its.toArray=its'.toArray) (hv:Vals ys its') (hz:ys.length<=sizeLine):
    Inv X pins σ (upd H l (.lst ys)) { s with heap:=s.heap.update l (Obj.mapSeq f),toks:=t'}:=by
  have q:=PySem.IsL.update e f
  rw [hf]at q
  refine I.write (x:=l) (e:=l) (by rw [hH];exact trivial) (.inl rfl) (fun b' u hb hu=>(Heap.get?_update_other s.heap (Obj.mapSeq f) (Ne.symm hb)).trans hu) ⟨_,q⟩ ?_
  exact⟨hz,its',_,hv,q⟩
theorem Inv.lnew {its:List Value}{t':Nat} (I:Inv X pins σ H s) (hv:Vals ys its) (hz:ys.length<=sizeLine):
    Inv X pins σ (upd H s.heap.objs.size (.lst ys)) { s with heap:=s.heap.push { cls:= .type "list",data:= .seq its.toArray},toks:=t'}:=
  I.laid (fun _ _ q=>Heap.get?_push_of_some _ q) (Nat.le_refl _) ⟨hz,its,0,hv,Heap.get?_push_size _ rfl⟩
theorem Inv.fresh (I:Inv X pins σ H s):H s.heap.objs.size=none:=I.hok.fresh (Nat.le_refl _)
theorem Inv.lstM (I:Inv X pins σ H s) (hH:H l=some (.lst xs)):xs.length<=sizeLine/\∃(its:List Value) (n:Nat),Vals xs its/\xs.length=its.length/\s.heap.get? l=some { cls:= .type "list",data:= .seq its.toArray n}:=by
  obtain⟨z,its,n,r,e⟩:=I.hok l _ hH
  exact⟨z,its,n,r,r.length,e⟩
theorem Zb {n:Nat} (h:n<=sizeLine):Builtin.List.listTooLong n=false:=by
  unfold Builtin.List.listTooLong
  exact decide_eq_false (by omega)
end
section
variable {X:Cx}
def Z9:V->List V->Hp->VK->Prop:=fun x vs H Q=>∃l xs y,x= .ref l/\vs=[y]/\H l=some (.lst xs)/\xs.length<sizeLine/\Q .non (upd H l (.lst (xs++ [y])))
theorem Ib:MtM X "list.append" Z9:=by
  intro pins s σ H x vs v us Q I rx rv h
  obtain⟨l,xs,y,rfl,rfl,hH,hz,q⟩:=h
  cases rx
  obtain⟨u,rfl,ru⟩:=rv.one
  obtain⟨z,its,n,r,hl,e⟩:=I.lstM hH
  refine call_meets F.slot_list_append ⟨_,e,rfl⟩ F.entry_list_append (F.args_list_append_2 _ _) (PySem.list_append l its.toArray n u (by rw [List.size_toArray];omega)) ⟨e,?_⟩
  refine⟨.non,_,I.lset (its':=its++ [u]) hH e (by simp) (r.append (.cons ru .nil)) ?_,rfl,q⟩
  rw [List.length_append,List.length_singleton]
  omega
def Afm:R2:=fun x y H Q=>∃l b xs zs,x= .ref l/\y= .ref b/\H l=some (.lst xs)/\H b=some (.lst zs)/\xs.length+zs.length<=sizeLine/\∀p,H p=none->Q (.ref p) (upd H p (.lst (xs++zs)))
theorem Xc:OpR X (binaryOp .Add) Afm:=by
  intro pins s σ H x y v u Q I rx ry h
  obtain⟨l,b,xs,zs,rfl,rfl,hH,hB,hz,q⟩:=h
  cases rx
  cases ry
  obtain⟨z,its,n,r,hl,e⟩:=I.lstM hH
  obtain⟨z2,its2,n2,r2,hl2,e2⟩:=I.lstM hB
  refine PySem.P.add_list e e2 ?_ (by rw [List.size_toArray,List.size_toArray];omega)
  have ea:its.toArray++its2.toArray=(its++its2).toArray:=by simp
  rw [ea]
  exact⟨.ref _,_,I.lnew (t':=s.toks) (r.append r2) (by rw [List.length_append];omega),rfl,q _ I.fresh⟩
def Afn:R2:=fun x y H Q=>∃l k xs,x= .ref l/\y= .int k/\H l=some (.lst xs)/\ -(2^63)<=k/\k<2^63/\xs.length*k.toNat<=sizeLine/\
  ∀p,H p=none->Q (.ref p) (upd H p (.lst (List.replicate k.toNat xs).flatten))
theorem len_rep {α:Type} (xs:List α) (k:Nat):(List.replicate k xs).flatten.length=k*xs.length:=by
  induction k with
  | zero=>simp
  | succ k ih=>rw [List.replicate_succ,List.flatten_cons,List.length_append,ih,Nat.succ_mul,Nat.add_comm]
theorem Z7:OpR X (binaryOp .Mult) Afn:=by
  intro pins s σ H x y v u Q I rx ry h
  obtain⟨l,k,xs,rfl,rfl,hH,h1,h2,hz,q⟩:=h
  cases rx
  obtain⟨t,rfl⟩:=ry
  obtain⟨z,its,n,r,hl,e⟩:=I.lstM hH
  have hlen:its.toArray.size*k.toNat<=sizeLine:=by rw [List.size_toArray,<-hl];exact hz
  have hcap:¬its.toArray.size*k.toNat>(2^63-1)/8:=by
    have:(sizeLine:Nat)<=(2^63-1)/8:=by decide
    omega
  have hfit:¬(!Builtin.List.listFitsIndex k)=true:=by
    rw [fitsIndex_both h1 h2]
    exact Bool.false_ne_true
  have hlong:¬Builtin.List.listTooLong (its.toArray.size*k.toNat)=true:=by
    rw [Zb hlen]
    exact Bool.false_ne_true
  have hnew:List.foldl (fun x1 x2=>x1++x2) #[] (List.replicate (if its.toArray.isEmpty=true then 0 else k.toNat) its.toArray)=(List.replicate k.toNat its).flatten.toArray:=by
    have f0:∀m:Nat,List.foldl (fun x1 x2=>x1++x2) #[] (List.replicate m its.toArray)=(List.replicate m its).flatten.toArray:=fun m=>by
      have:=foldl_rep its m []
      rw [List.nil_append]at this
      exact this
    rw [f0]
    cases its with
    | nil=>simp
    | cons a r'=>rw [if_neg (by simp)]
  refine wpAny_binaryOp_repeat_ref (T:="list") (U:="int") (by decide) ⟨_,e,rfl⟩ (fun s'=>typeIs_int s' k t) noFill_list_mul F.fills_int_mul F.slot_int_rmul repeat_list F.slot_int_index.lookup
    (call_meets F.slot_int_rmul (typeIs_int s k t) F.entry_int_rmul (F.args_int_rmul_2 _ _) (int___rmul___int_list k t l its.toArray n)
      ⟨e,rfl,⟨_,e,rfl⟩,call_meets F.slot_list_mul ⟨_,e,rfl⟩ F.entry_list_mul (F.args_list_mul_2 _ _) (AutoListH.list___mul___list_int_3 l its.toArray n k t hfit hcap hlong) ⟨e,?_⟩⟩)
  rw [hnew]
  exact⟨.ref _,_,I.lnew (t':=s.toks) (r.rep k.toNat) (by rw [len_rep,Nat.mul_comm];exact hz),rfl,q _ I.fresh⟩
end
end L2
namespace Att
open PySem PySem.W PySem.Calls PyProof.Rows
theorem Mv {P:Params}{h:Heap}:∀(ns:List Int) (vs:List Value),WellAll P h vs (ns.map WData.int)->IntsAre vs ns:=by
  intro ns
  induction ns with
  | nil=>
    intro vs w
    rw [List.map_nil]at w
    cases w
    exact .nil
  | cons n ns ih=>
    intro vs w
    rw [List.map_cons]at w
    cases w with
    | cons a b=>
      cases a
      exact .cons _ _ (ih _ b)
theorem Vn {l:OpenLaw}{n:Nat} (hn:l.most=some n) {P:Params}{h:Heap}{args:List WData}{vals:List Value}
    (hpre:l.row.toRowW.claim.pre args=true) (hwl:WellAll P h vals args):
    ∃a vs ns,vals=[Value.ref a]/\args=[WData.list (ns.map WData.int)]/\h.get? a=some { cls:= .type "list",data:= .seq vs.toArray}/\IntsAre vs ns/\ns.length<=n:=by
  have hsh:WShape.hasAll [] args [.list .int]=true:=(pre_splitW hpre).1
  have hc:l.pre.holds [] { args:=args}=true:=(pre_splitW hpre).2
  obtain⟨d,r,rfl,h1,h2⟩:=hasAllW_cons hsh
  obtain rfl:=hasAllW_nil h2
  obtain⟨xs,rfl,h3⟩:=hasW_list h1
  obtain⟨ns,rfl⟩:=items_int h3
  have hlen:ns.length<=n:=by
    unfold OpenLaw.pre at hc
    have h4:(WTm.not (.lt (.lit (.int (n:Int))) (.len (.arg 0)))).holds [] { args:=[.list (ns.map .int)]}=true:=by
      have h4:=(holds_andW hc).1
      rw [hn]at h4
      exact h4
    have h5:=condW_of h4 (w_not (w_lt w_lit (w_len_list (w_arg rfl))))
    rw [List.length_map]at h5
    refine Nat.le_of_not_lt fun q=> ?_
    have q':(n:Int)<((ns.length:Nat):Int):=by omega
    first
      | (rw [decide_eq_true q']at h5;exact absurd h5 (by decide))
      | (simp at h5;omega)
  cases hwl with
  | cons w1 w2=>
    cases w2
    cases w1 with
    | list ho hall=>exact⟨_,_,ns,rfl,rfl,ho,Mv ns _ hall,hlen⟩
theorem Wz (l:OpenLaw) (args:List WData):l.row.toRowW.claim.post args (.bool true) args=true:=
  postW_of (r:=l.row.toRowW) (X:=(true==true))
    (show WShape.has [] (.bool true) .bool=true by first | rfl | decide | simp [WShape.has,WShape.arms,WShape.armsAll])
    (show(WTm.eq .res (.lit (.bool true))).value [] { args:=args,res:=some (.bool true),after:=args}=some (.bool (true==true))from w_eq_bool (w_res rfl) w_lit) rfl
theorem Sq {l:OpenLaw}{n:Nat}{q:Program}{loose:List Str}{XP:(Str->Option Value)->Heap->Prop}{YP:World->Heap->Prop}{d:DefRec}
    (hn:l.most=some n) (hdf:d.params.defaults=[])
    (call:∀(w:World) (s₀ s₁:Shared) (mg mb:Str->Option Value) (fa:Addr) (o:Obj) (pm cd doc:Value) (a:Addr) (vs:List Value) (ns:List Int),
      Ground q loose [] XP w s₀ mg mb s₁.heap->YP w s₁.heap->
      s₁.heap.get? fa=some o->o.data= .func (docDef d.name d.params d.body d.scope pm cd doc)->s₁.heap.CodeRec cd d.name->mg d.name=some (.ref fa)->
      s₁.heap.get? a=some { cls:= .type "list",data:= .seq vs.toArray}->IntsAre vs ns->ns.length<=n->s₁.gens= #[]->
      codeAny (model l.prog w) callerA (.call (.ref fa) ⟨[.ref a],[]⟩) (fun r s'=>r= .ok (.ret (.bool true))/\OldK s₁.heap s'.heap/\s'.os=s₁.os/\AllBare s'.gens) s₁):
    WalkO q loose XP YP l.row.toRowW d [] (fun f vs=>PySem.call f vs):=by
  intro w s₀ s₁ mg mb G Y fa o pm cd doc dV kV ho hd hcd hD hmg hg args vals as hpre hlay hrd hwl hlo
  obtain rfl:dV= .none:=Dflts.none hD hdf
  obtain rfl:kV= .none:=Dflts.noKw hD
  obtain⟨a,vs,ns,rfl,rfl,hobj,hints,hlen⟩:=Vn hn hpre hwl
  refine enter_call (codeAny_mono (call w s₀ s₁ mg mb fa o pm cd doc a vs ns G Y ho (fd_plain hd) hcd hmg hobj hints hlen hg) fun r s' hq=> ?_)
  obtain⟨rfl,h2,h3,h4⟩:=hq
  exact⟨.inl ⟨.bool true,.bool true,[],rfl,fun _=>rfl,.bool true,Wz l _,fun _=>⟨List.Pairwise.nil,fun _ hm=>(nomatch hm)⟩⟩,h2,h3,h4⟩
end Att
namespace L2
open PySem PySem.Spec PyProof.Rows
theorem Qo:∀ {vs:List Value}{ns:List Int},IntsAre vs ns->Vals (ns.map V.int) vs
  | _,_,.nil=> .nil
  | _,_,.cons n t h=> .cons ⟨t,rfl⟩ (Qo h)
def Only (H:Hp):Prop:=∀b,H b=none\/∃o xs,H b=some (.frz o (.lst xs))
theorem Za {P:Program}{w:World}{K:PySem.W.Frag}{mg mb:Str->Option Value}{CX:CXT}{k:Nat}{fa a:Addr}{fd:FuncData}{x:Str}{sp:Sp}{s₁:Shared}{vs:List Value}{ns:List Int}
    (KX:K.In s₁.heap) (hns:s₁.heap.Ns mainGlobals mg) (hb:s₁.heap.Ns builtinsNs mb) (hbb:∀x:Str,x≠"__name__"->mb x=bootBuiltins x) (hlim:s₁.heap.NoLimit) (hg:s₁.gens= #[])
    (ha:s₁.heap.get? a=some { cls:= .type "list",data:= .seq vs.toArray}) (hi:IntsAre vs ns) (hl:ns.length<=sizeLine) (hr:K4 k callerA)
    (F:∀base:Heap,K.In base->base.Ns mainGlobals mg->Oe P w K mg base CX k fa fd [x] sp) (hbind:∀(s:Shared) (u:Value),BindsTo s fd ⟨[u],[]⟩ [(x,u)])
    (hsp:∀H:Hp,Only H->SqL K H a (ns.map V.int)->sp [.ref a] H (fun v _=>v= .bl true) fun _ _ _=>False)
    (hCX:∀H e s',CX [] H s₁ (fun _ _ _=>False) e s'->False):
    codeAny (model P w) callerA (.call (.ref fa) ⟨[.ref a],[]⟩) (fun r s'=>r= .ok (.ret (.bool true))/\OldK s₁.heap s'.heap/\s'.os=s₁.os/\AllBare s'.gens) s₁:=by
  have rv:=Qo hi
  have lenV:=hi.length
  have core:∀H:Hp,Only H->SqL K H a (ns.map V.int)->HOk P w H s₁.heap->(∀b,H b≠none->b=a)->(H a≠none->K.lookup a=none)->
      codeAny (model P w) callerA (.call (.ref fa) ⟨[.ref a],[]⟩) (fun r s'=>r= .ok (.ret (.bool true))/\OldK s₁.heap s'.heap/\s'.os=s₁.os/\AllBare s'.gens) s₁:=by
    intro H hO hS hok hA hK
    have base_of:∀ {b:Addr}{o:Obj},s₁.heap.get? b=some o->H b=none->(Ys s₁.heap H).get? b=some o:=fun e n=>Yn e n
    have noA:∀ {b:Addr}{o:Obj}{es:Array DictEntry}{ep:Nat},s₁.heap.get? b=some o->o.data= .dict es ep->H b=none:=fun {b o es ep} e d=>by
      cases q:H b with
      | none=>rfl
      | some u=>
        have e':b=a:=hA b (by rw [q];simp)
        subst e'
        rw [ha]at e;cases e
        have d':Data.seq vs.toArray _=Data.dict es ep:=d
        cases d'
    have nsK:∀ {b:Addr}{m:Str->Option Value},s₁.heap.Ns b m->(Ys s₁.heap H).Ns b m:=fun {b m} ⟨o,es,ep,e,d,r⟩=>⟨o,es,ep,base_of e (noA e d),d,r⟩
    have hKb:K.In (Ys s₁.heap H):=fun b o e=>base_of (KX b o e) (by
      cases q:H b with
      | none=>rfl
      | some u=>
        have e':b=a:=hA b (by rw [q];simp)
        subst e'
        rw [hK (by rw [q];simp)]at e;cases e)
    have hM:Mod K mg (Ys s₁.heap H):=⟨hKb,nsK hns,⟨mb,nsK hb,hbb⟩,let ⟨mc,h1,h2⟩:=hlim;⟨mc,nsK h1,h2⟩⟩
    have e0:X5 P w K mg (Ys s₁.heap H) callerA [] s₁ H:=⟨rfl,hM,fun b o e=>Aad e,Nat.le_of_eq (Vv _ _),trivial,fun b hb=>absurd (show b∈([]:List Addr)from hb) (by simp),hok,.of_eq hg⟩
    refine codeAny_mono ((F _ hKb (nsK hns)).run callerA [] s₁ H ⟨[.ref a],[]⟩ [.ref a] [.ref a] _ _ hr e0 (hbind s₁ (.ref a)) (.cons rfl .nil) (hsp H hO hS)) fun r s' h=> ?_
    cases r with
    | error e=>exact(hCX H e s' h).elim
    | ok fl=>
      cases fl with
      | next=>exact False.elim h
      | brk=>exact False.elim h
      | cont=>exact False.elim h
      | ret u=>
        obtain⟨v,H',os,bare,un,hok',r',q⟩:=h
        have q':v= .bl true:=q
        subst q'
        obtain rfl:u=Value.bool true:=r'
        refine⟨rfl,OldK.of_keep fun b o e=> ?_,os,bare⟩
        cases q:H b with
        | none=>exact un.keep b o e q (by intro z;exact absurd (show b∈([]:List Addr)from z) (by simp)) (by simp)
        | some u=>
          rcases hO b with z | ⟨ob,xs,z⟩
          . rw [q]at z;cases z
          . have z2:=un.frzs b ob _ z
            obtain⟨e1,_⟩:=hok b _ z
            obtain⟨e2,_⟩:=hok' b _ z2
            rw [e]at e1;cases e1
            exact e2
  cases hk:K.lookup a with
  | some o=>
    have e:=KX a o hk
    rw [ha]at e
    cases e
    refine core (fun _=>none) (fun _=> .inl rfl) (.inr ⟨_,vs.toArray,_,hk,rfl,rfl,rfl,by rw [List.size_toArray,lenV];exact hl,by simpa using rv⟩) (fun b u z=>by have z':(none:Option HO)=some u:=z;cases z') (fun b z=>absurd rfl z) fun z=>absurd rfl z
  | none=>
    refine core (fun b=>if b=a then some (.frz { cls:= .type "list",data:= .seq vs.toArray} (.lst (ns.map V.int)))else none) (fun b=> ?_) (.inl (.inr ⟨{ cls:= .type "list",data:= .seq vs.toArray},if_pos rfl⟩)) (fun b u z=> ?_) (fun b z=> ?_) fun _=>hk
    . by_cases hb:b=a
      . exact .inr ⟨_,_,if_pos hb⟩
      . exact .inl (if_neg hb)
    . by_cases hb:b=a
      . have z':=(if_pos hb).symm.trans z
        cases z'
        subst hb
        exact⟨ha,by rw [List.length_map];exact hl,vs,_,rv,ha⟩
      . have z':=(if_neg hb).symm.trans z
        cases z'
    . by_cases hb:b=a
      . exact hb
      . exact absurd (if_neg hb) z
end L2
namespace L2
open PySem PySem.Spec PyProof.Rows
theorem W5 {l:PySem.W.OpenLaw}{n k:Nat}{q:Program}{loose:List Str}{XP:(Str->Option Value)->Heap->Prop}{YP:World->Heap->Prop}{d:DefRec}{K:Params->PySem.W.Frag}{CX:World->CXT}{sp:World->Sp}{x:Str}
    (hn:l.most=some n) (hn2:n<=sizeLine) (hdf:d.params.defaults=[]) (hr:K4 k callerA)
    (hY:∀(w:World) (h:Heap),YP w h->(K w.params).In h)
    (F:∀(w:World) (mg:Str->Option Value) (fa:Addr) (h:Heap),(K w.params).In h->h.Ns mainGlobals mg->mg d.name=some (.ref fa)->
      ∃fd:FuncData,(∀(s:Shared) (u:Value),BindsTo s fd ⟨[u],[]⟩ [(x,u)])/\
        ∀base:Heap,(K w.params).In base->base.Ns mainGlobals mg->Oe l.prog w (K w.params) mg base (CX w) k fa fd [x] (sp w))
    (hsp:∀(w:World) (H:Hp) (a:Addr) (ns:List Int),ns.length<=n->Only H->SqL (K w.params) H a (ns.map V.int)->sp w [.ref a] H (fun v _=>v= .bl true) fun _ _ _=>False)
    (hCX:∀(w:World) (H:Hp) (s:Shared) (e:Value) (s':Shared),CX w [] H s (fun _ _ _=>False) e s'->False):
    PySem.W.WalkO q loose XP YP l.row.toRowW d [] (fun f vs=>PySem.call f vs):=by
  refine Att.Sq hn hdf fun w s₀ s₁ mg mb fa o pm cd doc a vs ns G Y ho hd hcd hmg hobj hints hlen hg=> ?_
  have KX:=hY w _ Y
  obtain⟨fd,hb,hF⟩:=F w mg fa _ KX G.T.g hmg
  exact Za KX G.T.g G.T.b G.T.builtins G.T.nolimit hg hobj hints (Nat.le_trans hlen hn2) hr hF hb (fun H hO hS=>hsp w H a ns hlen hO hS) fun H e s'=>hCX w H s₁ e s'
end L2
/-THE LAST THEOREM (shape;LID,My.*are yours):
   My.Adr:a structure of the addresses that your layer names (classes,functions);My.Txt K t:a structure (Prop) of the equations over K;
   My.txt_mk:{K}{implicit addresses ..} (e1:nsIn K mainGlobals "law"=some (some (.ref f))) (e2:K.lookup f=some ⟨oc,od,.func (fnOf "law" "law" params body scope dV kV doc pm an cdv ct),sl⟩) (e3:codeIn K cdv "law"=true) .. :∃t,My.Txt K t
set_option maxRecDepth 100000 in
set_option maxHeartbeats 0 in
theorem PySem.Challenge.cw_LID_holds : PySem.Challenge.rw_LID.Holds := by
  w_on;o_law;k_head;(case hw=>w_witness2)
  k_fill
  refine L2.W5 (l:=PySem.Challenge.rw_LID) (n:=63) (k:=40) (x:="script") (CX:=fun w=> ..) (sp:=fun _=>My.sp_law) rfl (by decide) rfl ⟨rfl,by decide,by decide⟩ (fun w h Y=>PySem.W.kIn_of Y) ?F ?S ?C
  case F=>
    intro w mg fa h KX G hmg
    have T:∃t,My.Txt (L2.KOf KX) t:=by
      dsimp only [L2.KOf]                          --K must stand as «<heap const>w.params» for k_is
      refine' My.txt_mk ?e1 ?e2 ?e3 ..
      (case e1=>PySem.W.k_is)                    --in the order:a name->its address->its object->its parts
      (case e2=>PySem.W.k_is)
      ..
    obtain⟨t,T⟩:=T
    have e0:=hmg.symm.trans (PySem.W.mg_of KX G T.law)
    cases e0                                       --fa is the law's own address
    exact⟨_,fun s u=> .of_eq rfl,fun base kb nb=>My.law_fn T kb nb⟩     --if «.of_eq rfl» comes too early:refine' ⟨_,?b,fun base kb nb=>My.law_fn T kb nb⟩;exact fun s u=> .of_eq rfl
  case S=>exact fun w H a ns hl hO hS=> ..
  case C=>exact ..
(the tactic k_is has no namespace:write k_is)-/
namespace L2
open PySem PySem.Spec PyProof.Rows
def Jr (s:Stmt):Arguments:=match s with
  | .FunctionDef _ a _ _ _ _ _ _ _ _=>a
  | _=>{ posonlyargs:=[],args:=[],vararg:=none,kwonlyargs:=[],kw_defaults:=[],kwarg:=none,defaults:=[]}
def Hg (s:Stmt):List Stmt:=match s with
  | .FunctionDef _ _ b _ _ _ _ _ _ _=>b
  | _=>[]
def Ag (s:Stmt):Scope:=match s with
  | .FunctionDef _ _ _ _ _ _ sc _ _ _=>sc
  | _=>{ kind:= .function,names:=[],isGenerator:=false,isCoroutine:=false}
abbrev CX0:CXT:=fun _ _ _ _ _ _=>False
abbrev E0:XK:=fun _ _ _=>False
theorem Aeg {X:Cx}:Passes CX0 X E0:=fun _ _ _ _ _ _ _ h=>h.elim
structure Fun (K:PySem.W.Frag) (x qual:Str) (st:Stmt) (f:Addr) (fd:FuncData):Prop where
  ex:∃(oc:Value) (od:Option Addr) (kV doc pm:Value) (an:Option Addr) (cdv ct:Value) (osl:Array (Option Value)),
    fd=PySem.W.fnOf x qual (Jr st) (Hg st) (Ag st) .none kV doc pm an cdv ct/\K.lookup f=some ⟨oc,od,.func fd,osl⟩/\PySem.W.codeIn K cdv qual=true
  kp:PySem.W.keepIn K (.ref f)=true
section
variable {P:Program}{w:World}{K:PySem.W.Frag}{mg:Str->Option Value}{base:Heap}
theorem Fun.ok {x qual:Str}{st:Stmt}{f:Addr}{fd:FuncData}{N ps:List Str}{k:Nat}{sp:Sp} (F:Fun K x qual st f fd) (S:Ba N ps (Ag st)) (len:∀vs H Q E,sp vs H Q E->vs.length=ps.length)
    (hbody:∀(cdv:Value) (A:Around) (outer:List Env) (s:Shared) (H:Hp) (vs:List V) (Q:VK) (E:XK),K4 k (A.deeper (envOfC qual (Ag st) s.heap.objs.size f cdv))->sp vs H Q E->
      ∃t,PSs (Nf CX0 P w K mg base N qual (Ag st) f cdv A outer s H E).nox (Hg st) t/\t { nx:=fun _ H'=>Q .non H',rt:=Q} (start N vs) H):Oe P w K mg base CX0 (k+1) f fd ps sp:=by
  obtain⟨oc,od,kV,doc,pm,an,cdv,ct,osl,rfl,lk,hcd⟩:=F.ex
  refine Ace lk hcd S len fun A outer s H vs Q E hr hsp=> ?_
  obtain⟨t,h,q⟩:=hbody cdv A outer s H vs Q E hr hsp
  exact⟨t,h.nox,q⟩
theorem Fun.binds {x qual:Str}{st:Stmt}{f:Addr}{fd:FuncData}{ps:List Str} (F:Fun K x qual st f fd)
    (h:∀(kV doc pm:Value) (an:Option Addr) (cdv ct:Value) (us:List Value),us.length=ps.length->bindArgs (PySem.W.fnOf x qual (Jr st) (Hg st) (Ag st) .none kV doc pm an cdv ct) ⟨us,[]⟩=pure (ps.zip us)):Binds K fd ps []:=by
  obtain⟨oc,od,kV,doc,pm,an,cdv,ct,osl,rfl,lk,hcd⟩:=F.ex
  exact .all (h kV doc pm an cdv ct)
theorem Zf {x qual:Str}{st:Stmt}{f:Addr}{oc:Value}{od an:Option Addr}{osl:Array (Option Value)}{kV doc pm cdv ct:Value} (l:K.lookup f=some ⟨oc,od,.func (PySem.W.fnOf x qual (Jr st) (Hg st) (Ag st) .none kV doc pm an cdv ct),osl⟩)
    (c:PySem.W.codeIn K cdv qual=true) (k:PySem.W.keepIn K (.ref f)=true):Fun K x qual st f (PySem.W.fnOf x qual (Jr st) (Hg st) (Ag st) .none kV doc pm an cdv ct):=⟨⟨oc,od,kV,doc,pm,an,cdv,ct,osl,rfl,l,c⟩,k⟩
end
section
variable {X:Cx}
theorem pv (i:Nat) {x:Str}{pos:Pos} (hN:X.N[i]? =some x:=by rfl) (hv:Vis X.env.scope x:=by first | exact Or.inl rfl | exact Or.inr (Or.inl rfl) | exact Or.inr (Or.inr rfl)) (hd:(x==("__debug__":Str))=false:=by decide)
    (hcd:(x==("__classdict__":Str))=false:=by decide):PE X (.Name x pos) (Abw i):=Acg hN hv hd hcd
end
def Same (H H':Hp):Prop:=∀b o,H b=some o->H' b=some o
theorem Same.refl (H:Hp):Same H H:=fun _ _ h=>h
theorem Same.trans {H H1 H2:Hp} (a:Same H H1) (b:Same H1 H2):Same H H2:=fun c o h=>b c o (a c o h)
theorem Same.free {H H':Hp} (e:Same H H') {l:Addr} (h:H' l=Option.none):H l=Option.none:=by
  cases q:H l with
  | none=>rfl
  | some o=>
    rw [e l o q]at h
    cases h
theorem Same.seq {K:PySem.W.Frag}{H H':Hp}{a:Addr}{xs:List V} (e:Same H H') (h:SqL K H a xs):SqL K H' a xs:=by
  rcases h with(h | ⟨o,h⟩) | h
  . exact .inl (.inl (e _ _ h))
  . exact .inl (.inr ⟨o,e _ _ h⟩)
  . exact .inr h
end L2
namespace L2
open PySem PySem.Spec PyProof.Rows
def Cal (P:Program) (w:World) (K:PySem.W.Frag) (mg:Str->Option Value) (base:Heap) (k:Nat) (x:Str) (ps:List Str) (sp:Sp):Prop:=
  ∃f fd,Oe P w K mg base CX0 k f fd ps sp/\mg x=some (.ref f)/\PySem.W.keepIn K (.ref f)=true/\Binds K fd ps []
structure Df (K:PySem.W.Frag) (mg:Str->Option Value) (x:Str) (st:Stmt) (ps:List Str) (f:Addr) (fd:FuncData):Prop where
  fn:Fun K x x st f fd
  bd:Binds K fd ps []
  at':mg x=some (.ref f)
theorem Df.cal {P:Program}{w:World}{K:PySem.W.Frag}{mg:Str->Option Value}{base:Heap}{k:Nat}{x:Str}{st:Stmt}{ps:List Str}{f:Addr}{fd:FuncData}{sp:Sp}
    (F:Df K mg x st ps f fd) (G:Oe P w K mg base CX0 k f fd ps sp):Cal P w K mg base k x ps sp:=⟨f,fd,G,F.at',F.fn.kp,F.bd⟩
theorem Cal.imp {P:Program}{w:World}{K:PySem.W.Frag}{mg:Str->Option Value}{base:Heap}{k:Nat}{x:Str}{ps:List Str}{sp sp':Sp}
    (C:Cal P w K mg base k x ps sp) (h:∀vs H Q E,sp' vs H Q E->sp vs H Q E):Cal P w K mg base k x ps sp':=by
  obtain⟨f,fd,G,a,b,c⟩:=C
  exact⟨f,fd,G.imp h,a,b,c⟩
theorem Yh {X:Cx}{k:Nat}{x:Str}{ps:List Str}{sp:Sp}{p pos:Pos}{e:Expr}{es:List Expr}{t:TA}
    (C:Cal X.prog X.w X.K X.mg X.base k x ps sp) (hr:K4 k X.A) (ha:PA X (e::es) t) (hg:Gl X x:=by rfl) (hdb:(x==("__debug__":Str))=false:=by decide)
    (he:starEach (e::es) X.env=(false,eval e X.env)::starEach es X.env:=by rfl) (hpl:(backTo pos (starEach es X.env)).any (·.1)=false:=by rfl):
    PE X (.Call (.Name x p) (e::es) [] pos) (Ra sp [] E0 t):=by
  obtain⟨f,fd,G,a,b,c⟩:=C
  exact Xd G hr hg a b c .nil Aeg ha hdb he hpl
def Sz (n:Nat) (a:Int):Prop:=a.natAbs<2^n
theorem Sz.mono {m n:Nat}{a:Int} (h:Sz m a) (l:m<=n):Sz n a:=Nat.lt_of_lt_of_le h (Nat.pow_le_pow_right (by decide) l)
theorem Sz.mul {m n:Nat}{a b:Int} (h:Sz m a) (g:Sz n b):Sz (m+n) (a*b):=by
  unfold Sz at*
  rw [Int.natAbs_mul,Nat.pow_add]
  exact Nat.mul_lt_mul'' h g
theorem Sz.add {m n:Nat}{a b:Int} (h:Sz m a) (g:Sz n b):Sz (max m n+1) (a+b):=by
  have h1:Sz (max m n) a:=h.mono (Nat.le_max_left _ _)
  have h2:Sz (max m n) b:=g.mono (Nat.le_max_right _ _)
  unfold Sz at*
  have:=Int.natAbs_add_le a b
  rw [Nat.pow_succ]
  omega
theorem Sz.neg {n:Nat}{a:Int} (h:Sz n a):Sz n (-a):=by
  unfold Sz at*
  rw [Int.natAbs_neg]
  exact h
theorem Sz.sub {m n:Nat}{a b:Int} (h:Sz m a) (g:Sz n b):Sz (max m n+1) (a-b):=by
  rw [Int.sub_eq_add_neg]
  exact h.add g.neg
theorem Sz.of_abs {n:Nat}{a b:Int} (h:Sz n b) (l:a.natAbs<=b.natAbs):Sz n a:=Nat.lt_of_le_of_lt l h
theorem Sz.mulOk {m n:Nat}{a b:Int} (h:Sz m a) (g:Sz n b) (l:m+n<=134217728):IntMulOk a b:=
  IntMulOk.of_le (PySem.intBits_le_iff.mpr h) (PySem.intBits_le_iff.mpr g) l
theorem Sz.log2 {n:Nat}{a:Int} (h:Sz n a) (h0:a≠0) (l:n<=9000):a.natAbs.log2<9000:=
  Nat.lt_of_lt_of_le ((Nat.log2_lt (by omega)).mpr h) l
section
variable {X:Cx}{a b:Expr}{ta tb:TE}{pos:Pos}
theorem Az:OpR X (binaryOp .Mult) (rI IntMulOk fun i j=> .int (i*j)):=opI fun _ _ _ _ _ _ _ hc q=>mul_int q hc
def Abi (_ j:Int):Prop:=j≠0/\j.natAbs.log2<9000
theorem Ui:OpR X (binaryOp .FloorDiv) (rI Abi fun i j=> .int (i.fdiv j)):=opI fun _ _ _ _ _ _ _ hc q=>floordiv_int hc.1 q (.inl (PyProof.noPylong_of_log2 hc.2))
end
mutual
inductive RdD (K:PySem.W.Frag) (H:Hp):V->PyData->Prop where
  | non:RdD K H .non .none
  | bl (b:Bool):RdD K H (.bl b) (.bool b)
  | int (i:Int):RdD K H (.int i) (.int i)
  | str (x:Str):RdD K H (.str x) (.str x)
  | tup {a:Addr}{xs:List V}{ds:List PyData}:SqT K H a xs->Rh K H xs ds->RdD K H (.ref a) (.tuple ds)
  | lst {a:Addr}{xs:List V}{ds:List PyData}:SqL K H a xs->Rh K H xs ds->RdD K H (.ref a) (.list ds)
inductive Rh (K:PySem.W.Frag) (H:Hp):List V->List PyData->Prop where
  | nil:Rh K H [] []
  | cons {x:V}{d:PyData}{xs:List V}{ds:List PyData}:RdD K H x d->Rh K H xs ds->Rh K H (x::xs) (d::ds)
end
section
variable {X:Cx}{pins:List (Addr × Obj)}{σ:St}{H:Hp}{s:Shared}
mutual
theorem RdD.reads (I:Inv X pins σ H s):∀ {x:V}{d:PyData}{u:Value},RdD X.K H x d->RelV x u->∃as,Reads s.heap u d as
  | _,_,_,.non,r=>by cases r;exact⟨_,.none⟩
  | _,_,_,.bl b,r=>by cases r;exact⟨_,.bool b⟩
  | _,_,_,.int i,r=>by obtain⟨t,rfl⟩:=r;exact⟨_,.int i t⟩
  | _,_,_,.str x,r=>by obtain⟨t,rfl⟩:=r;exact⟨_,.str x t⟩
  | _,_,_,.tup hq hr,r=>by
    cases r
    obtain⟨its,rv,pl,hz⟩:=I.tuple hq
    obtain⟨as,q⟩:=Rh.reads I hr rv
    obtain⟨o,ho,hc,n,hd⟩:=pl
    exact⟨_,.tuple ho hc hd (by simpa using q)⟩
  | _,_,_,.lst hq hr,r=>by
    cases r
    obtain⟨its,rv,pl,hz⟩:=I.list hq
    obtain⟨as,q⟩:=Rh.reads I hr rv
    obtain⟨o,ho,hc,n,hd⟩:=pl.isList
    exact⟨_,.list ho hc hd (by simpa using q)⟩
theorem Rh.reads (I:Inv X pins σ H s):∀ {xs:List V}{ds:List PyData}{us:List Value},Rh X.K H xs ds->Vals xs us->∃as,ReadsAll s.heap us ds as
  | _,_,_,.nil,r=>by cases r;exact⟨_,.nil⟩
  | _,_,_,.cons h t,r=>by
    cases r with
    | cons r1 r2=>
      obtain⟨as,q⟩:=RdD.reads I h r1
      obtain⟨bs,p⟩:=Rh.reads I t r2
      exact⟨_,.cons q p⟩
end
end
theorem Rh.ints {K:PySem.W.Frag}{H:Hp}:∀ns:List Int,Rh K H (ns.map V.int) (ns.map PyData.int)
  | []=> .nil
  | n::r=> .cons (.int n) (Rh.ints r)
theorem RdD.ints {K:PySem.W.Frag}{H:Hp}{a:Addr}{ns:List Int} (h:SqT K H a (ns.map V.int)):RdD K H (.ref a) (.tuple (ns.map PyData.int)):= .tup h (.ints ns)
theorem RdD.lints {K:PySem.W.Frag}{H:Hp}{a:Addr}{ns:List Int} (h:SqL K H a (ns.map V.int)):RdD K H (.ref a) (.list (ns.map PyData.int)):= .lst h (.ints ns)
theorem Mp:∀ns ms:List Int,PyData.eqvAll (ns.map PyData.int) (ms.map PyData.int)=decide (ns=ms)
  | [],[]=>by simp [PyData.eqvAll]
  | [],_::_=>by simp [PyData.eqvAll]
  | _::_,[]=>by simp [PyData.eqvAll]
  | a::r,b::t=>by
    simp only [List.map_cons,PyData.eqvAll,PyData.eqv,Mp r t]
    by_cases h:a=b<;>by_cases h':r=t<;>simp [h,h']
theorem shaped_ints (ns:List Int):SeqAt.shaped (.tuple (ns.map PyData.int))=true:=by
  simp [SeqAt.shaped,PyData.canLay0,PyData.depth,PySem.W.ke_canLayAll0,PySem.W.ke_depthAll]
section
variable {X:Cx}
def Abz (K:PySem.W.Frag) (f:Bool->Bool):R2:=fun x y H Q=>∃d e,RdD K H x d/\RdD K H y e/\SeqAt.shaped d=true/\SeqAt.shaped e=true/\Q (.bl (f (PyData.eqv d e))) H
theorem M6 (hu:X.A.units+64<cLine):OpR X (compareOp .Eq) (Abz X.K fun b=>b):=by
  intro pins s σ H x y v u Q I rx ry h
  obtain⟨d,e,hd,he,s1,s2,q⟩:=h
  obtain⟨as,r1⟩:=RdD.reads I hd rx
  obtain⟨bs,r2⟩:=RdD.reads I he ry
  exact eq_dataH r1 r2 s1 s2 hu ⟨.bl _,H,I,rfl,q⟩
theorem Nb (hu:X.A.units+64<cLine):OpR X (compareOp .NotEq) (Abz X.K fun b=> !b):=by
  intro pins s σ H x y v u Q I rx ry h
  obtain⟨d,e,hd,he,s1,s2,q⟩:=h
  obtain⟨as,r1⟩:=RdD.reads I hd rx
  obtain⟨bs,r2⟩:=RdD.reads I he ry
  exact ne_dataH r1 r2 s1 s2 hu ⟨.bl _,H,I,rfl,q⟩
def Adh (K:PySem.W.Frag) (f:Bool->Bool):R2:=fun x y H Q=>∃(a b:Addr) (ns ms:List Int),x= .ref a/\y= .ref b/\SqT K H a (ns.map V.int)/\SqT K H b (ms.map V.int)/\Q (.bl (f (decide (ns=ms)))) H
theorem Ab6 (hu:X.A.units+64<cLine):OpR X (compareOp .Eq) (Adh X.K fun b=>b):=by
  intro pins s σ H x y v u Q I rx ry h
  obtain⟨a,b,ns,ms,rfl,rfl,ha,hb,q⟩:=h
  exact M6 hu pins s σ H _ _ v u Q I rx ry ⟨_,_,.ints ha,.ints hb,shaped_ints _,shaped_ints _,by rw [PyData.eqv,Mp];exact q⟩
theorem Acp (hu:X.A.units+64<cLine):OpR X (compareOp .NotEq) (Adh X.K fun b=> !b):=by
  intro pins s σ H x y v u Q I rx ry h
  obtain⟨a,b,ns,ms,rfl,rfl,ha,hb,q⟩:=h
  exact Nb hu pins s σ H _ _ v u Q I rx ry ⟨_,_,.ints ha,.ints hb,shaped_ints _,shaped_ints _,by rw [PyData.eqv,Mp];exact q⟩
theorem Du:Hy X (.builtin "isinstance") (fun xs H Q=>∃x t T b,xs=[x,.ty T]/\Qu X.K H x t/\PySem.W.kitOne X.K t (.type T)=some b/\Q (.bl b) H):=by
  intro pins s σ H xs us Q I r h
  obtain⟨x,t,T,b,rfl,ht,hk,q⟩:=h
  obtain⟨u,c,rfl,ru,rc⟩:=vals2 r
  cases rc
  exact Wg I ru ht hk fun tk=>⟨.bl b,H,I.tok tk,rfl,q⟩
end
theorem Same.tup {K:PySem.W.Frag}{H H':Hp}{a:Addr}{xs:List V} (e:Same H H') (h:SqT K H a xs):SqT K H' a xs:=by
  rcases h with(h | ⟨o,h⟩) | h
  . exact .inl (.inl (e _ _ h))
  . exact .inl (.inr ⟨o,e _ _ h⟩)
  . exact .inr h
theorem Same.upd {H:Hp}{p:Addr} (h:H p=none) (o:HO):Same H (upd H p o):=fun b u q=>by
  rw [Bs (Cg q h)]
  exact q
end L2
namespace L2
open PySem PySem.Spec PyProof.Rows
section
variable {X:Cx}{K:PySem.W.Frag}{σ:St}{H:Hp}{Q:VK}{D:Ends}{B:Bool->Hp->Prop}
theorem Kg {t u:TS}:Adi t u D σ H=t { D with nx:=u D} σ H:=rfl
theorem Ez:Aa7 D σ H=D.nx σ H:=rfl
theorem Jh {c:TT}{t u:TS}:Aea c t u D σ H=c σ H (fun b H1=>if b=true then t D σ H1 else u D σ H1):=rfl
theorem J4 {te:TE}:Aes te D σ H=te σ H D.rt:=rfl
theorem Eh {te:TE}:Aa2 te D σ H=te σ H (fun _ H1=>D.nx σ H1):=rfl
theorem Kh {te:TE}{g:TG}:Ab5 te g D σ H=te σ H (fun x H1=>g x σ H1 D.nx):=rfl
theorem Cj {i:Nat}{v:V}{R:St->Hp->Prop}:R8 i v σ H R=R (σ.set i (some v)) H:=rfl
theorem J7 {i j:Nat}{ta:TA}:Adp i j ta D σ H=ta σ H (fun vs H1=>∃v w,vs=[v,w]/\D.nx ((σ.set i (some v)).set j (some w)) H1):=rfl
theorem Eu {v:V}{r:St}:Abw 0 (some v::r) H Q=Q v H:=propext ⟨fun⟨_,e,h⟩=>by cases e;exact h,fun h=>⟨v,rfl,h⟩⟩
theorem Ga {i:Nat}{o:Option V}{r:St}:Abw (i+1) (o::r) H Q=Abw i r H Q:=rfl
theorem z_c {v:V}:tC v σ H Q=Q v H:=rfl
theorem Pg {r:R2}{ta tb:TE}:tOp r ta tb σ H Q=ta σ H (fun x H1=>tb σ H1 fun y H2=>r x y H2 Q):=rfl
theorem Sv {r:V->Hp->VK->Prop}{ta:TE}:tUn r ta σ H Q=ta σ H (fun x H1=>r x H1 Q):=rfl
theorem R9 {C:Int->Int->Prop}{g:Int->Int->V}{i j:Int}:rI C g (.int i) (.int j) H Q=(C i j/\Q (g i j) H):=
  propext ⟨fun⟨_,_,e,f,h⟩=>by cases e;cases f;exact h,fun h=>⟨i,j,rfl,rfl,h⟩⟩
theorem Ko {g:Int->Int->V}{i j:Int}:rI0 g (.int i) (.int j) H Q=Q (g i j) H:=
  propext ⟨fun⟨_,_,e,f,h⟩=>by cases e;cases f;exact h,fun h=>⟨i,j,rfl,rfl,h⟩⟩
theorem Ru {g:Int->V}{i:Int}:rU g (.int i) H Q=Q (g i) H:=propext ⟨fun⟨_,e,h⟩=>by cases e;exact h,fun h=>⟨i,rfl,h⟩⟩
theorem J9 {i j:Int}:rEq (.int i) (.int j) H Q=Q (.bl (decide (i=j))) H:=by
  unfold rEq
  simp only [Aby,V.int.injEq,true_and]
theorem Ju {i j:Int}:rNe (.int i) (.int j) H Q=Q (.bl (!decide (i=j))) H:=by
  unfold rNe
  simp only [Aby,V.int.injEq,true_and]
theorem Kc {i j:Bool}:rEq (.bl i) (.bl j) H Q=Q (.bl (decide (i=j))) H:=by
  unfold rEq
  simp only [Aby,V.bl.injEq,true_and]
theorem Kf {i j:Bool}:rNe (.bl i) (.bl j) H Q=Q (.bl (!decide (i=j))) H:=by
  unfold rNe
  simp only [Aby,V.bl.injEq,true_and]
theorem Dq {t:TE}:Abs t σ H B=t σ H (fun x H'=>∃k,x= .bl k/\B k H'):=rfl
theorem S5 {t:TE}:tB t σ H B=t σ H (fun x H'=>∃k,x= .bl k/\B k H'):=rfl
theorem Jl {b:Bool}{p:Bool->Prop}:(∃k,V.bl b= .bl k/\p k)=p b:=propext ⟨fun⟨_,e,h⟩=>by cases e;exact h,fun h=>⟨b,rfl,h⟩⟩
theorem Km {b:Int}{p:Int->Prop}:(∃k,V.int b= .int k/\p k)=p b:=propext ⟨fun⟨_,e,h⟩=>by cases e;exact h,fun h=>⟨b,rfl,h⟩⟩
theorem J8 {a b:V}{p:V->V->Prop}:(∃v w,[a,b]=[v,w]/\p v w)=p a b:=propext ⟨fun⟨_,_,e,h⟩=>by cases e;exact h,fun h=>⟨a,b,rfl,h⟩⟩
theorem Gk {b:Int}{p:Int->Prop}:(∃k,[V.int b]=[.int k]/\p k)=p b:=propext ⟨fun⟨_,e,h⟩=>by cases e;exact h,fun h=>⟨b,rfl,h⟩⟩
theorem Gi {a b:Int}{p:Int->Int->Prop}:(∃i j,[V.int a,V.int b]=[.int i,.int j]/\p i j)=p a b:=propext ⟨fun⟨_,_,e,h⟩=>by cases e;exact h,fun h=>⟨a,b,rfl,h⟩⟩
theorem J3 {t:TT}:Aen t σ H B=t σ H (fun c H1=>B (!c) H1):=rfl
theorem Jf {t u:TT}:Ae0 t u σ H B=t σ H (fun c H1=>if c=true then u σ H1 B else B false H1):=rfl
theorem Rp {t u:TT}:tOr t u σ H B=t σ H (fun c H1=>if c=true then B true H1 else u σ H1 B):=rfl
theorem Fw {ta tb:TE}:Aaw ta tb σ H Q=ta σ H (fun x H1=>∃c,x= .bl c/\if c=true then tb σ H1 Q else Q (.bl false) H1):=rfl
theorem Jk {ta tb:TE}:Adw ta tb σ H Q=ta σ H (fun x H1=>∃c,x= .bl c/\if c=true then Q (.bl true) H1 else tb σ H1 Q):=rfl
theorem Gf {ta:TE}:Aap ta σ H Q=ta σ H (fun x H1=>∃c,x= .bl c/\Q (.bl (!c)) H1):=rfl
theorem Sh {t:TT}{ta tb:TE}:tIf t ta tb σ H Q=t σ H (fun c H1=>if c=true then ta σ H1 Q else tb σ H1 Q):=rfl
theorem Gd {sp:Sp}{dvs:List V}{E:XK}{t:TA}:Ra sp dvs E t σ H Q=t σ H (fun vs H1=>sp (vs++dvs) H1 Q E):=rfl
theorem Ke {R:List V->Hp->Prop}:Aej σ H R=R [] H:=rfl
theorem Ft {te:TE}{t:TA}{R:List V->Hp->Prop}:X8 te t σ H R=te σ H (fun x H1=>t σ H1 fun xs H2=>R (x::xs) H2):=rfl
theorem Rw {r:List V->Hp->VK->Prop}{t:TA}:tCB r t σ H Q=t σ H (fun vs H1=>r vs H1 Q):=rfl
theorem Jw {t:TA}:Ad0 t σ H Q=t σ H (fun xs H1=>xs.length<=sizeLine/\∀p,H1 p=none->Q (.ref p) (upd H1 p (.tup xs))):=rfl
theorem J0 {t:TA}:Aed t σ H Q=t σ H (fun xs H1=>xs.length<=sizeLine/\∀p,H1 p=none->Q (.ref p) (upd H1 p (.lst xs))):=rfl
theorem Dg {r r':R2}{ta tb tc:TE}:Ac0 r r' ta tb tc σ H Q=ta σ H (fun x H1=>tb σ H1 fun y H2=>r x y H2 fun z H3=>∃k,z= .bl k/\(if k=true then tc σ H3 fun w' H4=>r' y w' H4 Q else Q (.bl false) H3)):=rfl
theorem Bf {a:Addr}{xs:List V}{i:Int}{v:V} (h:SqT K H a xs) (e:atI xs i=some v) (q:Q v H):Aee K (.ref a) (.int i) H Q:=⟨a,xs,i,v,rfl,rfl,h,e,q⟩
theorem Dw {a:Addr}{xs:List V}{i:Int}{v:V} (h:SqL K H a xs) (e:atI xs i=some v) (q:Q v H):Adf K (.ref a) (.int i) H Q:=⟨a,xs,i,v,rfl,rfl,h,e,q⟩
end
def Aa6 (_ j:Int):Prop:=0<j/\j.natAbs.log2<9000
theorem Bg {X:Cx}:OpR X (binaryOp .FloorDiv) (rI Aa6 fun i j=> .int (i/j)):=opI fun i j _ _ _ _ _ hc q=>by
  have h:j≠0:=by have:=hc.1;omega
  refine floordiv_int h ?_ (.inl (PyProof.noPylong_of_log2 hc.2))
  rw [Int.fdiv_eq_ediv_of_nonneg _ (Int.le_of_lt hc.1)]
  exact q
theorem Ek:(1:Nat)<=sizeLine:=by decide
theorem Fy:(2:Nat)<=sizeLine:=by decide
end L2
namespace L2
open PySem PySem.Spec PyProof.Rows
def clF (env:Env) (cs:List (Str × Addr)) (x:Str × NameKind):List (Str × Addr):=if x.2== .free then(x.1,(env.cells.lookup x.1).getD 0)::cs else cs
theorem Uy {scope:Scope}{env:Env} (h:∀x∈scope.names,x.2= .free->∃c,env.cells.lookup x.1=some c):closureFor scope env=pure (scope.names.foldl (clF env) []):=by
  unfold closureFor
  have key:∀(names:List (Str × NameKind)) (init:List (Str × Addr)),(∀x∈names,x.2= .free->∃c,env.cells.lookup x.1=some c)->
      (forIn names init (fun(x:Str × NameKind) (cs:List (Str × Addr))=>(if x.2== .free then(do let c<-cellOf env x.1;pure (ForInStep.yield ((x.1,c)::cs)))else pure (ForInStep.yield cs):Sem (ForInStep (List (Str × Addr))))))=(pure (names.foldl (clF env) init):Sem (List (Str × Addr))):=by
    intro names
    induction names with
    | nil=>intro init _;rfl
    | cons x r ih=>
      intro init hx
      rw [List.forIn_cons,List.foldl_cons]
      by_cases hf:x.2= .free
      . obtain⟨c,hc⟩:=hx x List.mem_cons_self hf
        have e1:cellOf env x.1=pure c:=by unfold cellOf;rw [hc]
        have e2:clF env init x=(x.1,c)::init:=by unfold clF;rw [hf,hc];rfl
        rw [e2,<-ih _ fun y hy=>hx y (List.mem_cons_of_mem _ hy)]
        rw [hf,e1]
        rfl
      . have e0:(x.2==NameKind.free)=false:=by simpa using hf
        have e2:clF env init x=init:=by unfold clF;rw [e0];rfl
        rw [e2,<-ih _ fun y hy=>hx y (List.mem_cons_of_mem _ hy),e0]
        rfl
  exact(congrArg (fun m=>m>>=fun r=>pure r) (key scope.names [] h)).trans (by rfl)
theorem Uj {env:Env}:∀(names:List (Str × NameKind)) (init:List (Str × Addr)) (y:Str) (c:Addr),(∀x∈names,x.2= .free->∃c,env.cells.lookup x.1=some c)->(names.foldl (clF env) init).lookup y=some c->init.lookup y=some c\/env.cells.lookup y=some c
  | [],_,_,_,_,h=> .inl h
  | x::r,init,y,c,hx,h=>by
    rw [List.foldl_cons]at h
    rcases Uj r _ y c (fun z hz=>hx z (List.mem_cons_of_mem _ hz)) h with h1 | h1
    . unfold clF at h1
      by_cases hf:x.2= .free
      . obtain⟨d,hd⟩:=hx x List.mem_cons_self hf
        rw [hf,hd]at h1
        change List.lookup y ((x.1,d)::init)=some c at h1
        rw [List.lookup_cons]at h1
        cases hy:y==x.1 with
        | true=>
          rw [hy]at h1
          have:y=x.1:=by simpa using hy
          subst this
          exact .inr (hd.trans h1)
        | false=>
          rw [hy]at h1
          exact .inl h1
      . have e0:(x.2==NameKind.free)=false:=by simpa using hf
        rw [e0]at h1
        exact .inl h1
    . exact .inr h1
theorem R3 {env:Env}:∀(names:List (Str × NameKind)) (init:List (Str × Addr)) (y:Str),((∃x∈names,x.2= .free/\x.1=y)\/∃c,init.lookup y=some c)->∃c,(names.foldl (clF env) init).lookup y=some c
  | [],_,_,h=>by
    rcases h with⟨_,h,_⟩ | h
    . cases h
    . exact h
  | x::r,init,y,h=>by
    rw [List.foldl_cons]
    apply R3 r
    rcases h with⟨z,hz,hf,rfl⟩ | ⟨c,hc⟩
    . rcases List.mem_cons.mp hz with rfl | hz
      . refine .inr ⟨(env.cells.lookup z.1).getD 0,?_⟩
        unfold clF
        rw [hf]
        show List.lookup z.1 ((z.1,_)::init)=_
        rw [List.lookup_cons]
        simp
      . exact .inl ⟨z,hz,hf,rfl⟩
    . refine .inr ?_
      unfold clF
      by_cases hf:x.2= .free
      . rw [hf]
        show ∃c,List.lookup y ((x.1,_)::init)=some c
        rw [List.lookup_cons]
        cases y==x.1 with
        | true=>exact⟨_,rfl⟩
        | false=>exact⟨c,hc⟩
      . have e0:(x.2==NameKind.free)=false:=by simpa using hf
        rw [e0]
        exact⟨c,hc⟩
theorem Qv {prog:Program}{w:World}{A:Around}{R:Result->Shared->Prop}{s:Shared}{elt target iter:Expr}{ifs:List Expr}{scope:Scope}{pos:Pos}{it acc:Value}{env:Env} (I:Nat->Shared->Prop)
    (turn:∀n s,I n s->wpAny (model prog w) A (pyNext it) (fun r s₁=>match r with
      | none=>R (.ok .next) s₁
      | some v=>wpAny (model prog w) A (letOwnedTupleGo target it v) (fun _ s₀=>wpAny (model prog w) A (assign target env v) (fun _ s₂=>
          wpAny (model prog w) A (forIn ifs true fun c r=>if r=true then do let ok<-isTrue c env (eval c env);pure (ForInStep.yield ok)else pure (ForInStep.yield r)) (fun ok s₃=>
            if ok=true then wpAny (model prog w) A (eval elt env) (fun x s₄=>
              wpAny (model prog w) A (call (.builtin "list.append") [acc,x]) (fun _ s₅=>∃m,m<n/\I m s₅) (fun _ _=>False) s₄) (fun _ _=>False) s₃
            else ∃m,m<n/\I m s₃) (fun _ _=>False) s₂) (fun _ _=>False) s₀) (fun _ _=>False) s₁) (fun _ _=>False) s)
    (n:Nat) (h:I n s):
    codeAny (model prog w) A (.compLoop (.ListComp elt [⟨target,iter,ifs,0⟩] scope pos) 0 it acc env) R s:=by
  have no:∀(x:Value) (s':Shared),False->notedBy (model prog w) A env (fun e s'=>R (.error e) s') x s':=fun _ _ z=>z.elim
  refine codeAny_loop rfl I (fun n s hI=> ?_) n h
  show wpAny _ A ((compTurn (.ListComp elt [⟨target,iter,ifs,0⟩] scope pos) 0 it acc env).onRaise (fun x=>do noteFrame x env;theTreesLotGoes x)) _ _ s
  refine wpAny_noted ?_
  rw [compTurn_list]
  refine wpAny_bind (wpAny_standAt (wpAny_bind (wpAny_mono (turn n s hI) (fun r s₁ h₁=> ?_) no)))
  cases r with
  | none=>exact wpAny_pure h₁
  | some v=>
    refine wpAny_bind (wpAny_mono h₁ (fun _ s₀ h₀=> ?_) no)
    refine wpAny_bind (wpAny_mono h₀ (fun _ s₂ h₂=>wpAny_bind (wpAny_mono h₂ (fun ok s₃ h₃=> ?_) no)) no)
    cases ok with
    | false=>exact wpAny_pure ⟨rfl,h₃⟩
    | true=>
      exact wpAny_bind (wpAny_bind (wpAny_mono h₃ (fun x s₄ h₄=>wpAny_bind (wpAny_mono h₄ (fun _ s₅ h₅=>wpAny_pure (wpAny_pure ⟨rfl,h₅⟩)) no)) no))
def cxC (X:Cx) (N:List Str) (scope:Scope) (ex:List Addr) (s:Shared) (H:Hp):Cx where
  prog:=X.prog
  w:=X.w
  K:=X.K
  mg:=X.mg
  base:=X.base
  A:=X.A
  N:=N
  s₀:=s
  H₀:=H
  env:=compEnvC scope (scope.names.foldl (clF X.env) []) s.heap.objs.size X.env
  outer:=X.stack
  stack:=X.stack
  ex:=ex
  fn:=fun _=>false
  calm:=X.calm
  pn:=[]
  xe:=fun _ _=>False
structure Bt (X:Cx) (ts:List Str) (fs:List (Nat × Str)) (scope:Scope):Prop where
  kind:scope.kind= .function
  cell:∀y∈scope.names,y.2≠ .cell
  names:∀y∈scope.names,y.2= .local ->scope.names.lookup y.1=some .local
  free:∀y∈scope.names,y.2= .free->X.env.kindOf y.1=some .cell\/X.env.kindOf y.1=some .free
  at':∀p∈fs,X.N[p.1]? =some p.2/\(p.2,NameKind.free)∈scope.names/\((relabel scope X.env).names.lookup p.2=some .cell\/(relabel scope X.env).names.lookup p.2=some .free)
def rlb (sc scope:Scope):List (Str × NameKind):=scope.names.map fun(n,k)=>if(k==NameKind.free&&sc.kind== .function&&sc.names.lookup n==some .cell)then(n,NameKind.cell)else(n,k)
def Ae6 (sc:Scope) (N:List Str) (fs:List (Nat × Str)) (scope:Scope):Bool:=
  (scope.kind== .function)&&(scope.names.all fun y=>y.2 != .cell)&&(scope.names.all fun y=>y.2 != .local ||scope.names.lookup y.1==some .local)&&
  (scope.names.all fun y=>y.2 != .free||(sc.names.lookup y.1==some .cell||sc.names.lookup y.1==some .free))&&
  fs.all fun p=>N[p.1]? ==some p.2&&(scope.names.contains (p.2,NameKind.free)&&((rlb sc scope).lookup p.2==some .cell||(rlb sc scope).lookup p.2==some .free))
theorem Bt.of {X:Cx}{ts:List Str}{fs:List (Nat × Str)}{scope sc:Scope}{N:List Str} (e1:X.env.scope=sc) (e2:X.N=N) (h:Ae6 sc N fs scope=true):Bt X ts fs scope:=by
  unfold Ae6 at h
  simp only [Bool.and_eq_true,List.all_eq_true,Bool.or_eq_true,bne_iff_ne,beq_iff_eq,List.contains_iff_mem]at h
  obtain⟨⟨⟨⟨h1,h2⟩,h3⟩,h4⟩,h5⟩:=h
  refine⟨h1,h2,fun y hy e=> ?_,fun y hy e=> ?_,fun p hp=> ?_⟩
  . rcases h3 y hy with z | z
    . exact absurd e z
    . exact z
  . rcases h4 y hy with z | z
    . exact absurd e z
    . show X.env.scope.names.lookup y.1=_\/X.env.scope.names.lookup y.1=_
      rw [e1]
      exact z
  . obtain⟨a,b,c⟩:=h5 p hp
    refine⟨by rw [e2];exact a,b,?_⟩
    subst e1
    exact c
def cpN (ts:List Str) (fs:List (Nat × Str)):List Str:=ts++fs.map (·.2)
def cpσ (n:Nat) (fs:List (Nat × Str)) (σ:St):St:=List.replicate n none++fs.map fun p=>(σ[p.1]?).join
theorem Il {env:Env}{x:Str}{k':NameKind}:∀ {names:List (Str × NameKind)},(names.map fun(n,k)=>if(k==NameKind.free&&env.scope.kind== .function&&env.kindOf n==some .cell)then(n,NameKind.cell)else(n,k)).lookup x=some k'->
    ∃k,(x,k)∈names/\(k'=k\/(k= .free/\k'= .cell))
  | [],h=>by simp at h
  | (n,k)::r,h=>by
    rw [List.map_cons]at h
    dsimp only at h
    by_cases hc:(k==NameKind.free&&env.scope.kind== .function&&env.kindOf n==some .cell)=true
    . rw [if_pos hc,List.lookup_cons]at h
      cases hx:x==n with
      | true=>
        rw [hx]at h
        have e:x=n:=by simpa using hx
        subst e
        have hk:k= .free:=by
          rw [Bool.and_eq_true,Bool.and_eq_true]at hc
          simpa using hc.1.1
        exact⟨k,List.mem_cons_self,.inr ⟨hk,(Option.some.inj h).symm⟩⟩
      | false=>
        rw [hx]at h
        obtain⟨k2,h1,h2⟩:=Il h
        exact⟨k2,List.mem_cons_of_mem _ h1,h2⟩
    . rw [if_neg hc,List.lookup_cons]at h
      cases hx:x==n with
      | true=>
        rw [hx]at h
        have e:x=n:=by simpa using hx
        subst e
        exact⟨k,List.mem_cons_self,.inl (Option.some.inj h).symm⟩
      | false=>
        rw [hx]at h
        obtain⟨k2,h1,h2⟩:=Il h
        exact⟨k2,List.mem_cons_of_mem _ h1,h2⟩
def PTs (X:Cx) (ifs:List Expr) (t:TT):Prop:=
  ∀(pins:List (Addr × Obj)) (s:Shared) (σ:St) (H:Hp) (B:Bool->Hp->Prop),Inv X pins σ H s->t σ H B->
    wpAny (model X.prog X.w) X.A (forIn ifs true fun c r=>if r=true then do let ok<-isTrue c X.env (eval c X.env);pure (ForInStep.yield ok)else pure (ForInStep.yield r)) (TP X pins σ B) X.xe s
def Va:TT:=fun _ H B=>B true H
theorem Oo {X:Cx}:PTs X [] Va:=fun _ _ _ H _ I h=>wpAny_pure ⟨H,I,h⟩
theorem Ij {X:Cx}{c:Expr}{t:TT} (h:PT X c t):PTs X [c] t:=by
  intro pins s σ H B I hw
  rw [List.forIn_cons]
  simp only [if_true]
  refine wpAny_bind (wpAny_bind (thn (h pins s σ H B I hw) fun b s1 q=>wpAny_pure ?_))
  exact wpAny_pure q
def Kp (σ σ':St):Prop:=σ'.length=σ.length/\∀(i:Nat) v,σ[i]? =some (some v)->σ'[i]? =some (some v)
def cIn (J:It) (cσ:St) (g:TG) (tt:TT) (te:TE) (Q:VK) (H1:Hp) (p:Addr):Prop:=∃W:Nat->Nat->List V->Hp->Prop,(∃m,W 0 m [] (upd H1 p (.lst [])))/\∀i m acc H2,W i m acc H2->
  (J.stop i H2/\Q (.ref p) H2)\/(J.go i H2/\∀x H3,J.yld i H2 x H3->g x cσ H3 fun σ4 H4=>Kp cσ σ4/\tt σ4 H4 fun b H5=>
    if b=true then te σ4 H5 fun y H6=>H6 p=some (.lst acc)/\acc.length<sizeLine/\∃m',m'<m/\W (i+1) m' (acc++ [y]) (upd H6 p (.lst (acc++ [y])))else ∃m',m'<m/\W (i+1) m' acc H5)
def Ye (n:Nat) (fs:List (Nat × Str)) (wi:TI) (g:TG) (tt:TT) (te:TE):TE:=fun σ H Q=>wi σ H fun J H1=>∀p,H1 p=none->cIn J (cpσ n fs σ) g tt te Q H1 p
section
variable {X:Cx}{elt tg iter:Expr}{ifs:List Expr}{scope:Scope}{pos:Pos}{wi:TI}{g:TG}{tt:TT}{te:TE}{ts:List Str}{fs:List (Nat × Str)}
theorem Bt.clos (S:Bt X ts fs scope) (ok:X.Ok):∀x∈scope.names,x.2= .free->∃c,X.env.cells.lookup x.1=some c:=fun x hx hf=>ok.has x.1 (S.free x hx hf)
theorem Bt.sub (S:Bt X ts fs scope) (ok:X.Ok) {y:Str}{c:Addr} (h:(scope.names.foldl (clF X.env) []).lookup y=some c):X.env.cells.lookup y=some c:=by
  rcases Uj scope.names [] y c (S.clos ok) h with z | z
  . simp at z
  . exact z
theorem Uq {pins:List (Addr × Obj)}{σ:St}{H:Hp}{s3 s4:Shared}{ex:List Addr} (S:Bt X ts fs scope) (I:Inv X pins σ H s3)
    (hex:∀b∈ex,Q5 X pins H b/\∃o,s3.heap.get? b=some o) (hos:s4.os=s3.os) (hg:s4.gens=s3.gens) (hk:∀b u,s3.heap.get? b=some u->s4.heap.get? b=some u)
    (hn:s4.heap.Ns s3.heap.objs.size fun _=>none):Inv (cxC X (cpN ts fs) scope ex s3 H) [] (cpσ ts.length fs σ) H s4:=by
  have ok:=I.ok
  have noC:∀b∈ex,b≠s3.heap.objs.size:=fun b hb=>by
    obtain⟨_,o,ho⟩:=hex b hb
    exact Nat.ne_of_lt (Heap.lt_size ho)
  refine⟨⟨ok.mod,S.kind,ok.glob,ok.blt,Nat.le_refl _,fun y z c h1 h2=>ok.inj y z c (S.sub ok h1) (S.sub ok h2),fun y hy=> ?_,fun y c h _=>absurd h (by intro z;cases z),ok.hd,ok.frames,.inl rfl,fun b hb=>⟨noC b hb,fun x c e=>(hex b hb).1.2.2.2.2.1 x c (S.sub ok e)⟩,
    I.bs,Nat.le_trans ok.bsz I.sz,fun b o e hb=> ?_,fun b hb=> ?_,I.stack,I.stkFree⟩,hos,by rw [hg];exact I.bare,Un.kept hk,⟨_,hn,fun i x v h1 h2 h3=> ?_⟩,fun y c e=> ?_,I.hok.fresh (Nat.le_refl _),fun y c e=>I.freeC y c (S.sub ok e),
    fun p hp=>absurd (show p∈([]:List (Addr × Obj))from hp) (by simp),I.hok.kept hk,?_⟩
  . have z:∃k',(k'=NameKind.cell\/k'= .free)/\(scope.names.map fun(n,k)=>if(k==NameKind.free&&X.env.scope.kind== .function&&X.env.kindOf n==some .cell)then(n,NameKind.cell)else(n,k)).lookup y=some k':=by
      rcases hy with hy | hy
      . exact⟨_,.inl rfl,hy⟩
      . exact⟨_,.inr rfl,hy⟩
    obtain⟨k',hk',hl⟩:=z
    obtain⟨k,hm,h2⟩:=Il hl
    have hf:k= .free:=by
      rcases h2 with e | ⟨e,_⟩
      . subst e
        rcases hk' with e | e
        . exact absurd e (S.cell _ hm)
        . exact e
      . exact e
    exact R3 scope.names [] y (.inl ⟨_,hm,hf,rfl⟩)
  . rcases(hex b hb).1.2.2.2.1 with z | z
    . exact ok.noex b o e z
    . exact absurd (Nat.lt_of_lt_of_le (Heap.lt_size e) (Nat.le_trans ok.bsz z)) (Nat.lt_irrefl _)
  . intro hb2
    rcases List.mem_cons.mp (I.stkSub b hb2)with e | e
    . exact(hex b hb).1.2.1 e
    . exact(hex b hb).1.2.2.1 e
  . unfold cpσ at h2
    by_cases hi:i<ts.length
    . rw [List.getElem?_append_left (by simpa using hi),List.getElem?_replicate]at h2
      split at h2<;>cases h2
    . rw [List.getElem?_append_right (by simpa using hi),List.length_replicate]at h2
      have h1':(cpN ts fs)[i]? =some x:=h1
      unfold cpN at h1'
      rw [List.getElem?_append_right (by omega)]at h1'
      rw [List.getElem?_map]at h1' h2
      cases e:fs[i-ts.length]? with
      | none=>rw [e]at h1';cases h1'
      | some p=>
        rw [e]at h1' h2
        have ex':p.2=x:=Option.some.inj h1'
        have e2:(σ[p.1]?).join=some v:=Option.some.inj h2
        have e3:σ[p.1]? =some (some v):=by
          cases q:σ[p.1]? with
          | none=>rw [q]at e2;cases e2
          | some o=>rw [q]at e2;cases o with | none=>cases e2 | some v'=>cases e2;rfl
        obtain⟨a1,a2,a3⟩:=S.at' p (List.mem_of_getElem? e)
        obtain⟨m,_,hl⟩:=I.loc
        have kd:=S.free _ a2 rfl
        have vis:Vis X.env.scope p.2:=by
          rcases kd with z | z
          . exact .inr (.inl z)
          . exact .inr (.inr z)
        obtain⟨u,r,l⟩:=hl p.1 p.2 v a1 e3 vis
        refine⟨u,r,?_⟩
        rcases l with⟨z,_⟩ | ⟨_,c,hc,hcell⟩
        . rcases kd with q | q
          . rw [q]at z;cases z
          . rw [q]at z;cases z
        . obtain⟨c',hc'⟩:=R3 (env:=X.env) scope.names [] p.2 (.inl ⟨_,a2,rfl,rfl⟩)
          have ec:c'=c:=Option.some.inj ((S.sub ok hc').symm.trans hc)
          subst ec
          subst ex'
          refine .inr ⟨?_,c',hc',?_⟩
          . exact a3
          . obtain⟨o,ho,hd⟩:=hcell
            exact⟨o,hk _ _ ho,hd⟩
  . obtain⟨v,o,ho,hd⟩:=I.cell y c (S.sub ok e)
    exact⟨v,o,hk _ _ ho,hd⟩
  . unfold cpσ
    show _=(cpN ts fs).length
    unfold cpN
    simp
theorem Yx {pins:List (Addr × Obj)}{σ σ':St}{H H':Hp}{s3 s5:Shared}{h':Heap}{ex:List Addr} (S:Bt X ts fs scope) (I:Inv X pins σ H s3) (hex:∀b∈ex,Q5 X pins H b)
    (J:Inv (cxC X (cpN ts fs) scope ex s3 H) [] σ' H' s5) (sb:Heap.SameBut s3.heap.objs.size s5.heap h'):Inv X pins σ H' { s5 with heap:=h'}:=by
  have nC:H' s3.heap.objs.size=none:=J.free
  have old:∀b o,b≠s3.heap.objs.size->s5.heap.get? b=some o->h'.get? b=some o:=fun b o hb e=>sb.extBut b o hb e
  have lt:∀b o,s3.heap.get? b=some o->b≠s3.heap.objs.size:=fun b o e=>Nat.ne_of_lt (Heap.lt_size e)
  have u:Un (frs X.stack) ex H H' s3.heap s5.heap:=J.base
  have u2:Un (frs X.stack) ex H H' s3.heap h':=
    ⟨fun b o e n hb hx=>old b o (lt b o e) (u.keep b o e n hb hx),fun b o e n hb hx=>by
      obtain⟨sl,q⟩:=u.slot b o e n hb hx
      exact⟨sl,old b _ (lt b o e) q⟩,u.free,fun b o e hx=>by
      obtain⟨o',q⟩:=u.there b o e hx
      exact⟨o',old b o' (lt b o e) q⟩,u.tups,u.frzs,u.tbls⟩
  have hok:HOk X.prog X.w H' h':=fun b o e=>by
    have nb:b≠s3.heap.objs.size:=fun z=>by rw [z,nC]at e;cases e
    refine(J.hok b o e).stay (fun c v hc q=>old c v ?_ q) (fun _ q=>q) fun _ _ q=>q
    rcases hc with z | z
    . rw [z];exact nb
    . intro z2;rw [z2,nC]at z;cases z
  exact I.call' (s':={ s5 with heap:=h'}) (ch:=ex) J.os u2 hok J.bare fun b hb=>⟨(hex b hb).2.2.2.1,(hex b hb).2.1,(hex b hb).2.2.2.2.1,(hex b hb).2.2.2.2.2⟩
theorem Inv.fade {pins:List (Addr × Obj)}{σ σ':St}{H:Hp}{s:Shared} (I:Inv X pins σ' H s) (k:Kp σ σ'):Inv X pins σ H s:=by
  refine⟨I.ok,I.os,I.bare,I.base,?_,I.cell,I.free,I.freeC,I.pin,I.hok,k.1.symm.trans I.len⟩
  obtain⟨m,hn,hl⟩:=I.loc
  exact⟨m,hn,fun i x v h1 h2 h3=>hl i x v h1 (k.2 i v h2) h3⟩
theorem Yw {pins:List (Addr × Obj)}{σ:St}{H3:Hp}{s3 s4:Shared}{Q:VK}{R:Result->Shared->Prop}{fp:List Addr}{it p:Addr}{tn:Nat->Heap->Prop}{J:It}{W:Nat->Nat->List V->Hp->Prop}{m0:Nat} (hc:X.calm=true) (S:Bt X ts fs scope)
    (hg:∀ex s H,PG (cxC X (cpN ts fs) scope ex s H) tg g) (ht:∀ex s H,PTs (cxC X (cpN ts fs) scope ex s H) ifs tt) (he:∀ex s H,PE (cxC X (cpN ts fs) scope ex s H) elt te)
    (I3:Inv X pins σ H3 s3) (T:Turn X.prog X.w X.K tg J fp it tn) (hex:∀b∈fp,Q5 X pins H3 b) (lt:∀b∈fp,b<s3.heap.objs.size)
    (I4:Inv (cxC X (cpN ts fs) scope fp s3 H3) [] (cpσ ts.length fs σ) H3 s4) (st4:tn 0 s4.heap) (w0:W 0 m0 [] H3)
    (fin:∀H5 s6,Inv (cxC X (cpN ts fs) scope fp s3 H3) [] (cpσ ts.length fs σ) H5 s6->Q (.ref p) H5->R (.ok .next) s6)
    (turn:∀i m acc H2,W i m acc H2->(J.stop i H2/\Q (.ref p) H2)\/(J.go i H2/\∀x H3,J.yld i H2 x H3->g x (cpσ ts.length fs σ) H3 fun σ4 H4=>Kp (cpσ ts.length fs σ) σ4/\tt σ4 H4 fun b H5=>
      if b=true then te σ4 H5 fun y H6=>H6 p=some (.lst acc)/\acc.length<sizeLine/\∃m',m'<m/\W (i+1) m' (acc++ [y]) (upd H6 p (.lst (acc++ [y])))else ∃m',m'<m/\W (i+1) m' acc H5)):
    codeAny (model X.prog X.w) X.A (.compLoop (.ListComp elt [⟨tg,iter,ifs,0⟩] scope pos) 0 (.ref it) (.ref p) (cxC X (cpN ts fs) scope fp s3 H3).env) R s4:=by
  have stat:∀ {H':Hp},(∀b∈fp,H' b=none)->∀b∈fp,Q5 (cxC X (cpN ts fs) scope fp s3 H3) [] H' b:=fun hn b hb=>
    ⟨hn b hb,Nat.ne_of_lt (lt b hb),fun z=>(List.mem_cons.mp (I3.stkSub b z)).elim (hex b hb).2.1 (hex b hb).2.2.1,.inl hb,fun x c e=>(hex b hb).2.2.2.2.1 x c (S.sub I3.ok e),fun q hq=>absurd (show q∈([]:List (Addr × Obj))from hq) (by simp)⟩
  refine Qv (fun n s'=>∃i acc H',Inv (cxC X (cpN ts fs) scope fp s3 H3) [] (cpσ ts.length fs σ) H' s'/\tn i s'.heap/\(∀b∈fp,H' b=none)/\W i n acc H') ?_ m0 ⟨0,[],H3,I4,st4,fun b hb=>(hex b hb).1,w0⟩
  rintro n s5 ⟨i,acc,H5,I5,st5,fr5,w5⟩
  rcases turn i n acc H5 w5 with⟨stop,q⟩ | ⟨go,step⟩
  . refine thn (T.done (cxC X (cpN ts fs) scope fp s3 H3) rfl rfl rfl hc i [] s5 _ H5 _ I5 (stat fr5) st5 stop) fun r s6 ⟨hr,I6⟩=> ?_
    subst hr
    exact fin H5 s6 I6 q
  . refine thn (T.item (cxC X (cpN ts fs) scope fp s3 H3) rfl rfl rfl hc i [] s5 _ H5 _ I5 (stat fr5) st5 go) fun r s6 ⟨u,hr,h6⟩=> ?_
    subst hr
    refine thn h6 fun _ s7 ⟨x,H7,I7,r7,y7,st7,fr7⟩=> ?_
    have I7':=I7.pinned (stat fr7) (T.obj _ _ st7)
    refine thn (hg fp s3 H3 _ s7 _ H7 x u _ I7' r7 (step x H7 y7)) fun _ s8 ⟨σ8,H8,I8,kp,q8⟩=> ?_
    have again:∀ {H9:Hp}{s9:Shared}{acc':List V}{m':Nat},Inv (cxC X (cpN ts fs) scope fp s3 H3) ([]++Qj fp s7.heap) σ8 H9 s9->m'<n->W (i+1) m' acc' H9->
        ∃m,m<n/\∃i acc H',Inv (cxC X (cpN ts fs) scope fp s3 H3) [] (cpσ ts.length fs σ) H' s9/\tn i s9.heap/\(∀b∈fp,H' b=none)/\W i m acc H':=fun {H9 s9 acc' m'} I9 hm w9=>by
      refine⟨m',hm,i+1,acc',H9,(I9.fade kp).unpinned,T.keep _ _ _ st7 fun b hb o e=>(I9.pin (b,o) (List.mem_append_right _ (List.mem_append_right _ (Ja hb e)))).1,fun b hb=> ?_,w9⟩
      obtain⟨o,e,d⟩:=T.obj _ _ st7 b hb
      exact(I9.pin (b,o) (List.mem_append_right _ (List.mem_append_right _ (Ja hb e)))).2.1
    refine thn (ht fp s3 H3 _ s8 σ8 H8 _ I8 q8) fun ok s9 ⟨H9,I9,q9⟩=> ?_
    cases ok with
    | false=>
      rw [if_neg Bool.false_ne_true]at q9 ⊢
      obtain⟨m',hm,w9⟩:=q9
      exact again I9 hm w9
    | true=>
      rw [if_pos rfl]at q9 ⊢
      refine thn (he fp s3 H3 _ s9 σ8 H9 _ I9 q9) fun y s10 ⟨yv,H10,I10,r10,hp10,hlen,m',hm,w10⟩=> ?_
      exact thn (Ib _ s10 σ8 H10 (.ref p) [yv] (.ref p) [y] _ I10 rfl (.cons r10 .nil) ⟨p,acc,yv,rfl,rfl,hp10,hlen,w10⟩) fun _ s11 ⟨_,H11,I11,_,w11⟩=>again I11 hm w11
set_option maxHeartbeats 2000000 in
theorem Vb {pos':Pos}{pins:List (Addr × Obj)}{σ:St}{H:Hp}{s:Shared}{Q:VK}{QQ:Value->Shared->Prop}{use:Option (Value->Sem Unit)} (hc:X.calm=true) (S:Bt X ts fs scope) (hi:PI X tg iter wi) (hg:∀ex s H,PG (cxC X (cpN ts fs) scope ex s H) tg g) (ht:∀ex s H,PTs (cxC X (cpN ts fs) scope ex s H) ifs tt)
    (he:∀ex s H,PE (cxC X (cpN ts fs) scope ex s H) elt te) (hs:∀x,foldedSetIterable iter X.env x=pure x) (I:Inv X pins σ H s) (h:Ye ts.length fs wi g tt te σ H Q)
    (fin:∀(H3:Hp) (s3:Shared) (fp:List Addr) (p:Addr) (H5:Hp) (s6:Shared),Inv X pins σ H3 s3->(∀b∈fp,Q5 X pins H3 b)->Inv (cxC X (cpN ts fs) scope fp s3 H3) [] (cpσ ts.length fs σ) H5 s6->Q (.ref p) H5->compPost (model X.prog X.w) X.A X.xe use QQ (.ref p) s3.heap.objs.size (.ok .next) s6):
    wpAny (model X.prog X.w) X.A (comprehension (.ListComp elt [⟨tg,iter,ifs,0⟩] scope pos) scope X.env pos' (newList []) false (eval iter X.env) use) QQ X.xe s:=by
  refine wpAny_comprehension_free (use:=use) rfl hs (Uy (S.clos I.ok)) S.kind S.names (thn (hi pins s σ H _ I h) fun v s1 h1=>thn h1 fun itv s2 h2=> ?_)
  obtain⟨it,fp,tn,J,H2,rfl,I2,T,st2,f2,hw⟩:=h2
  refine wpAny_newObj_type (wpAny_newFunctionEnv S.cell (by intro y hy;simp at hy) (fun h₁ hns₁ hsb₁=> ?_) S.kind)
  dsimp only at hns₁ hsb₁ ⊢
  have I3:=I2.lnew (its:=[]) (ys:=[]) (t':=s2.toks) .nil (Nat.zero_le _)
  have hD:H2 s2.heap.objs.size=none:=I2.fresh
  obtain⟨W,⟨m0,w0⟩,turn⟩:=hw _ hD
  have up:∀b o,s2.heap.get? b=some o->(s2.heap.push { cls:= .type "list",data:= .seq ([]:List Value).toArray}).get? b=some o:=fun b o e=>Heap.get?_push_of_some _ e
  have hex:∀b∈fp,Q5 X pins (upd H2 s2.heap.objs.size (.lst [])) b/\∃o,(s2.heap.push { cls:= .type "list",data:= .seq ([]:List Value).toArray}).get? b=some o:=fun b hb=>by
    obtain⟨o,ho,_⟩:=T.obj _ _ st2 b hb
    have nb:b≠s2.heap.objs.size:=Nat.ne_of_lt (Heap.lt_size ho)
    exact⟨⟨by rw [Bs nb];exact(f2 b hb).1,(f2 b hb).2⟩,o,up b o ho⟩
  have hk4:∀b u,(s2.heap.push { cls:= .type "list",data:= .seq ([]:List Value).toArray}).get? b=some u->h₁.get? b=some u:=fun b u e=>
    hsb₁.extBut b u (Nat.ne_of_lt (Heap.lt_size e)) (Heap.get?_push_of_some _ e)
  have I4:=Uq (s4:={ s2 with heap:=h₁,toks:=s2.toks}) S I3 hex rfl rfl hk4 hns₁
  have st4:tn 0 h₁:=T.keep _ _ _ st2 fun b _ o e=>hk4 b o (up b o e)
  have run:=Yw (elt:=elt) (iter:=iter) (pos:=pos) hc S hg ht he I3 T (fun b hb=>(hex b hb).1) (fun b hb=>Heap.lt_size (hex b hb).2.choose_spec) I4 st4 w0 (fun H5 s6 I6 q=>fin _ _ fp _ H5 s6 I3 (fun b hb=>(hex b hb).1) I6 q) turn
  exact codeAny_compStart_list run (T.self X.A 0 _ _ _ st4 run)
theorem Ge (hc:X.calm=true) (S:Bt X ts fs scope) (hi:PI X tg iter wi) (hg:∀ex s H,PG (cxC X (cpN ts fs) scope ex s H) tg g) (ht:∀ex s H,PTs (cxC X (cpN ts fs) scope ex s H) ifs tt)
    (he:∀ex s H,PE (cxC X (cpN ts fs) scope ex s H) elt te) (hs:∀x,foldedSetIterable iter X.env x=pure x:=by intro _;rfl):
    PE X (.ListComp elt [⟨tg,iter,ifs,0⟩] scope pos) (Ye ts.length fs wi g tt te):=by
  intro pins s σ H Q I h
  rw [eval_ListComp]
  refine Vb (use:=none) hc S hi hg ht he hs I h fun H3 s3 fp p H5 s6 I3 hex I6 q=> ?_
  obtain⟨m,hn,_⟩:=I6.loc
  exact⟨m,hn,fun h' sb=>⟨.ref p,H5,Yx S I3 hex I6 sb,rfl,q⟩⟩
end
section
variable {K:PySem.W.Frag}{H1:Hp}{p:Addr}{cσ:St}{g:TG}{te:TE}{Q:VK}{α:Type}{es:List α}{inj:α->V}
def Wk (J:It) (H1:Hp) (es:List α) (inj:α->V):Prop:=∀i H',Same H1 H'->(es[i]? =none->J.stop i H')/\∀e,es[i]? =some e->J.go i H'/\∀x H3,J.yld i H' x H3->H3=H'/\x=inj e
theorem W2 {a:Addr} (h:SqL K H1 a (es.map inj)):Wk (Itl K a) H1 es inj:=fun i H' s=>by
  have h':=s.seq h
  refine⟨fun e=>⟨_,h',?_⟩,fun e he=>⟨⟨_,inj e,h',by rw [List.getElem?_map,he];rfl⟩,fun x H3 ⟨e1,e2⟩=>⟨e1,?_⟩⟩⟩
  . rw [List.length_map]
    exact List.getElem?_eq_none_iff.mp e
  . have z:=e2 _ h'
    rw [List.getElem?_map,he]at z
    exact(Option.some.inj z).symm
theorem M4 {a:Addr} (h:SqT K H1 a (es.map inj)):Wk (Itt K a) H1 es inj:=fun i H' s=>by
  have h':=s.tup h
  refine⟨fun e=>⟨_,h',?_⟩,fun e he=>⟨⟨_,inj e,h',by rw [List.getElem?_map,he];rfl⟩,fun x H3 ⟨e1,e2⟩=>⟨e1,?_⟩⟩⟩
  . rw [List.length_map]
    exact List.getElem?_eq_none_iff.mp e
  . have z:=e2 _ h'
    rw [List.getElem?_map,he]at z
    exact(Option.some.inj z).symm
theorem Ub {lo:Int}{n:Nat}:Wk (Itr lo n) H1 (List.range n) (fun i=> .int (lo+(i:Nat))):=fun i H' s=>by
  refine⟨fun e=> ?_,fun e he=> ?_⟩
  . have:=List.getElem?_eq_none_iff.mp e
    show n<=i
    simpa using this
  . obtain⟨h,z⟩:=List.getElem?_eq_some_iff.mp he
    have hi:i<n:=by simpa using h
    have z':i=e:=by simpa using z
    subst z'
    exact⟨hi,fun x H3 ⟨e1,e2⟩=>⟨e1,e2⟩⟩
end
section
variable {X:Cx}{K:PySem.W.Frag}{σ:St}{H:Hp}{Q:VK}{R:It->Hp->Prop}
theorem Ew {n:Nat}{fs:List (Nat × Str)}{wi:TI}{g:TG}{tt:TT}{te:TE}:Ye n fs wi g tt te σ H Q=wi σ H (fun J H1=>∀p,H1 p=none->cIn J (cpσ n fs σ) g tt te Q H1 p):=rfl
theorem Fz {ta:TA}:Abq ta σ H R=ta σ H (fun vs H1=>∃j:Int,vs=[.int j]/\ -(2^62)<=j/\j<2^62/\R (Itr 0 j.toNat) H1):=rfl
theorem Ep {ta:TA}:Abf ta σ H R=ta σ H (fun vs H1=>∃i j:Int,vs=[.int i,.int j]/\(-(2^62)<=i/\i<2^62/\ -(2^62)<=j/\j<2^62)/\R (Itr i (j-i).toNat) H1):=rfl
theorem Cw {tl:TE}:Abg K tl σ H R=tl σ H (fun x H1=>∃a,x= .ref a/\(∃xs,SqL K H1 a xs)/\R (Itl K a) H1):=rfl
theorem Eo {tl:TE}:Aek K tl σ H R=tl σ H (fun x H1=>∃a,x= .ref a/\(∃xs,SqT K H1 a xs)/\R (Itt K a) H1):=rfl
theorem J1 {a:Addr}{p:Addr->Prop}:(∃b,V.ref a= .ref b/\p b)=p a:=propext ⟨fun⟨_,e,h⟩=>by cases e;exact h,fun h=>⟨a,rfl,h⟩⟩
theorem J2 {v:Option V}{r:St}:Kp (none::r) (v::r)=True:=by
  refine eq_true ⟨rfl,fun i u e=> ?_⟩
  cases i with
  | zero=>cases e
  | succ i=>exact e
theorem Jo {v v':Option V}{r:St}:Kp (none::none::r) (v::v'::r)=True:=by
  refine eq_true ⟨rfl,fun i u e=> ?_⟩
  cases i with
  | zero=>cases e
  | succ i=>
    cases i with
    | zero=>cases e
    | succ i=>exact e
theorem Gj {k:Bool}{p:Int->Prop}{q:Bool->Prop}:((∃i,[V.bl k]=[V.int i]/\p i)\/∃k',[V.bl k]=[V.bl k']/\q k')=q k:=
  propext ⟨fun h=>h.elim (fun⟨_,e,_⟩=>by cases e) fun⟨_,e,h⟩=>by cases e;exact h,fun h=> .inr ⟨k,rfl,h⟩⟩
end
end L2
namespace L2
open PySem PySem.Spec PyProof.Rows
def FI (J:It) (g:TG) (tb:TS) (D:Ends) (σ:St) (H:Hp):Prop:=∃W:Nat->Nat->St->Hp->Prop,(∃m,W 0 m σ H)/\∀i m σ H,W i m σ H->
  (J.stop i H/\D.nx σ H)\/(J.go i H/\∃N:St->Hp->Prop,(∀σ' H',N σ' H'->∃m',m'<m/\W (i+1) m' σ' H')/\∀x H',J.yld i H x H'->g x σ H' fun σ2 H2=>tb { D with nx:=N,ct:=N,bk:=D.nx} σ2 H2)
theorem Kq {wi:TI}{g:TG}{tb:TS}{D:Ends}{σ:St}{H:Hp}:Ad9 wi g tb D σ H=wi σ H (fun J H1=>FI J g tb D σ H1):=rfl
section
variable {K:PySem.W.Frag}{σ:St}{H:Hp}{g:TG}{tb:TS}{D:Ends}{α:Type}{es:List α}{inj:α->V}
def Abx (J:It) (H:Hp) (es:List α) (inj:α->V):Prop:=∀i,(es[i]? =none->J.stop i H)/\∀e,es[i]? =some e->J.go i H/\∀x H3,J.yld i H x H3->H3=H/\x=inj e
theorem K3 {a:Addr} (h:SqL K H a (es.map inj)):Abx (Itl K a) H es inj:=fun i=>W2 h i H (Same.refl _)
theorem O9 {a:Addr} (h:SqT K H a (es.map inj)):Abx (Itt K a) H es inj:=fun i=>M4 h i H (Same.refl _)
theorem K8 {lo:Int}{n:Nat}:Abx (Itr lo n) H (List.range n) (fun i=> .int (lo+(i:Nat))):=fun i=>Ub i H (Same.refl _)
theorem Qe {J:It} (Pv:List α->St->Hp->Prop) (h0:Pv [] σ H) (hw:∀pre σ H,Pv pre σ H->Abx J H es inj)
    (hs:∀pre e post σ H,es=pre++e::post->Pv pre σ H->g (inj e) σ H fun σ2 H2=>tb { D with nx:=Pv (pre++ [e]),ct:=Pv (pre++ [e]),bk:=D.nx} σ2 H2) (hd:∀σ H,Pv es σ H->D.nx σ H):FI J g tb D σ H:=by
  refine⟨fun i m σ H=>m=es.length-i/\i<=es.length/\Pv (es.take i) σ H,⟨es.length,by simp,Nat.zero_le _,h0⟩,?_⟩
  rintro i m σ H ⟨rfl,hi,p⟩
  have w:=hw _ _ _ p i
  cases he:es[i]? with
  | none=>
    have e:i=es.length:=Nat.le_antisymm hi (List.getElem?_eq_none_iff.mp he)
    subst e
    rw [List.take_length]at p
    exact .inl ⟨w.1 he,hd _ _ p⟩
  | some e=>
    obtain⟨hlt,ee⟩:=List.getElem?_eq_some_iff.mp he
    have tk:es.take (i+1)=es.take i++ [e]:=by rw [List.take_succ,he];rfl
    have sp:es=es.take i++e::es.drop (i+1):=by
      rw [<-ee,<-List.drop_eq_getElem_cons hlt,List.take_append_drop]
    refine .inr ⟨(w.2 e he).1,Pv (es.take i++ [e]),fun σ' H' q=>⟨es.length-(i+1),by omega,rfl,hlt,by rw [tk];exact q⟩,fun x H' y=> ?_⟩
    obtain⟨rfl,rfl⟩:=(w.2 e he).2 x H' y
    exact hs _ e _ σ H' sp p
end
end L2
namespace L2
open PySem PySem.Spec PyProof.Rows
section
variable {K:PySem.W.Frag}{σ:St}{H:Hp}{Q:VK}
theorem Sy {r:V->Option Int->Option Int->Hp->VK->Prop}{te:TE}{tl th:TO}:tSl r te tl th σ H Q=te σ H (fun x H1=>tl σ H1 fun l H2=>th σ H2 fun u H3=>r x l u H3 Q):=rfl
theorem Cd {R:Option Int->Hp->Prop}:R5 σ H R=R none H:=rfl
theorem Ed {t:TE}{R:Option Int->Hp->Prop}:Aab t σ H R=t σ H (fun x H1=>∃i,x= .int i/\R (some i) H1):=rfl
theorem J5 {T:String}{r:V->List V->Hp->VK->Prop}{to:TE}:Ael K T r to σ H Q=to σ H (fun x H1=>tyV K T x H1/\r x [] H1 Q):=rfl
theorem S6 {T:String}{r:V->List V->Hp->VK->Prop}{to:TE}{t:TA}:tBM K T r to t σ H Q=to σ H (fun x H1=>tyV K T x H1/\t σ H1 fun xs H2=>r x xs H2 Q):=rfl
def Aeh:V->List V->Hp->VK->Prop:=fun x vs H Q=>∃i,x= .int i/\vs=[]/\Q (.int ((Builtin.Int.intBits i:Nat):Int)) H
theorem Abm {X:Cx}:MtR X "int.bit_length" Aeh:=by
  intro pins s σ H x xs v us Q I rx rv h
  obtain⟨i,rfl,rfl,q⟩:=h
  obtain⟨t,rfl⟩:=rx
  have hus:=rv.zero
  subst hus
  refine call_gives F.slot_int_bit_length (typeIs_int s i t) F.entry_int_bit_length (F.args_int_bit_length_1 _) (AutoIntG2.int_bit_length_int_0 i t) ?_
  exact⟨.int _,H,I.tok _,⟨_,rfl⟩,q⟩
end
section
variable {CX:CXT}{P:Program}{w:World}{K:PySem.W.Frag}{mg:Str->Option Value}{base:Heap}{N:List Str}{qual:Str}{scope:Scope}{f:Addr}{cd:Value}{A:Around}{outer:List Env}{s:Shared}{H H1 H2:Hp}{E:XK}{Q:VK}{a b:Addr}{ns ms:List Int}{g:Bool->Bool}
theorem Ku:(Nf CX P w K mg base N qual scope f cd A outer s H E).K=K:=rfl
theorem Fl:(Nf CX P w K mg base N qual scope f cd A outer s H E).nox.K=K:=rfl
theorem Mf (ns:List Int):SeqAt.shaped (.list (ns.map PyData.int))=true:=by
  simp [SeqAt.shaped,PyData.canLay0,PyData.depth,PySem.W.ke_canLayAll0,PySem.W.ke_depthAll]
theorem Mr (ha:SqL K H a (ns.map V.int)) (hb:SqL K H b (ms.map V.int)) (h:Q (.bl (g (decide (ns=ms)))) H):Abz K g (.ref a) (.ref b) H Q:=
  ⟨_,_,.lints ha,.lints hb,Mf _,Mf _,by rw [PyData.eqv,Mp];exact h⟩
end
end L2
namespace L2
open PySem PySem.Spec PyProof.Rows
theorem En {a:Addr}{p:Addr->Prop}:(∃b,[V.ref a]=[.ref b]/\p b)=p a:=propext ⟨fun⟨_,e,h⟩=>by cases e;exact h,fun h=>⟨a,rfl,h⟩⟩
section
variable {K:PySem.W.Frag}{σ:St}{H:Hp}{Q:St->Hp->Prop}{R:VK}{p a b:Addr}{v w:V}{i j:Nat}{xs:List V}{ns ms:List Int}{f:Bool->Bool}
theorem Ck (h:SqT K H p [v,w]) (q:Q ((σ.set i (some v)).set j (some w)) H):Acu K 2 (Yz (R8 i) (Yz (R8 j) Ae1)) (.ref p) σ H Q:=⟨p,_,rfl,h,rfl,v,_,rfl,w,_,rfl,rfl,q⟩
theorem Et {to ti:TE}{t:Ae8}:Aft to ti t v σ H Q=to σ H (fun o H1=>ti σ H1 fun i H2=>t o i v H2 fun H3=>Q σ H3):=rfl
theorem Tq (ha:SqT K H a (ns.map V.int)) (hb:SqT K H b (ms.map V.int)) (h:R (.bl (f (decide (ns=ms)))) H):Adh K f (.ref a) (.ref b) H R:=⟨a,b,ns,ms,rfl,rfl,ha,hb,h⟩
end
end L2
namespace L2
open PySem PySem.Spec PyProof.Rows
section
variable {prog:Program}{w:World}{A:Around}{E:Value->Shared->Prop}{s:Shared}{j u:Addr}{i:Nat}{xs:Array Value}
theorem nextT {y:Value}{Q:Value->Shared->Prop} (hj:s.heap.IsTupleIter j u i) (hu:s.heap.IsTuple u xs) (hy:xs[i]? =some y)
    (k:∀g,g.IsTupleIter j u (i+1)->Heap.SameBut j s.heap g->Q y { s with heap:=g}):wpAny (model prog w) A (Builtin.SmallTypes.nextOf (.ref j)) Q E s:=by
  obtain⟨oj,ej,cj,dj⟩:=id hj
  obtain⟨ou,eu,_,nu,du⟩:=hu
  unfold Builtin.SmallTypes.nextOf
  refine wpAny_bind (wpAny_callSpecial?_slot (name:=Str.ofString "__next__") hj.typeIs F.slot_tuple_iterator_next (wpAny_call_entry F.slot_tuple_iterator_next hj.typeIs F.entry_tuple_iterator_next ?_ (F.args_tuple_iterator_next_1 _)))
  show wpAny _ _ (field (.ref j) 0>>=_) _ _ s
  refine wpAny_bind (wpAny_field ej dj (x:= .ref u) rfl ?_)
  show wpAny _ _ (if(Value.ref u==Value.none)=true then _ else _) _ _ s
  rw [if_neg (show ¬((Value.ref u==Value.none)=true)from Bool.false_ne_true)]
  show wpAny _ _ (field (.ref j) 1>>=_) _ _ s
  refine wpAny_bind (wpAny_field ej dj (x:= .int i 0) rfl ?_)
  show wpAny _ _ (seqItems? (.ref u)>>=_) _ _ s
  refine wpAny_bind (wpAny_seqItems eu du ?_)
  simp only [hy,Int.toNat_natCast]
  refine wpAny_bind (wpAny_setField ej dj (by simp) (wpAny_pure ⟨y,rfl,wpAny_pure (k _ ?_ (Heap.SameBut.update ..))⟩))
  exact⟨_,Heap.get?_update_self _ ej (Obj.isFreed_of_fields (Obj.data_mapFields dj _)),(Obj.cls_mapFields ..).trans cj,by rw [Obj.data_mapFields dj];simp [rawInt]⟩
theorem Vx {Q:Value->Shared->Prop} (hh:A.handled=none) (hj:s.heap.IsTupleIter j u i) (hu:s.heap.IsTuple u xs) (hy:xs[i]? =none)
    (k:∀g e,Heap.ExtBut j s.heap g->(∃o,g.get? e=some o/\o.cls= .type "StopIteration")->E (.ref e) { s with heap:=g}):wpAny (model prog w) A (Builtin.SmallTypes.nextOf (.ref j)) Q E s:=by
  obtain⟨oj,ej,cj,dj⟩:=id hj
  obtain⟨ou,eu,_,nu,du⟩:=hu
  unfold Builtin.SmallTypes.nextOf
  refine wpAny_bind (wpAny_callSpecial?_slot (name:=Str.ofString "__next__") hj.typeIs F.slot_tuple_iterator_next (wpAny_call_entry F.slot_tuple_iterator_next hj.typeIs F.entry_tuple_iterator_next ?_ (F.args_tuple_iterator_next_1 _)))
  show wpAny _ _ (field (.ref j) 0>>=_) _ _ s
  refine wpAny_bind (wpAny_field ej dj (x:= .ref u) rfl ?_)
  show wpAny _ _ (if(Value.ref u==Value.none)=true then _ else _) _ _ s
  rw [if_neg (show ¬((Value.ref u==Value.none)=true)from Bool.false_ne_true)]
  show wpAny _ _ (field (.ref j) 1>>=_) _ _ s
  refine wpAny_bind (wpAny_field ej dj (x:= .int i 0) rfl ?_)
  show wpAny _ _ (seqItems? (.ref u)>>=_) _ _ s
  refine wpAny_bind (wpAny_seqItems eu du ?_)
  simp only [hy,Int.toNat_natCast]
  refine wpAny_bind (wpAny_rule (wpAny_bind (wpAny_setField ej dj (by simp) ?_)))
  show wpAny _ A.in1 (newExc (.type "StopIteration") []>>=_) _ _ _
  refine wpAny_bind ?_
  simp only [newTuple,newExc]
  refine wpAny_bind (wpAny_newObj_type ?_ (by size_fits))
  refine wpAny_bind (m:=firstArgMember _ _) (wpAny_of_eq (a:=Value.none) (by first | rfl | (simp only [firstArgMember];rfl)) ?_)
  refine(wpAny_newObj_type ?_ (by size_fits))
  simp only [raiseNew]
  refine wpAny_bind (wpAny_handled ?_)
  first | rw [show A.in1.handled=none from hh] | (rw [hh])
  refine wpAny_bind (wpAny_pure (wpAny_throw ?_))
  exact k _ _ (((Heap.SameBut.update ..).extBut.push _).push _) ⟨_,Heap.get?_push_size _ rfl,rfl⟩
end
open AutoSeq1 (wpAny_loadPart')in
section
variable {X:Cx}{pins:List (Addr × Obj)}{σ:St}{H:Hp}{s:Shared}{h':Heap}
theorem Inv.turnL {t':Nat}{fp:List Addr} (I:Inv X pins σ H s) (k:∀b o,b∉fp->s.heap.get? b=some o->h'.get? b=some o) (hf:∀b∈fp,Q5 X pins H b):Inv X pins σ H { s with heap:=h',toks:=t'}:=by
  have nf:∀b u,H b=some u->b∉fp:=fun b u e z=>by
    have:=(hf b z).1
    rw [this]at e
    cases e
  refine I.step (g':=s.gens) (d':=s.drawn) (ch:=fp) (fun b hb=>⟨(hf b hb).2.2.2.1,(hf b hb).2.1,(hf b hb).2.2.2.2.1,(hf b hb).2.2.2.2.2⟩) (fun b o _ _ hc e _=>k b o hc e) (fun b o _ _ hc e _=>⟨o.slots,k b o hc e⟩) (fun _ _ _ _ n=>n)
    (fun b o hc e=>⟨o,k b o hc e⟩) (fun _ _ e=>e) (fun _ _ _ e=>e) (fun b ps e=>⟨#[],by rw [e];simp⟩) (fun m hm=> ?_) (fun b u e=> ?_) I.bare
  . obtain⟨o,es,ep,ho,r⟩:=hm
    exact⟨o,es,ep,k _ o (fun z=>(hf _ z).2.1 rfl) ho,r⟩
  . refine(I.hok b u e).stay (fun c v hc q=>k c v ?_ q) (fun _ q=>q) fun _ _ q=>q
    rcases hc with z | z
    . rw [z]
      exact nf b u e
    . exact nf c _ z
end
def Ite (K:PySem.W.Frag) (a:Addr):It:=
  ⟨fun i H=>∃xs x,SqT K H a xs/\xs[i]? =some x,fun i H x H'=>∃p v,(∀xs,SqT K H a xs->xs[i]? =some v)/\H p=none/\x= .ref p/\H'=upd H p (.tup [.int (i:Nat),v]),fun i H=>∃xs,SqT K H a xs/\xs.length<=i⟩
section
variable {X:Cx}{a:Expr}{ta:TA}{el:List Expr}{x1}{tp p pos:Pos}
def iEn (K:PySem.W.Frag) (ta:TA):TI:=fun σ H R=>ta σ H fun vs H1=>∃a,vs=[.ref a]/\(∃xs,SqT K H1 a xs)/\R (Ite K a) H1
end
theorem Jt {K:PySem.W.Frag}{σ:St}{H:Hp}{ta:TA}{R:It->Hp->Prop}:iEn K ta σ H R=ta σ H (fun vs H1=>∃a,vs=[.ref a]/\(∃xs,SqT K H1 a xs)/\R (Ite K a) H1):=rfl
end L2
namespace L2
open PySem PySem.Spec PyProof.Rows
section
variable {X:Cx}
def Aer (K:PySem.W.Frag):R2:=fun x y H Q=>∃a b xs ys,x= .ref a/\y= .ref b/\SqT K H a xs/\SqT K H b ys/\xs.length+ys.length<=sizeLine/\∀z H',Same H H'->SqT K H' z (xs++ys)->Q (.ref z) H'
theorem K9:OpR X (binaryOp .Add) (Aer X.K):=by
  intro pins s σ H x y v u Q I rx ry h
  obtain⟨a,b,xs,ys,rfl,rfl,ha,hb,hz,q⟩:=h
  by_cases hx:xs=[]
  . subst hx
    cases rx
    cases ry
    obtain⟨its,r1,p1,_⟩:=I.tuple ha
    obtain⟨its2,r2,p2,_⟩:=I.tuple hb
    cases r1
    obtain⟨⟨c1,d1,t1,l1⟩,ho,hc,n,hd⟩:=(show s.heap.IsTuple a ([]:List Value).toArray from p1)
    obtain⟨⟨c2,d2,t2,l2⟩,ho2,hc2,n2,hd2⟩:=(show s.heap.IsTuple b its2.toArray from p2)
    simp only at hc hd hc2 hd2
    subst hc hd hc2 hd2
    exact concat_meets ⟨_,ho,rfl⟩ ⟨_,ho2,rfl⟩ noFill_tuple_add seq_tuple_add PySem.F.slot_tuple_add PySem.F.entry_tuple_add (PySem.F.args_tuple_add_2 _ _)
      (tuple_addW0 a b #[] its2.toArray n n2 d1 d2 l1 l2 rfl) ⟨ho,ho2,⟨.ref b,H,I,rfl,q b H (Same.refl _) hb⟩⟩
  . exact Aaq pins s σ H _ _ v u Q I rx ry ⟨a,b,xs,ys,rfl,rfl,ha,hb,hx,hz,fun e=>q a H (Same.refl _) (by rw [e,List.append_nil];exact ha),fun _ p hp=>q p _ (Same.upd hp _) (.of Ar)⟩
theorem Y9 (hc:X.calm=true):Hy X (.builtin "all") (fun xs H Q=>∃(a:Addr) (bs:List Bool),xs=[.ref a]/\SqL X.K H a (bs.map V.bl)/\Q (.bl (bs.all id)) H):=by
  intro pins s σ H xs us Q I r h
  obtain⟨a,bs,rfl,ha,q⟩:=h
  obtain⟨u,rfl,ru⟩:=vals1 r
  cases ru
  obtain⟨its,rv,p,hz⟩:=I.list ha
  have hl:s.heap.IsList a its.toArray:=p.isList
  have lt:a<s.heap.objs.size:=by
    obtain⟨_,e,_⟩:=hl
    exact Heap.lt_size e
  have ln:its.length=bs.length:=by
    have:=rv.length
    rw [List.length_map]at this
    exact this.symm
  refine call_all_walk (wpAny_pyIter_list hl ?_)
  refine⟨s.heap.objs.size,[s.heap.objs.size,a],[s.heap.objs.size],its.toArray.size,_,_,fun i=>(bs[i]?).getD true,rfl,Walks.list (A:=X.A.in1) (I.ok.hd hc) _ a (Nat.ne_of_lt lt) its.toArray,
    ⟨⟨_,Heap.get?_push_size _ rfl,rfl,rfl⟩,hl.push _⟩,fun i v s' Q' E' hP hQ=> ?_,fun g tk hk=> ?_⟩
  . have hv:its[i]? =some v:=by simpa using hP
    have hi:i<its.length:=(List.getElem?_eq_some_iff.mp hv).1
    have hb:bs[i]? =some bs[i]:=List.getElem?_eq_getElem (by omega)
    obtain⟨w',hw,rw'⟩:=rv.get (show(bs.map V.bl)[i]? =some (V.bl bs[i])by rw [List.getElem?_map,hb];rfl)
    rw [hv]at hw
    cases hw
    cases rw'
    simp only [hb,Option.getD_some]at hQ
    exact wpAny_truthy_bool hQ
  . have e:((List.range its.toArray.size).all fun i=>(bs[i]?).getD true)=bs.all id:=by
      rw [List.size_toArray,ln,Bool.eq_iff_iff,List.all_eq_true,List.all_eq_true]
      constructor
      . intro h x hx
        obtain⟨i,hi,ei⟩:=List.getElem_of_mem hx
        have:=h i (List.mem_range.mpr hi)
        rw [List.getElem?_eq_getElem hi,ei]at this
        exact this
      . intro h i hi
        have hi':=List.mem_range.mp hi
        rw [List.getElem?_eq_getElem hi']
        exact h _ (List.getElem_mem hi')
    rw [e]
    exact⟨.bl _,H,I.kept (t':=tk) fun b o q'=>hk b o (fun hm=>by rw [List.mem_singleton.mp hm]at q';exact Nat.lt_irrefl _ (Heap.lt_size q')) (Heap.get?_push_of_some _ q'),rfl,q⟩
end
open AutoSeq1 (wpAny_loadPart')in
open AutoSeq1 (wpAny_loadPart')in
open AutoSeq1 (wpAny_loadPart')in
section
variable {X:Cx}
theorem Y8 (K:PySem.W.Frag) (h:X.K=K:=by rfl):IxR X (Adf K):=by subst h;exact G9
theorem M5 (K:PySem.W.Frag) (h:X.K=K:=by rfl):IxR X (Aee K):=by subst h;exact Ak
theorem Aa8 (K:PySem.W.Frag) (hu:X.A.units+64<cLine) (h:X.K=K:=by rfl):OpR X (compareOp .NotEq) (Adh K fun b=> !b):=by subst h;exact Acp hu
end
section
variable {X:Cx}
theorem Y6:Hy X (.builtin "isinstance") (fun xs H Q=>∃(a:Addr) (ys:List V) (T:String) (b:Bool),xs=[.ref a,.ty T]/\SqT X.K H a ys/\PySem.W.kitOne X.K (.type "tuple") (.type T)=some b/\Q (.bl b) H):=by
  intro pins s σ H xs us Q I r h
  obtain⟨a,ys,T,b,rfl,ht,hk,q⟩:=h
  obtain⟨u,c,rfl,ru,rc⟩:=vals2 r
  cases rc
  cases ru
  obtain⟨its,rv,p,_⟩:=I.tuple ht
  obtain⟨o,h1,h2,_⟩:=(show s.heap.IsTuple a its.toArray from p)
  exact PySem.W.kia_one PySem.W.kitx_tuple I.kIn ⟨o,h1,h2⟩ hk (fun z=>nomatch z) fun tk=>⟨.bl b,H,I.tok tk,rfl,q⟩
end
section
variable {prog:Program}{w:World}{A:Around}{E:Value->Shared->Prop}{s:Shared}
theorem Xp {t sl:Addr}{ys:Array Value}{vl vu:Value}{lo hi:Option Int}{Q:Value->Shared->Prop} (ht:IsTup s.heap t ys) (hs:s.heap.IsSliceOf sl vl vu .none) (pl:IsPart vl lo) (pu:IsPart vu hi)
    (w1:HT.sIx ys.size 0 lo=0) (w2:HT.sIx ys.size ys.size hi=ys.size) (h:Q (.ref t) s):wpAny (model prog w) A (getItem (.ref t) (.ref sl)) Q E s:=by
  obtain⟨os,eos,cs,ds⟩:=id hs
  have ty:s.TypeIs (.ref sl) "slice":=⟨os,eos,cs⟩
  unfold getItem
  try with_reducible refine(wpAny_holding ?_)
  first | refine(wpAny_bind (wpAny_pure ?_)) | skip
  refine wpAny_bind (wpAny_sequenceKey ht.typeIs (by decide) (?_))
  refine wpAny_bind (wpAny_callSpecial?_slot (name:=Str.ofString "__getitem__") ht.typeIs PyProof.Rows.slot_tuple_getitem (wpAny_call_entry PyProof.Rows.slot_tuple_getitem ht.typeIs entry_tuple_getitem ?_ (args_tuple_getitem _ _)))
  show wpAny _ A.in1 (Builtin.Tuple.tupleItemsOf (.ref t)>>=_) _ _ s
  refine wpAny_bind (tupleItemsOf_ ht (?_))
  refine wpAny_bind (wpAny_typeOf ty ?_)
  rw [if_pos (by decide)]
  refine wpAny_bind (HT.Hv hs pl pu ?_)
  have yes:(((HT.sIx ys.size 0 lo:Nat):Int)==0&&(1:Int)==1&&(HT.sIx ys.size ys.size hi-HT.sIx ys.size 0 lo)==ys.size)=true:=by
    rw [w1,w2]
    simp
  show wpAny _ A.in1 (if(((HT.sIx ys.size 0 lo:Nat):Int)==0&&(1:Int)==1&&(HT.sIx ys.size ys.size hi-HT.sIx ys.size 0 lo)==ys.size)=true then _ else _) _ _ s
  rw [if_pos yes]
  refine wpAny_bind ?_
  unfold Builtin.Tuple.tupleIsExact
  refine wpAny_bind (wpAny_typeOf ht.typeIs (wpAny_pure ?_))
  rw [if_pos (by decide)]
  exact wpAny_bind (wpAny_rule (wpAny_pure ⟨_,rfl,wpAny_pure h⟩))
end
section
variable {X:Cx}
def Afs (K:PySem.W.Frag):V->Option Int->Option Int->Hp->VK->Prop:=fun x lo hi H Q=>∃a xs,x= .ref a/\SqT K H a xs/\∀z H',Same H H'->SqT K H' z (Vc xs lo hi)->Q (.ref z) H'
theorem Mt:SlR X (Afs X.K):=by
  intro pins s σ H x v vl vu lo hi sl Q I rx hs pl pu h
  obtain⟨a,xs,rfl,hx,q⟩:=h
  by_cases hw:HT.sIx xs.length 0 lo=0/\HT.sIx xs.length xs.length hi=xs.length
  . cases rx
    obtain⟨its,r,ht,hz⟩:=I.tuple hx
    have hlen:its.toArray.size=xs.length:=by rw [List.size_toArray];exact r.length.symm
    refine⟨"tuple",_,PyProof.Rows.slot_tuple_getitem.lookup,ht.typeIs,Xp ht hs pl pu (by rw [hlen];exact hw.1) (by rw [hlen];exact hw.2) ⟨.ref a,H,I,rfl,q a H (Same.refl _) ?_⟩⟩
    have e:Vc xs lo hi=xs:=by
      unfold Vc
      rw [hw.1,hw.2,List.drop_zero,Nat.sub_zero,List.take_length]
    rw [e]
    exact hx
  . exact Acq pins s σ H _ v vl vu lo hi sl Q I rx hs pl pu ⟨a,xs,rfl,hx,hw,fun p hp=>q p _ (Same.upd hp _) (.of Ar)⟩
end
end L2
namespace L2
open PySem PySem.Spec PyProof.Rows
theorem Yk (n:Nat):Builtin.Slice.sliceAdjust none none (-1) (n:Int)=((n:Int)-1,-1):=by
  unfold Builtin.Slice.sliceAdjust
  rfl
theorem Aak (n:Nat):Builtin.Slice.slicePlaces ((n:Int)-1) (-1) (-1)=n:=by
  unfold Builtin.Slice.slicePlaces
  have h1:¬(-1:Int)>0:=by omega
  simp only [h1,if_false]
  split
  . first | omega | (simp;done) | (simp;omega)
  . omega
theorem Xh {α β:Type}{f:α->Option β}{g:α->β}:∀ {l:List α},(∀k∈l,f k=some (g k))->l.filterMap f=l.map g
  | [],_=>rfl
  | a::r,h=>by rw [List.filterMap_cons,h a List.mem_cons_self,List.map_cons,Xh fun k hk=>h k (List.mem_cons_of_mem _ hk)]
theorem Vl (xs:List Value):((List.range xs.length).filterMap fun(k:Nat)=>xs.toArray[(((xs.length:Nat):Int)-1+(k:Int)*(-1)).toNat]?)=xs.reverse:=by
  have h:∀k∈List.range xs.length,xs.toArray[(((xs.length:Nat):Int)-1+(k:Int)*(-1)).toNat]? =some (xs.reverse.getD k .none):=fun k hk=>by
    have hk':=List.mem_range.mp hk
    have e:((((xs.length:Nat):Int)-1+(k:Int)*(-1)).toNat)=xs.length-1-k:=by omega
    rw [e,List.getElem?_toArray,List.getD_eq_getElem?_getD,List.getElem?_reverse hk',List.getElem?_eq_getElem (by omega)]
    rfl
  rw [Xh h]
  refine List.ext_getElem (by simp) fun i h1 h2=> ?_
  have hi:i<xs.length:=by simpa using h2
  simp [List.getD_eq_getElem?_getD,hi]
section
variable {prog:Program}{w:World}{A:Around}{E:Value->Shared->Prop}{s:Shared}
theorem Aah {t sl:Addr}{ys:List Value}{tk:Tok}{Q:Value->Shared->Prop} (ht:IsTup s.heap t ys.toArray) (hs:s.heap.IsSliceOf sl .none .none (.int (-1) tk)) (hz:ys.length<=sizeLine)
    (h:Q (.ref s.heap.objs.size) { s with heap:=s.heap.push { cls:= .type "tuple",data:= .seq ys.reverse.toArray}}):wpAny (model prog w) A (getItem (.ref t) (.ref sl)) Q E s:=by
  obtain⟨os,eos,cs,ds⟩:=id hs
  have ty:s.TypeIs (.ref sl) "slice":=⟨os,eos,cs⟩
  have fit:sizeOk (.seq ys.reverse.toArray):=by
    show ys.reverse.toArray.size<=sizeLine
    simpa using hz
  unfold getItem
  try with_reducible refine(wpAny_holding ?_)
  first | refine(wpAny_bind (wpAny_pure ?_)) | skip
  refine wpAny_bind (wpAny_sequenceKey ht.typeIs (by decide) (?_))
  refine wpAny_bind (wpAny_callSpecial?_slot (name:=Str.ofString "__getitem__") ht.typeIs PyProof.Rows.slot_tuple_getitem (wpAny_call_entry PyProof.Rows.slot_tuple_getitem ht.typeIs entry_tuple_getitem ?_ (args_tuple_getitem _ _)))
  show wpAny _ A.in1 (Builtin.Tuple.tupleItemsOf (.ref t)>>=_) _ _ s
  refine wpAny_bind (tupleItemsOf_ ht (?_))
  refine wpAny_bind (wpAny_typeOf ty ?_)
  rw [if_pos (by decide)]
  refine wpAny_bind (m:=Builtin.Slice.sliceApplied (.ref sl) (pure ((ys.toArray.size:Nat):Int))) ?_
  unfold Builtin.Slice.sliceApplied Builtin.Slice.sliceFields
  refine wpAny_bind (wpAny_bind (wpAny_field eos ds (x:= .none) rfl (wpAny_bind (wpAny_field eos ds (x:= .none) rfl (wpAny_bind (wpAny_field eos ds (x:= .int (-1) tk) rfl (wpAny_pure ?_)))))))
  refine wpAny_bind (slicePart_int ?_)
  show wpAny _ A.in1 (if((-1:Int)==0)=true then _ else _) _ _ s
  rw [if_neg (by decide)]
  refine wpAny_bind (slicePart_none (wpAny_bind (slicePart_none (wpAny_bind (wpAny_pure ?_)))))
  show wpAny _ A.in1 (match Builtin.Slice.sliceAdjust none none (-1) ((ys.toArray.size:Nat):Int)with | (lo,hi)=>pure (lo,(-1:Int),Builtin.Slice.slicePlaces lo hi (-1))) _ _ s
  rw [Yk]
  show wpAny _ A.in1 (pure (((ys.toArray.size:Nat):Int)-1,(-1:Int),Builtin.Slice.slicePlaces (((ys.toArray.size:Nat):Int)-1) (-1) (-1))) _ _ s
  rw [Aak]
  refine wpAny_pure ?_
  dsimp only
  rw [if_neg (by simp)]
  have e:(List.filterMap (fun(k:Nat)=>ys.toArray[(((ys.toArray.size:Nat):Int)-1+(k:Int)*(-1)).toNat]?) (List.range ys.toArray.size))=ys.reverse:=Vl ys
  rw [e]
  exact wpAny_bind (m:=Builtin.Tuple.tupleExact _) (wpAny_newObj_type (wpAny_pure ⟨_,rfl,wpAny_pure h⟩) fit)
end
section
variable {X:Cx}{e st:Expr}{te tst:TE}{pos p2:Pos}
def Aef (K:PySem.W.Frag) (te tst:TE):TE:=fun σ H Q=>te σ H fun x H1=>tst σ H1 fun y H2=>∃a xs,x= .ref a/\y= .int (-1)/\SqT K H2 a xs/\∀p,H2 p=none->Q (.ref p) (upd H2 p (.tup xs.reverse))
theorem Vals.rev {xs:List V}{us:List Value} (h:Vals xs us):Vals xs.reverse us.reverse:=by
  induction h with
  | nil=>exact .nil
  | cons r _ ih=>
    rw [List.reverse_cons,List.reverse_cons]
    exact ih.append (.cons r .nil)
theorem Uc (he:PE X e te) (hst:PE X st tst):PE X (.Subscript e (.Slice none none (some st) p2) pos) (Aef X.K te tst):=by
  intro pins s σ H Q I h
  refine Subscript_ (thn (he pins s σ H _ I h) fun v s1 ⟨x,H1,I1,r1,q1⟩=> ?_)
  refine wpAny_Slice ?_
  rw [evalPart_none]
  refine wpAny_pure (wpAny_pure ?_)
  rw [evalPart_some]
  refine thn (hst pins s1 σ H1 _ I1 q1) fun u s3 ⟨y,H3,I3,r3,q3⟩=> ?_
  obtain⟨a,xs,rfl,rfl,hq,q⟩:=q3
  obtain⟨tk,rfl⟩:=r3
  cases r1
  have I4:Inv X pins σ H3 { s3 with heap:=s3.heap.push { cls:= .type "slice",data:= .fields #[.none,.none,.int (-1) tk]}}:=I3.kept (t':=s3.toks) fun b ob q=>Heap.get?_push_of_some _ q
  obtain⟨its,r,ht,hz⟩:=I4.tuple hq
  show wpAny (model X.prog X.w) X.A (subscriptTail e (.Slice none none (some st) p2) (.ref a) (.ref s3.heap.objs.size)) (EP X pins σ Q) X.xe { s3 with heap:=s3.heap.push { cls:= .type "slice",data:= .fields #[.none,.none,.int (-1) tk]}}
  refine tail_any (ops:=[.ref a,.ref s3.heap.objs.size]) ht.typeIs PyProof.Rows.slot_tuple_getitem.lookup (Aah (ys:=its) ht ⟨_,Heap.get?_push_size _ rfl,rfl,rfl⟩ (by rw [<-r.length];exact hz) ?_) (by with_unfolding_all rfl)
  exact⟨.ref _,_,I4.laid (t':=s3.toks) (o:= .tup xs.reverse) (fun b ob q=>Heap.get?_push_of_some _ q) (Nat.le_refl _) ⟨by rw [List.length_reverse];exact hz,_,r.rev,IsTup.new _ _⟩,rfl,q _ I4.fresh⟩
theorem Jz {K:PySem.W.Frag}{σ:St}{H:Hp}{Q:VK}:Aef K te tst σ H Q=te σ H (fun x H1=>tst σ H1 fun y H2=>∃a xs,x= .ref a/\y= .int (-1)/\SqT K H2 a xs/\∀p,H2 p=none->Q (.ref p) (upd H2 p (.tup xs.reverse))):=rfl
end
theorem Ec {H1:Hp}{p:Addr}{cσ:St}{g:TG}{tt:TT}{te:TE}{Q:VK}{α:Type}{es:List α}{inj:α->V}{J:It} (pf:α->Bool) (f:α->V) (hz:es.length<=sizeLine) (hp:H1 p=none) (hJ:Wk J H1 es inj)
    (step:∀(e:α) (H':Hp) (R:VK) (RF:Hp->Prop),e∈es->Same H1 H'->(pf e=true->∀H6,Same H' H6->R (f e) H6)->(pf e=false->∀H6,Same H' H6->RF H6)->g (inj e) cσ H' fun σ4 H4=>Kp cσ σ4/\tt σ4 H4 fun b H5=>if b=true then te σ4 H5 R else RF H5)
    (done:∀H',Same H1 H'->H' p=some (.lst ((es.filter pf).map f))->Q (.ref p) H'):cIn J cσ g tt te Q H1 p:=by
  have su:∀ {H':Hp}{o:HO},Same H1 H'->Same H1 (upd H' p o):=fun {H' o} s b u e=>by
    rw [Bs (Cg e hp)]
    exact s b u e
  refine⟨fun i m acc H'=>m=es.length-i/\i<=es.length/\acc=((es.take i).filter pf).map f/\H' p=some (.lst acc)/\Same H1 H',⟨es.length,by simp,Nat.zero_le _,by simp,Ar,su (Same.refl _)⟩,?_⟩
  rintro i m acc H' ⟨rfl,hi,rfl,hH,s⟩
  cases he:es[i]? with
  | none=>
    have e:i=es.length:=Nat.le_antisymm hi (List.getElem?_eq_none_iff.mp he)
    subst e
    rw [List.take_length]at hH
    exact .inl ⟨(hJ _ _ s).1 he,done _ s hH⟩
  | some e=>
    obtain⟨go,yl⟩:=(hJ _ _ s).2 e he
    refine .inr ⟨go,fun x H3 y=> ?_⟩
    obtain⟨rfl,rfl⟩:=yl x H3 y
    obtain⟨hlt,_⟩:=List.getElem?_eq_some_iff.mp he
    have tk:es.take (i+1)=es.take i++ [e]:=by rw [List.take_succ,he];rfl
    have fl:((es.take i).filter pf).length<=i:=Nat.le_trans (List.length_filter_le _ _) (by rw [List.length_take];omega)
    refine step e H3 _ _ (List.mem_of_getElem? he) s (fun hpf H6 s6=>⟨s6 _ _ hH,by rw [List.length_map];omega,_,by omega,rfl,hlt,?_,Ar,su (s.trans s6)⟩) (fun hpf H6 s6=>⟨_,by omega,rfl,hlt,?_,?_,s.trans s6⟩)
    . rw [tk,List.filter_append,List.map_append]
      simp [hpf]
    . rw [tk,List.filter_append,List.map_append]
      simp [hpf]
    . exact s6 _ _ hH
end L2
namespace L2
open PySem PySem.Spec PyProof.Rows
set_option maxRecDepth 100000
open AutoSeq1 (wpAny_loadPart')in
def Itv (K:PySem.W.Frag) (a:Addr) (n:Nat):It:=
  ⟨fun i H=>∃xs x,SqT K H a xs/\xs.length=n/\xs.reverse[i]? =some x,fun i H x H'=>H'=H/\∀xs,SqT K H a xs->xs.reverse[i]? =some x,fun i _=>n<=i⟩
section
variable {X:Cx}{a:Expr}{ta:TA}{tg:Expr}{p pos:Pos}
def iRv (K:PySem.W.Frag) (ta:TA):TI:=fun σ H R=>ta σ H fun vs H1=>∃a,vs=[.ref a]/\∃xs,SqT K H1 a xs/\R (Itv K a xs.length) H1
end
theorem Js {K:PySem.W.Frag}{σ:St}{H:Hp}{ta:TA}{R:It->Hp->Prop}:iRv K ta σ H R=ta σ H (fun vs H1=>∃a,vs=[.ref a]/\∃xs,SqT K H1 a xs/\R (Itv K a xs.length) H1):=rfl
theorem Lf {X:Cx}{es:List Expr}{k:Nat}{pos:Pos}{t:TGs} (K:PySem.W.Frag) (n:Nat) (hK:X.K=K) (hc:X.calm=true) (h:PGs X es t)
    (hn:(assignEach es X.env).length=n:=by rfl) (hst:(assignEach es X.env).findIdx? (·.1)=none:=by rfl):PG X (.Tuple es k pos) (Acu K n t):=by
  subst hK
  exact Cr hc h hn hst
end L2
namespace L2
open PySem PySem.Spec PyProof.Rows
set_option maxRecDepth 100000
theorem Dl.has {P:Program}{w:World}{H:Hp}{h:Heap}{a:Addr}{o:HO} (x:Dl P w H h a o):∃ob,h.get? a=some ob:=by
  cases o with
  | lst xs=>obtain⟨_,_,_,_,e⟩:=x;exact⟨_,e⟩
  | tup xs=>obtain⟨_,_,_,ob,e,_⟩:=x;exact⟨_,e⟩
  | dK kvs=>obtain⟨_,_,_,_,o,_,_,e,_⟩:=x;exact⟨_,e⟩
  | dT kvs=>obtain⟨_,_,_,_,o,_,_,e,_⟩:=x;exact⟨_,e⟩
  | set S n=>obtain⟨o,_,_,_,e,_⟩:=x;exact⟨_,e⟩
  | ins C dx fs=>obtain⟨_,_,_,e,_⟩:=x;exact⟨_,e⟩
  | own y=>exact x
  | xd fs=>obtain⟨_,⟨_,_,_,e,_⟩,_⟩:=x;exact⟨_,e⟩
  | rng lo hi=>obtain⟨_,_,_,e⟩:=x;exact⟨_,e⟩
  | frz ob u=>obtain⟨e,_⟩:=x;exact⟨_,e⟩
  | tbl ps=>exact⟨_,show h.get? a=some _ from x⟩
  | met f y=>exact⟨_,show h.get? a=some _ from x⟩
  | ext φ=>exact x.2.1
structure FX (P:Program) (w:World) (fr:List Addr) (H:Hp) (h0:Heap) (B:Heap) (H':Hp) (h:Heap):Prop where
  stay:B.StaysIn h
  k1:∀b o,h0.get? b=some o->b∉fr->∃o',B.get? b=some o'/\(H b=none->o'=o)
  k2:∀b u,H' b=some u->∃o,B.get? b=some o
  fr0:∀b∈fr,H b=none/\∃o,h0.get? b=some o/\∀vs,o.data≠ .fields vs
  un:Un fr [] H H' h0 h
  hok:HOk P w H' h
theorem FX.step {P:Program}{w:World}{fr:List Addr}{H H':Hp}{h0 B h h':Heap} (x:FX P w fr H h0 B H' h) (k:B.StaysIn h') (u:h.UpToSlots h'):FX P w fr H h0 B H' h':=by
  have slot:∀b o,h0.get? b=some o->H b=none->b∈fr->∃sl,h'.get? b=some { o with slots:=sl}:=fun b o e n hb=>by
    obtain⟨sl,e1⟩:=x.un.slot b o e n hb (by simp)
    obtain⟨_,o2,e2,hf⟩:=x.fr0 b hb
    rw [e]at e2;cases e2
    obtain⟨sl',e3⟩:=u b _ e1 hf
    exact⟨sl',e3⟩
  refine⟨k,x.k1,x.k2,x.fr0,⟨fun b o e n hb _=> ?_,fun b o e n hb _=>slot b o e n hb,x.un.free,fun b o e _=> ?_,x.un.tups,x.un.frzs,x.un.tbls⟩,fun b v e=>(x.hok b v e).stay (fun c z hc q=> ?_) (fun _ q=>q) fun _ _ q=>q⟩
  . obtain⟨o',e1,e2⟩:=x.k1 b o e hb
    rw [e2 n]at e1
    exact k b o e1
  . by_cases hb:b∈fr
    . obtain⟨sl,e1⟩:=slot b o e (x.fr0 b hb).1 hb
      exact⟨_,e1⟩
    . obtain⟨o',e1,_⟩:=x.k1 b o e hb
      exact⟨o',k b o' e1⟩
  . have t:∃o,B.get? c=some o:=by
      rcases hc with z | z
      . rw [z];exact x.k2 _ _ e
      . exact x.k2 _ _ z
    obtain⟨o,eo⟩:=t
    have:=x.stay c o eo
    rw [q]at this;cases this
    exact k c _ eo
section
variable {X:Cx}{pins:List (Addr × Obj)}{σ:St}{H H':Hp}{s s':Shared}{B:Heap}
theorem Inv.old (I:Inv X pins σ H s) {b:Addr}{o:Obj} (e:X.s₀.heap.get? b=some o) (hb:b∉X.fs):b∉frs X.stack:=fun z=>by
  rcases List.mem_cons.mp (I.stkSub b z)with q | q
  . exact absurd (Nat.lt_of_lt_of_le (Heap.lt_size e) I.ok.above) (by rw [q];exact Nat.lt_irrefl _)
  . exact hb q
theorem Inv.fr0 (I:Inv X pins σ H s):∀b∈X.fs,X.H₀ b=none/\∃o,X.s₀.heap.get? b=some o/\∀vs,o.data≠ .fields vs:=fun b hb=>by
  obtain⟨_,o,ho,hd⟩:=I.ok.funs.mem hb
  exact⟨I.ok.frf b hb,o,ho,hd⟩
theorem Inv.one (I:Inv X pins σ H s) (hex:X.ex=[]) {b:Addr}{o:Obj} (e:X.s₀.heap.get? b=some o) (hb:b∉X.fs):∃o',s.heap.get? b=some o'/\(X.H₀ b=none->o'=o/\H b=none):=by
  by_cases n:X.H₀ b=none
  . exact⟨o,I.base.keep b o e n hb (by rw [hex];simp),fun _=>⟨rfl,I.base.free b o e n (by rw [hex];simp)⟩⟩
  . obtain⟨o',e1⟩:=I.base.there b o e (by rw [hex];simp)
    exact⟨o',e1,fun z=>absurd z n⟩
theorem Inv.fx (I:Inv X pins σ H s) (hex:X.ex=[]):FX X.prog X.w X.fs X.H₀ X.s₀.heap (PySem.W.hideAll s.heap (frs X.stack)) H s.heap:=by
  refine⟨fun b o q=>PySem.W.of_hideAll _ q,fun b o e hb=> ?_,fun b u e=> ?_,I.fr0,hex▸I.base,I.hok⟩
  . obtain⟨o',e1,e2⟩:=I.one hex e hb
    exact⟨o',PySem.W.hideAll_get _ e1 (I.old e hb),fun n=>(e2 n).1⟩
  . obtain⟨o,eo⟩:=(I.hok b u e).has
    exact⟨o,PySem.W.hideAll_get _ eo fun z=>by have:=I.stkFree b z;rw [e]at this;cases this⟩
theorem Inv.fxOn (I:Inv X pins σ H s) (hex:X.ex=[]) (os:s'.os=s.os) (bare:AllBare s'.gens) (x:FX X.prog X.w (frs X.stack) H s.heap B H' s'.heap):FX X.prog X.w X.fs X.H₀ X.s₀.heap B H' s'.heap:=by
  have J:Inv X pins σ H' s':=I.call' (ch:=[]) os x.un x.hok bare fun b z=>absurd z (by simp)
  refine⟨x.stay,fun b o e hb=> ?_,x.k2,I.fr0,hex▸J.base,x.hok⟩
  obtain⟨o1,e1,n1⟩:=I.one hex e hb
  obtain⟨o',e2,n2⟩:=x.k1 b o1 e1 (I.old e hb)
  exact⟨o',e2,fun n=>(n2 (n1 n).2).trans (n1 n).1⟩
end
def CXE (P:Program) (w:World):CXT:=fun outer H s E e s'=>∃(x C:Addr) (a0:Value) (B:Heap) (H':Hp),e= .ref x/\s'.os=s.os/\AllBare s'.gens/\Heap.FlyingW B outer x (.ref C) a0 s'.heap/\FX P w (frs outer) H s.heap B H' s'.heap/\E (.ref C) none H'
abbrev VE:List Value:=[.type "ValueError",.type "Exception",.type "BaseException",.type "object"]
def Aba (K:PySem.W.Frag) (C:Addr):Prop:=PySem.W.excIn K C VE "ValueError.__new__"=true
def cA (K:PySem.W.Frag) (x:Str):Addr:=match PySem.W.nsIn K mainGlobals x with
  | some (some (.ref C))=>C
  | _=>0
theorem Ae4 {K:PySem.W.Frag}{x:Str}{C:Addr} (e:PySem.W.nsIn K mainGlobals x=some (some (.ref C))):cA K x=C:=by
  unfold cA
  rw [e]
def Afq (h:Heap) (C:Addr):Prop:=∃bm N nm q bs hdct sn sub ab col dd k0 k1 k2 k3 k5 mN,h.get? C=some (excClassObj nm q C N bs bm hdct sn sub ab col dd k0 k1 k2 k3 k5 "ValueError.__new__")/\h.Ns N mN/\mN "__init__"=none/\OwnTail h VE bm
theorem Aba.obj {K:PySem.W.Frag}{C:Addr}{h:Heap} (q:Aba K C) (X:K.In h):Afq h C:=by
  unfold Aba PySem.W.excIn at q
  cases e:K.lookup C with
  | none=>rw [e]at q;cases q
  | some ob=>
    rw [e]at q
    have eX:=X _ _ e
    split at q
    . rename_i dd cd sl z
      cases z
      split at q
      . rename_i C1 bm a0 a1 a2 a3 n a5 hm hs
        rw [Bool.and_eq_true,Bool.and_eq_true,Bool.and_eq_true,Bool.and_eq_true,Bool.and_eq_true]at q
        obtain⟨⟨⟨⟨⟨z1,z2⟩,z3⟩,z4⟩,z5⟩,z6⟩:=q
        have y1:C1=C:=by simpa using z1
        have y2:n="ValueError.__new__":=by simpa using z2
        have y3:cd.hasDel=false:=by simpa using z3
        have y6:PySem.W.nsIn K cd.ns "__init__"=some none:=by simpa using z6
        obtain⟨c1,c2,c3,c4,c5,c6,c7,c8,c9,c10,c11⟩:=cd
        have hl:sl= #[a0,a1,a2,a3,some (.builtin n),a5]:=by
          cases sl
          exact congrArg Array.mk hs
        dsimp only at hm y3 y6 z5
        rw [hl,hm,y1,y2,y3]at eX
        exact⟨bm,c4,c1,c5,c2,c6,c7,c8,c9,c10,dd,a0,a1,a2,a3,a5,_,eX,Heap.Ns.of_isNs (PySem.W.isNs_of_in X z5),PySem.W.nsMap_none_of_in X z5 y6,PySem.W.tail_of_in X z4⟩
      . cases q
    . cases q
section
variable {P:Program}{w:World}{K:PySem.W.Frag}{mg:Str->Option Value}{base:Heap}{N:List Str}{qual:Str}{scope:Scope}{f:Addr}{cd:Value}{A:Around}{outer:List Env}{s0:Shared}{H0:Hp}{E:XK}
theorem Aeb:Passes (CXE P w) (Nf (CXE P w) P w K mg base N qual scope f cd A outer s0 H0 E) E:=by
  intro pins σ H s e s' I h
  obtain⟨x,C,a0,B,H',rfl,os,bare,fl,fx,q⟩:=h
  show wpAny _ _ (leaving _ (.ref x)) _ _ s'
  refine wpAny_leaves_onW I.ok.frames rfl fl fun h' fl' up=> ?_
  exact⟨x,C,a0,B,H',rfl,os.trans I.os,bare,fl',(I.fxOn rfl os bare fx).step fl'.1 up,q⟩
def Vz (C:Addr) (E:XK) (t:TA):TS:=fun _ σ H=>t σ H fun vs H1=>vs.length<=sizeLine/\E (.ref C) none H1
theorem Gy {C:Addr}{x:Str}{np cpos pos:Pos}{e:Expr}{es:List Expr}{t:TA} (hq:Aba K C) (hm:mg x=some (.ref C))
    (ha:PA (Nf (CXE P w) P w K mg base N qual scope f cd A outer s0 H0 E) (e::es) t) (hg:Gl (Nf (CXE P w) P w K mg base N qual scope f cd A outer s0 H0 E) x:=by rfl) (hdb:(x==("__debug__":Str))=false:=by decide)
    (he:starEach (e::es) (envOfC qual scope s0.heap.objs.size f cd)=(false,eval e (envOfC qual scope s0.heap.objs.size f cd))::starEach es (envOfC qual scope s0.heap.objs.size f cd):=by rfl)
    (hpl:(backTo cpos (starEach es (envOfC qual scope s0.heap.objs.size f cd))).any (·.1)=false:=by rfl):
    PS (Nf (CXE P w) P w K mg base N qual scope f cd A outer s0 H0 E) (.Raise (some (.Call (.Name x np) (e::es) [] cpos)) none pos) (Vz C E t):=by
  intro pins s σ H D I h
  obtain⟨bm,N',nm,q,bs,hdct,sn,sub,ab,col,dd,k0,k1,k2,k3,k5,mN,hC,hN,hni,TL⟩:=hq.obj I.mod.kin
  refine wpAny_Raise_call_subT (nm:=nm) (q:=q) (C:=C) (N:=N') (bs:=bs) (bm:=bm) (hdct:=hdct) (sn:=sn) (sub:=sub) (ab:=ab) (col:=col) (dd:=dd) (k0:=k0) (k1:=k1) (k2:=k2) (k3:=k3) (k5:=k5) PySem.F.excBase_ValueError (TL.hasType (by decide)) (I.ok.hd rfl) (by
    show(backTo cpos (starEach (e::es) (envOfC qual scope s0.heap.objs.size f cd))).any (·.1)=false
    rw [he]
    show(false||(backTo cpos (starEach es _)).any (·.1))=false
    rw [hpl];rfl) hni (Sd I hg hm ⟨rfl,?_⟩ hdb)
  have ha':=ha cpos pins s σ H _ I h
  show wpAny _ _ (evalArgs (.ref C) true (backTo cpos (starEach (e::es) (envOfC qual scope s0.heap.objs.size f cd))) []) _ _ s
  have ha2:wpAny (model P w) (A.deeper (envOfC qual scope s0.heap.objs.size f cd)) (spliced (backTo cpos (starEach (e::es) (envOfC qual scope s0.heap.objs.size f cd)))) _ _ s:=ha'
  rw [he]at ha2 ⊢
  refine Calls.evalArgs_plain (thn ha2 fun us s2 ⟨vs,H2,I2,r,z,q2⟩=>⟨rfl,by rw [<-r.length];exact z,I2.bk _ _ hC,hN.keeps I2.bk,TL.keeps I2.bk,fun h' x' hm'=> ?_⟩)
  show wpAny _ _ (leaving _ (.ref x')) _ _ _
  refine wpAny_leaves_madeW (base:=PySem.W.hideAll s2.heap (frs (envOfC qual scope s0.heap.objs.size f cd::outer))) (h:=s2.heap) I2.ok.frames rfl (fun b o q=>PySem.W.of_hideAll _ q) (PySem.W.funFrames_hide I2.stack fun env he b hb=>List.mem_filterMap.mpr ⟨env,he,hb⟩) hm' fun h'' t' fl _ _ up=> ?_
  exact⟨x',C,.ref t',_,H2,rfl,I2.os,I2.bare,fl,(I2.fx rfl).step fl.1 ((Heap.UpToSlots.of_keeps hm'.keeps).trans up),q2⟩
end
theorem Cz {C:Addr}{E:XK}{t:TA}{D:Ends}{σ:St}{H:Hp}:Vz C E t D σ H=t σ H (fun vs H1=>vs.length<=sizeLine/\E (.ref C) none H1):=rfl
theorem PS.nox {X:Cx}{st:Stmt}{t:TS} (h:PS X.nox st t):PS X st t:=fun pins s σ H D I hw=>
  wpAny_mono (h pins s σ H D (I.wish _) hw) (fun _ _ q=>q.unwish) fun _ _ z=>False.elim z
theorem Fun.okE {P:Program}{w:World}{K:PySem.W.Frag}{mg:Str->Option Value}{base:Heap}{x qual:Str}{st:Stmt}{f:Addr}{fd:FuncData}{N ps:List Str}{k:Nat}{sp:Sp} (F:Fun K x qual st f fd) (S:Ba N ps (Ag st)) (len:∀vs H Q E,sp vs H Q E->vs.length=ps.length)
    (hbody:∀(cdv:Value) (A:Around) (outer:List Env) (s:Shared) (H:Hp) (vs:List V) (Q:VK) (E:XK),K4 k (A.deeper (envOfC qual (Ag st) s.heap.objs.size f cdv))->sp vs H Q E->
      ∃t,PSs (Nf (CXE P w) P w K mg base N qual (Ag st) f cdv A outer s H E) (Hg st) t/\t { nx:=fun _ H'=>Q .non H',rt:=Q} (start N vs) H):Oe P w K mg base (CXE P w) (k+1) f fd ps sp:=by
  obtain⟨oc,od,kV,doc,pm,an,cdv,ct,osl,rfl,lk,hcd⟩:=F.ex
  exact Ace lk hcd S len fun A outer s H vs Q E hr hsp=>hbody cdv A outer s H vs Q E hr hsp
def X4 (P:Program) (w:World) (K:PySem.W.Frag) (mg:Str->Option Value) (base:Heap) (k:Nat) (x:Str) (ps:List Str) (sp:Sp):Prop:=
  ∃f fd,Oe P w K mg base (CXE P w) k f fd ps sp/\mg x=some (.ref f)/\PySem.W.keepIn K (.ref f)=true/\Binds K fd ps []
theorem Df.calE {P:Program}{w:World}{K:PySem.W.Frag}{mg:Str->Option Value}{base:Heap}{k:Nat}{x:Str}{st:Stmt}{ps:List Str}{f:Addr}{fd:FuncData}{sp:Sp}
    (F:Df K mg x st ps f fd) (G:Oe P w K mg base (CXE P w) k f fd ps sp):X4 P w K mg base k x ps sp:=⟨f,fd,G,F.at',F.fn.kp,F.bd⟩
theorem X4.calm {P:Program}{w:World}{K:PySem.W.Frag}{mg:Str->Option Value}{base:Heap}{k:Nat}{x:Str}{ps:List Str}{sp sp':Sp}
    (C:X4 P w K mg base k x ps sp) (h:∀vs H Q E,sp' vs H Q E->sp vs H Q E0):Cal P w K mg base k x ps sp':=by
  obtain⟨f,fd,G,a,b,c⟩:=C
  refine⟨f,fd,⟨fun vs H Q E z=>G.len vs H Q E0 (h _ _ _ _ z),fun A outer s H args us vs Q E hr he hb hv hs=> ?_⟩,a,b,c⟩
  refine codeAny_mono (G.run A outer s H args us vs Q E0 hr he hb hv (h _ _ _ _ hs)) fun r s' q=> ?_
  cases r with
  | ok fl=>cases fl<;>exact q
  | error e=>
    obtain⟨_,_,_,_,_,_,_,_,_,_,z⟩:=q
    exact z.elim
section
variable {P:Program}{w:World}{K:PySem.W.Frag}{mg:Str->Option Value}{base:Heap}{N:List Str}{qual:Str}{scope:Scope}{f:Addr}{cd:Value}{A:Around}{outer:List Env}{s0:Shared}{H0:Hp}{E:XK}
theorem Gu {k:Nat}{x:Str}{ps:List Str}{sp:Sp}{p pos:Pos}{e:Expr}{es:List Expr}{t:TA}
    (C:X4 P w K mg base k x ps sp) (hr:K4 k (A.deeper (envOfC qual scope s0.heap.objs.size f cd))) (ha:PA (Nf (CXE P w) P w K mg base N qual scope f cd A outer s0 H0 E) (e::es) t) (hg:Gl (Nf (CXE P w) P w K mg base N qual scope f cd A outer s0 H0 E) x:=by rfl) (hdb:(x==("__debug__":Str))=false:=by decide)
    (he:starEach (e::es) (envOfC qual scope s0.heap.objs.size f cd)=(false,eval e (envOfC qual scope s0.heap.objs.size f cd))::starEach es (envOfC qual scope s0.heap.objs.size f cd):=by rfl)
    (hpl:(backTo pos (starEach es (envOfC qual scope s0.heap.objs.size f cd))).any (·.1)=false:=by rfl):
    PE (Nf (CXE P w) P w K mg base N qual scope f cd A outer s0 H0 E) (.Call (.Name x p) (e::es) [] pos) (Ra sp [] E t):=by
  obtain⟨f',fd,G,a,b,c⟩:=C
  exact Xd (X:=Nf (CXE P w) P w K mg base N qual scope f cd A outer s0 H0 E) G hr hg a b c .nil Aeb ha hdb he hpl
end
end L2
namespace L2
open PySem PySem.Spec PyProof.Rows
set_option maxRecDepth 100000
def Ab3 (sp:Sp) (C:Addr) (g:V->St->St) (i:Nat) (ta:TA) (ts:Addr->Obj->TS):TS:=fun D σ H=>ta σ H fun vs H1=>sp vs H1 (fun v H2=>D.nx (g v σ) H2)
  (fun c _ H2=>c= .ref C/\∀x oe,oe.cls= .ref C->ts x oe { nx:=fun σ' H'=>D.nx (σ'.set i none) H',rt:=D.rt,bk:=fun σ' H'=>D.bk (σ'.set i none) H',ct:=fun σ' H'=>D.ct (σ'.set i none) H'} (σ.set i (some (.ref x))) H2)
def Afl (sp:Sp) (C:Addr) (g:V->St->St) (ta:TA) (ts:Addr->Obj->TS):TS:=fun D σ H=>ta σ H fun vs H1=>sp vs H1 (fun v H2=>D.nx (g v σ) H2)
  (fun c _ H2=>c= .ref C/\∀x oe,oe.cls= .ref C->ts x oe D σ H2)
theorem Cv {sp:Sp}{C:Addr}{g:V->St->St}{i:Nat}{ta:TA}{ts:Addr->Obj->TS}{D:Ends}{σ:St}{H:Hp}:Ab3 sp C g i ta ts D σ H=ta σ H (fun vs H1=>sp vs H1 (fun v H2=>D.nx (g v σ) H2)
  (fun c _ H2=>c= .ref C/\∀x oe,oe.cls= .ref C->ts x oe { nx:=fun σ' H'=>D.nx (σ'.set i none) H',rt:=D.rt,bk:=fun σ' H'=>D.bk (σ'.set i none) H',ct:=fun σ' H'=>D.ct (σ'.set i none) H'} (σ.set i (some (.ref x))) H2)):=rfl
theorem Jy {sp:Sp}{C:Addr}{g:V->St->St}{ta:TA}{ts:Addr->Obj->TS}{D:Ends}{σ:St}{H:Hp}:Afl sp C g ta ts D σ H=ta σ H (fun vs H1=>sp vs H1 (fun v H2=>D.nx (g v σ) H2)
  (fun c _ H2=>c= .ref C/\∀x oe,oe.cls= .ref C->ts x oe D σ H2)):=rfl
end L2
namespace L2
open PySem PySem.Spec PyProof.Rows
set_option maxRecDepth 100000
structure Afa (K:PySem.W.Frag) (C:Addr):Prop where
  ga:PySem.W.findIn K (.ref C) "__getattribute__"=some (some (.builtin "BaseException.__getattribute__"))
  gn:PySem.W.findIn K (.ref C) "__getattr__"=some none
  cl:PySem.W.findIn K (.ref C) "__class__"=some (some (.builtin "object.__class__"))
  ob:PySem.W.mroIn K C (.type "object")=some true
  be:PySem.W.mroIn K C (.type "BaseException")=some true
theorem Afa.is {K:PySem.W.Frag}{C:Addr} (Z:Afa K C):(PySem.W.clsIn K C).isSome=true:=by
  obtain⟨cd,a,_⟩:=Option.bind_eq_some_iff.mp Z.ob
  rw [a];rfl
theorem nw {H H':Hp}{p:Addr}{o:HO} (hp:H p=none) (e:upd H p o=H'):Same H H'/\H' p=some o:=by
  subst e
  exact⟨Same.upd hp _,Ar⟩
end L2
namespace L2
open PySem PySem.Spec PyProof.Rows
def Dy:Expr->Bool
  | .Starred _ _=>false
  | _=>true
theorem K5 {e:Expr}{es:List Expr}{env:Env} (h:Dy e=true):starEach (e::es) env=(false,eval e env)::starEach es env:=by
  cases e<;>first | rfl | cases h
theorem Ms {env:Env}{pos:Pos}:∀ {es:List Expr},es.all Dy=true->(backTo pos (starEach es env)).any (·.1)=false
  | [],_=>rfl
  | e::es,h=>by
    rw [List.all_cons,Bool.and_eq_true]at h
    rw [K5 h.1]
    have ih:=Ms (env:=env) (pos:=pos) h.2
    unfold backTo at ih ⊢
    rw [List.map_cons,List.any_cons,ih]
    rfl
section
variable {X:Cx}{e:Expr}{es:List Expr}{te:TE}{t:TA}{x:Str}{p pos:Pos}{id T:String}{r:List V->Hp->VK->Prop}{k:Nat}{ps:List Str}{sp:Sp}
theorem Aa (ha:PE X e te) (hr:PA X es t) (h:Dy e=true:=by rfl):PA X (e::es) (X8 te t):=Aal ha hr (K5 h)
theorem Bo (hc:Hy X (.builtin id) r) (hg:Gl X x) (hm:X.mg x=none) (hv:bootBuiltins x=some (.builtin id)) (ha:PA X (e::es) t) (h1:Dy e=true:=by rfl) (h2:es.all Dy=true:=by rfl) (hn:x≠"__name__":=by decide) (hdb:(x==("__debug__":Str))=false:=by decide):
    PE X (.Call (.Name x p) (e::es) [] pos) (tCB r t):=Yj hc hg hm hv ha hn hdb (K5 h1) (Ms h2)
theorem Gs (hc:Hy X (.type T) r) (hg:Gl X x) (hm:X.mg x=none) (hv:bootBuiltins x=some (.type T)) (ha:PA X (e::es) t) (h1:Dy e=true:=by rfl) (h2:es.all Dy=true:=by rfl) (hn:x≠"__name__":=by decide) (hdb:(x==("__debug__":Str))=false:=by decide):
    PE X (.Call (.Name x p) (e::es) [] pos) (tCB r t):=V5 hc hg hm hv ha hn hdb (K5 h1) (Ms h2)
theorem Aw (C:Cal X.prog X.w X.K X.mg X.base k x ps sp) (hr:K4 k X.A) (ha:PA X (e::es) t) (h1:Dy e=true:=by rfl) (h2:es.all Dy=true:=by rfl) (hg:Gl X x:=by rfl) (hdb:(x==("__debug__":Str))=false:=by decide):
    PE X (.Call (.Name x p) (e::es) [] pos) (Ra sp [] E0 t):=Yh C hr ha hg hdb (K5 h1) (Ms h2)
end
end L2
namespace L2
open PySem PySem.Spec PyProof.Rows
def Itd (lo:Int) (n:Nat):It:=⟨fun i _=>i<n,fun i H x H'=>H'=H/\x= .int (lo-i),fun i _=>n<=i⟩
section
variable {X:Cx}{tg:Expr}
def Ad2 (ta:TA):TI:=fun σ H R=>ta σ H fun vs H1=>∃i j:Int,vs=[.int i,.int j,.int (-1)]/\(-(2^62)<=i/\i<2^62/\ -(2^62)<=j/\j<2^62)/\R (Itd i (i-j).toNat) H1
theorem Fp {ta:TA}{σ:St}{H:Hp}{R:It->Hp->Prop}:Ad2 ta σ H R=ta σ H (fun vs H1=>∃i j:Int,vs=[.int i,.int j,.int (-1)]/\(-(2^62)<=i/\i<2^62/\ -(2^62)<=j/\j<2^62)/\R (Itd i (i-j).toNat) H1):=rfl
theorem J6 {i j:Int}{G:Int->Int->Prop}:(∃i' j':Int,[V.int i,.int j,.int (-1)]=[.int i',.int j',.int (-1)]/\G i' j')=G i j:=propext ⟨fun⟨_,_,e,h⟩=>by cases e;exact h,fun h=>⟨i,j,rfl,h⟩⟩
end
end L2
namespace L2
open PySem PySem.Spec PyProof.Rows
section
variable {X:Cx}{e st:Expr}{te tst:TE}{pos p2:Pos}
def Adv (K:PySem.W.Frag) (te tst:TE):TE:=fun σ H Q=>te σ H fun x H1=>tst σ H1 fun y H2=>∃a xs,x= .ref a/\y= .int (-1)/\SqL K H2 a xs/\∀p,H2 p=none->Q (.ref p) (upd H2 p (.lst xs.reverse))
theorem Es {K:PySem.W.Frag}{σ:St}{H:Hp}{Q:VK}:Adv K te tst σ H Q=te σ H (fun x H1=>tst σ H1 fun y H2=>∃a xs,x= .ref a/\y= .int (-1)/\SqL K H2 a xs/\∀p,H2 p=none->Q (.ref p) (upd H2 p (.lst xs.reverse))):=rfl
end
end L2
namespace L2
open PySem PySem.Spec PyProof.Rows
theorem Afd {σ:St}{H:Hp}{g:TG}{tb:TS}{D:Ends}{J:It} (n:Nat) (inj:Nat->V) (Pv:Nat->St->Hp->Prop) (h0:Pv 0 σ H) (hw:∀i σ H,Pv i σ H->Abx J H (List.range n) inj)
    (hs:∀i σ H,i<n->Pv i σ H->g (inj i) σ H fun σ2 H2=>tb { D with nx:=Pv (i+1),ct:=Pv (i+1),bk:=D.nx} σ2 H2) (hd:∀σ H,Pv n σ H->D.nx σ H):FI J g tb D σ H:=by
  refine Qe (es:=List.range n) (inj:=inj) (fun pre=>Pv pre.length) h0 (fun pre σ H p=>hw pre.length σ H p) (fun pre e post σ H he p=> ?_) (fun σ H p=>hd σ H (by rw [List.length_range]at p;exact p))
  have hl:=congrArg List.length he
  rw [List.length_range,List.length_append,List.length_cons]at hl
  have ee:e=pre.length:=by
    have:=congrArg (fun l=>l[pre.length]?) he
    simp only [List.getElem?_append_right (Nat.le_refl _),Nat.sub_self,List.getElem?_cons_zero]at this
    rw [List.getElem?_range (by omega)]at this
    exact(Option.some.inj this).symm
  subst ee
  have:=hs pre.length σ H (by omega) p
  rw [List.length_append,List.length_singleton]
  exact this
theorem Same.put {H H':Hp}{p:Addr}{o:HO} (s:Same H H') (hp:H p=none):Same H (L2.upd H' p o):=fun b u e=>by
  rw [Bs (Cg e hp)]
  exact s b u e
end L2
namespace L2
open PySem PySem.Spec PyProof.Rows
def Ad8 (K:PySem.W.Frag) (tl:TE):TI:=fun σ H R=>tl σ H fun x H1=>∃a,x= .ref a/\(((∃xs,SqL K H1 a xs)/\R (Itl K a) H1)\/((∃xs,SqT K H1 a xs)/\R (Itt K a) H1))
theorem Wc {X:Cx}{tg l:Expr}{tl:TE} (hl:PE X l tl):PI X tg l (Ad8 X.K tl):=by
  intro pins s σ H R I h
  refine thn (hl pins s σ H _ I h) fun v s1 ⟨x,H1,I1,r1,q1⟩=> ?_
  obtain⟨a,e,q1⟩:=q1
  subst e
  cases r1
  have fp:∀b∈ [s1.heap.objs.size],Q5 X pins H1 b:=fun b hb=>by
    have e:b=s1.heap.objs.size:=by simpa using hb
    subst e
    exact I1.fpOk (Nat.le_refl _) (I1.hok.fresh (Nat.le_refl _))
  rcases q1 with⟨⟨xs,hq⟩,q⟩ | ⟨⟨xs,hq⟩,q⟩
  . obtain⟨its,rv,p,hz⟩:=I1.list hq
    exact wpAny_pyIter_list p.isList ⟨s1.heap.objs.size,[s1.heap.objs.size],_,_,H1,rfl,I1.kept (t':=s1.toks) fun b o e=>Heap.get?_push_of_some _ e,Qg a _,⟨_,Heap.get?_push_size _ rfl,rfl,rfl⟩,fp,q⟩
  . obtain⟨its,rv,p,hz⟩:=I1.tuple hq
    exact wpAny_pyIter_tuple (show s1.heap.IsTuple a its.toArray from p) ⟨s1.heap.objs.size,[s1.heap.objs.size],_,_,H1,rfl,I1.kept (t':=s1.toks) fun b o e=>Heap.get?_push_of_some _ e,N6 a _,⟨_,Heap.get?_push_size _ rfl,rfl,rfl⟩,fp,q⟩
theorem Ef {K:PySem.W.Frag}{tl:TE}{σ:St}{H:Hp}{R:It->Hp->Prop}:Ad8 K tl σ H R=tl σ H (fun x H1=>∃a,x= .ref a/\(((∃xs,SqL K H1 a xs)/\R (Itl K a) H1)\/((∃xs,SqT K H1 a xs)/\R (Itt K a) H1))):=rfl
end L2
namespace L2
open PySem PySem.Spec PyProof.Rows
theorem Xx {X:Cx} (K:PySem.W.Frag) (h:X.K=K:=by rfl):Hy X (.builtin "isinstance") (fun xs H Q=>∃x t T b,xs=[x,.ty T]/\Qu K H x t/\PySem.W.kitOne K t (.type T)=some b/\Q (.bl b) H):=by
  subst h
  exact Du
end L2
namespace L2
theorem Am {t u:TS}{D:Ends}{σ:St}{H:Hp} (P:St->Hp->Prop) (h1:∀N:St->Hp->Prop,(∀σ' H',P σ' H'->N σ' H')->t { D with nx:=N} σ H) (h2:∀σ' H',P σ' H'->u D σ' H'):Adi t u D σ H:=h1 (u D) h2
end L2
namespace L2
open PySem PySem.Spec PyProof.Rows
def Itz (K:PySem.W.Frag) (a b:Addr):It:=
  ⟨fun i H=>∃xs ys x y,SqL K H a xs/\SqL K H b ys/\xs[i]? =some x/\ys[i]? =some y,
   fun i H x H'=>∃p u v,(∀xs,SqL K H a xs->xs[i]? =some u)/\(∀ys,SqL K H b ys->ys[i]? =some v)/\H p=none/\x= .ref p/\H'=upd H p (.tup [u,v]),
   fun i H=>∃xs ys,SqL K H a xs/\SqL K H b ys/\(xs.length<=i\/ys.length<=i)⟩
section
variable {X:Cx}{a b:Expr}{ta:TA}{el:List Expr}{x1}{tp p pos:Pos}
def Afk (K:PySem.W.Frag) (ta:TA):TI:=fun σ H R=>ta σ H fun vs H1=>∃a b,vs=[.ref a,.ref b]/\(∃xs,SqL K H1 a xs)/\(∃ys,SqL K H1 b ys)/\R (Itz K a b) H1
end
theorem Fj {K:PySem.W.Frag}{ta:TA}{σ:St}{H:Hp}{R:It->Hp->Prop}:Afk K ta σ H R=ta σ H (fun vs H1=>∃a b,vs=[.ref a,.ref b]/\(∃xs,SqL K H1 a xs)/\(∃ys,SqL K H1 b ys)/\R (Itz K a b) H1):=rfl
end L2
namespace L2
open PySem PySem.SeqAt PySem.Spec PyProof.Rows
section
variable {X:Cx}
theorem Xv:OpR X (compareOp .IsNot) (fun x y H Q=>∃a b:Bool,x= .bl a/\y= .bl b/\Q (.bl (a != b)) H):=by
  intro pins s σ H x y v u Q I rx ry h
  obtain⟨a,b,rfl,rfl,q⟩:=h
  cases rx
  cases ry
  exact isnot_bool ⟨.bl _,H,I,rfl,q⟩
open Classical in
def Aax:TE:=fun _ H Q=>∀p,H p=none->Q (.ref p) (upd H p (.dK []))
theorem Rb {pos:Pos}:PE X (.Dict [] [] pos) Aax:=fun pins s σ H Q I h=>by
  have hb:sysModules<s.heap.objs.size:=Nat.lt_trans (by decide) (show mainGlobals<s.heap.objs.size from(I.mod.glob.keeps I.bk).lt)
  exact wpAny_Dict_empty ⟨.ref s.heap.objs.size,_,I.laid (a:=s.heap.objs.size) (o:= .dK []) (t':=s.toks) (fun _ _ q=>Heap.get?_push_of_some _ q) (Nat.le_refl _) ⟨Nat.zero_le _,beq_eq_false_iff_ne.mpr (Ne.symm (Nat.ne_of_lt hb)),[],.nil,Heap.DictOf.new s.heap⟩,rfl,h _ (I.hok.fresh (Nat.le_refl _))⟩
theorem Fe {σ:St}{H:Hp}{Q:VK}:Aax σ H Q=∀p,H p=none->Q (.ref p) (upd H p (.dK [])):=rfl
end
end L2
namespace L2
open PySem PySem.Spec PyProof.Rows
def tCV (i:Nat) (a:Addr) (sp:Sp) (E:XK) (t:TA):TE:=fun σ H Q=>σ[i]? =some (some (.ref a))/\t σ H fun vs H1=>sp vs H1 Q E
theorem Sx {i:Nat}{a:Addr}{sp:Sp}{E:XK}{t:TA}{σ:St}{H:Hp}{Q:VK}:tCV i a sp E t σ H Q=(σ[i]? =some (some (.ref a))/\t σ H fun vs H1=>sp vs H1 Q E):=rfl
theorem K6 {X:Cx}{x:Str}{v:V}{pos:Pos} (hg:Gl X x) (h:∃u,X.mg x=some u/\RelV v u) (hd:(x==("__debug__":Str))=false:=by decide):PE X (.Name x pos) (tC v):=by
  obtain⟨u,a,b⟩:=h
  exact Pb hg a b hd
end L2
namespace L2
open PySem PySem.Spec PyProof.Rows
def Adg (K:PySem.W.Frag) (a:Addr):It:=
  ⟨fun i H=>∃xs x,SqL K H a xs/\xs[i]? =some x,fun i H x H'=>∃p v,(∀xs,SqL K H a xs->xs[i]? =some v)/\H p=none/\x= .ref p/\H'=upd H p (.tup [.int (i:Nat),v]),fun i H=>∃xs,SqL K H a xs/\xs.length<=i⟩
theorem Ni {h:Heap}{a:Addr}{its:Array Value} (p:PlainL h a its):h.IsList a its:=by
  obtain⟨o,n,e,c,_,d⟩:=p
  exact⟨o,e,c,n,d⟩
theorem Yt {P:Program}{w:World}{K:PySem.W.Frag}{el:List Expr}{x1}{tp:Pos} (a e j:Addr) (ne:e≠j):Turn P w K (.Tuple el x1 tp) (Adg K a) [e,j] e (fun i h=>(∃old,IsEnum h e j i old)/\h.IsListIter j a i) where
  mem:=by simp
  obj:=fun i h st b hb=>by
    obtain⟨⟨old,he⟩,oj,ej,cj,dj⟩:=st
    rcases List.mem_cons.mp hb with rfl | hb
    . exact⟨_,he,fun v z=>by cases(show Data.fields _=Data.cell v from z)⟩
    . have z:b=j:=by simpa using hb
      subst z
      exact⟨oj,ej,fun v z=>by rw [dj]at z;cases z⟩
  keep:=fun i h h' st k=>by
    obtain⟨⟨old,he⟩,oj,ej,r⟩:=st
    exact⟨⟨old,k e (by simp) _ he⟩,oj,k j (by simp) _ ej,r⟩
  item:=by
    intro X hP hw hK hc i pins s σ H E I hf st hg
    subst hP hw hK
    obtain⟨xs,x,hq,hx⟩:=hg
    obtain⟨its,rv,p,hz⟩:=I.list hq
    obtain⟨u,hu,ru⟩:=rv.get hx
    obtain⟨⟨old,he⟩,hj⟩:=st
    refine wpAny_pyNext_enum_item he hj (Ni p) (x:=u) (by simpa using hu) ne fun g hout hj' hT hsz kk=>⟨_,rfl,?_⟩
    refine wpAny_letOwnedTupleGo_enum hout fun g2 he2 sb2=> ?_
    replace sb2:Heap.SameBut e g g2:=sb2
    have lte:e<s.heap.objs.size:=Heap.lt_size he
    have ltj:j<s.heap.objs.size:=by
      obtain⟨_,ej,_⟩:=hj
      exact Heap.lt_size ej
    have hn:H s.heap.objs.size=none:=I.fresh
    have I1:Inv X pins σ (upd H s.heap.objs.size (.tup [.int (i:Nat),x])) { s with heap:=s.heap.push { cls:= .type "tuple",data:= .seq #[.int i s.toks,u]},toks:=s.toks+1}:=
      I.laid (fun b o q=>Heap.get?_push_of_some _ q) (Nat.le_refl _) ⟨by show 2<=sizeLine;decide,[.int i s.toks,u],.cons ⟨_,rfl⟩ (.cons ru .nil),⟨_,Heap.get?_push_size _ rfl,rfl,_,rfl⟩⟩
    have fp':∀b∈ [e,j],Q5 X pins (upd H s.heap.objs.size (.tup [.int (i:Nat),x])) b:=fun b hb=>by
      have nb:b≠s.heap.objs.size:=by
        rcases List.mem_cons.mp hb with rfl | hb'
        . exact Nat.ne_of_lt lte
        . have z:b=j:=by simpa using hb'
          subst z
          exact Nat.ne_of_lt ltj
      exact⟨by rw [Bs nb];exact(hf b hb).1,(hf b hb).2⟩
    have I2:=I1.turnL (h':=g2) (t':=s.toks+1) (fp:=[e,j]) (fun b o hb q=>by
      have n1:b≠e:=fun z=>hb (by simp [z])
      have n2:b≠j:=fun z=>hb (by simp [z])
      refine(sb2.2 b n1).trans ?_
      rcases Heap.get?_push_cases q with⟨rfl,rfl⟩ | q0
      . exact hT
      . exact kk b o n1 n2 q0) fp'
    refine⟨.ref s.heap.objs.size,_,I2,rfl,⟨_,x,fun ys hy=>by rw [I.list_inj hy hq];exact hx,hn,rfl,rfl⟩,⟨⟨_,by simpa using he2⟩,?_⟩,fun b hb=>(fp' b hb).1⟩
    exact hj'.extBut sb2.extBut (Ne.symm ne)
  done:=by
    intro X hP hw hK hc i pins s σ H E I hf st hg
    subst hP hw hK
    obtain⟨xs,hq,hx⟩:=hg
    obtain⟨its,rv,p,hz⟩:=I.list hq
    obtain⟨⟨old,he⟩,hj⟩:=st
    have hl:=rv.length
    exact wpAny_pyNext_enum_end (I.ok.hd hc) he hj (Ni p) (by simp;omega) fun g eb=>⟨rfl,I.turnL (t':=s.toks) (fp:=[e,j]) (fun b o hb q=>eb b o (fun z=>hb (by simp [z])) q) hf⟩
  self:=fun _ _ _ _ _ st h=>by
    obtain⟨⟨old,he⟩,_⟩:=st
    exact wpAny_pyIter_enum he h
section
variable {X:Cx}{a:Expr}{ta:TA}{el:List Expr}{x1}{tp p pos:Pos}
def Aei (K:PySem.W.Frag) (ta:TA):TI:=fun σ H R=>ta σ H fun vs H1=>∃a,vs=[.ref a]/\(∃xs,SqL K H1 a xs)/\R (Adg K a) H1
theorem Tj (hg:Gl X "enumerate") (hm:X.mg "enumerate"=none) (ha:PA X [a] ta) (hs:starEach [a] X.env=[(false,eval a X.env)]:=by rfl):PI X (.Tuple el x1 tp) (.Call (.Name "enumerate" p) [a] [] pos) (Aei X.K ta):=by
  intro pins s σ H R I h
  refine Call_ (Nt I hg hm boot_enumerate (PyProof.Rows.callWith_type1 (thn (ha pos pins s σ H _ I h) fun us s1 ⟨vs,H1,I1,r1,q1⟩=> ?_) hs rfl))
  obtain⟨b,rfl,⟨xs,hq⟩,q⟩:=q1
  obtain⟨v,rfl,rv⟩:=vals1 r1
  cases rv
  obtain⟨its,rr,pl,hz⟩:=I1.list hq
  refine call_enumerate_list (Ni pl) fun h' he hj hsz hk=> ?_
  have I2:Inv X pins σ H1 { s1 with heap:=h'}:=I1.kept (t':=s1.toks) hk
  refine wpAny_pyIter_enum he ⟨s1.heap.objs.size+1,[s1.heap.objs.size+1,s1.heap.objs.size],_,_,H1,rfl,I2,Yt b _ _ (Nat.ne_of_gt (Nat.lt_succ_self _)),⟨⟨_,he⟩,hj⟩,fun c hcm=> ?_,q⟩
  have hge:s1.heap.objs.size<=c:=by
    rcases List.mem_cons.mp hcm with rfl | hcm
    . exact Nat.le_succ _
    . have z:c=s1.heap.objs.size:=by simpa using hcm
      exact Nat.le_of_eq z.symm
  exact I1.fpOk hge (I1.hok.fresh hge)
end
theorem Ej {K:PySem.W.Frag}{σ:St}{H:Hp}{ta:TA}{R:It->Hp->Prop}:Aei K ta σ H R=ta σ H (fun vs H1=>∃a,vs=[.ref a]/\(∃xs,SqL K H1 a xs)/\R (Adg K a) H1):=rfl
theorem Ac6 {K:PySem.W.Frag}{σ:St}{H:Hp}{g:TG}{tb:TS}{D:Ends}{α:Type}{es:List α}{inj:α->V}{a:Addr} (Pv:List α->St->Hp->Prop) (h0:Pv [] σ H) (hw:∀pre σ H,Pv pre σ H->SqL K H a (es.map inj))
    (hs:∀pre e post σ H p,es=pre++e::post->Pv pre σ H->H p=none->g (.ref p) σ (upd H p (.tup [.int (pre.length:Nat),inj e])) fun σ2 H2=>tb { D with nx:=Pv (pre++ [e]),ct:=Pv (pre++ [e]),bk:=D.nx} σ2 H2) (hd:∀σ H,Pv es σ H->D.nx σ H):FI (Adg K a) g tb D σ H:=by
  refine⟨fun i m σ H=>m=es.length-i/\i<=es.length/\Pv (es.take i) σ H,⟨es.length,by simp,Nat.zero_le _,h0⟩,?_⟩
  rintro i m σ H ⟨rfl,hi,p⟩
  have w:=hw _ _ _ p
  cases he:es[i]? with
  | none=>
    have e:i=es.length:=Nat.le_antisymm hi (List.getElem?_eq_none_iff.mp he)
    subst e
    rw [List.take_length]at p
    exact .inl ⟨⟨_,w,by rw [List.length_map];exact Nat.le_refl _⟩,hd _ _ p⟩
  | some e=>
    obtain⟨hlt,ee⟩:=List.getElem?_eq_some_iff.mp he
    have tk:es.take (i+1)=es.take i++ [e]:=by rw [List.take_succ,he];rfl
    have sp:es=es.take i++e::es.drop (i+1):=by
      rw [<-ee,<-List.drop_eq_getElem_cons hlt,List.take_append_drop]
    refine .inr ⟨⟨_,inj e,w,by rw [List.getElem?_map,he];rfl⟩,Pv (es.take i++ [e]),fun σ' H' q=>⟨es.length-(i+1),by omega,rfl,hlt,by rw [tk];exact q⟩,fun x H' y=> ?_⟩
    obtain⟨b,v,y1,y2,rfl,rfl⟩:=y
    have y3:=y1 _ w
    rw [List.getElem?_map,he]at y3
    obtain rfl:inj e=v:=Option.some.inj y3
    have hl:(es.take i).length=i:=by rw [List.length_take];omega
    have z:=hs _ e _ σ H b sp p y2
    rw [hl]at z
    exact z
end L2
namespace L2
open PySem PySem.Spec PyProof.Rows
def Aem (sp:Sp) (Cs:List Addr) (g:V->St->St) (i:Nat) (ta:TA) (ts:Addr->Addr->Obj->TS):TS:=fun D σ H=>ta σ H fun vs H1=>sp vs H1 (fun v H2=>D.nx (g v σ) H2)
  (fun c _ H2=>∃C,c= .ref C/\C∈Cs/\∀x oe,oe.cls= .ref C->ts C x oe { nx:=fun σ' H'=>D.nx (σ'.set i none) H',rt:=D.rt,bk:=fun σ' H'=>D.bk (σ'.set i none) H',ct:=fun σ' H'=>D.ct (σ'.set i none) H'} (σ.set i (some (.ref x))) H2)
theorem Fx {sp:Sp}{Cs:List Addr}{g:V->St->St}{i:Nat}{ta:TA}{ts:Addr->Addr->Obj->TS}{D:Ends}{σ:St}{H:Hp}:Aem sp Cs g i ta ts D σ H=ta σ H (fun vs H1=>sp vs H1 (fun v H2=>D.nx (g v σ) H2)
  (fun c _ H2=>∃C,c= .ref C/\C∈Cs/\∀x oe,oe.cls= .ref C->ts C x oe { nx:=fun σ' H'=>D.nx (σ'.set i none) H',rt:=D.rt,bk:=fun σ' H'=>D.bk (σ'.set i none) H',ct:=fun σ' H'=>D.ct (σ'.set i none) H'} (σ.set i (some (.ref x))) H2)):=rfl
def Aep (sp:Sp) (Cs:List Addr) (g:V->St->St) (ta:TA) (ts:Addr->Addr->Obj->TS):TS:=fun D σ H=>ta σ H fun vs H1=>sp vs H1 (fun v H2=>D.nx (g v σ) H2)
  (fun c _ H2=>∃C,c= .ref C/\C∈Cs/\∀x oe,oe.cls= .ref C->ts C x oe D σ H2)
theorem Er {sp:Sp}{Cs:List Addr}{g:V->St->St}{ta:TA}{ts:Addr->Addr->Obj->TS}{D:Ends}{σ:St}{H:Hp}:Aep sp Cs g ta ts D σ H=ta σ H (fun vs H1=>sp vs H1 (fun v H2=>D.nx (g v σ) H2)
  (fun c _ H2=>∃C,c= .ref C/\C∈Cs/\∀x oe,oe.cls= .ref C->ts C x oe D σ H2)):=rfl
section
variable {c:TT}{tb:TS}{D:Ends}{σ:St}{H:Hp}
def WM (Pv:Nat->St->Hp->Prop) (tb:TS) (D:Ends) (m:Nat) (σ:St) (H:Hp):Prop:=∃N:St->Hp->Prop,(∀σ' H',N σ' H'->∃m',m'<m/\Pv m' σ' H')/\tb { D with nx:=N,ct:=N,bk:=D.nx} σ H
theorem Acy {Pv:Nat->St->Hp->Prop}{m:Nat} (h:tb { D with nx:=fun σ' H'=>∃m',m'<m/\Pv m' σ' H',ct:=fun σ' H'=>∃m',m'<m/\Pv m' σ' H',bk:=D.nx} σ H):WM Pv tb D m σ H:=⟨_,fun _ _ z=>z,h⟩
theorem Wi (Pv:Nat->St->Hp->Prop) (m0:Nat) (h0:Pv m0 σ H) (hs:∀m σ H,Pv m σ H->c σ H fun b H1=>if b=true then WM Pv tb D m σ H1 else D.nx σ H1):Tv c tb D σ H:=⟨Pv,⟨m0,h0⟩,hs⟩
end
end L2
namespace L2
open PySem PySem.Spec PyProof.Rows
def It1 (t:Bool) (h:Heap) (j u:Addr) (k:Nat):Prop:=if t=true then h.IsTupleIter j u k else h.IsListIter j u k
def Sq1 (t:Bool) (h:Heap) (u:Addr) (xs:Array Value):Prop:=if t=true then h.IsTuple u xs else h.IsList u xs
theorem It1.ext {t:Bool}{h g:Heap}{j u b:Addr}{k:Nat} (x:It1 t h j u k) (e:Heap.ExtBut b h g) (n:j≠b):It1 t g j u k:=by
  cases t
  . exact Heap.IsListIter.extBut x e n
  . exact Heap.IsTupleIter.extBut x e n
theorem It1.to {t:Bool}{h g:Heap}{j u:Addr}{k:Nat} (x:It1 t h j u k) (e:∀o,h.get? j=some o->g.get? j=some o):It1 t g j u k:=by
  cases t
  . exact Heap.IsListIter.at x e
  . exact Heap.IsTupleIter.at x e
theorem Sq1.ext {t:Bool}{h g:Heap}{u b:Addr}{xs:Array Value} (x:Sq1 t h u xs) (e:Heap.ExtBut b h g) (n:u≠b):Sq1 t g u xs:=by
  cases t
  . exact Heap.IsList.extBut x e n
  . exact Heap.IsTuple.extBut x e n
theorem It1.there {t:Bool}{h:Heap}{j u:Addr}{k:Nat} (x:It1 t h j u k):∃o,h.get? j=some o/\∀v,o.data≠ .cell v:=by
  cases t
  . obtain⟨o,e,_,d⟩:=(show h.IsListIter j u k from x)
    exact⟨o,e,fun v z=>by rw [d]at z;cases z⟩
  . obtain⟨o,e,_,d⟩:=(show h.IsTupleIter j u k from x)
    exact⟨o,e,fun v z=>by rw [d]at z;cases z⟩
section
variable {prog:Program}{w:World}{A:Around}{E:Value->Shared->Prop}{s:Shared}
theorem Abd {t:Bool}{j u:Addr}{k:Nat}{xs:Array Value}{y:Value}{Q:Value->Shared->Prop} (hj:It1 t s.heap j u k) (hu:Sq1 t s.heap u xs) (hy:xs[k]? =some y)
    (c:∀g,It1 t g j u (k+1)->Heap.SameBut j s.heap g->Q y { s with heap:=g}):wpAny (model prog w) A (Builtin.SmallTypes.nextOf (.ref j)) Q E s:=by
  cases t
  . exact wpAny_nextOf_list_item hj hu hy c
  . exact nextT hj hu hy c
theorem Qz {t:Bool}{j u:Addr}{k:Nat}{xs:Array Value}{Q:Value->Shared->Prop} (hh:A.handled=none) (hj:It1 t s.heap j u k) (hu:Sq1 t s.heap u xs) (hy:xs[k]? =none)
    (c:∀g e,Heap.ExtBut j s.heap g->(∃o,g.get? e=some o/\o.cls= .type "StopIteration")->E (.ref e) { s with heap:=g}):wpAny (model prog w) A (Builtin.SmallTypes.nextOf (.ref j)) Q E s:=by
  cases t
  . exact wpAny_nextOf_list_end hh hj hu hy c
  . exact Vx hh hj hu hy c
theorem Vq {t1 t2:Bool}{zz TI TO i1 i2 u1 u2:Addr}{k1 k2:Nat}{xs ys:Array Value}{x y p q:Value}{Q:Value->Shared->Prop} (D:ZipApart zz TI TO i1 i2 u1 u2)
    (hz:IsZip s.heap zz TI TO .none) (hTI:IsPair s.heap TI (.ref i1) (.ref i2)) (hTO:IsPair s.heap TO p q) (j1:It1 t1 s.heap i1 u1 k1) (j2:It1 t2 s.heap i2 u2 k2) (a1:Sq1 t1 s.heap u1 xs) (a2:Sq1 t2 s.heap u2 ys) (hx:xs[k1]? =some x) (hy:ys[k2]? =some y)
    (c:∀g,IsZip g zz TI TO (rawInt s.heap.objs.size)->IsPair g TO x y->It1 t1 g i1 u1 (k1+1)->It1 t2 g i2 u2 (k2+1)->IsPair g s.heap.objs.size x y->g.objs.size=s.heap.objs.size+1->
      (∀b o,b≠zz->b≠TO->b≠i1->b≠i2->s.heap.get? b=some o->g.get? b=some o)->Q (.ref s.heap.objs.size) { s with heap:=g}):
    wpAny (model prog w) A (Builtin.«zip.__next__» ⟨[.ref zz],[]⟩) (fun fin s'=>∃v,fin= .done (.ret v)/\Q v s') E s:=by
  show wpAny _ _ (field (.ref zz) 2>>=_) _ _ s
  refine wpAny_bind (wpAny_field hz rfl (x:= .bool false) rfl ?z1)
  case z1=>
  show wpAny _ _ (field (.ref zz) 3>>=_) _ _ s
  refine wpAny_bind (wpAny_field hz rfl (x:= .ref TI) rfl (wpAny_bind (wpAny_seqItems hTI rfl ?z2)))
  case z2=>
  show wpAny _ _ (Builtin.SmallTypes.ownedTupleIsFree (.ref zz)>>=_) _ _ s
  refine wpAny_bind (m:=Builtin.SmallTypes.ownedTupleIsFree (.ref zz)) ?z3
  case z3=>
  unfold Builtin.SmallTypes.ownedTupleIsFree;refine wpAny_bind (wpAny_field hz rfl (x:= .none) rfl (wpAny_pure ?z4))
  case z4=>
  simp only [if_true];refine wpAny_bind (wpAny_rule (wpAny_bind (wpAny_field hz rfl (x:= .ref TO) rfl (wpAny_bind (wpAny_setField_rec hz (by simp) fun g1 (z1:IsZip g1 zz TI TO .ellipsis) b1=> ?z5)))))
  case z5=>
  refine wpAny_bind ?z6
  case z6=>
  simp only [List.forIn_cons,List.forIn_nil,List.zipIdx_cons,List.zipIdx_nil]
  refine wpAny_bind (wpAny_bind (wpAny_onRaise ?z7))
  case z7=>
  show wpAny _ _ (Builtin.SmallTypes.nextOf (.ref i1)>>=_) _ _ { s with heap:=g1}
  refine wpAny_bind (Abd (j1.ext b1.extBut D.i1z) (a1.ext b1.extBut D.l1z) hx fun g2 n1 b2=>wpAny_pure ?z8)
  case z8=>
  have o2:IsPair g2 TO p q:=b2.extBut _ _ D.TOi1 (b1.extBut _ _ D.TOz hTO)
  refine wpAny_bind (wpAny_seqItems o2 rfl (wpAny_bind (wpAny_updateSeq_pair o2 fun g3 (o3:IsPair g3 TO x q) b3=>wpAny_bind (wpAny_letGo (wpAny_pure (wpAny_bind (wpAny_bind (wpAny_onRaise ?z9))))))))
  case z9=>
  show wpAny _ _ (Builtin.SmallTypes.nextOf (.ref i2)>>=_) _ _ { s with heap:=g3}
  refine wpAny_bind (Abd (((j2.ext b1.extBut D.i2z).ext b2.extBut D.i12.symm).ext b3.extBut D.TOi2.symm) (((a2.ext b1.extBut D.l2z).ext b2.extBut D.l2i1).ext b3.extBut D.l2TO) hy fun g4 n2 b4=>wpAny_pure ?z10)
  case z10=>
  have o4:IsPair g4 TO x q:=b4.extBut _ _ D.TOi2 o3
  refine wpAny_bind (wpAny_seqItems o4 rfl (wpAny_bind (wpAny_updateSeq_pair o4 fun g5 (o5:IsPair g5 TO x y) b5=>wpAny_bind (wpAny_letGo (wpAny_pure (wpAny_pure (wpAny_bind (wpAny_seqItems o5 rfl (wpAny_bind (wpAny_newTuple ?z11))))))))))
  case z11=>
  have sz:g5.objs.size=s.heap.objs.size:=by rw [b5.1,b4.1,b3.1,b2.1,b1.1]
  have z5:IsZip g5 zz TI TO .ellipsis:=b5.extBut _ _ D.TOz.symm (b4.extBut _ _ D.i2z.symm (b3.extBut _ _ D.TOz.symm (b2.extBut _ _ D.i1z.symm z1)))
  have k5:∀b o,b≠zz->b≠TO->b≠i1->b≠i2->s.heap.get? b=some o->g5.get? b=some o:=fun b o c1 c2 c3 c4 e=>b5.extBut _ _ c2 (b4.extBut _ _ c4 (b3.extBut _ _ c2 (b2.extBut _ _ c3 (b1.extBut _ _ c1 e))))
  have m1:It1 t1 g5 i1 u1 (k1+1):=((n1.ext b3.extBut D.TOi1.symm).ext b4.extBut D.i12).ext b5.extBut D.TOi1.symm
  have m2:It1 t2 g5 i2 u2 (k2+1):=n2.ext b5.extBut D.TOi2.symm
  have zlt:zz<g5.objs.size:=Heap.lt_size z5
  show wpAny _ _ (Builtin.SmallTypes.ownedTupleHandOut (.ref zz) (.ref g5.objs.size)>>=_) _ _ _
  refine wpAny_bind (m:=Builtin.SmallTypes.ownedTupleHandOut (.ref zz) (.ref g5.objs.size)) ?z12
  case z12=>
  unfold Builtin.SmallTypes.ownedTupleHandOut
  have z6:IsZip (g5.push { cls:= .type "tuple",data:= .seq #[x,y]}) zz TI TO .ellipsis:=Heap.get?_push_of_some _ z5
  refine wpAny_bind (wpAny_setField_rec z6 (by simp) fun g7 (z7:IsZip g7 zz TI TO (rawInt g5.objs.size)) b7=>wpAny_setField_rec z7 (by simp) fun g8 (z8:IsZip g8 zz TI TO (rawInt g5.objs.size)) b8=> ?z13)
  case z13=>
  have up:∀b o,b≠zz->g5.get? b=some o->g8.get? b=some o:=fun b o c1 e=>b8.extBut _ _ c1 (b7.extBut _ _ c1 (Heap.get?_push_of_some _ e))
  have t8:IsPair g8 g5.objs.size x y:=b8.extBut _ _ (Nat.ne_of_gt zlt) (b7.extBut _ _ (Nat.ne_of_gt zlt) (Heap.get?_push_size _ rfl))
  have w8:g8.objs.size=g5.objs.size+1:=by rw [b8.1,b7.1,Heap.size_push]
  rw [sz]at z8 t8 w8
  refine wpAny_pure ⟨_,rfl,?z14⟩
  case z14=>
  show Q (.ref g5.objs.size) _
  rw [sz]
  exact c g8 z8 (up _ _ D.TOz o5) (m1.to fun o e=>up _ o D.i1z e) (m2.to fun o e=>up _ o D.i2z e) t8 w8 fun b o c1 c2 c3 c4 e=>up b o c1 (k5 b o c1 c2 c3 c4 e)
theorem Zd {t1 t2:Bool}{zz TI TO i1 i2 u1 u2:Addr}{k1 k2:Nat}{xs ys:Array Value}{p q:Value}{Q:Fin->Shared->Prop} (hh:A.handled=none) (D:ZipApart zz TI TO i1 i2 u1 u2)
    (hz:IsZip s.heap zz TI TO .none) (hTI:IsPair s.heap TI (.ref i1) (.ref i2)) (hTO:IsPair s.heap TO p q) (j1:It1 t1 s.heap i1 u1 k1) (j2:It1 t2 s.heap i2 u2 k2) (a1:Sq1 t1 s.heap u1 xs) (a2:Sq1 t2 s.heap u2 ys) (he:xs[k1]? =none\/ys[k2]? =none)
    (c:∀g e,(∀b o,b≠zz->b≠TO->b≠i1->b≠i2->s.heap.get? b=some o->g.get? b=some o)->(∃o,g.get? e=some o/\o.cls= .type "StopIteration")->E (.ref e) { s with heap:=g}):
    wpAny (model prog w) A (Builtin.«zip.__next__» ⟨[.ref zz],[]⟩) Q E s:=by
  show wpAny _ _ (field (.ref zz) 2>>=_) _ _ s
  refine wpAny_bind (wpAny_field hz rfl (x:= .bool false) rfl ?z1)
  case z1=>
  show wpAny _ _ (field (.ref zz) 3>>=_) _ _ s
  refine wpAny_bind (wpAny_field hz rfl (x:= .ref TI) rfl (wpAny_bind (wpAny_seqItems hTI rfl ?z2)))
  case z2=>
  show wpAny _ _ (Builtin.SmallTypes.ownedTupleIsFree (.ref zz)>>=_) _ _ s
  refine wpAny_bind (m:=Builtin.SmallTypes.ownedTupleIsFree (.ref zz)) ?z3
  case z3=>
  unfold Builtin.SmallTypes.ownedTupleIsFree;refine wpAny_bind (wpAny_field hz rfl (x:= .none) rfl (wpAny_pure ?z4))
  case z4=>
  simp only [if_true];refine wpAny_bind (wpAny_rule (wpAny_bind (wpAny_field hz rfl (x:= .ref TO) rfl (wpAny_bind (wpAny_setField_rec hz (by simp) fun g1 (z1:IsZip g1 zz TI TO .ellipsis) b1=> ?z5)))))
  case z5=>
  refine wpAny_bind ?z6
  case z6=>
  simp only [List.forIn_cons,List.forIn_nil,List.zipIdx_cons,List.zipIdx_nil]
  refine wpAny_bind (wpAny_bind (wpAny_onRaise ?z7))
  case z7=>
  show wpAny _ _ (Builtin.SmallTypes.nextOf (.ref i1)>>=_) _ _ { s with heap:=g1}
  cases hx:xs[k1]? with
  | none=>
    refine wpAny_bind (Qz hh (j1.ext b1.extBut D.i1z) (a1.ext b1.extBut D.l1z) hx fun g2 e b2 ⟨oe,hoe,hce⟩=> ?_)
    have z2:IsZip g2 zz TI TO .ellipsis:=b2 _ _ D.i1z.symm z1
    have ne:e≠zz:=fun y=>by subst y;rw [z2]at hoe;cases hoe;simp at hce
    exact wpAny_setField_rec z2 (by simp) fun g3 _ b3=>c g3 e (fun b o c1 _ c3 _ y=>b3.extBut _ _ c1 (b2 _ _ c3 (b1.extBut _ _ c1 y))) ⟨oe,b3.extBut _ _ ne hoe,hce⟩
  | some x=>
    have hy:ys[k2]? =none:=by
      rcases he with h | h
      . rw [hx]at h;cases h
      . exact h
    refine wpAny_bind (Abd (j1.ext b1.extBut D.i1z) (a1.ext b1.extBut D.l1z) hx fun g2 n1 b2=>wpAny_pure ?_)
    have o2:IsPair g2 TO p q:=b2.extBut _ _ D.TOi1 (b1.extBut _ _ D.TOz hTO)
    refine wpAny_bind (wpAny_seqItems o2 rfl (wpAny_bind (wpAny_updateSeq_pair o2 fun g3 o3 b3=>wpAny_bind (wpAny_letGo (wpAny_pure (wpAny_bind (wpAny_bind (wpAny_onRaise ?z9))))))))
    case z9=>
    show wpAny _ _ (Builtin.SmallTypes.nextOf (.ref i2)>>=_) _ _ { s with heap:=g3}
    refine wpAny_bind (Qz hh (((j2.ext b1.extBut D.i2z).ext b2.extBut D.i12.symm).ext b3.extBut D.TOi2.symm) (((a2.ext b1.extBut D.l2z).ext b2.extBut D.l2i1).ext b3.extBut D.l2TO) hy fun g4 e b4 ⟨oe,hoe,hce⟩=> ?_)
    have z4:IsZip g4 zz TI TO .ellipsis:=b4 _ _ D.i2z.symm (b3.extBut _ _ D.TOz.symm (b2.extBut _ _ D.i1z.symm z1))
    have ne:e≠zz:=fun y=>by subst y;rw [z4]at hoe;cases hoe;simp at hce
    exact wpAny_setField_rec z4 (by simp) fun g5 _ b5=>c g5 e (fun b o c1 c2 c3 c4 y=>b5.extBut _ _ c1 (b4 _ _ c4 (b3.extBut _ _ c2 (b2.extBut _ _ c3 (b1.extBut _ _ c1 y))))) ⟨oe,b5.extBut _ _ ne hoe,hce⟩
theorem Wb {t1 t2:Bool}{zz TI TO i1 i2 u1 u2:Addr}{k1 k2:Nat}{xs ys:Array Value}{x y p q:Value}{Q:Option Value->Shared->Prop} (D:ZipApart zz TI TO i1 i2 u1 u2)
    (hz:IsZip s.heap zz TI TO .none) (hTI:IsPair s.heap TI (.ref i1) (.ref i2)) (hTO:IsPair s.heap TO p q) (j1:It1 t1 s.heap i1 u1 k1) (j2:It1 t2 s.heap i2 u2 k2) (a1:Sq1 t1 s.heap u1 xs) (a2:Sq1 t2 s.heap u2 ys) (hx:xs[k1]? =some x) (hy:ys[k2]? =some y)
    (c:∀g,IsZip g zz TI TO (rawInt s.heap.objs.size)->IsPair g TO x y->It1 t1 g i1 u1 (k1+1)->It1 t2 g i2 u2 (k2+1)->IsPair g s.heap.objs.size x y->g.objs.size=s.heap.objs.size+1->
      (∀b o,b≠zz->b≠TO->b≠i1->b≠i2->s.heap.get? b=some o->g.get? b=some o)->Q (some (.ref s.heap.objs.size)) { s with heap:=g}):wpAny (model prog w) A (pyNext (.ref zz)) Q E s:=by
  have ty:s.TypeIs (.ref zz) "zip":=⟨_,hz,rfl⟩
  unfold pyNext
  exact wpAny_bind (wpAny_attempt (wpAny_callSpecial?_slot (name:=Str.ofString "__next__") ty F.slot_zip_next (wpAny_call_entry F.slot_zip_next ty F.entry_zip_next
    (Vq D hz hTI hTO j1 j2 a1 a2 hx hy fun g b1 b2 b3 b4 b5 b6 b7=>wpAny_pure (c g b1 b2 b3 b4 b5 b6 b7)) (F.args_zip_next_1 _))))
theorem Vh {t1 t2:Bool}{zz TI TO i1 i2 u1 u2:Addr}{k1 k2:Nat}{xs ys:Array Value}{p q:Value}{Q:Option Value->Shared->Prop} (hh:A.handled=none) (D:ZipApart zz TI TO i1 i2 u1 u2)
    (hz:IsZip s.heap zz TI TO .none) (hTI:IsPair s.heap TI (.ref i1) (.ref i2)) (hTO:IsPair s.heap TO p q) (j1:It1 t1 s.heap i1 u1 k1) (j2:It1 t2 s.heap i2 u2 k2) (a1:Sq1 t1 s.heap u1 xs) (a2:Sq1 t2 s.heap u2 ys) (he:xs[k1]? =none\/ys[k2]? =none)
    (c:∀g,(∀b o,b≠zz->b≠TO->b≠i1->b≠i2->s.heap.get? b=some o->g.get? b=some o)->Q none { s with heap:=g}):wpAny (model prog w) A (pyNext (.ref zz)) Q E s:=by
  have ty:s.TypeIs (.ref zz) "zip":=⟨_,hz,rfl⟩
  unfold pyNext
  refine wpAny_bind (wpAny_attempt (wpAny_callSpecial?_slot (name:=Str.ofString "__next__") ty F.slot_zip_next (wpAny_call_entry F.slot_zip_next ty F.entry_zip_next (Zd hh D hz hTI hTO j1 j2 a1 a2 he fun g e hk ⟨o,ho,hc⟩=> ?_) (F.args_zip_next_1 _))))
  exact wpAny_bind (wpAny_isInstance (T:="StopIteration") (b:=true) ⟨o,ho,hc⟩ isSubtype_stop (wpAny_pure (c _ hk)))
end
def Acn (t:Bool):String:=if t=true then "tuple_iterator" else "list_iterator"
abbrev R0 (t:Bool) (u:Addr):Obj:={ cls:= .type (Acn t),data:= .fields #[.ref u,.int 0 0]}
theorem iter1 {prog:Program}{w:World}{A:Around}{E:Value->Shared->Prop}{s:Shared}{t:Bool}{u:Addr}{xs:Array Value}{Q:Value->Shared->Prop} (h:Sq1 t s.heap u xs) (q:Q (.ref s.heap.objs.size) { s with heap:=s.heap.push (R0 t u)}):wpAny (model prog w) A (pyIter (.ref u)) Q E s:=by
  cases t
  . exact wpAny_pyIter_list h q
  . exact wpAny_pyIter_tuple h q
theorem Wy {t:Bool}{u j:Addr}{g:Heap} (e:g.get? j=some (R0 t u)):It1 t g j u 0:=by
  cases t
  . exact⟨_,e,rfl,rfl⟩
  . exact⟨_,e,rfl,rfl⟩
theorem Sq1.push {t:Bool}{h:Heap}{u:Addr}{xs:Array Value} (x:Sq1 t h u xs) (o:Obj):Sq1 t (h.push o) u xs:=by
  cases t
  . exact Heap.IsList.push x _
  . obtain⟨ob,e,r⟩:=(show h.IsTuple u xs from x)
    exact⟨ob,Heap.get?_push_of_some _ e,r⟩
abbrev zA1 (t1:Bool) (h:Heap) (u1:Addr):Heap:=h.push (R0 t1 u1)
abbrev zA2 (t1 t2:Bool) (h:Heap) (u1 u2:Addr):Heap:=(zA1 t1 h u1).push (R0 t2 u2)
abbrev zA3 (t1 t2:Bool) (h:Heap) (u1 u2:Addr):Heap:=(zA2 t1 t2 h u1 u2).push { cls:= .type "tuple",data:= .seq #[.ref h.objs.size,.ref (zA1 t1 h u1).objs.size]}
abbrev zA4 (t1 t2:Bool) (h:Heap) (u1 u2:Addr):Heap:=(zA3 t1 t2 h u1 u2).push { cls:= .type "tuple",data:= .seq #[.none,.none]}
abbrev zA5 (t1 t2:Bool) (h:Heap) (u1 u2:Addr):Heap:=(zA4 t1 t2 h u1 u2).push { cls:= .type "zip",data:= .fields #[.none,.bool false,.bool false,.ref (zA2 t1 t2 h u1 u2).objs.size,.ref (zA3 t1 t2 h u1 u2).objs.size]}
theorem U5 (t1 t2:Bool) (u1 u2:Addr) (xs ys:Array Value):
    Meets (Builtin.«zip.__new__» ⟨[.type "zip",.ref u1,.ref u2],[]⟩) (fun _ R s=>Sq1 t1 s.heap u1 xs/\Sq1 t2 s.heap u2 ys/\R (.ok (.ret (.ref (zA4 t1 t2 s.heap u1 u2).objs.size))) { s with heap:=zA5 t1 t2 s.heap u1 u2}):=
  .of_wp fun prog w A R s h=>by
    obtain⟨hp,g,d,tk,os⟩:=s;obtain⟨b1,b2,h⟩:=h
    have su:=sub_zip
    have L1:Sq1 t1 (Shared.heap ⟨hp,g,d,tk,os⟩) u1 xs:=b1
    have L2:Sq1 t2 (Shared.heap ⟨hp.push (R0 t1 u1),g,d,tk,os⟩) u2 ys:=b2.push _
    wp_walk using iter1 L1,iter1 L2
    exact⟨_,rfl,h⟩
theorem Xf {prog:Program}{w:World}{A:Around}{E:Value->Shared->Prop}{s:Shared}{t1 t2:Bool}{u1 u2:Addr}{xs ys:Array Value}{Q:Value->Shared->Prop} (b1:Sq1 t1 s.heap u1 xs) (b2:Sq1 t2 s.heap u2 ys)
    (c:∀g,IsZip g (s.heap.objs.size+4) (s.heap.objs.size+2) (s.heap.objs.size+3) .none->IsPair g (s.heap.objs.size+2) (.ref s.heap.objs.size) (.ref (s.heap.objs.size+1))->IsPair g (s.heap.objs.size+3) .none .none->
      It1 t1 g s.heap.objs.size u1 0->It1 t2 g (s.heap.objs.size+1) u2 0->(∀b o,s.heap.get? b=some o->g.get? b=some o)->Q (.ref (s.heap.objs.size+4)) { s with heap:=g}):wpAny (model prog w) A (call (.type "zip") [.ref u1,.ref u2]) Q E s:=by
  refine callType_new F.called_zip (by decide) (F.typeCall_zip_2 _ _) (F.newCall_zip_2 _ _) (fun obj=>F.args_object_init_3 obj _ _) F.entry_zip_new (U5 t1 t2 u1 u2 xs ys) ⟨b1,b2,?_⟩
  have w1:(zA1 t1 s.heap u1).objs.size=s.heap.objs.size+1:=Heap.size_push ..
  have w2:(zA2 t1 t2 s.heap u1 u2).objs.size=s.heap.objs.size+2:=by rw [Heap.size_push,w1]
  have w3:(zA3 t1 t2 s.heap u1 u2).objs.size=s.heap.objs.size+3:=by rw [Heap.size_push,w2]
  have w4:(zA4 t1 t2 s.heap u1 u2).objs.size=s.heap.objs.size+4:=by rw [Heap.size_push,w3]
  have e5:(zA5 t1 t2 s.heap u1 u2).get? (zA4 t1 t2 s.heap u1 u2).objs.size=some _:=Heap.get?_push_size _ rfl
  have e4:(zA5 t1 t2 s.heap u1 u2).get? (zA3 t1 t2 s.heap u1 u2).objs.size=some _:=Heap.get?_push_of_some _ (Heap.get?_push_size _ rfl)
  have e3:(zA5 t1 t2 s.heap u1 u2).get? (zA2 t1 t2 s.heap u1 u2).objs.size=some _:=Heap.get?_push_of_some _ (Heap.get?_push_of_some _ (Heap.get?_push_size _ rfl))
  have e2:(zA5 t1 t2 s.heap u1 u2).get? (zA1 t1 s.heap u1).objs.size=some (R0 t2 u2):=Heap.get?_push_of_some _ (Heap.get?_push_of_some _ (Heap.get?_push_of_some _ (Heap.get?_push_size _ rfl)))
  have e1:(zA5 t1 t2 s.heap u1 u2).get? s.heap.objs.size=some (R0 t1 u1):=Heap.get?_push_of_some _ (Heap.get?_push_of_some _ (Heap.get?_push_of_some _ (Heap.get?_push_of_some _ (Heap.get?_push_size _ rfl))))
  show _/\_
  rw [w2,w3,w4]at e5
  rw [w1,w2]at e3
  rw [w3]at e4
  rw [w1]at e2
  rw [w4]
  exact⟨⟨_,e5,rfl⟩,c _ e5 e3 e4 (Wy e1) (Wy e2) fun b o x=>Heap.get?_push_of_some _ (Heap.get?_push_of_some _ (Heap.get?_push_of_some _ (Heap.get?_push_of_some _ (Heap.get?_push_of_some _ x))))⟩
def SqB (t:Bool) (K:PySem.W.Frag) (H:Hp) (a:Addr) (xs:List V):Prop:=if t=true then SqT K H a xs else SqL K H a xs
theorem Inv.sqB {X:Cx}{pins:List (Addr × Obj)}{σ:St}{H:Hp}{s:Shared}{t:Bool}{a:Addr}{xs:List V} (I:Inv X pins σ H s) (h:SqB t X.K H a xs):∃its:List Value,Vals xs its/\Sq1 t s.heap a its.toArray:=by
  cases t
  . obtain⟨its,r,p,_⟩:=I.list h
    exact⟨its,r,p.isList⟩
  . obtain⟨its,r,p,_⟩:=I.tuple h
    exact⟨its,r,p⟩
theorem Inv.sqB_inj {X:Cx}{pins:List (Addr × Obj)}{σ:St}{H:Hp}{s:Shared}{t:Bool}{a:Addr}{xs ys:List V} (I:Inv X pins σ H s) (h:SqB t X.K H a xs) (h':SqB t X.K H a ys):xs=ys:=by
  cases t
  . exact I.list_inj h h'
  . exact I.tuple_inj h h'
def Ac1 (t1 t2:Bool) (K:PySem.W.Frag) (a b:Addr):It:=
  ⟨fun i H=>∃xs ys x y,SqB t1 K H a xs/\SqB t2 K H b ys/\xs[i]? =some x/\ys[i]? =some y,
   fun i H x H'=>∃p u v,(∀xs,SqB t1 K H a xs->xs[i]? =some u)/\(∀ys,SqB t2 K H b ys->ys[i]? =some v)/\H p=none/\x= .ref p/\H'=upd H p (.tup [u,v]),
   fun i H=>∃xs ys,SqB t1 K H a xs/\SqB t2 K H b ys/\(xs.length<=i\/ys.length<=i)⟩
theorem Xj {P:Program}{w:World}{K:PySem.W.Frag}{el:List Expr}{x1}{tp:Pos} (t1 t2:Bool) (a b z TI TO i1 i2:Addr) (D:ZipApart z TI TO i1 i2 a b):
    Turn P w K (.Tuple el x1 tp) (Ac1 t1 t2 K a b) [z,TI,TO,i1,i2] z (fun i h=>IsZip h z TI TO .none/\IsPair h TI (.ref i1) (.ref i2)/\(∃c d,IsPair h TO c d)/\It1 t1 h i1 a i/\It1 t2 h i2 b i) where
  mem:=by simp
  obj:=fun i h st c hc=>by
    obtain⟨hz,hTI,⟨u,v,hTO⟩,h1,h2⟩:=st
    simp only [List.mem_cons,List.not_mem_nil,or_false]at hc
    rcases hc with rfl | rfl | rfl | rfl | rfl
    . exact⟨_,hz,fun v z=>by cases(show Data.fields _=Data.cell v from z)⟩
    . exact⟨_,hTI,fun v z=>by cases(show Data.seq _ _=Data.cell v from z)⟩
    . exact⟨_,hTO,fun v z=>by cases(show Data.seq _ _=Data.cell v from z)⟩
    . exact h1.there
    . exact h2.there
  keep:=fun i h h' st k=>by
    obtain⟨hz,hTI,⟨u,v,hTO⟩,h1,h2⟩:=st
    exact⟨k z (by simp) _ hz,k TI (by simp) _ hTI,⟨u,v,k TO (by simp) _ hTO⟩,h1.to fun o e=>k i1 (by simp) _ e,h2.to fun o e=>k i2 (by simp) _ e⟩
  item:=by
    intro X hP hw hK hc i pins s σ H E I hf st hg
    subst hP hw hK
    obtain⟨xs,ys,x,y,hqx,hqy,hx,hy⟩:=hg
    obtain⟨its,rv,p⟩:=I.sqB hqx
    obtain⟨its2,rv2,p2⟩:=I.sqB hqy
    obtain⟨u,hu,ru⟩:=rv.get hx
    obtain⟨v,hv,rv'⟩:=rv2.get hy
    obtain⟨hz,hTI,⟨c,d,hTO⟩,h1,h2⟩:=st
    refine Wb D hz hTI hTO h1 h2 p p2 (x:=u) (y:=v) (by simpa using hu) (by simpa using hv) fun g a1 a2 a3 a4 a5 a6 hk=>⟨_,rfl,?_⟩
    refine wpAny_letOwnedTupleGo_zip a1 fun g2 hz2 sb2=> ?_
    replace sb2:Heap.SameBut z g g2:=sb2
    have lt:∀b∈ [z,TI,TO,i1,i2],b≠s.heap.objs.size:=fun b hb=>by
      obtain⟨o1,e1,_⟩:=h1.there
      obtain⟨o2,e2,_⟩:=h2.there
      simp only [List.mem_cons,List.not_mem_nil,or_false]at hb
      rcases hb with rfl | rfl | rfl | rfl | rfl
      . exact Nat.ne_of_lt (Heap.lt_size hz)
      . exact Nat.ne_of_lt (Heap.lt_size hTI)
      . exact Nat.ne_of_lt (Heap.lt_size hTO)
      . exact Nat.ne_of_lt (Heap.lt_size e1)
      . exact Nat.ne_of_lt (Heap.lt_size e2)
    have hn:H s.heap.objs.size=none:=I.fresh
    have I1:Inv X pins σ (upd H s.heap.objs.size (.tup [x,y])) { s with heap:=s.heap.push { cls:= .type "tuple",data:= .seq #[u,v]},toks:=s.toks}:=
      I.laid (fun b o q=>Heap.get?_push_of_some _ q) (Nat.le_refl _) ⟨by show 2<=sizeLine;decide,[u,v],.cons ru (.cons rv' .nil),⟨_,Heap.get?_push_size _ rfl,rfl,_,rfl⟩⟩
    have fp':∀b∈ [z,TI,TO,i1,i2],Q5 X pins (upd H s.heap.objs.size (.tup [x,y])) b:=fun b hb=>
      ⟨by rw [Bs (lt b hb)];exact(hf b hb).1,(hf b hb).2⟩
    have I2:=I1.turnL (h':=g2) (t':=s.toks) (fp:=[z,TI,TO,i1,i2]) (fun b o hb q=>by
      have n1:b≠z:=fun e=>hb (by simp [e])
      refine(sb2.2 b n1).trans ?_
      rcases Heap.get?_push_cases q with⟨rfl,rfl⟩ | q0
      . exact a5
      . exact hk b o n1 (fun e=>hb (by simp [e])) (fun e=>hb (by simp [e])) (fun e=>hb (by simp [e])) q0) fp'
    refine⟨.ref s.heap.objs.size,_,I2,rfl,⟨_,x,y,fun zs hz=>by rw [I.sqB_inj hz hqx];exact hx,fun zs hz=>by rw [I.sqB_inj hz hqy];exact hy,hn,rfl,rfl⟩,⟨hz2,?_,⟨u,v,sb2.extBut _ _ D.TOz a2⟩,a3.ext sb2.extBut D.i1z,a4.ext sb2.extBut D.i2z⟩,fun b hb=>(fp' b hb).1⟩
    exact sb2.extBut _ _ D.TIz (hk _ _ D.TIz D.TITO D.TIi1 D.TIi2 hTI)
  done:=by
    intro X hP hw hK hc i pins s σ H E I hf st hg
    subst hP hw hK
    obtain⟨xs,ys,hqx,hqy,hxy⟩:=hg
    obtain⟨its,rv,p⟩:=I.sqB hqx
    obtain⟨its2,rv2,p2⟩:=I.sqB hqy
    obtain⟨hz,hTI,⟨c,d,hTO⟩,h1,h2⟩:=st
    have l1:=rv.length
    have l2:=rv2.length
    exact Vh (I.ok.hd hc) D hz hTI hTO h1 h2 p p2 (by
      rcases hxy with h | h
      . exact .inl (by simp;omega)
      . exact .inr (by simp;omega)) fun g hk=>⟨rfl,I.turnL (t':=s.toks) (fp:=[z,TI,TO,i1,i2]) (fun b o hb q=>hk b o (fun e=>hb (by simp [e])) (fun e=>hb (by simp [e])) (fun e=>hb (by simp [e])) (fun e=>hb (by simp [e])) q) hf⟩
  self:=fun _ _ _ _ _ st h=>wpAny_pyIter_zip st.1 h
section
variable {X:Cx}{a b:Expr}{ta:TA}{el:List Expr}{x1}{tp p pos:Pos}
def Aa3 (t1 t2:Bool) (K:PySem.W.Frag) (ta:TA):TI:=fun σ H R=>ta σ H fun vs H1=>∃a b,vs=[.ref a,.ref b]/\(∃xs,SqB t1 K H1 a xs)/\(∃ys,SqB t2 K H1 b ys)/\R (Ac1 t1 t2 K a b) H1
theorem Lg (t1 t2:Bool) (hg:Gl X "zip") (hm:X.mg "zip"=none) (ha:PA X [a,b] ta) (hs:starEach [a,b] X.env=[(false,eval a X.env),(false,eval b X.env)]:=by rfl) (hs2:starEach [b] X.env=[(false,eval b X.env)]:=by rfl):
    PI X (.Tuple el x1 tp) (.Call (.Name "zip" p) [a,b] [] pos) (Aa3 t1 t2 X.K ta):=by
  intro pins s σ H R I h
  refine Call_ (Nt I hg hm boot_zip (PyProof.Rows.callWith_type1 (thn (ha pos pins s σ H _ I h) fun us s1 ⟨vs,H1,I1,r1,q1⟩=> ?_) (by rw [hs,hs2]) (by rw [hs2];rfl)))
  obtain⟨u,v,rfl,⟨xs,hqx⟩,⟨ys,hqy⟩,q⟩:=q1
  obtain⟨v1,v2,rfl,r1,r2⟩:=vals2 r1
  cases r1
  cases r2
  obtain⟨its,rx,px⟩:=I1.sqB hqx
  obtain⟨its2,ry,py⟩:=I1.sqB hqy
  have lt1:u<s1.heap.objs.size:=by
    cases t1
    . obtain⟨o,e,_⟩:=(show s1.heap.IsList u _ from px)
      exact Heap.lt_size e
    . obtain⟨o,e,_⟩:=(show s1.heap.IsTuple u _ from px)
      exact Heap.lt_size e
  have lt2:v<s1.heap.objs.size:=by
    cases t2
    . obtain⟨o,e,_⟩:=(show s1.heap.IsList v _ from py)
      exact Heap.lt_size e
    . obtain⟨o,e,_⟩:=(show s1.heap.IsTuple v _ from py)
      exact Heap.lt_size e
  refine Xf px py fun h' hz hTI hTO hi1 hi2 hk=> ?_
  have I2:Inv X pins σ H1 { s1 with heap:=h'}:=I1.kept (t':=s1.toks) fun c o' e=>hk c o' e
  refine wpAny_pyIter_zip hz ⟨s1.heap.objs.size+4,[s1.heap.objs.size+4,s1.heap.objs.size+2,s1.heap.objs.size+3,s1.heap.objs.size,s1.heap.objs.size+1],_,_,H1,rfl,I2,Xj t1 t2 u v _ _ _ _ _ (zipApart_new lt1 lt2),⟨hz,hTI,⟨_,_,hTO⟩,hi1,hi2⟩,fun c hcm=> ?_,q⟩
  have hge:s1.heap.objs.size<=c:=by
    simp only [List.mem_cons,List.not_mem_nil,or_false]at hcm
    rcases hcm with rfl | rfl | rfl | rfl | rfl
    . exact Nat.le_add_right _ 4
    . exact Nat.le_add_right _ 2
    . exact Nat.le_add_right _ 3
    . exact Nat.le_refl _
    . exact Nat.le_add_right _ 1
  exact I1.fpOk hge (I1.hok.fresh hge)
end
theorem Dd {t1 t2:Bool}{K:PySem.W.Frag}{ta:TA}{σ:St}{H:Hp}{R:It->Hp->Prop}:Aa3 t1 t2 K ta σ H R=ta σ H (fun vs H1=>∃a b,vs=[.ref a,.ref b]/\(∃xs,SqB t1 K H1 a xs)/\(∃ys,SqB t2 K H1 b ys)/\R (Ac1 t1 t2 K a b) H1):=rfl
theorem Aar {t1 t2:Bool}{K:PySem.W.Frag}{σ:St}{H:Hp}{g:TG}{tb:TS}{D:Ends}{a b:Addr}{xs ys:List V} (n:Nat) (hn:n=min xs.length ys.length) (Pv:Nat->St->Hp->Prop) (h0:Pv 0 σ H)
    (hw:∀i σ H,Pv i σ H->SqB t1 K H a xs/\SqB t2 K H b ys)
    (hs:∀i σ H p,i<n->Pv i σ H->H p=none->g (.ref p) σ (upd H p (.tup [xs.getD i .non,ys.getD i .non])) fun σ2 H2=>tb { D with nx:=Pv (i+1),ct:=Pv (i+1),bk:=D.nx} σ2 H2) (hd:∀σ H,Pv n σ H->D.nx σ H):FI (Ac1 t1 t2 K a b) g tb D σ H:=by
  refine⟨fun i m σ H=>m=n-i/\i<=n/\Pv i σ H,⟨n,by simp,Nat.zero_le _,h0⟩,?_⟩
  rintro i m σ H ⟨rfl,hi,p⟩
  obtain⟨wx,wy⟩:=hw _ _ _ p
  by_cases he:i=n
  . subst he
    exact .inl ⟨⟨xs,ys,wx,wy,by omega⟩,hd _ _ p⟩
  . have hl:i<n:=by omega
    have ex:xs[i]? =some (xs.getD i .non):=by rw [List.getD_eq_getElem?_getD,List.getElem?_eq_getElem (by omega)];rfl
    have ey:ys[i]? =some (ys.getD i .non):=by rw [List.getD_eq_getElem?_getD,List.getElem?_eq_getElem (by omega)];rfl
    refine .inr ⟨⟨xs,ys,_,_,wx,wy,ex,ey⟩,Pv (i+1),fun σ' H' p'=>⟨n-(i+1),by omega,rfl,hl,p'⟩,fun x H3 y=> ?_⟩
    obtain⟨q,u,v,hu,hv,hq,rfl,rfl⟩:=y
    have eu:=hu _ wx
    have ev:=hv _ wy
    rw [ex]at eu
    rw [ey]at ev
    cases eu
    cases ev
    exact hs i σ H q hl p hq
end L2
namespace L2
open PySem PySem.Spec PyProof.Rows
set_option maxRecDepth 100000
abbrev TB:=St->Hp->(St->Hp->Prop)->XK->Prop
def Aey (sp:Sp) (g:V->St->St) (ta:TA):TB:=fun σ H N E=>ta σ H fun vs H1=>sp vs H1 (fun v H2=>N (g v σ) H2) E
def bIf (tc:TT) (t u:TB):TB:=fun σ H N E=>tc σ H fun b H1=>if b=true then t σ H1 N E else u σ H1 N E
def Aez (C:Addr) (i:Nat) (tb:TB) (ts:Addr->Obj->TS):TS:=fun D σ H=>tb σ H (fun σ' H'=>D.nx σ' H')
  (fun c _ H2=>c= .ref C/\∀x oe,oe.cls= .ref C->ts x oe { nx:=fun σ' H'=>D.nx (σ'.set i none) H',rt:=D.rt,bk:=fun σ' H'=>D.bk (σ'.set i none) H',ct:=fun σ' H'=>D.ct (σ'.set i none) H'} (σ.set i (some (.ref x))) H2)
theorem Dc {sp:Sp}{g:V->St->St}{ta:TA}{σ:St}{H:Hp}{N:St->Hp->Prop}{E:XK}:Aey sp g ta σ H N E=ta σ H fun vs H1=>sp vs H1 (fun v H2=>N (g v σ) H2) E:=rfl
theorem Ks {tc:TT}{t u:TB}{σ:St}{H:Hp}{N:St->Hp->Prop}{E:XK}:bIf tc t u σ H N E=tc σ H fun b H1=>if b=true then t σ H1 N E else u σ H1 N E:=rfl
theorem Em {C:Addr}{i:Nat}{tb:TB}{ts:Addr->Obj->TS}{D:Ends}{σ:St}{H:Hp}:Aez C i tb ts D σ H=tb σ H (fun σ' H'=>D.nx σ' H')
  (fun c _ H2=>c= .ref C/\∀x oe,oe.cls= .ref C->ts x oe { nx:=fun σ' H'=>D.nx (σ'.set i none) H',rt:=D.rt,bk:=fun σ' H'=>D.bk (σ'.set i none) H',ct:=fun σ' H'=>D.ct (σ'.set i none) H'} (σ.set i (some (.ref x))) H2):=rfl
end L2
namespace L2
open PySem PySem.Spec PySem.Calls PyProof.Rows
theorem N7:∀ {ns:List Int}{us:List Value},IntsAre us ns->Vals (ns.map V.int) us
  | _,_,.nil=> .nil
  | _,_,.cons _ t r=> .cons ⟨t,rfl⟩ (N7 r)
theorem T4:∀ {ns:List Int}{vs:List Value},vs.length=ns.length->(∀(j:Nat) (v:Value),vs[j]? =some v->∃(i:Int) (t:Tok),ns[j]? =some i/\v= .int i t)->IntsAre vs ns
  | [],[],_,_=> .nil
  | [],_::_,h,_=>by simp at h
  | _::_,[],h,_=>by simp at h
  | n::ns,v::vs,h,k=>by
    obtain⟨i,t,e1,rfl⟩:=k 0 v rfl
    have e2:n=i:=by simpa using e1
    subst e2
    exact .cons n t (T4 (by simpa using h) fun j u hu=>by
      obtain⟨i,t,e,e'⟩:=k (j+1) u (by simpa using hu)
      exact⟨i,t,by simpa using e,e'⟩)
theorem KV.keysL {kvs:List (Key × V)}{vs:List (Key × Value)} (r:KV kvs vs):kvs.map (·.1)=vs.map (·.1):=by
  unfold KV at r
  induction r with
  | nil=>rfl
  | cons h _ ih=>rw [List.map_cons,List.map_cons,h.1,ih]
theorem Uo {X:Cx} (hc:X.calm=true):Hy X (.builtin "sorted") (fun xs H Q=>∃(d:Addr) (kvs:List (Key × V)) (ns:List Int),xs=[.ref d]/\H d=some (.dK kvs)/\kvs.map (·.1)=ns.map Sum.inl/\ns.length<64/\∀(l:Addr) (ms:List Int),H l=none->ms.Perm ns->ms.Pairwise (· <= ·)->Q (.ref l) (upd H l (.lst (ms.map V.int)))):=by
  intro pins s σ H xs us Q I r h
  obtain⟨d,kvs,ns,rfl,hd,hk,h64,q⟩:=h
  obtain⟨u,rfl,ru⟩:=vals1 r
  cases ru
  obtain⟨hz,lo,vs,rel,dd⟩:kvs.length<=sizeLine/\(d==sysModules)=false/\∃vs,KV kvs vs/\s.heap.DictOf (Cm X.prog X.w) d vs:=I.hok d _ hd
  obtain⟨ep,hat⟩:=dd.dictAt
  have ek:vs.map (·.1)=ns.map Sum.inl:=by rw [<-rel.keysL,hk]
  have hn:vs.length=ns.length:=by
    have:=congrArg List.length ek
    simpa using this
  have hs:vs.length<=sizeLine:=by rw [hn];exact Nat.le_trans (Nat.le_of_lt h64) (by decide)
  refine call_function_entry kind_sorted plain_sorted entry_sorted (args_sorted1 _) ?_
  unfold Builtin.«sorted»
  refine wpAny_bind (m:=checkCount "sorted" 1 1 _) (wpAny_pure ?_)
  refine wpAny_bind (PySem.W.kdu_collect (PySem.W.kdl_dict (knd:=Cm X.prog X.w) (kvs:=vs) (ep:=ep) lo) (I.ok.hd hc) hat hs fun h' tk acc hkeep hacc=> ?_)
  have hl:acc.toList.length=ns.length:=by rw [Array.length_toList,<-hn];exact hacc.1
  have hI:IntsAre acc.toList ns:=T4 hl fun j v e=>by
    obtain⟨k,x,hx,hv⟩:=hacc.2 j v (by rw [<-Array.getElem?_toList];exact e)
    have e1:(vs.map (·.1))[j]? =some k:=by rw [List.getElem?_map,hx];rfl
    rw [ek,List.getElem?_map]at e1
    obtain⟨i,hi,rfl⟩:=Option.map_eq_some_iff.mp e1
    obtain⟨t,rfl⟩:=Value.isInt_shape (k:=i) (v:=v) hv
    exact⟨i,t,hi,rfl⟩
  refine wpAny_bind (wpAny_newList ?_ (by rw [hl,<-hn];exact hs))
  have hoL:(h'.push (seqObj "list" acc.toList.toArray 0)).get? h'.objs.size=some (seqObj "list" acc.toList.toArray 0):=Heap.get?_push_size _ rfl
  refine wpAny_bind (wpAny_holding (wpAny_call_entry slot_list_sort ⟨_,hoL,rfl⟩ entry_list_sort (list_sort_tree hoL hI (by rw [hl];exact h64) fun out ns' a1 a2 a3=>⟨_,rfl,?_⟩) (args_list_sort _)))
  refine wpAny_pure ⟨_,rfl,?_⟩
  obtain⟨e,he⟩:=sortedHeap_at (out:=out) hoL
  have hlen:ns'.length=ns.length:=a2.length_eq
  have I1:Inv X pins σ H { s with heap:=h',toks:=tk}:=I.kept hkeep
  have kp:∀b o,h'.get? b=some o->(sortedHeap (h'.push (seqObj "list" acc.toList.toArray 0)) h'.objs.size acc.toList out).get? b=some o:=fun b o e1=>by
    have lt:b<h'.objs.size:=Heap.lt_size e1
    rw [sortedHeap_old (Nat.ne_of_lt lt) (by rw [size_push'];exact Nat.lt_succ_of_lt lt),Heap.get?_push_ne _ _ _ (Nat.ne_of_lt lt)]
    exact e1
  exact⟨.ref h'.objs.size,_,I1.laid (a:=h'.objs.size) (t':=tk) kp (Nat.le_refl _) (show Dl X.prog X.w _ _ _ (.lst (ns'.map V.int))from⟨by rw [List.length_map,hlen,<-hn];exact hs,out.toList,e,N7 a1,he⟩),rfl,q _ ns' (I1.hok.fresh (Nat.le_refl _)) a2 a3⟩
end L2
namespace L2
open PySem PySem.Spec PyProof.Rows
section
variable {κ:Type} [DecidableEq κ]
def Hz (kvs:List (κ × V)) (k:κ):Option V:=(kvs.find? fun kv=>decide (kv.1=k)).map (·.2)
def putK (kvs:List (κ × V)) (k:κ) (v:V):List (κ × V):=
  if(kvs.any fun kv=>decide (kv.1=k))=true then kvs.map (fun kv=>if kv.1=k then(kv.1,v)else kv)else kvs++ [(k,v)]
def Ab4 (kvs:List (κ × V)) (k:κ):List (κ × V):=kvs.filter fun kv=>decide (kv.1≠k)
theorem Dm {p:κ × V}{r:List (κ × V)}{k:κ} (e:p.1=k):Hz (p::r) k=some p.2:=by simp [Hz,List.find?_cons,e]
theorem Dk {p:κ × V}{r:List (κ × V)}{k:κ} (e:¬p.1=k):Hz (p::r) k=Hz r k:=by simp [Hz,List.find?_cons,e]
theorem Gv (k:κ):∀kvs:List (κ × V),(kvs.any fun kv=>decide (kv.1=k))=(Hz kvs k).isSome
  | []=>rfl
  | p::r=>by
    rw [List.any_cons]
    by_cases e:p.1=k
    . simp only [Dm e,decide_eq_true e,Bool.true_or,Option.isSome_some]
    . rw [Dk e,decide_eq_false e,Bool.false_or];exact Gv k r
theorem Te (k j:κ) (y:V):∀kvs:List (κ × V),Hz (kvs.map fun kv=>if kv.1=k then(kv.1,y)else kv) j=(Hz kvs j).map fun x=>if j=k then y else x
  | []=>rfl
  | p::r=>by
    have ih:=Te k j y r
    rw [List.map_cons]
    by_cases h:p.1=k
    . rw [if_pos h]
      by_cases e:p.1=j
      . rw [Dm (p:=(p.1,y)) e,Dm e,Option.map_some,if_pos (e.symm.trans h)]
      . rw [Dk (p:=(p.1,y)) e,Dk e,ih]
    . rw [if_neg h]
      by_cases e:p.1=j
      . rw [Dm (p:=p) e,Dm e,Option.map_some,if_neg (fun z=>h (e.trans z))]
      . rw [Dk (p:=p) e,Dk e,ih]
theorem Qn (k j:κ) (y:V):∀kvs:List (κ × V),Hz kvs k=none->Hz (kvs++ [(k,y)]) j=if j=k then some y else Hz kvs j
  | [],_=>by
    by_cases e:k=j
    . rw [if_pos e.symm];exact Dm (p:=(k,y)) e
    . rw [if_neg (fun z=>e z.symm)];exact Dk (p:=(k,y)) e
  | p::r,hn=>by
    rw [List.cons_append]
    have hk:¬p.1=k:=fun z=>by rw [Dm z]at hn;cases hn
    rw [Dk hk]at hn
    have ih:=Qn k j y r hn
    by_cases e:p.1=j
    . rw [Dm e,Dm e,if_neg (fun z=>hk (e.trans z))]
    . rw [Dk e,Dk e,ih]
theorem Yr (kvs:List (κ × V)) (k j:κ) (y:V):Hz (putK kvs k y) j=if j=k then some y else Hz kvs j:=by
  unfold putK
  by_cases a:(kvs.any fun kv=>decide (kv.1=k))=true
  . rw [if_pos a,Te]
    rw [Gv]at a
    by_cases e:j=k
    . obtain⟨x,hx⟩:=Option.isSome_iff_exists.mp a
      rw [if_pos e,e,hx,Option.map_some,if_pos rfl]
    . rw [if_neg e]
      cases Hz kvs j with
      | none=>rfl
      | some x=>rw [Option.map_some,if_neg e]
  . rw [if_neg a]
    refine Qn k j y kvs ?_
    rw [Gv]at a
    cases q:Hz kvs k with
    | none=>rfl
    | some x=>rw [q]at a;exact(a rfl).elim
theorem Mu (kvs:List (κ × V)) (k:κ) (v:V):(putK kvs k v).length<=kvs.length+1:=by
  unfold putK
  split
  . rw [List.length_map];omega
  . rw [List.length_append,List.length_cons,List.length_nil];omega
theorem Yq {kvs:List (κ × V)}{k:κ} (v:V) (h:Hz kvs k=none):putK kvs k v=kvs++ [(k,v)]:=by
  unfold putK
  rw [Gv,h]
  exact if_neg (by decide)
theorem Ur.isSome_eq {o:Option V}{u:Option Value} (r:Ur o u):o.isSome=u.isSome:=by
  cases o with
  | none=>cases u with
    | none=>rfl
    | some _=>exact(show False from r).elim
  | some _=>cases u with
    | none=>exact(show False from r).elim
    | some _=>rfl
theorem Ur.getD {o:Option V}{u:Option Value}{d:V}{d':Value} (r:Ur o u) (rd:RelV d d'):RelV (o.getD d) (u.getD d'):=by
  cases o with
  | none=>cases u with
    | none=>exact rd
    | some _=>exact(show False from r).elim
  | some _=>cases u with
    | none=>exact(show False from r).elim
    | some _=>exact r
theorem KV.val {kvs:List (κ × V)}{vs:List (κ × Value)} (r:KV kvs vs) (k:κ):Ur (Hz kvs k) (valueAt vs k):=by
  unfold KV at r
  induction r with
  | nil=>exact True.intro
  | @cons p q ps qs h t ih=>
    obtain⟨h1,h2⟩:=h
    by_cases e:p.1=k
    . have e':q.1=k:=h1.symm.trans e
      have b:valueAt (q::qs) k=some q.2:=by simp [valueAt,List.find?_cons,e']
      rw [Dm e,b];exact h2
    . have e':¬q.1=k:=fun z=>e (h1.trans z)
      have b:valueAt (q::qs) k=valueAt qs k:=by simp [valueAt,List.find?_cons,e']
      rw [Dk e,b];exact ih
theorem KV.any {kvs:List (κ × V)}{vs:List (κ × Value)} (r:KV kvs vs) (k:κ):(kvs.any fun kv=>decide (kv.1=k))=vs.any fun kv=>decide (kv.1=k):=by
  unfold KV at r
  induction r with
  | nil=>rfl
  | cons h t ih=>rw [List.any_cons,List.any_cons,ih,h.1]
theorem KV.repl {kvs:List (κ × V)}{vs:List (κ × Value)} (r:KV kvs vs) (k:κ) {y:V}{u:Value} (ry:RelV y u):
    KV (kvs.map fun kv=>if kv.1=k then(kv.1,y)else kv) (vs.map fun kv=>if kv.1=k then(kv.1,u)else kv):=by
  unfold KV at r ⊢
  induction r with
  | nil=>exact .nil
  | @cons p q ps qs h t ih=>
    rw [List.map_cons,List.map_cons]
    refine .cons ?_ ih
    obtain⟨h1,h2⟩:=h
    by_cases e:p.1=k
    . rw [if_pos e,if_pos (h1.symm.trans e)];exact⟨h1,ry⟩
    . rw [if_neg e,if_neg (fun z=>e (h1.trans z))];exact⟨h1,h2⟩
theorem KV.put {kvs:List (κ × V)}{vs:List (κ × Value)} (r:KV kvs vs) (k:κ) {y:V}{u:Value} (ry:RelV y u):KV (putK kvs k y) (stored vs k u):=by
  unfold putK stored
  rw [r.any k]
  by_cases e:(vs.any fun kv=>decide (kv.1=k))=true
  . rw [if_pos e,if_pos e];exact r.repl k ry
  . rw [if_neg e,if_neg e];exact Paired.snoc r ⟨rfl,ry⟩
theorem KV.drop {kvs:List (κ × V)}{vs:List (κ × Value)} (r:KV kvs vs) (k:κ):KV (Ab4 kvs k) (without vs k):=by
  unfold KV at r ⊢
  unfold Ab4 without
  induction r with
  | nil=>exact .nil
  | @cons p q ps qs h t ih=>
    obtain⟨h1,h2⟩:=h
    rw [List.filter_cons,List.filter_cons]
    by_cases e:p.1=k
    . have a:¬decide (p.1≠k)=true:=by simp [e]
      have b:¬decide (q.1≠k)=true:=by simp [h1.symm.trans e]
      rw [if_neg a,if_neg b];exact ih
    . have e':¬q.1=k:=fun z=>e (h1.trans z)
      have a:decide (p.1≠k)=true:=by simp [e]
      have b:decide (q.1≠k)=true:=by simp [e']
      rw [if_pos a,if_pos b];exact .cons ⟨h1,h2⟩ ih
theorem KV.length {kvs:List (κ × V)}{vs:List (κ × Value)} (r:KV kvs vs):kvs.length=vs.length:=Paired.length r
end
theorem Yu {P:Program}{w:World}{k:Key}{u:Value} (r:RelV (kV k) u):(Cm P w).is k u=true:=by
  cases k with
  | inl i=>obtain⟨t,e⟩:=(show ∃t,u=Value.int i t from r);subst e;exact Q6 P w i t
  | inr x=>obtain⟨t,e⟩:=(show ∃t,u=Value.str x t from r);subst e;exact Rf P w x t
theorem Pn {P:Program}{w:World}:∀ {ks:List Key}{us:List Value},Vals (ks.map kV) us->ItemsAre (Cm P w) ks us
  | [],_,r=>by rw [List.map_nil]at r;cases r;exact .nil
  | k::ks,_,r=>by
    rw [List.map_cons]at r
    cases r with
    | cons h t=>exact .cons (Yu h) (Pn t)
abbrev KT (H:Hp):List (List Key × V)->List (List Key × Addr × Value)->Prop:=Paired fun p q=>p.1=q.1/\H q.2.1=some (.tup (p.1.map kV))/\RelV p.2 q.2.2
theorem KT.val {H:Hp}{kvs:List (List Key × V)}{xs:List (List Key × Addr × Value)} (r:KT H kvs xs) (k:List Key):Ur (Hz kvs k) ((atKey xs k).map (·.2)):=by
  induction r with
  | nil=>exact True.intro
  | @cons p q ps qs h t ih=>
    obtain⟨h1,_,h2⟩:=h
    by_cases e:p.1=k
    . have e':q.1=k:=h1.symm.trans e
      have b:atKey (q::qs) k=some q.2:=by simp [atKey,List.find?_cons,e']
      rw [Dm e,b];exact h2
    . have e':¬q.1=k:=fun z=>e (h1.trans z)
      have b:atKey (q::qs) k=atKey qs k:=by simp [atKey,List.find?_cons,e']
      rw [Dk e,b];exact ih
theorem KT.repl {H:Hp}{kvs:List (List Key × V)}{xs:List (List Key × Addr × Value)} (r:KT H kvs xs) (k:List Key) {y:V}{u:Value} (ry:RelV y u):
    KT H (kvs.map fun kv=>if kv.1=k then(kv.1,y)else kv) (xs.map (putAt k u)):=by
  induction r with
  | nil=>exact .nil
  | @cons p q ps qs h t ih=>
    rw [List.map_cons,List.map_cons]
    refine .cons ?_ ih
    obtain⟨h1,h2,h3⟩:=h
    unfold putAt
    by_cases e:p.1=k
    . rw [if_pos e,if_pos (h1.symm.trans e)];exact⟨h1,h2,ry⟩
    . rw [if_neg e,if_neg (fun z=>e (h1.trans z))];exact⟨h1,h2,h3⟩
theorem KT.put {H:Hp}{kvs:List (List Key × V)}{xs:List (List Key × Addr × Value)} (r:KT H kvs xs) (k:List Key) {b:Addr}{y:V}{u:Value} (hb:H b=some (.tup (k.map kV))) (ry:RelV y u):
    KT H (putK kvs k y) (storedH xs k b u):=by
  have e:(kvs.any fun kv=>decide (kv.1=k))=(atKey xs k).isSome:=by
    rw [Gv,(r.val k).isSome_eq,Option.isSome_map]
  unfold putK storedH
  rw [e]
  by_cases q:(atKey xs k).isSome=true
  . rw [if_pos q,if_pos q];exact r.repl k ry
  . rw [if_neg q,if_neg q];exact Paired.snoc r ⟨rfl,hb,ry⟩
theorem KT.keeps {H H':Hp}{kvs:List (List Key × V)}{xs:List (List Key × Addr × Value)} (r:KT H kvs xs) (ht:∀b ys,H b=some (.tup ys)->H' b=some (.tup ys)):KT H' kvs xs:=
  Paired.mapP r fun _ _ z=>⟨z.1,ht _ _ z.2.1,z.2.2⟩
section
variable {P:Program}{w:World}{H:Hp}{h:Heap}{a:Addr}
theorem Ac9 {u:HO} (ok:HOk P w H h) (e:Rd H a u):Dl P w H h a u:=e.ok ok
theorem W9 {kvs:List (Key × V)} (ok:HOk P w H h) (e:Rd H a (.dK kvs)):kvs.length<=sizeLine/\(a==sysModules)=false/\∃vs,KV kvs vs/\h.DictOf (Cm P w) a vs:=
  show Dl P w H h a (.dK kvs)from Ac9 ok e
theorem Aex {kvs:List (Key × V)} (ok:HOk P w H h) (e:H a=some (.dK kvs)):kvs.length<=sizeLine/\(a==sysModules)=false/\∃vs,KV kvs vs/\h.DictOf (Cm P w) a vs:=W9 ok (.inl e)
theorem Tc {ks:List Key} (ok:HOk P w H h) (e:H a=some (.tup (ks.map kV))):(tupleKind (Cm P w)).is h ks a:=by
  obtain⟨_,its,r,o,h1,h2,n,h3⟩:=(show Dl P w H h a (.tup (ks.map kV))from ok a _ e)
  exact⟨o,its.toArray,n,h1,h2,h3,by simpa using Pn r⟩
theorem V0 {kvs:List (List Key × V)} (ok:HOk P w H h) (e:Rd H a (.dT kvs)):kvs.length<=sizeLine/\(a==sysModules)=false/\
    ∃xs,KT H kvs xs/\h.DictOfH (tupleKind (Cm P w)) a xs:=by
  obtain⟨z,y,xs,r,o,es,ep,h1,h2,h3,h4,h5⟩:=(show Dl P w H h a (.dT kvs)from Ac9 ok e)
  refine⟨z,y,xs,r,o,es,ep,h1,h2,h3,h4,fun x hx=> ?_,h5⟩
  have all:∀ {l:List (List Key × V)}{m:List (List Key × Addr × Value)},KT H l m->∀x∈m,(tupleKind (Cm P w)).is h x.1 x.2.1:=by
    intro l m q
    induction q with
    | nil=>intro x hx;exact nomatch hx
    | @cons p q ps qs hq t ih=>
      intro x hx
      rcases List.mem_cons.mp hx with e | hx
      . subst e
        exact Tc ok (by rw [<-hq.1];exact hq.2.1)
      . exact ih x hx
  exact all r x hx
theorem Aet {kvs:List (List Key × V)} (ok:HOk P w H h) (e:H a=some (.dT kvs)):kvs.length<=sizeLine/\(a==sysModules)=false/\
    ∃xs,KT H kvs xs/\h.DictOfH (tupleKind (Cm P w)) a xs:=V0 ok (.inl e)
end
def U0 (H:Hp) (a:Addr) (y:V) (r:Option V):Prop:=
  (∃kvs k,Rd H a (.dK kvs)/\y=kV k/\r=Hz kvs k)\/∃kvs k b,Rd H a (.dT kvs)/\y= .ref b/\H b=some (.tup (k.map kV))/\r=Hz kvs k
def Zr (H:Hp) (a:Addr) (y v:V) (H':Hp):Prop:=
  (∃kvs k,H a=some (.dK kvs)/\y=kV k/\kvs.length<sizeLine/\H'=upd H a (.dK (putK kvs k v)))\/
  ∃kvs k b,H a=some (.dT kvs)/\y= .ref b/\H b=some (.tup (k.map kV))/\kvs.length<sizeLine/\H'=upd H a (.dT (putK kvs k v))
theorem U0.k {H:Hp}{a:Addr}{kvs:List (Key × V)}{k:Key} (e:H a=some (.dK kvs)):U0 H a (kV k) (Hz kvs k):= .inl ⟨kvs,k,.inl e,rfl,rfl⟩
theorem U0.t {H:Hp}{a b:Addr}{kvs:List (List Key × V)}{k:List Key} (e:H a=some (.dT kvs)) (eb:H b=some (.tup (k.map kV))):U0 H a (.ref b) (Hz kvs k):= .inr ⟨kvs,k,b,.inl e,rfl,eb,rfl⟩
theorem Zr.k {H:Hp}{a:Addr}{kvs:List (Key × V)}{k:Key}{v:V} (e:H a=some (.dK kvs)) (hl:kvs.length<sizeLine):Zr H a (kV k) v (upd H a (.dK (putK kvs k v))):= .inl ⟨kvs,k,e,rfl,hl,rfl⟩
theorem Zr.t {H:Hp}{a b:Addr}{kvs:List (List Key × V)}{k:List Key}{v:V} (e:H a=some (.dT kvs)) (eb:H b=some (.tup (k.map kV))) (hl:kvs.length<sizeLine):
    Zr H a (.ref b) v (upd H a (.dT (putK kvs k v))):= .inr ⟨kvs,k,b,e,rfl,eb,hl,rfl⟩
section
variable {X:Cx}{pins:List (Addr × Obj)}{σ:St}{H:Hp}{s:Shared}{a:Addr}{y v:V}{u r:Value}{o:Option V}{A:Around}{E:Value->Shared->Prop}
theorem Inv.big (I:Inv X pins σ H s):sysModules<s.heap.objs.size:=by
  have h:mainGlobals<s.heap.objs.size:=(I.mod.glob.keeps I.bk).lt
  exact Nat.lt_trans (by decide) h
theorem Wq {Q:Value->Shared->Prop} (hu:A.units+1<cLine) (I:Inv X pins σ H s) (g:U0 H a y (some v)) (ry:RelV y u) (h:∀w' s',Inv X pins σ H s'->RelV v w'->Q w' s'):
    wpAny (model X.prog X.w) A (getItem (.ref a) u) Q E s:=by
  rcases g with⟨kvs,k,e,ey,l⟩ | ⟨kvs,k,b,e,ey,eb,l⟩
  . subst ey
    obtain⟨z,hd,vs,rel,dd⟩:=W9 I.hok e
    obtain⟨w',hw,rw'⟩:=Ur.some_of (v:=v) (o:=valueAt vs k) (by rw [l];exact rel.val k)
    exact wpAny_getItem_of (Yu ry) dd.mapOf hw (h w' _ (I.tok _) rw')
  . subst ey
    cases(show u=Value.ref b from ry)
    obtain⟨z,hd,xs,rel,dd⟩:=V0 I.hok e
    obtain⟨w',hw,rw'⟩:=Ur.some_of (v:=v) (o:=(atKey xs k).map (·.2)) (by rw [l];exact rel.val k)
    obtain⟨p,hp,hp2⟩:=Option.map_eq_some_iff.mp hw
    refine wpAny_getItem_heap (tupleKind_room_in1 hu) (Tc I.hok eb) dd hp ?_
    rw [hp2]
    exact h w' _ (I.tok _) rw'
theorem Xm {h':Heap}{t':Nat}{ob:HO} (I:Inv X pins σ H s) (mu:Mut (H a)) (hs:Heap.SameBut a s.heap h') (he:∃q,h'.get? a=some q) (new:Dl X.prog X.w (upd H a ob) h' a ob):
    Inv X pins σ (upd H a ob) { s with heap:=h',toks:=t'}:=
  I.write (x:=a) (e:=a) mu (.inl rfl) (fun b q hb z=>(hs.2 b hb).trans z) he new
theorem Aci {P:Program}{w:World}{H':Hp}{h':Heap}{kvs:List (Key × V)}{vs:List (Key × Value)} (z:kvs.length<=sizeLine) (hd:(a==sysModules)=false) (rel:KV kvs vs) (dd:h'.DictOf (Cm P w) a vs):
    Dl P w H' h' a (.dK kvs):=⟨z,hd,vs,rel,dd⟩
theorem W0 {H':Hp}{Q:Unit->Shared->Prop} (hu:A.units+1<cLine) (I:Inv X pins σ H s) (g:Zr H a y v H') (ry:RelV y u) (rv:RelV v r) (h:∀s',Inv X pins σ H' s'->Q () s'):
    wpAny (model X.prog X.w) A (setItem (.ref a) u r) Q E s:=by
  rcases g with⟨kvs,k,e,ey,l,eH⟩ | ⟨kvs,k,b,e,ey,eb,l,eH⟩
  . subst ey eH
    obtain⟨z,hd,vs,rel,dd⟩:=Aex I.hok e
    have hz:vs.length<=sizeLine:=by rw [<-rel.length];exact z
    have hl:(putK kvs k v).length<=sizeLine:=by have:=Mu kvs k v;omega
    refine wpAny_setItem_pairs (hsz:=hz) (Yu ry) dd fun h' dd' hs=>h _ ?_
    have he:∃q,h'.get? a=some q:=let ⟨q,_,_,hq,_⟩:=dd';⟨q,hq⟩
    exact Xm I (by rw [e];exact True.intro) hs he (Aci hl hd (rel.put k rv) dd')
  . subst ey eH
    cases(show u=Value.ref b from ry)
    obtain⟨z,hd,xs,rel,dd⟩:=Aet I.hok e
    have hz:xs.length<=sizeLine:=by rw [<-Paired.length rel];exact z
    have hl:(putK kvs k v).length<=sizeLine:=by have:=Mu kvs k v;omega
    refine wpAny_setItem_heap (hsz:=hz) (tupleKind_room_in1 hu) (Tc I.hok eb) dd fun h' dd' hs=>h _ ?_
    obtain⟨q,es,ep,hq,h2,h3,h4,_,h5⟩:=dd'
    refine Xm I (by rw [e];exact True.intro) hs ⟨q,hq⟩ ⟨hl,hd,_,(rel.put k eb rv).keeps fun c ys ec=> ?_,q,es,ep,hq,h2,h3,h4,h5⟩
    rw [Bs (Aeq ec e (fun z=>nomatch z))]
    exact ec
end
def Adz (i:Expr):Prop:=∀ov iv,subscripted i false ov iv=operate [ov,iv] (getItem ov iv)
theorem Abb {prog:Program}{w:World}{A:Around}{E:Value->Shared->Prop}{s:Shared}{env:Env}{value slice:Expr}{pos:Pos}{T id:String}{Q:Value->Shared->Prop}
    (hl:typeLookup (.type T) "__getitem__"=pure (some (.builtin id))) (hs:Adz slice)
    (h:wpAny (model prog w) A (eval value env) (fun o s₁=>wpAny (model prog w) A (eval slice env) (fun i s₂=>s₂.TypeIs o T/\wpAny (model prog w) A (getItem o i) Q E s₂) E s₁) E s):
    wpAny (model prog w) A (eval (.Subscript value slice pos) env) Q E s:=by
  refine Subscript_ (wpAny_mono h (fun o s₁ h₁=>wpAny_mono h₁ (fun i s₂ h₂=> ?_) fun _ _ x=>x) fun _ _ x=>x)
  obtain⟨hT,h₂⟩:=h₂
  unfold subscriptTail
  refine wpAny_bind ?_
  rw [getitemInPython_of_ne hT.not_modules]
  refine wpAny_bind (wpAny_specialOf hT hl ?_)
  have fin:wpAny (model prog w) A (subscripted slice false o i) (fun r s₃=>wpAny (model prog w) A (letTemporaryGo value o r>>=fun _=>pure r) Q E s₃) E s₂:=by
    rw [hs o i]
    exact wpAny_operating (wpAny_mono h₂ (fun r s₃ h₃=>wpAny_bind (wpAny_letTemporaryGo (wpAny_pure h₃))) fun _ _ x=>x)
  first
    | exact wpAny_pure (wpAny_bind fin)
    | exact wpAny_bind (wpAny_pure (wpAny_bind fin))
    | exact wpAny_bind fin
theorem Rr {X:Cx}{pins:List (Addr × Obj)}{σ:St}{H:Hp}{s:Shared}{a:Addr}{y:V}{o:Option V} (I:Inv X pins σ H s) (g:U0 H a y o):s.TypeIs (.ref a) "dict":=by
  rcases g with⟨kvs,k,e,_,_⟩ | ⟨kvs,k,b,e,_,_,_⟩
  . obtain⟨_,_,vs,_,dd⟩:=W9 I.hok e
    exact dd.typeIs
  . obtain⟨_,_,xs,_,dd⟩:=V0 I.hok e
    exact dd.typeIs
def Abu (td ty:TE):TE:=fun σ H Q=>td σ H fun x H1=>ty σ H1 fun y H2=>∃a v,x= .ref a/\U0 H2 a y (some v)/\Q v H2
def Aas (td ty tv:TE):TS:=fun D σ H=>tv σ H fun v H1=>td σ H1 fun x H2=>ty σ H2 fun y H3=>∃a H4,x= .ref a/\Zr H3 a y v H4/\D.nx σ H4
section
variable {X:Cx}{o i e value:Expr}{pos pos' tpos:Pos}{td ty tv:TE}
theorem O5 (hu:X.A.units+1<cLine) (ho:PE X o td) (hi:PE X i ty) (hs:Adz i):PE X (.Subscript o i pos) (Abu td ty):=by
  intro pins s σ H Q I h
  refine Abb PySem.F.slot_dict_getitem.lookup hs (thn (ho pins s σ H _ I h) fun u s1 ⟨x,H1,I1,rx,q1⟩=>thn (hi pins s1 σ H1 _ I1 q1) fun iv s2 ⟨y,H2,I2,ry,a,v,ex,g,q2⟩=> ?_)
  subst ex
  obtain rfl:u=Value.ref a:=rx
  exact⟨Rr I2 g,Wq hu I2 g ry fun w' s3 I3 rw'=>⟨v,H2,I3,rw',q2⟩⟩
theorem Sw (hu:X.A.units+1<cLine) (ho:PE X o td) (hi:PE X i ty) (hv:PE X value tv) (hs:swapsWith value (some (.Subscript o i pos')) pos.line X.env=pure false):
    PS X (.Assign [.Subscript o i pos'] value pos) (Aas td ty tv):=by
  intro pins s σ H D I h
  refine wpAny_Assign_Subscript (thn (hv pins s σ H _ I h) fun r s1 ⟨v,H1,I1,rv,q1⟩=>thn (ho pins s1 σ H1 _ I1 q1) fun u s2 ⟨x,H2,I2,rx,q2⟩=>thn (hi pins s2 σ H2 _ I2 q2) fun iv s3 ⟨y,H3,I3,ry,a,H4,ex,g,q3⟩=> ?_) hs
  subst ex
  obtain rfl:u=Value.ref a:=rx
  exact W0 hu I3 g ry rv fun s4 I4=>⟨σ,H4,I4,q3⟩
end
structure M1 (X:Cx) (o:Expr) (m:Str) (apos:Pos) (e:Expr) (cpos:Pos):Prop where
  base:attributeBase o m X.env (eval o X.env)=eval o X.env
  few:((backTo cpos (starEach [e] X.env)).all (fun x=> !x.1)&&(backToKw cpos (keywordEach [] X.env)).all (fun x=>x.1.isSome)
    &&decide (([e]:List Expr).length+([]:List Keyword).length+(if([]:List Keyword).isEmpty then 0 else 1)<30))=true
  line:(apos.endLine==cpos.line)=true
  trees:backTo cpos (starEach [e] X.env)=[(false,eval e X.env)]
structure M2 (X:Cx) (o:Expr) (m:Str) (apos:Pos) (e f:Expr) (cpos:Pos):Prop where
  base:attributeBase o m X.env (eval o X.env)=eval o X.env
  few:((backTo cpos (starEach [e,f] X.env)).all (fun x=> !x.1)&&(backToKw cpos (keywordEach [] X.env)).all (fun x=>x.1.isSome)
    &&decide (([e,f]:List Expr).length+([]:List Keyword).length+(if([]:List Keyword).isEmpty then 0 else 1)<30))=true
  line:(apos.endLine==cpos.line)=true
  trees:backTo cpos (starEach [e,f] X.env)=[(false,eval e X.env),(false,eval f X.env)]
def IsD (H:Hp) (a:Addr):Prop:=(∃kvs,Rd H a (.dK kvs))\/∃kvs,Rd H a (.dT kvs)
theorem Ab8 {X:Cx}{pins:List (Addr × Obj)}{σ:St}{H:Hp}{s:Shared}{a:Addr} (I:Inv X pins σ H s) (d:IsD H a):
    s.TypeIs (.ref a) "dict"/\(∀b,Value.ref a= .ref b->∃ob,s.heap.get? b=some ob/\ob.dict=none)/\(a==sysModules)=false:=by
  rcases d with⟨kvs,e⟩ | ⟨kvs,e⟩
  . obtain⟨_,hd,vs,_,dd⟩:=W9 I.hok e
    refine⟨dd.typeIs,fun b q=> ?_,hd⟩
    cases q
    obtain⟨ob,_,_,h1,h2,_⟩:=dd
    exact⟨ob,h1,h2.2.1⟩
  . obtain⟨_,hd,xs,_,dd⟩:=V0 I.hok e
    refine⟨dd.typeIs,fun b q=> ?_,hd⟩
    cases q
    obtain⟨ob,_,_,h1,h2,_⟩:=dd
    exact⟨ob,h1,h2.2.1⟩
section
variable {X:Cx}{pins:List (Addr × Obj)}{σ:St}{H:Hp}{s:Shared}{a:Addr}{y d:V}{u r:Value}{o:Option V}{A:Around}{E:Value->Shared->Prop}
theorem Ab1 {Q:Value->Shared->Prop} (hu:A.units+1<cLine) (I:Inv X pins σ H s) (g:U0 H a y o) (ry:RelV y u) (rd:RelV d r) (h:∀w' s',Inv X pins σ H s'->RelV (o.getD d) w'->Q w' s'):
    wpAny (model X.prog X.w) A (call (.builtin "dict.get") [.ref a,u,r]) Q E s:=by
  rcases g with⟨kvs,k,e,ey,l⟩ | ⟨kvs,k,b,e,ey,eb,l⟩
  . subst ey
    obtain⟨z,hd,vs,rel,dd⟩:=W9 I.hok e
    refine call_meetsIn PySem.F.slot_dict_get dd.typeIs PySem.F.entry_dict_get (PySem.F.args_dict_get_3 _ _ _) (meets_dict_get_default (Cm X.prog X.w) a (Yu ry) hd r) ⟨_,dd.mapOf,h _ _ (I.tok _) ?_⟩
    rw [l]
    exact(rel.val k).getD rd
  . subst ey
    cases(show u=Value.ref b from ry)
    obtain⟨z,hd,xs,rel,dd⟩:=V0 I.hok e
    refine call_meetsIn PySem.F.slot_dict_get dd.typeIs PySem.F.entry_dict_get (PySem.F.args_dict_get_3 _ _ _) (meetsH_dict_get_default (tupleKind (Cm X.prog X.w)) a b hd r) ⟨tupleKind_room_in1 hu,k,xs,Tc I.hok eb,dd,h _ _ (I.tok _) ?_⟩
    rw [l]
    exact(rel.val k).getD rd
end
def Wj (td ty tx:TE):TE:=fun σ H Q=>td σ H fun x H1=>∃a,x= .ref a/\IsD H1 a/\ty σ H1 fun y H2=>tx σ H2 fun z H3=>∃o,U0 H3 a y o/\Q (o.getD z) H3
section
variable {X:Cx}{o e f:Expr}{apos cpos:Pos}{td ty tx:TE}
theorem Om (hu:X.A.units+1<cLine) (ho:PE X o td) (he:PE X e ty) (hf:PE X f tx) (m:M2 X o "get" apos e f cpos):PE X (.Call (.Attribute o "get" apos) [e,f] [] cpos) (Wj td ty tx):=by
  intro pins s σ H Q I h
  refine wpAny_Call_method m.base m.few m.line PySem.F.plainAttrs_dict PySem.F.slot_dict_get PySem.F.type_dict_get (thn (ho pins s σ H _ I h) fun u s1 ⟨x,H1,I1,rx,a,ex,d,q1⟩=> ?_)
  subst ex
  obtain rfl:u=Value.ref a:=rx
  obtain⟨t1,t2,_⟩:=Ab8 I1 d
  refine⟨t1,t2,?_⟩
  rw [m.trees]
  refine Calls.callWith_builtin rfl (Calls.evalArgs_plain (Calls.spliced_cons (thn (he pins s1 σ H1 _ I1 q1) fun iv s2 ⟨y,H2,I2,ry,q2⟩=>
    Calls.spliced_cons (thn (hf pins s2 σ H2 _ I2 q2) fun fv s3 ⟨z,H3,I3,rz,ov,g,q3⟩=>Calls.spliced_nil ?_))))
  exact Ab1 hu I3 g ry rz fun w' s4 I4 rw'=>⟨_,H3,I4,rw',q3⟩
end
end L2
namespace L2
open PySem PySem.Spec PyProof.Rows
section
variable {κ:Type} [DecidableEq κ]
theorem Yb {kvs:List (κ × V)}{k:κ} (h:Hz kvs k=none):¬k∈kvs.map (·.1):=by
  intro m
  obtain⟨p,hp,e⟩:=List.mem_map.mp m
  have q:(kvs.any fun kv=>decide (kv.1=k))=true:=List.any_eq_true.mpr ⟨p,hp,decide_eq_true e⟩
  rw [Gv,h]at q
  exact absurd q (by simp)
theorem Aa9 {kvs:List (κ × V)}{k:κ}{v:V} (h:Hz kvs k=some v):k∈kvs.map (·.1):=by
  have q:(kvs.any fun kv=>decide (kv.1=k))=true:=by
    rw [Gv,h]
    all_goals rfl
  obtain⟨p,hp,e⟩:=List.any_eq_true.mp q
  exact List.mem_map.mpr ⟨p,hp,of_decide_eq_true e⟩
theorem Vu:∀ {l:List κ}{k:κ},l.Nodup->¬k∈l->(l++ [k]).Nodup
  | [],k,_,_=>by simp
  | a::r,k,h,hk=>by
    obtain⟨h1,h2⟩:=List.nodup_cons.mp h
    show(a::(r++ [k])).Nodup
    refine List.nodup_cons.mpr ⟨fun m=> ?_,Vu h2 fun m=>hk (List.mem_cons.mpr (Or.inr m))⟩
    rcases List.mem_append.mp m with q | q
    . exact h1 q
    . exact hk (List.mem_cons.mpr (Or.inl (List.mem_singleton.mp q).symm))
end
end L2
namespace L2
open PySem PySem.Spec PyProof.Rows
theorem hu1 {A:Around} (h:A.units+64<cLine):A.units+1<cLine:=Nat.lt_of_le_of_lt (Nat.add_le_add_left (by decide:1<=64) _) h
section
variable {td ty tx tv:TE}{σ:St}{H:Hp}{Q:VK}{D:Ends}
theorem Gg:Abu td ty σ H Q=td σ H fun x H1=>ty σ H1 fun y H2=>∃a v,x= .ref a/\U0 H2 a y (some v)/\Q v H2:=rfl
theorem Cy:Wj td ty tx σ H Q=td σ H fun x H1=>∃a,x= .ref a/\IsD H1 a/\ty σ H1 fun y H2=>tx σ H2 fun z H3=>∃o,U0 H3 a y o/\Q (o.getD z) H3:=rfl
theorem Fo:Aas td ty tv D σ H=tv σ H fun v H1=>td σ H1 fun x H2=>ty σ H2 fun y H3=>∃a H4,x= .ref a/\Zr H3 a y v H4/\D.nx σ H4:=rfl
end
theorem Acx {H:Hp}{a:Addr}{kvs:List (Key × V)}{i:Int}{v:V} (e:H a=some (.dK kvs)) (h:Hz kvs (.inl i)=some v):U0 H a (.int i) (some v):= .inl ⟨kvs,.inl i,.inl e,rfl,h.symm⟩
theorem Ad1 {H:Hp}{a:Addr}{kvs:List (Key × V)}{i:Int} (e:H a=some (.dK kvs)):U0 H a (.int i) (Hz kvs (.inl i)):= .inl ⟨kvs,.inl i,.inl e,rfl,rfl⟩
theorem Ad6 {H:Hp}{a:Addr}{kvs:List (Key × V)}{i:Int}{v:V} (e:H a=some (.dK kvs)) (hl:kvs.length<sizeLine):Zr H a (.int i) v (upd H a (.dK (putK kvs (.inl i) v))):= .inl ⟨kvs,.inl i,e,rfl,hl,rfl⟩
end L2
namespace L2
open PySem PySem.Spec PyProof.Rows
theorem Mw {H1:Hp}{p:Addr}{cσ:St}{g:TG}{tt:TT}{te:TE}{Q:VK}{α:Type}{es:List α}{inj:α->V}{J:It} (pf:α->Bool) (Rl:α->V->Hp->Prop)
    (mono:∀e v H H',Rl e v H->Same H H'->Rl e v H') (put:∀e v H ys zs,Rl e v H->H p=some (.lst ys)->Rl e v (upd H p (.lst zs))) (hz:es.length<=sizeLine) (hp:H1 p=none) (hJ:Wk J H1 es inj)
    (step:∀(e:α) (H':Hp) (R:VK) (RF:Hp->Prop),e∈es->Same H1 H'->(pf e=true->∀v H6,Same H' H6->Rl e v H6->R v H6)->(pf e=false->∀H6,Same H' H6->RF H6)->g (inj e) cσ H' fun σ4 H4=>Kp cσ σ4/\tt σ4 H4 fun b H5=>if b=true then te σ4 H5 R else RF H5)
    (done:∀H' (vs:List (V × α)),Same H1 H'->H' p=some (.lst (vs.map (·.1)))->vs.map (·.2)=es.filter pf->(∀x∈vs,Rl x.2 x.1 H')->Q (.ref p) H'):cIn J cσ g tt te Q H1 p:=by
  have su:∀ {H':Hp}{o:HO},Same H1 H'->Same H1 (upd H' p o):=fun {H' o} s b u e=>by
    rw [Bs (Cg e hp)]
    exact s b u e
  refine⟨fun i m acc H'=>∃vs:List (V × α),m=es.length-i/\i<=es.length/\acc=vs.map (·.1)/\vs.map (·.2)=(es.take i).filter pf/\(∀x∈vs,Rl x.2 x.1 H')/\H' p=some (.lst acc)/\Same H1 H',⟨es.length,[],by simp,Nat.zero_le _,rfl,by simp,by simp,Ar,su (Same.refl _)⟩,?_⟩
  rintro i m acc H' ⟨vs,rfl,hi,rfl,hv,hr,hH,s⟩
  cases he:es[i]? with
  | none=>
    have e:i=es.length:=Nat.le_antisymm hi (List.getElem?_eq_none_iff.mp he)
    subst e
    rw [List.take_length]at hv
    exact .inl ⟨(hJ _ _ s).1 he,done _ vs s hH hv hr⟩
  | some e=>
    obtain⟨go,yl⟩:=(hJ _ _ s).2 e he
    refine .inr ⟨go,fun x H3 y=> ?_⟩
    obtain⟨rfl,rfl⟩:=yl x H3 y
    obtain⟨hlt,_⟩:=List.getElem?_eq_some_iff.mp he
    have tk:es.take (i+1)=es.take i++ [e]:=by rw [List.take_succ,he];rfl
    have fl:vs.length<=i:=by
      have h1:=congrArg List.length hv
      rw [List.length_map]at h1
      rw [h1]
      exact Nat.le_trans (List.length_filter_le _ _) (by rw [List.length_take];omega)
    refine step e H3 _ _ (List.mem_of_getElem? he) s (fun hpf v H6 s6 r6=>⟨s6 _ _ hH,by rw [List.length_map];omega,_,by omega,vs++ [(v,e)],rfl,hlt,by rw [List.map_append];rfl,?_,?_,Ar,su (s.trans s6)⟩) (fun hpf H6 s6=>⟨_,by omega,vs,rfl,hlt,rfl,?_,fun x hx=>mono _ _ _ _ (hr x hx) s6,s6 _ _ hH,s.trans s6⟩)
    . rw [tk,List.filter_append,List.map_append,hv]
      simp [hpf]
    . intro x hx
      rcases List.mem_append.mp hx with hx | hx
      . exact put _ _ _ _ _ (mono _ _ _ _ (hr x hx) s6) (s6 _ _ hH)
      . have:x=(v,e):=by simpa using hx
        rw [this]
        exact put _ _ _ _ _ r6 (s6 _ _ hH)
    . rw [tk,List.filter_append,hv]
      simp [hpf]
end L2
namespace L2
open PySem PySem.Spec PyProof.Rows
theorem Y5 {t1 t2:Bool}{K:PySem.W.Frag}{a b:Addr}{xs ys:List V}{H1:Hp}{p:Addr}{cσ:St}{g:TG}{te:TE}{Q:VK} (n:Nat) (hn:n=min xs.length ys.length) (f:Nat->V) (hz:n<=sizeLine) (hp:H1 p=none)
    (wx:∀H',Same H1 H'->SqB t1 K H' a xs) (wy:∀H',Same H1 H'->SqB t2 K H' b ys)
    (step:∀(i:Nat) (H':Hp) (q:Addr) (R:VK),i<n->Same H1 H'->H' q=some (.tup [xs.getD i .non,ys.getD i .non])->(∀H6,Same H' H6->R (f i) H6)->g (.ref q) cσ H' fun σ4 H4=>Kp cσ σ4/\te σ4 H4 R)
    (done:∀H',Same H1 H'->H' p=some (.lst ((List.range n).map f))->Q (.ref p) H'):cIn (Ac1 t1 t2 K a b) cσ g Va te Q H1 p:=by
  have su:∀ {H':Hp}{o:HO},Same H1 H'->Same H1 (upd H' p o):=fun {H' o} s b u e=>by
    rw [Bs (Cg e hp)]
    exact s b u e
  refine⟨fun i m acc H'=>m=n-i/\i<=n/\acc=(List.range i).map f/\H' p=some (.lst acc)/\Same H1 H',⟨n,by simp,Nat.zero_le _,by simp,Ar,su (Same.refl _)⟩,?_⟩
  rintro i m acc H' ⟨rfl,hi,rfl,hH,s⟩
  by_cases he:i=n
  . subst he
    exact .inl ⟨⟨xs,ys,wx _ s,wy _ s,by omega⟩,done _ s hH⟩
  . have hl:i<n:=by omega
    have ex:xs[i]? =some (xs.getD i .non):=by rw [List.getD_eq_getElem?_getD,List.getElem?_eq_getElem (by omega)];rfl
    have ey:ys[i]? =some (ys.getD i .non):=by rw [List.getD_eq_getElem?_getD,List.getElem?_eq_getElem (by omega)];rfl
    refine .inr ⟨⟨xs,ys,_,_,wx _ s,wy _ s,ex,ey⟩,fun x H3 y=> ?_⟩
    obtain⟨q,u,v,hu,hv,hq,rfl,rfl⟩:=y
    have eu:=hu _ (wx _ s)
    have ev:=hv _ (wy _ s)
    rw [ex]at eu
    rw [ey]at ev
    cases eu
    cases ev
    have sq:=Same.upd hq (.tup [xs.getD i .non,ys.getD i .non])
    have q0:=step i (upd H' q (.tup [xs.getD i .non,ys.getD i .non])) q (fun y H6=>H6 p=some (.lst ((List.range i).map f))/\((List.range i).map f).length<sizeLine/\∃m',m'<n-i/\m'=n-(i+1)/\i+1<=n/\(List.range i).map f++ [y]=(List.range (i+1)).map f/\
        upd H6 p (.lst ((List.range i).map f++ [y])) p=some (.lst ((List.range i).map f++ [y]))/\Same H1 (upd H6 p (.lst ((List.range i).map f++ [y])))) hl (s.trans sq) Ar
      (fun H6 s6=>⟨s6 _ _ (sq _ _ hH),by rw [List.length_map,List.length_range];omega,_,by omega,rfl,hl,by rw [List.range_succ,List.map_append];rfl,Ar,su ((s.trans sq).trans s6)⟩)
    have eq:∀(R:VK) (B:Hp->Prop),(fun σ4 H4=>Kp cσ σ4/\Va σ4 H4 fun b H5=>if b=true then te σ4 H5 R else B H5)=(fun σ4 H4=>Kp cσ σ4/\te σ4 H4 R):=fun R B=>by
      funext σ4 H4
      simp only [Va,if_pos]
    rw [eq]
    exact q0
end L2
namespace L2
open PySem PySem.Spec PyProof.Rows
def Aeu (C:Addr) (tb:TB) (ts:Addr->Obj->TS):TS:=fun D σ H=>tb σ H (fun σ' H'=>D.nx σ' H')
  (fun c _ H2=>c= .ref C/\∀x oe,oe.cls= .ref C->ts x oe D σ H2)
theorem Gh {C:Addr}{tb:TB}{ts:Addr->Obj->TS}{D:Ends}{σ:St}{H:Hp}:Aeu C tb ts D σ H=tb σ H (fun σ' H'=>D.nx σ' H')
  (fun c _ H2=>c= .ref C/\∀x oe,oe.cls= .ref C->ts x oe D σ H2):=rfl
end L2
namespace L2.S
open PySem L2
@[irreducible] def PE (X:Cx) (e:Expr) (t:TE):Prop:=L2.PE X e t
@[irreducible] def PT (X:Cx) (e:Expr) (t:TT):Prop:=L2.PT X e t
@[irreducible] def PW (X:Cx) (e:Expr) (t:TT):Prop:=L2.PW X e t
@[irreducible] def PA (X:Cx) (es:List Expr) (t:TA):Prop:=L2.PA X es t
@[irreducible] def PS (X:Cx) (st:Stmt) (t:TS):Prop:=L2.PS X st t
@[irreducible] def PSs (X:Cx) (st:List Stmt) (t:TS):Prop:=L2.PSs X st t
@[irreducible] def PG (X:Cx) (target:Expr) (t:TG):Prop:=L2.PG X target t
@[irreducible] def PGs (X:Cx) (ts:List Expr) (t:TGs):Prop:=L2.PGs X ts t
@[irreducible] def PI (X:Cx) (tg iter:Expr) (wi:TI):Prop:=L2.PI X tg iter wi
@[irreducible] def PO (X:Cx) (e:Option Expr) (t:TO):Prop:=L2.PO X e t
@[irreducible] def PTs (X:Cx) (ifs:List Expr) (t:TT):Prop:=L2.PTs X ifs t
theorem out {X:Cx}{b:List Stmt}{t:TS} (h:PSs X b t):L2.PSs X b t:=by unfold PSs at h;exact h
theorem pv:∀ {X:Cx} (i:Nat) {x:Str}{pos:Pos},autoParam ((Cx.N X)[i]? =Option.some x) L2.pv._auto_1->autoParam (Vis (Env.scope (Cx.env X)) x) L2.pv._auto_2->autoParam ((x==("__debug__":Str))=Bool.false) L2.pv._auto_3->autoParam ((x==("__classdict__":Str))=Bool.false) L2.pv._auto_4->S.PE X (Expr.Name x pos) (Abw i):=by with_unfolding_all exact @L2.pv
theorem Bu:∀ {X:Cx}{x:Str}{v:V}{u:Value}{pos:Pos},Gl X x->Cx.mg X x=Option.none->bootBuiltins x=Option.some u->RelV v u->autoParam (x≠("__name__":Str)) L2.Bu._auto_1->autoParam ((x==("__debug__":Str))=Bool.false) L2.Bu._auto_2->S.PE X (Expr.Name x pos) (tC v):=by with_unfolding_all exact @L2.Bu
theorem Pb:∀ {X:Cx}{x:Str}{v:V}{u:Value}{pos:Pos},Gl X x->Cx.mg X x=Option.some u->RelV v u->autoParam ((x==("__debug__":Str))=Bool.false) L2.Pb._auto_1->S.PE X (Expr.Name x pos) (tC v):=by with_unfolding_all exact @L2.Pb
theorem Ab:∀ {X:Cx}{i:Int}{j:Nat}{pos:Pos},S.PE X (Expr.Constant (Const.int i) j pos) (tC (V.int i)):=by with_unfolding_all exact @L2.Ab
theorem Fg:∀ {X:Cx}{b:Bool}{j:Nat}{pos:Pos},S.PE X (Expr.Constant (Const.bool b) j pos) (tC (V.bl b)):=by with_unfolding_all exact @L2.Fg
theorem K7:∀ {X:Cx}{j:Nat}{pos:Pos},S.PE X (Expr.Constant Const.none j pos) (tC V.non):=by with_unfolding_all exact @L2.K7
theorem N5:∀ {X:Cx}{x:Str}{j:Nat}{pos:Pos},S.PE X (Expr.Constant (Const.str x) j pos) (tC (V.str x)):=by with_unfolding_all exact @L2.N5
theorem Af:∀ {X:Cx}{a b:Expr}{ta tb:TE}{pos:Pos}{op:Operator}{r:R2},OpR X (binaryOp op) r->S.PE X a ta->S.PE X b tb->S.PE X (Expr.BinOp a op b pos) (tOp r ta tb):=by with_unfolding_all exact @L2.Af
theorem Qt:∀ {X:Cx}{a:Expr}{ta:TE}{pos:Pos},S.PE X a ta->S.PE X (Expr.UnaryOp UnaryOp.Not a pos) (Aap ta):=by with_unfolding_all exact @L2.Qt
theorem Jj:∀ {X:Cx}{a:Expr}{ta:TE}{pos:Pos}{op:UnaryOp}{r:V->Hp->VK->Prop},UnR X (unaryOp op) r->S.PE X a ta->S.PE X (Expr.UnaryOp op a pos) (tUn r ta):=by with_unfolding_all exact @L2.Jj
theorem Ci:∀ {X:Cx}{a b:Expr}{ta tb:TE}{pos:Pos}{op:CmpOp}{r:R2},OpR X (compareOp op) r->S.PE X a ta->S.PE X b tb->behindInMarks op b=Bool.false->S.PE X (Expr.Compare a [op] [b] pos) (tOp r ta tb):=by with_unfolding_all exact @L2.Ci
theorem Mg:∀ {X:Cx}{a b:Expr}{ta tb:TE}{pos:Pos}{rest:List Expr},S.PE X a ta->S.PE X (Expr.BoolOp BoolOp.And (b::rest) pos) tb->S.PE X (Expr.BoolOp BoolOp.And (a::b::rest) pos) (Aaw ta tb):=by with_unfolding_all exact @L2.Mg
theorem Aaa:∀ {X:Cx}{a b:Expr}{ta tb:TE}{pos:Pos}{rest:List Expr},S.PE X a ta->S.PE X (Expr.BoolOp BoolOp.Or (b::rest) pos) tb->S.PE X (Expr.BoolOp BoolOp.Or (a::b::rest) pos) (Adw ta tb):=by with_unfolding_all exact @L2.Aaa
theorem Kv:∀ {X:Cx}{a:Expr}{pos:Pos}{op:BoolOp}{t:TE},S.PE X a t->S.PE X (Expr.BoolOp op [a] pos) t:=by with_unfolding_all exact @L2.Kv
theorem Iw:∀ {X:Cx}{a b:Expr}{ta tb:TE}{pos:Pos}{tA:TT}{c:Expr},S.PT X c tA->S.PE X a ta->S.PE X b tb->S.PE X (Expr.IfExp c a b pos) (tIf tA ta tb):=by with_unfolding_all exact @L2.Iw
theorem Av:∀ {X:Cx}{es:List Expr}{t:TA}{pos:Pos}{x1:Nat},S.PA X es t->S.PE X (Expr.Tuple es x1 pos) (Ad0 t):=by with_unfolding_all exact @L2.Av
theorem Cp:∀ {X:Cx}{es:List Expr}{t:TA}{pos:Pos},S.PA X es t->S.PE X (Expr.List es pos) (Aed t):=by with_unfolding_all exact @L2.Cp
theorem Uc:∀ {X:Cx}{e st:Expr}{te tst:TE}{pos p2:Pos},S.PE X e te->S.PE X st tst->S.PE X (Expr.Subscript e (Expr.Slice Option.none Option.none (Option.some st) p2) pos) (Aef (Cx.K X) te tst):=by with_unfolding_all exact @L2.Uc
theorem Hs:∀ {X:Cx}{e:Expr}{te:TE}{lo hi:Option Expr}{tl th:TO}{pos p2:Pos}{r:V->Option Int->Option Int->Hp->VK->Prop},SlR X r->S.PE X e te->S.PO X lo tl->S.PO X hi th->S.PE X (Expr.Subscript e (Expr.Slice lo hi Option.none p2) pos) (tSl r te tl th):=by with_unfolding_all exact @L2.Hs
theorem Ka:∀ {X:Cx},S.PO X Option.none R5:=by with_unfolding_all exact @L2.Ka
theorem Jv:∀ {X:Cx}{e:Expr}{te:TE},S.PE X e te->S.PO X (Option.some e) (Aab te):=by with_unfolding_all exact @L2.Jv
theorem Ay:∀ {X:Cx}{a b:Expr}{ta tb:TE}{pos:Pos}{r:R2},IxR X r->S.PE X a ta->S.PE X b tb->Vo b->S.PE X (Expr.Subscript a b pos) (tOp r ta tb):=by with_unfolding_all exact @L2.Ay
theorem Rb:∀ {X:Cx}{pos:Pos},S.PE X (Expr.Dict [] [] pos) Aax:=by with_unfolding_all exact @L2.Rb
theorem O5:∀ {X:Cx}{o i:Expr}{pos:Pos}{td ty:TE},Around.units (Cx.A X)+(1:Nat)<cLine->S.PE X o td->S.PE X i ty->Adz i->S.PE X (Expr.Subscript o i pos) (Abu td ty):=by with_unfolding_all exact @L2.O5
theorem Om:∀ {X:Cx}{o e f:Expr}{apos cpos:Pos}{td ty tx:TE},Around.units (Cx.A X)+(1:Nat)<cLine->S.PE X o td->S.PE X e ty->S.PE X f tx->M2 X o (("get":Str)) apos e f cpos->S.PE X (Expr.Call (Expr.Attribute o (("get":Str)) apos) [e,f] [] cpos) (Wj td ty tx):=by with_unfolding_all exact @L2.Om
theorem Ge:∀ {X:Cx}{elt tg iter:Expr}{ifs:List Expr}{scope:Scope}{pos:Pos}{wi:TI}{g:TG}{tt:TT}{te:TE}{ts:List Str}{fs:List (Nat × Str)},Cx.calm X=Bool.true->Bt X ts fs scope->S.PI X tg iter wi->(∀(ex:List Addr) (s:Shared) (H:Hp),S.PG (cxC X (cpN ts fs) scope ex s H) tg g)->(∀(ex:List Addr) (s:Shared) (H:Hp),S.PTs (cxC X (cpN ts fs) scope ex s H) ifs tt)->(∀(ex:List Addr) (s:Shared) (H:Hp),S.PE (cxC X (cpN ts fs) scope ex s H) elt te)->autoParam (∀(x:Value),foldedSetIterable iter (Cx.env X) x=Pure.pure x) L2.Ge._auto_1->S.PE X (Expr.ListComp elt [{ target:=tg,iter:=iter,ifs:=ifs,is_async:=(0:Int)}] scope pos) (Ye (List.length ts) fs wi g tt te):=by with_unfolding_all exact @L2.Ge
theorem Gu:∀ {P:Program}{w:World}{K:W.Frag}{mg:Str->Option Value}{base:Heap}{N:List Str}{qual:Str}{scope:Scope}{f:Addr}{cd:Value}{A:Around}{outer:List Env}{s0:Shared}{H0:Hp}{E:XK}{k:Nat}{x:Str}{ps:List Str}{sp:Sp}{p pos:Pos}{e:Expr}{es:List Expr}{t:TA},X4 P w K mg base k x ps sp->K4 k (Around.deeper A (PyProof.Rows.envOfC qual scope (Array.size (Heap.objs (Shared.heap s0))) f cd))->S.PA (Nf (CXE P w) P w K mg base N qual scope f cd A outer s0 H0 E) (e::es) t->autoParam (Gl (Nf (CXE P w) P w K mg base N qual scope f cd A outer s0 H0 E) x) L2.Gu._auto_1->autoParam ((x==("__debug__":Str))=Bool.false) L2.Gu._auto_2->autoParam (starEach (e::es) (PyProof.Rows.envOfC qual scope (Array.size (Heap.objs (Shared.heap s0))) f cd)=(Bool.false,eval e (PyProof.Rows.envOfC qual scope (Array.size (Heap.objs (Shared.heap s0))) f cd))::starEach es (PyProof.Rows.envOfC qual scope (Array.size (Heap.objs (Shared.heap s0))) f cd)) L2.Gu._auto_3->autoParam ((List.any (backTo pos (starEach es (PyProof.Rows.envOfC qual scope (Array.size (Heap.objs (Shared.heap s0))) f cd))) fun(x:Bool × Sem Value) ↦ Prod.fst x)=Bool.false) L2.Gu._auto_4->S.PE (Nf (CXE P w) P w K mg base N qual scope f cd A outer s0 H0 E) (Expr.Call (Expr.Name x p) (e::es) [] pos) (Ra sp [] E t):=by with_unfolding_all exact @L2.Gu
theorem Bo:∀ {X:Cx}{e:Expr}{es:List Expr}{t:TA}{x:Str}{p pos:Pos}{id:String}{r:List V->Hp->VK->Prop},Hy X (Value.builtin id) r->Gl X x->Cx.mg X x=Option.none->bootBuiltins x=Option.some (Value.builtin id)->S.PA X (e::es) t->autoParam (Dy e=Bool.true) L2.Bo._auto_1->autoParam (List.all es Dy=Bool.true) L2.Bo._auto_2->autoParam (x≠("__name__":Str)) L2.Bo._auto_3->autoParam ((x==("__debug__":Str))=Bool.false) L2.Bo._auto_4->S.PE X (Expr.Call (Expr.Name x p) (e::es) [] pos) (tCB r t):=by with_unfolding_all exact @L2.Bo
theorem Gs:∀ {X:Cx}{e:Expr}{es:List Expr}{t:TA}{x:Str}{p pos:Pos}{T:String}{r:List V->Hp->VK->Prop},Hy X (Value.type T) r->Gl X x->Cx.mg X x=Option.none->bootBuiltins x=Option.some (Value.type T)->S.PA X (e::es) t->autoParam (Dy e=Bool.true) L2.Gs._auto_1->autoParam (List.all es Dy=Bool.true) L2.Gs._auto_2->autoParam (x≠("__name__":Str)) L2.Gs._auto_3->autoParam ((x==("__debug__":Str))=Bool.false) L2.Gs._auto_4->S.PE X (Expr.Call (Expr.Name x p) (e::es) [] pos) (tCB r t):=by with_unfolding_all exact @L2.Gs
theorem Aw:∀ {X:Cx}{e:Expr}{es:List Expr}{t:TA}{x:Str}{p pos:Pos}{k:Nat}{ps:List Str}{sp:Sp},Cal (Cx.prog X) (Cx.w X) (Cx.K X) (Cx.mg X) (Cx.base X) k x ps sp->K4 k (Cx.A X)->S.PA X (e::es) t->autoParam (Dy e=Bool.true) L2.Aw._auto_1->autoParam (List.all es Dy=Bool.true) L2.Aw._auto_2->autoParam (Gl X x) L2.Aw._auto_3->autoParam ((x==("__debug__":Str))=Bool.false) L2.Aw._auto_4->S.PE X (Expr.Call (Expr.Name x p) (e::es) [] pos) (Ra sp [] E0 t):=by with_unfolding_all exact @L2.Aw
theorem K6:∀ {X:Cx}{x:Str}{v:V}{pos:Pos},Gl X x->(∃(u:Value),Cx.mg X x=Option.some u/\RelV v u)->autoParam ((x==("__debug__":Str))=Bool.false) L2.K6._auto_1->S.PE X (Expr.Name x pos) (tC v):=by with_unfolding_all exact @L2.K6
theorem M8:∀ {X:Cx}{o e:Expr}{es:List Expr}{to:TE}{t:TA}{name:Str}{apos cpos:Pos}{T id:String}{r:V->List V->Hp->VK->Prop},PlainAttrs T->Slot T name id->typeOf (Value.builtin id)=Pure.pure (Value.type "method_descriptor")->MtR X id r->S.PE X o to->S.PA X (e::es) t->autoParam (attributeBase o name (Cx.env X) (eval o (Cx.env X))=eval o (Cx.env X)) L2.M8._auto_1->autoParam ((((List.all (backTo cpos (starEach (e::es) (Cx.env X))) fun(x:Bool × Sem Value) ↦ !Prod.fst x)&&List.all (backToKw cpos (keywordEach [] (Cx.env X))) fun(x:Option Str × Sem Value) ↦ Option.isSome (Prod.fst x))&&Decidable.decide ((List.length (e::es)+List.length ([]:List Keyword)+if List.isEmpty ([]:List Keyword)=Bool.true then(0:Nat)else(1:Nat))<(30:Nat)))=Bool.true) L2.M8._auto_2->autoParam ((Pos.endLine apos==Pos.line cpos)=Bool.true) L2.M8._auto_3->autoParam (starEach (e::es) (Cx.env X)=(Bool.false,eval e (Cx.env X))::starEach es (Cx.env X)) L2.M8._auto_4->autoParam ((List.any (backTo cpos (starEach es (Cx.env X))) fun(x:Bool × Sem Value) ↦ Prod.fst x)=Bool.false) L2.M8._auto_5->S.PE X (Expr.Call (Expr.Attribute o name apos) (e::es) [] cpos) (tBM (Cx.K X) T r to t):=by with_unfolding_all exact @L2.M8
theorem Qc:∀ {X:Cx}{o:Expr}{to:TE}{name:Str}{apos cpos:Pos}{T id:String}{r:V->List V->Hp->VK->Prop},PlainAttrs T->Slot T name id->typeOf (Value.builtin id)=Pure.pure (Value.type "method_descriptor")->MtR X id r->S.PE X o to->autoParam (attributeBase o name (Cx.env X) (eval o (Cx.env X))=eval o (Cx.env X)) L2.Qc._auto_1->autoParam ((Pos.endLine apos==Pos.line cpos)=Bool.true) L2.Qc._auto_2->S.PE X (Expr.Call (Expr.Attribute o name apos) [] [] cpos) (Ael (Cx.K X) T r to):=by with_unfolding_all exact @L2.Qc
theorem Tj:∀ {X:Cx}{a:Expr}{ta:TA}{el:List Expr}{x1:Nat}{tp p pos:Pos},Gl X (("enumerate":Str))->Cx.mg X (("enumerate":Str))=Option.none->S.PA X [a] ta->autoParam (starEach [a] (Cx.env X)=[(Bool.false,eval a (Cx.env X))]) L2.Tj._auto_1->S.PI X (Expr.Tuple el x1 tp) (Expr.Call (Expr.Name (("enumerate":Str)) p) [a] [] pos) (Aei (Cx.K X) ta):=by with_unfolding_all exact @L2.Tj
theorem Lg:∀ {X:Cx}{a b:Expr}{ta:TA}{el:List Expr}{x1:Nat}{tp p pos:Pos} (t1 t2:Bool),Gl X (("zip":Str))->Cx.mg X (("zip":Str))=Option.none->S.PA X [a,b] ta->autoParam (starEach [a,b] (Cx.env X)=[(Bool.false,eval a (Cx.env X)),(Bool.false,eval b (Cx.env X))]) L2.Lg._auto_1->autoParam (starEach [b] (Cx.env X)=[(Bool.false,eval b (Cx.env X))]) L2.Lg._auto_2->S.PI X (Expr.Tuple el x1 tp) (Expr.Call (Expr.Name (("zip":Str)) p) [a,b] [] pos) (Aa3 t1 t2 (Cx.K X) ta):=by with_unfolding_all exact @L2.Lg
theorem G7:∀ {X:Cx}{tg a:Expr}{ta:TA}{p pos:Pos},Gl X (("range":Str))->Cx.mg X (("range":Str))=Option.none->S.PA X [a] ta->autoParam (starEach [a] (Cx.env X)=[(Bool.false,eval a (Cx.env X))]) L2.G7._auto_1->S.PI X tg (Expr.Call (Expr.Name (("range":Str)) p) [a] [] pos) (Abq ta):=by with_unfolding_all exact @L2.G7
theorem Ig:∀ {X:Cx}{tg a b:Expr}{ta:TA}{p pos:Pos},Gl X (("range":Str))->Cx.mg X (("range":Str))=Option.none->S.PA X [a,b] ta->autoParam (starEach [a,b] (Cx.env X)=[(Bool.false,eval a (Cx.env X)),(Bool.false,eval b (Cx.env X))]) L2.Ig._auto_1->autoParam (starEach [b] (Cx.env X)=[(Bool.false,eval b (Cx.env X))]) L2.Ig._auto_2->S.PI X tg (Expr.Call (Expr.Name (("range":Str)) p) [a,b] [] pos) (Abf ta):=by with_unfolding_all exact @L2.Ig
theorem Ld:∀ {X:Cx}{tg l:Expr}{tl:TE},S.PE X l tl->S.PI X tg l (Abg (Cx.K X) tl):=by with_unfolding_all exact @L2.Ld
theorem Kz:∀ {X:Cx}{tg l:Expr}{tl:TE},S.PE X l tl->S.PI X tg l (Aek (Cx.K X) tl):=by with_unfolding_all exact @L2.Kz
theorem Wc:∀ {X:Cx}{tg l:Expr}{tl:TE},S.PE X l tl->S.PI X tg l (Ad8 (Cx.K X) tl):=by with_unfolding_all exact @L2.Wc
theorem Oo:∀ {X:Cx},S.PTs X [] Va:=by with_unfolding_all exact @L2.Oo
theorem Ij:∀ {X:Cx}{c:Expr}{t:TT},S.PT X c t->S.PTs X [c] t:=by with_unfolding_all exact @L2.Ij
theorem Ah:∀ {X:Cx}{a b:Expr}{ta tb:TE}{pos:Pos}{op:CmpOp}{r:R2},OpR X (compareOp op) r->S.PE X a ta->S.PE X b tb->behindInMarks op b=Bool.false->S.PT X (Expr.Compare a [op] [b] pos) (Abs (tOp r ta tb)):=by with_unfolding_all exact @L2.Ah
theorem Dh:∀ {X:Cx}{a:Expr}{pos:Pos}{tA:TT},S.PT X a tA->S.PT X (Expr.UnaryOp UnaryOp.Not a pos) (Aen tA):=by with_unfolding_all exact @L2.Dh
theorem Qx:∀ {X:Cx}{a b:Expr}{pos:Pos}{tA tB':TT}{rest:List Expr},S.PT X a tA->S.PW X (Expr.BoolOp BoolOp.And (b::rest) pos) tB'->S.PW X (Expr.BoolOp BoolOp.And (a::b::rest) pos) (Ae0 tA tB'):=by with_unfolding_all exact @L2.Qx
theorem Dn:∀ {X:Cx}{a b:Expr}{pos:Pos}{tA tB':TT}{rest:List Expr},S.PT X a tA->S.PW X (Expr.BoolOp BoolOp.Or (b::rest) pos) tB'->S.PW X (Expr.BoolOp BoolOp.Or (a::b::rest) pos) (tOr tA tB'):=by with_unfolding_all exact @L2.Dn
theorem Nk:∀ {X:Cx}{a:Expr}{pos:Pos}{tA:TT},S.PT X a tA->S.PW X (Expr.BoolOp BoolOp.And [a] pos) tA:=by with_unfolding_all exact @L2.Nk
theorem Dv:∀ {X:Cx}{a:Expr}{pos:Pos}{tA:TT},S.PT X a tA->S.PW X (Expr.BoolOp BoolOp.Or [a] pos) tA:=by with_unfolding_all exact @L2.Dv
theorem Hw:∀ {X:Cx}{e:Expr}{t:TT},S.PW X e t->S.PT X e t:=by with_unfolding_all exact @L2.PW.pt
theorem Bv:∀ {X:Cx}{e:Expr}{t:TE},S.PE X e t->autoParam (∀(whole:Sem Value),isTrue e (Cx.env X) whole=do let v<-whole;standAt (Expr.pos e);holding [v] (truthy v)) L2.Bv._auto_1->S.PT X e (tB t):=by with_unfolding_all exact @L2.Bv
theorem Ac:∀ {X:Cx},S.PA X [] Aej:=by with_unfolding_all exact @L2.Ac
theorem Aa:∀ {X:Cx}{e:Expr}{es:List Expr}{te:TE}{t:TA},S.PE X e te->S.PA X es t->autoParam (Dy e=Bool.true) L2.Aa._auto_1->S.PA X (e::es) (X8 te t):=by with_unfolding_all exact @L2.Aa
theorem Ax:∀ {X:Cx},S.PSs X [] Aa7:=by with_unfolding_all exact @L2.Ax
theorem Ae:∀ {X:Cx}{st:Stmt}{t:TS},S.PS X st t->S.PSs X [st] t:=by with_unfolding_all exact @L2.Ae
theorem Ad:∀ {X:Cx}{st:Stmt}{rest:List Stmt}{t u:TS},S.PS X st t->S.PSs X rest u->S.PSs X (st::rest) (Adi t u):=by with_unfolding_all exact @L2.Ad
theorem Aq:∀ {X:Cx}{pos:Pos}{i:Nat}{x:Str},List.Nodup (Cx.N X)->(Cx.N X)[i]? =Option.some x->Loc (Env.scope (Cx.env X)) x->∀(hf:autoParam (Cx.fn X x=Bool.true\/List.lookup x (Scope.names (Env.scope (Cx.env X)))=Option.some NameKind.local) L2.Aq._auto_1),S.PG X (Expr.Name x pos) (R8 i):=by with_unfolding_all exact @L2.Aq
theorem Bq:∀ {X:Cx},S.PGs X [] Ae1:=by with_unfolding_all exact @L2.Bq
theorem Ao:∀ {X:Cx}{e:Expr}{es:List Expr}{t:TG}{u:TGs},S.PG X e t->S.PGs X es u->autoParam (List.map (fun(x:Bool × (Value->Sem Unit)) ↦ Prod.snd x) (assignEach (e::es) (Cx.env X))=assign e (Cx.env X)::List.map (fun(x:Bool × (Value->Sem Unit)) ↦ Prod.snd x) (assignEach es (Cx.env X))) L2.Ao._auto_1->S.PGs X (e::es) (Yz t u):=by with_unfolding_all exact @L2.Ao
theorem Lf:∀ {X:Cx}{es:List Expr}{k:Nat}{pos:Pos}{t:TGs} (K:W.Frag) (n:Nat),Cx.K X=K->Cx.calm X=Bool.true->S.PGs X es t->autoParam (List.length (assignEach es (Cx.env X))=n) L2.Lf._auto_1->autoParam (List.findIdx? (fun(x:Bool × (Value->Sem Unit)) ↦ Prod.fst x) (assignEach es (Cx.env X))=Option.none) L2.Lf._auto_2->S.PG X (Expr.Tuple es k pos) (Acu K n t):=by with_unfolding_all exact @L2.Lf
theorem Cr:∀ {X:Cx}{pos:Pos}{es:List Expr}{k:Nat}{t:TGs}{n:Nat},Cx.calm X=Bool.true->S.PGs X es t->autoParam (List.length (assignEach es (Cx.env X))=n) L2.Cr._auto_1->autoParam (List.findIdx? (fun(x:Bool × (Value->Sem Unit)) ↦ Prod.fst x) (assignEach es (Cx.env X))=Option.none) L2.Cr._auto_2->S.PG X (Expr.Tuple es k pos) (Acu (Cx.K X) n t):=by with_unfolding_all exact @L2.Cr
theorem Ow:∀ {X:Cx}{st:Stmt},S.PS X st Z0:=by with_unfolding_all exact @L2.Ow
theorem Ai:∀ {X:Cx}{pos:Pos}{i:Nat}{x:Str}{e:Expr}{te:TE}{pos':Pos},List.Nodup (Cx.N X)->(Cx.N X)[i]? =Option.some x->Loc (Env.scope (Cx.env X)) x->S.PE X e te->autoParam (swapsWith e (Option.some (Expr.Name x pos')) (Pos.line pos) (Cx.env X)=Pure.pure Bool.false) L2.Ai._auto_1->autoParam (Cx.fn X x=Bool.true\/List.lookup x (Scope.names (Env.scope (Cx.env X)))=Option.some NameKind.local) L2.Ai._auto_2->S.PS X (Stmt.Assign [Expr.Name x pos'] e pos) (Ab5 te (R8 i)):=by with_unfolding_all exact @L2.Ai
theorem Sw:∀ {X:Cx}{o i value:Expr}{pos pos':Pos}{td ty tv:TE},Around.units (Cx.A X)+(1:Nat)<cLine->S.PE X o td->S.PE X i ty->S.PE X value tv->swapsWith value (Option.some (Expr.Subscript o i pos')) (Pos.line pos) (Cx.env X)=Pure.pure Bool.false->S.PS X (Stmt.Assign [Expr.Subscript o i pos'] value pos) (Aas td ty tv):=by with_unfolding_all exact @L2.Sw
theorem Ti:∀ {X:Cx}{pos:Pos}{i j:Nat}{x y:Str}{a b:Expr}{ta:TA}{px py pt:Pos}{kt k2:Nat}{pt2:Pos},Cx.calm X=Bool.true->List.Nodup (Cx.N X)->(Cx.N X)[i]? =Option.some x->(Cx.N X)[j]? =Option.some y->i≠j->List.lookup x (Scope.names (Env.scope (Cx.env X)))=Option.some NameKind.local->List.lookup y (Scope.names (Env.scope (Cx.env X)))=Option.some NameKind.local->S.PA X [a,b] ta->swappedStores [Expr.Tuple [Expr.Name x px,Expr.Name y py] kt pt] (Expr.Tuple [a,b] k2 pt2) (Cx.env X)=Pure.pure (Option.some [x,y])->autoParam (swapsWithSole [Expr.Tuple [Expr.Name x px,Expr.Name y py] kt pt] (Expr.Tuple [a,b] k2 pt2) (Pos.line pos) (Cx.env X)=Pure.pure Bool.false) L2.Ti._auto_1->S.PS X (Stmt.Assign [Expr.Tuple [Expr.Name x px,Expr.Name y py] kt pt] (Expr.Tuple [a,b] k2 pt2) pos) (Adp i j ta):=by with_unfolding_all exact @L2.Ti
theorem El:∀ {X:Cx}{pos:Pos}{tg e:Expr}{te:TE}{g:TG},S.PE X e te->S.PG X tg g->autoParam (swapsWithSole [tg] e (Pos.line pos) (Cx.env X)=Pure.pure Bool.false) L2.El._auto_1->autoParam (swappedStores [tg] e (Cx.env X)=Pure.pure Option.none) L2.El._auto_2->autoParam (List.map (fun(x:Bool × (Value->Sem Unit)) ↦ Prod.snd x) (assignEach [tg] (Cx.env X))=[assign tg (Cx.env X)]) L2.El._auto_3->S.PS X (Stmt.Assign [tg] e pos) (Ab5 te g):=by with_unfolding_all exact @L2.El
theorem Al:∀ {X:Cx}{e:Expr}{te:TE}{pos:Pos},S.PE X e te->S.PS X (Stmt.Return (Option.some e) pos) (Aes te):=by with_unfolding_all exact @L2.Al
theorem Bm:∀ {X:Cx}{t u:TS}{pos:Pos}{c:Expr}{a b:List Stmt}{tc:TT},S.PT X c tc->S.PSs X a t->S.PSs X b u->S.PS X (Stmt.If c a b pos) (Aea tc t u):=by with_unfolding_all exact @L2.Bm
theorem Gy:∀ {P:Program}{w:World}{K:W.Frag}{mg:Str->Option Value}{base:Heap}{N:List Str}{qual:Str}{scope:Scope}{f:Addr}{cd:Value}{A:Around}{outer:List Env}{s0:Shared}{H0:Hp}{E:XK}{C:Addr}{x:Str}{np cpos pos:Pos}{e:Expr}{es:List Expr}{t:TA},Aba K C->mg x=Option.some (Value.ref C)->S.PA (Nf (CXE P w) P w K mg base N qual scope f cd A outer s0 H0 E) (e::es) t->autoParam (Gl (Nf (CXE P w) P w K mg base N qual scope f cd A outer s0 H0 E) x) L2.Gy._auto_1->autoParam ((x==("__debug__":Str))=Bool.false) L2.Gy._auto_2->autoParam (starEach (e::es) (PyProof.Rows.envOfC qual scope (Array.size (Heap.objs (Shared.heap s0))) f cd)=(Bool.false,eval e (PyProof.Rows.envOfC qual scope (Array.size (Heap.objs (Shared.heap s0))) f cd))::starEach es (PyProof.Rows.envOfC qual scope (Array.size (Heap.objs (Shared.heap s0))) f cd)) L2.Gy._auto_3->autoParam ((List.any (backTo cpos (starEach es (PyProof.Rows.envOfC qual scope (Array.size (Heap.objs (Shared.heap s0))) f cd))) fun(x:Bool × Sem Value) ↦ Prod.fst x)=Bool.false) L2.Gy._auto_4->S.PS (Nf (CXE P w) P w K mg base N qual scope f cd A outer s0 H0 E) (Stmt.Raise (Option.some (Expr.Call (Expr.Name x np) (e::es) [] cpos)) Option.none pos) (Vz C E t):=by with_unfolding_all exact @L2.Gy
theorem Ab2:∀ {X:Cx}{st:Stmt}{t:TS},S.PS (Cx.nox X) st t->S.PS X st t:=by with_unfolding_all exact @L2.PS.nox
theorem Ho:∀ {X:Cx}{pos:Pos}{c:Expr}{body:List Stmt}{tc:TT}{tb:TS},PassesOwn (model (Cx.prog X) (Cx.w X)) (Cx.A X) (Cx.env X) (Cx.xe X)->S.PT X c tc->S.PSs X body tb->S.PS X (Stmt.While c body [] pos) (Tv tc tb):=by with_unfolding_all exact @L2.Ho
theorem Gw:∀ {X:Cx}{tg iter:Expr}{body:List Stmt}{wi:TI}{g:TG}{tb:TS}{pos:Pos},PassesOwn (model (Cx.prog X) (Cx.w X)) (Cx.A X) (Cx.env X) (Cx.xe X)->Cx.calm X=Bool.true->S.PI X tg iter wi->S.PG X tg g->S.PSs X body tb->autoParam (∀(x:Value),foldedSetIterable iter (Cx.env X) x=Pure.pure x) L2.Gw._auto_1->S.PS X (Stmt.For tg iter body [] pos) (Ad9 wi g tb):=by with_unfolding_all exact @L2.Gw
theorem Ji:∀ {X:Cx}{e:Expr}{te:TE}{pos:Pos},S.PE X e te->autoParam (swapsWith e Option.none (Pos.line pos) (Cx.env X)=Pure.pure Bool.false) L2.Ji._auto_1->S.PS X (Stmt.Expr e pos) (Aa2 te):=by with_unfolding_all exact @L2.Ji
theorem Bj {X:Cx}{b:List Stmt}{φ:TS->Prop} (h:∃t,PSs X b t/\φ t):∃t,L2.PSs X b t/\φ t:=by
  obtain⟨t,h1,h2⟩:=h
  exact⟨t,out h1,h2⟩
end L2.S
namespace Z
theorem Oz {a b:Int} (h:0<b):a.fdiv (Int.gcd a b:Int)=(Rat.divInt a b).num/\b.fdiv (Int.gcd a b:Int)=((Rat.divInt a b).den:Int):=by
  have g0:(0:Int)<=(Int.gcd a b:Int):=Int.natCast_nonneg _
  rw [Int.fdiv_eq_ediv_of_nonneg _ g0,Int.fdiv_eq_ediv_of_nonneg _ g0,Rat.num_divInt,Rat.den_divInt]
  rw [if_neg (by omega),Int.sign_eq_one_of_pos h,Int.one_mul,Int.gcd_comm b a]
  refine⟨rfl,?_⟩
  rw [Int.natCast_ediv]
  congr 1
  omega
theorem T7 {a b:Int} (h:b<0):a.fdiv (-(Int.gcd a b:Int))=(Rat.divInt a b).num/\b.fdiv (-(Int.gcd a b:Int))=((Rat.divInt a b).den:Int):=by
  have e:Rat.divInt a b=Rat.divInt (-a) (-b):=(Rat.neg_divInt_neg a b).symm
  have p:=Oz (a:= -a) (b:= -b) (by omega)
  have hg:Int.gcd (-a) (-b)=Int.gcd a b:=by rw [Int.gcd_neg,Int.neg_gcd]
  rw [hg]at p
  rw [e,<-p.1,<-p.2]
  constructor
  . rw [<-Int.neg_fdiv_neg (-a),Int.neg_neg]
  . rw [<-Int.neg_fdiv_neg (-b),Int.neg_neg]
theorem Aew (p q:Rat):Rat.divInt (p.num*q.den+q.num*p.den) (p.den*q.den)=p+q:=by
  rw [Rat.add_def',<-Rat.divInt_ofNat];congr 1
theorem Afb (p q:Rat):Rat.divInt (p.num*q.den-q.num*p.den) (p.den*q.den)=p-q:=by
  rw [Rat.sub_def',<-Rat.divInt_ofNat];congr 1
theorem Adl (p q:Rat):Rat.divInt (p.num*q.num) (p.den*q.den)=p*q:=by
  rw [Rat.mul_def',<-Rat.divInt_ofNat];congr 1
theorem Afc (p q:Rat):Rat.divInt (p.num*q.den) (p.den*q.num)=p/q:=by
  rw [Rat.div_def,Rat.inv_def]
  conv=>rhs;rw [<-Rat.num_divInt_den p]
  rw [Rat.divInt_mul_divInt]
theorem Ut (p:Rat):Rat.divInt p.num p.den=p:=Rat.num_divInt_den p
theorem Ac7 (a b:Int):(Rat.divInt a b).num.natAbs<=a.natAbs:=by
  rw [Rat.num_divInt]
  refine Nat.le_trans (Int.natAbs_ediv_le_natAbs _ _) ?_
  rw [Int.natAbs_mul]
  have:b.sign.natAbs<=1:=by
    rcases Int.lt_trichotomy b 0 with h | h | h
    . rw [Int.sign_eq_neg_one_of_neg h];decide
    . subst h;decide
    . rw [Int.sign_eq_one_of_pos h];decide
  calc b.sign.natAbs*a.natAbs<=1*a.natAbs:=Nat.mul_le_mul_right _ this
    _=a.natAbs:=Nat.one_mul _
theorem Nz {a b:Int} (h:b≠0):(Rat.divInt a b).den<=b.natAbs:=by
  rw [Rat.den_divInt,if_neg h]
  exact Nat.div_le_self _ _
theorem abs_eq (i:Int):(if i<0 then-i else i)=((i.natAbs:Nat):Int):=by
  split<;>omega
theorem Y4 (x y:Nat):Nat.gcd y (x%y)=Nat.gcd x y:=by
  rw [Nat.gcd_comm y (x%y),<-Nat.gcd_rec,Nat.gcd_comm]
theorem Vk (q:Rat):(q.num=0)=(q=0):=propext Rat.num_eq_zero
theorem Oj (p q:Rat):(p.num*(q.den:Int)<q.num*(p.den:Int))=(p<q):=by
  rw [Rat.lt_iff]
theorem Adj (q:Rat):(0<q.num)=(0<q):=by
  rw [<-Oj 0 q];show _=(0*(q.den:Int)<q.num*1);simp
theorem Zz (q:Rat):(q.num<0)=(q<0):=by
  rw [<-Oj q 0];show _=(q.num*1<0*(q.den:Int));simp
def sg (q:Rat):Int:=if q=0 then 0 else if 0<q then 1 else-1
end Z
theorem Aev (a:Int):0<=a*a:=by
  rcases Int.le_total 0 a with h | h
  . exact Int.mul_nonneg h h
  . have:=Int.mul_nonneg (Int.neg_nonneg_of_nonpos h) (Int.neg_nonneg_of_nonpos h)
    rwa [Int.neg_mul_neg]at this
theorem Acz {n g:Int} (hg:0<g) (hn:0<=n):n<((g+n/g)/2+1)*((g+n/g)/2+1):=by
  have h1:n<g*(n/g+1):=by
    have:=Int.lt_mul_ediv_self_add (x:=n) hg
    rw [Int.mul_add,Int.mul_one]
    exact this
  have hq:0<=n/g:=Int.ediv_nonneg hn (Int.le_of_lt hg)
  generalize n/g=q at*
  have h2:g+q+1<=2*((g+q)/2+1):=by omega
  have hc:0<=(g+q)/2+1:=by omega
  generalize (g+q)/2+1=c at*
  have h3:(g+q+1)*(g+q+1)<=(2*c)*(2*c):=Int.mul_le_mul h2 h2 (by omega) (by omega)
  have h4:=Aev (g-(q+1))
  grind
theorem U9 {n g:Int} (hg:0<g) (h:¬(g+n/g)/2<g):g*g<=n:=by
  have h1:g<=n/g:=by omega
  have h2:g*(n/g)<=n:=Int.mul_ediv_self_le (by omega)
  exact Int.le_trans (Int.mul_le_mul_of_nonneg_left h1 (by omega)) h2
theorem U8 {n g:Int} (hg:0<g) (hn:0<n):0<(g+n/g)/2\/¬(g+n/g)/2<g:=by
  by_cases h:g=1
  . subst h;rw [Int.ediv_one];omega
  . have:=Int.ediv_nonneg (Int.le_of_lt hn) (Int.le_of_lt hg)
    omega
theorem Ve {n:Int}{b:Nat} (h0:0<=n) (h:n.natAbs<2^b):n<((2:Int)^((b+1)/2)+1)*(2^((b+1)/2)+1):=by
  have h1:(2:Nat)^b<=2^((b+1)/2)*2^((b+1)/2):=by
    rw [<-Nat.pow_add];exact Nat.pow_le_pow_right (by decide) (by omega)
  have e:((2:Int)^((b+1)/2))=((2^((b+1)/2):Nat):Int):=by simp
  rw [e]
  generalize 2^((b+1)/2)=t at*
  have h2:n.natAbs<t*t:=by omega
  have h3:n<(t*t:Nat):=by omega
  have e2:((t*t:Nat):Int)=(t:Int)*t:=by simp
  rw [e2]at h3
  have:(0:Int)<=t:=by omega
  grind
namespace Z
def SF (n:Nat):Prop:=∀u,2<=u->¬u*u∣n
theorem Xy {s m t:Nat} (h:SF m) (s0:0<s) (m0:0<m) (ht:t*t∣s*s*m):t∣s:=by
  have g0:0<Nat.gcd t s:=Nat.gcd_pos_of_pos_right _ s0
  obtain⟨t',et⟩:=Nat.gcd_dvd_left t s
  obtain⟨s',es⟩:=Nat.gcd_dvd_right t s
  have cp:Nat.Coprime t' s':=by
    have:=Nat.gcd_mul_left (Nat.gcd t s) t' s'
    rw [<-et,<-es]at this
    exact Nat.eq_of_mul_eq_mul_left g0 (by omega)
  generalize Nat.gcd t s=g at*
  subst et es
  have hd:t'*t'∣s'*s'*m:=by
    refine Nat.dvd_of_mul_dvd_mul_left (Nat.mul_pos g0 g0) ?_
    have e1:g*t'*(g*t')=g*g*(t'*t'):=by grind
    have e2:g*s'*(g*s')*m=g*g*(s'*s'*m):=by grind
    rw [e1,e2]at ht
    exact ht
  have c2:Nat.Coprime (t'*t') (s'*s'):=(cp.mul_left cp).mul_right (cp.mul_left cp)
  have hm:=c2.dvd_of_dvd_mul_left hd
  have t1:t'=1:=by
    have a:¬2<=t':=fun z=>h t' z hm
    have b:t'≠0:=fun z=>by
      subst z
      have:=Nat.eq_zero_of_zero_dvd (by simpa using hm)
      omega
    omega
  subst t1
  exact⟨s',by grind⟩
theorem Wv {a b:Nat} (ha:SF a) (hb:SF b) (c:Nat.Coprime a b):SF (a*b):=by
  intro u h2 hu
  by_cases g:Nat.gcd u a=1
  . have c2:Nat.Coprime (u*u) a:=Nat.Coprime.mul_left g g
    exact hb u h2 (c2.dvd_of_dvd_mul_left hu)
  . have gu:Nat.gcd u a∣u:=Nat.gcd_dvd_left u a
    have ga:Nat.gcd u a∣a:=Nat.gcd_dvd_right u a
    have g0:0<Nat.gcd u a:=Nat.gcd_pos_of_pos_left _ (by omega)
    generalize Nat.gcd u a=v at*
    have cv:Nat.Coprime v b:=Nat.Coprime.coprime_dvd_left ga c
    have c2:Nat.Coprime (v*v) b:=cv.mul_left cv
    exact ha v (by omega) (c2.dvd_of_dvd_mul_right (Nat.dvd_trans (Nat.mul_dvd_mul gu gu) hu))
structure SqS (d f l t:Nat):Prop where
  t2:2<=t
  f0:0<f
  l0:0<l
  le:f*f*l<=d
  eq:∃r,f*f*l*r=d/\0<r/\SF r/\Nat.Coprime r l
  low:∀u,2<=u->u<t->¬u∣l
theorem SqS.start {d:Nat} (h:0<d):SqS d 1 d 2:=⟨by decide,by decide,h,by omega,⟨1,by omega,by decide,fun u h2 hd=>by
  have:=Nat.le_of_dvd (by decide) hd
  have:2*2<=u*u:=Nat.mul_le_mul h2 h2
  omega,Nat.gcd_one_left _⟩,fun u h1 h2=>by omega⟩
theorem SqS.inner {d f l t:Nat} (h:SqS d f l t) (hd:l%(t*t)=0):SqS d (f*t) (l/(t*t)) t/\l/(t*t)<l:=by
  obtain⟨k,rfl⟩:=Nat.dvd_of_mod_eq_zero hd
  have tt:0<t*t:=Nat.mul_pos (by have:=h.t2;omega) (by have:=h.t2;omega)
  have tb:2*2<=t*t:=Nat.mul_le_mul h.t2 h.t2
  have k0:0<k:=by
    have:=h.l0
    exact Nat.pos_of_mul_pos_left this
  rw [Nat.mul_div_cancel_left _ tt]
  obtain⟨r,e,r0,sf,cp⟩:=h.eq
  have e2:f*t*(f*t)*k=f*f*(t*t*k):=by grind
  refine⟨⟨h.t2,Nat.mul_pos h.f0 (by have:=h.t2;omega),k0,by rw [e2];exact h.le,⟨r,by rw [e2];exact e,r0,sf,Nat.Coprime.coprime_dvd_right ⟨t*t,by grind⟩ cp⟩,fun u h1 h2 hu=>h.low u h1 h2 (Nat.dvd_trans hu ⟨t*t,by grind⟩)⟩,?_⟩
  have:1*k<t*t*k:=Nat.mul_lt_mul_of_pos_right (by omega) k0
  omega
theorem SqS.step {d f l t:Nat} (h:SqS d f l t) (hn:¬l%(t*t)=0):SqS d f (if l%t=0 then l/t else l) (t+1):=by
  have t2:=h.t2
  by_cases hd:l%t=0
  . rw [if_pos hd]
    obtain⟨k,rfl⟩:=Nat.dvd_of_mod_eq_zero hd
    rw [Nat.mul_div_cancel_left _ (by omega)]
    have k0:0<k:=Nat.pos_of_mul_pos_left h.l0
    obtain⟨r,e,r0,sf,cp⟩:=h.eq
    have ntk:¬t∣k:=fun⟨j,ej⟩=>hn (Nat.mod_eq_zero_of_dvd ⟨j,by rw [ej];grind⟩)
    have only:∀v,v∣t->v=1\/v=t:=fun v hv=>by
      have vt:=Nat.le_of_dvd (by omega) hv
      have v0:v≠0:=fun z=>by
        subst z
        have:=Nat.eq_zero_of_zero_dvd hv
        omega
      by_cases v1:v=1
      . exact .inl v1
      . refine .inr (Nat.le_antisymm vt (Nat.le_of_not_lt fun lt=>h.low v (by omega) lt (Nat.dvd_trans hv ⟨k,rfl⟩)))
    have crt:Nat.Coprime r t:=Nat.Coprime.coprime_dvd_right ⟨k,rfl⟩ cp
    have crk:Nat.Coprime r k:=Nat.Coprime.coprime_dvd_right ⟨t,by grind⟩ cp
    have ctk:Nat.Coprime t k:=by
      rcases only _ (Nat.gcd_dvd_left t k)with g | g
      . exact g
      . exact absurd (by have:=Nat.gcd_dvd_right t k;rw [g]at this;exact this) ntk
    have sft:SF t:=fun u h2 hu=>by
      have ut:u∣t:=Nat.dvd_trans ⟨u,rfl⟩ hu
      rcases only u ut with z | z
      . omega
      . subst z
        have:=Nat.le_of_dvd (by omega) hu
        have:2*u<=u*u:=Nat.mul_le_mul_right u h2
        omega
    refine⟨by omega,h.f0,k0,Nat.le_trans (Nat.mul_le_mul_left _ ?_) h.le,⟨r*t,by rw [<-e];grind,Nat.mul_pos r0 (by omega),Wv sf sft crt,Nat.Coprime.mul_left crk ctk⟩,fun u h1 h2 hu=> ?_⟩
    . have:1*k<=t*k:=Nat.mul_le_mul_right k (by omega)
      omega
    . by_cases ut:u=t
      . subst ut
        exact ntk hu
      . exact h.low u h1 (by omega) (Nat.dvd_trans hu ⟨t,by grind⟩)
  . rw [if_neg hd]
    refine⟨by omega,h.f0,h.l0,h.le,h.eq,fun u h1 h2 hu=> ?_⟩
    by_cases ut:u=t
    . subst ut
      exact hd (Nat.mod_eq_zero_of_dvd hu)
    . exact h.low u h1 (by omega) hu
theorem SqS.last {d f l t r0:Nat} (h:SqS d f l t) (hl:l<t*t*t) (h1:r0*r0<=l) (h2:l<(r0+1)*(r0+1)):∃m,SF m/\0<m/\(if r0*r0=l then f*r0 else f)*(if r0*r0=l then f*r0 else f)*m=d/\0<(if r0*r0=l then f*r0 else f):=by
  obtain⟨r,e,rp,sf,cp⟩:=h.eq
  have l0:=h.l0
  by_cases hr:r0*r0=l
  . rw [if_pos hr]
    refine⟨r,sf,rp,by rw [<-e,<-hr];grind,Nat.mul_pos h.f0 (Nat.pos_of_ne_zero fun z=> ?_)⟩
    subst z
    omega
  . rw [if_neg hr]
    refine⟨l*r,Wv (fun u u2 hu=> ?_) sf cp.symm,Nat.mul_pos l0 rp,by rw [<-e];grind,h.f0⟩
    obtain⟨k,ek⟩:=hu
    have ut:t<=u:=Nat.le_of_not_lt fun lt=>h.low u u2 lt ⟨u*k,by rw [ek];grind⟩
    have k0:k≠0:=fun z=>by
      subst z
      omega
    by_cases k1:k=1
    . subst k1
      have e1:u*u=l:=by omega
      have a:¬u<=r0:=fun z=>by
        have:=Nat.mul_le_mul z z
        have:r0*r0=l:=by omega
        exact hr this
      have b:(r0+1)*(r0+1)<=u*u:=Nat.mul_le_mul (by omega) (by omega)
      omega
    . have kt:t<=k:=Nat.le_of_not_lt fun lt=>h.low k (by omega) lt ⟨u*u,by rw [ek];grind⟩
      have:t*t*t<=u*u*k:=Nat.mul_le_mul (Nat.mul_le_mul ut ut) kt
      omega
end Z
namespace Z
theorem Zj {n:Nat} (h:SF n) (h1:1<n) {p q:Int} (e:p*p=q*q*n):q=0:=by
  refine Classical.byContradiction fun q0=> ?_
  have e':p.natAbs*p.natAbs=q.natAbs*q.natAbs*n:=by
    have:=congrArg Int.natAbs e
    rw [Int.natAbs_mul,Int.natAbs_mul,Int.natAbs_mul,Int.natAbs_natCast]at this
    exact this
  have qp:0<q.natAbs:=by omega
  have hd:=Xy h qp (by omega) (t:=p.natAbs) ⟨1,by rw [Nat.mul_one];exact e'.symm⟩
  obtain⟨k,hk⟩:=hd
  rw [hk]at e'
  have p0:0<p.natAbs:=Nat.pos_of_ne_zero fun z=>by
    rw [z]at hk
    omega
  have pp:=Nat.mul_pos p0 p0
  have e2:p.natAbs*p.natAbs*1=p.natAbs*p.natAbs*(k*k*n):=by grind
  have e3:=Nat.eq_of_mul_eq_mul_left pp e2
  have k0:0<k:=Nat.pos_of_ne_zero fun z=>by
    rw [z]at e3
    omega
  have:1*1*n<=k*k*n:=Nat.mul_le_mul_right _ (Nat.mul_le_mul k0 k0)
  omega
def Nsq (n:Int):Prop:=∀p q:Int,p*p=q*q*n->q=0
theorem Nsq.of {d:Int} (h:SF d.toNat) (h1:1<d):Nsq d:=fun p q e=>Zj h (n:=d.toNat) (by omega) (by rw [Int.toNat_of_nonneg (by omega)];exact e)
def gA (a b c d:Int):Int:=a+d-b-c
def gG (A B C D:Rat):Rat:=(A*A+B*B+C*C+D*D-2*(A*B+A*C+A*D+B*C+B*D+C*D))*(A*A+B*B+C*C+D*D-2*(A*B+A*C+A*D+B*C+B*D+C*D))-64*(A*B*C*D)
def gI (A B C D:Int):Int:=(A*A+B*B+C*C+D*D-2*(A*B+A*C+A*D+B*C+B*D+C*D))*(A*A+B*B+C*C+D*D-2*(A*B+A*C+A*D+B*C+B*D+C*D))-64*(A*B*C*D)
theorem Ado (A B C D:Int):gI A B C D=(gA A B C D*gA A B C D+4*(A*D)-4*(B*C))*(gA A B C D*gA A B C D+4*(A*D)-4*(B*C))-16*(gA A B C D*gA A B C D)*(A*D):=by
  unfold gI gA
  grind
theorem Aau {a b c d:Rat} (h:a+b+c+d=0):gG (a*a) (b*b) (c*c) (d*d)=0:=by
  have e:a=0-b-c-d:=by grind
  subst e
  unfold gG
  grind
theorem Ad3 {a0 a1 a2 a3 d1 d2 d3:Int} (h0:a0≠0\/a1≠0\/a2≠0\/a3≠0) (n1:a1≠0->Nsq d1) (n2:a2≠0->Nsq d2) (n3:a3≠0->Nsq d3) (n12:a1≠0->a2≠0->Nsq (d1*d2)) (n13:a1≠0->a3≠0->Nsq (d1*d3)) (n23:a2≠0->a3≠0->Nsq (d2*d3)):gI (a0*a0) (a1*a1*d1) (a2*a2*d2) (a3*a3*d3)≠0:=by
  intro z
  rw [Ado]at z
  have sq0:∀x:Int,x*x=0->x=0:=fun x h=>(Int.mul_eq_zero.mp h).elim id id
  by_cases h3:a3=0
  . subst h3
    have e:gA (a0*a0) (a1*a1*d1) (a2*a2*d2) 0*gA (a0*a0) (a1*a1*d1) (a2*a2*d2) 0-4*(a1*a1*d1*(a2*a2*d2))=0:=sq0 _ (by grind)
    by_cases h12:a1≠0/\a2≠0
    . have:=n12 h12.1 h12.2 (gA (a0*a0) (a1*a1*d1) (a2*a2*d2) 0) (2*(a1*a2)) (by grind)
      have:=(Int.mul_eq_zero.mp this).resolve_left (by decide)
      exact(Int.mul_eq_zero.mp this).elim h12.1 h12.2
    . have hX:gA (a0*a0) (a1*a1*d1) (a2*a2*d2) 0=0:=sq0 _ (by
        by_cases g1:a1=0
        . subst g1
          grind
        . have g2:a2=0:=Classical.byContradiction fun g=>h12 ⟨g1,g⟩
          subst g2
          grind)
      unfold gA at hX
      by_cases g1:a1=0
      . subst g1
        by_cases g2:a2=0
        . subst g2
          have:a0=0:=sq0 _ (by grind)
          omega
        . exact g2 (n2 g2 a0 a2 (by grind))
      . have g2:a2=0:=Classical.byContradiction fun g=>h12 ⟨g1,g⟩
        subst g2
        exact g1 (n1 g1 a0 a1 (by grind))
  . have q:=n3 h3 _ (4*(gA (a0*a0) (a1*a1*d1) (a2*a2*d2) (a3*a3*d3)*(a0*a3))) (show(gA (a0*a0) (a1*a1*d1) (a2*a2*d2) (a3*a3*d3)*gA (a0*a0) (a1*a1*d1) (a2*a2*d2) (a3*a3*d3)+4*(a0*a0*(a3*a3*d3))-4*(a1*a1*d1*(a2*a2*d2)))*_=_ by grind)
    have q1:=(Int.mul_eq_zero.mp q).resolve_left (by decide)
    have e:gA (a0*a0) (a1*a1*d1) (a2*a2*d2) (a3*a3*d3)*gA (a0*a0) (a1*a1*d1) (a2*a2*d2) (a3*a3*d3)+4*(a0*a0*(a3*a3*d3))-4*(a1*a1*d1*(a2*a2*d2))=0:=sq0 _ (by
      have:gA (a0*a0) (a1*a1*d1) (a2*a2*d2) (a3*a3*d3)*(a0*a3)*(gA (a0*a0) (a1*a1*d1) (a2*a2*d2) (a3*a3*d3)*(a0*a3))=0:=by rw [q1];rfl
      grind)
    by_cases g0:a0=0
    . subst g0
      by_cases h12:a1≠0/\a2≠0
      . have:=n12 h12.1 h12.2 (gA (0*0) (a1*a1*d1) (a2*a2*d2) (a3*a3*d3)) (2*(a1*a2)) (by grind)
        have:=(Int.mul_eq_zero.mp this).resolve_left (by decide)
        exact(Int.mul_eq_zero.mp this).elim h12.1 h12.2
      . have hX:gA (0*0) (a1*a1*d1) (a2*a2*d2) (a3*a3*d3)=0:=sq0 _ (by
          by_cases g1:a1=0
          . subst g1
            grind
          . have g2:a2=0:=Classical.byContradiction fun g=>h12 ⟨g1,g⟩
            subst g2
            grind)
        unfold gA at hX
        by_cases g1:a1=0
        . subst g1
          by_cases g2:a2=0
          . subst g2
            exact h3 (n3 h3 0 a3 (by grind))
          . exact h3 (n23 g2 h3 (a2*d2) a3 (by grind))
        . have g2:a2=0:=Classical.byContradiction fun g=>h12 ⟨g1,g⟩
          subst g2
          exact h3 (n13 g1 h3 (a1*d1) a3 (by grind))
    . have hX:gA (a0*a0) (a1*a1*d1) (a2*a2*d2) (a3*a3*d3)=0:=(Int.mul_eq_zero.mp q1).resolve_right fun z=>(Int.mul_eq_zero.mp z).elim g0 h3
      rw [hX]at e
      unfold gA at hX
      have f:(a0*a0-a1*a1*d1)*(a0*a0-a2*a2*d2)=0:=by grind
      rcases Int.mul_eq_zero.mp f with f | f
      . by_cases g1:a1=0
        . subst g1
          exact g0 (sq0 _ (by grind))
        . exact g1 (n1 g1 a0 a1 (by grind))
      . by_cases g2:a2=0
        . subst g2
          exact g0 (sq0 _ (by grind))
        . exact g2 (n2 g2 a0 a2 (by grind))
end Z
namespace Z
structure Cl (U r u v:Rat):Prop where
  u1:0-U<=u
  u2:u<=U
  v1:0-U<=v
  v2:v<=U
  d1:0-U*r<=u-v
  d2:u-v<=U*r
theorem M9 {U W u w:Rat} (h1:0-U<=u) (h2:u<=U) (g1:0-W<=w) (g2:w<=W):0-U*W<=u*w/\u*w<=U*W:=by
  have a:=Rat.mul_nonneg (show 0<=U-u by grind) (show 0<=W+w by grind)
  have b:=Rat.mul_nonneg (show 0<=U+u by grind) (show 0<=W-w by grind)
  have c:=Rat.mul_nonneg (show 0<=U-u by grind) (show 0<=W-w by grind)
  have d:=Rat.mul_nonneg (show 0<=U+u by grind) (show 0<=W+w by grind)
  constructor<;>grind
theorem Cl.mul {U r u v W s w z:Rat} (h:Cl U r u v) (g:Cl W s w z):Cl (U*W) (r+s) (u*w) (v*z):=by
  obtain⟨h1,h2,h3,h4,h5,h6⟩:=h
  obtain⟨g1,g2,g3,g4,g5,g6⟩:=g
  obtain⟨a1,a2⟩:=M9 h1 h2 g1 g2
  obtain⟨b1,b2⟩:=M9 h3 h4 g3 g4
  obtain⟨c1,c2⟩:=M9 h1 h2 g5 g6
  obtain⟨d1,d2⟩:=M9 g3 g4 h5 h6
  refine⟨a1,a2,b1,b2,?_,?_⟩<;>grind
theorem Cl.add {U r u v W w z:Rat} (h:Cl U r u v) (g:Cl W r w z):Cl (U+W) r (u+w) (v+z):=by
  obtain⟨h1,h2,h3,h4,h5,h6⟩:=h
  obtain⟨g1,g2,g3,g4,g5,g6⟩:=g
  refine⟨?_,?_,?_,?_,?_,?_⟩<;>grind
theorem Cl.sub {U r u v W w z:Rat} (h:Cl U r u v) (g:Cl W r w z):Cl (U+W) r (u-w) (v-z):=by
  obtain⟨h1,h2,h3,h4,h5,h6⟩:=h
  obtain⟨g1,g2,g3,g4,g5,g6⟩:=g
  refine⟨?_,?_,?_,?_,?_,?_⟩<;>grind
theorem Cl.times {U r u v:Rat} (h:Cl U r u v) {k:Rat} (k0:0<=k):Cl (k*U) r (k*u) (k*v):=by
  obtain⟨h1,h2,h3,h4,h5,h6⟩:=h
  have a1:=Rat.mul_le_mul_of_nonneg_left h1 k0
  have a2:=Rat.mul_le_mul_of_nonneg_left h2 k0
  have a3:=Rat.mul_le_mul_of_nonneg_left h3 k0
  have a4:=Rat.mul_le_mul_of_nonneg_left h4 k0
  have a5:=Rat.mul_le_mul_of_nonneg_left h5 k0
  have a6:=Rat.mul_le_mul_of_nonneg_left h6 k0
  refine⟨?_,?_,?_,?_,?_,?_⟩<;>grind
theorem Aao {U r A B C D A' B' C' D':Rat} (a:Cl U r A A') (b:Cl U r B B') (c:Cl U r C C') (d:Cl U r D D'):gG A B C D-gG A' B' C' D'<=1280*(U*U*(U*U))*r/\0-1280*(U*U*(U*U))*r<=gG A B C D-gG A' B' C' D':=by
  have e1:=((((a.mul a).add (b.mul b)).add (c.mul c)).add (d.mul d)).sub (((((((a.mul b).add (a.mul c)).add (a.mul d)).add (b.mul c)).add (b.mul d)).add (c.mul d)).times (k:=2) (by decide))
  have e2:=e1.mul e1
  have e3:=(((a.mul b).mul c).mul d).times (k:=64) (by decide)
  have k1:=e2.d1
  have k2:=e2.d2
  have k3:=e3.d1
  have k4:=e3.d2
  unfold gG
  constructor
  . grind
  . grind
theorem Aay (A B C D:Int):gG (A:Rat) (B:Rat) (C:Rat) (D:Rat)=((gI A B C D:Int):Rat):=by
  unfold gG gI
  simp only [Rat.intCast_sub,Rat.intCast_mul,Rat.intCast_add]
  rfl
theorem Afu {a0 a1 a2 a3 d1 d2 d3:Int}{x1 x2 x3 U r:Rat} (nz:gI (a0*a0) (a1*a1*d1) (a2*a2*d2) (a3*a3*d3)≠0) (hx:(a0:Rat)+a1*x1+a2*x2+a3*x3=0) (b0:Cl U r ((a0*a0:Int):Rat) (a0*a0)) (b1:Cl U r ((a1*a1*d1:Int):Rat) (a1*x1*(a1*x1))) (b2:Cl U r ((a2*a2*d2:Int):Rat) (a2*x2*(a2*x2))) (b3:Cl U r ((a3*a3*d3:Int):Rat) (a3*x3*(a3*x3))) (small:1280*(U*U*(U*U))*r<1):False:=by
  obtain⟨n1,n2⟩:=Aao b0 b1 b2 b3
  rw [Aau hx,Aay]at n1 n2
  generalize gI (a0*a0) (a1*a1*d1) (a2*a2*d2) (a3*a3*d3)=g at*
  have h1:((g:Int):Rat)<((1:Int):Rat):=by
    show((g:Int):Rat)<1
    grind
  have h2:((-1:Int):Rat)<((g:Int):Rat):=by
    show(-1:Rat)<_
    grind
  have:=Rat.intCast_lt_intCast.mp h1
  have:=Rat.intCast_lt_intCast.mp h2
  omega
end Z
namespace Z
theorem Im (q:Rat):q*((q.den:Nat):Rat)=((q.num:Int):Rat):=by
  have d0:(q.den:Int)≠0:=by have:=q.den_nz;omega
  rw [<-Adl]
  show Rat.divInt (q.num*(q.den:Int)) ((q.den:Int)*1)=((q.num:Int):Rat)
  have e:((q.num:Int):Rat)=Rat.divInt q.num 1:=(Ut ((q.num:Int):Rat)).symm
  rw [e,Rat.divInt_eq_divInt_iff (by omega) (by decide)]
  grind
theorem Gm (q:Rat):(0:Rat)<((q.den:Nat):Rat):=Rat.natCast_pos.mpr (Nat.pos_of_ne_zero q.den_nz)
theorem R6 {a d T x U η:Rat} (a1:0-T<=a) (a2:a<=T) (d1:0<=d) (d2:d<=10201) (x1:0<=x) (x2:x<=101) (e1:0-η<=d-x*x) (e2:d-x*x<=η) (hU:U=T*T*10201):Cl U η (a*a*d) (a*x*(a*x)):=by
  have T0:0<=T:=by grind
  have s:=(M9 a1 a2 a1 a2).2
  have s0:0<=a*a:=by
    by_cases h:0<=a
    . exact Rat.mul_nonneg h h
    . have:=Rat.mul_nonneg (show 0<=0-a by grind) (show 0<=0-a by grind)
      grind
  have xx:0<=x*x:=Rat.mul_nonneg x1 x1
  have x2':x*x<=10201:=by
    have:=Rat.mul_le_mul_of_nonneg_left x2 x1
    grind
  have t1:=Rat.mul_nonneg s0 d1
  have t2:=Rat.mul_nonneg s0 (show 0<=10201-d by grind)
  have t3:=Rat.mul_nonneg s0 xx
  have t4:=Rat.mul_nonneg s0 (show 0<=10201-x*x by grind)
  have t5:=Rat.mul_nonneg (show 0<=T*T-a*a by grind) (show(0:Rat)<=10201 by decide)
  have n0:0<=η:=by grind
  have t6:=Rat.mul_nonneg s0 (show 0<=η-(d-x*x)by grind)
  have t7:=Rat.mul_nonneg s0 (show 0<=η+(d-x*x)by grind)
  have t8:=Rat.mul_nonneg (show 0<=T*T-a*a by grind) n0
  have t9:=Rat.mul_nonneg (Rat.mul_nonneg T0 T0) n0
  have tA:=Rat.mul_nonneg t9 (show(0:Rat)<=10200 by decide)
  subst hU
  refine⟨?_,?_,?_,?_,?_,?_⟩<;>grind
structure Co (c:Rat) (B:Rat):Prop where
  lo:0-B<=c
  hi:c<=B
theorem Aaj {c0 c1 c2 c3 x1 x2 x3 B P T U η:Rat}{d1 d2 d3:Int} (h0:c0≠0\/c1≠0\/c2≠0\/c3≠0) (n1:c1≠0->Nsq d1) (n2:c2≠0->Nsq d2) (n3:c3≠0->Nsq d3) (n12:c1≠0->c2≠0->Nsq (d1*d2)) (n13:c1≠0->c3≠0->Nsq (d1*d3)) (n23:c2≠0->c3≠0->Nsq (d2*d3))
    (b0:Co c0 B) (b1:Co c1 B) (b2:Co c2 B) (b3:Co c3 B) (hP:((c0.den*(c1.den*(c2.den*c3.den)):Nat):Rat)<=P) (hT:T=B*P) (hU:U=T*T*10201)
    (r1:0<=d1/\d1<=10201) (r2:0<=d2/\d2<=10201) (r3:0<=d3/\d3<=10201) (y1:0<=x1/\x1<=101) (y2:0<=x2/\x2<=101) (y3:0<=x3/\x3<=101)
    (e1:Co (d1-x1*x1) η) (e2:Co (d2-x2*x2) η) (e3:Co (d3-x3*x3) η) (hx:c0+c1*x1+c2*x2+c3*x3=0) (small:1280*(U*U*(U*U))*η<1):False:=by
  have q0:=Im c0
  have q1:=Im c1
  have q2:=Im c2
  have q3:=Im c3
  have p0:=Gm c0
  have p1:=Gm c1
  have p2:=Gm c2
  have p3:=Gm c3
  have z0:=c0.den_nz
  have z1:=c1.den_nz
  have z2:=c2.den_nz
  have z3:=c3.den_nz
  have Vk:∀ {c:Rat}{k:Nat},c.num*(k:Int)≠0->c≠0:=fun {c k} h z=>h (by rw [z];exact Int.zero_mul _)
  have num1:∀ {c:Rat}{k:Nat},k≠0->c≠0->c.num*(k:Int)≠0:=fun {c k} hk hc z=>(Int.mul_eq_zero.mp z).elim (fun h=>hc (Rat.num_eq_zero.mp h)) (by omega)
  have k0:c1.den*(c2.den*c3.den)≠0:=Nat.mul_ne_zero z1 (Nat.mul_ne_zero z2 z3)
  have k1:c0.den*(c2.den*c3.den)≠0:=Nat.mul_ne_zero z0 (Nat.mul_ne_zero z2 z3)
  have k2:c0.den*(c1.den*c3.den)≠0:=Nat.mul_ne_zero z0 (Nat.mul_ne_zero z1 z3)
  have k3:c0.den*(c1.den*c2.den)≠0:=Nat.mul_ne_zero z0 (Nat.mul_ne_zero z1 z2)
  have nz:=Ad3 (a0:=c0.num*((c1.den*(c2.den*c3.den):Nat):Int)) (a1:=c1.num*((c0.den*(c2.den*c3.den):Nat):Int)) (a2:=c2.num*((c0.den*(c1.den*c3.den):Nat):Int)) (a3:=c3.num*((c0.den*(c1.den*c2.den):Nat):Int)) (d1:=d1) (d2:=d2) (d3:=d3) (h0.imp (num1 k0) fun h=>h.imp (num1 k1) fun h=>h.imp (num1 k2) (num1 k3)) (fun h=>n1 (Vk h)) (fun h=>n2 (Vk h)) (fun h=>n3 (Vk h)) (fun h g=>n12 (Vk h) (Vk g)) (fun h g=>n13 (Vk h) (Vk g)) (fun h g=>n23 (Vk h) (Vk g))
  have M0:(0:Rat)<=((c0.den*(c1.den*(c2.den*c3.den)):Nat):Rat):=Rat.natCast_nonneg
  simp only [Rat.natCast_mul]at hP M0
  have f0:((c0.num*((c1.den*(c2.den*c3.den):Nat):Int):Int):Rat)=c0*(c0.den*(c1.den*(c2.den*c3.den))):=by
    rw [Rat.intCast_mul,Rat.intCast_natCast,Rat.natCast_mul,Rat.natCast_mul,<-q0]
    grind
  have f1:((c1.num*((c0.den*(c2.den*c3.den):Nat):Int):Int):Rat)=c1*(c0.den*(c1.den*(c2.den*c3.den))):=by
    rw [Rat.intCast_mul,Rat.intCast_natCast,Rat.natCast_mul,Rat.natCast_mul,<-q1]
    grind
  have f2:((c2.num*((c0.den*(c1.den*c3.den):Nat):Int):Int):Rat)=c2*(c0.den*(c1.den*(c2.den*c3.den))):=by
    rw [Rat.intCast_mul,Rat.intCast_natCast,Rat.natCast_mul,Rat.natCast_mul,<-q2]
    grind
  have f3:((c3.num*((c0.den*(c1.den*c2.den):Nat):Int):Int):Rat)=c3*(c0.den*(c1.den*(c2.den*c3.den))):=by
    rw [Rat.intCast_mul,Rat.intCast_natCast,Rat.natCast_mul,Rat.natCast_mul,<-q3]
    grind
  generalize c0.num*((c1.den*(c2.den*c3.den):Nat):Int)=a0 at*
  generalize c1.num*((c0.den*(c2.den*c3.den):Nat):Int)=a1 at*
  generalize c2.num*((c0.den*(c1.den*c3.den):Nat):Int)=a2 at*
  generalize c3.num*((c0.den*(c1.den*c2.den):Nat):Int)=a3 at*
  generalize (c0.den:Rat)*(c1.den*(c2.den*c3.den))=M at*
  have bd:∀ {c a:Rat},Co c B->a=c*M->0-T<=a/\a<=T:=fun {c a} h e=>by
    have B0:0<=B:=by have:=h.lo;have:=h.hi;grind
    have u1:=Rat.mul_nonneg M0 (show 0<=B-c by have:=h.hi;grind)
    have u2:=Rat.mul_nonneg M0 (show 0<=B+c by have:=h.lo;grind)
    have u3:=Rat.mul_nonneg B0 (show 0<=P-M by grind)
    subst e hT
    constructor<;>grind
  have t0:=bd b0 f0
  have t1:=bd b1 f1
  have t2:=bd b2 f2
  have t3:=bd b3 f3
  have di:∀ {d:Int},0<=d/\d<=10201->(0:Rat)<=(d:Rat)/\(d:Rat)<=10201:=fun {d} h=>⟨by
    have:=Rat.intCast_le_intCast.mpr h.1
    exact this,by
    have:=Rat.intCast_le_intCast.mpr h.2
    exact this⟩
  have η0:0<=η:=by have:=e1.lo;have:=e1.hi;grind
  refine Afu (U:=U) (r:=η) (x1:=x1) (x2:=x2) (x3:=x3) nz ?_ ?_ ?_ ?_ ?_ small
  . rw [f0,f1,f2,f3]
    have:c0*M+c1*M*x1+c2*M*x2+c3*M*x3=(c0+c1*x1+c2*x2+c3*x3)*M:=by grind
    rw [this,hx]
    grind
  . rw [Rat.intCast_mul]
    have m:=M9 t0.1 t0.2 t0.1 t0.2
    have T0:0<=T:=by grind
    have TT:=Rat.mul_nonneg T0 T0
    have Un:=Rat.mul_nonneg (show 0<=U by grind) η0
    refine⟨?_,?_,?_,?_,?_,?_⟩<;>grind
  . rw [Rat.intCast_mul,Rat.intCast_mul]
    exact R6 t1.1 t1.2 (di r1).1 (di r1).2 y1.1 y1.2 e1.lo e1.hi hU
  . rw [Rat.intCast_mul,Rat.intCast_mul]
    exact R6 t2.1 t2.2 (di r2).1 (di r2).2 y2.1 y2.2 e2.lo e2.hi hU
  . rw [Rat.intCast_mul,Rat.intCast_mul]
    exact R6 t3.1 t3.2 (di r3).1 (di r3).2 y3.1 y3.2 e3.lo e3.hi hU
end Z
namespace Z
abbrev Zt:=(Int × Rat) × (Rat × Rat)
def tL (z:Zt):Rat:=if 0<z.1.2 then z.2.1 else z.2.2
def tG (z:Zt):Rat:=if 0<z.1.2 then z.2.2 else z.2.1
def Jb:List Zt->Rat
  | []=>0
  | z::r=>z.1.2*tL z+Jb r
def hiS:List Zt->Rat
  | []=>0
  | z::r=>z.1.2*tG z+hiS r
theorem Ei (z:Zt):∀r:List Zt,Jb (r++ [z])=Jb r+z.1.2*tL z
  | []=>by
    show z.1.2*tL z+0=0+z.1.2*tL z
    grind
  | y::r=>by
    show y.1.2*tL y+Jb (r++ [z])=y.1.2*tL y+Jb r+z.1.2*tL z
    rw [Ei z r]
    grind
theorem Hl (z:Zt):∀r:List Zt,hiS (r++ [z])=hiS r+z.1.2*tG z
  | []=>by
    show z.1.2*tG z+0=0+z.1.2*tG z
    grind
  | y::r=>by
    show y.1.2*tG y+hiS (r++ [z])=y.1.2*tG y+hiS r+z.1.2*tG z
    rw [Hl z r]
    grind
structure Bd (d:Int) (p:Rat × Rat):Prop where
  l0:0<=p.1
  h0:0<=p.2
  lo:p.1*p.1<=(d:Rat)
  hi:(d:Rat)<=p.2*p.2
theorem W8 {a b:Rat} (a0:0<=a) (b0:0<=b) (h:a*a<=b*b):a<=b:=Rat.not_lt.mp fun z=>by
  have h1:=Rat.mul_pos (show 0<a-b by grind) (show 0<a by grind)
  have h2:=Rat.mul_nonneg (show 0<=a-b by grind) b0
  grind
theorem Bd.le {d:Int}{p q:Rat × Rat} (h:Bd d p) (g:Bd d q):p.1<=q.2:=W8 h.l0 g.h0 (by have:=h.lo;have:=g.hi;grind)
theorem N8:∀ {zs ys:List Zt},zs.map (·.1)=ys.map (·.1)->(∀z∈zs,Bd z.1.1 z.2)->(∀z∈ys,Bd z.1.1 z.2)->Jb zs<=hiS ys
  | [],[],_,_,_=>by
    show(0:Rat)<=0
    grind
  | [],_::_,h,_,_=>by simp at h
  | _::_,[],h,_,_=>by simp at h
  | z::zs,y::ys,h,hz,hy=>by
    obtain⟨h1,h2⟩:=List.cons.inj h
    have ih:=N8 h2 (fun x hx=>hz x (by simp [hx])) (fun x hx=>hy x (by simp [hx]))
    have bz:=hz z (by simp)
    have by':=hy y (by simp)
    replace h1:z.1=y.1:=h1
    rw [<-h1]at by'
    show z.1.2*tL z+Jb zs<=y.1.2*tG y+hiS ys
    have e:z.1.2*tL z<=y.1.2*tG y:=by
      unfold tL tG
      rw [<-h1]
      split
      . have:=Rat.mul_nonneg (show 0<=z.1.2 by grind) (show 0<=y.2.2-z.2.1 by have:=bz.le by';grind)
        grind
      . have:=Rat.mul_nonneg (show 0<=0-z.1.2 by grind) (show 0<=z.2.2-y.2.1 by have:=by'.le bz;grind)
        grind
    grind
noncomputable def shB (zs:List Zt):Int:=if 0<Jb zs then 1 else if hiS zs<0 then-1 else 0
theorem Acd (zs:List Zt):shB zs=1\/shB zs= -1\/shB zs=0:=by
  unfold shB
  split
  . exact .inl rfl
  . split
    . exact .inr (.inl rfl)
    . exact .inr (.inr rfl)
theorem Uk {zs ys:List Zt} (h:zs.map (·.1)=ys.map (·.1)) (hz:∀z∈zs,Bd z.1.1 z.2) (hy:∀z∈ys,Bd z.1.1 z.2) (nz:shB zs≠0) (ny:shB ys≠0):shB zs=shB ys:=by
  have a:=N8 h hz hy
  have b:=N8 h.symm hy hz
  have c:=N8 rfl hz hz
  have d:=N8 rfl hy hy
  unfold shB at*
  split<;>split<;>try rfl
  all_goals grind
def mid (t:Rat) (z:Zt):Rat:=tL z+t*(tG z-tL z)
def Ade (t:Rat):List Zt->Rat
  | []=>0
  | z::r=>z.1.2*mid t z+Ade t r
theorem Xi (t:Rat):∀zs,Ade t zs=Jb zs+t*(hiS zs-Jb zs)
  | []=>by
    show(0:Rat)=0+t*(0-0)
    grind
  | z::r=>by
    show z.1.2*mid t z+Ade t r=z.1.2*tL z+Jb r+t*(z.1.2*tG z+hiS r-(z.1.2*tL z+Jb r))
    rw [Xi t r]
    unfold mid
    grind
theorem Ab9 {l g:Rat} (hl:l<=0) (hg:0<=g):∃t:Rat,0<=t/\t<=1/\l+t*(g-l)=0:=by
  by_cases h:l=0
  . exact⟨0,by decide,by decide,by grind⟩
  . have p:0<g-l:=by grind
    obtain⟨t,ht⟩:∃t:Rat,t*(g-l)=0-l:=⟨(0-l)/(g-l),Rat.div_mul_cancel (by grind)⟩
    refine⟨t,Rat.not_lt.mp fun z=> ?_,Rat.not_lt.mp fun z=> ?_,by grind⟩
    . have:=Rat.mul_pos (show 0<0-t by grind) p
      grind
    . have:=Rat.mul_pos (show 0<t-1 by grind) p
      grind
structure Rz (δ:Rat) (z:Zt):Prop where
  bd:Bd z.1.1 z.2
  na:z.2.2<=z.2.1+δ
  d1:1<z.1.1
  d2:z.1.1<=10000
  sf:SF z.1.1.toNat
  c0:z.1.2≠0
  cb:Co z.1.2 1152921504606846976
  cd:z.1.2.den<=1048576
theorem Rz.mid {δ t:Rat}{z:Zt} (h:Rz δ z) (δ1:δ<=1) (t0:0<=t) (t1:t<=1):(0<=mid t z/\mid t z<=101)/\Co ((z.1.1:Rat)-mid t z*mid t z) (201*δ):=by
  obtain⟨⟨l0,h0,lo,hi⟩,na,d1,d2,_⟩:=h
  have dd:(z.1.1:Rat)<=10000:=by
    have:=Rat.intCast_le_intCast.mpr d2
    exact this
  have le:z.2.1<=z.2.2:=W8 l0 h0 (by grind)
  have l100:z.2.1<=100:=W8 l0 (by decide) (by grind)
  have δ0:0<=δ:=by grind
  have m1:z.2.1<=Z.mid t z/\Z.mid t z<=z.2.2:=by
    have a:=Rat.mul_nonneg t0 (show 0<=z.2.2-z.2.1 by grind)
    have b:=Rat.mul_nonneg (show 0<=1-t by grind) (show 0<=z.2.2-z.2.1 by grind)
    unfold Z.mid tL tG
    split<;>constructor<;>grind
  generalize Z.mid t z=x at*
  have x0:0<=x:=by grind
  refine⟨⟨x0,by grind⟩,?_,?_⟩
  . have a:=Rat.mul_nonneg (show 0<=z.2.2-x by grind) (show 0<=z.2.2+x by grind)
    have b:=Rat.mul_nonneg (show 0<=z.2.1+δ-z.2.2 by grind) (show 0<=z.2.1+z.2.2 by grind)
    have c:=Rat.mul_nonneg δ0 (show 0<=201-(z.2.1+z.2.2)by grind)
    grind
  . have a:=Rat.mul_nonneg (show 0<=x-z.2.1 by grind) (show 0<=x+z.2.1 by grind)
    have b:=Rat.mul_nonneg (show 0<=z.2.1+δ-z.2.2 by grind) (show 0<=z.2.1+z.2.2 by grind)
    have c:=Rat.mul_nonneg δ0 (show 0<=201-(z.2.1+z.2.2)by grind)
    grind
theorem O4 {d e:Int} (h1:1<d) (h2:SF d.toNat) (g1:1<e) (g2:SF e.toNat) (ne:d<e):Nsq (d*e):=by
  obtain⟨a,rfl⟩:∃a:Nat,d=a:=⟨d.toNat,by omega⟩
  obtain⟨b,rfl⟩:∃b:Nat,e=b:=⟨e.toNat,by omega⟩
  replace h2:SF a:=h2
  replace g2:SF b:=g2
  have g0:0<Nat.gcd a b:=Nat.gcd_pos_of_pos_left _ (by omega)
  obtain⟨p,hp⟩:=Nat.gcd_dvd_left a b
  obtain⟨q,hq⟩:=Nat.gcd_dvd_right a b
  have cp:Nat.Coprime p q:=by
    have:=Nat.coprime_div_gcd_div_gcd (m:=a) (n:=b) g0
    have e1:a/Nat.gcd a b=p:=by rw [hp];rw [<-hp];exact Nat.div_eq_of_eq_mul_right g0 hp
    have e2:b/Nat.gcd a b=q:=Nat.div_eq_of_eq_mul_right g0 hq
    rwa [e1,e2]at this
  have sp:SF p:=fun u h hu=>h2 u h (Nat.dvd_trans hu ⟨Nat.gcd a b,by rw [Nat.mul_comm];exact hp⟩)
  have sq:SF q:=fun u h hu=>g2 u h (Nat.dvd_trans hu ⟨Nat.gcd a b,by rw [Nat.mul_comm];exact hq⟩)
  generalize Nat.gcd a b=g at*
  have p0:0<p:=Nat.pos_of_ne_zero fun z=>by
    rw [z]at hp
    omega
  have q1:1<q:=by
    have:g*p<g*q:=by omega
    have:=Nat.lt_of_mul_lt_mul_left this
    omega
  have pq:1<p*q:=by
    have:1*q<=p*q:=Nat.mul_le_mul_right _ p0
    omega
  intro x y exy
  have:=Zj (Wv sp sq cp) pq (p:=x) (q:=y*g) (by
    rw [exy,hp,hq]
    simp only [Int.natCast_mul]
    grind)
  rcases Int.mul_eq_zero.mp this with h | h
  . exact h
  . omega
end Z
namespace Z
theorem Yl {u κ:Nat}{δ:Rat} (δ0:0<=δ) (hδ:δ*(κ:Rat)<=1) (h:1280*(u*u*(u*u))*201<κ):1280*((u:Rat)*u*(u*u))*(201*δ)<1:=by
  have h1:(((1280*(u*u*(u*u))*201+1:Nat):Nat):Rat)<=(κ:Rat):=Rat.natCast_le_natCast.mpr h
  have h2:(((1280*(u*u*(u*u))*201+1:Nat):Nat):Rat)=1280*((u:Rat)*u*(u*u))*201+1:=by
    simp only [Rat.natCast_add,Rat.natCast_mul]
    rfl
  rw [h2]at h1
  have h3:=Rat.mul_nonneg δ0 (show 0<=(κ:Rat)-(1280*((u:Rat)*u*(u*u))*201+1)by grind)
  by_cases hd:δ=0
  . subst hd
    grind
  . have:0<δ:=by grind
    grind
def gU:Nat:=1152921504606846976*2^160*(1152921504606846976*2^160)*10201
theorem Ady:1280*(gU*gU*(gU*gU))*201<2^2047:=by decide+kernel
theorem Oq {a b c d:Nat} (ha:a<=2^100) (hb:b<=1048576) (hc:c<=1048576) (hd:d<=1048576):((a*(b*(c*d)):Nat):Rat)<=((2^160:Nat):Rat):=by
  refine Rat.natCast_le_natCast.mpr ?_
  have h:=Nat.mul_le_mul ha (Nat.mul_le_mul hb (Nat.mul_le_mul hc hd))
  exact Nat.le_trans h (by decide)
theorem shown {c0 δ:Rat}{rs:List Zt} (h3:rs.length<=3) (hz:∀z∈rs,Rz δ z) (up:(rs.map (·.1)).Pairwise fun a b=>a.1<b.1) (cb:Co c0 1152921504606846976) (cd:c0.den<=2^100) (ne:c0≠0\/rs≠ []) (δ0:0<=δ) (δ1:δ<=1) (hδ:δ*((2^2047:Nat):Rat)<=1) (hl:c0+Jb rs<=0) (hg:0<=c0+hiS rs):False:=by
  obtain⟨t,t0,t1,ht⟩:=Ab9 hl hg
  have hm:c0+Ade t rs=0:=by
    rw [Xi]
    grind
  have small:=Yl δ0 hδ Ady
  have z0:Co (0:Rat) 1152921504606846976:=⟨by grind,by grind⟩
  have d0:(0:Rat).den<=1048576:=by decide
  have x0:(0:Rat)<=0/\(0:Rat)<=101:=⟨by decide,by decide⟩
  have e0:Co (((0:Int):Rat)-0*0) (201*δ):=⟨by
    show 0-201*δ<=(0:Rat)-0*0
    grind,by
    show(0:Rat)-0*0<=201*δ
    grind⟩
  have r0:(0:Int)<=0/\(0:Int)<=10201:=by decide
  have no:∀ {P:Prop},(0:Rat)≠0->P:=fun h=>absurd rfl h
  have hU:((gU:Nat):Rat)=(1152921504606846976*((2^160:Nat):Rat))*(1152921504606846976*((2^160:Nat):Rat))*10201:=by
    unfold gU
    simp only [Rat.natCast_mul]
    rfl
  have rr:∀ {z:Zt},Rz δ z->0<=z.1.1/\z.1.1<=10201:=fun h=>by
    have:=h.d1
    have:=h.d2
    omega
  match rs,h3,hz,up,ne,hm with
  | [],_,_,_,ne,hm=>
    replace hm:c0+0=0:=hm
    rcases ne with ne | ne
    . exact ne (by grind)
    . exact ne rfl
  | [z1],_,hz,_,_,hm=>
    have b1:=hz z1 (by simp)
    obtain⟨m1,k1⟩:=b1.mid δ1 t0 t1
    replace hm:c0+(z1.1.2*mid t z1+0)=0:=hm
    exact Aaj (c0:=c0) (c1:=z1.1.2) (c2:=0) (c3:=0) (x1:=mid t z1) (x2:=0) (x3:=0) (d1:=z1.1.1) (d2:=0) (d3:=0) (.inr (.inl b1.c0)) (fun _=> .of b1.sf b1.d1) no no (fun _=>no) (fun _=>no) no cb b1.cb z0 z0 (Oq cd b1.cd d0 d0) rfl hU (rr b1) r0 r0 m1 x0 x0 k1 e0 e0 (by grind) small
  | [z1,z2],_,hz,up,_,hm=>
    have b1:=hz z1 (by simp)
    have b2:=hz z2 (by simp)
    obtain⟨m1,k1⟩:=b1.mid δ1 t0 t1
    obtain⟨m2,k2⟩:=b2.mid δ1 t0 t1
    have l12:z1.1.1<z2.1.1:=by simpa using up
    replace hm:c0+(z1.1.2*mid t z1+(z2.1.2*mid t z2+0))=0:=hm
    exact Aaj (c0:=c0) (c1:=z1.1.2) (c2:=z2.1.2) (c3:=0) (x1:=mid t z1) (x2:=mid t z2) (x3:=0) (d1:=z1.1.1) (d2:=z2.1.1) (d3:=0) (.inr (.inl b1.c0)) (fun _=> .of b1.sf b1.d1) (fun _=> .of b2.sf b2.d1) no (fun _ _=>O4 b1.d1 b1.sf b2.d1 b2.sf l12) (fun _=>no) (fun _=>no) cb b1.cb b2.cb z0 (Oq cd b1.cd b2.cd d0) rfl hU (rr b1) (rr b2) r0 m1 m2 x0 k1 k2 e0 (by grind) small
  | [z1,z2,z3],_,hz,up,_,hm=>
    have b1:=hz z1 (by simp)
    have b2:=hz z2 (by simp)
    have b3:=hz z3 (by simp)
    obtain⟨m1,k1⟩:=b1.mid δ1 t0 t1
    obtain⟨m2,k2⟩:=b2.mid δ1 t0 t1
    obtain⟨m3,k3⟩:=b3.mid δ1 t0 t1
    have up':(z1.1.1<z2.1.1/\z1.1.1<z3.1.1)/\z2.1.1<z3.1.1:=by simpa using up
    replace hm:c0+(z1.1.2*mid t z1+(z2.1.2*mid t z2+(z3.1.2*mid t z3+0)))=0:=hm
    exact Aaj (c0:=c0) (c1:=z1.1.2) (c2:=z2.1.2) (c3:=z3.1.2) (x1:=mid t z1) (x2:=mid t z2) (x3:=mid t z3) (d1:=z1.1.1) (d2:=z2.1.1) (d3:=z3.1.1) (.inr (.inl b1.c0)) (fun _=> .of b1.sf b1.d1) (fun _=> .of b2.sf b2.d1) (fun _=> .of b3.sf b3.d1) (fun _ _=>O4 b1.d1 b1.sf b2.d1 b2.sf up'.1.1) (fun _ _=>O4 b1.d1 b1.sf b3.d1 b3.sf up'.1.2) (fun _ _=>O4 b2.d1 b2.sf b3.d1 b3.sf up'.2) cb b1.cb b2.cb b3.cb (Oq cd b1.cd b2.cd b3.cd) rfl hU (rr b1) (rr b2) (rr b3) m1 m2 m3 k1 k2 k3 (by grind) small
end Z
namespace Z
open PySem L2
local macro_rules | `(tactic| contradiction)=> `(tactic| simp only [Kg,Ez,Jh,J4,Eh,Kh,Cj,J7,Eu,Ga,z_c,Pg,Sv,R9,Ko,Ru,J9,Ju,Kc,Kf,Dq,S5,Jl,Km,J8,Gk,Gi,J3,Jf,Rp,Fw,Jk,Gf,Sh,Gd,Ke,Ft,Rw,Jw,J0,Dg,Ew,Fz,Ep,Cw,Eo,J1,J2,Jo,Kq,Sy,Cd,Ed,J5,S6,Ku,Fl,Jz,Jt,Ej,Js,Et,En,Gj,Cz,Jy,Cv,Fx,Er,Em,Gh,Dc,Ks,Fp,J6,Es,Ef,Fj,Dd,Fe,Gg,Cy,Fo,Sx,cpσ,List.getElem?_cons_zero,List.getElem?_cons_succ,Option.join_some,List.set_cons_zero,List.set_cons_succ,List.append_nil,decide_eq_true_eq,Bool.not_eq_true',decide_eq_false_iff_not,Bool.not_not,ite_not,Bool.false_eq_true,Bool.true_eq_false,if_false,if_true,if_pos,List.length_cons,List.length_nil,Nat.zero_add,Nat.reduceAdd,Ek,Fy,true_and,and_true,L2.start,List.map_cons,List.map_nil,Bool.not_true,Bool.not_false,Nat.reduceSub,List.replicate_succ,List.replicate_zero,List.cons_append,List.nil_append])
def top (i:Nat):Stmt:=PySem.Challenge.pw_rootcourt_k66_signs_of_root_sums.main.body.getD i (.Pass ⟨0,0,0,0⟩)
abbrev Li:Stmt:=top 5
theorem Rg:Ba ["thing"] ["thing"] (Ag Li):=⟨rfl,rfl,rfl,by decide+kernel,rfl,by decide+kernel,by decide+kernel⟩
abbrev Np:Stmt:=top 6
theorem Jc:Ba ["one","other","greater","lesser"] ["one","other"] (Ag Np):=⟨rfl,rfl,rfl,by decide+kernel,rfl,by decide+kernel,by decide+kernel⟩
abbrev Ik:Stmt:=top 7
theorem Bx:Ba ["number","guess","bit","better"] ["number"] (Ag Ik):=⟨rfl,rfl,rfl,by decide+kernel,rfl,by decide+kernel,by decide+kernel⟩
abbrev Ey:Stmt:=top 8
theorem Mi:Ba ["number"] ["number"] (Ag Ey):=⟨rfl,rfl,rfl,by decide+kernel,rfl,by decide+kernel,by decide+kernel⟩
abbrev Hq:Stmt:=top 10
theorem G4:Ba ["thing","top","bottom"] ["thing"] (Ag Hq):=⟨rfl,rfl,rfl,by decide+kernel,rfl,by decide+kernel,by decide+kernel⟩
abbrev Lk:Stmt:=top 11
theorem Kl:Ba ["top","bottom","shared"] ["top","bottom"] (Ag Lk):=⟨rfl,rfl,rfl,by decide+kernel,rfl,by decide+kernel,by decide+kernel⟩
abbrev Wr:Stmt:=top 12
theorem Aan:Ba ["one","other"] ["one","other"] (Ag Wr):=⟨rfl,rfl,rfl,by decide+kernel,rfl,by decide+kernel,by decide+kernel⟩
abbrev Rj:Stmt:=top 13
theorem Yy:Ba ["one","other"] ["one","other"] (Ag Rj):=⟨rfl,rfl,rfl,by decide+kernel,rfl,by decide+kernel,by decide+kernel⟩
abbrev Ri:Stmt:=top 14
theorem Yi:Ba ["one","other"] ["one","other"] (Ag Ri):=⟨rfl,rfl,rfl,by decide+kernel,rfl,by decide+kernel,by decide+kernel⟩
abbrev Vj:Stmt:=top 15
theorem Aam:Ba ["one","other"] ["one","other"] (Ag Vj):=⟨rfl,rfl,rfl,by decide+kernel,rfl,by decide+kernel,by decide+kernel⟩
abbrev V8:Stmt:=top 16
theorem Aa4:Ba ["one","other"] ["one","other"] (Ag V8):=⟨rfl,rfl,rfl,by decide+kernel,rfl,by decide+kernel,by decide+kernel⟩
abbrev Xg:Stmt:=top 17
theorem Abe:Ba ["one"] ["one"] (Ag Xg):=⟨rfl,rfl,rfl,by decide+kernel,rfl,by decide+kernel,by decide+kernel⟩
abbrev Ir:Stmt:=top 21
theorem Rq:Ba ["one"] ["one"] (Ag Ir):=⟨rfl,rfl,rfl,by decide+kernel,rfl,by decide+kernel,by decide+kernel⟩
abbrev Jx:Stmt:=top 22
theorem Bp:Ba ["d","found","left","trial","root"] ["d"] (Ag Jx):=⟨rfl,rfl,rfl,by decide+kernel,rfl,by decide+kernel,by decide+kernel⟩
abbrev Le:Stmt:=top 23
theorem Fi:Ba ["terms","told","d","c","s"] ["terms"] (Ag Le):=⟨rfl,rfl,rfl,by decide+kernel,rfl,by decide+kernel,by decide+kernel⟩
abbrev Iu:Stmt:=top 24
theorem Gb:Ba ["terms","sums","found","d","c"] ["terms"] (Ag Iu):=⟨rfl,rfl,rfl,by decide+kernel,rfl,by decide+kernel,by decide+kernel⟩
abbrev Ov:Stmt:=top 25
theorem Xr:Ba ["one","other"] ["one","other"] (Ag Ov):=⟨rfl,rfl,rfl,by decide+kernel,rfl,by decide+kernel,by decide+kernel⟩
abbrev Kw:Stmt:=top 26
theorem Uv:Ba ["one","other"] ["one","other"] (Ag Kw):=⟨rfl,rfl,rfl,by decide+kernel,rfl,by decide+kernel,by decide+kernel⟩
abbrev Ot:Stmt:=top 27
theorem Wn:Ba ["one"] ["one"] (Ag Ot):=⟨rfl,rfl,rfl,by decide+kernel,rfl,by decide+kernel,by decide+kernel⟩
abbrev Nm:Stmt:=top 28
theorem Ds:Ba ["one","scale","pairs","found"] ["one"] (Ag Nm):=⟨rfl,rfl,rfl,by decide+kernel,rfl,by decide+kernel,by decide+kernel⟩
abbrev Ln:Stmt:=top 29
theorem Fv:Ba ["one","scale","found","d","c","root"] ["one","scale"] (Ag Ln):=⟨rfl,rfl,rfl,by decide+kernel,rfl,by decide+kernel,by decide+kernel⟩
abbrev Ih:Stmt:=top 30
theorem Hr:Ba ["one","pairs","least","greatest"] ["one","pairs"] (Ag Ih):=⟨rfl,rfl,rfl,by decide+kernel,rfl,by decide+kernel,by decide+kernel⟩
abbrev X3:Stmt:=top 31
theorem G5:Ba ["one","pairs","least","greatest","term","pair","c","lo","hi"] ["one","pairs"] (Ag X3):=⟨rfl,rfl,rfl,by decide+kernel,rfl,by decide+kernel,by decide+kernel⟩
abbrev Ky:Stmt:=top 32
theorem Lp:Ba ["one","paper","found","pairs"] ["one","paper"] (Ag Ky):=⟨rfl,rfl,rfl,by decide+kernel,rfl,by decide+kernel,by decide+kernel⟩
abbrev Lj:Stmt:=top 33
theorem Kr:Ba ["d","pair","lo","hi"] ["d","pair"] (Ag Lj):=⟨rfl,rfl,rfl,by decide+kernel,rfl,by decide+kernel,by decide+kernel⟩
abbrev Jq:Stmt:=top 35
theorem Qy:Ba ["_law_script","_law_k"] ["_law_script","_law_k"] (Ag Jq):=⟨rfl,rfl,rfl,by decide+kernel,rfl,by decide+kernel,by decide+kernel⟩
abbrev Lh:Stmt:=top 36
theorem Br:Ba ["_law_one","_law_far","_law_low","_law_high","_law_d","_law_c","_law_top"] ["_law_one","_law_far"] (Ag Lh):=⟨rfl,rfl,rfl,by decide+kernel,rfl,by decide+kernel,by decide+kernel⟩
abbrev Q7:Stmt:=top 37
theorem Dt:Ba ["_law_script","_law_terms","_law_k","_law_one","_law_cell","_law_far","_law_low","_law_size","_law_c"] ["_law_script"] (Ag Q7):=⟨rfl,rfl,rfl,by decide+kernel,rfl,by decide+kernel,by decide+kernel⟩
abbrev Q9:Stmt:=top 38
theorem O2:Ba ["_law_one","_law_low","_law_high"] ["_law_one"] (Ag Q9):=⟨rfl,rfl,rfl,by decide+kernel,rfl,by decide+kernel,by decide+kernel⟩
abbrev Lw:Stmt:=top 39
theorem Bh:Ba ["_law_paper","_law_cell","_law_way","_law_off","_law_at","_law_turned_here","_law_sign_told","_law_here","_law_pairs","_law_lo","_law_hi"] ["_law_paper","_law_cell"] (Ag Lw):=⟨rfl,rfl,rfl,by decide+kernel,rfl,by decide+kernel,by decide+kernel⟩
abbrev Dj:Stmt:=top 40
theorem Mj:Ba ["_law_thing"] ["_law_thing"] (Ag Dj):=⟨rfl,rfl,rfl,by decide+kernel,rfl,by decide+kernel,by decide+kernel⟩
abbrev Hi:Stmt:=top 41
theorem Io:Ba ["_law_d","_law_pair","_law_lo","_law_hi"] ["_law_d","_law_pair"] (Ag Hi):=⟨rfl,rfl,rfl,by decide+kernel,rfl,by decide+kernel,by decide+kernel⟩
abbrev Di:Stmt:=top 42
theorem Bc:Ba ["_law_one","_law_paper","_law_roots","_law_least","_law_most","_law_here","_law_pairs","_law_k","_law_pair","_law_c","_law_turned_here"] ["_law_one","_law_paper"] (Ag Di):=⟨rfl,rfl,rfl,by decide+kernel,rfl,by decide+kernel,by decide+kernel⟩
abbrev O8:Stmt:=top 43
theorem G8:Ba ["_law_paper","_law_cell","_law_far","_law_found","_law_lo","_law_hi","_law_low"] ["_law_paper","_law_cell"] (Ag O8):=⟨rfl,rfl,rfl,by decide+kernel,rfl,by decide+kernel,by decide+kernel⟩
abbrev Pa:Stmt:=top 44
theorem Qa:Ba ["_law_one","_law_paper","_law_found"] ["_law_one","_law_paper"] (Ag Pa):=⟨rfl,rfl,rfl,by decide+kernel,rfl,by decide+kernel,by decide+kernel⟩
abbrev Qk:Stmt:=top 45
theorem Ie:Ba ["_law_script","_law_one","_law_due_here","_law_paper","_law_here","_law_thing","_law_k","_law_cell","_law_turned_here","_law_found"] ["_law_script"] (Ag Qk):=⟨rfl,rfl,rfl,by decide+kernel,rfl,by decide+kernel,by decide+kernel⟩
def Yp (K:PySem.W.Frag):Sp:=fun vs H Q _=>∃(a:Addr) (ns:List Int),vs=[.ref a]/\SqL K H a (ns.map V.int)/\ns.length<=63/\∀H',Q (.bl true) H'
def IsQ (K:PySem.W.Frag) (H:Hp) (v:V) (q:Rat):Prop:=∃a,v= .ref a/\SqT K H a [.int q.num,.int (q.den:Int)]
def Szq (n:Nat) (q:Rat):Prop:=Sz n q.num/\Sz n (q.den:Int)
theorem IsQ.mono {K:PySem.W.Frag}{H H':Hp}{v:V}{q:Rat} (h:IsQ K H v q) (s:Same H H'):IsQ K H' v q:=by
  obtain⟨a,e,t⟩:=h
  exact⟨a,e,s.tup t⟩
theorem Szq.of {n:Nat}{a b:Int} (h:Sz n a) (g:Sz n b) (hb:b≠0):Szq n (Rat.divInt a b):=
  ⟨h.of_abs (Ac7 a b),g.of_abs (by have:=Nz (a:=a) hb;omega)⟩
theorem Szq.mono {m n:Nat}{q:Rat} (h:Szq m q) (l:m<=n):Szq n q:=⟨h.1.mono l,h.2.mono l⟩
theorem Dp (q:Rat):((q.den:Nat):Int)≠0:=by have:=q.den_nz;omega
theorem den_pos (q:Rat):0<((q.den:Nat):Int):=by have:=q.den_nz;omega
theorem Szq.add {m n:Nat}{p q:Rat} (h:Szq m p) (g:Szq n q):Szq (m+n+1) (p+q):=by
  rw [<-Aew]
  refine Szq.of ?_ ?_ (Int.mul_ne_zero (Dp p) (Dp q))
  . have z:=(h.1.mul g.2).add (g.1.mul h.2)
    exact z.mono (by omega)
  . exact(h.2.mul g.2).mono (by omega)
theorem Szq.sub {m n:Nat}{p q:Rat} (h:Szq m p) (g:Szq n q):Szq (m+n+1) (p-q):=by
  rw [<-Afb]
  refine Szq.of ?_ ?_ (Int.mul_ne_zero (Dp p) (Dp q))
  . have z:=(h.1.mul g.2).sub (g.1.mul h.2)
    exact z.mono (by omega)
  . exact(h.2.mul g.2).mono (by omega)
theorem Szq.mul {m n:Nat}{p q:Rat} (h:Szq m p) (g:Szq n q):Szq (m+n) (p*q):=by
  rw [<-Adl]
  exact Szq.of (h.1.mul g.1) (h.2.mul g.2) (Int.mul_ne_zero (Dp p) (Dp q))
def cell (ns:List Int) (k:Int):Int:=ns.getD k.toNat 0
def Gn (K:PySem.W.Frag):Sp:=fun vs H Q _=>∃(a:Addr) (ns:List Int) (k:Int),vs=[.ref a,.int k]/\SqL K H a (ns.map V.int)/\0<=k/\Q (.int (cell ns k)) H
def Ae3:Sp:=fun vs H Q _=>∃a b:Int,vs=[.int a,.int b]/\Q (.int (Int.gcd a b:Int)) H
def Ls (_:PySem.W.Frag):Sp:=Ae3
def Acr (K:PySem.W.Frag):Sp:=fun vs H Q _=>∃a b:Int,vs=[.int a,.int b]/\b≠0/\Sz 8000 b/\∀z H',Same H H'->IsQ K H' z (Rat.divInt a b)->Q z H'
def Bw (K:PySem.W.Frag):Sp:=Acr K
def Adq (f:Rat->Rat->Rat) (K:PySem.W.Frag):Sp:=fun vs H Q _=>∃(x y:V) (p q:Rat) (m n:Nat),vs=[x,y]/\IsQ K H x p/\IsQ K H y q/\Szq m p/\Szq n q/\m+n<=8000/\∀z H',Same H H'->IsQ K H' z (f p q)->Q z H'
def La (K:PySem.W.Frag):Sp:=Adq (fun p q=>p+q) K
def T9 (K:PySem.W.Frag):Sp:=Adq (fun p q=>p-q) K
def K1 (K:PySem.W.Frag):Sp:=Adq (fun p q=>p*q) K
theorem at0 {α:Type} (x:α) (r:List α):atI (x::r) 0=some x:=Bk (j:=0) rfl
theorem at1 {α:Type} (x y:α) (r:List α):atI (x::y::r) 1=some y:=Bk (j:=1) rfl
section
variable {P:Program}{w:World}{K:PySem.W.Frag}{mg:Str->Option Value}{base:Heap}
theorem Qp {f:Addr}{fd:FuncData} (F:Df K mg "_law_cell_at" Jq ["_law_script","_law_k"] f fd) (z_len:mg "len"=none)   :Cal P w K mg base 1 "_law_cell_at" ["_law_script","_law_k"] (Gn K):=by
  refine F.cal (F.fn.ok Qy (fun vs H Q E h=> ?_) (fun cdv A outer s H vs Q E hr h=> ?_))
  . obtain⟨a,ns,k,rfl,_⟩:=h
    rfl
  obtain⟨a,ns,k,rfl,hS,hk,q⟩:=h
  refine S.Bj ⟨_,(S.Ad (S.Bm (S.Ah Nu (S.pv 1) (S.Bo Bb rfl z_len PySem.boot_len (S.Aa (S.pv 0) S.Ac)) (Aj _)) (S.Ae (S.Al (S.Ay G9 (S.pv 0) (S.pv 1) (fun _ _=>rfl)))) S.Ax)
      (S.Ae (S.Al S.Ab))),?_⟩
  contradiction
  refine⟨a,_,rfl,.inl hS,?_⟩
  rw [List.length_map]
  split
  . rename_i h
    have hk':k.toNat<ns.length:=by omega
    refine Dw hS (v:= .int (cell ns k)) ?_ q
    have e:=Bk (xs:=ns.map V.int) (j:=k.toNat) (v:= .int (cell ns k)) (by
      rw [List.getElem?_map,List.getElem?_eq_getElem hk']
      unfold cell
      rw [List.getD_eq_getElem?_getD,List.getElem?_eq_getElem hk']
      rfl)
    rw [Int.toNat_of_nonneg hk]at e
    exact e
  . rename_i h
    have e:cell ns k=0:=by
      unfold cell
      rw [List.getD_eq_getElem?_getD,List.getElem?_eq_none (by omega)]
      rfl
    rw [e]at q
    exact q
theorem Um {f:Addr}{fd:FuncData} (F:Df K mg "divisor" Np ["one","other"] f fd) (z_abs:mg "abs"=none)   :Cal P w K mg base 1 "divisor" ["one","other"] (Ls K):=by
  refine F.cal (F.fn.ok Jc (fun vs H Q E h=> ?_) (fun cdv A outer s H vs Q E hr h=> ?_))
  . obtain⟨a,b,rfl,_⟩:=h
    rfl
  obtain⟨a,b,rfl,q⟩:=h
  refine S.Bj ⟨_,(S.Ad (S.Ai (i:=2) Jc.nd rfl (Or.inl rfl) (S.Bo T8 rfl z_abs PyProof.Rows.boot_abs (S.Aa (S.pv 0) S.Ac)))
      (S.Ad (S.Ai (i:=3) Jc.nd rfl (Or.inl rfl) (S.Bo T8 rfl z_abs PyProof.Rows.boot_abs (S.Aa (S.pv 1) S.Ac)))
      (S.Ad (S.Ho PassesOwn.never (S.Ah Nr (S.pv 3) S.Ab (Aj _)) (S.Ae (S.Ti (i:=2) (j:=3) rfl Jc.nd rfl rfl (by decide) rfl rfl (S.Aa (S.pv 3) (S.Aa (S.Af Ce (S.pv 2) (S.pv 3)) S.Ac)) rfl)))
      (S.Ae (S.Al (S.pv 2)))))),?_⟩
  simp only [Kg,Ez,Jh,J4,Eh,Kh,Cj,J7,Eu,Ga,z_c,Pg,Sv,R9,Ko,Ru,J9,Ju,Kc,Kf,Dq,S5,Jl,Km,J8,Gk,Gi,J3,Jf,Rp,Fw,Jk,Gf,Sh,Gd,Ke,Ft,Rw,Jw,J0,Dg,Ew,Fz,Ep,Cw,Eo,J1,J2,Jo,Kq,Sy,Cd,Ed,J5,S6,Ku,Fl,Jz,Jt,Ej,Js,Et,En,Gj,Cz,Jy,Cv,Fx,Er,Em,Gh,Dc,Ks,Fp,J6,Es,Ef,Fj,Dd,Fe,Gg,Cy,Fo,Sx,cpσ,List.getElem?_cons_zero,List.getElem?_cons_succ,Option.join_some,List.set_cons_zero,List.set_cons_succ,List.append_nil,decide_eq_true_eq,Bool.not_eq_true',decide_eq_false_iff_not,Bool.not_not,ite_not,Bool.false_eq_true,Bool.true_eq_false,if_false,if_true,if_pos,List.length_cons,List.length_nil,Nat.zero_add,Nat.reduceAdd,Ek,Fy,true_and,and_true,L2.start,List.map_cons,List.map_nil,Bool.not_true,Bool.not_false,Nat.reduceSub,List.replicate_succ,List.replicate_zero,List.cons_append,List.nil_append,abs_eq]
  refine O7 (fun σ H'=>H'=H/\∃x y:Nat,σ=[some (.int a),some (.int b),some (.int x),some (.int y)]/\Nat.gcd x y=Nat.gcd a.natAbs b.natAbs)
    (fun σ _=>match σ with | [_,_,_,some (.int y)]=>y.toNat | _=>0) ⟨rfl,_,_,rfl,rfl⟩ ?_ ?_
  . rintro σ H' ⟨rfl,x,y,rfl,e⟩
    contradiction
    by_cases hy:(y:Int)=0
    . rw [if_pos hy]
      have hy':y=0:=by omega
      subst hy'
      rw [Nat.gcd_zero_right]at e
      subst e
      exact q
    . rw [if_neg hy]
      refine⟨by omega,⟨y,x%y,by rw [Int.natCast_emod],by rw [Y4];exact e⟩,?_⟩
      show((x:Int)%(y:Int)).toNat<(y:Int).toNat
      rw [<-Int.natCast_emod,Int.toNat_natCast,Int.toNat_natCast]
      exact Nat.mod_lt _ (by omega)
  . intro σ H' Q1 Q2 h12
    simp only [Dq,Pg]
    rintro⟨v,e1,hs⟩
    exact⟨v,e1,by
      obtain⟨s1,k,e2,h3⟩:=hs
      exact⟨s1,k,e2,h12 _ _ h3⟩⟩
theorem S7 {f:Addr}{fd:FuncData} (F:Df K mg "fraction" Lk ["top","bottom"] f fd)   (c_divisor:Cal P w K mg base 1 "divisor" ["one","other"] (Ls K)):Cal P w K mg base 2 "fraction" ["top","bottom"] (Bw K):=by
  refine F.cal (F.fn.ok Kl (fun vs H Q E h=> ?_) (fun cdv A outer s H vs Q E hr h=> ?_))
  . obtain⟨a,b,rfl,_⟩:=h
    rfl
  obtain⟨a,b,rfl,hb,hz,q⟩:=h
  refine S.Bj ⟨_,(S.Ad (S.Bm (S.Ah Dr (S.pv 1) S.Ab (Aj _)) (S.Ae S.Ow) S.Ax)
      (S.Ad (S.Ai (i:=2) Kl.nd rfl (Or.inl rfl) (S.Aw c_divisor (hr.mono (by decide)) (S.Aa (S.pv 0) (S.Aa (S.pv 1) S.Ac))))
      (S.Ad (S.Bm (S.Ah Nu (S.pv 1) S.Ab (Aj _)) (S.Ae (S.Ai (i:=2) Kl.nd rfl (Or.inl rfl) (S.Jj G6 (S.pv 2)))) S.Ax)
      (S.Ae (S.Al (S.Av (S.Aa (S.Af Ui (S.pv 0) (S.pv 2)) (S.Aa (S.Af Ui (S.pv 1) (S.pv 2)) S.Ac)))))))),?_⟩
  simp only [Kg,Ez,Jh,J4,Eh,Kh,Cj,J7,Eu,Ga,z_c,Pg,Sv,R9,Ko,Ru,J9,Ju,Kc,Kf,Dq,S5,Jl,Km,J8,Gk,Gi,J3,Jf,Rp,Fw,Jk,Gf,Sh,Gd,Ke,Ft,Rw,Jw,J0,Dg,Ew,Fz,Ep,Cw,Eo,J1,J2,Jo,Kq,Sy,Cd,Ed,J5,S6,Ku,Fl,Jz,Jt,Ej,Js,Et,En,Gj,Cz,Jy,Cv,Fx,Er,Em,Gh,Dc,Ks,Fp,J6,Es,Ef,Fj,Dd,Fe,Gg,Cy,Fo,Sx,cpσ,List.getElem?_cons_zero,List.getElem?_cons_succ,Option.join_some,List.set_cons_zero,List.set_cons_succ,List.append_nil,decide_eq_true_eq,Bool.not_eq_true',decide_eq_false_iff_not,Bool.not_not,ite_not,Bool.false_eq_true,Bool.true_eq_false,if_false,if_true,if_pos,List.length_cons,List.length_nil,Nat.zero_add,Nat.reduceAdd,Ek,Fy,true_and,and_true,L2.start,List.map_cons,List.map_nil,Bool.not_true,Bool.not_false,Nat.reduceSub,List.replicate_succ,List.replicate_zero,List.cons_append,List.nil_append]
  rw [if_neg hb]
  refine⟨a,b,rfl,?_⟩
  contradiction
  have hg0:((Int.gcd a b:Nat):Int)≠0:=by
    have:=Int.gcd_pos_of_ne_zero_right a hb
    omega
  have hgz:Sz 8000 ((Int.gcd a b:Nat):Int):=hz.of_abs (by
    have:=Nat.le_of_dvd (by omega) (Int.gcd_dvd_natAbs_right a b)
    omega)
  split
  . rename_i hneg
    have hc:Abi a (-((Int.gcd a b:Nat):Int)):=⟨by omega,hgz.neg.log2 (by omega) (by decide)⟩
    refine⟨hc,hc,fun p hp=> ?_⟩
    rw [(T7 hneg).1,(T7 hneg).2]
    exact q _ _ (Same.upd hp _) ⟨p,rfl,.of Ar⟩
  . rename_i hneg
    have hc:Abi a ((Int.gcd a b:Nat):Int):=⟨hg0,hgz.log2 hg0 (by decide)⟩
    have hpos:0<b:=by omega
    refine⟨hc,hc,fun p hp=> ?_⟩
    rw [(Oz hpos).1,(Oz hpos).2]
    exact q _ _ (Same.upd hp _) ⟨p,rfl,.of Ar⟩
theorem Abp {f:Addr}{fd:FuncData} (F:Df K mg "plus" Wr ["one","other"] f fd)   (c_fraction:Cal P w K mg base 2 "fraction" ["top","bottom"] (Bw K)):Cal P w K mg base 3 "plus" ["one","other"] (La K):=by
  refine F.cal (F.fn.ok Aan (fun vs H Q E h=> ?_) (fun cdv A outer s H vs Q E hr h=> ?_))
  . obtain⟨x,y,p,q,m,n,rfl,_⟩:=h
    rfl
  obtain⟨x,y,p,q,m,n,rfl,⟨a,rfl,ha⟩,⟨b,rfl,hb⟩,sp,sq,mn,k⟩:=h
  refine S.Bj ⟨_,(S.Ae (S.Al (S.Aw c_fraction (hr.mono (by decide)) (S.Aa (S.Af Cu (S.Af Az (S.Ay Ak (S.pv 0) S.Ab (fun _ _=>rfl)) (S.Ay Ak (S.pv 1) S.Ab (fun _ _=>rfl))) (S.Af Az (S.Ay Ak (S.pv 1) S.Ab (fun _ _=>rfl)) (S.Ay Ak (S.pv 0) S.Ab (fun _ _=>rfl)))) (S.Aa (S.Af Az (S.Ay Ak (S.pv 0) S.Ab (fun _ _=>rfl)) (S.Ay Ak (S.pv 1) S.Ab (fun _ _=>rfl))) S.Ac))))),?_⟩
  contradiction
  refine Bf ha (at0 _ _) (Bf hb (at1 _ _ _) ?_)
  simp only [Kg,Ez,Jh,J4,Eh,Kh,Cj,J7,Eu,Ga,z_c,Pg,Sv,R9,Ko,Ru,J9,Ju,Kc,Kf,Dq,S5,Jl,Km,J8,Gk,Gi,J3,Jf,Rp,Fw,Jk,Gf,Sh,Gd,Ke,Ft,Rw,Jw,J0,Dg,Ew,Fz,Ep,Cw,Eo,J1,J2,Jo,Kq,Sy,Cd,Ed,J5,S6,Ku,Fl,Jz,Jt,Ej,Js,Et,En,Gj,Cz,Jy,Cv,Fx,Er,Em,Gh,Dc,Ks,Fp,J6,Es,Ef,Fj,Dd,Fe,Gg,Cy,Fo,Sx,cpσ,List.getElem?_cons_zero,List.getElem?_cons_succ,Option.join_some,List.set_cons_zero,List.set_cons_succ,List.append_nil,decide_eq_true_eq,Bool.not_eq_true',decide_eq_false_iff_not,Bool.not_not,ite_not,Bool.false_eq_true,Bool.true_eq_false,if_false,if_true,if_pos,List.length_cons,List.length_nil,Nat.zero_add,Nat.reduceAdd,Ek,Fy,true_and,and_true,L2.start,List.map_cons,List.map_nil,Bool.not_true,Bool.not_false,Nat.reduceSub,List.replicate_succ,List.replicate_zero,List.cons_append,List.nil_append]
  refine⟨sp.1.mulOk sq.2 (by omega),Bf hb (at0 _ _) (Bf ha (at1 _ _ _) ?_)⟩
  simp only [Kg,Ez,Jh,J4,Eh,Kh,Cj,J7,Eu,Ga,z_c,Pg,Sv,R9,Ko,Ru,J9,Ju,Kc,Kf,Dq,S5,Jl,Km,J8,Gk,Gi,J3,Jf,Rp,Fw,Jk,Gf,Sh,Gd,Ke,Ft,Rw,Jw,J0,Dg,Ew,Fz,Ep,Cw,Eo,J1,J2,Jo,Kq,Sy,Cd,Ed,J5,S6,Ku,Fl,Jz,Jt,Ej,Js,Et,En,Gj,Cz,Jy,Cv,Fx,Er,Em,Gh,Dc,Ks,Fp,J6,Es,Ef,Fj,Dd,Fe,Gg,Cy,Fo,Sx,cpσ,List.getElem?_cons_zero,List.getElem?_cons_succ,Option.join_some,List.set_cons_zero,List.set_cons_succ,List.append_nil,decide_eq_true_eq,Bool.not_eq_true',decide_eq_false_iff_not,Bool.not_not,ite_not,Bool.false_eq_true,Bool.true_eq_false,if_false,if_true,if_pos,List.length_cons,List.length_nil,Nat.zero_add,Nat.reduceAdd,Ek,Fy,true_and,and_true,L2.start,List.map_cons,List.map_nil,Bool.not_true,Bool.not_false,Nat.reduceSub,List.replicate_succ,List.replicate_zero,List.cons_append,List.nil_append]
  refine⟨sq.1.mulOk sp.2 (by omega),Bf ha (at1 _ _ _) (Bf hb (at1 _ _ _) ?_)⟩
  simp only [Kg,Ez,Jh,J4,Eh,Kh,Cj,J7,Eu,Ga,z_c,Pg,Sv,R9,Ko,Ru,J9,Ju,Kc,Kf,Dq,S5,Jl,Km,J8,Gk,Gi,J3,Jf,Rp,Fw,Jk,Gf,Sh,Gd,Ke,Ft,Rw,Jw,J0,Dg,Ew,Fz,Ep,Cw,Eo,J1,J2,Jo,Kq,Sy,Cd,Ed,J5,S6,Ku,Fl,Jz,Jt,Ej,Js,Et,En,Gj,Cz,Jy,Cv,Fx,Er,Em,Gh,Dc,Ks,Fp,J6,Es,Ef,Fj,Dd,Fe,Gg,Cy,Fo,Sx,cpσ,List.getElem?_cons_zero,List.getElem?_cons_succ,Option.join_some,List.set_cons_zero,List.set_cons_succ,List.append_nil,decide_eq_true_eq,Bool.not_eq_true',decide_eq_false_iff_not,Bool.not_not,ite_not,Bool.false_eq_true,Bool.true_eq_false,if_false,if_true,if_pos,List.length_cons,List.length_nil,Nat.zero_add,Nat.reduceAdd,Ek,Fy,true_and,and_true,L2.start,List.map_cons,List.map_nil,Bool.not_true,Bool.not_false,Nat.reduceSub,List.replicate_succ,List.replicate_zero,List.cons_append,List.nil_append]
  refine⟨sp.2.mulOk sq.2 (by omega),_,_,rfl,Int.mul_ne_zero (Dp p) (Dp q),(sp.2.mul sq.2).mono (by omega),?_⟩
  rw [Aew]
  exact k
theorem Yc {f:Addr}{fd:FuncData} (F:Df K mg "times" Ri ["one","other"] f fd)   (c_fraction:Cal P w K mg base 2 "fraction" ["top","bottom"] (Bw K)):Cal P w K mg base 3 "times" ["one","other"] (K1 K):=by
  refine F.cal (F.fn.ok Yi (fun vs H Q E h=> ?_) (fun cdv A outer s H vs Q E hr h=> ?_))
  . obtain⟨x,y,p,q,m,n,rfl,_⟩:=h
    rfl
  obtain⟨x,y,p,q,m,n,rfl,⟨a,rfl,ha⟩,⟨b,rfl,hb⟩,sp,sq,mn,k⟩:=h
  refine S.Bj ⟨_,(S.Ae (S.Al (S.Aw c_fraction (hr.mono (by decide)) (S.Aa (S.Af Az (S.Ay Ak (S.pv 0) S.Ab (fun _ _=>rfl)) (S.Ay Ak (S.pv 1) S.Ab (fun _ _=>rfl))) (S.Aa (S.Af Az (S.Ay Ak (S.pv 0) S.Ab (fun _ _=>rfl)) (S.Ay Ak (S.pv 1) S.Ab (fun _ _=>rfl))) S.Ac))))),?_⟩
  contradiction
  refine Bf ha (at0 _ _) (Bf hb (at0 _ _) ?_)
  simp only [Kg,Ez,Jh,J4,Eh,Kh,Cj,J7,Eu,Ga,z_c,Pg,Sv,R9,Ko,Ru,J9,Ju,Kc,Kf,Dq,S5,Jl,Km,J8,Gk,Gi,J3,Jf,Rp,Fw,Jk,Gf,Sh,Gd,Ke,Ft,Rw,Jw,J0,Dg,Ew,Fz,Ep,Cw,Eo,J1,J2,Jo,Kq,Sy,Cd,Ed,J5,S6,Ku,Fl,Jz,Jt,Ej,Js,Et,En,Gj,Cz,Jy,Cv,Fx,Er,Em,Gh,Dc,Ks,Fp,J6,Es,Ef,Fj,Dd,Fe,Gg,Cy,Fo,Sx,cpσ,List.getElem?_cons_zero,List.getElem?_cons_succ,Option.join_some,List.set_cons_zero,List.set_cons_succ,List.append_nil,decide_eq_true_eq,Bool.not_eq_true',decide_eq_false_iff_not,Bool.not_not,ite_not,Bool.false_eq_true,Bool.true_eq_false,if_false,if_true,if_pos,List.length_cons,List.length_nil,Nat.zero_add,Nat.reduceAdd,Ek,Fy,true_and,and_true,L2.start,List.map_cons,List.map_nil,Bool.not_true,Bool.not_false,Nat.reduceSub,List.replicate_succ,List.replicate_zero,List.cons_append,List.nil_append]
  refine⟨sp.1.mulOk sq.1 (by omega),Bf ha (at1 _ _ _) (Bf hb (at1 _ _ _) ?_)⟩
  simp only [Kg,Ez,Jh,J4,Eh,Kh,Cj,J7,Eu,Ga,z_c,Pg,Sv,R9,Ko,Ru,J9,Ju,Kc,Kf,Dq,S5,Jl,Km,J8,Gk,Gi,J3,Jf,Rp,Fw,Jk,Gf,Sh,Gd,Ke,Ft,Rw,Jw,J0,Dg,Ew,Fz,Ep,Cw,Eo,J1,J2,Jo,Kq,Sy,Cd,Ed,J5,S6,Ku,Fl,Jz,Jt,Ej,Js,Et,En,Gj,Cz,Jy,Cv,Fx,Er,Em,Gh,Dc,Ks,Fp,J6,Es,Ef,Fj,Dd,Fe,Gg,Cy,Fo,Sx,cpσ,List.getElem?_cons_zero,List.getElem?_cons_succ,Option.join_some,List.set_cons_zero,List.set_cons_succ,List.append_nil,decide_eq_true_eq,Bool.not_eq_true',decide_eq_false_iff_not,Bool.not_not,ite_not,Bool.false_eq_true,Bool.true_eq_false,if_false,if_true,if_pos,List.length_cons,List.length_nil,Nat.zero_add,Nat.reduceAdd,Ek,Fy,true_and,and_true,L2.start,List.map_cons,List.map_nil,Bool.not_true,Bool.not_false,Nat.reduceSub,List.replicate_succ,List.replicate_zero,List.cons_append,List.nil_append]
  refine⟨sp.2.mulOk sq.2 (by omega),_,_,rfl,Int.mul_ne_zero (Dp p) (Dp q),(sp.2.mul sq.2).mono (by omega),?_⟩
  rw [Adl]
  exact k
theorem Y0 {f:Addr}{fd:FuncData} (F:Df K mg "minus" Rj ["one","other"] f fd)   (c_fraction:Cal P w K mg base 2 "fraction" ["top","bottom"] (Bw K)):Cal P w K mg base 3 "minus" ["one","other"] (T9 K):=by
  refine F.cal (F.fn.ok Yy (fun vs H Q E h=> ?_) (fun cdv A outer s H vs Q E hr h=> ?_))
  . obtain⟨x,y,p,q,m,n,rfl,_⟩:=h
    rfl
  obtain⟨x,y,p,q,m,n,rfl,⟨a,rfl,ha⟩,⟨b,rfl,hb⟩,sp,sq,mn,k⟩:=h
  refine S.Bj ⟨_,(S.Ae (S.Al (S.Aw c_fraction (hr.mono (by decide)) (S.Aa (S.Af Ii (S.Af Az (S.Ay Ak (S.pv 0) S.Ab (fun _ _=>rfl)) (S.Ay Ak (S.pv 1) S.Ab (fun _ _=>rfl))) (S.Af Az (S.Ay Ak (S.pv 1) S.Ab (fun _ _=>rfl)) (S.Ay Ak (S.pv 0) S.Ab (fun _ _=>rfl)))) (S.Aa (S.Af Az (S.Ay Ak (S.pv 0) S.Ab (fun _ _=>rfl)) (S.Ay Ak (S.pv 1) S.Ab (fun _ _=>rfl))) S.Ac))))),?_⟩
  contradiction
  refine Bf ha (at0 _ _) (Bf hb (at1 _ _ _) ?_)
  simp only [Kg,Ez,Jh,J4,Eh,Kh,Cj,J7,Eu,Ga,z_c,Pg,Sv,R9,Ko,Ru,J9,Ju,Kc,Kf,Dq,S5,Jl,Km,J8,Gk,Gi,J3,Jf,Rp,Fw,Jk,Gf,Sh,Gd,Ke,Ft,Rw,Jw,J0,Dg,Ew,Fz,Ep,Cw,Eo,J1,J2,Jo,Kq,Sy,Cd,Ed,J5,S6,Ku,Fl,Jz,Jt,Ej,Js,Et,En,Gj,Cz,Jy,Cv,Fx,Er,Em,Gh,Dc,Ks,Fp,J6,Es,Ef,Fj,Dd,Fe,Gg,Cy,Fo,Sx,cpσ,List.getElem?_cons_zero,List.getElem?_cons_succ,Option.join_some,List.set_cons_zero,List.set_cons_succ,List.append_nil,decide_eq_true_eq,Bool.not_eq_true',decide_eq_false_iff_not,Bool.not_not,ite_not,Bool.false_eq_true,Bool.true_eq_false,if_false,if_true,if_pos,List.length_cons,List.length_nil,Nat.zero_add,Nat.reduceAdd,Ek,Fy,true_and,and_true,L2.start,List.map_cons,List.map_nil,Bool.not_true,Bool.not_false,Nat.reduceSub,List.replicate_succ,List.replicate_zero,List.cons_append,List.nil_append]
  refine⟨sp.1.mulOk sq.2 (by omega),Bf hb (at0 _ _) (Bf ha (at1 _ _ _) ?_)⟩
  simp only [Kg,Ez,Jh,J4,Eh,Kh,Cj,J7,Eu,Ga,z_c,Pg,Sv,R9,Ko,Ru,J9,Ju,Kc,Kf,Dq,S5,Jl,Km,J8,Gk,Gi,J3,Jf,Rp,Fw,Jk,Gf,Sh,Gd,Ke,Ft,Rw,Jw,J0,Dg,Ew,Fz,Ep,Cw,Eo,J1,J2,Jo,Kq,Sy,Cd,Ed,J5,S6,Ku,Fl,Jz,Jt,Ej,Js,Et,En,Gj,Cz,Jy,Cv,Fx,Er,Em,Gh,Dc,Ks,Fp,J6,Es,Ef,Fj,Dd,Fe,Gg,Cy,Fo,Sx,cpσ,List.getElem?_cons_zero,List.getElem?_cons_succ,Option.join_some,List.set_cons_zero,List.set_cons_succ,List.append_nil,decide_eq_true_eq,Bool.not_eq_true',decide_eq_false_iff_not,Bool.not_not,ite_not,Bool.false_eq_true,Bool.true_eq_false,if_false,if_true,if_pos,List.length_cons,List.length_nil,Nat.zero_add,Nat.reduceAdd,Ek,Fy,true_and,and_true,L2.start,List.map_cons,List.map_nil,Bool.not_true,Bool.not_false,Nat.reduceSub,List.replicate_succ,List.replicate_zero,List.cons_append,List.nil_append]
  refine⟨sq.1.mulOk sp.2 (by omega),Bf ha (at1 _ _ _) (Bf hb (at1 _ _ _) ?_)⟩
  simp only [Kg,Ez,Jh,J4,Eh,Kh,Cj,J7,Eu,Ga,z_c,Pg,Sv,R9,Ko,Ru,J9,Ju,Kc,Kf,Dq,S5,Jl,Km,J8,Gk,Gi,J3,Jf,Rp,Fw,Jk,Gf,Sh,Gd,Ke,Ft,Rw,Jw,J0,Dg,Ew,Fz,Ep,Cw,Eo,J1,J2,Jo,Kq,Sy,Cd,Ed,J5,S6,Ku,Fl,Jz,Jt,Ej,Js,Et,En,Gj,Cz,Jy,Cv,Fx,Er,Em,Gh,Dc,Ks,Fp,J6,Es,Ef,Fj,Dd,Fe,Gg,Cy,Fo,Sx,cpσ,List.getElem?_cons_zero,List.getElem?_cons_succ,Option.join_some,List.set_cons_zero,List.set_cons_succ,List.append_nil,decide_eq_true_eq,Bool.not_eq_true',decide_eq_false_iff_not,Bool.not_not,ite_not,Bool.false_eq_true,Bool.true_eq_false,if_false,if_true,if_pos,List.length_cons,List.length_nil,Nat.zero_add,Nat.reduceAdd,Ek,Fy,true_and,and_true,L2.start,List.map_cons,List.map_nil,Bool.not_true,Bool.not_false,Nat.reduceSub,List.replicate_succ,List.replicate_zero,List.cons_append,List.nil_append]
  refine⟨sp.2.mulOk sq.2 (by omega),_,_,rfl,Int.mul_ne_zero (Dp p) (Dp q),(sp.2.mul sq.2).mono (by omega),?_⟩
  rw [Afb]
  exact k
def Vd (K:PySem.W.Frag):Sp:=fun vs H Q _=>∃(x y:V) (p q:Rat) (m n:Nat),vs=[x,y]/\IsQ K H x p/\IsQ K H y q/\Szq m p/\Szq n q/\m+n<=8000/\q.num≠0/\∀z H',Same H H'->IsQ K H' z (p/q)->Q z H'
theorem Abl {f:Addr}{fd:FuncData} (F:Df K mg "over" Vj ["one","other"] f fd)   (c_fraction:Cal P w K mg base 2 "fraction" ["top","bottom"] (Bw K)):Cal P w K mg base 3 "over" ["one","other"] (Vd K):=by
  refine F.cal (F.fn.ok Aam (fun vs H Q E h=> ?_) (fun cdv A outer s H vs Q E hr h=> ?_))
  . obtain⟨x,y,p,q,m,n,rfl,_⟩:=h
    rfl
  obtain⟨x,y,p,q,m,n,rfl,⟨a,rfl,ha⟩,⟨b,rfl,hb⟩,sp,sq,mn,hq,k⟩:=h
  refine S.Bj ⟨_,(S.Ae (S.Al (S.Aw c_fraction (hr.mono (by decide)) (S.Aa (S.Af Az (S.Ay Ak (S.pv 0) S.Ab (fun _ _=>rfl)) (S.Ay Ak (S.pv 1) S.Ab (fun _ _=>rfl))) (S.Aa (S.Af Az (S.Ay Ak (S.pv 0) S.Ab (fun _ _=>rfl)) (S.Ay Ak (S.pv 1) S.Ab (fun _ _=>rfl))) S.Ac))))),?_⟩
  contradiction
  refine Bf ha (at0 _ _) (Bf hb (at1 _ _ _) ?_)
  simp only [Kg,Ez,Jh,J4,Eh,Kh,Cj,J7,Eu,Ga,z_c,Pg,Sv,R9,Ko,Ru,J9,Ju,Kc,Kf,Dq,S5,Jl,Km,J8,Gk,Gi,J3,Jf,Rp,Fw,Jk,Gf,Sh,Gd,Ke,Ft,Rw,Jw,J0,Dg,Ew,Fz,Ep,Cw,Eo,J1,J2,Jo,Kq,Sy,Cd,Ed,J5,S6,Ku,Fl,Jz,Jt,Ej,Js,Et,En,Gj,Cz,Jy,Cv,Fx,Er,Em,Gh,Dc,Ks,Fp,J6,Es,Ef,Fj,Dd,Fe,Gg,Cy,Fo,Sx,cpσ,List.getElem?_cons_zero,List.getElem?_cons_succ,Option.join_some,List.set_cons_zero,List.set_cons_succ,List.append_nil,decide_eq_true_eq,Bool.not_eq_true',decide_eq_false_iff_not,Bool.not_not,ite_not,Bool.false_eq_true,Bool.true_eq_false,if_false,if_true,if_pos,List.length_cons,List.length_nil,Nat.zero_add,Nat.reduceAdd,Ek,Fy,true_and,and_true,L2.start,List.map_cons,List.map_nil,Bool.not_true,Bool.not_false,Nat.reduceSub,List.replicate_succ,List.replicate_zero,List.cons_append,List.nil_append]
  refine⟨sp.1.mulOk sq.2 (by omega),Bf ha (at1 _ _ _) (Bf hb (at0 _ _) ?_)⟩
  simp only [Kg,Ez,Jh,J4,Eh,Kh,Cj,J7,Eu,Ga,z_c,Pg,Sv,R9,Ko,Ru,J9,Ju,Kc,Kf,Dq,S5,Jl,Km,J8,Gk,Gi,J3,Jf,Rp,Fw,Jk,Gf,Sh,Gd,Ke,Ft,Rw,Jw,J0,Dg,Ew,Fz,Ep,Cw,Eo,J1,J2,Jo,Kq,Sy,Cd,Ed,J5,S6,Ku,Fl,Jz,Jt,Ej,Js,Et,En,Gj,Cz,Jy,Cv,Fx,Er,Em,Gh,Dc,Ks,Fp,J6,Es,Ef,Fj,Dd,Fe,Gg,Cy,Fo,Sx,cpσ,List.getElem?_cons_zero,List.getElem?_cons_succ,Option.join_some,List.set_cons_zero,List.set_cons_succ,List.append_nil,decide_eq_true_eq,Bool.not_eq_true',decide_eq_false_iff_not,Bool.not_not,ite_not,Bool.false_eq_true,Bool.true_eq_false,if_false,if_true,if_pos,List.length_cons,List.length_nil,Nat.zero_add,Nat.reduceAdd,Ek,Fy,true_and,and_true,L2.start,List.map_cons,List.map_nil,Bool.not_true,Bool.not_false,Nat.reduceSub,List.replicate_succ,List.replicate_zero,List.cons_append,List.nil_append]
  refine⟨sp.2.mulOk sq.1 (by omega),_,_,rfl,Int.mul_ne_zero (Dp p) hq,(sp.2.mul sq.1).mono (by omega),?_⟩
  rw [Afc]
  exact k
def Vg (K:PySem.W.Frag):Sp:=fun vs H Q _=>∃(x y:V) (p q:Rat),vs=[x,y]/\IsQ K H x p/\IsQ K H y q/\Szq 9000 p/\Szq 9000 q/\Q (.bl (decide (p<q))) H
def sgI (n:Int):Int:=if n=0 then 0 else if 0<n then 1 else-1
def Ht (_:PySem.W.Frag):Sp:=fun vs H Q _=>∃n:Int,vs=[.int n]/\Q (.int (sgI n)) H
def Oi (K:PySem.W.Frag):Sp:=fun vs H Q _=>∃(x:V) (q:Rat),vs=[x]/\IsQ K H x q/\Q (.int (sg q)) H
theorem Adc (q:Rat):sgI q.num=sg q:=by
  unfold sgI sg
  simp only [Vk,Adj]
theorem Aa5 {f:Addr}{fd:FuncData} (F:Df K mg "less" V8 ["one","other"] f fd)    :Cal P w K mg base 1 "less" ["one","other"] (Vg K):=by
  refine F.cal (F.fn.ok Aa4 (fun vs H Q E h=> ?_) (fun cdv A outer s H vs Q E hr h=> ?_))
  . obtain⟨x,y,p,q,rfl,_⟩:=h
    rfl
  obtain⟨x,y,p,q,rfl,⟨a,rfl,ha⟩,⟨b,rfl,hb⟩,sp,sq,k⟩:=h
  refine S.Bj ⟨_,(S.Ae (S.Al (S.Ci Nu (S.Af Az (S.Ay Ak (S.pv 0) S.Ab (fun _ _=>rfl)) (S.Ay Ak (S.pv 1) S.Ab (fun _ _=>rfl))) (S.Af Az (S.Ay Ak (S.pv 1) S.Ab (fun _ _=>rfl)) (S.Ay Ak (S.pv 0) S.Ab (fun _ _=>rfl))) (Aj _)))),?_⟩
  contradiction
  refine Bf ha (at0 _ _) (Bf hb (at1 _ _ _) ?_)
  simp only [Kg,Ez,Jh,J4,Eh,Kh,Cj,J7,Eu,Ga,z_c,Pg,Sv,R9,Ko,Ru,J9,Ju,Kc,Kf,Dq,S5,Jl,Km,J8,Gk,Gi,J3,Jf,Rp,Fw,Jk,Gf,Sh,Gd,Ke,Ft,Rw,Jw,J0,Dg,Ew,Fz,Ep,Cw,Eo,J1,J2,Jo,Kq,Sy,Cd,Ed,J5,S6,Ku,Fl,Jz,Jt,Ej,Js,Et,En,Gj,Cz,Jy,Cv,Fx,Er,Em,Gh,Dc,Ks,Fp,J6,Es,Ef,Fj,Dd,Fe,Gg,Cy,Fo,Sx,cpσ,List.getElem?_cons_zero,List.getElem?_cons_succ,Option.join_some,List.set_cons_zero,List.set_cons_succ,List.append_nil,decide_eq_true_eq,Bool.not_eq_true',decide_eq_false_iff_not,Bool.not_not,ite_not,Bool.false_eq_true,Bool.true_eq_false,if_false,if_true,if_pos,List.length_cons,List.length_nil,Nat.zero_add,Nat.reduceAdd,Ek,Fy,true_and,and_true,L2.start,List.map_cons,List.map_nil,Bool.not_true,Bool.not_false,Nat.reduceSub,List.replicate_succ,List.replicate_zero,List.cons_append,List.nil_append]
  refine⟨sp.1.mulOk sq.2 (by decide),Bf hb (at0 _ _) (Bf ha (at1 _ _ _) ?_)⟩
  simp only [Kg,Ez,Jh,J4,Eh,Kh,Cj,J7,Eu,Ga,z_c,Pg,Sv,R9,Ko,Ru,J9,Ju,Kc,Kf,Dq,S5,Jl,Km,J8,Gk,Gi,J3,Jf,Rp,Fw,Jk,Gf,Sh,Gd,Ke,Ft,Rw,Jw,J0,Dg,Ew,Fz,Ep,Cw,Eo,J1,J2,Jo,Kq,Sy,Cd,Ed,J5,S6,Ku,Fl,Jz,Jt,Ej,Js,Et,En,Gj,Cz,Jy,Cv,Fx,Er,Em,Gh,Dc,Ks,Fp,J6,Es,Ef,Fj,Dd,Fe,Gg,Cy,Fo,Sx,cpσ,List.getElem?_cons_zero,List.getElem?_cons_succ,Option.join_some,List.set_cons_zero,List.set_cons_succ,List.append_nil,decide_eq_true_eq,Bool.not_eq_true',decide_eq_false_iff_not,Bool.not_not,ite_not,Bool.false_eq_true,Bool.true_eq_false,if_false,if_true,if_pos,List.length_cons,List.length_nil,Nat.zero_add,Nat.reduceAdd,Ek,Fy,true_and,and_true,L2.start,List.map_cons,List.map_nil,Bool.not_true,Bool.not_false,Nat.reduceSub,List.replicate_succ,List.replicate_zero,List.cons_append,List.nil_append]
  refine⟨sq.1.mulOk sp.2 (by decide),?_⟩
  simp only [Oj]
  exact k
theorem Ml {f:Addr}{fd:FuncData} (F:Df K mg "sign_of_whole" Ey ["number"] f fd)    :Cal P w K mg base 1 "sign_of_whole" ["number"] (Ht K):=by
  refine F.cal (F.fn.ok Mi (fun vs H Q E h=> ?_) (fun cdv A outer s H vs Q E hr h=> ?_))
  . obtain⟨n,rfl,_⟩:=h
    rfl
  obtain⟨n,rfl,k⟩:=h
  refine S.Bj ⟨_,(S.Ad (S.Bm (S.Ah Dr (S.pv 0) S.Ab (Aj _)) (S.Ae (S.Al S.Ab)) S.Ax)
      (S.Ae (S.Al (S.Iw (S.Ah P0 (S.pv 0) S.Ab (Aj _)) S.Ab (S.Jj G6 S.Ab))))),?_⟩
  contradiction
  unfold sgI at k
  split
  . rename_i h
    rw [if_pos h]at k
    exact k
  . rename_i h
    rw [if_neg h]at k
    split
    . rename_i h'
      rw [if_pos h']at k
      exact k
    . rename_i h'
      rw [if_neg h']at k
      exact k
theorem Abo {f:Addr}{fd:FuncData} (F:Df K mg "sign" Xg ["one"] f fd)   (c_sign_of_whole:Cal P w K mg base 1 "sign_of_whole" ["number"] (Ht K)):Cal P w K mg base 2 "sign" ["one"] (Oi K):=by
  refine F.cal (F.fn.ok Abe (fun vs H Q E h=> ?_) (fun cdv A outer s H vs Q E hr h=> ?_))
  . obtain⟨x,q,rfl,_⟩:=h
    rfl
  obtain⟨x,q,rfl,⟨a,rfl,ha⟩,k⟩:=h
  refine S.Bj ⟨_,(S.Ae (S.Al (S.Aw c_sign_of_whole (hr.mono (by decide)) (S.Aa (S.Ay Ak (S.pv 0) S.Ab (fun _ _=>rfl)) S.Ac)))),?_⟩
  contradiction
  refine Bf ha (at0 _ _) ?_
  refine⟨q.num,rfl,?_⟩
  rw [Adc]
  exact k
def Ea (_:PySem.W.Frag):Sp:=fun vs H Q _=>∃n:Int,vs=[.int n]/\0<=n/\Sz 5000 n/\∀r:Int,0<=r->Sz 5001 r->r*r<=n->n<(r+1)*(r+1)->Q (.int r) H
theorem Oh {f:Addr}{fd:FuncData} (F:Df K mg "root_floor" Ik ["number"] f fd) (z_range:mg "range"=none)   :Cal P w K mg base 1 "root_floor" ["number"] (Ea K):=by
  refine F.cal (F.fn.ok Bx (fun vs H Q E h=> ?_) (fun cdv A outer s H vs Q E hr h=> ?_))
  . obtain⟨n,rfl,_⟩:=h
    rfl
  obtain⟨n,rfl,hn,sn,q⟩:=h
  refine S.Bj ⟨_,(S.Ad (S.Bm (S.Ah Dr (S.pv 0) S.Ab (Aj _)) (S.Ae (S.Al S.Ab)) S.Ax)
      (S.Ad (S.Ai (i:=1) Bx.nd rfl (Or.inl rfl) S.Ab)
      (S.Ad (S.Gw PassesOwn.never rfl (S.G7 rfl z_range (S.Aa (S.Af Bg (S.Af Cu (S.Qc PySem.F.plainAttrs_int PySem.F.slot_int_bit_length PySem.F.type_int_bit_length Abm (S.pv 0)) S.Ab) S.Ab) S.Ac)) (S.Aq (i:=2) Bx.nd rfl (Or.inl rfl)) (S.Ae (S.Ai (i:=1) Bx.nd rfl (Or.inl rfl) (S.Af Az (S.pv 1) S.Ab))))
      (S.Ad (S.Ai (i:=3) Bx.nd rfl (Or.inl rfl) (S.Af Bg (S.Af Cu (S.pv 1) (S.Af Bg (S.pv 0) (S.pv 1))) S.Ab))
      (S.Ad (S.Ho PassesOwn.never (S.Ah Nu (S.pv 3) (S.pv 1) (Aj _)) (S.Ad (S.Ai (i:=1) Bx.nd rfl (Or.inl rfl) (S.pv 3))
      (S.Ae (S.Ai (i:=3) Bx.nd rfl (Or.inl rfl) (S.Af Bg (S.Af Cu (S.pv 1) (S.Af Bg (S.pv 0) (S.pv 1))) S.Ab)))))
      (S.Ae (S.Al (S.pv 1)))))))),?_⟩
  contradiction
  by_cases h0:n=0
  . rw [if_pos h0]
    subst h0
    exact q 0 (by decide) (by unfold Sz;decide) (by decide) (by decide)
  rw [if_neg h0]
  refine⟨rfl,n,rfl,rfl,?_⟩
  have hB:Builtin.Int.intBits n<=5000:=PySem.intBits_le_iff.mpr sn
  have hB2:n.natAbs<2^Builtin.Int.intBits n:=PySem.intBits_le_iff.mp (Nat.le_refl _)
  generalize Builtin.Int.intBits n=B at*
  contradiction
  refine⟨⟨by decide,by decide⟩,by omega,by omega,?_⟩
  have hj:(((B:Int)+1)/2).toNat=(B+1)/2:=by omega
  rw [hj]
  have pz:∀k:Nat,Sz (k+1) ((2:Int)^k):=fun k=>by
    unfold Sz
    rw [Int.natAbs_pow]
    exact Nat.pow_lt_pow_right (by decide) (by omega)
  have pp:∀k:Nat,(0:Int)<2^k:=fun k=>Int.pow_pos (by decide)
  refine Qe (es:=List.range ((B+1)/2)) (inj:=fun i=> .int (0+(i:Nat))) (fun pre σ H'=>H'=H/\pre.length<=2600/\∃o,σ=[some (.int n),some (.int (2^pre.length)),o,none]) ⟨rfl,by decide,_,rfl⟩ ?_ ?_ ?_
  . rintro pre σ H' _
    exact K8
  . rintro pre e post σ H' he ⟨rfl,hl,o,rfl⟩
    have hlen:=congrArg List.length he
    rw [List.length_range,List.length_append,List.length_cons]at hlen
    contradiction
    refine⟨(pz pre.length).mulOk (by unfold Sz;decide:Sz 2 (2:Int)) (by omega),?_⟩
    rw [List.length_append]
    refine⟨by simp only [List.length_cons,List.length_nil];omega,some (.int (0+(e:Int))),?_⟩
    rw [show pre.length+ [e].length=pre.length+1 from rfl,Int.pow_succ]
  . rintro σ H' ⟨rfl,hl,o,rfl⟩
    rw [List.length_range]at*
    have g0:=pp ((B+1)/2)
    have gz:=(pz ((B+1)/2)).mono (show(B+1)/2+1<=2600 by omega)
    have gb:=Ve hn hB2
    generalize (2:Int)^((B+1)/2)=g1 at*
    contradiction
    refine⟨⟨g0,gz.log2 (by omega) (by decide)⟩,⟨by decide,by decide⟩,?_⟩
    refine O7 (fun σ H2=>H2=H'/\∃(g:Int) (o:Option V),σ=[some (.int n),some (.int g),o,some (.int ((g+n/g)/2))]/\0<g/\n<(g+1)*(g+1)/\Sz 2600 g)
      (fun σ _=>match σ with | [_,some (.int g),_,_]=>g.toNat | _=>0) ⟨rfl,_,_,rfl,g0,gb,gz⟩ ?_ ?_
    . rintro σ H2 ⟨rfl,g,o,rfl,hg,hn',sg⟩
      contradiction
      by_cases hlt:(g+n/g)/2<g
      . rw [if_pos hlt]
        have pos:0<(g+n/g)/2:=(U8 hg (by omega)).resolve_right (fun z=>z hlt)
        have sz:Sz 2600 ((g+n/g)/2):=sg.of_abs (by omega)
        exact⟨⟨pos,sz.log2 (by omega) (by decide)⟩,⟨by decide,by decide⟩,⟨_,_,rfl,pos,Acz hg hn,sz⟩,by omega⟩
      . rw [if_neg hlt]
        exact q g (by omega) (sg.mono (by decide)) (U9 hg hlt) hn'
    . intro σ H' Q1 Q2 h12
      simp only [Dq,Pg]
      rintro⟨v,e1,u,e2,i,j,ei,ej,k,ek,h3⟩
      exact⟨v,e1,u,e2,i,j,ei,ej,k,ek,h12 _ _ h3⟩
def Ly (_:PySem.W.Frag):Sp:=fun vs H Q _=>∃d:Nat,vs=[.int (d:Nat)]/\0<d/\d<=1000000000000/\∀s m:Nat,s*s*m=d->SF m->0<s->0<m->Q (.int (s:Nat)) H
theorem Aav {a b:Nat} (h:a<=2000000000000):IntMulOk (a:Int) (b:Int):= .of_left (Nat.le_trans (PySem.intBits_le_iff.mpr (by omega:((a:Nat):Int).natAbs<2^41)) (by decide))
theorem Ae2 {a b:Nat} (h:b<=2000000000000):IntMulOk (a:Int) (b:Int):= .of_right (Nat.le_trans (PySem.intBits_le_iff.mpr (by omega:((b:Nat):Int).natAbs<2^41)) (by decide))
theorem Adn {b:Nat} (h:b<=1000000000000) (b0:0<b) (a:Int):Aa6 a (b:Int):=⟨by omega,(show Sz 41 ((b:Nat):Int)by unfold Sz;omega).log2 (by omega) (by decide)⟩
theorem Aae {t l:Nat} (h:t*t*t<=l) (t0:0<t):t<=l/\t*t<=l:=by
  have a:t*t*1<=t*t*t:=Nat.mul_le_mul_left _ t0
  have b:t*1<=t*t:=Nat.mul_le_mul_left _ t0
  omega
theorem SqS.small {d f l t:Nat} (h:SqS d f l t):l<=d/\f<=d:=by
  have f0:=h.f0
  have l0:=h.l0
  have le:=h.le
  have a:1*l<=f*f*l:=Nat.mul_le_mul_right l (Nat.mul_pos f0 f0)
  have b:f*1<=f*f:=Nat.mul_le_mul_left f f0
  have c:f*f*1<=f*f*l:=Nat.mul_le_mul_left _ l0
  omega
theorem Qh {f:Addr}{fd:FuncData} (F:Df K mg "square_in" Jx ["d"] f fd)   (c_root_floor:Cal P w K mg base 1 "root_floor" ["number"] (Ea K)):Cal P w K mg base 2 "square_in" ["d"] (Ly K):=by
  refine F.cal (F.fn.ok Bp (fun vs H Q E h=> ?_) (fun cdv A outer s H vs Q E hr h=> ?_))
  . obtain⟨d,rfl,_⟩:=h
    rfl
  obtain⟨d,rfl,d0,d1,k⟩:=h
  refine S.Bj ⟨_,(S.Ad (S.Ai (i:=1) Bp.nd rfl (Or.inl rfl) S.Ab)
      (S.Ad (S.Ai (i:=2) Bp.nd rfl (Or.inl rfl) (S.pv 0))
      (S.Ad (S.Ai (i:=3) Bp.nd rfl (Or.inl rfl) S.Ab)
      (S.Ad (S.Ho PassesOwn.never (S.Ah Aai (S.Af Az (S.Af Az (S.pv 3) (S.pv 3)) (S.pv 3)) (S.pv 2) (Aj _)) (S.Ad (S.Ho PassesOwn.never (S.Ah Dr (S.Af Ce (S.pv 2) (S.Af Az (S.pv 3) (S.pv 3))) S.Ab (Aj _)) (S.Ad (S.Ai (i:=2) Bp.nd rfl (Or.inl rfl) (S.Af Bg (S.pv 2) (S.Af Az (S.pv 3) (S.pv 3))))
      (S.Ae (S.Ai (i:=1) Bp.nd rfl (Or.inl rfl) (S.Af Az (S.pv 1) (S.pv 3))))))
      (S.Ad (S.Bm (S.Ah Dr (S.Af Ce (S.pv 2) (S.pv 3)) S.Ab (Aj _)) (S.Ae (S.Ai (i:=2) Bp.nd rfl (Or.inl rfl) (S.Af Bg (S.pv 2) (S.pv 3)))) S.Ax)
      (S.Ae (S.Ai (i:=3) Bp.nd rfl (Or.inl rfl) (S.Af Cu (S.pv 3) S.Ab))))))
      (S.Ad (S.Ai (i:=4) Bp.nd rfl (Or.inl rfl) (S.Aw c_root_floor (hr.mono (by decide)) (S.Aa (S.pv 2) S.Ac)))
      (S.Ae (S.Al (S.Iw (S.Ah Dr (S.Af Az (S.pv 4) (S.pv 4)) (S.pv 2) (Aj _)) (S.Af Az (S.pv 1) (S.pv 4)) (S.pv 1))))))))),?_⟩
  contradiction
  refine Wi (fun m σ' H'=>H'=H/\∃f l t:Nat,σ'=[some (.int (d:Nat)),some (.int (f:Nat)),some (.int (l:Nat)),some (.int (t:Nat)),none]/\m=d+2-t/\t<=d+1/\SqS d f l t) _ ⟨rfl,1,d,2,rfl,rfl,by omega,.start d0⟩ ?_
  rintro m σ' H' ⟨rfl,f,l,t,rfl,rfl,td1,h⟩
  contradiction
  have t2:=h.t2
  have lf:=h.small
  have e1:((t:Nat):Int)*(t:Nat)=((t*t:Nat):Int):=by rw [Int.natCast_mul]
  have e2:((t*t:Nat):Int)*(t:Nat)=((t*t*t:Nat):Int):=by rw [Int.natCast_mul (t*t) t]
  rw [e1,e2]
  refine⟨Aav (by omega),Ae2 (by omega),?_⟩
  by_cases hc:t*t*t<=l
  . have tl:=Aae hc (by omega)
    have tt0:0<t*t:=Nat.mul_pos (by omega) (by omega)
    have td:t<=d:=by omega
    rw [if_pos (show((t*t*t:Nat):Int)<=(l:Nat)by omega)]
    refine Acy ?_
    refine Am (fun σ' H''=>H''=H'/\∃f l:Nat,σ'=[some (.int (d:Nat)),some (.int (f:Nat)),some (.int (l:Nat)),some (.int (t:Nat)),none]/\SqS d f l t/\¬l%(t*t)=0) (fun M hM=> ?_) ?_
    . refine Wi (fun m σ' H''=>H''=H'/\∃f:Nat,σ'=[some (.int (d:Nat)),some (.int (f:Nat)),some (.int (m:Nat)),some (.int (t:Nat)),none]/\SqS d f m t) _ ⟨rfl,f,rfl,h⟩ ?_
      rintro l2 σ' H'' ⟨rfl,f2,rfl,h2⟩
      have lf2:=h2.small
      contradiction
      rw [e1]
      refine⟨Aav (by omega),by omega,?_⟩
      rw [<-Int.natCast_emod]
      by_cases hd:l2%(t*t)=0
      . rw [if_pos (show((l2%(t*t):Nat):Int)=0 by omega)]
        refine Acy ?_
        obtain⟨h3,lt3⟩:=h2.inner hd
        contradiction
        rw [e1]
        refine⟨Aav (by omega),Adn (by omega) tt0 _,Aav (by omega),_,lt3,f2*t,?_,h3⟩
        rw [Int.natCast_mul f2 t,Int.natCast_ediv]
      . rw [if_neg (show ¬((l2%(t*t):Nat):Int)=0 by omega)]
        exact hM _ _ ⟨rfl,f2,l2,rfl,h2,hd⟩
    clear h lf
    rintro _ _ ⟨rfl,f,l,rfl,h,hn⟩
    have h3:=h.step hn
    have lf:=h.small
    contradiction
    rw [<-Int.natCast_emod]
    refine⟨by omega,?_⟩
    by_cases hd:l%t=0
    . rw [if_pos (show((l%t:Nat):Int)=0 by omega)]
      rw [if_pos hd]at h3
      refine⟨Adn (by omega) (by omega) _,_,?_,f,l/t,t+1,?_,rfl,by omega,h3⟩
      . omega
      . rw [Int.natCast_ediv,Int.natCast_add]
        rfl
    . rw [if_neg (show ¬((l%t:Nat):Int)=0 by omega)]
      rw [if_neg hd]at h3
      refine⟨_,?_,f,l,t+1,?_,rfl,by omega,h3⟩
      . omega
      . rw [Int.natCast_add]
        rfl
  . rw [if_neg (show ¬((t*t*t:Nat):Int)<=(l:Nat)by omega)]
    try contradiction
    refine⟨_,rfl,by omega,(show Sz 41 ((l:Nat):Int)by unfold Sz;omega).mono (by decide),fun r r0 _ h1 h2=> ?_⟩
    obtain⟨n,rfl⟩:=Int.eq_ofNat_of_zero_le r0
    have e3:((n:Nat):Int)*(n:Nat)=((n*n:Nat):Int):=by rw [Int.natCast_mul]
    have e4:(((n:Nat):Int)+1)*((n:Nat)+1)=(((n+1)*(n+1):Nat):Int):=by
      rw [Int.natCast_mul,Int.natCast_add]
      rfl
    rw [e3]at h1
    rw [e4]at h2
    obtain⟨m,sf,m0,em,p0⟩:=h.last (by omega) (r0:=n) (by omega) (by omega)
    have nl:n<=l:=by
      have:n*1<=n*n\/n=0:=by
        by_cases z:n=0
        . exact .inr z
        . exact .inl (Nat.mul_le_mul_left n (by omega))
      omega
    try contradiction
    rw [e3]
    refine⟨Aav (by omega),?_⟩
    have kk:=k _ m em sf p0 m0
    by_cases hq:n*n=l
    . rw [if_pos (show((n*n:Nat):Int)=(l:Nat)by omega)]
      rw [if_pos hq]at kk
      refine⟨Aav (by omega),?_⟩
      rw [<-Int.natCast_mul]
      exact kk
    . rw [if_neg (show ¬((n*n:Nat):Int)=(l:Nat)by omega)]
      rw [if_neg hq]at kk
      exact kk
def tot:List (Int × Rat)->Int->Rat
  | [],_=>0
  | e::r,i=>(if e.1=i then e.2 else 0)+tot r i
theorem Tg (e:Int × Rat) (i:Int):∀ts:List (Int × Rat),tot (ts++ [e]) i=tot ts i+(if e.1=i then e.2 else 0)
  | []=>by
    show(if e.1=i then e.2 else 0)+0=0+(if e.1=i then e.2 else 0)
    grind
  | x::r=>by
    show(if x.1=i then x.2 else 0)+tot (r++ [e]) i=(if x.1=i then x.2 else 0)+tot r i+(if e.1=i then e.2 else 0)
    rw [Tg e i r]
    grind
theorem Lr (i:Int):∀ts us:List (Int × Rat),tot (ts++us) i=tot ts i+tot us i
  | [],us=>by
    show tot us i=0+tot us i
    grind
  | x::r,us=>by
    show(if x.1=i then x.2 else 0)+tot (r++us) i=(if x.1=i then x.2 else 0)+tot r i+tot us i
    rw [Lr i r us]
    grind
theorem Lz {i:Int}:∀ {ts:List (Int × Rat)},(∀e∈ts,e.1≠i)->tot ts i=0
  | [],_=>rfl
  | x::r,h=>by
    show(if x.1=i then x.2 else 0)+tot r i=0
    rw [if_neg (h x (by simp)),Lz fun e he=>h e (by simp [he])]
    grind
theorem Szq.zero {n:Nat} (h:1<=n):Szq n 0:=⟨by
  show Sz n 0
  unfold Sz
  exact Nat.two_pow_pos n,by
  show Sz n ((1:Nat):Int)
  unfold Sz
  exact Nat.one_lt_two_pow (by omega)⟩
def Rt (n:Nat) (K:PySem.W.Frag) (H:Hp) (v:V) (e:Int × Rat):Prop:=∃a x,v= .ref a/\SqT K H a [.int e.1,x]/\IsQ K H x e.2/\Szq n e.2
theorem Rt.mono {n:Nat}{H H':Hp}{v:V}{e:Int × Rat} (h:Rt n K H v e) (s:Same H H'):Rt n K H' v e:=by
  obtain⟨a,x,rfl,h1,h2,h3⟩:=h
  exact⟨a,x,rfl,s.tup h1,h2.mono s,h3⟩
def kof (kvs:List (Key × V)) (ks:List Int):Prop:=kvs.map (·.1)=ks.map Sum.inl
structure DcI (K:PySem.W.Frag) (H:Hp) (l:Addr) (kvs:List (Key × V)) (ks:List Int) (ts:List (Int × Rat)):Prop where
  it:H l=some (.dK kvs)
  ky:kof kvs ks
  nd:ks.Nodup
  le:ks.length<=ts.length
  mem:∀i,i∈ks↔ ∃e∈ts,e.1=i
  vl:∀i v,Hz kvs (.inl i)=some v->IsQ K H v (tot ts i)
theorem DcI.hasNo {H:Hp}{l:Addr}{kvs:List (Key × V)}{ks:List Int}{ts:List (Int × Rat)} (h:DcI K H l kvs ks ts) {i:Int} (hn:Hz kvs (.inl i)=none):tot ts i=0/\¬i∈ks:=by
  have a:¬i∈ks:=fun m=>Yb hn (by
    have e:=h.ky
    unfold kof at e
    rw [e]
    exact List.mem_map.mpr ⟨i,m,rfl⟩)
  exact⟨Lz fun e he ei=>a ((h.mem i).mpr ⟨e,he,ei⟩),a⟩
theorem DcI.has {H:Hp}{l:Addr}{kvs:List (Key × V)}{ks:List Int}{ts:List (Int × Rat)} (h:DcI K H l kvs ks ts) {i:Int} (hi:i∈ks):∃v,Hz kvs (.inl i)=some v/\IsQ K H v (tot ts i):=by
  cases e:Hz kvs (.inl i)with
  | none=>exact absurd hi (h.hasNo e).2
  | some v=>exact⟨v,rfl,h.vl i v e⟩
theorem Abh {H:Hp}{a l:Addr}{xs:List V}{kvs:List (Key × V)}{o:HO} (h:SqT K H a xs) (hl:H l=some (.dK kvs)):SqT K (upd H l o) a xs:=by
  rcases h with(h | ⟨u,h⟩) | h
  . refine .inl (.inl ?_)
    rw [Bs (by rintro rfl;rw [hl]at h;cases h)]
    exact h
  . refine .inl (.inr ⟨u,?_⟩)
    rw [Bs (by rintro rfl;rw [hl]at h;cases h)]
    exact h
  . exact .inr h
theorem IsQ.putD {H:Hp}{l:Addr}{v:V}{q:Rat}{kvs:List (Key × V)}{o:HO} (h:IsQ K H v q) (hl:H l=some (.dK kvs)):IsQ K (upd H l o) v q:=by
  obtain⟨a,e,t⟩:=h
  exact⟨a,e,Abh t hl⟩
theorem V7 {kvs:List (Key × V)}{k:Key}{v w:V} (h:Hz kvs k=some w):(putK kvs k v).map (·.1)=kvs.map (·.1):=by
  unfold putK
  rw [Gv,h,Option.isSome_some,if_pos rfl,List.map_map]
  refine List.map_congr_left fun p _=> ?_
  show(if p.1=k then(p.1,v)else p).1=p.1
  split<;>rfl
theorem DcI.mono {H H':Hp}{l:Addr}{kvs:List (Key × V)}{ks:List Int}{ts:List (Int × Rat)} (h:DcI K H l kvs ks ts) (s:Same H H'):DcI K H' l kvs ks ts:=⟨s _ _ h.it,h.ky,h.nd,h.le,h.mem,fun i v e=>(h.vl i v e).mono s⟩
theorem DcI.put {H:Hp}{l:Addr}{kvs:List (Key × V)}{ks:List Int}{ts:List (Int × Rat)} (h:DcI K H l kvs ks ts) {d:Int}{c:Rat}{v:V} (hv:IsQ K H v (tot ts d+c)):∃ks',DcI K (upd H l (.dK (putK kvs (.inl d) v))) l (putK kvs (.inl d) v) ks' (ts++ [(d,c)]):=by
  have vl:∀i u,Hz (putK kvs (.inl d) v) (.inl i)=some u->IsQ K (upd H l (.dK (putK kvs (.inl d) v))) u (tot (ts++ [(d,c)]) i):=fun i u e=>by
    rw [Yr]at e
    rw [Tg]
    by_cases hi:i=d
    . subst hi
      rw [if_pos rfl]at e
      cases e
      rw [if_pos rfl]
      exact hv.putD h.it
    . rw [if_neg (fun z=>hi (Sum.inl.inj z))]at e
      rw [if_neg (fun z:d=i=>hi z.symm)]
      have e0:tot ts i+0=tot ts i:=by grind
      rw [e0]
      exact(h.vl i u e).putD h.it
  cases e:Hz kvs (.inl d)with
  | none=>
    have ek:kof (putK kvs (.inl d) v) (ks++ [d]):=by
      have:=h.ky
      unfold kof at*
      rw [Yq v e,List.map_append,List.map_append,this]
      rfl
    refine⟨ks++ [d],Ar,ek,Vu h.nd (h.hasNo e).2,by have:=h.le;simp;omega,fun i=> ?_,vl⟩
    rw [List.mem_append,h.mem i]
    constructor
    . rintro(⟨x,hx,rfl⟩ | hx)
      . exact⟨x,by simp [hx],rfl⟩
      . have:i=d:=by simpa using hx
        exact⟨(d,c),by simp,this.symm⟩
    . rintro⟨x,hx,rfl⟩
      rcases List.mem_append.mp hx with hx | hx
      . exact .inl ⟨x,hx,rfl⟩
      . have:x=(d,c):=by simpa using hx
        exact .inr (by rw [this];simp)
  | some w=>
    have dk:d∈ks:=by
      have m:=Aa9 e
      have ky:=h.ky
      unfold kof at ky
      rw [ky]at m
      obtain⟨j,hj,ej⟩:=List.mem_map.mp m
      cases ej
      exact hj
    have ek:kof (putK kvs (.inl d) v) ks:=by
      have:=h.ky
      unfold kof at*
      rw [V7 e,this]
    refine⟨ks,Ar,ek,h.nd,by have:=h.le;simp;omega,fun i=> ?_,vl⟩
    rw [h.mem i]
    constructor
    . rintro⟨x,hx,rfl⟩
      exact⟨x,by simp [hx],rfl⟩
    . rintro⟨x,hx,rfl⟩
      rcases List.mem_append.mp hx with hx | hx
      . exact⟨x,hx,rfl⟩
      . have ex:x=(d,c):=by simpa using hx
        rw [ex]
        exact(h.mem d).mp dk
structure NF (ts R:List (Int × Rat)):Prop where
  up:R.Pairwise fun a b=>a.1<b.1
  mem:∀e,e∈R↔e.2=tot ts e.1/\e.2≠0
theorem V1:∀ {R S:List (Int × Rat)},(R.Pairwise fun a b=>a.1<b.1)->(S.Pairwise fun a b=>a.1<b.1)->(∀e,e∈R↔e∈S)->R=S
  | [],[],_,_,_=>rfl
  | [],b::S,_,_,h=>by
    have:=(h b).mpr (by simp)
    simp at this
  | a::R,[],_,_,h=>by
    have:=(h a).mp (by simp)
    simp at this
  | a::R,b::S,h1,h2,h=>by
    obtain⟨a1,a2⟩:=List.pairwise_cons.mp h1
    obtain⟨b1,b2⟩:=List.pairwise_cons.mp h2
    have e:a=b:=by
      rcases List.mem_cons.mp ((h a).mp (by simp))with e | e
      . exact e
      . rcases List.mem_cons.mp ((h b).mpr (by simp))with e' | e'
        . exact e'.symm
        . have:=b1 a e
          have:=a1 b e'
          omega
    subst e
    rw [V1 a2 b2 fun x=> ?_]
    constructor
    . intro hx
      rcases List.mem_cons.mp ((h x).mp (by simp [hx]))with e | e
      . have:=a1 x hx
        rw [e]at this
        omega
      . exact e
    . intro hx
      rcases List.mem_cons.mp ((h x).mpr (by simp [hx]))with e | e
      . have:=b1 x hx
        rw [e]at this
        omega
      . exact e
theorem NF.uniq {ts us R S:List (Int × Rat)} (a:NF ts R) (b:NF us S) (e:∀i,tot ts i=tot us i):R=S:=
  V1 a.up b.up fun x=>by rw [a.mem,b.mem,e]
theorem NF.make {ts:List (Int × Rat)}{ks ms:List Int} (nd:ks.Nodup) (mem:∀i,i∈ks↔ ∃e∈ts,e.1=i) (pm:ms.Perm ks) (up:ms.Pairwise (· <= ·)):NF ts ((ms.filter fun i=>decide (tot ts i≠0)).map fun i=>(i,tot ts i)):=by
  have nm:ms.Nodup:=pm.nodup_iff.mpr nd
  have lt:ms.Pairwise (· < ·):=by
    have:=List.Pairwise.and up nm
    exact this.imp fun⟨h1,h2⟩=>by omega
  refine⟨?_,fun e=> ?_⟩
  . rw [List.pairwise_map]
    exact lt.filter _
  . rw [List.mem_map]
    constructor
    . rintro⟨i,hi,rfl⟩
      have:=(List.mem_filter.mp hi).2
      exact⟨rfl,by simpa using this⟩
    . rintro⟨h1,h2⟩
      refine⟨e.1,List.mem_filter.mpr ⟨pm.mem_iff.mpr ((mem e.1).mpr ?_),by rw [<-h1];simpa using h2⟩,by rw [<-h1]⟩
      refine Classical.byContradiction fun z=>h2 ?_
      rw [h1]
      exact Lz fun x hx ex=>z ⟨x,hx,ex⟩
def Hh (K:PySem.W.Frag):Sp:=fun vs H Q _=>∃(a:Addr) (es:List (V × (Int × Rat))) (n:Nat),vs=[.ref a]/\SqT K H a (es.map (·.1))/\(∀e∈es,Rt n K H e.1 e.2)/\es.length<=64/\∀z H',Same H H'->H' z=some (.lst ((es.filter fun e=>decide (1<e.2.1)).map (·.1)))->Q (.ref z) H'
theorem Ss {f:Addr}{fd:FuncData} (F:Df K mg "roots_in" Ir ["one"] f fd)    :Cal P w K mg base 1 "roots_in" ["one"] (Hh K):=by
  refine F.cal (F.fn.ok Rq (fun vs H Q E h=> ?_) (fun cdv A outer s H vs Q E hr h=> ?_))
  . obtain⟨a,es,n,rfl,_⟩:=h
    rfl
  obtain⟨a,es,n,rfl,ha,he,hl,k⟩:=h
  refine S.Bj ⟨_,(S.Ae (S.Al (S.Ge (ts:=["term"]) (fs:=[]) rfl (Bt.of (sc:=Ag Ir) (N:=["one"]) rfl rfl (by decide+kernel)) (S.Kz (S.pv 0)) (fun _ _ _=>(S.Aq (i:=0) (show List.Nodup (["term"]:List Str)by decide+kernel) rfl (Or.inl rfl))) (fun _ _ _=>(S.Ij (S.Ah P0 (S.Ay (M5 K) (S.pv 0) S.Ab (fun _ _=>rfl)) S.Ab (Aj _)))) (fun _ _ _=>(S.pv 0))))),?_⟩
  contradiction
  refine⟨⟨_,ha⟩,fun p1 hp1=>Ec (es:=es) (inj:=(·.1)) (fun e=>decide (1<e.2.1)) (·.1) (Nat.le_trans hl (by decide)) hp1 (M4 ha) ?_ ?_⟩
  . intro e H2 R RF hm s2 hR hF
    obtain⟨b,x,eb,h1,h2,h3⟩:=(he e hm).mono s2
    contradiction
    rw [eb]
    refine Bf h1 (at0 _ _) ?_
    try contradiction
    by_cases hc:1<e.2.1
    . rw [if_pos hc]
      rw [<-eb]
      exact hR (by simpa using hc) _ (Same.refl _)
    . rw [if_neg hc]
      exact hF (by simpa using hc) _ (Same.refl _)
  intro H2 s2 h2
  exact k _ _ s2 h2
theorem Lb {H:Hp}{a l:Addr}{xs ys:List V}{o:HO} (h:SqT K H a xs) (hl:H l=some (.lst ys)):SqT K (upd H l o) a xs:=by
  rcases h with(h | ⟨u,h⟩) | h
  . refine .inl (.inl ?_)
    rw [Bs (by rintro rfl;rw [hl]at h;cases h)]
    exact h
  . refine .inl (.inr ⟨u,?_⟩)
    rw [Bs (by rintro rfl;rw [hl]at h;cases h)]
    exact h
  . exact .inr h
theorem Abr (q:Rat):decide ([q.num,(q.den:Int)]=[0,1])= !decide (q≠0):=by
  by_cases h:q=0
  . subst h
    rfl
  . have:¬ [q.num,(q.den:Int)]=[0,1]:=fun z=>h (by
      have hn:q.num=0:=by
        have:=congrArg (·.head?) z
        simpa using this
      exact Rat.num_eq_zero.mp hn)
    rw [decide_eq_false this,decide_eq_true h]
    rfl
def rD (e:Int × Rat):PyData:= .tuple [.int e.1,.tuple [.int e.2.num,.int (e.2.den:Int)]]
theorem Rt.rd {n:Nat}{H:Hp}{v:V}{e:Int × Rat} (h:Rt n K H v e):RdD K H v (rD e):=by
  obtain⟨a,x,rfl,h1,⟨b,rfl,h2⟩,_⟩:=h
  exact .tup h1 (.cons (.int _) (.cons (RdD.ints (ns:=[e.2.num,(e.2.den:Int)]) h2) .nil))
theorem W6 {n:Nat}{H:Hp}:∀ {es:List (V × (Int × Rat))},(∀e∈es,Rt n K H e.1 e.2)->Rh K H (es.map (·.1)) (es.map fun e=>rD e.2)
  | [],_=> .nil
  | e::r,h=> .cons (h e (by simp)).rd (W6 fun x hx=>h x (by simp [hx]))
theorem Zy:∀R:List (Int × Rat),PyData.canLayAll0 (R.map rD)=true
  | []=>by simp [PyData.canLayAll0]
  | e::r=>by
    rw [List.map_cons,PyData.canLayAll0,Zy r]
    simp [rD,PyData.canLay0,PyData.canLayAll0]
theorem Zu:∀R:List (Int × Rat),PyData.depthAll (R.map rD)<=5
  | []=>by simp [PyData.depthAll]
  | e::r=>by
    rw [List.map_cons]
    have:=Zu r
    simp [rD,PyData.depthAll,PyData.depth]
    omega
theorem Acs (R:List (Int × Rat)):SeqAt.shaped (.tuple (R.map rD))=true:=by
  have h1:=Zy R
  have h2:=Zu R
  simp [SeqAt.shaped,PyData.canLay0,PyData.depth,h1]
  omega
theorem Ip {n:Nat}{H:Hp}{a b:Addr}{es:List (V × (Int × Rat))}{Q:VK}{g:Bool->Bool} (ha:SqT K H a (es.map (·.1))) (h:∀e∈es,Rt n K H e.1 e.2) (hb:SqT K H b []) (q:Q (.bl (g (decide (es=[])))) H):Abz K g (.ref a) (.ref b) H Q:=by
  have ed:(es.map fun e=>rD e.2)=(es.map (·.2)).map rD:=by rw [List.map_map];rfl
  refine⟨.tuple (es.map fun e=>rD e.2),.tuple [],.tup ha (W6 h),.tup hb .nil,by rw [ed];exact Acs _,by decide,?_⟩
  have e:PyData.eqv (.tuple (es.map fun e=>rD e.2)) (.tuple [])=decide (es=[]):=by
    rw [PyData.eqv]
    cases es with
    | nil=>simp [PyData.eqvAll]
    | cons d r=>simp [PyData.eqvAll]
  rw [e]
  exact q
def big (R:List (Int × Rat)):Nat:=(R.filter fun e=>decide (1<e.1)).length
def cnt (ts:List (Int × Rat)) (i:Int):Nat:=(ts.filter fun e=>decide (e.1=i)).length
theorem cnt_append (ts us:List (Int × Rat)) (i:Int):cnt (ts++us) i=cnt ts i+cnt us i:=by
  unfold cnt
  rw [List.filter_append,List.length_append]
theorem Aaf (ts:List (Int × Rat)) (i:Int):cnt ts i<=ts.length:=List.length_filter_le _ _
theorem Rx {n:Nat} (n1:1<=n) (i:Int):∀ {ts:List (Int × Rat)},(∀e∈ts,Szq n e.2)->Szq ((n+1)*cnt ts i+1) (tot ts i)
  | [],_=>Szq.zero (by omega)
  | x::r,h=>by
    have a:=Rx n1 i (ts:=r) fun e he=>h e (by simp [he])
    show Szq _ ((if x.1=i then x.2 else 0)+tot r i)
    unfold cnt at a ⊢
    by_cases hx:x.1=i
    . rw [if_pos hx,List.filter_cons_of_pos (by simpa using hx),List.length_cons]
      refine((h x (by simp)).add a).mono ?_
      rw [Nat.mul_add]
      omega
    . rw [if_neg hx,List.filter_cons_of_neg (by simpa using hx),Rat.zero_add]
      exact a
def Too (R:List (Int × Rat)):Prop:=3<big R\/∃e∈R,1000000000000<e.1
structure Rs (K:PySem.W.Frag) (H:Hp) (z:Addr) (fs:List (V × (Int × Rat))) (n:Nat) (ts:List (Int × Rat)):Prop where
  it:SqT K H z (fs.map (·.1))
  al:∀e∈fs,Rt n K H e.1 e.2
  nf:NF ts (fs.map (·.2))
  le:fs.length<=ts.length
def Gx (K:PySem.W.Frag):Sp:=fun vs H Q E=>∃(l:Addr) (es:List (V × (Int × Rat))) (n m:Nat),vs=[.ref l]/\(SqL K H l (es.map (·.1))\/SqT K H l (es.map (·.1)))/\(∀e∈es,Rt n K H e.1 e.2)/\es.length<=20/\1<=n/\(∀i,cnt (es.map (·.2)) i<=m)/\(n+1)*m+1+n<=8000/\
  (∀R,NF (es.map (·.2)) R->R.length<=es.length->Too R->∀H',Same H H'->E (.ref (cA K "TooGreat")) none H')/\
  (∀R,NF (es.map (·.2)) R->R.length<=es.length->¬Too R->∀z H' fs,Same H H'->Rs K H' z fs ((n+1)*m+1) (es.map (·.2))->Q (.ref z) H')
def Nh (K:PySem.W.Frag):Sp:=fun vs H Q _=>∃(l:Addr) (es:List (V × (Int × Rat))) (n m:Nat),vs=[.ref l]/\(SqL K H l (es.map (·.1))\/SqT K H l (es.map (·.1)))/\(∀e∈es,Rt n K H e.1 e.2)/\es.length<=20/\1<=n/\(∀i,cnt (es.map (·.2)) i<=m)/\(n+1)*m+1+n<=8000/\
  (∀R,NF (es.map (·.2)) R->R.length<=es.length->¬Too R)/\∀z H' fs,Same H H'->Rs K H' z fs ((n+1)*m+1) (es.map (·.2))->Q (.ref z) H'
theorem O6 (K:PySem.W.Frag):∀vs H Q E,Nh K vs H Q E->Gx K vs H Q E0:=by
  rintro vs H Q E ⟨l,es,n,m,rfl,hl,he,h20,n1,hc,hn,no,k⟩
  exact⟨l,es,n,m,rfl,hl,he,h20,n1,hc,hn,fun R nf hr too=>(no R nf hr too).elim,fun _ _ _ _=>k⟩
theorem Adu {α:Type}{H0 H:Hp}{l:Addr}{es:List α}{inj:α->V}{g:TG}{tb:TS}{D:Ends}{σ:St} (h:SqL K H0 l (es.map inj)\/SqT K H0 l (es.map inj)) (s:Same H0 H) (k:∀J,(∀H',Same H0 H'->Abx J H' es inj)->FI J g tb D σ H):(∃xs,SqL K H l xs)/\FI (Itl K l) g tb D σ H\/(∃xs,SqT K H l xs)/\FI (Itt K l) g tb D σ H:=
  h.imp (fun h=>⟨⟨_,s.seq h⟩,k _ fun _ s=>K3 (s.seq h)⟩) (fun h=>⟨⟨_,s.tup h⟩,k _ fun _ s=>O9 (s.tup h)⟩)
theorem R7 {f:Addr}{fd:FuncData} (F:Df K mg "added_up" Iu ["terms"] f fd) (z_tuple:mg "tuple"=none) (z_len:mg "len"=none) (z_sorted:mg "sorted"=none) (xc_MOST_ROOTS:∃u,mg "MOST_ROOTS"=some u/\RelV (V.int 3) u) (xc_GREATEST:∃u,mg "GREATEST"=some u/\RelV (V.int 1000000000000) u) (xk_TooGreat:Aba K (cA K "TooGreat")) (xm_TooGreat:mg "TooGreat"=some (.ref (cA K "TooGreat"))) (c_plus:Cal P w K mg base 3 "plus" ["one","other"] (La K)) (c_roots_in:Cal P w K mg base 1 "roots_in" ["one"] (Hh K)):X4 P w K mg base 4 "added_up" ["terms"] (Gx K):=by
  refine F.calE (F.fn.okE Gb (fun vs H Q E h=> ?_) (fun cdv A outer s H vs Q E hr h=> ?_))
  . obtain⟨l,es,n,m,rfl,_⟩:=h
    rfl
  obtain⟨l,es,n,m,rfl,hl,he,h20,n1,hc,hn,kE,kQ⟩:=h
  refine S.Bj ⟨_,(S.Ad (S.Ai (i:=1) Gb.nd rfl (Or.inr rfl) S.Rb)
      (S.Ad (S.Ab2 (S.Gw PassesOwn.never rfl (S.Wc (S.pv 0)) (S.Cr rfl (S.Ao (S.Aq (i:=3) Gb.nd rfl (Or.inl rfl)) (S.Ao (S.Aq (i:=4) Gb.nd rfl (Or.inl rfl)) S.Bq))) (S.Ae (S.Sw (hu1 hr.units) (S.pv 1) (S.pv 3) (S.Aw c_plus (hr.mono (by decide)) (S.Aa (S.Om (hu1 hr.units) (S.pv 1) (S.pv 3) (S.Av (S.Aa S.Ab (S.Aa S.Ab S.Ac))) ⟨rfl,rfl,rfl,rfl⟩) (S.Aa (S.pv 4) S.Ac))) rfl))))
      (S.Ad (S.Ai (i:=2) Gb.nd rfl (Or.inl rfl) (S.Gs Eb rfl z_tuple PyProof.Rows.boot_tuple (S.Aa (S.Ge (ts:=["d"]) (fs:=[(1,"sums")]) rfl (Bt.of (sc:=Ag Iu) (N:=["terms","sums","found","d","c"]) rfl rfl (by decide+kernel)) (S.Ld (S.Bo (Uo rfl) rfl z_sorted PyProof.Rows.boot_sorted (S.Aa (S.pv 1) S.Ac))) (fun _ _ _=>(S.Aq (i:=0) (show List.Nodup (["d","sums"]:List Str)by decide+kernel) rfl (Or.inl rfl))) (fun _ _ _=>(S.Ij (S.Ah (Aa8 K hr.units) (S.O5 (hu1 hr.units) (S.pv 1) (S.pv 0) (fun _ _=>rfl)) (S.Av (S.Aa S.Ab (S.Aa S.Ab S.Ac))) (Aj _)))) (fun _ _ _=>(S.Av (S.Aa (S.pv 0) (S.Aa (S.O5 (hu1 hr.units) (S.pv 1) (S.pv 0) (fun _ _=>rfl)) S.Ac))))) S.Ac)))
      (S.Ad (S.Bm (S.Ah P0 (S.Bo Bb rfl z_len PySem.boot_len (S.Aa (S.Aw c_roots_in (hr.mono (by decide)) (S.Aa (S.pv 2) S.Ac)) S.Ac)) (S.K6 (v:= .int 3) rfl xc_MOST_ROOTS) (Aj _)) (S.Ae (S.Gy xk_TooGreat xm_TooGreat (S.Aa S.N5 S.Ac))) S.Ax)
      (S.Ad (S.Bm (S.Hw (S.Qx (S.Ah (Nb hr.units) (S.pv 2) (S.Av S.Ac) (Aj _)) (S.Nk (S.Ah P0 (S.Ay Ak (S.Ay Ak (S.pv 2) (S.Jj G6 S.Ab) (fun _ _=>rfl)) S.Ab (fun _ _=>rfl)) (S.K6 (v:= .int 1000000000000) rfl xc_GREATEST) (Aj _))))) (S.Ae (S.Gy xk_TooGreat xm_TooGreat (S.Aa S.N5 S.Ac))) S.Ax)
      (S.Ae (S.Al (S.pv 2)))))))),?_⟩
  refine Am (fun σ' H'=>Same H H'/\∃t,H t=none/\σ'=[some (.ref l),some (.ref t),none,none,none]/\DcI K H' t [] [] []) (fun M hM=> ?_) ?_
  . contradiction
    intro t ht
    exact hM _ _ ⟨Same.upd ht _,t,ht,rfl,Ar,rfl,List.nodup_nil,Nat.le_refl _,by simp,by simp [Hz]⟩
  rintro σ H1 ⟨s1,t,nt,rfl,d0⟩
  refine Am (fun σ' H'=>Same H H'/\∃(kvs:List (Key × V)) (ks:List Int) (o3 o4:Option V),σ'=[some (.ref l),some (.ref t),none,o3,o4]/\DcI K H' t kvs ks (es.map (·.2))) (fun M hM=> ?_) ?_
  . contradiction
    refine Adu hl s1 fun J hJ=>Qe (es:=es) (inj:=(·.1)) (fun pre σ' H'=>Same H H'/\∃(kvs:List (Key × V)) (ks:List Int) (o3 o4:Option V),σ'=[some (.ref l),some (.ref t),none,o3,o4]/\DcI K H' t kvs ks (pre.map (·.2))) ⟨s1,[],[],_,_,rfl,d0⟩ ?_ ?_ ?_
    . rintro pre σ' H' ⟨s2,_⟩
      exact hJ _ s2
    . rintro pre e post σ' H' hE ⟨s2,kvs,ks,o3,o4,rfl,di⟩
      have em:e∈es:=by rw [hE];simp
      obtain⟨b,x,eb,hb,hx,zx⟩:=(he e em).mono s2
      have pl:pre.length<es.length:=by rw [hE];simp
      have cm:cnt (pre.map (·.2)) e.2.1+1<=m:=by
        refine Nat.le_trans ?_ (hc e.2.1)
        rw [hE,List.map_append,cnt_append,List.map_cons]
        unfold cnt
        rw [List.filter_cons_of_pos (by simp),List.length_cons]
        omega
      have nm:(n+1)*(cnt (pre.map (·.2)) e.2.1+1)<=(n+1)*m:=Nat.mul_le_mul_left _ cm
      rw [Nat.mul_add]at nm
      have zt:=Rx n1 e.2.1 (ts:=pre.map (·.2)) fun y hy=>by
        obtain⟨y',hy',rfl⟩:=List.mem_map.mp hy
        obtain⟨_,_,_,_,_,z⟩:=he y' (by rw [hE];simp [hy'])
        exact z
      rw [eb]
      refine Ck hb ?_
      contradiction
      refine⟨.inl ⟨kvs,.inl di.it⟩,fun p0 hp0=> ?_⟩
      have sp:=Same.upd hp0 (.tup [V.int 0,V.int 1])
      have gp:upd H' p0 (.tup [V.int 0,V.int 1]) p0=some (.tup [V.int 0,V.int 1]):=Ar
      generalize upd H' p0 (.tup [V.int 0,V.int 1])=H2 at sp gp
      have di2:=di.mono sp
      refine⟨_,Ad1 di2.it,?_⟩
      have iq:IsQ K H2 ((Hz kvs (.inl e.2.1)).getD (.ref p0)) (tot (pre.map (·.2)) e.2.1):=by
        cases e0:Hz kvs (.inl e.2.1)with
        | none=>
          rw [(di2.hasNo e0).1]
          exact⟨p0,rfl,.of gp⟩
        | some w=>exact di2.vl _ w e0
      refine⟨_,_,_,_,_,_,rfl,iq,hx.mono sp,zt,zx,by omega,fun z H3 s3 iz=> ?_⟩
      have di3:=di2.mono s3
      obtain⟨ks',di4⟩:=di3.put (c:=e.2.2) iz
      refine⟨t,_,rfl,Ad6 di3.it ?_,?_⟩
      . have e1:=congrArg List.length di3.ky
        rw [List.length_map,List.length_map]at e1
        have:=di3.le
        rw [List.length_map]at this
        rw [e1]
        exact Nat.lt_of_le_of_lt (show ks.length<=20 by omega) (by decide)
      . refine⟨((s2.trans sp).trans s3).put nt,putK kvs (.inl e.2.1) z,ks',_,_,rfl,?_⟩
        rw [List.map_append]
        exact di4
    . rintro σ' H' ⟨s2,kvs,ks,o3,o4,rfl,di⟩
      exact hM _ _ ⟨s2,kvs,ks,o3,o4,rfl,di⟩
  clear d0 s1
  rintro σ H2 ⟨s2,kvs,ks,o3,o4,rfl,di⟩
  contradiction
  have l8:ks.length<=20:=by
    have:=di.le
    rw [List.length_map]at this
    omega
  refine⟨t,kvs,ks,rfl,di.it,di.ky,by omega,fun l3 ms n3 pm up=> ?_⟩
  have s3:=Same.upd n3 (.lst (ms.map V.int))
  have g3:upd H2 l3 (.lst (ms.map V.int)) l3=some (.lst (ms.map V.int)):=Ar
  generalize upd H2 l3 (.lst (ms.map V.int))=H3 at s3 g3
  have di3:=di.mono s3
  have nf:=NF.make (ts:=es.map (·.2)) di.nd di.mem pm up
  have ml:ms.length<=20:=by rw [pm.length_eq];exact l8
  have zall:∀i,Szq ((n+1)*m+1) (tot (es.map (·.2)) i):=fun i=>(Rx n1 i fun y hy=>by
    obtain⟨y',hy',rfl⟩:=List.mem_map.mp hy
    obtain⟨_,_,_,_,_,z⟩:=he y' hy'
    exact z).mono (Nat.add_le_add_right (Nat.mul_le_mul_left _ (hc i)) 1)
  refine⟨⟨_,.of g3⟩,fun p4 n4=>Mw (es:=ms) (inj:=V.int) (fun i=>decide (tot (es.map fun e:V × (Int × Rat)=>e.2) i≠0)) (fun i v H'=>Rt (((n+1)*m+1)) K H' v (i,tot (es.map fun e:V × (Int × Rat)=>e.2) i)) (fun _ _ _ _ h s=>h.mono s) ?_ (Nat.le_trans ml (by decide)) n4 (W2 (.of g3)) ?_ ?_⟩
  . rintro i v Hx ys zs ⟨a,x,rfl,h1,⟨b,rfl,h2⟩,h3⟩ hp
    exact⟨a,_,rfl,Lb h1 hp,⟨b,rfl,Lb h2 hp⟩,h3⟩
  . intro i H4 R RF hi s4 hR hF
    obtain⟨v,hv,iv⟩:=(di3.mono s4).has (pm.mem_iff.mp hi)
    obtain⟨b,rfl,hb⟩:=id iv
    contradiction
    refine⟨t,_,rfl,Acx (di3.mono s4).it hv,fun p5 n5=> ?_⟩
    have s5:=Same.upd n5 (.tup [V.int 0,V.int 1])
    refine Tq (ns:=[_,_]) (ms:=[0,1]) (s5.tup hb) (.of Ar) ?_
    have eq:decide ([(tot (es.map (·.2)) i).num,((tot (es.map (·.2)) i).den:Int)]=[0,1])= !decide (tot (es.map (·.2)) i≠0):=Abr _
    rw [eq]
    generalize upd H4 p5 (.tup [V.int 0,V.int 1])=H5 at s5
    by_cases h0:tot (es.map (·.2)) i≠0
    . rw [decide_eq_true h0]
      try contradiction
      refine⟨t,_,rfl,Acx ((di3.mono s4).mono s5).it hv,fun p6 n6=> ?_⟩
      have s6:=Same.upd n6 (.tup [V.int i,.ref b])
      exact hR (decide_eq_true h0) _ _ (s5.trans s6) ⟨p6,_,rfl,.of Ar,(iv.mono s5).mono s6,zall i⟩
    . rw [decide_eq_false h0]
      try contradiction
      exact hF (decide_eq_false h0) _ s5
  intro H4 vs s4 h4 e4 r4
  have ef:vs.map (fun x=>(x.1,((x.2,tot (es.map (·.2)) x.2):Int × Rat)))=vs.map (fun x=>(x.1,((x.2,tot (es.map (·.2)) x.2):Int × Rat))):=rfl
  generalize hfs:vs.map (fun x=>(x.1,((x.2,tot (es.map (·.2)) x.2):Int × Rat)))=fs at ef
  clear ef
  have f1:fs.map (·.1)=vs.map (·.1):=by rw [<-hfs,List.map_map];rfl
  have f2:fs.map (·.2)=(ms.filter fun i=>decide (tot (es.map (·.2)) i≠0)).map fun i=>(i,tot (es.map (·.2)) i):=by
    rw [<-e4,<-hfs,List.map_map,List.map_map]
    rfl
  have f3:∀e∈fs,Rt (((n+1)*m+1)) K H4 e.1 e.2:=fun e hm=>by
    rw [<-hfs]at hm
    obtain⟨x,hx,rfl⟩:=List.mem_map.mp hm
    exact r4 x hx
  have f4:fs.length<=(es.map (·.2)).length:=by
    have h1:=congrArg List.length f2
    rw [List.length_map,List.length_map]at h1
    have h2:=List.length_filter_le (fun i=>decide (tot (es.map (·.2)) i≠0)) ms
    have h3:=pm.length_eq
    have h4:=di.le
    omega
  rw [<-f2]at nf
  rw [<-f1]at h4
  have s24:=(s2.trans s3).trans s4
  clear hfs f1 f2 r4 e4
  refine⟨p4,_,rfl,.inl ⟨.of h4,fun p5 n5=> ?_⟩⟩
  have s5:=Same.upd n5 (.tup (fs.map (·.1)))
  have g5:upd H4 p5 (.tup (fs.map (·.1))) p5=some (.tup (fs.map (·.1))):=Ar
  generalize upd H4 p5 (.tup (fs.map (·.1)))=H5 at s5 g5
  have s25:=s24.trans s5
  have f8:fs.length<=20:=by rw [List.length_map]at f4;omega
  refine⟨p5,fs,_,rfl,.of g5,fun e hm=>(f3 e hm).mono s5,by omega,fun p6 H6 s6 h6=> ?_⟩
  have eb:((fs.filter fun e=>decide (1<e.2.1)).map (·.1)).length=big (fs.map (·.2)):=by
    unfold big
    rw [List.length_map,List.filter_map,List.length_map]
    rfl
  try contradiction
  refine⟨p6,_,rfl,.inl (.of h6),?_⟩
  rw [eb]
  have fle:(fs.map (·.2)).length<=es.length:=by
    rw [List.length_map]at f4 ⊢
    exact f4
  by_cases hb:3<big (fs.map (·.2))
  . rw [if_pos (by omega)]
    exact kE _ nf fle (.inl hb) _ (s25.trans s6)
  rw [if_neg (by omega)]
  refine⟨by decide,fun p7 n7=> ?_⟩
  have s7:=Same.upd n7 (.tup [])
  have rs:Rs K (upd H6 p7 (.tup [])) p5 fs ((n+1)*m+1) (es.map (·.2)):=⟨(s6.trans s7).tup (.of g5),fun e hm=>(f3 e hm).mono ((s5.trans s6).trans s7),nf,f4⟩
  have s27:=(s25.trans s6).trans s7
  refine Ip rs.it rs.al (.of Ar) ?_
  by_cases f0:fs=[]
  . rw [decide_eq_true f0]
    try contradiction
    refine kQ _ nf fle (fun too=> ?_) p5 _ fs s27 rs
    subst f0
    rcases too with too | ⟨e,he,_⟩
    . exact hb too
    . simp at he
  . rw [decide_eq_false f0]
    try contradiction
    obtain⟨ini,e,rfl⟩:∃i x,fs=i++ [x]:=⟨_,_,(List.dropLast_concat_getLast f0).symm⟩
    have em:(ini++ [e]).map (·.1)=ini.map (·.1)++ [e.1]:=by rw [List.map_append];rfl
    obtain⟨b,x,eb2,hb2,_⟩:=rs.al e (by simp)
    refine Bf rs.it (v:=e.1) (by rw [em];exact Y7 _ _) ?_
    rw [eb2]
    refine Bf hb2 (at0 _ _) ?_
    try contradiction
    by_cases e12:1000000000000<e.2.1
    . rw [if_pos e12]
      exact kE _ nf fle (.inr ⟨e.2,by simp,e12⟩) _ s27
    . rw [if_neg e12]
      refine kQ _ nf fle (fun too=> ?_) p5 _ _ s27 rs
      rcases too with too | ⟨y,hy,y12⟩
      . exact hb too
      . have up:=nf.up
        rw [List.map_append,List.pairwise_append]at up
        rw [List.map_append]at hy
        rcases List.mem_append.mp hy with hy | hy
        . have:=up.2.2 y hy e.2 (by simp)
          omega
        . have:y=e.2:=by simpa using hy
          rw [this]at y12
          omega
structure Sqd (d:Int) (s m:Nat):Prop where
  eq:((s*s*m:Nat):Int)=d
  sf:SF m
  s0:0<s
  m0:0<m
theorem Sqd.uniq {d:Int}{s m s' m':Nat} (a:Sqd d s m) (b:Sqd d s' m'):s=s':=by
  have e:s*s*m=s'*s'*m':=by
    have:=a.eq.trans b.eq.symm
    omega
  exact Nat.dvd_antisymm (Xy b.sf b.s0 b.m0 ⟨m,e.symm⟩) (Xy a.sf a.s0 a.m0 ⟨m',e⟩)
open Classical in
noncomputable def sqs (d:Int):Nat:=if h:∃s m,Sqd d s m then h.choose else 1
theorem Sqd.sqs {d:Int}{s m:Nat} (a:Sqd d s m):sqs d=s:=by
  have h:∃s m,Sqd d s m:=⟨s,m,a⟩
  unfold Z.sqs
  rw [dif_pos h]
  obtain⟨m',b⟩:=h.choose_spec
  exact b.uniq a
noncomputable def red (e:Int × Rat):Int × Rat:=(e.1/((sqs e.1*sqs e.1:Nat):Int),e.2*((sqs e.1:Nat):Rat))
theorem Sqd.red {d:Int}{c:Rat}{s m:Nat} (a:Sqd d s m):red (d,c)=((m:Int),c*((s:Nat):Rat)):=by
  unfold Z.red
  rw [a.sqs]
  refine Prod.ext ?_ rfl
  show d/((s*s:Nat):Int)=(m:Int)
  rw [<-a.eq,<-Int.natCast_ediv,Nat.mul_div_cancel_left _ (Nat.mul_pos a.s0 a.s0)]
def Jp (K:PySem.W.Frag):Sp:=fun vs H Q _=>∃(l:Addr) (es:List (V × (Int × Rat))) (n w:Nat),vs=[.ref l]/\SqL K H l (es.map (·.1))/\(∀e∈es,Rt n K H e.1 e.2)/\(∀e∈es,1<=e.2.1/\e.2.1<=1000000000000/\e.2.1<4^w)/\es.length<=3/\1<=n/\n+w<=1900/\
  ∀z H' fs,Same H H'->Rs K H' z fs ((n+w+1)*3+1) (es.map fun e=>red e.2)->Q (.ref z) H'
theorem NF.key {ts R:List (Int × Rat)} (nf:NF ts R) {e:Int × Rat} (he:e∈R):∃x∈ts,x.1=e.1:=Classical.byContradiction fun z=>by
  have h:=(nf.mem e).mp he
  refine h.2 ?_
  rw [h.1]
  exact Lz fun x hx ex=>z ⟨x,hx,ex⟩
theorem Rt.putL {n:Nat}{H:Hp}{v:V}{e:Int × Rat}{l:Addr}{ys:List V}{o:HO} (h:Rt n K H v e) (hl:H l=some (.lst ys)):Rt n K (upd H l o) v e:=by
  obtain⟨a,x,rfl,h1,⟨b,rfl,h2⟩,h3⟩:=h
  exact⟨a,_,rfl,Lb h1 hl,⟨b,rfl,Lb h2 hl⟩,h3⟩
theorem Aa0 {s w:Nat}{d:Int} (h:((s*s:Nat):Int)<=d) (hd:d<4^w):s<2^w:=by
  refine Nat.lt_of_not_le fun z=> ?_
  have h1:=Nat.mul_le_mul z z
  have h2:(2:Nat)^w*2^w=4^w:=by rw [<-Nat.mul_pow]
  rw [h2]at h1
  have h3:((4^w:Nat):Int)=4^w:=by rw [Int.natCast_pow];rfl
  omega
theorem R4 {f:Addr}{fd:FuncData} (F:Df K mg "root_sum" Le ["terms"] f fd)   (c_added_up:Cal P w K mg base 4 "added_up" ["terms"] (Nh K)) (c_square_in:Cal P w K mg base 2 "square_in" ["d"] (Ly K)) (c_times:Cal P w K mg base 3 "times" ["one","other"] (K1 K)):Cal P w K mg base 5 "root_sum" ["terms"] (Jp K):=by
  refine F.cal (F.fn.ok Fi (fun vs H Q E h=> ?_) (fun cdv A outer s H vs Q E hr h=> ?_))
  . obtain⟨l,es,n,w,rfl,_⟩:=h
    rfl
  obtain⟨l,es,n,w,rfl,hl,he,hd,h3,n1,hn,kQ⟩:=h
  refine S.Bj ⟨_,(S.Ad (S.Ai (i:=1) Fi.nd rfl (Or.inl rfl) (S.Cp S.Ac))
      (S.Ad (S.Gw PassesOwn.never rfl (S.Ld (S.pv 0)) (S.Cr rfl (S.Ao (S.Aq (i:=2) Fi.nd rfl (Or.inl rfl)) (S.Ao (S.Aq (i:=3) Fi.nd rfl (Or.inl rfl)) S.Bq))) (S.Ad (S.Ai (i:=4) Fi.nd rfl (Or.inl rfl) (S.Aw c_square_in (hr.mono (by decide)) (S.Aa (S.pv 2) S.Ac)))
      (S.Ae (S.Ji (S.M8 PySem.F.plainAttrs_list PySem.F.slot_list_append PySem.F.type_list_append Ib (S.pv 1) (S.Aa (S.Av (S.Aa (S.Af Bg (S.pv 2) (S.Af Az (S.pv 4) (S.pv 4))) (S.Aa (S.Aw c_times (hr.mono (by decide)) (S.Aa (S.pv 3) (S.Aa (S.Av (S.Aa (S.pv 4) (S.Aa S.Ab S.Ac))) S.Ac))) S.Ac))) S.Ac))))))
      (S.Ae (S.Al (S.Aw c_added_up (hr.mono (by decide)) (S.Aa (S.pv 1) S.Ac)))))),?_⟩
  refine Am (fun σ' H'=>Same H H'/\∃t,H t=none/\σ'=[some (.ref l),some (.ref t),none,none,none]/\H' t=some (.lst [])) (fun M hM=> ?_) ?_
  . contradiction
    refine⟨by decide,fun t ht=> ?_⟩
    exact hM _ _ ⟨Same.upd ht _,t,ht,rfl,Ar⟩
  rintro σ H1 ⟨s1,t,nt,rfl,g1⟩
  refine Am (fun σ' H'=>Same H H'/\∃(vs:List (V × (Int × Rat))) (o2 o3 o4:Option V),σ'=[some (.ref l),some (.ref t),o2,o3,o4]/\H' t=some (.lst (vs.map (·.1)))/\vs.map (·.2)=es.map (fun e=>red e.2)/\∀x∈vs,Rt (n+w) K H' x.1 x.2/\1<=x.2.1/\x.2.1<=1000000000000) (fun M hM=> ?_) ?_
  . contradiction
    refine⟨⟨_,s1.seq hl⟩,Qe (es:=es) (inj:=(·.1)) (fun pre σ' H'=>Same H H'/\∃(vs:List (V × (Int × Rat))) (o2 o3 o4:Option V),σ'=[some (.ref l),some (.ref t),o2,o3,o4]/\H' t=some (.lst (vs.map (·.1)))/\vs.map (·.2)=pre.map (fun e=>red e.2)/\∀x∈vs,Rt (n+w) K H' x.1 x.2/\1<=x.2.1/\x.2.1<=1000000000000) ⟨s1,[],_,_,_,rfl,g1,rfl,by simp⟩ ?_ ?_ ?_⟩
    . rintro pre σ' H' ⟨s2,_⟩
      exact K3 (s2.seq hl)
    . rintro pre e post σ' H' hE ⟨s2,vs,o2,o3,o4,rfl,g2,ev,hv⟩
      have em:e∈es:=by rw [hE];simp
      obtain⟨b,x,eb,hb,hx,zx⟩:=(he e em).mono s2
      obtain⟨d1,d2,d3⟩:=hd e em
      have vl:vs.length<=8:=by
        have h1:=congrArg List.length ev
        rw [List.length_map,List.length_map]at h1
        have:pre.length<es.length:=by rw [hE];simp
        omega
      rw [eb]
      refine Ck hb ?_
      contradiction
      refine⟨e.2.1.toNat,by rw [Int.toNat_of_nonneg (by omega)],by omega,by omega,fun s0 m0 eq sf p0 q0=> ?_⟩
      have sq:Sqd e.2.1 s0 m0:=⟨by rw [eq];omega,sf,p0,q0⟩
      have s2le:((s0*s0:Nat):Int)<=e.2.1:=by
        rw [<-sq.eq]
        have:s0*s0*1<=s0*s0*m0:=Nat.mul_le_mul_left _ q0
        omega
      have sw:=Aa0 s2le d3
      have sd:s0<=1000000000000:=by
        have:s0*1<=s0*s0:=Nat.mul_le_mul_left _ p0
        omega
      try contradiction
      have w1:1<=w:=Nat.pos_of_ne_zero fun z=>by
        subst z
        simp at d3
        omega
      have ez:((s0:Nat):Int)*(s0:Nat)=((s0*s0:Nat):Int):=by rw [Int.natCast_mul]
      rw [ez]
      refine⟨.inl ⟨rfl,_,.of g2⟩,Aav (by omega),Adn (by omega) (Nat.mul_pos p0 p0) _,fun p3 n3=> ?_⟩
      have s3:=Same.upd n3 (.tup [V.int (s0:Nat),V.int 1])
      have g3:upd H' p3 (.tup [V.int (s0:Nat),V.int 1]) p3=some (.tup [V.int (s0:Nat),V.int 1]):=Ar
      generalize upd H' p3 (.tup [V.int (s0:Nat),V.int 1])=H3 at s3 g3
      have zs:Szq w ((s0:Nat):Rat):=⟨by
        show Sz w ((s0:Nat):Int)
        unfold Sz
        omega,by
        show Sz w ((1:Nat):Int)
        unfold Sz
        exact Nat.one_lt_two_pow (by omega)⟩
      refine⟨_,_,e.2.2,((s0:Nat):Rat),_,_,rfl,hx.mono s3,⟨p3,rfl,.of g3⟩,zx,zs,by omega,fun z H4 s4 iz p5 n5=> ?_⟩
      have er:red e.2=((m0:Int),e.2.2*((s0:Nat):Rat)):=sq.red
      have ed:e.2.1/((s0*s0:Nat):Int)=(m0:Int):=by
        rw [<-sq.eq,<-Int.natCast_ediv,Nat.mul_div_cancel_left _ (Nat.mul_pos p0 p0)]
      rw [ed]
      have s5:=Same.upd n5 (.tup [V.int (m0:Nat),z])
      have g5:upd H4 p5 (.tup [V.int (m0:Nat),z]) p5=some (.tup [V.int (m0:Nat),z]):=Ar
      generalize upd H4 p5 (.tup [V.int (m0:Nat),z])=H5 at s5 g5
      have s25:=(s3.trans s4).trans s5
      refine⟨t,_,_,rfl,rfl,s25 _ _ g2,by rw [List.length_map];exact Nat.lt_of_le_of_lt vl (by decide),(s2.trans s25).put nt,vs++ [(.ref p5,red e.2)],_,_,_,rfl,?_,?_,?_⟩
      . rw [Ar,List.map_append]
        rfl
      . rw [List.map_append,List.map_append,ev]
        rfl
      . intro y hy
        rcases List.mem_append.mp hy with hy | hy
        . obtain⟨h1,h2⟩:=hv y hy
          exact⟨(h1.mono s25).putL (s25 _ _ g2),h2⟩
        . have ey:y=(.ref p5,red e.2):=by simpa using hy
          rw [ey,er]
          have ml:m0<=1000000000000:=by
            have:1*m0<=s0*s0*m0:=Nat.mul_le_mul_right _ (Nat.mul_pos p0 p0)
            have:=sq.eq
            omega
          refine⟨Rt.putL (ys:=vs.map (·.1)) ⟨p5,z,rfl,.of g5,iz.mono s5,zx.mul zs⟩ (s25 _ _ g2),?_,?_⟩
          . show 1<=(m0:Int)
            omega
          . show(m0:Int)<=1000000000000
            omega
    . rintro σ' H' ⟨s2,vs,o2,o3,o4,rfl,g2,ev,hv⟩
      exact hM _ _ ⟨s2,vs,o2,o3,o4,rfl,g2,ev,hv⟩
  rintro σ H2 ⟨s2,vs,o2,o3,o4,rfl,g2,ev,hv⟩
  contradiction
  have lv:vs.length=es.length:=by
    have h1:=congrArg List.length ev
    rw [List.length_map,List.length_map]at h1
    exact h1
  refine⟨t,vs,n+w,3,rfl,.inl (.of g2),fun e he=>(hv e he).1,by omega,by omega,fun i=> ?_,by omega,fun R nf le too=> ?_,?_⟩
  . have:=Aaf (vs.map (·.2)) i
    rw [List.length_map]at this
    omega
  . rcases too with too | ⟨e,he,e12⟩
    . have:=List.length_filter_le (fun e:Int × Rat=>decide (1<e.1)) R
      unfold big at too
      omega
    . obtain⟨x,hx,ex⟩:=nf.key he
      obtain⟨y,hy,rfl⟩:=List.mem_map.mp hx
      have:=(hv y hy).2.2
      omega
  . rw [ev]
    exact fun z H' fs s' rs=>kQ z H' fs (s2.trans s') rs
def neg (e:Int × Rat):Int × Rat:=(e.1,0-e.2)
theorem Wa (i:Int):∀ts:List (Int × Rat),tot (ts.map neg) i=0-tot ts i
  | []=>by
    show(0:Rat)=0-0
    grind
  | x::r=>by
    show(if x.1=i then 0-x.2 else 0)+tot (r.map neg) i=0-((if x.1=i then x.2 else 0)+tot r i)
    rw [Wa i r]
    split<;>grind
def kp (d e:Int):Int:=d/(Int.gcd d e:Int)*(e/(Int.gcd d e:Int))
def tp (a b:Int × Rat):Int × Rat:=(kp a.1 b.1,a.2*b.2*((Int.gcd a.1 b.1:Nat):Rat))
def pr (R S:List (Int × Rat)):List (Int × Rat):=R.flatMap fun a=>S.map (tp a)
theorem Px {i:Int}{c:Rat}:∀ {R:List (Int × Rat)},(R.Pairwise fun a b=>a.1<b.1)->(i,c)∈R->tot R i=c
  | [],_,h=>by simp at h
  | x::r,p,h=>by
    obtain⟨p1,p2⟩:=List.pairwise_cons.mp p
    show(if x.1=i then x.2 else 0)+tot r i=c
    rcases List.mem_cons.mp h with h | h
    . rw [<-h,if_pos rfl,Lz fun e he ee=> ?_]
      . exact Rat.add_zero c
      . have:=p1 e he
        rw [<-h]at this
        replace this:i<e.1:=this
        omega
    . have h1:x.1<i:=p1 _ h
      rw [if_neg (by omega),Px p2 h]
      exact Rat.zero_add c
theorem NF.tot {ts R:List (Int × Rat)} (nf:NF ts R) (i:Int):tot R i=tot ts i:=by
  by_cases h:Z.tot ts i=0
  . rw [h]
    refine Lz fun e he ee=> ?_
    have:=(nf.mem e).mp he
    rw [ee,h]at this
    exact this.2 this.1
  . exact Px nf.up ((nf.mem (i,Z.tot ts i)).mpr ⟨rfl,h⟩)
theorem Acb {R:List (Int × Rat)} (up:R.Pairwise fun a b=>a.1<b.1) (h1:∀e∈R,1<=e.1):R.length<=big R+1:=by
  cases R with
  | nil=>simp
  | cons x r=>
    obtain⟨p1,_⟩:=List.pairwise_cons.mp up
    have:(r.filter fun e=>decide (1<e.1))=r:=List.filter_eq_self.mpr fun e he=>by
      have:=p1 e he
      have:=h1 x (by simp)
      simp
      omega
    unfold big
    rw [List.filter_cons]
    split
    . rw [this]
      simp
    . rw [this]
      simp
theorem Qm (i:Int):∀ {R:List (Int × Rat)},(R.Pairwise fun a b=>a.1<b.1)->cnt R i<=1
  | [],_=>Nat.zero_le _
  | x::r,up=>by
    obtain⟨p1,p2⟩:=List.pairwise_cons.mp up
    unfold cnt
    by_cases h:x.1=i
    . have:(r.filter fun e=>decide (e.1=i))=[]:=List.filter_eq_nil_iff.mpr fun e he=>by
        have:=p1 e he
        simp
        omega
      rw [List.filter_cons_of_pos (by simpa using h),this]
      simp
    . rw [List.filter_cons_of_neg (by simpa using h)]
      exact Qm i p2
theorem V3:∀(k d:Nat),d<=k->0<d->∃s m,Sqd (d:Int) s m
  | 0,d,h,h0=>by omega
  | k+1,d,h,h0=>by
    by_cases hs:∃u,2<=u/\u*u∣d
    . obtain⟨u,u2,q,hq⟩:=hs
      have q0:0<q:=Nat.pos_of_ne_zero fun z=>by
        rw [z]at hq
        omega
      have ql:4*q<=u*u*q:=Nat.mul_le_mul_right _ (Nat.mul_le_mul u2 u2)
      obtain⟨s,m,h1⟩:=V3 k q (by omega) q0
      refine⟨u*s,m,?_,h1.sf,Nat.mul_pos (by omega) h1.s0,h1.m0⟩
      have e1:s*s*m=q:=by
        have:=h1.eq
        omega
      have e2:u*s*(u*s)*m=d:=by
        rw [hq,<-e1]
        grind
      rw [e2]
    . refine⟨1,d,by rw [Nat.one_mul],fun u h2 hu=>hs ⟨u,h2,hu⟩,by decide,h0⟩
def Fr (d:Int):Prop:=1<=d/\SF d.toNat
theorem Fr.sqs {d:Int} (h:Fr d):sqs d=1:=Sqd.sqs (m:=d.toNat) ⟨by rw [Nat.one_mul];have:=h.1;omega,h.2,by decide,by have:=h.1;omega⟩
theorem Fr.red {e:Int × Rat} (h:Fr e.1):red e=e:=by
  obtain⟨d,c⟩:=e
  unfold Z.red
  rw [h.sqs]
  refine Prod.ext ?_ ?_
  . show d/((1*1:Nat):Int)=d
    rw [Nat.one_mul]
    exact Int.ediv_one d
  . show c*((1:Nat):Rat)=c
    exact Rat.mul_one c
theorem Acj {e:Int × Rat} (h:1<=e.1):Fr (red e).1/\(red e).1<=e.1:=by
  obtain⟨d,c⟩:=e
  replace h:1<=d:=h
  obtain⟨s,m,hs⟩:=V3 d.toNat d.toNat (Nat.le_refl _) (by omega)
  rw [Int.toNat_of_nonneg (by omega)]at hs
  rw [hs.red]
  have e1:=hs.eq
  have m0:=hs.m0
  have:1*m<=s*s*m:=Nat.mul_le_mul_right _ (Nat.mul_pos hs.s0 hs.s0)
  refine⟨⟨?_,?_⟩,?_⟩
  . show 1<=(m:Int)
    omega
  . show SF (m:Int).toNat
    exact hs.sf
  . show(m:Int)<=d
    omega
theorem X6 {H1:Hp}{p:Addr}{cσ:St}{g:TG}{te:TE}{Q:VK}{α:Type}{es:List α}{inj:α->V}{J:It} (Rl:α->V->Hp->Prop)
    (mono:∀e v H H',Rl e v H->Same H H'->Rl e v H') (put:∀e v H ys zs,Rl e v H->H p=some (.lst ys)->Rl e v (upd H p (.lst zs))) (hz:es.length<=sizeLine) (hp:H1 p=none) (hJ:Wk J H1 es inj)
    (step:∀(e:α) (H':Hp) (R:VK),e∈es->Same H1 H'->(∀v H6,Same H' H6->Rl e v H6->R v H6)->g (inj e) cσ H' fun σ4 H4=>Kp cσ σ4/\te σ4 H4 R)
    (done:∀H' (vs:List (V × α)),Same H1 H'->H' p=some (.lst (vs.map (·.1)))->vs.map (·.2)=es->(∀x∈vs,Rl x.2 x.1 H')->Q (.ref p) H'):cIn J cσ g Va te Q H1 p:=
  Mw (fun _=>true) Rl mono put hz hp hJ (fun e H' R RF he s hR _=>step e H' R he s (hR rfl)) (fun H' vs s h ev hr=>done H' vs s h (by rw [ev];exact List.filter_eq_self.mpr fun _ _=>rfl) hr)
theorem Ac8 {x:Int} (h:x.natAbs<2^60):Builtin.Int.intBits x<=64:=Nat.le_trans (PySem.intBits_le_iff.mpr h) (by decide)
theorem Rt.up {n m:Nat}{H:Hp}{v:V}{e:Int × Rat} (h:Rt n K H v e) (l:n<=m):Rt m K H v e:=by
  obtain⟨a,x,rfl,h1,h2,h3⟩:=h
  exact⟨a,x,rfl,h1,h2,h3.mono l⟩
theorem Szq.neg {n:Nat}{c:Rat} (h:Szq n c):Szq n (0-c):=by
  rw [show 0-c= -c by grind]
  refine⟨?_,h.2⟩
  show Sz n (-c.num)
  have:=h.1
  unfold Sz at*
  omega
theorem Szq.nat {w s:Nat} (h:s<2^w) (w1:1<=w):Szq w ((s:Nat):Rat):=⟨by
  show Sz w ((s:Nat):Int)
  unfold Sz
  omega,by
  show Sz w ((1:Nat):Int)
  unfold Sz
  exact Nat.one_lt_two_pow (by omega)⟩
structure Sm (K:PySem.W.Frag) (H:Hp) (z:Addr) (fs:List (V × (Int × Rat))) (n:Nat) (B:Int):Prop where
  it:SqT K H z (fs.map (·.1))
  al:∀e∈fs,Rt n K H e.1 e.2
  up:(fs.map (·.2)).Pairwise fun a b=>a.1<b.1
  ky:∀e∈fs,Fr e.2.1/\e.2.1<=B/\e.2.2≠0
  bg:big (fs.map (·.2))<=3
theorem Sm.mono {H H':Hp}{z:Addr}{fs:List (V × (Int × Rat))}{n:Nat}{B:Int} (h:Sm K H z fs n B) (s:Same H H'):Sm K H' z fs n B:=⟨s.tup h.it,fun e he=>(h.al e he).mono s,h.up,h.ky,h.bg⟩
theorem Sm.gr {H:Hp}{z:Addr}{fs:List (V × (Int × Rat))}{n m:Nat}{B C:Int} (h:Sm K H z fs n B) (l:n<=m) (c:B<=C):Sm K H z fs m C:=⟨h.it,fun e he=>(h.al e he).up l,h.up,fun e he=>⟨(h.ky e he).1,Int.le_trans (h.ky e he).2.1 c,(h.ky e he).2.2⟩,h.bg⟩
theorem Sm.len {H:Hp}{z:Addr}{fs:List (V × (Int × Rat))}{n:Nat}{B:Int} (h:Sm K H z fs n B):fs.length<=4:=by
  have:=Acb h.up fun e he=>by
    obtain⟨x,hx,rfl⟩:=List.mem_map.mp he
    exact(h.ky x hx).1.1
  rw [List.length_map]at this
  have:=h.bg
  omega
theorem Rs.sm {H:Hp}{z:Addr}{fs:List (V × (Int × Rat))}{n:Nat}{B:Int}{ts:List (Int × Rat)} (h:Rs K H z fs n ts) (hb:big (fs.map (·.2))<=3) (hk:∀e∈ts,Fr e.1/\e.1<=B):Sm K H z fs n B:=⟨h.it,h.al,h.nf.up,fun e he=>by
  have hm:e.2∈fs.map (·.2):=List.mem_map.mpr ⟨e,he,rfl⟩
  obtain⟨x,hx,ex⟩:=h.nf.key hm
  have:=hk x hx
  rw [ex]at this
  exact⟨this.1,this.2,((h.nf.mem e.2).mp hm).2⟩,hb⟩
def Res (K:PySem.W.Frag) (H:Hp) (ts:List (Int × Rat)) (N:Nat) (Q:VK) (E:XK):Prop:=
  (∀R,NF ts R->Too R->∀H',Same H H'->E (.ref (cA K "TooGreat")) none H')/\∀R,NF ts R->¬Too R->∀z H' fs,Same H H'->Rs K H' z fs N ts->Q (.ref z) H'
def Ren (K:PySem.W.Frag) (H:Hp) (ts:List (Int × Rat)) (N:Nat) (Q:VK):Prop:=
  (∀R,NF ts R->¬Too R)/\∀z H' fs,Same H H'->Rs K H' z fs N ts->Q (.ref z) H'
theorem Ren.res {H:Hp}{ts:List (Int × Rat)}{N:Nat}{Q:VK}{E:XK} (h:Ren K H ts N Q):Res K H ts N Q E:=⟨fun R nf too=>(h.1 R nf too).elim,fun _ _ _=>h.2⟩
def Oc (K:PySem.W.Frag):Sp:=fun vs H Q E=>∃(x y:Addr) (es fs:List (V × (Int × Rat))) (n:Nat) (B:Int),vs=[.ref x,.ref y]/\Sm K H x es n B/\Sm K H y fs n B/\1<=n/\3*n+3<=8000/\Res K H (es.map (·.2)++fs.map (·.2)) ((n+1)*2+1) Q E
theorem Mx {P:V × (Int × Rat)->Prop}{es fs:List (V × (Int × Rat))} (h:∀e∈es,P e) (g:∀e∈fs,P e):∀e∈es++fs,P e:=fun e he=>(List.mem_append.mp he).elim (h e) (g e)
theorem Vw {f:Addr}{fd:FuncData} (F:Df K mg "s_plus" Ov ["one","other"] f fd)   (ce_added_up:X4 P w K mg base 4 "added_up" ["terms"] (Gx K)):X4 P w K mg base 5 "s_plus" ["one","other"] (Oc K):=by
  refine F.calE (F.fn.okE Xr (fun vs H Q E h=> ?_) (fun cdv A outer s H vs Q E hr h=> ?_))
  . obtain⟨x,y,es,fs,n,B,rfl,_⟩:=h
    rfl
  obtain⟨x,y,es,fs,n,B,rfl,a,b,n1,hn,kE,kQ⟩:=h
  refine S.Bj ⟨_,(S.Ae (S.Al (S.Gu ce_added_up (hr.mono (by decide)) (S.Aa (S.Af K9 (S.pv 0) (S.pv 1)) S.Ac)))),?_⟩
  contradiction
  have la:=a.len
  have lb:=b.len
  refine⟨x,y,_,_,rfl,rfl,a.it,b.it,by rw [List.length_map,List.length_map];exact Nat.le_trans (Nat.add_le_add la lb) (by decide),fun z H1 s1 h1=> ?_⟩
  rw [<-List.map_append]at h1
  have em:(es++fs).map (·.2)=es.map (·.2)++fs.map (·.2):=List.map_append
  refine⟨z,es++fs,n,2,rfl,.inr h1,Mx (fun e he=>(a.al e he).mono s1) (fun e he=>(b.al e he).mono s1),by rw [List.length_append];omega,n1,fun i=> ?_,by omega,fun R nf _ too H' s'=>kE R (em▸nf) too H' (s1.trans s'),fun R nf _ too z H' gs s' rs=>kQ R (em▸nf) too z H' gs (s1.trans s') (em▸rs)⟩
  rw [em,cnt_append]
  exact Nat.add_le_add (Qm i a.up) (Qm i b.up)
def Nq (K:PySem.W.Frag):Sp:=fun vs H Q E=>∃(x y:Addr) (es fs:List (V × (Int × Rat))) (n:Nat) (B:Int),vs=[.ref x,.ref y]/\Sm K H x es n B/\Sm K H y fs n B/\1<=n/\3*n+3<=8000/\Res K H (es.map (·.2)++(fs.map (·.2)).map neg) ((n+1)*2+1) Q E
def Od (K:PySem.W.Frag):Sp:=fun vs H Q _=>∃(x y:Addr) (es fs:List (V × (Int × Rat))) (n:Nat) (B:Int),vs=[.ref x,.ref y]/\Sm K H x es n B/\Sm K H y fs n B/\1<=n/\3*n+3<=8000/\Ren K H (es.map (·.2)++(fs.map (·.2)).map neg) ((n+1)*2+1) Q
theorem Ph (K:PySem.W.Frag):∀vs H Q E,Od K vs H Q E->Nq K vs H Q E0:=by
  rintro vs H Q E ⟨x,y,es,fs,n,B,rfl,a,b,n1,hn,k⟩
  exact⟨x,y,es,fs,n,B,rfl,a,b,n1,hn,k.res⟩
theorem Ac3 {R:List (Int × Rat)} (h:R.Pairwise fun a b=>a.1<b.1):(R.map neg).Pairwise fun a b=>a.1<b.1:=List.pairwise_map.mpr h
theorem Us {f:Addr}{fd:FuncData} (F:Df K mg "s_minus" Kw ["one","other"] f fd) (z_tuple:mg "tuple"=none)  (ce_added_up:X4 P w K mg base 4 "added_up" ["terms"] (Gx K)) (c_minus:Cal P w K mg base 3 "minus" ["one","other"] (T9 K)):X4 P w K mg base 5 "s_minus" ["one","other"] (Nq K):=by
  refine F.calE (F.fn.okE Uv (fun vs H Q E h=> ?_) (fun cdv A outer s H vs Q E hr h=> ?_))
  . obtain⟨x,y,es,fs,n,B,rfl,_⟩:=h
    rfl
  obtain⟨x,y,es,fs,n,B,rfl,a,b,n1,hn,kE,kQ⟩:=h
  refine S.Bj ⟨_,(S.Ae (S.Al (S.Gu ce_added_up (hr.mono (by decide)) (S.Aa (S.Af K9 (S.pv 0) (S.Gs Eb rfl z_tuple PyProof.Rows.boot_tuple (S.Aa (S.Ge (ts:=["d","c"]) (fs:=[]) rfl (Bt.of (sc:=Ag Kw) (N:=["one","other"]) rfl rfl (by decide+kernel)) (S.Kz (S.pv 1)) (fun _ _ _=>(S.Lf K 2 rfl rfl (S.Ao (S.Aq (i:=0) (show List.Nodup (["d","c"]:List Str)by decide+kernel) rfl (Or.inl rfl) (hf:=Or.inr rfl)) (S.Ao (S.Aq (i:=1) (show List.Nodup (["d","c"]:List Str)by decide+kernel) rfl (Or.inl rfl) (hf:=Or.inr rfl)) S.Bq)))) (fun _ _ _=>S.Oo) (fun _ _ _=>(S.Av (S.Aa (S.pv 0) (S.Aa (S.Aw c_minus (hr.mono (by decide)) (S.Aa (S.Av (S.Aa S.Ab (S.Aa S.Ab S.Ac))) (S.Aa (S.pv 1) S.Ac))) S.Ac))))) S.Ac))) S.Ac)))),?_⟩
  contradiction
  have la:=a.len
  have lb:=b.len
  refine⟨⟨_,b.it⟩,fun p1 hp1=>X6 (es:=fs) (inj:=(·.1)) (fun e v H'=>Rt n K H' v (neg e.2)) (fun _ _ _ _ h s=>h.mono s) (fun _ _ _ _ _ h hp=>h.putL hp) (Nat.le_trans lb (by decide)) hp1 (M4 b.it) ?_ ?_⟩
  . intro e H2 R he s2 hR
    obtain⟨c,u,eb,hc,hu,zu⟩:=(b.al e he).mono s2
    rw [eb]
    refine Ck hc ?_
    contradiction
    (intro q hq;generalize eq:upd _ q _=Gq;obtain⟨sq,gq⟩:=nw hq eq;clear eq hq)
    refine⟨_,u,0,e.2.2,1,n,rfl,⟨q,rfl,.of gq⟩,hu.mono sq,Szq.zero (by decide),zu,by omega,fun z H3 s3 iz=> ?_⟩
    try contradiction
    (intro r hr;generalize er:upd _ r _=Gr;obtain⟨sr,gr⟩:=nw hr er;clear er hr)
    exact hR _ _ ((sq.trans s3).trans sr) ⟨r,z,rfl,.of gr,iz.mono sr,zu.neg⟩
  intro H2 vs s2 h2 e2 r2
  refine⟨p1,_,rfl,.inl ⟨.of h2,?_⟩⟩
  (intro q hq;generalize eq:upd _ q _=Gq;obtain⟨sq,gq⟩:=nw hq eq;clear eq hq)
  have s3:=s2.trans sq
  have lv:vs.length=fs.length:=by rw [<-e2,List.length_map]
  refine⟨x,q,_,_,rfl,rfl,s3.tup a.it,.of gq,by rw [List.length_map,List.length_map,lv];exact Nat.le_trans (Nat.add_le_add la lb) (by decide),fun z H1 s1 h1=> ?_⟩
  obtain⟨gs,hgs⟩:∃gs:List (V × (Int × Rat)),gs=vs.map fun v=>(v.1,neg v.2.2):=⟨_,rfl⟩
  have g1:vs.map (·.1)=gs.map (·.1):=by rw [hgs,List.map_map];rfl
  have g2:gs.map (·.2)=(fs.map (·.2)).map neg:=by rw [hgs,<-e2,List.map_map,List.map_map,List.map_map];rfl
  have g3:∀e∈gs,Rt n K H2 e.1 e.2:=fun e he=>by
    rw [hgs]at he
    obtain⟨v,hv,rfl⟩:=List.mem_map.mp he
    exact r2 v hv
  rw [g1,<-List.map_append]at h1
  have em:(es++gs).map (·.2)=es.map (·.2)++(fs.map (·.2)).map neg:=by rw [List.map_append,g2]
  have lg:gs.length=fs.length:=by rw [hgs,List.length_map,lv]
  have s21:=sq.trans s1
  have s01:=s2.trans s21
  refine⟨z,es++gs,n,2,rfl,.inr h1,Mx (fun e he=>(a.al e he).mono s01) (fun e he=>(g3 e he).mono s21),by rw [List.length_append];omega,n1,fun i=> ?_,by omega,fun R nf _ too H' s'=>kE R (em▸nf) too H' (s01.trans s'),fun R nf _ too z H' gs s' rs=>kQ R (em▸nf) too z H' gs (s01.trans s') (em▸rs)⟩
  rw [em,cnt_append]
  exact Nat.add_le_add (Qm i a.up) (Qm i (Ac3 b.up))
def Pv (m:Nat) (K:PySem.W.Frag) (H:Hp) (v:V) (p:Rat × Rat):Prop:=∃a u w,v= .ref a/\SqT K H a [u,w]/\IsQ K H u p.1/\IsQ K H w p.2/\Szq m p.1/\Szq m p.2
theorem Pv.mono {m:Nat}{H H':Hp}{v:V}{p:Rat × Rat} (h:Pv m K H v p) (s:Same H H'):Pv m K H' v p:=by
  obtain⟨a,u,w,e,h1,h2,h3,h4⟩:=h
  exact⟨a,u,w,e,s.tup h1,h2.mono s,h3.mono s,h4⟩
theorem IsQ.putL {H:Hp}{l:Addr}{v:V}{q:Rat}{ys:List V}{o:HO} (h:IsQ K H v q) (hl:H l=some (.lst ys)):IsQ K (upd H l o) v q:=by
  obtain⟨a,e,t⟩:=h
  exact⟨a,e,Lb t hl⟩
theorem Pv.putL {m:Nat}{H:Hp}{l:Addr}{v:V}{p:Rat × Rat}{ys:List V}{o:HO} (h:Pv m K H v p) (hl:H l=some (.lst ys)):Pv m K (upd H l o) v p:=by
  obtain⟨a,u,w,e,h1,h2,h3,h4⟩:=h
  exact⟨a,u,w,e,Lb h1 hl,h2.putL hl,h3.putL hl,h4⟩
theorem Pv.up {m n:Nat}{H:Hp}{v:V}{p:Rat × Rat} (h:Pv m K H v p) (l:m<=n):Pv n K H v p:=by
  obtain⟨a,u,w,e,h1,h2,h3,h4,h5⟩:=h
  exact⟨a,u,w,e,h1,h2,h3,h4.mono l,h5.mono l⟩
structure Sn (K:PySem.W.Frag) (H:Hp) (z:Addr) (fs:List (V × (Int × Rat))):Prop where
  sm:Sm K H z fs 162 10000
  rt:∀e∈fs,1<e.2.1->Szq 81 e.2.2/\e.2.2.den<=1048576
  cb:∀e∈fs,Co e.2.2 1152921504606846976
  cd:∀e∈fs,e.2.2.den<=2^100
theorem Sn.mono {H H':Hp}{z:Addr}{fs:List (V × (Int × Rat))} (h:Sn K H z fs) (s:Same H H'):Sn K H' z fs:=⟨h.sm.mono s,h.rt,h.cb,h.cd⟩
structure Pr (K:PySem.W.Frag) (H:Hp) (z:Addr) (m:Nat) (ws:List (V × Zt)):Prop where
  it:SqT K H z (ws.map (·.1))
  al:∀w∈ws,Pv m K H w.1 w.2.2
theorem Pr.mono {H H':Hp}{z:Addr}{m:Nat}{ws:List (V × Zt)} (h:Pr K H z m ws) (s:Same H H'):Pr K H' z m ws:=⟨s.tup h.it,fun w hw=>(h.al w hw).mono s⟩
def rts (fs:List (V × (Int × Rat))):List (V × (Int × Rat)):=fs.filter fun e=>decide (1<e.2.1)
def Jm (K:PySem.W.Frag):Sp:=fun vs H Q _=>∃(x:Addr) (fs:List (V × (Int × Rat))) (sc:Nat),vs=[.ref x,.int (sc:Nat)]/\Sm K H x fs 162 10000/\1<=sc/\sc<2^2048/\∀(z:Addr) (H':Hp) (ws:List (V × Zt)),Same H H'->Pr K H' z 2060 ws->ws.map (·.2.1)=(rts fs).map (·.2)->(∀w∈ws,Bd w.2.1.1 w.2.2/\w.2.2.2<=w.2.2.1+1/(sc:Rat))->Q (.ref z) H'
theorem Zc {d:Int}{r sc:Nat} (s1:1<=sc) (h1:(r:Int)*r<=d*sc*sc) (h2:d*sc*sc<(r+1)*(r+1)):Bd d ((r:Rat)/sc,((r+1:Nat):Rat)/sc)/\((r+1:Nat):Rat)/sc<=(r:Rat)/sc+1/sc:=by
  have p:(0:Rat)<(sc:Rat):=Rat.natCast_pos.mpr s1
  obtain⟨i,hi⟩:∃i:Rat,i*sc=1:=⟨1/sc,Rat.div_mul_cancel (by grind)⟩
  have i0:0<=i:=Rat.not_lt.mp fun z=>by
    have:=Rat.mul_pos (show 0<0-i by grind) p
    grind
  have dv:∀q:Rat,q/sc=q*i:=fun q=>by
    have:q/sc*sc=q*i*sc:=by
      rw [Rat.div_mul_cancel (by grind)]
      grind
    have h:(q/sc-q*i)*sc=0:=by grind
    rcases Rat.mul_eq_zero.mp h with h | h
    . grind
    . grind
  have r0:(0:Rat)<=(r:Rat):=Rat.natCast_nonneg
  have c1:(r:Rat)*r<=(d:Rat)*sc*sc:=by
    have:=Rat.intCast_le_intCast.mpr h1
    simpa only [Rat.intCast_mul,Rat.intCast_natCast]using this
  have c2:(d:Rat)*sc*sc<=((r:Rat)+1)*(r+1):=by
    have:=Rat.intCast_le_intCast.mpr (Int.le_of_lt h2)
    simpa only [Rat.intCast_mul,Rat.intCast_natCast,Rat.intCast_add,Rat.intCast_one]using this
  have e1:((r+1:Nat):Rat)=(r:Rat)+1:=by
    rw [Rat.natCast_add]
    rfl
  rw [e1,dv,dv,dv]
  have ii:=Rat.mul_nonneg i0 i0
  have k1:=Rat.mul_nonneg ii (show 0<=(d:Rat)*sc*sc-r*r by grind)
  have k2:=Rat.mul_nonneg ii (show 0<=((r:Rat)+1)*(r+1)-d*sc*sc by grind)
  have dd:(d:Rat)=(d:Rat)*(i*sc)*(i*sc):=by rw [hi];grind
  refine⟨⟨?_,?_,?_,?_⟩,?_⟩
  . exact Rat.mul_nonneg r0 i0
  . exact Rat.mul_nonneg (show(0:Rat)<=(r:Rat)+1 by grind) i0
  . show(r:Rat)*i*(r*i)<=d
    grind
  . show(d:Rat)<=((r:Rat)+1)*i*(((r:Rat)+1)*i)
    grind
  . grind
theorem W7 {r sc n:Nat} (s1:1<=sc) (hr:r<2^n) (hs:sc<2^n):Szq n ((r:Rat)/sc):=by
  have e:((r:Nat):Rat)/sc=Rat.divInt (r:Int) (sc:Int):=by
    rw [<-Afc]
    show Rat.divInt ((r:Int)*1) (1*(sc:Int))=_
    rw [Int.mul_one,Int.one_mul]
  rw [e]
  exact Szq.of hr hs (by omega)
theorem Ads {r d sc:Nat} (h:r*r<=d*sc*sc) (hd:d<2^14) (hs:sc<2^2048):r<2^2055:=Nat.lt_of_not_le fun z=>by
  have h1:=Nat.mul_le_mul z z
  have h2:d*sc*sc<=2^14*2^2048*2^2048:=Nat.mul_le_mul (Nat.mul_le_mul (Nat.le_of_lt hd) (Nat.le_of_lt hs)) (Nat.le_of_lt hs)
  have h3:d*sc<2^14*2^2048:=Nat.mul_lt_mul_of_lt_of_le hd (Nat.le_of_lt hs) (Nat.two_pow_pos _)
  have h4:d*sc*sc<2^14*2^2048*2^2048:=Nat.mul_lt_mul_of_lt_of_le h3 (Nat.le_of_lt hs) (Nat.two_pow_pos _)
  rw [<-Nat.pow_add,<-Nat.pow_add]at h4
  rw [<-Nat.pow_add]at h1
  have:2^(14+2048+2048)=2^(2055+2055):=rfl
  omega
structure PaI (K:PySem.W.Frag) (H H':Hp) (t:Addr) (sc:Nat) (ws:List (V × Zt)) (es:List (Int × Rat)):Prop where
  sm:Same H H'
  it:H' t=some (.lst (ws.map (·.1)))
  al:∀w∈ws,Pv 2060 K H' w.1 w.2.2
  eq:ws.map (·.2.1)=es
  bd:∀w∈ws,Bd w.2.1.1 w.2.2/\w.2.2.2<=w.2.2.1+1/(sc:Rat)
theorem Sg {f:Addr}{fd:FuncData} (F:Df K mg "pairs_at" Ln ["one","scale"] f fd) (z_tuple:mg "tuple"=none)  (c_roots_in:Cal P w K mg base 1 "roots_in" ["one"] (Hh K)) (c_root_floor:Cal P w K mg base 1 "root_floor" ["number"] (Ea K)) (c_over:Cal P w K mg base 3 "over" ["one","other"] (Vd K)):Cal P w K mg base 4 "pairs_at" ["one","scale"] (Jm K):=by
  refine F.cal (F.fn.ok Fv (fun vs H Q E h=> ?_) (fun cdv A outer s H vs Q E hr h=> ?_))
  . obtain⟨x,fs,sc,rfl,_⟩:=h
    rfl
  obtain⟨x,fs,sc,rfl,a,s1,s2,k⟩:=h
  refine S.Bj ⟨_,(S.Ad (S.Ai (i:=2) Fv.nd rfl (Or.inl rfl) (S.Cp S.Ac))
      (S.Ad (S.Gw PassesOwn.never rfl (S.Ld (S.Aw c_roots_in (hr.mono (by decide)) (S.Aa (S.pv 0) S.Ac))) (S.Cr rfl (S.Ao (S.Aq (i:=3) Fv.nd rfl (Or.inl rfl)) (S.Ao (S.Aq (i:=4) Fv.nd rfl (Or.inl rfl)) S.Bq))) (S.Ad (S.Ai (i:=5) Fv.nd rfl (Or.inl rfl) (S.Aw c_root_floor (hr.mono (by decide)) (S.Aa (S.Af Az (S.Af Az (S.pv 3) (S.pv 1)) (S.pv 1)) S.Ac)))
      (S.Ae (S.Ji (S.M8 PySem.F.plainAttrs_list PySem.F.slot_list_append PySem.F.type_list_append Ib (S.pv 2) (S.Aa (S.Av (S.Aa (S.Aw c_over (hr.mono (by decide)) (S.Aa (S.Av (S.Aa (S.pv 5) (S.Aa S.Ab S.Ac))) (S.Aa (S.Av (S.Aa (S.pv 1) (S.Aa S.Ab S.Ac))) S.Ac))) (S.Aa (S.Aw c_over (hr.mono (by decide)) (S.Aa (S.Av (S.Aa (S.Af Cu (S.pv 5) S.Ab) (S.Aa S.Ab S.Ac))) (S.Aa (S.Av (S.Aa (S.pv 1) (S.Aa S.Ab S.Ac))) S.Ac))) S.Ac))) S.Ac))))))
      (S.Ae (S.Al (S.Gs Eb rfl z_tuple PyProof.Rows.boot_tuple (S.Aa (S.pv 2) S.Ac)))))),?_⟩
  have la:=a.len
  refine Am (fun σ' H'=>Same H H'/\∃t,H t=none/\σ'=[some (.ref x),some (.int (sc:Nat)),some (.ref t),none,none,none]/\H' t=some (.lst [])) (fun M hM=> ?_) ?_
  . contradiction
    refine⟨by decide,fun t ht=> ?_⟩
    exact hM _ _ ⟨Same.upd ht _,t,ht,rfl,Ar⟩
  rintro σ H1 ⟨t1,t,nt,rfl,g1⟩
  have rl:(rts fs).length<=4:=Nat.le_trans (List.length_filter_le _ _) la
  refine Am (fun σ' H'=>∃(ws:List (V × Zt)) (o3 o4 o5:Option V),σ'=[some (.ref x),some (.int (sc:Nat)),some (.ref t),o3,o4,o5]/\PaI K H H' t sc ws ((rts fs).map (·.2))) (fun M hM=> ?_) ?_
  . contradiction
    refine⟨x,fs,162,rfl,t1.tup a.it,fun e he=>(a.al e he).mono t1,by omega,fun p H2 t2 g2=> ?_⟩
    try contradiction
    refine⟨⟨_,.of g2⟩,Qe (es:=rts fs) (inj:=(·.1)) (fun pre σ' H'=>H' p=some (.lst ((rts fs).map (·.1)))/\∃(ws:List (V × Zt)) (o3 o4 o5:Option V),σ'=[some (.ref x),some (.int (sc:Nat)),some (.ref t),o3,o4,o5]/\PaI K H H' t sc ws (pre.map (·.2))) ⟨g2,[],_,_,_,rfl,t1.trans t2,t2 _ _ g1,by simp,rfl,by simp⟩ ?_ ?_ ?_⟩
    . rintro pre σ' H' ⟨gp,_⟩
      exact K3 (.of gp)
    . rintro pre e post σ' H' hE ⟨gp,ws,o3,o4,o5,rfl,pa⟩
      have em:e∈rts fs:=by rw [hE];simp
      have ef:e∈fs:=(List.mem_filter.mp em).1
      have pt:p≠t:=fun z=>by
        have h1:=t2 _ _ g1
        rw [z,h1]at g2
        have:=(HO.lst.inj (Option.some.inj g2)).symm
        rw [List.map_eq_nil_iff]at this
        unfold rts at em
        rw [this]at em
        simp at em
      obtain⟨b,u,eb,hb,hu,zu⟩:=(a.al e ef).mono pa.sm
      obtain⟨fr,d2,_⟩:=a.ky e ef
      have f1:=fr.1
      obtain⟨d,hd⟩:∃d:Nat,e.2.1=d:=⟨e.2.1.toNat,by omega⟩
      have dl:d<2^14:=by omega
      have ds:Sz 14 (d:Int):=by unfold Sz;omega
      have ss:Sz 2048 (sc:Int):=by unfold Sz;exact s2
      rw [eb]
      refine Ck hb ?_
      rw [hd]
      contradiction
      refine⟨ds.mulOk ss (by decide),(ds.mul ss).mulOk ss (by decide),_,rfl,Int.mul_nonneg (Int.mul_nonneg (by omega) (by omega)) (by omega),((ds.mul ss).mul ss).mono (by decide),fun r r0 _ r1 r2=> ?_⟩
      obtain⟨ρ,rfl⟩:∃ρ:Nat,r=ρ:=⟨r.toNat,by omega⟩
      have rl:ρ<2^2055:=Ads (d:=d) (sc:=sc) (by exact_mod_cast r1) dl s2
      have rl1:ρ+1<2^2056:=by
        rw [Nat.pow_succ]
        have:=Nat.two_pow_pos 2055
        omega
      have sl:sc<2^2056:=Nat.lt_of_lt_of_le s2 (Nat.pow_le_pow_right (by decide) (by decide))
      have zr:Szq 2056 ((ρ:Nat):Rat):=Szq.nat (by omega) (by decide)
      have zr1:Szq 2056 ((ρ+1:Nat):Rat):=Szq.nat rl1 (by decide)
      have zs:Szq 2056 ((sc:Nat):Rat):=Szq.nat sl (by decide)
      have sn:((sc:Nat):Rat).num≠0:=show((sc:Nat):Int)≠0 by omega
      try contradiction
      refine⟨.inl ⟨rfl,_,.of pa.it⟩,?_⟩
      (intro q1 hq1;generalize eq1:upd _ q1 _=Gq1;obtain⟨sq1,gq1⟩:=nw hq1 eq1;clear eq1 hq1)
      (intro q2 hq2;generalize eq2:upd _ q2 _=Gq2;obtain⟨sq2,gq2⟩:=nw hq2 eq2;clear eq2 hq2)
      refine⟨_,_,((ρ:Nat):Rat),((sc:Nat):Rat),2056,2056,rfl,⟨q1,rfl,.of (sq2 _ _ gq1)⟩,⟨q2,rfl,.of gq2⟩,zr,zs,by decide,sn,fun v1 H3 s3 i1=> ?_⟩
      try contradiction
      (intro q3 hq3;generalize eq3:upd _ q3 _=Gq3;obtain⟨sq3,gq3⟩:=nw hq3 eq3;clear eq3 hq3)
      (intro q4 hq4;generalize eq4:upd _ q4 _=Gq4;obtain⟨sq4,gq4⟩:=nw hq4 eq4;clear eq4 hq4)
      refine⟨_,_,((ρ+1:Nat):Rat),((sc:Nat):Rat),2056,2056,rfl,⟨q3,rfl,.of (sq4 _ _ gq3)⟩,⟨q4,rfl,.of gq4⟩,zr1,zs,by decide,sn,fun v2 H4 s4 i2=> ?_⟩
      try contradiction
      (intro q5 hq5;generalize eq5:upd _ q5 _=Gq5;obtain⟨sq5,gq5⟩:=nw hq5 eq5;clear eq5 hq5)
      have s34:=(sq3.trans sq4).trans s4
      have sA:=((((sq1.trans sq2).trans s3).trans s34)).trans sq5
      have g5:=sA _ _ pa.it
      have wl:ws.length<=4:=by
        have h1:=congrArg List.length pa.eq
        rw [List.length_map,List.length_map]at h1
        have:pre.length<=(rts fs).length:=by rw [hE];simp
        omega
      have bf:=Zc (d:=(d:Int)) (r:=ρ) s1 r1 r2
      refine⟨t,_,_,rfl,rfl,g5,by rw [List.length_map];exact Nat.lt_of_le_of_lt wl (by decide),?_,ws++ [(.ref q5,(e.2,((ρ:Rat)/sc,((ρ+1:Nat):Rat)/sc)))],_,_,_,rfl,(pa.sm.trans sA).put nt,?_,?_,?_,?_⟩
      . rw [Bs pt]
        exact sA _ _ gp
      . rw [Ar,List.map_append]
        rfl
      . intro w hw
        rcases List.mem_append.mp hw with hw | hw
        . exact((pa.al w hw).mono sA).putL g5
        . have ew:w=(.ref q5,(e.2,((ρ:Rat)/sc,((ρ+1:Nat):Rat)/sc))):=by simpa using hw
          rw [ew]
          exact Pv.putL (ys:=ws.map (·.1)) ⟨q5,v1,v2,rfl,.of gq5,i1.mono (s34.trans sq5),i2.mono sq5,(W7 s1 (by omega) sl).mono (by decide),(W7 s1 rl1 sl).mono (by decide)⟩ g5
      . rw [List.map_append,List.map_append,pa.eq]
        rfl
      . intro w hw
        rcases List.mem_append.mp hw with hw | hw
        . exact pa.bd w hw
        . have ew:w=(.ref q5,(e.2,((ρ:Rat)/sc,((ρ+1:Nat):Rat)/sc))):=by simpa using hw
          rw [ew]
          show Bd e.2.1 _/\_
          rw [hd]
          exact bf
    . rintro σ' H' ⟨_,ws,o3,o4,o5,rfl,pa⟩
      exact hM _ _ ⟨ws,o3,o4,o5,rfl,pa⟩
  rintro σ H2 ⟨ws,o3,o4,o5,rfl,pa⟩
  contradiction
  refine⟨t,_,rfl,.inl ⟨.of pa.it,?_⟩⟩
  (intro q hq;generalize eq:upd _ q _=Gq;obtain⟨sq,gq⟩:=nw hq eq;clear eq hq)
  exact k q _ ws (pa.sm.trans sq) ⟨.of gq,fun w hw=>(pa.al w hw).mono sq⟩ pa.eq pa.bd
theorem Ol {α β γ δ:Type}{f:α->β->γ}{g:γ->δ}{h:α->δ} (e:∀a b,g (f a b)=h a):∀ {xs:List α}{ys:List β},xs.length=ys.length->(List.zipWith f xs ys).map g=xs.map h
  | [],[],_=>rfl
  | [],_::_,l=>by simp at l
  | _::_,[],l=>by simp at l
  | x::xs,y::ys,l=>by
    rw [List.zipWith_cons_cons,List.map_cons,List.map_cons,e,Ol e (by simpa using l)]
theorem Ug {α β γ δ:Type}{f:α->β->γ}{g:γ->δ}{h:β->δ} (e:∀a b,g (f a b)=h b):∀ {xs:List α}{ys:List β},xs.length=ys.length->(List.zipWith f xs ys).map g=ys.map h
  | [],[],_=>rfl
  | [],_::_,l=>by simp at l
  | _::_,[],l=>by simp at l
  | x::xs,y::ys,l=>by
    rw [List.zipWith_cons_cons,List.map_cons,List.map_cons,e,Ug e (by simpa using l)]
theorem Vi {α β γ:Type}{f:α->β->γ}{P:γ->Prop}:∀ {xs:List α}{ys:List β},(∀a∈xs,∀b∈ys,P (f a b))->∀c∈List.zipWith f xs ys,P c
  | [],_,_,c,hc=>by simp at hc
  | _::_,[],_,c,hc=>by simp at hc
  | x::xs,y::ys,h,c,hc=>by
    rw [List.zipWith_cons_cons]at hc
    rcases List.mem_cons.mp hc with rfl | hc
    . exact h x (by simp) y (by simp)
    . exact Vi (fun a ha b hb=>h a (by simp [ha]) b (by simp [hb])) c hc
def bz (z:Zt):Nat:=if z.1.1=1 then 170 else 2300
def wsz:List Zt->Nat
  | []=>0
  | z::r=>bz z+1+wsz r
theorem Iv (z:Zt):∀r,wsz (r++ [z])=wsz r+(bz z+1)
  | []=>by
    show bz z+1+0=0+(bz z+1)
    omega
  | y::r=>by
    show bz y+1+wsz (r++ [z])=bz y+1+wsz r+(bz z+1)
    rw [Iv z r]
    omega
theorem Iz:∀r s,wsz (r++s)=wsz r+wsz s
  | [],s=>by
    show wsz s=0+wsz s
    omega
  | y::r,s=>by
    show bz y+1+wsz (r++s)=bz y+1+wsz r+wsz s
    rw [Iz r s]
    omega
theorem Xe {k:Nat}:∀ {r:List Zt},(∀z∈r,bz z<=k)->wsz r<=(k+1)*r.length
  | [],_=>Nat.zero_le _
  | z::r,h=>by
    show bz z+1+wsz r<=_
    have h1:=h z (by simp)
    have h2:=Xe (r:=r) fun y hy=>h y (by simp [hy])
    rw [List.length_cons,Nat.mul_add]
    omega
structure Ue (K:PySem.W.Frag) (H:Hp) (u:(V × V) × Zt):Prop where
  rt:Rt 162 K H u.1.1 u.2.1
  pv:Pv 2200 K H u.1.2 u.2.2
  z1:Szq (bz u.2) (u.2.1.2*u.2.2.1)
  z2:Szq (bz u.2) (u.2.1.2*u.2.2.2)
theorem Ue.mono {H H':Hp}{u:(V × V) × Zt} (h:Ue K H u) (s:Same H H'):Ue K H' u:=⟨h.rt.mono s,h.pv.mono s,h.z1,h.z2⟩
def Fb (ps gs:List (V × (Int × Rat))) (ws:List (V × (Rat × Rat))):List Zt:=ps.map (fun e=>(e.2,((1:Rat),(1:Rat))))++List.zipWith (fun e w=>(e.2,w.2)) gs ws
def Q0 (q:V) (ps gs:List (V × (Int × Rat))) (ws:List (V × (Rat × Rat))):List ((V × V) × Zt):=ps.map (fun e=>((e.1,q),(e.2,((1:Rat),(1:Rat)))))++List.zipWith (fun e w=>((e.1,w.1),(e.2,w.2))) gs ws
theorem Ac4 (q:V) (ps gs:List (V × (Int × Rat))) (ws:List (V × (Rat × Rat))):(Q0 q ps gs ws).map (·.2)=Fb ps gs ws:=by
  unfold Q0 Fb
  rw [List.map_append,List.map_map,List.map_zipWith]
  rfl
theorem Z6 (q:V) {ps gs:List (V × (Int × Rat))}{ws:List (V × (Rat × Rat))} (h:gs.length=ws.length):(Q0 q ps gs ws).map (·.1.1)=(ps++gs).map (·.1):=by
  unfold Q0
  have e:=Ol (f:=fun(e:V × (Int × Rat)) (w:V × (Rat × Rat))=>((e.1,w.1),((e.2,w.2):Zt))) (g:=(·.1.1)) (h:=(·.1)) (fun _ _=>rfl) h
  rw [List.map_append,List.map_append,List.map_map,e]
  rfl
theorem Z5 (q:V) {ps gs:List (V × (Int × Rat))}{ws:List (V × (Rat × Rat))} (h:gs.length=ws.length):(Q0 q ps gs ws).map (·.1.2)=List.replicate ps.length q++ws.map (·.1):=by
  unfold Q0
  have e:=Ug (f:=fun(e:V × (Int × Rat)) (w:V × (Rat × Rat))=>((e.1,w.1),((e.2,w.2):Zt))) (g:=(·.1.2)) (h:=(·.1)) (fun _ _=>rfl) h
  rw [List.map_append,List.map_map,e]
  congr 1
  rw [<-List.map_const']
  rfl
structure Tw (K:PySem.W.Frag) (H:Hp) (x:Addr) (ps gs:List (V × (Int × Rat))):Prop where
  it:SqT K H x ((ps++gs).map (·.1))
  pl:ps.length<=1
  gl:gs.length<=3
  pa:∀e∈ps,Rt 162 K H e.1 e.2/\e.2.1=1
  ga:∀e∈gs,Rt 81 K H e.1 e.2/\1<e.2.1
theorem Tw.mono {H H':Hp}{x:Addr}{ps gs:List (V × (Int × Rat))} (h:Tw K H x ps gs) (s:Same H H'):Tw K H' x ps gs:=⟨s.tup h.it,h.pl,h.gl,fun e he=>⟨(h.pa e he).1.mono s,(h.pa e he).2⟩,fun e he=>⟨(h.ga e he).1.mono s,(h.ga e he).2⟩⟩
structure Pw (K:PySem.W.Frag) (H:Hp) (z:Addr) (ws:List (V × (Rat × Rat))):Prop where
  it:SqT K H z (ws.map (·.1))
  al:∀w∈ws,Pv 2200 K H w.1 w.2
theorem Pw.mono {H H':Hp}{z:Addr}{ws:List (V × (Rat × Rat))} (h:Pw K H z ws) (s:Same H H'):Pw K H' z ws:=⟨s.tup h.it,fun w hw=>(h.al w hw).mono s⟩
def Xz (K:PySem.W.Frag):Sp:=fun vs H Q _=>∃(x z:Addr) (ps gs:List (V × (Int × Rat))) (ws:List (V × (Rat × Rat))),vs=[.ref x,.ref z]/\Tw K H x ps gs/\Pw K H z ws/\gs.length=ws.length/\∀(y:Addr) (u v:V) (H':Hp),Same H H'->SqT K H' y [u,v]->IsQ K H' u (Jb (Fb ps gs ws))->IsQ K H' v (hiS (Fb ps gs ws))->Q (.ref y) H'
theorem Acw {H:Hp}{x z q r r':Addr}{ps gs:List (V × (Int × Rat))}{ws:List (V × (Rat × Rat))} (a:Tw K H x ps gs) (b:Pw K H z ws) (hq:SqT K H q [.ref r,.ref r']) (hr:SqT K H r [.int 1,.int 1]) (hr':SqT K H r' [.int 1,.int 1]):∀u∈Q0 (.ref q) ps gs ws,Ue K H u:=by
  have o1:Szq 1 (1:Rat):=Szq.nat (s:=1) (by decide) (by decide)
  have i1:IsQ K H (.ref r) 1:=⟨r,rfl,hr⟩
  have i2:IsQ K H (.ref r') 1:=⟨r',rfl,hr'⟩
  intro u hu
  unfold Q0 at hu
  rcases List.mem_append.mp hu with hu | hu
  . obtain⟨e,he,rfl⟩:=List.mem_map.mp hu
    obtain⟨h1,h2⟩:=a.pa e he
    obtain⟨_,_,_,_,_,zc⟩:=h1
    have eb:bz (e.2,((1:Rat),(1:Rat)))=170:=if_pos h2
    refine⟨(a.pa e he).1,⟨q,_,_,rfl,hq,i1,i2,o1.mono (by decide),o1.mono (by decide)⟩,?_,?_⟩<;>rw [eb]<;>exact(zc.mul o1).mono (by decide)
  . refine Vi (P:=fun u=>Ue K H u) (fun e he w hw=> ?_) u hu
    obtain⟨h1,h2⟩:=a.ga e he
    obtain⟨_,_,_,_,_,zc⟩:=h1
    obtain⟨_,_,_,_,_,_,_,y1,y2⟩:=b.al w hw
    have eb:bz (e.2,w.2)=2300:=if_neg (show ¬e.2.1=1 by omega)
    refine⟨(a.ga e he).1.up (by decide),b.al w hw,?_,?_⟩<;>rw [eb]
    . exact(zc.mul y1).mono (by decide)
    . exact(zc.mul y2).mono (by decide)
theorem Zx {H:Hp}{x:Addr}{ps gs:List (V × (Int × Rat))}{ws:List (V × (Rat × Rat))} (a:Tw K H x ps gs):wsz (Fb ps gs ws)<=7074:=by
  unfold Fb
  rw [Iz]
  have h1:wsz (ps.map fun e=>(e.2,((1:Rat),(1:Rat))))<=(170+1)*ps.length:=by
    have:=Xe (k:=170) (r:=ps.map fun e=>(e.2,((1:Rat),(1:Rat)))) fun z hz=>by
      obtain⟨e,he,rfl⟩:=List.mem_map.mp hz
      exact Nat.le_of_eq (if_pos (a.pa e he).2)
    rwa [List.length_map]at this
  have h2:wsz (List.zipWith (fun e w=>(e.2,w.2)) gs ws)<=(2300+1)*gs.length:=by
    have:=Xe (k:=2300) (r:=List.zipWith (fun(e:V × (Int × Rat)) (w:V × (Rat × Rat))=>(e.2,w.2)) gs ws) fun z _=>by
      unfold bz
      split<;>decide
    rw [List.length_zipWith]at this
    exact Nat.le_trans this (Nat.mul_le_mul_left _ (Nat.min_le_left _ _))
  have:=a.pl
  have:=a.gl
  omega
structure EnI (K:PySem.W.Frag) (H H':Hp) (i:Nat) (us:List ((V × V) × Zt)) (l g:V):Prop where
  sm:Same H H'
  lo:IsQ K H' l (Jb ((us.take i).map (·.2)))
  hi:IsQ K H' g (hiS ((us.take i).map (·.2)))
  zl:Szq (wsz ((us.take i).map (·.2))+1) (Jb ((us.take i).map (·.2)))
  zg:Szq (wsz ((us.take i).map (·.2))+1) (hiS ((us.take i).map (·.2)))
theorem Aac {f:Addr}{fd:FuncData} (F:Df K mg "ends" X3 ["one","pairs"] f fd) (z_zip:mg "zip"=none) (z_list:mg "list"=none) (z_len:mg "len"=none)  (c_plus:Cal P w K mg base 3 "plus" ["one","other"] (La K)) (c_times:Cal P w K mg base 3 "times" ["one","other"] (K1 K)) (c_sign:Cal P w K mg base 2 "sign" ["one"] (Oi K)):Cal P w K mg base 4 "ends" ["one","pairs"] (Xz K):=by
  refine F.cal (F.fn.ok G5 (fun vs H Q E h=> ?_) (fun cdv A outer s H vs Q E hr h=> ?_))
  . obtain⟨x,z,ps,gs,ws,rfl,_⟩:=h
    rfl
  obtain⟨x,z,ps,gs,ws,rfl,a,b,hl,k⟩:=h
  refine S.Bj ⟨_,(S.Ad (S.Ai (i:=2) G5.nd rfl (Or.inl rfl) (S.Av (S.Aa S.Ab (S.Aa S.Ab S.Ac))))
      (S.Ad (S.Ai (i:=3) G5.nd rfl (Or.inl rfl) (S.Av (S.Aa S.Ab (S.Aa S.Ab S.Ac))))
      (S.Ad (S.Gw PassesOwn.never rfl (S.Lg true false rfl z_zip (S.Aa (S.pv 0) (S.Aa (S.Af Xc (S.Af Z7 (S.Cp (S.Aa (S.Av (S.Aa (S.Av (S.Aa S.Ab (S.Aa S.Ab S.Ac))) (S.Aa (S.Av (S.Aa S.Ab (S.Aa S.Ab S.Ac))) S.Ac))) S.Ac)) (S.Af Ii (S.Bo Bb rfl z_len PySem.boot_len (S.Aa (S.pv 0) S.Ac)) (S.Bo Bb rfl z_len PySem.boot_len (S.Aa (S.pv 1) S.Ac)))) (S.Gs Gz rfl z_list PyProof.Rows.boot_list (S.Aa (S.pv 1) S.Ac))) S.Ac))) (S.Cr rfl (S.Ao (S.Aq (i:=4) G5.nd rfl (Or.inl rfl)) (S.Ao (S.Aq (i:=5) G5.nd rfl (Or.inl rfl)) S.Bq))) (S.Ad (S.Ai (i:=6) G5.nd rfl (Or.inl rfl) (S.Ay Ak (S.pv 4) S.Ab (fun _ _=>rfl)))
      (S.Ad (S.El (S.Iw (S.Ah Dr (S.Aw c_sign (hr.mono (by decide)) (S.Aa (S.pv 6) S.Ac)) S.Ab (Aj _)) (S.pv 5) (S.Uc (S.pv 5) (S.Jj G6 S.Ab))) (S.Cr rfl (S.Ao (S.Aq (i:=7) G5.nd rfl (Or.inl rfl)) (S.Ao (S.Aq (i:=8) G5.nd rfl (Or.inl rfl)) S.Bq))))
      (S.Ad (S.Ai (i:=2) G5.nd rfl (Or.inl rfl) (S.Aw c_plus (hr.mono (by decide)) (S.Aa (S.pv 2) (S.Aa (S.Aw c_times (hr.mono (by decide)) (S.Aa (S.pv 6) (S.Aa (S.pv 7) S.Ac))) S.Ac))))
      (S.Ae (S.Ai (i:=3) G5.nd rfl (Or.inl rfl) (S.Aw c_plus (hr.mono (by decide)) (S.Aa (S.pv 3) (S.Aa (S.Aw c_times (hr.mono (by decide)) (S.Aa (S.pv 6) (S.Aa (S.pv 8) S.Ac))) S.Ac)))))))))
      (S.Ae (S.Al (S.Av (S.Aa (S.pv 2) (S.Aa (S.pv 3) S.Ac)))))))),?_⟩
  refine Am (fun σ' H'=>Same H H'/\∃l:Addr,SqT K H' l [.int 0,.int 1]/\σ'=[some (.ref x),some (.ref z),some (.ref l),none,none,none,none,none,none]) (fun M hM=> ?_) ?_
  . contradiction
    (intro p hp;generalize ep:upd _ p _=Gp;obtain⟨sp,gp⟩:=nw hp ep;clear ep hp)
    exact hM _ _ ⟨sp,p,.of gp,rfl⟩
  rintro σ H1 ⟨s1,l,hl1,rfl⟩
  refine Am (fun σ' H'=>Same H1 H'/\∃g:Addr,SqT K H' g [.int 0,.int 1]/\σ'=[some (.ref x),some (.ref z),some (.ref l),some (.ref g),none,none,none,none,none]) (fun M hM=> ?_) ?_
  . contradiction
    (intro p hp;generalize ep:upd _ p _=Gp;obtain⟨sp,gp⟩:=nw hp ep;clear ep hp)
    exact hM _ _ ⟨sp,p,.of gp,rfl⟩
  rintro σ H2 ⟨s2,g,hg2,rfl⟩
  replace hl1:=s2.tup hl1
  replace s1:=s1.trans s2
  clear s2
  refine Am (fun σ' H'=>Same H H'/\∃(l g:V) (o4 o5 o6 o7 o8:Option V),IsQ K H' l (Jb (Fb ps gs ws))/\IsQ K H' g (hiS (Fb ps gs ws))/\σ'=[some (.ref x),some (.ref z),some l,some g,o4,o5,o6,o7,o8]) (fun M hM=> ?_) ?_
  . contradiction
    (intro p1 hp1;generalize ep1:upd _ p1 _=Gp1;obtain⟨sp1,gp1⟩:=nw hp1 ep1;clear ep1 hp1)
    (intro p2 hp2;generalize ep2:upd _ p2 _=Gp2;obtain⟨sp2,gp2⟩:=nw hp2 ep2;clear ep2 hp2)
    (intro p3 hp3;generalize ep3:upd _ p3 _=Gp3;obtain⟨sp3,gp3⟩:=nw hp3 ep3;clear ep3 hp3)
    (intro p4 hp4;generalize ep4:upd _ p4 _=Gp4;obtain⟨sp4,gp4⟩:=nw hp4 ep4;clear ep4 hp4)
    have s4:=(((s1.trans sp1).trans sp2).trans sp3).trans sp4
    refine⟨x,_,rfl,.inr (s4.tup a.it),z,_,rfl,.inr (s4.tup b.it),?_⟩
    have ek:(((((ps++gs).map (·.1)).length:Nat):Int)-(((ws.map (·.1)).length:Nat):Int))=((ps.length:Nat):Int):=by
      rw [List.length_map,List.length_append,List.length_map]
      omega
    rw [ek]
    have pl:=a.pl
    have wl:ws.length<=3:=by have:=a.gl;omega
    refine⟨p4,_,_,rfl,rfl,gp4,by omega,by omega,by rw [Int.toNat_natCast];exact Nat.le_trans (Nat.mul_le_mul_left 1 pl) (by decide),?_⟩
    rw [Int.toNat_natCast,show(List.replicate ps.length [V.ref p3]).flatten=List.replicate ps.length (V.ref p3)from List.flatten_replicate_singleton]
    (intro p5 hp5;generalize ep5:upd _ p5 _=Gp5;obtain⟨sp5,gp5⟩:=nw hp5 ep5;clear ep5 hp5)
    have s5:=s4.trans sp5
    refine⟨z,_,rfl,.inr (s5.tup b.it),?_⟩
    (intro p6 hp6;generalize ep6:upd _ p6 _=Gp6;obtain⟨sp6,gp6⟩:=nw hp6 ep6;clear ep6 hp6)
    refine⟨p5,p6,_,_,rfl,rfl,sp6 _ _ gp5,gp6,by rw [List.length_replicate,List.length_map];exact Nat.le_trans (Nat.add_le_add pl wl) (by decide),?_⟩
    (intro p7 hp7;generalize ep7:upd _ p7 _=Gp7;obtain⟨sp7,gp7⟩:=nw hp7 ep7;clear ep7 hp7)
    have s7:=(s5.trans sp6).trans sp7
    have t4:=(sp5.trans sp6).trans sp7
    have t3:=sp4.trans t4
    have t2:=sp3.trans t3
    have t1:=sp2.trans t2
    have ue:=Acw (a.mono s7) (b.mono s7) (.of (t3 _ _ gp3)) (.of (t1 _ _ gp1)) (.of (t2 _ _ gp2))
    have hx:SqT K Gp7 x ((Q0 (.ref p3) ps gs ws).map (·.1.1)):=by
      rw [Z6 _ hl]
      exact s7.tup a.it
    have hy:SqL K Gp7 p7 ((Q0 (.ref p3) ps gs ws).map (·.1.2)):=by
      rw [Z5 _ hl]
      exact .of gp7
    have wz:=Zx (ws:=ws) a
    have ez:=Ac4 (.ref p3) ps gs ws
    have sg:Same H2 Gp7:=(((((sp1.trans sp2).trans sp3).trans sp4).trans sp5).trans sp6).trans sp7
    have lg:=sg.tup hl1
    have gg:=sg.tup hg2
    rw [<-ez]at wz hM
    clear ez gp1 gp2 gp3 gp4 gp5 gp6 gp7 sp1 sp2 sp3 sp4 sp5 sp6 sp7 s4 s5 t1 t2 t3 t4 hl1 hg2 sg
    generalize Q0 (.ref p3) ps gs ws=us at*
    have z01:Szq 1 (0:Rat):=Szq.zero (by decide)
    refine⟨x,p7,rfl,⟨_,hx⟩,⟨_,hy⟩,Aar (xs:=us.map (·.1.1)) (ys:=us.map (·.1.2)) us.length (by rw [List.length_map,List.length_map,Nat.min_self]) (fun i σ' H'=>∃(l g:V) (o4 o5 o6 o7 o8:Option V),σ'=[some (.ref x),some (.ref z),some l,some g,o4,o5,o6,o7,o8]/\EnI K Gp7 H' i us l g) ⟨_,_,_,_,_,_,_,rfl,Same.refl _,⟨l,rfl,lg⟩,⟨g,rfl,gg⟩,z01,z01⟩ ?_ ?_ ?_⟩
    . rintro i σ' H' ⟨l,g,o4,o5,o6,o7,o8,_,en⟩
      exact⟨en.sm.tup hx,en.sm.seq hy⟩
    . rintro i σ' H' q hi ⟨l,g,o4,o5,o6,o7,o8,rfl,en⟩ nq
      have e1:(us.map (·.1.1)).getD i .non=us[i].1.1:=by
        rw [List.getD_eq_getElem?_getD,List.getElem?_map,List.getElem?_eq_getElem hi]
        rfl
      have e2:(us.map (·.1.2)).getD i .non=us[i].1.2:=by
        rw [List.getD_eq_getElem?_getD,List.getElem?_map,List.getElem?_eq_getElem hi]
        rfl
      rw [e1,e2]
      obtain⟨sq,gq⟩:=nw nq rfl
      refine Ck (.of gq) ?_
      generalize upd H' q (.tup [us[i].1.1,us[i].1.2])=H3 at sq gq
      have ui:=(ue us[i] (List.getElem_mem hi)).mono (en.sm.trans sq)
      obtain⟨⟨b1,c1,eb1,hb1,hc1,zc1⟩,⟨b2,u2,v2,eb2,hb2,hu2,hv2,zu2,zv2⟩,z1,z2⟩:=ui
      have il:=en.lo.mono sq
      have ig:=en.hi.mono sq
      have sm:=en.sm.trans sq
      have wl:wsz ((us.take i).map (·.2))+(bz us[i].2+1)<=7074:=by
        have h1:us=us.take (i+1)++us.drop (i+1):=(List.take_append_drop _ _).symm
        have h2:us.take (i+1)=us.take i++ [us[i]]:=(List.take_append_getElem hi).symm
        rw [h1,h2,List.map_append,List.map_append,Iz,List.map_cons,List.map_nil,Iv]at wz
        omega
      have tk:(us.take (i+1)).map (·.2)=(us.take i).map (·.2)++ [us[i].2]:=by
        rw [<-List.take_append_getElem hi,List.map_append]
        rfl
      rw [eb1,eb2]
      simp only [List.set_cons_succ,List.set_cons_zero]
      refine Am (fun σ' H''=>H''=H3/\σ'=[some (.ref x),some (.ref z),some l,some g,some (.ref b1),some (.ref b2),some c1,o7,o8]) (fun M hM=> ?_) ?_
      . contradiction
        exact Bf hb1 (at1 _ _ _) (hM _ _ ⟨rfl,rfl⟩)
      rintro _ H4 ⟨e4,rfl⟩
      rw [e4]
      clear e4 H4
      refine Am (fun σ' H''=>Same H3 H''/\∃u v:V,IsQ K H'' u (tL us[i].2)/\IsQ K H'' v (tG us[i].2)/\σ'=[some (.ref x),some (.ref z),some l,some g,some (.ref b1),some (.ref b2),some c1,some u,some v]) (fun M hM=> ?_) ?_
      . contradiction
        refine⟨c1,_,rfl,hc1,?_⟩
        have e1:(sg us[i].2.1.2=1)=(0<us[i].2.1.2):=by
          unfold sg
          refine propext ⟨fun h=> ?_,fun h=> ?_⟩
          . split at h
            . omega
            . split at h
              . assumption
              . omega
          . rw [if_neg (by grind),if_pos h]
        try contradiction
        unfold tL tG at hM
        by_cases hc:0<us[i].2.1.2
        . rw [if_pos (e1▸hc)]
          rw [if_pos hc,if_pos hc]at hM
          refine Ck hb2 ?_
          exact hM _ _ ⟨Same.refl _,u2,v2,hu2,hv2,rfl⟩
        . rw [if_neg (e1▸hc)]
          rw [if_neg hc,if_neg hc]at hM
          refine⟨b2,_,rfl,hb2,?_⟩
          (intro r hr;generalize er:upd _ r _=Gr;obtain⟨sr,gr⟩:=nw hr er;clear er hr)
          refine Ck (.of gr) ?_
          exact hM _ _ ⟨sr,v2,u2,hv2.mono sr,hu2.mono sr,rfl⟩
      rintro σ H4 ⟨s4,u,v,iu,iv,rfl⟩
      have zL:Szq 2200 (tL us[i].2)/\Szq (bz us[i].2) (us[i].2.1.2*tL us[i].2):=by
        unfold tL
        split
        . exact⟨zu2,z1⟩
        . exact⟨zv2,z2⟩
      have zG:Szq 2200 (tG us[i].2)/\Szq (bz us[i].2) (us[i].2.1.2*tG us[i].2):=by
        unfold tG
        split
        . exact⟨zv2,z2⟩
        . exact⟨zu2,z1⟩
      have hc4:=hc1.mono s4
      contradiction
      refine⟨c1,u,_,_,162,2200,rfl,hc4,iu,zc1,zL.1,by decide,fun t5 H5 s5 i5=> ?_⟩
      refine⟨l,t5,_,_,_,_,rfl,(il.mono s4).mono s5,i5,en.zl,zL.2,by omega,fun t6 H6 s6 i6=> ?_⟩
      try contradiction
      have s46:=s5.trans s6
      refine⟨c1,v,_,_,162,2200,rfl,hc4.mono s46,iv.mono s46,zc1,zG.1,by decide,fun t7 H7 s7 i7=> ?_⟩
      have s47:=s46.trans s7
      refine⟨g,t7,_,_,_,_,rfl,(ig.mono s4).mono s47,i7,en.zg,zG.2,by omega,fun t8 H8 s8 i8=> ?_⟩
      try contradiction
      refine⟨t6,t8,_,_,_,_,_,rfl,sm.trans ((s4.trans s47).trans s8),?_,?_,?_,?_⟩
      . rw [tk,Ei]
        exact i6.mono (s7.trans s8)
      . rw [tk,Hl]
        exact i8
      . rw [tk,Ei,Iv]
        exact(en.zl.add zL.2).mono (by omega)
      . rw [tk,Hl,Iv]
        exact(en.zg.add zG.2).mono (by omega)
    . rintro σ' H' ⟨l,g,o4,o5,o6,o7,o8,rfl,en⟩
      have:=en.lo
      have e2:=en.hi
      rw [List.take_length]at this e2
      exact hM _ _ ⟨s7.trans en.sm,l,g,o4,o5,o6,o7,o8,this,e2,rfl⟩
  rintro σ H3 ⟨s3,l3,g3,o4,o5,o6,o7,o8,i1,i2,rfl⟩
  contradiction
  (intro q hq;generalize eq:upd _ q _=Gq;obtain⟨sq,gq⟩:=nw hq eq;clear eq hq)
  exact k q l3 g3 _ (s3.trans sq) (.of gq) (i1.mono sq) (i2.mono sq)
def Hj (K:PySem.W.Frag):Sp:=fun vs H Q _=>∃(x z:Addr) (ps gs:List (V × (Int × Rat))) (ws:List (V × (Rat × Rat))),vs=[.ref x,.ref z]/\Tw K H x ps gs/\Pw K H z ws/\gs.length=ws.length/\∀H',Same H H'->Q (.int (shB (Fb ps gs ws))) H'
theorem Z1 (q:Rat):(sg q=1)=(0<q):=by
  unfold sg
  refine propext ⟨fun h=> ?_,fun h=> ?_⟩
  . split at h
    . omega
    . split at h
      . assumption
      . omega
  . rw [if_neg (by grind),if_pos h]
theorem Og (q:Rat):(sg q= -1)=(q<0):=by
  unfold sg
  refine propext ⟨fun h=> ?_,fun h=> ?_⟩
  . split at h
    . omega
    . split at h
      . omega
      . grind
  . rw [if_neg (by grind),if_neg (by grind)]
theorem Ox {f:Addr}{fd:FuncData} (F:Df K mg "sign_shown" Ih ["one","pairs"] f fd)   (c_ends:Cal P w K mg base 4 "ends" ["one","pairs"] (Xz K)) (c_sign:Cal P w K mg base 2 "sign" ["one"] (Oi K)):Cal P w K mg base 5 "sign_shown" ["one","pairs"] (Hj K):=by
  refine F.cal (F.fn.ok Hr (fun vs H Q E h=> ?_) (fun cdv A outer s H vs Q E hr h=> ?_))
  . obtain⟨x,z,ps,gs,ws,rfl,_⟩:=h
    rfl
  obtain⟨x,z,ps,gs,ws,rfl,a,b,hl,k⟩:=h
  refine S.Bj ⟨_,(S.Ad (S.El (S.Aw c_ends (hr.mono (by decide)) (S.Aa (S.pv 0) (S.Aa (S.pv 1) S.Ac))) (S.Cr rfl (S.Ao (S.Aq (i:=2) Hr.nd rfl (Or.inl rfl)) (S.Ao (S.Aq (i:=3) Hr.nd rfl (Or.inl rfl)) S.Bq))))
      (S.Ad (S.Bm (S.Ah Dr (S.Aw c_sign (hr.mono (by decide)) (S.Aa (S.pv 2) S.Ac)) S.Ab (Aj _)) (S.Ae (S.Al S.Ab)) S.Ax)
      (S.Ae (S.Al (S.Iw (S.Ah Dr (S.Aw c_sign (hr.mono (by decide)) (S.Aa (S.pv 3) S.Ac)) (S.Jj G6 S.Ab) (Aj _)) (S.Jj G6 S.Ab) S.Ab))))),?_⟩
  contradiction
  refine⟨x,z,ps,gs,ws,rfl,a,b,hl,fun y u v H1 s1 hy iu iv=> ?_⟩
  refine Ck hy ?_
  contradiction
  refine⟨u,_,rfl,iu,?_⟩
  have kk:=k _ s1
  unfold shB at kk
  try contradiction
  by_cases h1:0<Jb (Fb ps gs ws)
  . rw [if_pos (Z1 _▸h1)]
    rw [if_pos h1]at kk
    exact kk
  . rw [if_neg (Z1 _▸h1)]
    rw [if_neg h1]at kk
    refine⟨v,_,rfl,iv,?_⟩
    try contradiction
    by_cases h2:hiS (Fb ps gs ws)<0
    . rw [if_pos (Og _▸h2)]
      rw [if_pos h2]at kk
      exact kk
    . rw [if_neg (Og _▸h2)]
      rw [if_neg h2]at kk
      exact kk
structure On (K:PySem.W.Frag) (H:Hp) (x:Addr) (ps gs:List (V × (Int × Rat))):Prop where
  tw:Tw K H x ps gs
  up:((ps++gs).map (·.2)).Pairwise fun a b=>a.1<b.1
  fr:∀e∈ps++gs,Fr e.2.1/\e.2.1<=10000/\e.2.2≠0
  cb:∀e∈ps++gs,Co e.2.2 1152921504606846976
  cp:∀e∈ps,e.2.2.den<=2^100
  cg:∀e∈gs,e.2.2.den<=1048576
theorem On.mono {H H':Hp}{x:Addr}{ps gs:List (V × (Int × Rat))} (h:On K H x ps gs) (s:Same H H'):On K H' x ps gs:=⟨h.tw.mono s,h.up,h.fr,h.cb,h.cp,h.cg⟩
theorem On.rts {H:Hp}{x:Addr}{ps gs:List (V × (Int × Rat))} (h:On K H x ps gs):rts (ps++gs)=gs:=by
  unfold Z.rts
  rw [List.filter_append,List.filter_eq_nil_iff.mpr fun e he=>by rw [(h.tw.pa e he).2];decide,List.nil_append]
  exact List.filter_eq_self.mpr fun e he=>decide_eq_true (h.tw.ga e he).2
theorem On.sm {H:Hp}{x:Addr}{ps gs:List (V × (Int × Rat))} (h:On K H x ps gs):Sm K H x (ps++gs) 162 10000:=by
  refine⟨h.tw.it,fun e he=> ?_,h.up,h.fr,?_⟩
  . rcases List.mem_append.mp he with he | he
    . exact(h.tw.pa e he).1
    . exact(h.tw.ga e he).1.up (by decide)
  . have e:big ((ps++gs).map (·.2))=(Z.rts (ps++gs)).length:=by
      unfold big Z.rts
      rw [List.filter_map,List.length_map]
      rfl
    rw [e,h.rts]
    exact h.tw.gl
structure Gp (K:PySem.W.Frag) (H:Hp) (z:Addr) (ps gs:List (V × (Int × Rat))) (f:Int) (pz:Addr) (ws:List (V × (Rat × Rat))):Prop where
  it:SqT K H z [.int f,.ref pz]
  pi:SqT K H pz (ws.map (·.1))
  pl:∀w∈ws,Pv 2060 K H w.1 w.2
  le:gs.length=ws.length
  bd:∀t∈Fb ps gs ws,Bd t.1.1 t.2
  sh:f=shB (Fb ps gs ws)
  nz:ps++gs≠ []->f≠0
theorem Gp.mono {H H':Hp}{z:Addr}{ps gs:List (V × (Int × Rat))}{f:Int}{pz:Addr}{ws:List (V × (Rat × Rat))} (h:Gp K H z ps gs f pz ws) (s:Same H H'):Gp K H' z ps gs f pz ws:=⟨s.tup h.it,s.tup h.pi,fun w hw=>(h.pl w hw).mono s,h.le,h.bd,h.sh,h.nz⟩
def Lq (K:PySem.W.Frag):Sp:=fun vs H Q _=>∃(x:Addr) (ps gs:List (V × (Int × Rat))),vs=[.ref x]/\On K H x ps gs/\∀(z:Addr) (H':Hp) (f:Int) (pz:Addr) (ws:List (V × (Rat × Rat))),Same H H'->Gp K H' z ps gs f pz ws->Q (.ref z) H'
structure Ps (K:PySem.W.Frag) (H:Hp) (pz:Addr) (ps gs:List (V × (Int × Rat))) (sc:Nat) (ws:List (V × (Rat × Rat))):Prop where
  pi:SqT K H pz (ws.map (·.1))
  pl:∀w∈ws,Pv 2060 K H w.1 w.2
  le:gs.length=ws.length
  rz:∀t∈List.zipWith (fun(e:V × (Int × Rat)) (w:V × (Rat × Rat))=>((e.2,w.2):Zt)) gs ws,Bd t.1.1 t.2/\t.2.2<=t.2.1+1/(sc:Rat)
theorem Ps.mono {H H':Hp}{pz:Addr}{ps gs:List (V × (Int × Rat))}{sc:Nat}{ws:List (V × (Rat × Rat))} (h:Ps K H pz ps gs sc ws) (s:Same H H'):Ps K H' pz ps gs sc ws:=⟨s.tup h.pi,fun w hw=>(h.pl w hw).mono s,h.le,h.rz⟩
theorem Ps.pw {H:Hp}{pz:Addr}{ps gs:List (V × (Int × Rat))}{sc:Nat}{ws:List (V × (Rat × Rat))} (h:Ps K H pz ps gs sc ws):Pw K H pz ws:=⟨h.pi,fun w hw=>(h.pl w hw).up (by decide)⟩
theorem V9:Bd 1 ((1:Rat),(1:Rat)):=⟨by decide,by decide,by
  show(1:Rat)*1<=1
  grind,by
  show(1:Rat)<=1*1
  grind⟩
theorem Ps.bd {H:Hp}{pz x:Addr}{ps gs:List (V × (Int × Rat))}{sc:Nat}{ws:List (V × (Rat × Rat))} (h:Ps K H pz ps gs sc ws) (a:On K H x ps gs):∀t∈Fb ps gs ws,Bd t.1.1 t.2:=by
  intro t ht
  unfold Fb at ht
  rcases List.mem_append.mp ht with ht | ht
  . obtain⟨e,he,rfl⟩:=List.mem_map.mp ht
    show Bd e.2.1 _
    rw [(a.tw.pa e he).2]
    exact V9
  . exact(h.rz t ht).1
theorem Ps.shown {H:Hp}{pz x:Addr}{ps gs:List (V × (Int × Rat))}{sc:Nat}{ws:List (V × (Rat × Rat))} (h:Ps K H pz ps gs sc ws) (a:On K H x ps gs) (hs:sc=2^2047) (ne:ps++gs≠ []):shB (Fb ps gs ws)≠0:=by
  intro z0
  have s1:1<=sc:=by rw [hs];exact Nat.two_pow_pos _
  have p:(0:Rat)<(sc:Rat):=Rat.natCast_pos.mpr s1
  obtain⟨δ,hδ⟩:∃δ:Rat,δ=1/(sc:Rat):=⟨_,rfl⟩
  have dm:δ*(sc:Rat)=1:=by rw [hδ];exact Rat.div_mul_cancel (by grind)
  have δ0:0<=δ:=Rat.not_lt.mp fun z=>by
    have:=Rat.mul_pos (show 0<0-δ by grind) p
    grind
  have sc1:(1:Rat)<=(sc:Rat):=Rat.natCast_le_natCast (a:=1).mpr s1
  have δ1:δ<=1:=by
    have:=Rat.mul_le_mul_of_nonneg_left sc1 δ0
    grind
  obtain⟨rs,hrs⟩:∃rs:List Zt,rs=List.zipWith (fun(e:V × (Int × Rat)) (w:V × (Rat × Rat))=>((e.2,w.2):Zt)) gs ws:=⟨_,rfl⟩
  have r1:rs.map (·.1)=gs.map (·.2):=by
    rw [hrs]
    exact Ol (f:=fun(e:V × (Int × Rat)) (w:V × (Rat × Rat))=>((e.2,w.2):Zt)) (g:=(·.1)) (h:=(·.2)) (fun _ _=>rfl) h.le
  have rl:rs.length<=3:=by
    have:=congrArg List.length r1
    rw [List.length_map,List.length_map]at this
    have:=a.tw.gl
    omega
  have rz:∀t∈rs,Rz δ t:=fun t ht=>by
    have hm:t.1∈gs.map (·.2):=by rw [<-r1];exact List.mem_map.mpr ⟨t,ht,rfl⟩
    obtain⟨e,he,ee⟩:=List.mem_map.mp hm
    have b:=h.rz t (by rw [<-hrs];exact ht)
    have f:=a.fr e (by simp [he])
    have c:=a.cb e (by simp [he])
    have g:=a.cg e he
    have d:=(a.tw.ga e he).2
    rw [ee]at f c g d
    exact⟨b.1,by rw [hδ];exact b.2,d,f.2.1,f.1.2,f.2.2,c,g⟩
  have up:(rs.map (·.1)).Pairwise fun a b=>a.1<b.1:=by
    rw [r1]
    have:=a.up
    rw [List.map_append,List.pairwise_append]at this
    exact this.2.1
  have ezs:Fb ps gs ws=ps.map (fun e=>(e.2,((1:Rat),(1:Rat))))++rs:=by rw [hrs];rfl
  have lo:Jb (Fb ps gs ws)<=0/\0<=hiS (Fb ps gs ws):=by
    unfold shB at z0
    constructor
    . refine Rat.not_lt.mp fun z=> ?_
      rw [if_pos z]at z0
      omega
    . refine Rat.not_lt.mp fun z=> ?_
      by_cases g:0<Jb (Fb ps gs ws)
      . rw [if_pos g]at z0
        omega
      . rw [if_neg g,if_pos z]at z0
        omega
  rw [ezs]at lo
  have hκ:δ*((2^2047:Nat):Rat)<=1:=by
    rw [<-hs,dm]
    grind
  have pl:=a.tw.pl
  match ps,pl,a,lo,ne with
  | [],_,a,lo,ne=>
    have ne':rs≠ []:=fun z=>ne (by
      rw [z]at r1
      have:gs=[]:=by simpa using r1.symm
      rw [this]
      rfl)
    exact Z.shown (c0:=0) rl rz up ⟨by grind,by grind⟩ (by decide) (.inr ne') δ0 δ1 hκ (by have:=lo.1;replace this:Jb rs<=0:=this;grind) (by have:=lo.2;replace this:0<=hiS rs:=this;grind)
  | [e],_,a,lo,ne=>
    have c0:=(a.fr e (by simp)).2.2
    have l1:=lo.1
    have l2:=lo.2
    replace l1:e.2.2*tL (e.2,((1:Rat),(1:Rat)))+Jb rs<=0:=l1
    replace l2:0<=e.2.2*tG (e.2,((1:Rat),(1:Rat)))+hiS rs:=l2
    have t1:tL (e.2,((1:Rat),(1:Rat)))=1:=by
      unfold tL
      split<;>rfl
    have t2:tG (e.2,((1:Rat),(1:Rat)))=1:=by
      unfold tG
      split<;>rfl
    rw [t1,Rat.mul_one]at l1
    rw [t2,Rat.mul_one]at l2
    exact Z.shown (c0:=e.2.2) rl rz up (a.cb e (by simp)) (a.cp e (by simp)) (.inl c0) δ0 δ1 hκ l1 l2
  | _::_::_,pl,_,_,_=>
    simp at pl
theorem Xb:∀ {gs:List (V × (Int × Rat))}{ws:List (V × Zt)},ws.map (·.2.1)=gs.map (·.2)->List.zipWith (fun(e:V × (Int × Rat)) (w:V × (Rat × Rat))=>((e.2,w.2):Zt)) gs (ws.map fun w=>(w.1,w.2.2))=ws.map (·.2)
  | [],[],_=>rfl
  | [],_::_,h=>by simp at h
  | _::_,[],h=>by simp at h
  | g::gs,w::ws,h=>by
    obtain⟨h1,h2⟩:=List.cons.inj h
    rw [List.map_cons,List.zipWith_cons_cons,Xb h2,List.map_cons]
    congr 1
    exact Prod.ext h1.symm rfl
theorem Ws {H H1:Hp}{Q:VK}{E:XK}{x:Addr}{ps gs:List (V × (Int × Rat))}{sc:Nat} (a:On K H1 x ps gs) (s:Same H1 H) (s1:1<=sc) (s2:sc<2^2048) (k:∀pz H' ws,Same H H'->Ps K H' pz ps gs sc ws->Q (.ref pz) H'):Jm K [.ref x,.int (sc:Nat)] H Q E:=by
  refine⟨x,ps++gs,sc,rfl,(a.mono s).sm,s1,s2,fun z H' ws s' pr eq bd=> ?_⟩
  rw [a.rts]at eq
  refine k z H' (ws.map fun w=>(w.1,w.2.2)) s' ⟨?_,?_,?_,?_⟩
  . rw [List.map_map]
    exact pr.it
  . intro w hw
    obtain⟨v,hv,rfl⟩:=List.mem_map.mp hw
    exact pr.al v hv
  . have:=congrArg List.length eq
    rw [List.length_map,List.length_map]at this
    rw [List.length_map]
    exact this.symm
  . rw [Xb eq]
    intro t ht
    obtain⟨w,hw,rfl⟩:=List.mem_map.mp ht
    exact bd w hw
theorem U6 {f:Addr}{fd:FuncData} (F:Df K mg "s_paper" Nm ["one"] f fd)   (c_pairs_at:Cal P w K mg base 4 "pairs_at" ["one","scale"] (Jm K)) (c_sign_shown:Cal P w K mg base 5 "sign_shown" ["one","pairs"] (Hj K)):Cal P w K mg base 6 "s_paper" ["one"] (Lq K):=by
  refine F.cal (F.fn.ok Ds (fun vs H Q E h=> ?_) (fun cdv A outer s H vs Q E hr h=> ?_))
  . obtain⟨x,ps,gs,rfl,_⟩:=h
    rfl
  obtain⟨x,ps,gs,rfl,a,k⟩:=h
  refine S.Bj ⟨_,(S.Ad (S.Bm (S.Ah (M6 hr.units) (S.pv 0) (S.Av S.Ac) (Aj _)) (S.Ae (S.Al (S.Av (S.Aa S.Ab (S.Aa (S.Av S.Ac) S.Ac))))) S.Ax)
      (S.Ad (S.Ai (i:=1) Ds.nd rfl (Or.inl rfl) S.Ab)
      (S.Ad (S.Ai (i:=2) Ds.nd rfl (Or.inl rfl) (S.Aw c_pairs_at (hr.mono (by decide)) (S.Aa (S.pv 0) (S.Aa (S.pv 1) S.Ac))))
      (S.Ad (S.Ai (i:=3) Ds.nd rfl (Or.inl rfl) (S.Aw c_sign_shown (hr.mono (by decide)) (S.Aa (S.pv 0) (S.Aa (S.pv 2) S.Ac))))
      (S.Ad (S.Ho PassesOwn.never (S.Ah Dr (S.pv 3) S.Ab (Aj _)) (S.Ad (S.Ai (i:=1) Ds.nd rfl (Or.inl rfl) (S.Af Az (S.Af Az S.Ab (S.pv 1)) (S.pv 1)))
      (S.Ad (S.Ai (i:=2) Ds.nd rfl (Or.inl rfl) (S.Aw c_pairs_at (hr.mono (by decide)) (S.Aa (S.pv 0) (S.Aa (S.pv 1) S.Ac))))
      (S.Ae (S.Ai (i:=3) Ds.nd rfl (Or.inl rfl) (S.Aw c_sign_shown (hr.mono (by decide)) (S.Aa (S.pv 0) (S.Aa (S.pv 2) S.Ac))))))))
      (S.Ae (S.Al (S.Av (S.Aa (S.pv 3) (S.Aa (S.pv 2) S.Ac)))))))))),?_⟩
  have sm:=a.sm
  refine Am (fun σ' H'=>Same H H'/\ps++gs≠ []/\σ'=[some (.ref x),none,none,none]) (fun M hM=> ?_) ?_
  . contradiction
    refine⟨by decide,?_⟩
    (intro q hq;generalize eq:upd _ q _=Gq;obtain⟨sq,gq⟩:=nw hq eq;clear eq hq)
    refine Ip (sq.tup sm.it) (fun e he=>(sm.al e he).mono sq) (.of gq) ?_
    by_cases e0:ps++gs=[]
    . rw [decide_eq_true e0]
      try contradiction
      refine⟨by decide,?_⟩
      (intro r hr;generalize er:upd _ r _=Gr;obtain⟨sr,gr⟩:=nw hr er;clear er hr)
      (intro t ht;generalize et:upd _ t _=Gt;obtain⟨st,gt⟩:=nw ht et;clear et ht)
      obtain⟨p0,g0⟩:=List.append_eq_nil_iff.mp e0
      subst p0 g0
      exact k t _ 0 r [] ((sq.trans sr).trans st) ⟨.of gt,.of (st _ _ gr),by simp,rfl,by simp [Fb],rfl,fun h=>absurd rfl h⟩
    . rw [decide_eq_false e0]
      exact⟨false,rfl,hM _ _ ⟨sq,e0,rfl⟩⟩
  rintro σ H1 ⟨s1,ne,rfl⟩
  have a1:=a.mono s1
  refine Am (fun σ' H'=>H'=H1/\σ'=[some (.ref x),some (.int ((1:Nat):Int)),none,none]) (fun M hM=> ?_) ?_
  . contradiction
    exact hM _ _ ⟨rfl,rfl⟩
  rintro _ H2 ⟨e2,rfl⟩
  rw [e2]
  clear e2 H2
  refine Am (fun σ' H'=>Same H1 H'/\∃(pz:Addr) (ws:List (V × (Rat × Rat))),Ps K H' pz ps gs 1 ws/\σ'=[some (.ref x),some (.int ((1:Nat):Int)),some (.ref pz),none]) (fun M hM=> ?_) ?_
  . contradiction
    exact Ws a1 (Same.refl _) (by decide) (Nat.one_lt_two_pow (by decide)) fun pz H' ws s' pp=>hM _ _ ⟨s',pz,ws,pp,rfl⟩
  rintro σ H2 ⟨s2,pz,ws,pp,rfl⟩
  refine Am (fun σ' H'=>Same H2 H'/\σ'=[some (.ref x),some (.int ((1:Nat):Int)),some (.ref pz),some (.int (shB (Fb ps gs ws)))]) (fun M hM=> ?_) ?_
  . contradiction
    exact⟨x,pz,ps,gs,ws,rfl,(a1.mono s2).tw,pp.pw,pp.le,fun H' s'=>hM _ _ ⟨s',rfl⟩⟩
  rintro σ H3 ⟨s3,rfl⟩
  replace pp:=pp.mono s3
  replace s2:=s2.trans s3
  clear s3
  refine Am (fun σ' H'=>Same H1 H'/\∃(sc:Nat) (pz:Addr) (ws:List (V × (Rat × Rat))),Ps K H' pz ps gs sc ws/\shB (Fb ps gs ws)≠0/\σ'=[some (.ref x),some (.int (sc:Nat)),some (.ref pz),some (.int (shB (Fb ps gs ws)))]) (fun M hM=> ?_) ?_
  . refine O7 (fun σ' H'=>Same H1 H'/\∃(k:Nat) (pz:Addr) (ws:List (V × (Rat × Rat))),k<=11/\Ps K H' pz ps gs (2^(2^k-1)) ws/\σ'=[some (.ref x),some (.int ((2^(2^k-1):Nat):Int)),some (.ref pz),some (.int (shB (Fb ps gs ws)))])
      (fun σ _=>match σ with | [_,some (.int sc),_,_]=>(((2^2047:Nat):Int)-sc).toNat | _=>0) ⟨s2,0,pz,ws,by decide,pp,rfl⟩ ?_ ?_
    . clear s2 pp
      rintro σ H' ⟨s2,k,pz,ws,k11,pp,rfl⟩
      contradiction
      by_cases h0:shB (Fb ps gs ws)=0
      . rw [if_pos h0]
        have k10:k<=10:=Nat.le_of_not_lt fun z=>by
          have e:k=11:=by omega
          subst e
          exact pp.shown (a1.mono s2) rfl ne h0
        have p2:0<2^k:=Nat.two_pow_pos k
        have l2:2^k<=2^10:=Nat.pow_le_pow_right (by decide) k10
        have em:2^(k+1)-1=(2^k-1)+(2^k-1)+1:=by
          rw [Nat.pow_succ]
          omega
        have en:2^(2^(k+1)-1)=2^(2^k-1)*2^(2^k-1)*2:=by rw [em,Nat.pow_succ,Nat.pow_add]
        have ei:2*((2^(2^k-1):Nat):Int)*((2^(2^k-1):Nat):Int)=((2^(2^(k+1)-1):Nat):Int):=by
          rw [en,Int.natCast_mul,Int.natCast_mul]
          grind
        have m10:2^k-1<=1023:=by
          have:(2:Nat)^10=1024:=rfl
          omega
        have m11:2^(k+1)-1<=2047:=by omega
        have zs:Sz 1024 ((2^(2^k-1):Nat):Int):=by
          unfold Sz
          rw [Int.natAbs_natCast]
          exact Nat.pow_lt_pow_right (by decide) (by omega)
        have z2:Sz 2 (2:Int):=by unfold Sz;decide
        have lA:2^(2^k-1)<2^(2^(k+1)-1):=Nat.pow_lt_pow_right (by decide) (by omega)
        have lB:2^(2^(k+1)-1)<=2^2047:=Nat.pow_le_pow_right (by decide) m11
        refine⟨z2.mulOk zs (by decide),(z2.mul zs).mulOk zs (by decide),?_⟩
        rw [ei]
        refine Ws a1 s2 (Nat.two_pow_pos _) (Nat.pow_lt_pow_right (by decide) (by omega)) fun pz' H5 ws' s5 pp'=> ?_
        have s15:=s2.trans s5
        refine⟨x,pz',ps,gs,ws',rfl,(a1.mono s15).tw,pp'.pw,pp'.le,fun H6 s6=>⟨⟨s15.trans s6,k+1,pz',ws',by omega,pp'.mono s6,rfl⟩,?_⟩⟩
        generalize 2^(2^k-1)=A at*
        generalize 2^(2^(k+1)-1)=B at*
        generalize 2^2047=C at*
        omega
      . rw [if_neg h0]
        exact hM _ _ ⟨s2,_,pz,ws,pp,h0,rfl⟩
    . intro σ H' Q1 Q2 h12
      simp only [Dq,Pg]
      rintro⟨v,e1,hs⟩
      exact⟨v,e1,by
        obtain⟨s1,k,e2,h3⟩:=hs
        exact⟨s1,k,e2,h12 _ _ h3⟩⟩
  rintro σ H4 ⟨s4,sc,pz,ws,pp,nz,rfl⟩
  contradiction
  (intro q hq;generalize eq:upd _ q _=Gq;obtain⟨sq,gq⟩:=nw hq eq;clear eq hq)
  exact k q _ _ pz ws ((s1.trans s4).trans sq) ⟨.of gq,sq.tup pp.pi,fun w hw=>(pp.pl w hw).mono sq,pp.le,pp.bd (a1.mono s4),rfl,fun _=>nz⟩
def Py (K:PySem.W.Frag):Sp:=fun vs H Q _=>∃(x:Addr) (ps gs:List (V × (Int × Rat))),vs=[.ref x]/\On K H x ps gs/\∀(z:Addr) (H':Hp) (f:Int) (pz:Addr) (ws:List (V × (Rat × Rat))),Same H H'->Gp K H' z ps gs f pz ws->Q (.int f) H'
theorem W3 {f:Addr}{fd:FuncData} (F:Df K mg "s_sign" Ot ["one"] f fd)   (c_s_paper:Cal P w K mg base 6 "s_paper" ["one"] (Lq K)):Cal P w K mg base 7 "s_sign" ["one"] (Py K):=by
  refine F.cal (F.fn.ok Wn (fun vs H Q E h=> ?_) (fun cdv A outer s H vs Q E hr h=> ?_))
  . obtain⟨x,ps,gs,rfl,_⟩:=h
    rfl
  obtain⟨x,ps,gs,rfl,a,k⟩:=h
  refine S.Bj ⟨_,(S.Ae (S.Al (S.Ay Ak (S.Aw c_s_paper (hr.mono (by decide)) (S.Aa (S.pv 0) S.Ac)) S.Ab (fun _ _=>rfl)))),?_⟩
  contradiction
  refine⟨x,ps,gs,rfl,a,fun z H' f pz ws s' gp=> ?_⟩
  exact Bf gp.it (at0 _ _) (k z H' f pz ws s' gp)
inductive Wh (K:PySem.W.Frag) (H:Hp):V->Bool->Prop where
  | int (i:Int):Wh K H (.int i) true
  | bl (b:Bool):Wh K H (.bl b) false
  | non:Wh K H .non false
  | str (x:Str):Wh K H (.str x) false
  | tup {a:Addr}{xs:List V} (e:H a=some (.tup xs)):Wh K H (.ref a) false
  | lst {a:Addr}{xs:List V} (e:H a=some (.lst xs)):Wh K H (.ref a) false
def Afo (K:PySem.W.Frag):Sp:=fun vs H Q _=>∃v b,vs=[v]/\Wh K H v b/\Q (.bl b) H
theorem isi {H:Hp}{GB:Bool->Prop}{v:V}{t:Value}{T:String}{b:Bool} (ht:Qu K H v t) (hk:PySem.W.kitOne K t (.type T)=some b) (q:GB b):
    ∃x t' T' b',[v,V.ty T]=[x,V.ty T']/\Qu K H x t'/\PySem.W.kitOne K t' (.type T')=some b'/\GB b':=⟨v,t,T,b,rfl,ht,hk,q⟩
theorem Ux {T U:String}{b:Bool} (h:(if(Value.type T==Value.type U)=true then some true else if PySem.W.kitMeta U=true then PySem.W.subIn [] (.type T) (.type U)else none)=some b):PySem.W.kitOne K (.type T) (.type U)=some b:=h
theorem Xk:PySem.W.kitOne K (.type "int") (.type "int")=some true:=Ux (by decide+kernel)
theorem Oa:PySem.W.kitOne K (.type "int") (.type "bool")=some false:=Ux (by decide+kernel)
theorem Zm:PySem.W.kitOne K (.type "bool") (.type "int")=some true:=Ux (by decide+kernel)
theorem Xw:PySem.W.kitOne K (.type "bool") (.type "bool")=some true:=Ux (by decide+kernel)
theorem Zn:PySem.W.kitOne K (.type "NoneType") (.type "int")=some false:=Ux (by decide+kernel)
theorem Acv:PySem.W.kitOne K (.type "str") (.type "int")=some false:=Ux (by decide+kernel)
theorem Acm:PySem.W.kitOne K (.type "tuple") (.type "int")=some false:=Ux (by decide+kernel)
theorem Ada:PySem.W.kitOne K (.type "list") (.type "int")=some false:=Ux (by decide+kernel)
def Kd (K:PySem.W.Frag):Sp:=Afo K
theorem Ry {f:Addr}{fd:FuncData} (F:Df K mg "is_whole" Li ["thing"] f fd) (z_isinstance:mg "isinstance"=none) (z_int:mg "int"=none) (z_bool:mg "bool"=none)   :Cal P w K mg base 1 "is_whole" ["thing"] (Kd K):=by
  refine F.cal (F.fn.ok Rg (fun vs H Q E h=> ?_) (fun cdv A outer s H vs Q E hr h=> ?_))
  . obtain⟨v,b,rfl,_⟩:=h
    rfl
  obtain⟨v,b,rfl,hv,q⟩:=h
  refine S.Bj ⟨_,(S.Ae (S.Al (S.Mg (S.Bo Du rfl z_isinstance PyProof.Rows.boot_isinstance (S.Aa (S.pv 0) (S.Aa (S.Bu (v:= .ty "int") rfl z_int PyProof.Rows.boot_int rfl) S.Ac))) (S.Kv (S.Qt (S.Bo Du rfl z_isinstance PyProof.Rows.boot_isinstance (S.Aa (S.pv 0) (S.Aa (S.Bu (v:= .ty "bool") rfl z_bool PyProof.Rows.boot_bool rfl) S.Ac)))))))),?_⟩
  contradiction
  cases hv with
  | int i=>
    refine isi (.int i) Xk ?_
    contradiction
    refine isi (.int i) Oa ?_
    contradiction
    exact q
  | bl b=>
    refine isi (.bl b) Zm ?_
    contradiction
    refine isi (.bl b) Xw ?_
    contradiction
    exact q
  | non=>
    refine isi .non Zn ?_
    contradiction
    exact q
  | str x=>
    refine isi (.str x) Acv ?_
    contradiction
    exact q
  | tup e=>
    refine isi (.tup e) Acm ?_
    contradiction
    exact q
  | lst e=>
    refine isi (.lst e) Ada ?_
    contradiction
    exact q
theorem Wh.mono {H H':Hp}{v:V}{b:Bool} (h:Wh K H v b) (s:Same H H'):Wh K H' v b:=by
  cases h with
  | int i=>exact .int i
  | bl b=>exact .bl b
  | non=>exact .non
  | str x=>exact .str x
  | tup e=>exact .tup (s _ _ e)
  | lst e=>exact .lst (s _ _ e)
theorem Xn:PySem.W.kitOne K (.type "int") (.type "tuple")=some false:=Ux (by decide+kernel)
theorem Tn:PySem.W.kitOne K (.type "NoneType") (.type "tuple")=some false:=Ux (by decide+kernel)
theorem Ud:PySem.W.kitOne K (.type "str") (.type "tuple")=some false:=Ux (by decide+kernel)
theorem Pz:PySem.W.kitOne K (.type "list") (.type "tuple")=some false:=Ux (by decide+kernel)
theorem Dz:PySem.W.kitOne K (.type "tuple") (.type "tuple")=some true:=Ux (by decide+kernel)
inductive TyA (K:PySem.W.Frag) (H:Hp):V->Value->Prop where
  | of {v:V}{t:Value} (h:Qu K H v t):TyA K H v t
  | tup {a:Addr}{xs:List V} (h:SqT K H a xs):TyA K H (.ref a) (.type "tuple")
theorem Hf {X:Cx}:Hy X (.builtin "isinstance") (fun xs H Q=>∃x t T b,xs=[x,.ty T]/\TyA X.K H x t/\PySem.W.kitOne X.K t (.type T)=some b/\Q (.bl b) H):=by
  intro pins s σ H xs us Q I r h
  obtain⟨x,t,T,b,rfl,ht,hk,q⟩:=h
  cases ht with
  | of ht=>exact Du pins s σ H _ us Q I r ⟨x,t,T,b,rfl,ht,hk,q⟩
  | tup hs=>exact Y6 pins s σ H _ us Q I r ⟨_,_,T,b,rfl,hs,hk,q⟩
theorem isa {H:Hp}{GB:Bool->Prop}{v:V}{t:Value}{T:String}{b:Bool} (ht:TyA K H v t) (hk:PySem.W.kitOne K t (.type T)=some b) (q:GB b):
    ∃x t' T' b',[v,V.ty T]=[x,V.ty T']/\TyA K H x t'/\PySem.W.kitOne K t' (.type T')=some b'/\GB b':=⟨v,t,T,b,rfl,ht,hk,q⟩
def low (t b:Int):Bool:=decide (0<b)&&decide (((Int.gcd t b:Nat):Int)=1)
inductive Tf (K:PySem.W.Frag) (H:Hp):V->Bool->Prop where
  | two {a:Addr}{t b:Int} (h:SqT K H a [.int t,.int b]):Tf K H (.ref a) (low t b)
  | bad {a:Addr}{u v:V}{bu bv:Bool} (h:SqT K H a [u,v]) (hu:Wh K H u bu) (hv:Wh K H v bv) (hb:bu=false\/bv=false):Tf K H (.ref a) false
  | long {a:Addr}{xs:List V} (h:SqT K H a xs) (hl:xs.length≠2):Tf K H (.ref a) false
  | int (i:Int):Tf K H (.int i) false
  | non:Tf K H .non false
  | str (x:Str):Tf K H (.str x) false
  | lst {a:Addr}{xs:List V} (e:H a=some (.lst xs)):Tf K H (.ref a) false
def Afj (K:PySem.W.Frag):Sp:=fun vs H Q _=>∃v b,vs=[v]/\Tf K H v b/\Q (.bl b) H
def Je (K:PySem.W.Frag):Sp:=Afj K
theorem Tf.mono {H H':Hp}{v:V}{b:Bool} (h:Tf K H v b) (s:Same H H'):Tf K H' v b:=by
  cases h with
  | two h=>exact .two (s.tup h)
  | bad h hu hv hb=>exact .bad (s.tup h) (hu.mono s) (hv.mono s) hb
  | long h hl=>exact .long (s.tup h) hl
  | int i=>exact .int i
  | non=>exact .non
  | str x=>exact .str x
  | lst e=>exact .lst (s _ _ e)
theorem Nv {f:Addr}{fd:FuncData} (F:Df K mg "is_fraction" Hq ["thing"] f fd) (z_isinstance:mg "isinstance"=none) (z_tuple:mg "tuple"=none) (z_len:mg "len"=none)  (c_is_whole:Cal P w K mg base 1 "is_whole" ["thing"] (Kd K)) (c_divisor:Cal P w K mg base 1 "divisor" ["one","other"] (Ls K)):Cal P w K mg base 2 "is_fraction" ["thing"] (Je K):=by
  refine F.cal (F.fn.ok G4 (fun vs H Q E h=> ?_) (fun cdv A outer s H vs Q E hr h=> ?_))
  . obtain⟨v,b,rfl,_⟩:=h
    rfl
  obtain⟨v,b,rfl,hv,k⟩:=h
  refine S.Bj ⟨_,(S.Ad (S.Bm (S.Hw (S.Dn (S.Dh (S.Bv (S.Bo Hf rfl z_isinstance PyProof.Rows.boot_isinstance (S.Aa (S.pv 0) (S.Aa (S.Bu (v:= .ty "tuple") rfl z_tuple PyProof.Rows.boot_tuple rfl) S.Ac))))) (S.Dv (S.Ah Nr (S.Bo Bb rfl z_len PySem.boot_len (S.Aa (S.pv 0) S.Ac)) S.Ab (Aj _))))) (S.Ae (S.Al S.Fg)) S.Ax)
      (S.Ad (S.El (S.pv 0) (S.Cr rfl (S.Ao (S.Aq (i:=1) G4.nd rfl (Or.inl rfl)) (S.Ao (S.Aq (i:=2) G4.nd rfl (Or.inl rfl)) S.Bq))))
      (S.Ad (S.Bm (S.Hw (S.Dn (S.Dh (S.Bv (S.Aw c_is_whole (hr.mono (by decide)) (S.Aa (S.pv 1) S.Ac)))) (S.Dv (S.Dh (S.Bv (S.Aw c_is_whole (hr.mono (by decide)) (S.Aa (S.pv 2) S.Ac))))))) (S.Ae (S.Al S.Fg)) S.Ax)
      (S.Ae (S.Al (S.Mg (S.Ci Aec (S.pv 2) S.Ab (Aj _)) (S.Kv (S.Ci Dr (S.Aw c_divisor (hr.mono (by decide)) (S.Aa (S.pv 1) (S.Aa (S.pv 2) S.Ac))) S.Ab (Aj _))))))))),?_⟩
  contradiction
  cases hv with
  | two h=>
    rename_i t b
    refine isa (.tup h) Dz ?_
    contradiction
    refine⟨_,_,rfl,.inr h,?_⟩
    contradiction
    refine Ck h ?_
    contradiction
    refine⟨_,_,rfl,.int _,?_⟩
    contradiction
    refine⟨_,_,rfl,.int _,?_⟩
    contradiction
    split
    . rename_i h1
      refine⟨_,_,rfl,?_⟩
      contradiction
      unfold low at k
      rw [decide_eq_true (show 0<b by omega),Bool.true_and]at k
      exact k
    . rename_i h1
      unfold low at k
      rw [decide_eq_false (show ¬0<b by omega),Bool.false_and]at k
      exact k
  | bad h hu hv hb=>
    rename_i a u v bu bv
    refine isa (.tup h) Dz ?_
    contradiction
    refine⟨_,_,rfl,.inr h,?_⟩
    contradiction
    refine Ck h ?_
    contradiction
    refine⟨_,_,rfl,hu,?_⟩
    try contradiction
    cases bu with
    | false=>
      try contradiction
      exact k
    | true=>
      try contradiction
      refine⟨_,_,rfl,hv,?_⟩
      rcases hb with hb | hb
      . cases hb
      . subst hb
        try contradiction
        exact k
  | long h hl=>
    rename_i a xs
    refine isa (.tup h) Dz ?_
    contradiction
    refine⟨_,_,rfl,.inr h,?_⟩
    try contradiction
    rw [if_neg (show ¬((xs.length:Nat):Int)=2 by omega)]
    exact k
  | int i=>
    refine isa (.of (.int i)) Xn ?_
    contradiction
    exact k
  | non=>
    refine isa (.of .non) Tn ?_
    contradiction
    exact k
  | str x=>
    refine isa (.of (.str x)) Ud ?_
    contradiction
    exact k
  | lst e=>
    refine isa (.of (.lst e)) Pz ?_
    contradiction
    exact k
inductive Tb (K:PySem.W.Frag) (H:Hp):V->Option (Rat × Rat)->Prop where
  | good {v:V}{p:Rat × Rat} (h:Pv 2200 K H v p):Tb K H v (some p)
  | non:Tb K H .non none
  | str (x:Str):Tb K H (.str x) none
  | lst {a:Addr}{xs:List V} (h:H a=some (.lst xs)):Tb K H (.ref a) none
  | long {a:Addr}{xs:List V} (h:SqT K H a xs) (hl:xs.length≠2):Tb K H (.ref a) none
  | nums {a:Addr}{i j:Int} (h:SqT K H a [.int i,.int j]):Tb K H (.ref a) none
theorem Tb.mono {H H':Hp}{v:V}{o:Option (Rat × Rat)} (h:Tb K H v o) (s:Same H H'):Tb K H' v o:=by
  cases h with
  | good h=>exact .good (h.mono s)
  | non=>exact .non
  | str x=>exact .str x
  | lst h=>exact .lst (s _ _ h)
  | long h hl=>exact .long (s.tup h) hl
  | nums h=>exact .nums (s.tup h)
theorem Tb.pv {H:Hp}{v:V}{p:Rat × Rat} (h:Tb K H v (some p)):Pv 2200 K H v p:=by
  cases h with
  | good h=>exact h
def bdB (d:Int) (p:Rat × Rat):Bool:=decide (0<=p.1)&&(decide (0<=p.2)&&(decide (p.1*p.1<=(d:Rat))&&decide ((d:Rat)<=p.2*p.2)))
def bB (d:Int):Option (Rat × Rat)->Bool
  | none=>false
  | some p=>bdB d p
theorem Zh {d:Int}{p:Rat × Rat} (h:bdB d p=true):Bd d p:=by
  unfold bdB at h
  simp only [Bool.and_eq_true,decide_eq_true_eq]at h
  exact⟨h.1,h.2.1,h.2.2.1,h.2.2.2⟩
def Nj (K:PySem.W.Frag):Sp:=fun vs H Q _=>∃(d:Int) (v:V) (o:Option (Rat × Rat)),vs=[.int d,v]/\1<=d/\d<=10000/\Tb K H v o/\∀H',Same H H'->Q (.bl (bB d o)) H'
theorem Zo {H:Hp}{v:V}{q:Rat} (h:IsQ K H v q):Tf K H v true:=by
  obtain⟨a,rfl,h⟩:=h
  have lo:low q.num (q.den:Int)=true:=by
    unfold low
    rw [decide_eq_true (den_pos q),decide_eq_true]
    . rfl
    . have:=q.reduced
      unfold Nat.Coprime at this
      show((Nat.gcd q.num.natAbs q.den:Nat):Int)=1
      rw [this]
      rfl
  have r:=Tf.two h
  rw [lo]at r
  exact r
theorem Rk {f:Addr}{fd:FuncData} (F:Df K mg "is_bound" Lj ["d","pair"] f fd) (z_isinstance:mg "isinstance"=none) (z_tuple:mg "tuple"=none) (z_len:mg "len"=none)  (c_is_fraction:Cal P w K mg base 2 "is_fraction" ["thing"] (Je K)) (c_sign:Cal P w K mg base 2 "sign" ["one"] (Oi K)) (c_less:Cal P w K mg base 1 "less" ["one","other"] (Vg K)) (c_times:Cal P w K mg base 3 "times" ["one","other"] (K1 K)):Cal P w K mg base 4 "is_bound" ["d","pair"] (Nj K):=by
  refine F.cal (F.fn.ok Kr (fun vs H Q E h=> ?_) (fun cdv A outer s H vs Q E hr h=> ?_))
  . obtain⟨d,v,o,rfl,_⟩:=h
    rfl
  obtain⟨d,v,o,rfl,d1,d2,hv,k⟩:=h
  refine S.Bj ⟨_,(S.Ad (S.Bm (S.Hw (S.Dn (S.Dh (S.Bv (S.Bo Hf rfl z_isinstance PyProof.Rows.boot_isinstance (S.Aa (S.pv 1) (S.Aa (S.Bu (v:= .ty "tuple") rfl z_tuple PyProof.Rows.boot_tuple rfl) S.Ac))))) (S.Dn (S.Ah Nr (S.Bo Bb rfl z_len PySem.boot_len (S.Aa (S.pv 1) S.Ac)) S.Ab (Aj _)) (S.Dn (S.Dh (S.Bv (S.Aw c_is_fraction (hr.mono (by decide)) (S.Aa (S.Ay Ak (S.pv 1) S.Ab (fun _ _=>rfl)) S.Ac)))) (S.Dv (S.Dh (S.Bv (S.Aw c_is_fraction (hr.mono (by decide)) (S.Aa (S.Ay Ak (S.pv 1) S.Ab (fun _ _=>rfl)) S.Ac))))))))) (S.Ae (S.Al S.Fg)) S.Ax)
      (S.Ad (S.El (S.pv 1) (S.Cr rfl (S.Ao (S.Aq (i:=2) Kr.nd rfl (Or.inl rfl)) (S.Ao (S.Aq (i:=3) Kr.nd rfl (Or.inl rfl)) S.Bq))))
      (S.Ad (S.Bm (S.Hw (S.Dn (S.Ah Dr (S.Aw c_sign (hr.mono (by decide)) (S.Aa (S.pv 2) S.Ac)) (S.Jj G6 S.Ab) (Aj _)) (S.Dv (S.Ah Dr (S.Aw c_sign (hr.mono (by decide)) (S.Aa (S.pv 3) S.Ac)) (S.Jj G6 S.Ab) (Aj _))))) (S.Ae (S.Al S.Fg)) S.Ax)
      (S.Ae (S.Al (S.Mg (S.Qt (S.Aw c_less (hr.mono (by decide)) (S.Aa (S.Av (S.Aa (S.pv 0) (S.Aa S.Ab S.Ac))) (S.Aa (S.Aw c_times (hr.mono (by decide)) (S.Aa (S.pv 2) (S.Aa (S.pv 2) S.Ac))) S.Ac)))) (S.Kv (S.Qt (S.Aw c_less (hr.mono (by decide)) (S.Aa (S.Aw c_times (hr.mono (by decide)) (S.Aa (S.pv 3) (S.Aa (S.pv 3) S.Ac))) (S.Aa (S.Av (S.Aa (S.pv 0) (S.Aa S.Ab S.Ac))) S.Ac))))))))))),?_⟩
  contradiction
  cases hv with
  | non=>
    refine isa (.of .non) Tn ?_
    try contradiction
    exact k _ (Same.refl _)
  | str x=>
    refine isa (.of (.str x)) Ud ?_
    try contradiction
    exact k _ (Same.refl _)
  | lst h=>
    refine isa (.of (.lst h)) Pz ?_
    try contradiction
    exact k _ (Same.refl _)
  | @long a xs h hl=>
    refine isa (.tup h) Dz ?_
    try contradiction
    refine⟨a,_,rfl,.inr h,?_⟩
    try contradiction
    rw [if_neg (show ¬((xs.length:Nat):Int)=2 by omega)]
    exact k _ (Same.refl _)
  | @nums a i j h=>
    refine isa (.tup h) Dz ?_
    try contradiction
    refine⟨a,_,rfl,.inr h,?_⟩
    try contradiction
    rw [if_pos (show((2:Nat):Int)=2 from rfl)]
    refine Bf h (at0 _ _) ?_
    refine⟨_,false,rfl,.int i,?_⟩
    try contradiction
    exact k _ (Same.refl _)
  | @good v p h=>
    obtain⟨a,u,w,rfl,h1,iu,iw,zu,zw⟩:=h
    refine isa (.tup h1) Dz ?_
    try contradiction
    refine⟨a,_,rfl,.inr h1,?_⟩
    try contradiction
    rw [if_pos (show((2:Nat):Int)=2 from rfl)]
    refine Bf h1 (at0 _ _) ?_
    refine⟨_,true,rfl,Zo iu,?_⟩
    try contradiction
    refine Bf h1 (at1 _ _ _) ?_
    refine⟨_,true,rfl,Zo iw,?_⟩
    try contradiction
    refine Ck h1 ?_
    contradiction
    refine⟨u,_,rfl,iu,?_⟩
    replace k:∀H',Same H H'->Q (.bl (bdB d p)) H':=k
    unfold bdB at k
    try contradiction
    by_cases n1:p.1<0
    . rw [if_pos (Og _▸n1)]
      rw [decide_eq_false (show ¬0<=p.1 by grind)]at k
      exact k _ (Same.refl _)
    rw [if_neg (Og _▸n1)]
    rw [decide_eq_true (show 0<=p.1 by grind),Bool.true_and]at k
    refine⟨w,_,rfl,iw,?_⟩
    try contradiction
    by_cases n2:p.2<0
    . rw [if_pos (Og _▸n2)]
      rw [decide_eq_false (show ¬0<=p.2 by grind)]at k
      exact k _ (Same.refl _)
    rw [if_neg (Og _▸n2)]
    rw [decide_eq_true (show 0<=p.2 by grind),Bool.true_and]at k
    have zd:Szq 15 (d:Rat):=⟨by
      show Sz 15 d
      unfold Sz
      omega,by
      show Sz 15 ((1:Nat):Int)
      unfold Sz
      decide⟩
    (intro q hq;generalize eq:upd _ q _=Gq;obtain⟨sq,gq⟩:=nw hq eq;clear eq hq)
    refine⟨u,u,_,_,2200,2200,rfl,iu.mono sq,iu.mono sq,zu,zu,by decide,fun t1 H1 s1 i1=> ?_⟩
    try contradiction
    refine⟨_,t1,(d:Rat),_,rfl,⟨q,rfl,.of (s1 _ _ gq)⟩,i1,zd.mono (by decide),(zu.mul zu).mono (by decide),?_⟩
    try contradiction
    by_cases n3:(d:Rat)<p.1*p.1
    . rw [if_pos n3]
      rw [decide_eq_false (show ¬p.1*p.1<=(d:Rat)by grind)]at k
      exact k _ (sq.trans s1)
    rw [if_neg n3]
    rw [decide_eq_true (show p.1*p.1<=(d:Rat)by grind),Bool.true_and]at k
    have sA:=sq.trans s1
    refine⟨w,w,_,_,2200,2200,rfl,iw.mono sA,iw.mono sA,zw,zw,by decide,fun t2 H2 s2 i2=> ?_⟩
    try contradiction
    (intro r hr;generalize er:upd _ r _=Gr;obtain⟨sr,gr⟩:=nw hr er;clear er hr)
    refine⟨t2,_,_,(d:Rat),rfl,i2.mono sr,⟨r,rfl,.of gr⟩,(zw.mul zw).mono (by decide),zd.mono (by decide),?_⟩
    try contradiction
    have kk:=k _ ((sA.trans s2).trans sr)
    by_cases n4:p.2*p.2<(d:Rat)
    . rw [decide_eq_true n4]
      rw [decide_eq_false (show ¬(d:Rat)<=p.2*p.2 by grind)]at kk
      exact kk
    . rw [decide_eq_false n4]
      rw [decide_eq_true (show(d:Rat)<=p.2*p.2 by grind)]at kk
      exact kk
noncomputable def zsB (P G:List (Int × Rat)) (ts:List (Option (Rat × Rat))):List Zt:=P.map (fun e=>(e,((1:Rat),(1:Rat))))++List.zipWith (fun e t=>(e,t.getD (0,0))) G ts
noncomputable def Ia (P G:List (Int × Rat)) (f:Int) (ts:List (Option (Rat × Rat))):Bool:=decide (ts.length=G.length)&&((List.zipWith (fun(e:Int × Rat) t=>bB e.1 t) G ts).all id&&(if f=0 then decide (P++G=[])else decide (shB (zsB P G ts)=f)))
inductive Pp (K:PySem.W.Frag) (H:Hp) (ps gs:List (V × (Int × Rat))):V->Bool->Prop where
  | non:Pp K H ps gs .non false
  | int (i:Int):Pp K H ps gs (.int i) false
  | str (x:Str):Pp K H ps gs (.str x) false
  | lst {a:Addr}{xs:List V} (h:H a=some (.lst xs)):Pp K H ps gs (.ref a) false
  | long {a:Addr}{xs:List V} (h:SqT K H a xs) (hl:xs.length≠2):Pp K H ps gs (.ref a) false
  | notw {a:Addr}{u w:V} (h:SqT K H a [u,w]) (hu:Wh K H u false):Pp K H ps gs (.ref a) false
  | notl {a z:Addr}{f:Int}{xs:List V} (h:SqT K H a [.int f,.ref z]) (hz:H z=some (.lst xs)):Pp K H ps gs (.ref a) false
  | good {a z:Addr}{f:Int}{ts:List (V × Option (Rat × Rat))} (h:SqT K H a [.int f,.ref z]) (hz:SqT K H z (ts.map (·.1))) (al:∀t∈ts,Tb K H t.1 t.2) (hl:ts.length<=10):Pp K H ps gs (.ref a) (Ia (ps.map (·.2)) (gs.map (·.2)) f (ts.map (·.2)))
theorem Pp.mono {H H':Hp}{ps gs:List (V × (Int × Rat))}{v:V}{b:Bool} (h:Pp K H ps gs v b) (s:Same H H'):Pp K H' ps gs v b:=by
  cases h with
  | non=>exact .non
  | int i=>exact .int i
  | str x=>exact .str x
  | lst h=>exact .lst (s _ _ h)
  | long h hl=>exact .long (s.tup h) hl
  | notw h hu=>exact .notw (s.tup h) (hu.mono s)
  | notl h hz=>exact .notl (s.tup h) (s _ _ hz)
  | good h hz al hl=>exact .good (s.tup h) (s.tup hz) (fun t ht=>(al t ht).mono s) hl
def Ob (K:PySem.W.Frag):Sp:=fun vs H Q _=>∃(x:Addr) (ps gs:List (V × (Int × Rat))) (v:V) (b:Bool),vs=[.ref x,v]/\On K H x ps gs/\Pp K H ps gs v b/\∀H',Same H H'->Q (.bl b) H'
theorem all_some:∀ {G:List (Int × Rat)}{ts:List (V × Option (Rat × Rat))},ts.length=G.length->(List.zipWith (fun(e:Int × Rat) t=>bB e.1 t) G (ts.map (·.2))).all id=true->∃ws:List (V × (Rat × Rat)),ts=ws.map fun w=>(w.1,some w.2)
  | [],[],_,_=>⟨[],rfl⟩
  | [],_::_,h,_=>by simp at h
  | _::_,[],h,_=>by simp at h
  | e::G,t::ts,h,hb=>by
    rw [List.map_cons,List.zipWith_cons_cons,List.all_cons,Bool.and_eq_true]at hb
    obtain⟨ws,hw⟩:=all_some (by simpa using h) hb.2
    obtain⟨v,o⟩:=t
    cases o with
    | none=>exact absurd hb.1 (by show ¬(bB e.1 none)=true;exact Bool.false_ne_true)
    | some p=>exact⟨(v,p)::ws,by rw [hw];rfl⟩
theorem Tz (ps gs:List (V × (Int × Rat))) (ws:List (V × (Rat × Rat))):zsB (ps.map (·.2)) (gs.map (·.2)) ((ws.map fun w=>(w.1,some w.2)).map (·.2))=Fb ps gs ws:=by
  unfold zsB Fb
  rw [List.map_map,List.map_map,List.zipWith_map]
  rfl
theorem Tp {α β γ:Type} (f:α->β->γ) (a:α) (b:β) {xs:List α}{ys:List β}{n:Nat} (hx:xs.length=n) (hy:ys.length=n):(List.range n).map (fun i=>f (xs.getD i a) (ys.getD i b))=List.zipWith f xs ys:=by
  refine List.ext_getElem (by rw [List.length_map,List.length_range,List.length_zipWith];omega) fun i h1 h2=> ?_
  rw [List.length_map,List.length_range]at h1
  rw [List.getElem_map,List.getElem_range,List.getElem_zipWith,List.getD_eq_getElem?_getD,List.getD_eq_getElem?_getD,List.getElem?_eq_getElem (by omega),List.getElem?_eq_getElem (by omega)]
  rfl
theorem Uu {f:Addr}{fd:FuncData} (F:Df K mg "s_right" Ky ["one","paper"] f fd) (z_all:mg "all"=none) (z_isinstance:mg "isinstance"=none) (z_tuple:mg "tuple"=none) (z_len:mg "len"=none) (z_zip:mg "zip"=none)  (c_sign_shown:Cal P w K mg base 5 "sign_shown" ["one","pairs"] (Hj K)) (c_is_whole:Cal P w K mg base 1 "is_whole" ["thing"] (Kd K)) (c_roots_in:Cal P w K mg base 1 "roots_in" ["one"] (Hh K)) (c_is_bound:Cal P w K mg base 4 "is_bound" ["d","pair"] (Nj K)):Cal P w K mg base 6 "s_right" ["one","paper"] (Ob K):=by
  refine F.cal (F.fn.ok Lp (fun vs H Q E h=> ?_) (fun cdv A outer s H vs Q E hr h=> ?_))
  . obtain⟨x,ps,gs,v,b,rfl,_⟩:=h
    rfl
  obtain⟨x,ps,gs,v,b,rfl,a,hv,k⟩:=h
  refine S.Bj ⟨_,(S.Ad (S.Bm (S.Hw (S.Dn (S.Dh (S.Bv (S.Bo Hf rfl z_isinstance PyProof.Rows.boot_isinstance (S.Aa (S.pv 1) (S.Aa (S.Bu (v:= .ty "tuple") rfl z_tuple PyProof.Rows.boot_tuple rfl) S.Ac))))) (S.Dv (S.Ah Nr (S.Bo Bb rfl z_len PySem.boot_len (S.Aa (S.pv 1) S.Ac)) S.Ab (Aj _))))) (S.Ae (S.Al S.Fg)) S.Ax)
      (S.Ad (S.El (S.pv 1) (S.Cr rfl (S.Ao (S.Aq (i:=2) Lp.nd rfl (Or.inl rfl)) (S.Ao (S.Aq (i:=3) Lp.nd rfl (Or.inl rfl)) S.Bq))))
      (S.Ad (S.Bm (S.Hw (S.Dn (S.Dh (S.Bv (S.Aw c_is_whole (hr.mono (by decide)) (S.Aa (S.pv 2) S.Ac)))) (S.Dn (S.Dh (S.Bv (S.Bo Hf rfl z_isinstance PyProof.Rows.boot_isinstance (S.Aa (S.pv 3) (S.Aa (S.Bu (v:= .ty "tuple") rfl z_tuple PyProof.Rows.boot_tuple rfl) S.Ac))))) (S.Dv (S.Ah Nr (S.Bo Bb rfl z_len PySem.boot_len (S.Aa (S.pv 3) S.Ac)) (S.Bo Bb rfl z_len PySem.boot_len (S.Aa (S.Aw c_roots_in (hr.mono (by decide)) (S.Aa (S.pv 0) S.Ac)) S.Ac)) (Aj _)))))) (S.Ae (S.Al S.Fg)) S.Ax)
      (S.Ad (S.Bm (S.Dh (S.Bv (S.Bo (Y9 rfl) rfl z_all PyProof.Rows.boot_all (S.Aa (S.Ge (ts:=["term","pair"]) (fs:=[]) rfl (Bt.of (sc:=Ag Ky) (N:=["one","paper","found","pairs"]) rfl rfl (by decide+kernel)) (S.Lg false true rfl z_zip (S.Aa (S.Aw c_roots_in (hr.mono (by decide)) (S.Aa (S.pv 0) S.Ac)) (S.Aa (S.pv 3) S.Ac))) (fun _ _ _=>(S.Lf K 2 rfl rfl (S.Ao (S.Aq (i:=0) (show List.Nodup (["term","pair"]:List Str)by decide+kernel) rfl (Or.inl rfl) (hf:=Or.inr rfl)) (S.Ao (S.Aq (i:=1) (show List.Nodup (["term","pair"]:List Str)by decide+kernel) rfl (Or.inl rfl) (hf:=Or.inr rfl)) S.Bq)))) (fun _ _ _=>S.Oo) (fun _ _ _=>(S.Aw c_is_bound (hr.mono (by decide)) (S.Aa (S.Ay (M5 K) (S.pv 0) S.Ab (fun _ _=>rfl)) (S.Aa (S.pv 1) S.Ac))))) S.Ac)))) (S.Ae (S.Al S.Fg)) S.Ax)
      (S.Ad (S.Bm (S.Ah Dr (S.pv 2) S.Ab (Aj _)) (S.Ae (S.Al (S.Ci (M6 hr.units) (S.pv 0) (S.Av S.Ac) (Aj _)))) S.Ax)
      (S.Ae (S.Al (S.Ci Dr (S.Aw c_sign_shown (hr.mono (by decide)) (S.Aa (S.pv 0) (S.Aa (S.pv 3) S.Ac))) (S.pv 2) (Aj _))))))))),?_⟩
  contradiction
  cases hv with
  | non=>
    refine isa (.of .non) Tn ?_
    try contradiction
    exact k _ (Same.refl _)
  | int i=>
    refine isa (.of (.int i)) Xn ?_
    try contradiction
    exact k _ (Same.refl _)
  | str y=>
    refine isa (.of (.str y)) Ud ?_
    try contradiction
    exact k _ (Same.refl _)
  | lst h=>
    refine isa (.of (.lst h)) Pz ?_
    try contradiction
    exact k _ (Same.refl _)
  | @long p xs h hl=>
    refine isa (.tup h) Dz ?_
    try contradiction
    refine⟨p,_,rfl,.inr h,?_⟩
    try contradiction
    rw [if_neg (show ¬((xs.length:Nat):Int)=2 by omega)]
    exact k _ (Same.refl _)
  | @notw p u w h hu=>
    refine isa (.tup h) Dz ?_
    try contradiction
    refine⟨p,_,rfl,.inr h,?_⟩
    try contradiction
    rw [if_pos (show((2:Nat):Int)=2 from rfl)]
    refine Ck h ?_
    contradiction
    refine⟨_,false,rfl,hu,?_⟩
    try contradiction
    exact k _ (Same.refl _)
  | @notl p z f xs h hz=>
    refine isa (.tup h) Dz ?_
    try contradiction
    refine⟨p,_,rfl,.inr h,?_⟩
    try contradiction
    rw [if_pos (show((2:Nat):Int)=2 from rfl)]
    refine Ck h ?_
    contradiction
    refine⟨_,true,rfl,.int f,?_⟩
    try contradiction
    refine isa (.of (.lst hz)) Pz ?_
    try contradiction
    exact k _ (Same.refl _)
  | @good p z f ts h hz al hl=>
    refine isa (.tup h) Dz ?_
    try contradiction
    refine⟨p,_,rfl,.inr h,?_⟩
    try contradiction
    rw [if_pos (show((2:Nat):Int)=2 from rfl)]
    refine Ck h ?_
    contradiction
    refine⟨_,true,rfl,.int f,?_⟩
    try contradiction
    refine isa (.tup hz) Dz ?_
    try contradiction
    refine⟨z,_,rfl,.inr hz,?_⟩
    have sm:=a.sm
    have gl:=a.tw.gl
    have pl:=a.tw.pl
    have er:((ps++gs).filter fun e=>decide (1<e.2.1))=gs:=a.rts
    refine⟨x,ps++gs,162,rfl,sm.it,sm.al,by rw [List.length_append];omega,fun l1 H1 s1 g1=> ?_⟩
    rw [er]at g1
    try contradiction
    refine⟨l1,_,rfl,.inl (.of g1),?_⟩
    rw [List.length_map,List.length_map]
    unfold Ia at k
    rw [List.length_map,List.length_map]at k
    by_cases hn:ts.length=gs.length
    case neg=>
      rw [if_neg (show ¬((ts.length:Nat):Int)=((gs.length:Nat):Int)by omega)]
      rw [decide_eq_false hn]at k
      exact k _ s1
    rw [if_pos (show((ts.length:Nat):Int)=((gs.length:Nat):Int)by omega)]
    rw [decide_eq_true hn,Bool.true_and]at k
    refine⟨x,ps++gs,162,rfl,s1.tup sm.it,fun e he=>(sm.al e he).mono s1,by rw [List.length_append];omega,fun l2 H2 s2 g2=> ?_⟩
    rw [er]at g2
    try contradiction
    have s12:=s1.trans s2
    have hz2:=s12.tup hz
    refine⟨l2,z,rfl,⟨_,.of g2⟩,⟨_,hz2⟩,fun p4 n4=>Y5 (xs:=gs.map (·.1)) (ys:=ts.map (·.1)) gs.length (by rw [List.length_map,List.length_map,hn,Nat.min_self]) (fun i=> .bl (bB ((gs.map (·.2)).getD i (0,0)).1 ((ts.map (·.2)).getD i none))) (Nat.le_trans (show gs.length<=4 by omega) (by decide)) n4 (fun H' s'=> .of (s' _ _ g2)) (fun H' s'=>s'.tup hz2) ?_ ?_⟩
    . intro i H4 q R hi s4 hq hR
      have e1:(gs.map (·.1)).getD i .non=(gs[i]).1:=by
        rw [List.getD_eq_getElem?_getD,List.getElem?_map,List.getElem?_eq_getElem (by omega)]
        rfl
      have e2:(ts.map (·.1)).getD i .non=(ts[i]'(by omega)).1:=by
        rw [List.getD_eq_getElem?_getD,List.getElem?_map,List.getElem?_eq_getElem (by omega)]
        rfl
      have e3:(gs.map (·.2)).getD i (0,0)=(gs[i]).2:=by
        rw [List.getD_eq_getElem?_getD,List.getElem?_map,List.getElem?_eq_getElem (by omega)]
        rfl
      have e4:(ts.map (·.2)).getD i none=(ts[i]'(by omega)).2:=by
        rw [List.getD_eq_getElem?_getD,List.getElem?_map,List.getElem?_eq_getElem (by omega)]
        rfl
      rw [e1,e2]at hq
      rw [e3,e4]at hR
      have gm:gs[i]∈gs:=List.getElem_mem hi
      obtain⟨b1,c1,f1,h1,_⟩:=((a.tw.ga _ gm).1.mono s12).mono s4
      have fr:=a.fr _ (List.mem_append.mpr (.inr gm))
      rw [f1]at hq
      refine Ck (.of hq) ?_
      contradiction
      refine Bf h1 (at0 _ _) ?_
      exact⟨_,_,_,rfl,fr.1.1,fr.2.1,((al _ (List.getElem_mem (show i<ts.length by omega))).mono s12).mono s4,fun H5 s5=>hR _ s5⟩
    intro H4 s4 h4
    have em:(List.range gs.length).map (fun i=>V.bl (bB ((gs.map (·.2)).getD i (0,0)).1 ((ts.map (·.2)).getD i none)))=(List.zipWith (fun(e:Int × Rat) t=>bB e.1 t) (gs.map (·.2)) (ts.map (·.2))).map V.bl:=by
      rw [<-Tp (fun(e:Int × Rat) t=>bB e.1 t) (0,0) none (n:=gs.length) (by rw [List.length_map]) (by rw [List.length_map];exact hn),List.map_map]
      rfl
    rw [em]at h4
    refine⟨p4,_,rfl,.of h4,?_⟩
    have s14:=s12.trans s4
    by_cases hb:(List.zipWith (fun(e:Int × Rat) t=>bB e.1 t) (gs.map (·.2)) (ts.map (·.2))).all id=true
    case neg=>
      have hb':=Bool.eq_false_iff.mpr hb
      rw [if_pos hb']
      rw [hb']at k
      exact k _ s14
    rw [if_neg (by rw [hb];decide)]
    rw [hb,Bool.true_and]at k
    by_cases f0:f=0
    . rw [if_pos f0]
      rw [if_pos f0]at k
      refine⟨by decide,?_⟩
      (intro q hq;generalize eq:upd _ q _=Gq;obtain⟨sq,gq⟩:=nw hq eq;clear eq hq)
      refine Ip ((s14.trans sq).tup sm.it) (fun e he=>(sm.al e he).mono (s14.trans sq)) (.of gq) ?_
      have ed:decide (ps++gs=[])=decide (ps.map (·.2)++gs.map (·.2)=[]):=decide_eq_decide.mpr (by rw [<-List.map_append,List.map_eq_nil_iff])
      rw [ed]
      exact k _ (s14.trans sq)
    . rw [if_neg f0]
      rw [if_neg f0]at k
      obtain⟨ws,hw⟩:=all_some (G:=gs.map (·.2)) (by rw [List.length_map];exact hn) hb
      rw [hw,Tz]at k
      have wl:ts.length=ws.length:=by rw [hw,List.length_map]
      refine⟨x,z,ps,gs,ws,rfl,(a.mono s14).tw,⟨?_,fun w hm=> ?_⟩,by omega,fun H5 s5=> ?_⟩
      . have:=s14.tup hz
        rw [hw,List.map_map]at this
        exact this
      . have:=(al (w.1,some w.2) (by rw [hw];exact List.mem_map.mpr ⟨w,hm,rfl⟩)).mono s14
        exact this.pv
      . try contradiction
        exact k _ (s14.trans s5)
theorem S8 {H H1:Hp}{Q:VK}{E:XK}{a:Addr}{ns:List Int}{j:Int} (hS:SqL K H1 a (ns.map V.int)) (s1:Same H1 H) (h0:0<=j) (h:Q (.int (cell ns j)) H):Gn K [.ref a,.int j] H Q E:=⟨a,ns,j,rfl,s1.seq hS,h0,h⟩
theorem Xq {c:Rat}{d t N:Int}{far:Nat}{p:Rat × Rat} (b:Bd d p) (f1:1<=far) (d1:1<=d) (t0:0<=t) (eN:N=d*c.num*c.num*far*far/((c.den:Int)*c.den)) (h1:t*t<=N) (h2:N<(t+1)*(t+1)):(0<=c->(t:Rat)<=far*(c*p.2)/\far*(c*p.1)<=(t:Rat)+1)/\(c<=0->(t:Rat)<=far*((0-c)*p.2)/\far*((0-c)*p.1)<=(t:Rat)+1):=by
  have dn:=den_pos c
  have dd:(0:Int)<(c.den:Int)*c.den:=Int.mul_pos dn dn
  have fl:=Int.mul_ediv_add_emod (d*c.num*c.num*far*far) ((c.den:Int)*c.den)
  have r0:=Int.emod_nonneg (d*c.num*c.num*far*far) (Int.ne_of_gt dd)
  have r1:=Int.emod_lt_of_pos (d*c.num*c.num*far*far) dd
  rw [<-eN]at fl
  generalize d*c.num*c.num*far*far%((c.den:Int)*c.den)=r at*
  have k1:(c.den:Int)*c.den*N<=d*c.num*c.num*far*far:=by omega
  have k2:d*c.num*c.num*far*far<(c.den:Int)*c.den*(N+1):=by
    rw [Int.mul_add,Int.mul_one]
    omega
  have md:=Im c
  have pd:=Gm c
  have q1:(c.den:Rat)*c.den*N<=d*c.num*c.num*far*far:=by
    have:=Rat.intCast_le_intCast.mpr k1
    simpa only [Rat.intCast_mul,Rat.intCast_natCast]using this
  have q2:(d:Rat)*c.num*c.num*far*far<c.den*c.den*((N:Rat)+1):=by
    have:=Rat.intCast_lt_intCast.mpr k2
    simpa only [Rat.intCast_mul,Rat.intCast_natCast,Rat.intCast_add,Rat.intCast_one]using this
  rw [<-md]at q1 q2
  have pp:(0:Rat)<(c.den:Rat)*c.den:=Rat.mul_pos pd pd
  have v1:(N:Rat)<=d*(c*c)*(far*far):=Rat.not_lt.mp fun z=>by
    have:=Rat.mul_pos pp (show 0<(N:Rat)-d*(c*c)*(far*far)by grind)
    grind
  have v2:(d:Rat)*(c*c)*(far*far)<N+1:=Rat.not_le.mp fun z=>by
    have:=Rat.mul_nonneg (Rat.le_of_lt pp) (show 0<=(d:Rat)*(c*c)*(far*far)-(N+1)by grind)
    grind
  have w1:(t:Rat)*t<=N:=by
    have:=Rat.intCast_le_intCast.mpr h1
    simpa only [Rat.intCast_mul]using this
  have w2:(N:Rat)+1<=(t+1)*(t+1):=by
    have:=Rat.intCast_le_intCast.mpr (show N+1<=(t+1)*(t+1)by omega)
    simpa only [Rat.intCast_mul,Rat.intCast_add,Rat.intCast_one]using this
  have t0':(0:Rat)<=(t:Rat):=by
    have:=Rat.intCast_le_intCast.mpr t0
    exact this
  have f0:(0:Rat)<=(far:Rat):=Rat.natCast_nonneg
  have ff:=Rat.mul_nonneg f0 f0
  have cc:0<=c*c:=by
    by_cases h:0<=c
    . exact Rat.mul_nonneg h h
    . have:=Rat.mul_nonneg (show 0<=0-c by grind) (show 0<=0-c by grind)
      grind
  have cf:=Rat.mul_nonneg cc ff
  have m1:=Rat.mul_nonneg cf (show 0<=p.2*p.2-(d:Rat)by have:=b.hi;grind)
  have m2:=Rat.mul_nonneg cf (show 0<=(d:Rat)-p.1*p.1 by have:=b.lo;grind)
  have main:∀e:Rat,0<=e->e*e=c*c->(t:Rat)<=far*(e*p.2)/\far*(e*p.1)<=(t:Rat)+1:=fun e e0 ee=>by
    constructor
    . refine W8 t0' (Rat.mul_nonneg f0 (Rat.mul_nonneg e0 b.h0)) ?_
      have:(far:Rat)*(e*p.2)*(far*(e*p.2))=e*e*(far*far)*(p.2*p.2):=by grind
      rw [this,ee]
      grind
    . refine W8 (Rat.mul_nonneg f0 (Rat.mul_nonneg e0 b.l0)) (by grind) ?_
      have:(far:Rat)*(e*p.1)*(far*(e*p.1))=e*e*(far*far)*(p.1*p.1):=by grind
      rw [this,ee]
      grind
  exact⟨fun h=>main c h rfl,fun h=>main (0-c) (by grind) (by grind)⟩
def Scl (fs:List (Int × Rat)) (far:Nat) (low high:Int):Prop:=(high=low+fs.length)/\∀zs:List Zt,zs.map (·.1)=fs->(∀z∈zs,Bd z.1.1 z.2)->(low:Rat)<=far*hiS zs/\far*Jb zs<=(high:Rat)
theorem Scl.nil (far:Nat):Scl [] far 0 0:=⟨rfl,fun zs h _=>by
  have:zs=[]:=by simpa using h
  subst this
  show(0:Rat)<=far*0/\far*0<=(0:Rat)
  constructor<;>grind⟩
theorem Scl.snoc {fs:List (Int × Rat)}{far:Nat}{low high:Int} (h:Scl fs far low high) {e:Int × Rat}{t N:Int} (f1:1<=far) (d1:1<=e.1) (t0:0<=t) (eN:N=e.1*e.2.num*e.2.num*far*far/((e.2.den:Int)*e.2.den)) (h1:t*t<=N) (h2:N<(t+1)*(t+1)):
    (0<e.2.num->Scl (fs++ [e]) far (low+t) (high+t+1))/\(¬0<e.2.num->Scl (fs++ [e]) far (low-t-1) (high-t)):=by
  have le:((fs++ [e]).length:Int)=fs.length+1:=by rw [List.length_append];rfl
  have sp:∀zs:List Zt,zs.map (·.1)=fs++ [e]->∃ys z,zs=ys++ [z]/\ys.map (·.1)=fs/\z.1=e:=fun zs hz=>by
    have l0:zs≠ []:=fun q=>by
      rw [q]at hz
      simp at hz
    refine⟨zs.dropLast,zs.getLast l0,(List.dropLast_concat_getLast l0).symm,?_,?_⟩
    . rw [<-List.dropLast_concat_getLast l0,List.map_append]at hz
      exact(List.append_inj' hz rfl).1
    . rw [<-List.dropLast_concat_getLast l0,List.map_append]at hz
      have:=(List.append_inj' hz rfl).2
      simpa using this
  have P:=Adj e.2
  constructor
  . intro hp
    have cp:0<e.2:=by rw [<-P];exact hp
    refine⟨by rw [le];have:=h.1;omega,fun zs hz hb=> ?_⟩
    obtain⟨ys,z,rfl,hy,ez⟩:=sp zs hz
    have ih:=h.2 ys hy fun y hm=>hb y (by simp [hm])
    have bz:=hb z (by simp)
    rw [ez]at bz
    have k:=(Xq bz f1 d1 t0 eN h1 h2).1 (by grind)
    rw [Ei,Hl]
    unfold tL tG
    rw [ez,if_pos cp,if_pos cp,Rat.intCast_add,Rat.intCast_add,Rat.intCast_add]
    constructor
    . grind
    . show _<=(high:Rat)+t+1
      grind
  . intro hn
    have cn:¬0<e.2:=by rw [<-P];exact hn
    refine⟨by rw [le];have:=h.1;omega,fun zs hz hb=> ?_⟩
    obtain⟨ys,z,rfl,hy,ez⟩:=sp zs hz
    have ih:=h.2 ys hy fun y hm=>hb y (by simp [hm])
    have bz:=hb z (by simp)
    rw [ez]at bz
    have k:=(Xq bz f1 d1 t0 eN h1 h2).2 (by grind)
    rw [Ei,Hl]
    unfold tL tG
    rw [ez,if_neg cn,if_neg cn,Rat.intCast_sub,Rat.intCast_sub,Rat.intCast_sub]
    constructor
    . show(low:Rat)-t-1<=_
      grind
    . grind
def Jg (K:PySem.W.Frag):Sp:=fun vs H Q _=>∃(x:Addr) (fs:List (V × (Int × Rat))) (far:Nat),vs=[.ref x,.int (far:Nat)]/\SqT K H x (fs.map (·.1))/\(∀e∈fs,Rt 162 K H e.1 e.2/\1<=e.2.1/\e.2.1<=10000)/\fs.length<=10/\1<=far/\far<2^200/\∀(z:Addr) (H':Hp) (low high:Int),Same H H'->SqT K H' z [.int low,.int high]->Scl (fs.map (·.2)) far low high->Q (.ref z) H'
theorem Q8 {f:Addr}{fd:FuncData} (F:Df K mg "_law_scaled" Lh ["_law_one","_law_far"] f fd)   (c_root_floor:Cal P w K mg base 1 "root_floor" ["number"] (Ea K)):Cal P w K mg base 2 "_law_scaled" ["_law_one","_law_far"] (Jg K):=by
  refine F.cal (F.fn.ok Br (fun vs H Q E h=> ?_) (fun cdv A outer s H vs Q E hr h=> ?_))
  . obtain⟨x,fs,far,rfl,_⟩:=h
    rfl
  obtain⟨x,fs,far,rfl,hx,hf,fl,f1,f2,k⟩:=h
  refine S.Bj ⟨_,(S.Ad (S.Ai (i:=2) Br.nd rfl (Or.inl rfl) S.Ab)
      (S.Ad (S.Ai (i:=3) Br.nd rfl (Or.inl rfl) S.Ab)
      (S.Ad (S.Gw PassesOwn.never rfl (S.Kz (S.pv 0)) (S.Cr rfl (S.Ao (S.Aq (i:=4) Br.nd rfl (Or.inl rfl)) (S.Ao (S.Aq (i:=5) Br.nd rfl (Or.inl rfl)) S.Bq))) (S.Ad (S.Ai (i:=6) Br.nd rfl (Or.inl rfl) (S.Aw c_root_floor (hr.mono (by decide)) (S.Aa (S.Af Bg (S.Af Az (S.Af Az (S.Af Az (S.Af Az (S.pv 4) (S.Ay Ak (S.pv 5) S.Ab (fun _ _=>rfl))) (S.Ay Ak (S.pv 5) S.Ab (fun _ _=>rfl))) (S.pv 1)) (S.pv 1)) (S.Af Az (S.Ay Ak (S.pv 5) S.Ab (fun _ _=>rfl)) (S.Ay Ak (S.pv 5) S.Ab (fun _ _=>rfl)))) S.Ac)))
      (S.Ae (S.Bm (S.Ah P0 (S.Ay Ak (S.pv 5) S.Ab (fun _ _=>rfl)) S.Ab (Aj _)) (S.Ad (S.Ai (i:=2) Br.nd rfl (Or.inl rfl) (S.Af Cu (S.pv 2) (S.pv 6)))
      (S.Ae (S.Ai (i:=3) Br.nd rfl (Or.inl rfl) (S.Af Cu (S.Af Cu (S.pv 3) (S.pv 6)) S.Ab)))) (S.Ad (S.Ai (i:=2) Br.nd rfl (Or.inl rfl) (S.Af Ii (S.Af Ii (S.pv 2) (S.pv 6)) S.Ab))
      (S.Ae (S.Ai (i:=3) Br.nd rfl (Or.inl rfl) (S.Af Ii (S.pv 3) (S.pv 6)))))))))
      (S.Ae (S.Al (S.Av (S.Aa (S.pv 2) (S.Aa (S.pv 3) S.Ac)))))))),?_⟩
  refine Am (fun σ' H'=>H'=H/\σ'=[some (.ref x),some (.int (far:Nat)),some (.int 0),none,none,none,none]) (fun M hM=> ?_) ?_
  . contradiction
    exact hM _ _ ⟨rfl,rfl⟩
  rintro _ H1 ⟨e1,rfl⟩
  rw [e1]
  clear e1 H1
  refine Am (fun σ' H'=>H'=H/\σ'=[some (.ref x),some (.int (far:Nat)),some (.int 0),some (.int 0),none,none,none]) (fun M hM=> ?_) ?_
  . contradiction
    exact hM _ _ ⟨rfl,rfl⟩
  rintro _ H1 ⟨e1,rfl⟩
  rw [e1]
  clear e1 H1
  refine Am (fun σ' H'=>H'=H/\∃(low high:Int) (o4 o5 o6:Option V),Scl (fs.map (·.2)) far low high/\σ'=[some (.ref x),some (.int (far:Nat)),some (.int low),some (.int high),o4,o5,o6]) (fun M hM=> ?_) ?_
  . contradiction
    refine⟨⟨_,hx⟩,Qe (es:=fs) (inj:=(·.1)) (fun pre σ' H'=>H'=H/\∃(low high:Int) (o4 o5 o6:Option V),Scl (pre.map (·.2)) far low high/\σ'=[some (.ref x),some (.int (far:Nat)),some (.int low),some (.int high),o4,o5,o6]) ⟨rfl,0,0,_,_,_,.nil far,rfl⟩ ?_ ?_ ?_⟩
    . rintro pre σ' H' ⟨e1,_⟩
      rw [e1]
      exact O9 hx
    . rintro pre e post σ' H' hE ⟨e1,low,high,o4,o5,o6,sc,rfl⟩
      rw [e1]
      clear e1 H'
      have em:e∈fs:=by rw [hE];simp
      obtain⟨hr1,d1,d2⟩:=hf e em
      obtain⟨b,c,eb,hb,⟨cb,rfl,hc⟩,zc⟩:=hr1
      have zd:Sz 14 e.2.1:=by unfold Sz;omega
      have zf:Sz 200 (far:Int):=by unfold Sz;exact f2
      have z1:=zd.mul zc.1
      have z2:=z1.mul zc.1
      have z3:=z2.mul zf
      have z4:=z3.mul zf
      have dn:=den_pos e.2.2
      have dd:(0:Int)<(e.2.2.den:Int)*e.2.2.den:=Int.mul_pos dn dn
      have zz:=zc.2.mul zc.2
      have n0:0<=e.2.1*e.2.2.num*e.2.2.num*far*far:=by
        have h1:0<=e.2.2.num*e.2.2.num:=by
          by_cases h:0<=e.2.2.num
          . exact Int.mul_nonneg h h
          . exact Int.mul_nonneg_of_nonpos_of_nonpos (by omega) (by omega)
        have h2:0<=(far:Int)*far:=Int.mul_nonneg (by omega) (by omega)
        have h3:0<=e.2.1*(e.2.2.num*e.2.2.num)*((far:Int)*far):=Int.mul_nonneg (Int.mul_nonneg (by omega) h1) h2
        have h4:e.2.1*e.2.2.num*e.2.2.num*far*far=e.2.1*(e.2.2.num*e.2.2.num)*((far:Int)*far):=by grind
        rw [h4]
        exact h3
      rw [eb]
      refine Ck hb ?_
      contradiction
      refine Bf hc (at0 _ _) ?_
      try contradiction
      refine⟨zd.mulOk zc.1 (by decide),Bf hc (at0 _ _) ?_⟩
      try contradiction
      refine⟨z1.mulOk zc.1 (by decide),z2.mulOk zf (by decide),z3.mulOk zf (by decide),Bf hc (at1 _ _ _) (Bf hc (at1 _ _ _) ?_)⟩
      try contradiction
      refine⟨zc.2.mulOk zc.2 (by decide),⟨dd,zz.log2 (by omega) (by decide)⟩,_,rfl,Int.ediv_nonneg n0 (by omega),?_,fun t t0 _ t1 t2=> ?_⟩
      . refine Sz.of_abs (z4.mono (by decide)) ?_
        have h1:=Int.ediv_le_self ((e.2.2.den:Int)*e.2.2.den) n0
        have h2:=Int.ediv_nonneg n0 (Int.le_of_lt dd)
        generalize e.2.1*e.2.2.num*e.2.2.num*far*far/((e.2.2.den:Int)*e.2.2.den)=A at*
        generalize e.2.1*e.2.2.num*e.2.2.num*far*far=B at*
        omega
      try contradiction
      have sn:=sc.snoc f1 d1 t0 rfl t1 t2
      refine Bf hc (at0 _ _) ?_
      try contradiction
      split
      . refine⟨_,_,_,_,_,?_,rfl⟩
        rw [List.map_append]
        exact sn.1 (by assumption)
      . refine⟨_,_,_,_,_,?_,rfl⟩
        rw [List.map_append]
        exact sn.2 (by assumption)
    . rintro σ' H' ⟨e1,low,high,o4,o5,o6,sc,rfl⟩
      exact hM _ _ ⟨e1,low,high,o4,o5,o6,sc,rfl⟩
  rintro _ H1 ⟨e1,low,high,o4,o5,o6,sc,rfl⟩
  rw [e1]
  clear e1 H1
  contradiction
  (intro q hq;generalize eq:upd _ q _=Gq;obtain⟨sq,gq⟩:=nw hq eq;clear eq hq)
  exact k q _ low high sq (.of gq) sc
theorem Zv {a b:Int}{B:Nat} (h1: -(B:Int)<=a) (h2:a<=B) (b1:1<=b):Co (Rat.divInt a b) (B:Rat):=by
  have e:Rat.divInt a b*(b:Rat)=(a:Rat):=by
    have b0:b≠0:=by omega
    rw [<-Ut (b:Rat)]
    show Rat.divInt a b*Rat.divInt b 1=_
    rw [Rat.divInt_mul_divInt]
    have e2:(a:Rat)=Rat.divInt a 1:=(Ut (a:Rat)).symm
    rw [e2,Rat.divInt_eq_divInt_iff (by omega) (by decide)]
    grind
  generalize Rat.divInt a b=c at e
  have a1:0-(B:Rat)<=(a:Rat):=by
    have:=Rat.intCast_le_intCast.mpr h1
    rw [Rat.intCast_neg,Rat.intCast_natCast]at this
    grind
  have a2:(a:Rat)<=(B:Rat):=by
    have:=Rat.intCast_le_intCast.mpr h2
    rwa [Rat.intCast_natCast]at this
  have bb:(1:Rat)<=(b:Rat):=by
    have:=Rat.intCast_le_intCast.mpr b1
    exact this
  have B0:(0:Rat)<=(B:Rat):=Rat.natCast_nonneg
  constructor
  . refine Rat.not_lt.mp fun z=> ?_
    have h:=Rat.mul_nonneg (show 0<=0-(B:Rat)-c by grind) (show 0<=(b:Rat)-1 by grind)
    have h':=Rat.mul_nonneg B0 (show 0<=(b:Rat)-1 by grind)
    grind
  . refine Rat.not_lt.mp fun z=> ?_
    have h:=Rat.mul_nonneg (show 0<=c-(B:Rat)by grind) (show 0<=(b:Rat)-1 by grind)
    have h':=Rat.mul_nonneg B0 (show 0<=(b:Rat)-1 by grind)
    grind
theorem den_add (p q:Rat):(p+q).den<=p.den*q.den:=by
  rw [<-Aew]
  have:=Nz (a:=p.num*q.den+q.num*p.den) (b:=(p.den:Int)*q.den) (Int.mul_ne_zero (Dp p) (Dp q))
  rwa [<-Int.natCast_mul,Int.natAbs_natCast]at this
theorem Yo (p:Rat) (s:Nat):(p*(s:Rat)).den<=p.den:=by
  rw [<-Adl]
  have e:(p.den:Int)*(((s:Nat):Rat).den:Int)=(p.den:Int):=Int.mul_one _
  rw [e]
  exact Nz (a:=p.num*((s:Nat):Rat).num) (b:=(p.den:Int)) (Dp p)
theorem Co.add {a b A B:Rat} (h:Co a A) (g:Co b B):Co (a+b) (A+B):=⟨by have:=h.lo;have:=g.lo;grind,by have:=h.hi;have:=g.hi;grind⟩
theorem Co.mono {a A B:Rat} (h:Co a A) (l:A<=B):Co a B:=⟨by have:=h.lo;grind,by have:=h.hi;grind⟩
theorem Zg {B:Rat} (B0:0<=B) (i:Int):∀ {ts:List (Int × Rat)},(∀e∈ts,Co e.2 B)->Co (tot ts i) (B*(ts.length:Rat))
  | [],_=>⟨by
    show 0-B*(0:Rat)<=0
    grind,by
    show(0:Rat)<=B*0
    grind⟩
  | x::r,h=>by
    have ih:=Zg B0 i (ts:=r) fun e he=>h e (by simp [he])
    have h1:Co (if x.1=i then x.2 else 0) B:=by
      split
      . exact h x (by simp)
      . exact⟨by grind,B0⟩
    have:=h1.add ih
    show Co ((if x.1=i then x.2 else 0)+tot r i) _
    refine this.mono ?_
    rw [List.length_cons,Rat.natCast_add]
    show B+B*(r.length:Rat)<=B*((r.length:Rat)+1)
    grind
theorem Ww {D:Nat} (D1:1<=D) (i:Int):∀ {ts:List (Int × Rat)},(∀e∈ts,e.2.den<=D)->(tot ts i).den<=D^ts.length
  | [],_=>by
    show 1<=D^0
    rw [Nat.pow_zero]
    exact Nat.le_refl _
  | x::r,h=>by
    have ih:=Ww D1 i (ts:=r) fun e he=>h e (by simp [he])
    have h1:(if x.1=i then x.2 else(0:Rat)).den<=D:=by
      split
      . exact h x (by simp)
      . exact D1
    show((if x.1=i then x.2 else 0)+tot r i).den<=_
    rw [List.length_cons,Nat.pow_succ,Nat.mul_comm]
    exact Nat.le_trans (den_add _ _) (Nat.mul_le_mul h1 ih)
theorem Z2 {c:Rat}{a b:Nat} (h:Co c ((2^a:Nat):Rat)) (d:c.den<=2^b):Szq (a+b+1) c:=by
  have md:=Im c
  have pd:=Gm c
  have db:((c.den:Nat):Rat)<=((2^b:Nat):Rat):=Rat.natCast_le_natCast.mpr d
  have A0:(0:Rat)<=((2^a:Nat):Rat):=Rat.natCast_nonneg
  have k1:=Rat.mul_nonneg (Rat.le_of_lt pd) (show 0<=((2^a:Nat):Rat)-c by have:=h.hi;grind)
  have k2:=Rat.mul_nonneg (Rat.le_of_lt pd) (show 0<=((2^a:Nat):Rat)+c by have:=h.lo;grind)
  have k3:=Rat.mul_nonneg A0 (show 0<=((2^b:Nat):Rat)-((c.den:Nat):Rat)by grind)
  have u1:((c.num:Int):Rat)<=((((2^a*2^b:Nat):Nat):Int):Rat):=by
    rw [Rat.intCast_natCast,Rat.natCast_mul]
    grind
  have u2:(((-((2^a*2^b:Nat):Int)):Int):Rat)<=((c.num:Int):Rat):=by
    rw [Rat.intCast_neg,Rat.intCast_natCast,Rat.natCast_mul]
    grind
  have v1:=Rat.intCast_le_intCast.mp u1
  have v2:=Rat.intCast_le_intCast.mp u2
  have e:2^(a+b+1)=2^a*2^b*2:=by rw [Nat.pow_succ,Nat.pow_add]
  have p1:=Nat.two_pow_pos a
  have p2:=Nat.two_pow_pos b
  have pp:=Nat.mul_pos p1 p2
  refine⟨?_,?_⟩
  . unfold Sz
    rw [e]
    omega
  . unfold Sz
    rw [e,Int.natAbs_natCast]
    have:1*2^b<=2^a*2^b:=Nat.mul_le_mul_right _ p1
    omega
theorem Rt.sz {n m:Nat}{H:Hp}{v:V}{e:Int × Rat} (h:Rt n K H v e) (z:Szq m e.2):Rt m K H v e:=by
  obtain⟨a,x,rfl,h1,h2,_⟩:=h
  exact⟨a,x,rfl,h1,h2,z⟩
theorem Ad4 {H:Hp}{z:Addr}{fs:List (V × (Int × Rat))}{n:Nat} (h:Sm K H z fs n 10000) (cb:∀e∈fs,Co e.2.2 1152921504606846976) (cd:∀e∈fs,e.2.2.den<=2^100) (cg:∀e∈fs,1<e.2.1->e.2.2.den<=1048576):∃ps gs,fs=ps++gs/\On K H z ps gs:=by
  have r1:∀e∈fs,Rt 162 K H e.1 e.2:=fun e he=>(h.al e he).sz ((Z2 (a:=60) (b:=100) (cb e he) (cd e he)).mono (by decide))
  have r2:∀e∈fs,1<e.2.1->Rt 81 K H e.1 e.2:=fun e he hk=>(h.al e he).sz ((Z2 (a:=60) (b:=20) (cb e he) (cg e he hk)).mono (by decide))
  have bg:=h.bg
  match fs,h,cb,cd,cg,r1,r2,bg with
  | [],h,_,_,_,_,_,_=>exact⟨[],[],rfl,⟨⟨h.it,by decide,by decide,by simp,by simp⟩,h.up,h.ky,by simp,by simp,by simp⟩⟩
  | e::r,h,cb,cd,cg,r1,r2,bg=>
    have up:=h.up
    rw [List.map_cons,List.pairwise_cons]at up
    have e1:=(h.ky e (by simp)).1.1
    have rk:∀x∈r,1<x.2.1:=fun x hx=>by
      have:=up.1 x.2 (List.mem_map.mpr ⟨x,hx,rfl⟩)
      omega
    have fl:(r.map (·.2)).filter (fun x=>decide (1<x.1))=r.map (·.2):=List.filter_eq_self.mpr fun x hx=>by
      obtain⟨y,hy,rfl⟩:=List.mem_map.mp hx
      exact decide_eq_true (rk y hy)
    by_cases k1:e.2.1=1
    . have bl:r.length<=3:=by
        unfold big at bg
        rw [List.map_cons,List.filter_cons_of_neg (by simp [k1]),fl,List.length_map]at bg
        exact bg
      exact⟨[e],r,rfl,⟨⟨h.it,by show 1<=1;decide,bl,fun x hx=>by
        have:x=e:=by simpa using hx
        rw [this]
        exact⟨r1 e (by simp),k1⟩,fun x hx=>⟨r2 x (by simp [hx]) (rk x hx),rk x hx⟩⟩,h.up,h.ky,cb,fun x hx=>cd x (by simp at hx;simp [hx]),fun x hx=>cg x (by simp [hx]) (rk x hx)⟩⟩
    . have k2:1<e.2.1:=by omega
      have bl:(e::r).length<=3:=by
        unfold big at bg
        rw [List.map_cons,List.filter_cons_of_pos (by simpa using k2),fl,List.length_cons,List.length_map]at bg
        exact bg
      have ak:∀x∈e::r,1<x.2.1:=fun x hx=>(List.mem_cons.mp hx).elim (fun q=>by rw [q];exact k2) (rk x)
      exact⟨[],e::r,rfl,⟨⟨h.it,by decide,bl,by simp,fun x hx=>⟨r2 x hx (ak x hx),ak x hx⟩⟩,h.up,h.ky,cb,by simp,fun x hx=>cg x hx (ak x hx)⟩⟩
theorem Adt {R:List (Int × Rat)} (up:R.Pairwise fun a b=>a.1<b.1) (h0:∀e∈R,e.2≠0):NF R R:=⟨up,fun e=>⟨fun he=>⟨(Px up he).symm,h0 e he⟩,fun⟨h1,h2⟩=>by
  have:∃x∈R,x.1=e.1:=Classical.byContradiction fun z=>h2 (by
    rw [h1]
    exact Lz fun x hx ex=>z ⟨x,hx,ex⟩)
  obtain⟨x,hx,ex⟩:=this
  have ht:=Px (i:=x.1) (c:=x.2) up hx
  rw [ex,<-h1]at ht
  have:e=x:=Prod.ext ex.symm ht
  rw [this]
  exact hx⟩⟩
theorem Yg {R S T:List (Int × Rat)} (hR:NF R R) (hS:∀i,i≠1->tot S i=0) (hT:NF (R++S) T):big T=big R:=by
  have e:T.filter (fun e=>decide (1<e.1))=R.filter (fun e=>decide (1<e.1)):=by
    refine V1 (hT.up.filter _) (hR.up.filter _) fun x=> ?_
    rw [List.mem_filter,List.mem_filter,hT.mem,hR.mem,Lr]
    constructor
    . rintro⟨h,g⟩
      have:1<x.1:=by simpa using g
      rw [hS x.1 (by omega)]at h
      exact⟨⟨by grind,h.2⟩,g⟩
    . rintro⟨h,g⟩
      have:1<x.1:=by simpa using g
      rw [hS x.1 (by omega)]
      exact⟨⟨by grind,h.2⟩,g⟩
  unfold big
  rw [e]
theorem Abj {a b:Int}{B:Nat} (h1: -((B:Int)*b)<=a) (h2:a<=(B:Int)*b) (b1:1<=b):Co (Rat.divInt a b) (B:Rat):=by
  have e:Rat.divInt a b*(b:Rat)=(a:Rat):=by
    have b0:b≠0:=by omega
    rw [<-Ut (b:Rat)]
    show Rat.divInt a b*Rat.divInt b 1=_
    rw [Rat.divInt_mul_divInt]
    have e2:(a:Rat)=Rat.divInt a 1:=(Ut (a:Rat)).symm
    rw [e2,Rat.divInt_eq_divInt_iff (by omega) (by decide)]
    grind
  generalize Rat.divInt a b=c at e
  have a1:0-(B:Rat)*b<=(a:Rat):=by
    have:=Rat.intCast_le_intCast.mpr h1
    rw [Rat.intCast_neg,Rat.intCast_mul,Rat.intCast_natCast]at this
    grind
  have a2:(a:Rat)<=(B:Rat)*b:=by
    have:=Rat.intCast_le_intCast.mpr h2
    rwa [Rat.intCast_mul,Rat.intCast_natCast]at this
  have bb:(0:Rat)<(b:Rat):=by
    have:=Rat.intCast_lt_intCast.mpr (show 0<b by omega)
    exact this
  constructor
  . refine Rat.not_lt.mp fun z=> ?_
    have h:=Rat.mul_pos (show 0<0-(B:Rat)-c by grind) bb
    grind
  . refine Rat.not_lt.mp fun z=> ?_
    have h:=Rat.mul_pos (show 0<c-(B:Rat)by grind) bb
    grind
theorem Ae5 {C:Rat} (C0:0<=C):∀ {zs:List Zt},(∀z∈zs,z.2=(0,100)/\Co z.1.2 C)->hiS zs<=100*C*(zs.length:Rat)/\0-100*C*(zs.length:Rat)<=Jb zs
  | [],_=>by
    show(0:Rat)<=100*C*0/\0-100*C*0<=(0:Rat)
    constructor<;>grind
  | z::r,h=>by
    obtain⟨e,c⟩:=h z (by simp)
    have ih:=Ae5 C0 (zs:=r) fun y hy=>h y (by simp [hy])
    have c1:=c.lo
    have c2:=c.hi
    have t:z.1.2*tG z<=100*C/\0-100*C<=z.1.2*tL z:=by
      unfold tG tL
      rw [e]
      split<;>constructor<;>grind
    show z.1.2*tG z+hiS r<=_/\_<=z.1.2*tL z+Jb r
    rw [List.length_cons,Rat.natCast_add]
    show _<=100*C*((r.length:Rat)+1)/\0-100*C*((r.length:Rat)+1)<=_
    constructor<;>grind
def Qd (K:PySem.W.Frag):Sp:=fun vs H Q _=>∃(x y:Addr) (es fs:List (V × (Int × Rat))) (n:Nat) (B:Int),vs=[.ref x,.ref y]/\Sm K H x es n B/\Sm K H y fs n B/\1<=n/\3*n+3<=8000/\Ren K H (es.map (·.2)++fs.map (·.2)) ((n+1)*2+1) Q
theorem Ro (K:PySem.W.Frag):∀vs H Q E,Qd K vs H Q E->Oc K vs H Q E0:=by
  rintro vs H Q E ⟨x,y,es,fs,n,B,rfl,a,b,n1,hn,k⟩
  exact⟨x,y,es,fs,n,B,rfl,a,b,n1,hn,k.res⟩
structure O1 (K:PySem.W.Frag) (H:Hp) (z:Addr) (fs:List (V × (Int × Rat))) (ts:List (Int × Rat)):Prop where
  sm:Sm K H z fs 118 10000
  nf:NF ts (fs.map (·.2))
  co:∀e∈ts,Co e.2 ((100000000000:Nat):Rat)/\e.2.den<=12
  le:ts.length<=3
theorem O1.mono {H H':Hp}{z:Addr}{fs:List (V × (Int × Rat))}{ts:List (Int × Rat)} (h:O1 K H z fs ts) (s:Same H H'):O1 K H' z fs ts:=⟨h.sm.mono s,h.nf,h.co,h.le⟩
theorem O1.bd {H:Hp}{z:Addr}{fs:List (V × (Int × Rat))}{ts:List (Int × Rat)} (h:O1 K H z fs ts) (i:Int):Co (tot (fs.map (·.2)) i) ((300000000000:Nat):Rat)/\(tot (fs.map (·.2)) i).den<=1728:=by
  rw [h.nf.tot]
  have l3:(ts.length:Rat)<=((3:Nat):Rat):=Rat.natCast_le_natCast.mpr h.le
  have B0:(0:Rat)<=((100000000000:Nat):Rat):=Rat.natCast_nonneg
  refine⟨(Zg B0 i fun e he=>(h.co e he).1).mono ?_,Nat.le_trans (Ww (by decide) i fun e he=>(h.co e he).2) ?_⟩
  . have:=Rat.mul_le_mul_of_nonneg_left l3 B0
    have e:((100000000000:Nat):Rat)*((3:Nat):Rat)=((300000000000:Nat):Rat):=by rw [<-Rat.natCast_mul]
    rw [e]at this
    exact this
  . exact Nat.le_trans (Nat.pow_le_pow_right (by decide) h.le) (by decide)
theorem O1.fin {H:Hp}{z:Addr}{fs:List (V × (Int × Rat))}{ts S:List (Int × Rat)} (h:O1 K H z fs ts) (kS:∀e∈S,e.1=1) (cq:Co (tot S 1) ((2^50:Nat):Rat)) (dq:(tot S 1).den<=2^88):(∀R,NF (fs.map (·.2)++S) R->¬Too R)/\∀z H' gs N,Rs K H' z gs N (fs.map (·.2)++S)->∃ps g,On K H' z ps g:=by
  have hS:∀i,i≠1->tot S i=0:=fun i hi=>Lz fun e he z=>hi (by rw [<-z];exact kS e he)
  have hR:NF (fs.map (·.2)) (fs.map (·.2)):=Adt h.sm.up fun e he=>by
    obtain⟨x,hx,rfl⟩:=List.mem_map.mp he
    exact(h.sm.ky x hx).2.2
  have hk:∀e∈fs.map (·.2)++S,Fr e.1/\e.1<=10000:=fun e he=>by
    rcases List.mem_append.mp he with he | he
    . obtain⟨x,hx,rfl⟩:=List.mem_map.mp he
      exact⟨(h.sm.ky x hx).1,(h.sm.ky x hx).2.1⟩
    . rw [kS e he]
      exact⟨⟨by decide,fun u h2 hu=>by
        have h1:=Nat.le_of_dvd (by decide) hu
        have h2:2*2<=u*u:=Nat.mul_le_mul h2 h2
        have h3:(1:Int).toNat=1:=rfl
        omega⟩,by decide⟩
  have bb:∀R,NF (fs.map (·.2)++S) R->big R<=3:=fun R nf=>by
    rw [Yg hR hS nf]
    exact h.sm.bg
  refine⟨fun R nf too=> ?_,fun z' H' gs N rs=> ?_⟩
  . rcases too with too | ⟨e,he,e12⟩
    . have:=bb R nf
      omega
    . obtain⟨x,hx,ex⟩:=nf.key he
      have:=(hk x hx).2
      omega
  . have val:∀e∈gs,e.2.2=tot (fs.map (·.2)) e.2.1+tot S e.2.1:=fun e he=>by
      have:=((rs.nf.mem e.2).mp (List.mem_map.mpr ⟨e,he,rfl⟩)).1
      rwa [Lr]at this
    have d0:(0:Rat).den=1:=rfl
    have q60:((300000000000:Nat):Rat)+((2^50:Nat):Rat)<=1152921504606846976:=by
      rw [<-Rat.natCast_add]
      exact Rat.natCast_le_natCast (a:=_) (b:=1152921504606846976) |>.mpr (by decide)
    have tS:∀i,Co (tot S i) ((2^50:Nat):Rat)/\(tot S i).den<=2^88:=fun i=>by
      by_cases hi:i=1
      . subst hi
        exact⟨cq,dq⟩
      . rw [hS i hi]
        exact⟨⟨by have:(0:Rat)<=((2^50:Nat):Rat):=Rat.natCast_nonneg;grind,Rat.natCast_nonneg⟩,by rw [d0];exact Nat.two_pow_pos _⟩
    obtain⟨ps,g,_,on⟩:=Ad4 (rs.sm (bb _ rs.nf) hk) (fun e he=>by
      rw [val e he]
      exact((h.bd e.2.1).1.add (tS e.2.1).1).mono q60) (fun e he=>by
      rw [val e he]
      exact Nat.le_trans (den_add _ _) (Nat.le_trans (Nat.mul_le_mul (h.bd e.2.1).2 (tS e.2.1).2) (by decide))) (fun e he h1=>by
      rw [val e he,hS e.2.1 (by omega)]
      refine Nat.le_trans (den_add _ _) ?_
      rw [d0,Nat.mul_one]
      exact Nat.le_trans (h.bd e.2.1).2 (by decide))
    exact⟨ps,g,on⟩
theorem O1.low {H:Hp}{z:Addr}{fs:List (V × (Int × Rat))}{ts:List (Int × Rat)} (h:O1 K H z fs ts) {far:Nat}{low high:Int} (sc:Scl (fs.map (·.2)) far low high):low<=120000000000000*far/\ -(120000000000000*far)-4<=low:=by
  have len:=h.sm.len
  obtain⟨eh,hz⟩:=sc
  rw [List.length_map]at eh
  have C0:(0:Rat)<=((300000000000:Nat):Rat):=Rat.natCast_nonneg
  obtain⟨b1,b2⟩:=hz ((fs.map (·.2)).map fun e=>(e,((0:Rat),(100:Rat)))) (by rw [List.map_map];exact List.map_id _) (fun t ht=>by
    obtain⟨e,he,rfl⟩:=List.mem_map.mp ht
    obtain⟨x,hx,rfl⟩:=List.mem_map.mp he
    have k:=h.sm.ky x hx
    refine⟨show(0:Rat)<=0 by decide,show(0:Rat)<=100 by decide,?_,?_⟩
    . show(0:Rat)*0<=(x.2.1:Rat)
      have:=Rat.intCast_le_intCast.mpr (show 0<=x.2.1 by have:=k.1.1;omega)
      have:(0:Rat)<=(x.2.1:Rat):=this
      grind
    . show(x.2.1:Rat)<=100*100
      have:=Rat.intCast_le_intCast.mpr k.2.1
      have:(x.2.1:Rat)<=10000:=this
      grind)
  obtain⟨c1,c2⟩:=Ae5 C0 (zs:=(fs.map (·.2)).map fun e=>(e,((0:Rat),(100:Rat)))) fun t ht=>by
    obtain⟨e,he,rfl⟩:=List.mem_map.mp ht
    obtain⟨x,hx,rfl⟩:=List.mem_map.mp he
    refine⟨rfl,?_⟩
    have tt:=Px (i:=x.2.1) (c:=x.2.2) h.sm.up (List.mem_map.mpr ⟨x,hx,rfl⟩)
    show Co x.2.2 _
    rw [<-tt]
    exact(h.bd _).1
  rw [List.length_map,List.length_map]at c1 c2
  have l4:(fs.length:Rat)<=((4:Nat):Rat):=Rat.natCast_le_natCast.mpr len
  have F0:(0:Rat)<=(far:Rat):=Rat.natCast_nonneg
  have K0:(0:Rat)<=100*((300000000000:Nat):Rat):=Rat.mul_nonneg (by decide) C0
  have d1:=Rat.mul_le_mul_of_nonneg_left l4 K0
  have e1:100*((300000000000:Nat):Rat)*((4:Nat):Rat)=((120000000000000:Nat):Rat):=by
    show((100:Nat):Rat)*((300000000000:Nat):Rat)*((4:Nat):Rat)=_
    rw [<-Rat.natCast_mul,<-Rat.natCast_mul]
  rw [e1]at d1
  have u1:=Rat.mul_nonneg F0 (show 0<=((120000000000000:Nat):Rat)-hiS ((fs.map (·.2)).map fun e=>(e,((0:Rat),(100:Rat))))by grind)
  have u2:=Rat.mul_nonneg F0 (show 0<=((120000000000000:Nat):Rat)+Jb ((fs.map (·.2)).map fun e=>(e,((0:Rat),(100:Rat))))by grind)
  have v1:((low:Int):Rat)<=(((120000000000000*far:Int)):Rat):=by
    rw [Rat.intCast_mul,Rat.intCast_natCast]
    show _<=((120000000000000:Nat):Rat)*_
    grind
  have v2:(((-(120000000000000*far:Int)):Int):Rat)<=((high:Int):Rat):=by
    rw [Rat.intCast_neg,Rat.intCast_mul,Rat.intCast_natCast]
    show-(((120000000000000:Nat):Rat)*_)<=_
    grind
  have w1:=Rat.intCast_le_intCast.mp v1
  have w2:=Rat.intCast_le_intCast.mp v2
  omega
theorem Vf {H:Hp}{Q:VK}{E:XK}{l a:Addr}{v:V}{q:Rat} (hl:H l=some (.lst [.ref a])) (ha:SqT K H a [.int 1,v]) (iv:IsQ K H v q) (zq:Szq 140 q) (k:∀z H' fs,Same H H'->Sm K H' z fs 430 10000->NF [(1,q)] (fs.map (·.2))->Q (.ref z) H'):Jp K [.ref l] H Q E:=by
  have one:∀ {P:V × (Int × Rat)->Prop},P (.ref a,(1,q))->∀e∈ [((.ref a,(1,q)):V × (Int × Rat))],P e:=fun {P} h e he=>by
    have:e=(.ref a,(1,q)):=by simpa using he
    rw [this]
    exact h
  have f1:Fr 1:=⟨by decide,fun u h2 hu=>by
    have h1:=Nat.le_of_dvd (by decide) hu
    have h2:2*2<=u*u:=Nat.mul_le_mul h2 h2
    have h3:(1:Int).toNat=1:=rfl
    omega⟩
  refine⟨l,[(.ref a,(1,q))],140,1,rfl,.of hl,one ⟨a,v,rfl,ha,iv,zq⟩,one ⟨show(1:Int)<=1 by decide,show(1:Int)<=1000000000000 by decide,show(1:Int)<4^1 by decide⟩,by show 1<=3;decide,by decide,by decide,fun z H' fs s rs=> ?_⟩
  have er:([((.ref a,(1,q)):V × (Int × Rat))].map fun e=>red e.2)=[(1,q)]:=by
    show [red (1,q)]=_
    rw [Fr.red (e:=(1,q)) f1]
  rw [er]at rs
  have hl:=rs.le
  refine k z H' fs s ((rs.sm (B:=10000) ?_ fun e he=> ?_).gr (by decide) (by decide)) rs.nf
  . have h1:=List.length_filter_le (fun e:Int × Rat=>decide (1<e.1)) (fs.map (·.2))
    unfold big
    rw [List.length_map]at h1
    have h2:[((1,q):Int × Rat)].length=1:=rfl
    omega
  . have:e=(1,q):=by simpa using he
    rw [this]
    exact⟨f1,show(1:Int)<=10000 by decide⟩
structure TmI (K:PySem.W.Frag) (H H':Hp) (f:Addr) (i:Nat) (es:List (V × (Int × Rat))):Prop where
  sm:Same H H'
  it:H' f=some (.lst (es.map (·.1)))
  al:∀e∈es,Rt 31 K H' e.1 e.2
  ky:∀e∈es,2<=e.2.1/\e.2.1<=10000
  co:∀e∈es,Co e.2.2 ((1000000000:Nat):Rat)/\e.2.2.den<=12
  le:es.length=i
theorem Ab0 {e:Int × Rat} (d1:1<=e.1) (d2:e.1<=10000) (h:Co e.2 ((1000000000:Nat):Rat)) (g:e.2.den<=12):Co (red e).2 ((100000000000:Nat):Rat)/\(red e).2.den<=12:=by
  obtain⟨d,c⟩:=e
  obtain⟨s,m,hs⟩:=V3 d.toNat d.toNat (Nat.le_refl _) (by have:1<=d:=d1;omega)
  rw [Int.toNat_of_nonneg (by have:1<=d:=d1;omega)]at hs
  rw [hs.red]
  have sl:s<=100:=Nat.le_of_not_lt fun z=>by
    have h1:101*101<=s*s:=Nat.mul_le_mul z z
    have h2:s*s*1<=s*s*m:=Nat.mul_le_mul_left _ hs.m0
    have h3:=hs.eq
    have:d<=10000:=d2
    omega
  have s1:(s:Rat)<=((100:Nat):Rat):=Rat.natCast_le_natCast.mpr sl
  have s0:(0:Rat)<=(s:Rat):=Rat.natCast_nonneg
  refine⟨?_,Nat.le_trans (Yo c s) g⟩
  have c1:0-((1000000000:Nat):Rat)<=c:=h.lo
  have c2:c<=((1000000000:Nat):Rat):=h.hi
  obtain⟨m1,m2⟩:=M9 c1 c2 (show 0-((100:Nat):Rat)<=(s:Rat)by
    show 0-(100:Rat)<=s
    grind) s1
  have e:((1000000000:Nat):Rat)*((100:Nat):Rat)=((100000000000:Nat):Rat):=by rw [<-Rat.natCast_mul]
  rw [e]at m1 m2
  exact⟨m1,m2⟩
def S9 (K:PySem.W.Frag):Sp:=fun vs H Q _=>∃(a:Addr) (ns:List Int),vs=[.ref a]/\SqL K H a (ns.map V.int)/\∀(z:Addr) (H':Hp) (ps gs:List (V × (Int × Rat))),Same H H'->On K H' z ps gs->Q (.ref z) H'
theorem m5 (x c:Int):∃v:Int,atI [V.int 2,.int 3,.int 5,.int 7,.int (2+c%9999)] (x%5)=some (.int v)/\2<=v/\v<=10000:=by
  have h:x%5=0\/x%5=1\/x%5=2\/x%5=3\/x%5=4:=by omega
  rcases h with h | h | h | h | h<;>rw [h]<;>exact⟨_,rfl,by omega,by omega⟩
theorem X7 {f:Addr}{fd:FuncData} (F:Df K mg "_law_sum" Q7 ["_law_script"] f fd) (z_range:mg "range"=none)  (c_root_sum:Cal P w K mg base 5 "root_sum" ["terms"] (Jp K)) (c_q_cell_at:Cal P w K mg base 1 "_law_cell_at" ["_law_script","_law_k"] (Gn K)) (c_s_minus:Cal P w K mg base 5 "s_minus" ["one","other"] (Od K)) (c_fraction:Cal P w K mg base 2 "fraction" ["top","bottom"] (Bw K)) (c_s_plus:Cal P w K mg base 5 "s_plus" ["one","other"] (Qd K)) (c_q_scaled:Cal P w K mg base 2 "_law_scaled" ["_law_one","_law_far"] (Jg K)):Cal P w K mg base 6 "_law_sum" ["_law_script"] (S9 K):=by
  refine F.cal (F.fn.ok Dt (fun vs H Q E h=> ?_) (fun cdv A outer s H vs Q E hr h=> ?_))
  . obtain⟨a,ns,rfl,_⟩:=h
    rfl
  obtain⟨a,ns,rfl,hS,k⟩:=h
  refine S.Bj ⟨_,(S.Ad (S.Ai (i:=1) Dt.nd rfl (Or.inl rfl) (S.Cp S.Ac))
      (S.Ad (S.Gw PassesOwn.never rfl (S.G7 rfl z_range (S.Aa (S.Af Ce (S.Aw c_q_cell_at (hr.mono (by decide)) (S.Aa (S.pv 0) (S.Aa S.Ab S.Ac))) S.Ab) S.Ac)) (S.Aq (i:=2) Dt.nd rfl (Or.inl rfl)) (S.Ad (S.Ai (i:=4) Dt.nd rfl (Or.inl rfl) (S.Aw c_q_cell_at (hr.mono (by decide)) (S.Aa (S.pv 0) (S.Aa (S.Af Cu S.Ab (S.pv 2)) S.Ac))))
      (S.Ad (S.Ai (i:=7) Dt.nd rfl (Or.inl rfl) (S.Ay G9 (S.Cp (S.Aa S.Ab (S.Aa S.Ab (S.Aa (S.Af Mz S.Ab S.Ab) S.Ac)))) (S.Af Ce (S.pv 4) S.Ab) (fun _ _=>rfl)))
      (S.Ad (S.Ai (i:=8) Dt.nd rfl (Or.inl rfl) (S.Aw c_fraction (hr.mono (by decide)) (S.Aa (S.Af Ii (S.Af Ce (S.Af Bg (S.pv 4) S.Ab) (S.Af Cu (S.Af Az S.Ab (S.pv 7)) S.Ab)) (S.pv 7)) (S.Aa (S.Af Cu S.Ab (S.Af Ce (S.Af Bg (S.pv 4) S.Ab) S.Ab)) S.Ac))))
      (S.Ae (S.Ji (S.M8 PySem.F.plainAttrs_list PySem.F.slot_list_append PySem.F.type_list_append Ib (S.pv 1) (S.Aa (S.Av (S.Aa (S.Ay G9 (S.Cp (S.Aa S.Ab (S.Aa S.Ab (S.Aa S.Ab (S.Aa S.Ab (S.Aa (S.Af Cu S.Ab (S.Af Ce (S.Af Bg (S.pv 4) S.Ab) S.Ab)) S.Ac)))))) (S.Af Ce (S.Af Bg (S.pv 4) S.Ab) S.Ab) (fun _ _=>rfl)) (S.Aa (S.pv 8) S.Ac))) S.Ac))))))))
      (S.Ad (S.Ai (i:=3) Dt.nd rfl (Or.inl rfl) (S.Aw c_root_sum (hr.mono (by decide)) (S.Aa (S.pv 1) S.Ac)))
      (S.Ad (S.Ai (i:=4) Dt.nd rfl (Or.inl rfl) (S.Aw c_q_cell_at (hr.mono (by decide)) (S.Aa (S.pv 0) (S.Aa S.Ab S.Ac))))
      (S.Ad (S.Bm (S.Ah Dr (S.Af Ce (S.pv 4) S.Ab) S.Ab (Aj _)) (S.Ae (S.Al (S.Aw c_s_plus (hr.mono (by decide)) (S.Aa (S.pv 3) (S.Aa (S.Aw c_root_sum (hr.mono (by decide)) (S.Aa (S.Cp (S.Aa (S.Av (S.Aa S.Ab (S.Aa (S.Aw c_fraction (hr.mono (by decide)) (S.Aa (S.Af Ii (S.Af Ce (S.Af Bg (S.pv 4) S.Ab) S.Ab) S.Ab) (S.Aa (S.Af Cu S.Ab (S.Af Ce (S.Af Bg (S.pv 4) S.Ab) S.Ab)) S.Ac))) S.Ac))) S.Ac)) S.Ac)) S.Ac))))) S.Ax)
      (S.Ad (S.Ai (i:=5) Dt.nd rfl (Or.inl rfl) (S.Ay G9 (S.Cp (S.Aa S.Ab (S.Aa S.Ab (S.Aa (S.Af Mz S.Ab S.Ab) (S.Aa (S.Af Mz S.Ab S.Ab) (S.Aa (S.Af Mz S.Ab S.Ab) S.Ac)))))) (S.Af Ce (S.Af Bg (S.pv 4) S.Ab) S.Ab) (fun _ _=>rfl)))
      (S.Ad (S.Ai (i:=6) Dt.nd rfl (Or.inl rfl) (S.Af Cu (S.Ay Ak (S.Aw c_q_scaled (hr.mono (by decide)) (S.Aa (S.pv 3) (S.Aa (S.pv 5) S.Ac))) S.Ab (fun _ _=>rfl)) (S.Af Ce (S.Af Bg (S.pv 4) S.Ab) S.Ab)))
      (S.Ae (S.Al (S.Aw c_s_minus (hr.mono (by decide)) (S.Aa (S.pv 3) (S.Aa (S.Aw c_root_sum (hr.mono (by decide)) (S.Aa (S.Cp (S.Aa (S.Av (S.Aa S.Ab (S.Aa (S.Aw c_fraction (hr.mono (by decide)) (S.Aa (S.pv 6) (S.Aa (S.pv 5) S.Ac))) S.Ac))) S.Ac)) S.Ac)) S.Ac)))))))))))),?_⟩
  refine Am (fun σ' H'=>Same H H'/\∃f,H f=none/\σ'=[some (.ref a),some (.ref f),none,none,none,none,none,none,none]/\H' f=some (.lst [])) (fun M hM=> ?_) ?_
  . contradiction
    exact⟨by decide,fun p hp=>hM _ _ ⟨Same.upd hp _,p,hp,rfl,Ar⟩⟩
  rintro σ H1 ⟨s1,f,nf,rfl,g1⟩
  refine Am (fun σ' H'=>∃(i:Nat) (es:List (V × (Int × Rat))) (o2 o4 o7 o8:Option V),i<=3/\σ'=[some (.ref a),some (.ref f),o2,none,o4,none,none,o7,o8]/\TmI K H H' f i es) (fun M hM=> ?_) ?_
  . contradiction
    refine S8 hS s1 (by decide) ?_
    try contradiction
    generalize hN:cell ns 0%4=c0
    have c6:0<=c0/\c0<=3:=by omega
    refine⟨by decide,by omega,by omega,?_⟩
    refine Afd c0.toNat (fun i=> .int (0+(i:Nat))) (fun i σ' H'=>∃(es:List (V × (Int × Rat))) (o2 o4 o7 o8:Option V),σ'=[some (.ref a),some (.ref f),o2,none,o4,none,none,o7,o8]/\TmI K H H' f i es) ⟨[],_,_,_,_,rfl,s1,g1,by simp,by simp,by simp,rfl⟩ ?_ ?_ ?_
    . rintro i σ' H' _
      exact K8
    . rintro i σ' H' hi ⟨es,o2,o4,o7,o8,rfl,ti⟩
      simp only [Cj,List.set_cons_succ,List.set_cons_zero]
      refine Am (fun σ' H''=>H''=H'/\∃x:Int,σ'=[some (.ref a),some (.ref f),some (.int (0+(i:Nat))),none,some (.int x),none,none,o7,o8]) (fun M hM=> ?_) ?_
      . contradiction
        refine S8 hS ti.sm (by omega) ?_
        try contradiction
        exact hM _ _ ⟨rfl,_,rfl⟩
      rintro _ H3 ⟨e3,x,rfl⟩
      rw [e3]
      clear e3 H3
      refine Am (fun σ' H''=>Same H' H''/\∃y:Int,5<=y/\y<=1000000000/\σ'=[some (.ref a),some (.ref f),some (.int (0+(i:Nat))),none,some (.int x),none,none,some (.int y),o8]) (fun M hM=> ?_) ?_
      . contradiction
        have e20:(10:Int)^Int.toNat 9=1000000000:=by decide
        rw [e20]
        refine⟨⟨by decide,by decide,by decide⟩,by decide,fun p hp=>⟨by decide,?_⟩⟩
        have menu:∃v:Int,atI [V.int 5,.int 99,.int 1000000000] (x%3)=some (.int v)/\5<=v/\v<=1000000000:=by
          have:x%3=0\/x%3=1\/x%3=2:=by omega
          rcases this with h | h | h<;>rw [h]<;>exact⟨_,rfl,by decide,by decide⟩
        obtain⟨v,ev,v1,v2⟩:=menu
        refine Dw (.of Ar) ev ?_
        exact hM _ _ ⟨Same.upd hp _,v,v1,v2,rfl⟩
      rintro _ H3 ⟨s3,y,y1,y2,rfl⟩
      refine Am (fun σ' H''=>Same H3 H''/\∃(z:V) (q:Rat),IsQ K H'' z q/\Szq 31 q/\(Co q ((1000000000:Nat):Rat)/\q.den<=12)/\σ'=[some (.ref a),some (.ref f),some (.int (0+(i:Nat))),none,some (.int x),none,none,some (.int y),some z]) (fun M hM=> ?_) ?_
      . contradiction
        have t0:=Int.emod_nonneg (x/3) (show 2*y+1≠0 by omega)
        have t1:=Int.emod_lt_of_pos (x/3) (show 0<2*y+1 by omega)
        generalize x/3%(2*y+1)=u at t0 t1
        have zb:Sz 31 (1+x/7%12):=by unfold Sz;omega
        have zt:Sz 31 (u-y):=by unfold Sz;omega
        refine⟨⟨by decide,by decide⟩,.of_left (Ac8 (by decide)),by omega,⟨by decide,by decide⟩,by decide,_,_,rfl,by omega,zb.mono (by decide),fun z H5 s5 iz=> ?_⟩
        try contradiction
        exact hM _ _ ⟨s5,z,_,iz,Szq.of zt zb (by omega),⟨Zv (by omega) (by omega) (by omega),Nat.le_trans (Nz (by omega)) (by omega)⟩,rfl⟩
      rintro _ H4 ⟨s4,z,q,iz,zq,cq,rfl⟩
      have g4:=(s3.trans s4) _ _ ti.it
      have s04:=(ti.sm.trans s3).trans s4
      contradiction
      refine⟨.inl ⟨rfl,_,.of g4⟩,⟨by decide,by decide⟩,by decide,by decide,?_⟩
      (intro l hl;generalize el:upd _ l _=Gl;obtain⟨sl,gl⟩:=nw hl el;clear el hl)
      refine⟨⟨by decide,by decide⟩,by decide,?_⟩
      obtain⟨d,ed,d1,d2⟩:=m5 (x/3) (x/13)
      refine Dw (.of gl) ed ?_
      (intro p hp;generalize ep:upd _ p _=Gp;obtain⟨sp,gp⟩:=nw hp ep;clear ep hp)
      have slp:=sl.trans sp
      have g5:=slp _ _ g4
      have l6:=ti.le
      refine⟨f,_,_,rfl,rfl,g5,by rw [List.length_map,l6];exact Nat.lt_of_lt_of_le (show i<7 by omega) (by decide),es++ [(.ref p,(d,q))],_,_,_,_,rfl,(s04.trans slp).put nf,?_,?_,?_,?_,?_⟩
      . rw [Ar,List.map_append]
        rfl
      . intro e he
        rcases List.mem_append.mp he with he | he
        . exact((ti.al e he).mono ((s3.trans s4).trans slp)).putL g5
        . have ee:e=(.ref p,(d,q)):=by simpa using he
          rw [ee]
          exact Rt.putL (ys:=es.map (·.1)) ⟨p,z,rfl,.of gp,iz.mono slp,zq⟩ g5
      . intro e he
        rcases List.mem_append.mp he with he | he
        . exact ti.ky e he
        . have ee:e=(.ref p,(d,q)):=by simpa using he
          rw [ee]
          exact⟨d1,d2⟩
      . intro e he
        rcases List.mem_append.mp he with he | he
        . exact ti.co e he
        . have ee:e=(.ref p,(d,q)):=by simpa using he
          rw [ee]
          exact cq
      . rw [List.length_append,l6]
        rfl
    . rintro σ' H' ⟨es,o2,o4,o7,o8,rfl,ti⟩
      exact hM _ _ ⟨_,es,o2,o4,o7,o8,by omega,rfl,ti⟩
  rintro σ H2 ⟨i,es,o2,o4,o7,o8,i3,rfl,ti⟩
  refine Am (fun σ' H'=>Same H H'/\∃(z:Addr) (fs:List (V × (Int × Rat))) (ts:List (Int × Rat)),O1 K H' z fs ts/\σ'=[some (.ref a),some (.ref f),o2,some (.ref z),o4,none,none,o7,o8]) (fun M hM=> ?_) ?_
  . contradiction
    have le:=ti.le
    refine⟨f,es,31,7,rfl,.of ti.it,ti.al,fun e he=> ?_,by omega,by decide,by decide,fun z H3 fs s3 rs=> ?_⟩
    . have:=ti.ky e he
      exact⟨by omega,by omega,by omega⟩
    . have hl:=rs.le
      rw [List.length_map]at hl
      refine hM _ _ ⟨ti.sm.trans s3,z,fs,_,⟨rs.sm ?_ fun e he=> ?_,rs.nf,fun e he=> ?_,by rw [List.length_map];omega⟩,rfl⟩
      . have:=List.length_filter_le (fun e:Int × Rat=>decide (1<e.1)) (fs.map (·.2))
        unfold big
        rw [List.length_map]at this
        omega
      . obtain⟨x,hx,rfl⟩:=List.mem_map.mp he
        have h1:=ti.ky x hx
        have h2:=Acj (e:=x.2) (by omega)
        exact⟨h2.1,Int.le_trans h2.2 h1.2⟩
      . obtain⟨x,hx,rfl⟩:=List.mem_map.mp he
        have h1:=ti.ky x hx
        have h2:=ti.co x hx
        exact Ab0 (by omega) h1.2 h2.1 h2.2
  rintro σ H3 ⟨s3,z,fs,ts,o,rfl⟩
  refine Am (fun σ' H'=>H'=H3/\∃c:Int,σ'=[some (.ref a),some (.ref f),o2,some (.ref z),some (.int c),none,none,o7,o8]) (fun M hM=> ?_) ?_
  . contradiction
    refine S8 hS s3 (by decide) ?_
    exact hM _ _ ⟨rfl,_,rfl⟩
  rintro _ H4 ⟨e4,c,rfl⟩
  rw [e4]
  clear e4 H4 ti
  refine Am (fun σ' H'=>H'=H3/\σ'=[some (.ref a),some (.ref f),o2,some (.ref z),some (.int c),none,none,o7,o8]) (fun M hM=> ?_) ?_
  . contradiction
    refine⟨by decide,?_⟩
    split
    . refine⟨⟨by decide,by decide⟩,by decide,⟨by decide,by decide⟩,by decide,_,_,rfl,by omega,(show Sz 8 (1+c/402%9)by unfold Sz;omega).mono (by decide),fun v H4 s4 iv=> ?_⟩
      have zq:Szq 8 (Rat.divInt (c/2%201-100) (1+c/402%9)):=Szq.of (by unfold Sz;omega) (by unfold Sz;omega) (by omega)
      have cq:Co (Rat.divInt (c/2%201-100) (1+c/402%9)) ((100:Nat):Rat):=Zv (by omega) (by omega) (by omega)
      have dq:(Rat.divInt (c/2%201-100) (1+c/402%9)).den<=9:=Nat.le_trans (Nz (by omega)) (by omega)
      generalize Rat.divInt (c/2%201-100) (1+c/402%9)=q at iv zq cq dq
      try contradiction
      (intro p1 hp1;generalize ep1:upd _ p1 _=Gp1;obtain⟨sp1,gp1⟩:=nw hp1 ep1;clear ep1 hp1)
      (intro p2 hp2;generalize ep2:upd _ p2 _=Gp2;obtain⟨sp2,gp2⟩:=nw hp2 ep2;clear ep2 hp2)
      refine Vf gp2 (.of (sp2 _ _ gp1)) (iv.mono (sp1.trans sp2)) (zq.mono (by decide)) fun z2 H5 f2 s5 sm2 nf2=> ?_
      have s35:=((s4.trans sp1).trans sp2).trans s5
      have kS:∀e∈f2.map (·.2),e.1=1:=fun e he=>by
        obtain⟨x,hx,ex⟩:=nf2.key he
        have:x=(1,q):=by simpa using hx
        rw [this]at ex
        exact ex.symm
      have t1:tot (f2.map (·.2)) 1=q:=by
        rw [nf2.tot]
        show(if(1:Int)=1 then q else 0)+0=q
        rw [if_pos rfl]
        grind
      have fin:=(o.mono s35).fin kS (by rw [t1];exact cq.mono (Rat.natCast_le_natCast.mpr (by decide))) (by rw [t1];exact Nat.le_trans dq (by decide))
      refine⟨z,z2,fs,f2,430,10000,rfl,(o.mono s35).sm.gr (by decide) (by decide),sm2,by decide,by decide,fin.1,fun z6 H6 gs s6 rs=> ?_⟩
      obtain⟨ps,g,on⟩:=fin.2 z6 H6 gs _ rs
      exact k z6 H6 ps g ((s3.trans s35).trans s6) on
    . exact hM _ _ ⟨rfl,rfl⟩
  rintro _ H4 ⟨e4,rfl⟩
  rw [e4]
  clear e4 H4
  refine Am (fun σ' H'=>Same H3 H'/\∃far:Nat,1<=far/\far<=10000000000000000000000000/\σ'=[some (.ref a),some (.ref f),o2,some (.ref z),some (.int c),some (.int (far:Nat)),none,o7,o8]) (fun M hM=> ?_) ?_
  . contradiction
    have e6:(10:Int)^Int.toNat 6=1000000:=by decide
    have e15:(10:Int)^Int.toNat 15=1000000000000000:=by decide
    have e25:(10:Int)^Int.toNat 25=10000000000000000000000000:=by decide
    rw [e6,e15,e25]
    refine⟨⟨by decide,by decide,by decide⟩,⟨by decide,by decide,by decide⟩,⟨by decide,by decide,by decide⟩,by decide,?_⟩
    (intro p hp;generalize ep:upd _ p _=Gp;obtain⟨sp,gp⟩:=nw hp ep;clear ep hp)
    refine⟨⟨by decide,by decide⟩,by decide,?_⟩
    have h:c/2%5=0\/c/2%5=1\/c/2%5=2\/c/2%5=3\/c/2%5=4:=by omega
    rcases h with h | h | h | h | h<;>rw [h]
    . exact Dw (.of gp) (Bk (j:=0) rfl) (hM _ _ ⟨sp,1,by decide,by decide,rfl⟩)
    . exact Dw (.of gp) (Bk (j:=1) rfl) (hM _ _ ⟨sp,10,by decide,by decide,rfl⟩)
    . exact Dw (.of gp) (Bk (j:=2) rfl) (hM _ _ ⟨sp,1000000,by decide,by decide,rfl⟩)
    . exact Dw (.of gp) (Bk (j:=3) rfl) (hM _ _ ⟨sp,1000000000000000,by decide,by decide,rfl⟩)
    . exact Dw (.of gp) (Bk (j:=4) rfl) (hM _ _ ⟨sp,10000000000000000000000000,by decide,by decide,rfl⟩)
  rintro σ H4 ⟨s4,far,f1,f2,rfl⟩
  replace o:=o.mono s4
  replace s3:=s3.trans s4
  clear s4
  refine Am (fun σ' H'=>Same H4 H'/\∃low:Int,-((1000000000000000:Int)*far)<=low/\low<=(1000000000000000:Int)*far/\σ'=[some (.ref a),some (.ref f),o2,some (.ref z),some (.int c),some (.int (far:Nat)),some (.int low),o7,o8]) (fun M hM=> ?_) ?_
  . contradiction
    refine⟨z,fs,far,rfl,o.sm.it,fun e he=>⟨(o.sm.al e he).up (by decide),(o.sm.ky e he).1.1,(o.sm.ky e he).2.1⟩,Nat.le_trans o.sm.len (by decide),f1,Nat.lt_of_le_of_lt f2 (by decide),fun y H5 low high s5 hy sc=> ?_⟩
    try contradiction
    refine Bf hy (at0 _ _) ?_
    try contradiction
    refine⟨⟨by decide,by decide⟩,by decide,?_⟩
    have bl:=o.low sc
    exact hM _ _ ⟨s5,_,by omega,by omega,rfl⟩
  rintro σ H5 ⟨s5,low,l1,l2,rfl⟩
  replace o:=o.mono s5
  replace s3:=s3.trans s5
  clear s5
  contradiction
  have zf:Sz 140 (far:Int):=by unfold Sz;omega
  have zl:Sz 140 low:=by unfold Sz;omega
  refine⟨_,_,rfl,by omega,zf.mono (by decide),fun v H6 s6 iv=> ?_⟩
  have zq:Szq 140 (Rat.divInt low (far:Int)):=Szq.of zl zf (by omega)
  have cq:Co (Rat.divInt low (far:Int)) ((1000000000000000:Nat):Rat):=Abj l1 l2 (by omega)
  have dq:(Rat.divInt low (far:Int)).den<=10000000000000000000000000:=Nat.le_trans (Nz (by omega)) (by omega)
  generalize Rat.divInt low (far:Int)=q at iv zq cq dq
  try contradiction
  (intro p1 hp1;generalize ep1:upd _ p1 _=Gp1;obtain⟨sp1,gp1⟩:=nw hp1 ep1;clear ep1 hp1)
  (intro p2 hp2;generalize ep2:upd _ p2 _=Gp2;obtain⟨sp2,gp2⟩:=nw hp2 ep2;clear ep2 hp2)
  refine Vf gp2 (.of (sp2 _ _ gp1)) (iv.mono (sp1.trans sp2)) zq fun z2 H7 f2' s7 sm2 nf2=> ?_
  have s35:=((s6.trans sp1).trans sp2).trans s7
  have kS:∀e∈(f2'.map (·.2)).map neg,e.1=1:=fun e he=>by
    obtain⟨e',he',rfl⟩:=List.mem_map.mp he
    obtain⟨x,hx,ex⟩:=nf2.key he'
    have:x=(1,q):=by simpa using hx
    rw [this]at ex
    exact ex.symm
  have t1:tot ((f2'.map (·.2)).map neg) 1=0-q:=by
    rw [Wa,nf2.tot]
    show 0-((if(1:Int)=1 then q else 0)+0)=0-q
    rw [if_pos rfl]
    grind
  have nq:(0-q).den=q.den:=by
    rw [show 0-q= -q by grind]
    rfl
  have fin:=(o.mono s35).fin kS (by rw [t1];exact⟨by have:=(cq.mono (Rat.natCast_le_natCast.mpr (show 1000000000000000<=2^50 by decide))).hi;grind,by have:=(cq.mono (Rat.natCast_le_natCast.mpr (show 1000000000000000<=2^50 by decide))).lo;grind⟩) (by rw [t1,nq];exact Nat.le_trans dq (by decide))
  refine⟨z,z2,fs,f2',430,10000,rfl,(o.mono s35).sm.gr (by decide) (by decide),sm2,by decide,by decide,fin.1,fun z8 H8 gs s8 rs=> ?_⟩
  obtain⟨ps,g,on⟩:=fin.2 z8 H8 gs _ rs
  exact k z8 H8 ps g ((s3.trans s35).trans s8) on
def Ad5 (R:List (Int × Rat)) (v:V):Prop:=v= .non\/∃i:Int,v= .int i/\∀zs:List Zt,zs.map (·.1)=R->(∀z∈zs,Bd z.1.1 z.2)->(R≠ []->shB zs≠0)->i=shB zs
theorem Scl.pos {R:List (Int × Rat)}{far:Nat}{low high:Int} (sc:Scl R far low high) (f1:1<=far) (hl:0<low):∀zs:List Zt,zs.map (·.1)=R->(∀z∈zs,Bd z.1.1 z.2)->shB zs≠0->shB zs=1:=fun zs hz hb nz=>by
  have h1:=(sc.2 zs hz hb).1
  have f0:(0:Rat)<(far:Rat):=Rat.natCast_pos.mpr f1
  have l0:(0:Rat)<(low:Rat):=by
    have:=Rat.intCast_lt_intCast.mpr hl
    exact this
  have h0:¬hiS zs<0:=fun z=>by
    have:=Rat.mul_pos f0 (show 0<0-hiS zs by grind)
    grind
  unfold shB at*
  split
  . rfl
  . rename_i h
    rw [if_neg h,if_neg h0]at nz
    exact absurd rfl nz
theorem Scl.neg {R:List (Int × Rat)}{far:Nat}{low high:Int} (sc:Scl R far low high) (f1:1<=far) (hl:high<0):∀zs:List Zt,zs.map (·.1)=R->(∀z∈zs,Bd z.1.1 z.2)->shB zs≠0->shB zs= -1:=fun zs hz hb nz=>by
  have h1:=(sc.2 zs hz hb).2
  have f0:(0:Rat)<(far:Rat):=Rat.natCast_pos.mpr f1
  have l0:(high:Rat)<0:=by
    have:=Rat.intCast_lt_intCast.mpr hl
    exact this
  have h0:¬0<Jb zs:=fun z=>by
    have:=Rat.mul_pos f0 z
    grind
  unfold shB at*
  rw [if_neg h0]at nz ⊢
  split
  . rfl
  . rename_i h
    rw [if_neg h]at nz
    exact absurd rfl nz
def T6 (K:PySem.W.Frag):Sp:=fun vs H Q _=>∃(x:Addr) (ps gs:List (V × (Int × Rat))),vs=[.ref x]/\On K H x ps gs/\∀v H',Same H H'->Ad5 ((ps++gs).map (·.2)) v->Q v H'
theorem Ym {f:Addr}{fd:FuncData} (F:Df K mg "_law_due" Q9 ["_law_one"] f fd)   (c_q_scaled:Cal P w K mg base 2 "_law_scaled" ["_law_one","_law_far"] (Jg K)):Cal P w K mg base 3 "_law_due" ["_law_one"] (T6 K):=by
  refine F.cal (F.fn.ok O2 (fun vs H Q E h=> ?_) (fun cdv A outer s H vs Q E hr h=> ?_))
  . obtain⟨x,ps,gs,rfl,_⟩:=h
    rfl
  obtain⟨x,ps,gs,rfl,a,k⟩:=h
  refine S.Bj ⟨_,(S.Ad (S.Bm (S.Ah (M6 hr.units) (S.pv 0) (S.Av S.Ac) (Aj _)) (S.Ae (S.Al S.Ab)) S.Ax)
      (S.Ad (S.El (S.Aw c_q_scaled (hr.mono (by decide)) (S.Aa (S.pv 0) (S.Aa (S.Af Mz S.Ab S.Ab) S.Ac))) (S.Cr rfl (S.Ao (S.Aq (i:=1) O2.nd rfl (Or.inl rfl)) (S.Ao (S.Aq (i:=2) O2.nd rfl (Or.inl rfl)) S.Bq))))
      (S.Ad (S.Bm (S.Ah P0 (S.pv 1) S.Ab (Aj _)) (S.Ae (S.Al S.Ab)) S.Ax)
      (S.Ad (S.Bm (S.Ah Nu (S.pv 2) S.Ab (Aj _)) (S.Ae (S.Al (S.Jj G6 S.Ab))) S.Ax)
      (S.Ae (S.Al S.K7)))))),?_⟩
  have sm:=a.sm
  contradiction
  refine⟨by decide,?_⟩
  (intro q hq;generalize eq:upd _ q _=Gq;obtain⟨sq,gq⟩:=nw hq eq;clear eq hq)
  refine Ip (sq.tup sm.it) (fun e he=>(sm.al e he).mono sq) (.of gq) ?_
  by_cases e0:ps++gs=[]
  . rw [decide_eq_true e0]
    try contradiction
    refine k _ _ sq (.inr ⟨0,rfl,fun zs hz _ _=> ?_⟩)
    rw [e0]at hz
    have:zs=[]:=by simpa using hz
    subst this
    rfl
  rw [decide_eq_false e0]
  try contradiction
  have e60:(10:Int)^Int.toNat 60=((1000000000000000000000000000000000000000000000000000000000000:Nat):Int):=by decide
  rw [e60]
  have r0:(ps++gs).map (·.2)≠ []:=fun z=>e0 (List.map_eq_nil_iff.mp z)
  refine⟨⟨by decide,by decide,by decide⟩,x,ps++gs,_,rfl,sq.tup sm.it,fun e he=>⟨(sm.al e he).mono sq,(sm.ky e he).1.1,(sm.ky e he).2.1⟩,Nat.le_trans sm.len (by decide),by decide,by decide,fun y H5 low high s5 hy sc=> ?_⟩
  refine Ck hy ?_
  contradiction
  have sA:=sq.trans s5
  by_cases h1:0<low
  . rw [if_pos h1]
    exact k _ _ sA (.inr ⟨1,rfl,fun zs hz hb nz=>(sc.pos (by decide) h1 zs hz hb (nz r0)).symm⟩)
  rw [if_neg h1]
  by_cases h2:high<0
  . rw [if_pos h2]
    exact k _ _ sA (.inr ⟨-1,rfl,fun zs hz hb nz=>(sc.neg (by decide) h2 zs hz hb (nz r0)).symm⟩)
  . rw [if_neg h2]
    exact k _ _ sA (.inl rfl)
def Pk (K:PySem.W.Frag):Sp:=fun vs H Q _=>∃(x:Addr) (ps gs:List (V × (Int × Rat))) (v:V) (b:Bool),vs=[.ref x,v]/\On K H x ps gs/\Pp K H ps gs v b/\∀H',Same H H'->Q (.bl b) H'
theorem Xo {f:Addr}{fd:FuncData} (F:Df K mg "_law_told" Pa ["_law_one","_law_paper"] f fd) (z_isinstance:mg "isinstance"=none) (z_bool:mg "bool"=none)  (c_s_right:Cal P w K mg base 6 "s_right" ["one","paper"] (Ob K)):Cal P w K mg base 7 "_law_told" ["_law_one","_law_paper"] (Pk K):=by
  refine F.cal (F.fn.ok Qa (fun vs H Q E h=> ?_) (fun cdv A outer s H vs Q E hr h=> ?_))
  . obtain⟨x,ps,gs,v,b,rfl,_⟩:=h
    rfl
  obtain⟨x,ps,gs,v,b,rfl,a,hv,k⟩:=h
  refine S.Bj ⟨_,(S.Ad (S.Ai (i:=2) Qa.nd rfl (Or.inl rfl) (S.Aw c_s_right (hr.mono (by decide)) (S.Aa (S.pv 0) (S.Aa (S.pv 1) S.Ac))))
      (S.Ad (S.Bm (S.Dh (S.Bv (S.Bo Du rfl z_isinstance PyProof.Rows.boot_isinstance (S.Aa (S.pv 2) (S.Aa (S.Bu (v:= .ty "bool") rfl z_bool PyProof.Rows.boot_bool rfl) S.Ac))))) (S.Ae (S.Al S.K7)) S.Ax)
      (S.Ae (S.Al (S.pv 2))))),?_⟩
  contradiction
  refine⟨x,ps,gs,v,b,rfl,a,hv,fun H1 s1=> ?_⟩
  try contradiction
  refine isi (.bl b) Xw ?_
  try contradiction
  exact k _ s1
inductive Fq (K:PySem.W.Frag) (H:Hp):V->Bool->Prop where
  | frac {v:V}{q:Rat} (h:IsQ K H v q) (z:Szq 2200 q):Fq K H v true
  | int (i:Int):Fq K H (.int i) false
theorem Fq.mono {H H':Hp}{v:V}{b:Bool} (h:Fq K H v b) (s:Same H H'):Fq K H' v b:=by
  cases h with
  | frac h z=>exact .frac (h.mono s) z
  | int i=>exact .int i
def Hu (K:PySem.W.Frag):Sp:=fun vs H Q _=>∃(v:V) (b:Bool),vs=[v]/\Fq K H v b/\∀H',Same H H'->Q (.bl b) H'
theorem Mh {f:Addr}{fd:FuncData} (F:Df K mg "_law_is_fraction" Dj ["_law_thing"] f fd) (z_isinstance:mg "isinstance"=none) (z_bool:mg "bool"=none) (z_tuple:mg "tuple"=none) (z_len:mg "len"=none) (z_int:mg "int"=none)  (c_fraction:Cal P w K mg base 2 "fraction" ["top","bottom"] (Bw K)):Cal P w K mg base 3 "_law_is_fraction" ["_law_thing"] (Hu K):=by
  refine F.cal (F.fn.ok Mj (fun vs H Q E h=> ?_) (fun cdv A outer s H vs Q E hr h=> ?_))
  . obtain⟨v,b,rfl,_⟩:=h
    rfl
  obtain⟨v,b,rfl,hv,k⟩:=h
  refine S.Bj ⟨_,(S.Ad (S.Bm (S.Hw (S.Dn (S.Dh (S.Bv (S.Bo Hf rfl z_isinstance PyProof.Rows.boot_isinstance (S.Aa (S.pv 0) (S.Aa (S.Bu (v:= .ty "tuple") rfl z_tuple PyProof.Rows.boot_tuple rfl) S.Ac))))) (S.Dn (S.Ah Nr (S.Bo Bb rfl z_len PySem.boot_len (S.Aa (S.pv 0) S.Ac)) S.Ab (Aj _)) (S.Dv (S.Ah (Nb hr.units) (S.Ge (ts:=["_law_x"]) (fs:=[]) rfl (Bt.of (sc:=Ag Dj) (N:=["_law_thing"]) rfl rfl (by decide+kernel)) (S.Kz (S.pv 0)) (fun _ _ _=>(S.Aq (i:=0) (show List.Nodup (["_law_x"]:List Str)by decide+kernel) rfl (Or.inl rfl))) (fun _ _ _=>(S.Ij (S.Dh (S.Bv (S.Bo (Xx K) rfl z_isinstance PyProof.Rows.boot_isinstance (S.Aa (S.pv 0) (S.Aa (S.Bu (v:= .ty "int") rfl z_int PyProof.Rows.boot_int rfl) S.Ac))))))) (fun _ _ _=>(S.pv 0))) (S.Cp S.Ac) (Aj _)))))) (S.Ae (S.Al S.Fg)) S.Ax)
      (S.Ad (S.Bm (S.Hw (S.Dn (S.Bv (S.Bo Du rfl z_isinstance PyProof.Rows.boot_isinstance (S.Aa (S.Ay Ak (S.pv 0) S.Ab (fun _ _=>rfl)) (S.Aa (S.Bu (v:= .ty "bool") rfl z_bool PyProof.Rows.boot_bool rfl) S.Ac)))) (S.Dn (S.Bv (S.Bo Du rfl z_isinstance PyProof.Rows.boot_isinstance (S.Aa (S.Ay Ak (S.pv 0) S.Ab (fun _ _=>rfl)) (S.Aa (S.Bu (v:= .ty "bool") rfl z_bool PyProof.Rows.boot_bool rfl) S.Ac)))) (S.Dv (S.Ah Nu (S.Ay Ak (S.pv 0) S.Ab (fun _ _=>rfl)) S.Ab (Aj _)))))) (S.Ae (S.Al S.Fg)) S.Ax)
      (S.Ae (S.Al (S.Ci (Ab6 hr.units) (S.Aw c_fraction (hr.mono (by decide)) (S.Aa (S.Ay Ak (S.pv 0) S.Ab (fun _ _=>rfl)) (S.Aa (S.Ay Ak (S.pv 0) S.Ab (fun _ _=>rfl)) S.Ac))) (S.pv 0) (Aj _)))))),?_⟩
  contradiction
  cases hv with
  | int i=>
    refine isa (.of (.int i)) Xn ?_
    try contradiction
    exact k _ (Same.refl _)
  | @frac v q h z=>
    obtain⟨a,rfl,h⟩:=h
    refine isa (.tup h) Dz ?_
    try contradiction
    refine⟨a,_,rfl,.inr h,?_⟩
    try contradiction
    rw [if_pos (show((2:Nat):Int)=2 from rfl)]
    refine⟨⟨_,h⟩,fun p1 hp1=>Ec (es:=[q.num,(q.den:Int)]) (inj:=V.int) (fun _=>false) V.int (by show 2<=sizeLine;decide) hp1 (M4 h) ?_ ?_⟩
    . intro e H2 R RF he s2 hR hF
      contradiction
      refine isi (.int e) Xk ?_
      try contradiction
      exact hF rfl _ (Same.refl _)
    intro H2 s2 h2
    try contradiction
    refine⟨by decide,?_⟩
    (intro r hr;generalize er:upd _ r _=Gr;obtain⟨sr,gr⟩:=nw hr er;clear er hr)
    refine Mr (ns:=[]) (ms:=[]) (.of (sr _ _ h2)) (.of gr) ?_
    try contradiction
    have h3:=(s2.trans sr).tup h
    refine Bf h3 (at0 _ _) ?_
    refine isi (.int _) Oa ?_
    try contradiction
    refine Bf h3 (at1 _ _ _) ?_
    refine isi (.int _) Oa ?_
    try contradiction
    refine Bf h3 (at1 _ _ _) ?_
    try contradiction
    rw [if_neg (show ¬(q.den:Int)<1 by have:=den_pos q;omega)]
    refine Bf h3 (at0 _ _) (Bf h3 (at1 _ _ _) ?_)
    refine⟨_,_,rfl,Dp q,z.2.mono (by decide),fun w H4 s4 iw=> ?_⟩
    rw [Ut]at iw
    obtain⟨b,rfl,hb⟩:=iw
    refine Tq (ns:=[q.num,(q.den:Int)]) (ms:=[q.num,(q.den:Int)]) hb (s4.tup h3) ?_
    rw [decide_eq_true rfl]
    exact k _ ((s2.trans sr).trans s4)
theorem Zw {d:Int}{q:Rat}:(q.num*q.num<=d*(q.den:Int)*(q.den:Int))=(q*q<=(d:Rat)):=by
  have md:=Im q
  have pd:=Gm q
  have pp:(0:Rat)<(q.den:Rat)*q.den:=Rat.mul_pos pd pd
  refine propext ⟨fun h=> ?_,fun h=> ?_⟩
  . have c:=Rat.intCast_le_intCast.mpr h
    simp only [Rat.intCast_mul,Rat.intCast_natCast]at c
    rw [<-md]at c
    refine Rat.not_lt.mp fun z=> ?_
    have:=Rat.mul_pos pp (show 0<q*q-(d:Rat)by grind)
    grind
  . refine Rat.intCast_le_intCast.mp ?_
    simp only [Rat.intCast_mul,Rat.intCast_natCast]
    rw [<-md]
    have:=Rat.mul_nonneg (Rat.le_of_lt pp) (show 0<=(d:Rat)-q*q by grind)
    grind
theorem Aa1 {d:Int}{q:Rat}:(d*(q.den:Int)*(q.den:Int)<=q.num*q.num)=((d:Rat)<=q*q):=by
  have md:=Im q
  have pd:=Gm q
  have pp:(0:Rat)<(q.den:Rat)*q.den:=Rat.mul_pos pd pd
  refine propext ⟨fun h=> ?_,fun h=> ?_⟩
  . have c:=Rat.intCast_le_intCast.mpr h
    simp only [Rat.intCast_mul,Rat.intCast_natCast]at c
    rw [<-md]at c
    refine Rat.not_lt.mp fun z=> ?_
    have:=Rat.mul_pos pp (show 0<(d:Rat)-q*q by grind)
    grind
  . refine Rat.intCast_le_intCast.mp ?_
    simp only [Rat.intCast_mul,Rat.intCast_natCast]
    rw [<-md]
    have:=Rat.mul_nonneg (Rat.le_of_lt pp) (show 0<=q*q-(d:Rat)by grind)
    grind
def Ma (K:PySem.W.Frag):Sp:=fun vs H Q _=>∃(d:Int) (v:V) (o:Option (Rat × Rat)),vs=[.int d,v]/\1<=d/\d<=10000/\Tb K H v o/\∀H',Same H H'->Q (.bl (bB d o)) H'
theorem Qw {f:Addr}{fd:FuncData} (F:Df K mg "_law_is_pair" Hi ["_law_d","_law_pair"] f fd) (z_isinstance:mg "isinstance"=none) (z_tuple:mg "tuple"=none) (z_len:mg "len"=none)  (c_q_is_fraction:Cal P w K mg base 3 "_law_is_fraction" ["_law_thing"] (Hu K)):Cal P w K mg base 4 "_law_is_pair" ["_law_d","_law_pair"] (Ma K):=by
  refine F.cal (F.fn.ok Io (fun vs H Q E h=> ?_) (fun cdv A outer s H vs Q E hr h=> ?_))
  . obtain⟨d,v,o,rfl,_⟩:=h
    rfl
  obtain⟨d,v,o,rfl,d1,d2,hv,k⟩:=h
  refine S.Bj ⟨_,(S.Ad (S.Bm (S.Hw (S.Dn (S.Dh (S.Bv (S.Bo Hf rfl z_isinstance PyProof.Rows.boot_isinstance (S.Aa (S.pv 1) (S.Aa (S.Bu (v:= .ty "tuple") rfl z_tuple PyProof.Rows.boot_tuple rfl) S.Ac))))) (S.Dn (S.Ah Nr (S.Bo Bb rfl z_len PySem.boot_len (S.Aa (S.pv 1) S.Ac)) S.Ab (Aj _)) (S.Dv (S.Ah (Nb hr.units) (S.Ge (ts:=["_law_r"]) (fs:=[]) rfl (Bt.of (sc:=Ag Hi) (N:=["_law_d","_law_pair","_law_lo","_law_hi"]) rfl rfl (by decide+kernel)) (S.Kz (S.pv 1)) (fun _ _ _=>(S.Aq (i:=0) (show List.Nodup (["_law_r"]:List Str)by decide+kernel) rfl (Or.inl rfl))) (fun _ _ _=>(S.Ij (S.Dh (S.Bv (S.Aw c_q_is_fraction (hr.mono (by decide)) (S.Aa (S.pv 0) S.Ac)))))) (fun _ _ _=>(S.pv 0))) (S.Cp S.Ac) (Aj _)))))) (S.Ae (S.Al S.Fg)) S.Ax)
      (S.Ad (S.El (S.pv 1) (S.Cr rfl (S.Ao (S.Aq (i:=2) Io.nd rfl (Or.inl rfl)) (S.Ao (S.Aq (i:=3) Io.nd rfl (Or.inl rfl)) S.Bq))))
      (S.Ad (S.Bm (S.Hw (S.Dn (S.Ah Nu (S.Ay Ak (S.pv 2) S.Ab (fun _ _=>rfl)) S.Ab (Aj _)) (S.Dv (S.Ah Nu (S.Ay Ak (S.pv 3) S.Ab (fun _ _=>rfl)) S.Ab (Aj _))))) (S.Ae (S.Al S.Fg)) S.Ax)
      (S.Ae (S.Al (S.Mg (S.Ci Aai (S.Af Az (S.Ay Ak (S.pv 2) S.Ab (fun _ _=>rfl)) (S.Ay Ak (S.pv 2) S.Ab (fun _ _=>rfl))) (S.Af Az (S.Af Az (S.pv 0) (S.Ay Ak (S.pv 2) S.Ab (fun _ _=>rfl))) (S.Ay Ak (S.pv 2) S.Ab (fun _ _=>rfl))) (Aj _)) (S.Kv (S.Ci Aai (S.Af Az (S.Af Az (S.pv 0) (S.Ay Ak (S.pv 3) S.Ab (fun _ _=>rfl))) (S.Ay Ak (S.pv 3) S.Ab (fun _ _=>rfl))) (S.Af Az (S.Ay Ak (S.pv 3) S.Ab (fun _ _=>rfl)) (S.Ay Ak (S.pv 3) S.Ab (fun _ _=>rfl))) (Aj _))))))))),?_⟩
  contradiction
  cases hv with
  | non=>
    refine isa (.of .non) Tn ?_
    try contradiction
    exact k _ (Same.refl _)
  | str x=>
    refine isa (.of (.str x)) Ud ?_
    try contradiction
    exact k _ (Same.refl _)
  | lst h=>
    refine isa (.of (.lst h)) Pz ?_
    try contradiction
    exact k _ (Same.refl _)
  | @long a xs h hl=>
    refine isa (.tup h) Dz ?_
    try contradiction
    refine⟨a,_,rfl,.inr h,?_⟩
    try contradiction
    rw [if_neg (show ¬((xs.length:Nat):Int)=2 by omega)]
    exact k _ (Same.refl _)
  | @nums a i j h=>
    refine isa (.tup h) Dz ?_
    try contradiction
    refine⟨a,_,rfl,.inr h,?_⟩
    try contradiction
    rw [if_pos (show((2:Nat):Int)=2 from rfl)]
    refine⟨⟨_,h⟩,fun p1 hp1=>Ec (es:=[i,j]) (inj:=V.int) (fun _=>true) V.int (by show 2<=sizeLine;decide) hp1 (M4 h) ?_ ?_⟩
    . intro e H2 R RF he s2 hR hF
      contradiction
      refine⟨_,false,rfl,.int e,fun H3 s3=> ?_⟩
      try contradiction
      exact hR rfl _ s3
    intro H2 s2 h2
    try contradiction
    refine⟨by decide,?_⟩
    (intro r hr;generalize er:upd _ r _=Gr;obtain⟨sr,gr⟩:=nw hr er;clear er hr)
    refine Mr (ns:=[i,j]) (ms:=[]) (.of (sr _ _ h2)) (.of gr) ?_
    try contradiction
    exact k _ (s2.trans sr)
  | @good v p h=>
    obtain⟨a,u,w,rfl,h1,iu,iw,zu,zw⟩:=h
    refine isa (.tup h1) Dz ?_
    try contradiction
    refine⟨a,_,rfl,.inr h1,?_⟩
    try contradiction
    rw [if_pos (show((2:Nat):Int)=2 from rfl)]
    refine⟨⟨_,h1⟩,fun p1 hp1=>Ec (es:=[u,w]) (inj:=id) (fun _=>false) id (by show 2<=sizeLine;decide) hp1 (M4 (by rw [List.map_id];exact h1)) ?_ ?_⟩
    . intro e H2 R RF he s2 hR hF
      have he:e=u\/e=w:=by simpa using he
      contradiction
      refine⟨_,true,rfl,?_,fun H3 s3=> ?_⟩
      . rcases he with rfl | rfl
        . exact .frac (iu.mono s2) zu
        . exact .frac (iw.mono s2) zw
      try contradiction
      exact hF rfl _ s3
    intro H2 s2 h2
    try contradiction
    refine⟨by decide,?_⟩
    (intro r hr;generalize er:upd _ r _=Gr;obtain⟨sr,gr⟩:=nw hr er;clear er hr)
    refine Mr (ns:=[]) (ms:=[]) (.of (sr _ _ h2)) (.of gr) ?_
    try contradiction
    have s3:=s2.trans sr
    refine Ck (s3.tup h1) ?_
    obtain⟨cu,rfl,hu⟩:=iu.mono s3
    obtain⟨cw,rfl,hw⟩:=iw.mono s3
    contradiction
    replace k:∀H',Same H H'->Q (.bl (bdB d p)) H':=k
    unfold bdB at k
    refine Bf hu (at0 _ _) ?_
    try contradiction
    by_cases n1:p.1<0
    . rw [if_pos (Zz _▸n1)]
      rw [decide_eq_false (show ¬0<=p.1 by grind)]at k
      exact k _ s3
    rw [if_neg (Zz _▸n1)]
    rw [decide_eq_true (show 0<=p.1 by grind),Bool.true_and]at k
    refine Bf hw (at0 _ _) ?_
    try contradiction
    by_cases n2:p.2<0
    . rw [if_pos (Zz _▸n2)]
      rw [decide_eq_false (show ¬0<=p.2 by grind)]at k
      exact k _ s3
    rw [if_neg (Zz _▸n2)]
    rw [decide_eq_true (show 0<=p.2 by grind),Bool.true_and]at k
    have zd:Sz 14 d:=by unfold Sz;omega
    refine Bf hu (at0 _ _) (Bf hu (at0 _ _) ?_)
    try contradiction
    refine⟨zu.1.mulOk zu.1 (by decide),Bf hu (at1 _ _ _) ?_⟩
    try contradiction
    refine⟨zd.mulOk zu.2 (by decide),Bf hu (at1 _ _ _) ?_⟩
    try contradiction
    refine⟨(zd.mul zu.2).mulOk zu.2 (by decide),?_⟩
    by_cases n3:p.1*p.1<=(d:Rat)
    case neg=>
      rw [if_neg (Zw▸n3)]
      rw [decide_eq_false n3]at k
      exact k _ s3
    rw [if_pos (Zw▸n3)]
    rw [decide_eq_true n3,Bool.true_and]at k
    refine Bf hw (at1 _ _ _) ?_
    try contradiction
    refine⟨zd.mulOk zw.2 (by decide),Bf hw (at1 _ _ _) ?_⟩
    try contradiction
    refine⟨(zd.mul zw.2).mulOk zw.2 (by decide),Bf hw (at0 _ _) (Bf hw (at0 _ _) ?_)⟩
    try contradiction
    refine⟨zw.1.mulOk zw.1 (by decide),?_⟩
    have e:decide (d*(p.2.den:Int)*(p.2.den:Int)<=p.2.num*p.2.num)=decide ((d:Rat)<=p.2*p.2):=decide_eq_decide.mpr (by rw [Aa1])
    rw [e]
    exact k _ s3
inductive Wt:V->Option Int->Prop where
  | int (f:Int):Wt (.int f) (some f)
  | bl (b:Bool):Wt (.bl b) none
  | non:Wt .non none
structure Td (K:PySem.W.Frag) (H:Hp) (a:Addr) (u:V) (z:Addr) (ts:List (V × Option (Rat × Rat))):Prop where
  it:SqT K H a [u,.ref z]
  pi:SqT K H z (ts.map (·.1))
  al:∀t∈ts,Tb K H t.1 t.2
  le:ts.length<=10
theorem Td.mono {H H':Hp}{a:Addr}{u:V}{z:Addr}{ts:List (V × Option (Rat × Rat))} (h:Td K H a u z ts) (s:Same H H'):Td K H' a u z ts:=⟨s.tup h.it,s.tup h.pi,fun t ht=>(h.al t ht).mono s,h.le⟩
noncomputable def Adm (P G:List (Int × Rat)) (o:Option Int) (ts:List (Option (Rat × Rat))):Bool:=match o with
  | none=>false
  | some f=>Ia P G f ts
theorem Td.pp {H:Hp}{a:Addr}{u:V}{z:Addr}{ts:List (V × Option (Rat × Rat))}{o:Option Int} (h:Td K H a u z ts) (w:Wt u o) (ps gs:List (V × (Int × Rat))):Pp K H ps gs (.ref a) (Adm (ps.map (·.2)) (gs.map (·.2)) o (ts.map (·.2))):=by
  cases w with
  | int f=>exact .good h.it h.pi h.al h.le
  | bl b=>exact .notw h.it (.bl b)
  | non=>exact .notw h.it .non
structure En2 (K:PySem.W.Frag) (H H':Hp) (zs:List Zt) (l g:V):Prop where
  sm:Same H H'
  lo:IsQ K H' l (Jb zs)
  hi:IsQ K H' g (hiS zs)
  zl:Szq (wsz zs+1) (Jb zs)
  zg:Szq (wsz zs+1) (hiS zs)
theorem V4 {α β γ:Type}{f:α->β->γ}{g:α->β->Bool}{P:γ->Prop} (h:∀a b,g a b=true->P (f a b)):∀ {xs:List α}{ys:List β},(List.zipWith g xs ys).all id=true->∀t∈List.zipWith f xs ys,P t
  | [],_,_,t,ht=>by simp at ht
  | _::_,[],_,t,ht=>by simp at ht
  | x::xs,y::ys,ha,t,ht=>by
    rw [List.zipWith_cons_cons,List.all_cons,Bool.and_eq_true]at ha
    rw [List.zipWith_cons_cons]at ht
    rcases List.mem_cons.mp ht with rfl | ht
    . exact h x y ha.1
    . exact V4 h ha.2 t ht
theorem Ae9 {xs:List V}{i:Nat}{v:V} (h:xs[i]? =some v):atI xs (0+(i:Int))=some v:=by
  rw [Int.zero_add]
  exact Bk h
def Jd (K:PySem.W.Frag):Sp:=fun vs H Q _=>∃(x a z:Addr) (ps gs:List (V × (Int × Rat))) (u:V) (o:Option Int) (ts:List (V × Option (Rat × Rat))),vs=[.ref x,.ref a]/\On K H x ps gs/\Td K H a u z ts/\Wt u o/\∀H',Same H H'->Q (.bl (Adm (ps.map (·.2)) (gs.map (·.2)) o (ts.map (·.2)))) H'
theorem Nx {f:Addr}{fd:FuncData} (F:Df K mg "_law_paper_due" Di ["_law_one","_law_paper"] f fd) (z_enumerate:mg "enumerate"=none) (z_isinstance:mg "isinstance"=none) (z_bool:mg "bool"=none) (z_int:mg "int"=none) (z_tuple:mg "tuple"=none) (z_len:mg "len"=none) (z_list:mg "list"=none) (z_range:mg "range"=none)  (c_plus:Cal P w K mg base 3 "plus" ["one","other"] (La K)) (c_times:Cal P w K mg base 3 "times" ["one","other"] (K1 K)) (c_q_is_pair:Cal P w K mg base 4 "_law_is_pair" ["_law_d","_law_pair"] (Ma K)):Cal P w K mg base 5 "_law_paper_due" ["_law_one","_law_paper"] (Jd K):=by
  refine F.cal (F.fn.ok Bc (fun vs H Q E h=> ?_) (fun cdv A outer s H vs Q E hr h=> ?_))
  . obtain⟨x,a,z,ps,gs,u,o,ts,rfl,_⟩:=h
    rfl
  obtain⟨x,a,z,ps,gs,u,o,ts,rfl,on,td,wt,k⟩:=h
  refine S.Bj ⟨_,(S.Ad (S.El (S.pv 1) (S.Cr rfl (S.Ao (S.Aq (i:=5) Bc.nd rfl (Or.inl rfl)) (S.Ao (S.Aq (i:=6) Bc.nd rfl (Or.inr rfl)) S.Bq))))
      (S.Ad (S.Ai (i:=2) Bc.nd rfl (Or.inr rfl) (S.Ge (ts:=["_law_pair"]) (fs:=[]) rfl (Bt.of (sc:=Ag Di) (N:=["_law_one","_law_paper","_law_roots","_law_least","_law_most","_law_here","_law_pairs","_law_k","_law_pair","_law_c","_law_turned_here"]) rfl rfl (by decide+kernel)) (S.Kz (S.pv 0)) (fun _ _ _=>(S.Aq (i:=0) (show List.Nodup (["_law_pair"]:List Str)by decide+kernel) rfl (Or.inl rfl))) (fun _ _ _=>(S.Ij (S.Ah P0 (S.Ay (M5 K) (S.pv 0) S.Ab (fun _ _=>rfl)) S.Ab (Aj _)))) (fun _ _ _=>(S.pv 0))))
      (S.Ad (S.Bm (S.Hw (S.Dn (S.Dh (S.Bv (S.Bo Du rfl z_isinstance PyProof.Rows.boot_isinstance (S.Aa (S.pv 5) (S.Aa (S.Bu (v:= .ty "int") rfl z_int PyProof.Rows.boot_int rfl) S.Ac))))) (S.Dn (S.Bv (S.Bo Du rfl z_isinstance PyProof.Rows.boot_isinstance (S.Aa (S.pv 5) (S.Aa (S.Bu (v:= .ty "bool") rfl z_bool PyProof.Rows.boot_bool rfl) S.Ac)))) (S.Dn (S.Dh (S.Bv (S.Bo Hf rfl z_isinstance PyProof.Rows.boot_isinstance (S.Aa (S.pv 6) (S.Aa (S.Bu (v:= .ty "tuple") rfl z_tuple PyProof.Rows.boot_tuple rfl) S.Ac))))) (S.Dv (S.Ah Nr (S.Bo Bb rfl z_len PySem.boot_len (S.Aa (S.pv 6) S.Ac)) (S.Bo Bb rfl z_len PySem.boot_len (S.Aa (S.pv 2) S.Ac)) (Aj _))))))) (S.Ae (S.Al S.Fg)) S.Ax)
      (S.Ad (S.Bm (S.Ah (Nb hr.units) (S.Ge (ts:=["_law_k"]) (fs:=[(6,"_law_pairs"),(2,"_law_roots")]) rfl (Bt.of (sc:=Ag Di) (N:=["_law_one","_law_paper","_law_roots","_law_least","_law_most","_law_here","_law_pairs","_law_k","_law_pair","_law_c","_law_turned_here"]) rfl rfl (by decide+kernel)) (S.G7 rfl z_range (S.Aa (S.Bo Bb rfl z_len PySem.boot_len (S.Aa (S.pv 2) S.Ac)) S.Ac)) (fun _ _ _=>(S.Aq (i:=0) (show List.Nodup (["_law_k","_law_pairs","_law_roots"]:List Str)by decide+kernel) rfl (Or.inl rfl))) (fun _ _ _=>(S.Ij (S.Dh (S.Bv (S.Aw c_q_is_pair (hr.mono (by decide)) (S.Aa (S.Ay (M5 K) (S.Ay (Y8 K) (S.pv 2) (S.pv 0) (fun _ _=>rfl)) S.Ab (fun _ _=>rfl)) (S.Aa (S.Ay (M5 K) (S.pv 1) (S.pv 0) (fun _ _=>rfl)) S.Ac))))))) (fun _ _ _=>(S.pv 0))) (S.Cp S.Ac) (Aj _)) (S.Ae (S.Al S.Fg)) S.Ax)
      (S.Ad (S.Bm (S.Ah Dr (S.pv 5) S.Ab (Aj _)) (S.Ae (S.Al (S.Ci (M6 hr.units) (S.pv 0) (S.Av S.Ac) (Aj _)))) S.Ax)
      (S.Ad (S.Ai (i:=3) Bc.nd rfl (Or.inl rfl) (S.Av (S.Aa S.Ab (S.Aa S.Ab S.Ac))))
      (S.Ad (S.Ai (i:=4) Bc.nd rfl (Or.inl rfl) (S.Av (S.Aa S.Ab (S.Aa S.Ab S.Ac))))
      (S.Ad (S.Gw PassesOwn.never rfl (S.Tj rfl z_enumerate (S.Aa (S.Af Xc (S.Af Z7 (S.Cp (S.Aa (S.Av (S.Aa (S.Av (S.Aa S.Ab (S.Aa S.Ab S.Ac))) (S.Aa (S.Av (S.Aa S.Ab (S.Aa S.Ab S.Ac))) S.Ac))) S.Ac)) (S.Af Ii (S.Bo Bb rfl z_len PySem.boot_len (S.Aa (S.pv 0) S.Ac)) (S.Bo Bb rfl z_len PySem.boot_len (S.Aa (S.pv 2) S.Ac)))) (S.Gs Gz rfl z_list PyProof.Rows.boot_list (S.Aa (S.pv 6) S.Ac))) S.Ac)) (S.Cr rfl (S.Ao (S.Aq (i:=7) Bc.nd rfl (Or.inl rfl)) (S.Ao (S.Aq (i:=8) Bc.nd rfl (Or.inl rfl)) S.Bq))) (S.Ad (S.Ai (i:=9) Bc.nd rfl (Or.inl rfl) (S.Ay Ak (S.Ay Ak (S.pv 0) (S.pv 7) (fun _ _=>rfl)) S.Ab (fun _ _=>rfl)))
      (S.Ad (S.Ai (i:=10) Bc.nd rfl (Or.inl rfl) (S.pv 8))
      (S.Ad (S.Bm (S.Ah Nu (S.Ay Ak (S.pv 9) S.Ab (fun _ _=>rfl)) S.Ab (Aj _)) (S.Ae (S.Ai (i:=10) Bc.nd rfl (Or.inl rfl) (S.Uc (S.pv 8) (S.Jj G6 S.Ab)))) S.Ax)
      (S.Ad (S.Ai (i:=3) Bc.nd rfl (Or.inl rfl) (S.Aw c_plus (hr.mono (by decide)) (S.Aa (S.pv 3) (S.Aa (S.Aw c_times (hr.mono (by decide)) (S.Aa (S.pv 9) (S.Aa (S.Ay Ak (S.pv 10) S.Ab (fun _ _=>rfl)) S.Ac))) S.Ac))))
      (S.Ae (S.Ai (i:=4) Bc.nd rfl (Or.inl rfl) (S.Aw c_plus (hr.mono (by decide)) (S.Aa (S.pv 4) (S.Aa (S.Aw c_times (hr.mono (by decide)) (S.Aa (S.pv 9) (S.Aa (S.Ay Ak (S.pv 10) S.Ab (fun _ _=>rfl)) S.Ac))) S.Ac))))))))))
      (S.Ae (S.Al (S.Aaa (S.Mg (S.Ci Dr (S.pv 5) S.Ab (Aj _)) (S.Kv (S.Ci P0 (S.Ay Ak (S.pv 3) S.Ab (fun _ _=>rfl)) S.Ab (Aj _)))) (S.Kv (S.Mg (S.Ci Dr (S.pv 5) (S.Jj G6 S.Ab) (Aj _)) (S.Kv (S.Ci Nu (S.Ay Ak (S.pv 4) S.Ab (fun _ _=>rfl)) S.Ab (Aj _)))))))))))))))),?_⟩
  have sm:=on.sm
  refine Am (fun σ' H'=>H'=H/\σ'=[some (.ref x),some (.ref a),none,none,none,some u,some (.ref z),none,none,none,none]) (fun M hM=> ?_) ?_
  . contradiction
    refine Ck td.it ?_
    exact hM _ _ ⟨rfl,rfl⟩
  rintro _ H1 ⟨e1,rfl⟩
  rw [e1]
  clear e1 H1
  refine Am (fun σ' H'=>Same H H'/\∃l:Addr,H' l=some (.lst (gs.map (·.1)))/\σ'=[some (.ref x),some (.ref a),some (.ref l),none,none,some u,some (.ref z),none,none,none,none]) (fun M hM=> ?_) ?_
  . contradiction
    refine⟨⟨_,sm.it⟩,fun p1 hp1=>Ec (es:=ps++gs) (inj:=(·.1)) (fun e=>decide (1<e.2.1)) (·.1) (Nat.le_trans sm.len (by decide)) hp1 (M4 sm.it) ?_ ?_⟩
    . intro e H2 R RF hm s2 hR hF
      obtain⟨b,y,eb,h1,h2,h3⟩:=(sm.al e hm).mono s2
      contradiction
      rw [eb]
      refine Bf h1 (at0 _ _) ?_
      try contradiction
      by_cases hc:1<e.2.1
      . rw [if_pos hc]
        rw [<-eb]
        exact hR (by simpa using hc) _ (Same.refl _)
      . rw [if_neg hc]
        exact hF (by simpa using hc) _ (Same.refl _)
    intro H2 s2 h2
    have er:((ps++gs).filter fun e=>decide (1<e.2.1))=gs:=on.rts
    rw [er]at h2
    exact hM _ _ ⟨s2,p1,h2,rfl⟩
  rintro σ H1 ⟨s1,l,g1,rfl⟩
  have on1:=on.mono s1
  have td1:=td.mono s1
  refine Am (fun σ' H'=>H'=H1/\∃f,o=some f/\u= .int f/\ts.length=gs.length/\σ'=[some (.ref x),some (.ref a),some (.ref l),none,none,some u,some (.ref z),none,none,none,none]) (fun M hM=> ?_) ?_
  . contradiction
    cases wt with
    | non=>
      refine isi .non Zn ?_
      try contradiction
      exact k _ s1
    | bl b=>
      refine isi (.bl b) Zm ?_
      try contradiction
      refine isi (.bl b) Xw ?_
      try contradiction
      exact k _ s1
    | int f=>
      refine isi (.int f) Xk ?_
      try contradiction
      refine isi (.int f) Oa ?_
      try contradiction
      refine isa (.tup td1.pi) Dz ?_
      try contradiction
      refine⟨z,_,rfl,.inr td1.pi,l,_,rfl,.inl (.of g1),?_⟩
      rw [List.length_map,List.length_map]
      by_cases hn:ts.length=gs.length
      . rw [if_pos (show((ts.length:Nat):Int)=((gs.length:Nat):Int)by omega)]
        exact hM _ _ ⟨rfl,f,rfl,rfl,hn,rfl⟩
      . rw [if_neg (show ¬((ts.length:Nat):Int)=((gs.length:Nat):Int)by omega)]
        have kk:=k _ s1
        unfold Adm Ia at kk
        rw [List.length_map,List.length_map,decide_eq_false hn]at kk
        exact kk
  rintro _ H2 ⟨e2,f,rfl,rfl,hn,rfl⟩
  rw [e2]
  clear e2 H2 wt
  have kf:∀H',Same H H'->Q (.bl (Ia (ps.map (·.2)) (gs.map (·.2)) f (ts.map (·.2)))) H':=k
  unfold Ia at kf
  rw [List.length_map,List.length_map,decide_eq_true hn,Bool.true_and]at kf
  clear k
  have gl:=on.tw.gl
  refine Am (fun σ' H'=>Same H1 H'/\(List.zipWith (fun(e:Int × Rat) t=>bB e.1 t) (gs.map (·.2)) (ts.map (·.2))).all id=true/\σ'=[some (.ref x),some (.ref a),some (.ref l),none,none,some (.int f),some (.ref z),none,none,none,none]) (fun M hM=> ?_) ?_
  . contradiction
    refine⟨l,_,rfl,.inl (.of g1),?_⟩
    rw [List.length_map,Int.toNat_natCast]
    refine⟨by omega,by omega,fun p1 hp1=>Ec (es:=List.range gs.length) (inj:=fun i=> .int (0+(i:Nat))) (fun i=> !bB ((gs.map (·.2)).getD i (0,0)).1 ((ts.map (·.2)).getD i none)) (fun i=> .int (0+(i:Nat))) (by rw [List.length_range];exact Nat.le_trans gl (by decide)) hp1 Ub ?_ ?_⟩
    . intro i H2 R RF hm s2 hR hF
      have hi:=List.mem_range.mp hm
      have hi':i<ts.length:=by omega
      have e3:(gs.map (·.2)).getD i (0,0)=(gs[i]).2:=by
        rw [List.getD_eq_getElem?_getD,List.getElem?_map,List.getElem?_eq_getElem (by omega)]
        rfl
      have e4:(ts.map (·.2)).getD i none=(ts[i]).2:=by
        rw [List.getD_eq_getElem?_getD,List.getElem?_map,List.getElem?_eq_getElem (by omega)]
        rfl
      rw [e3,e4]at hR hF
      have gm:gs[i]∈gs:=List.getElem_mem hi
      obtain⟨b1,c1,f1,h1,_⟩:=(on1.tw.ga _ gm).1.mono s2
      have fr:=on.fr _ (List.mem_append.mpr (.inr gm))
      contradiction
      refine Dw (.of (s2 _ _ g1)) (Ae9 (xs:=gs.map (·.1)) (v:=gs[i].1) (by rw [List.getElem?_map,List.getElem?_eq_getElem hi];rfl)) ?_
      rw [f1]
      refine Bf h1 (at0 _ _) ?_
      refine Bf (s2.tup td1.pi) (Ae9 (xs:=ts.map (·.1)) (v:=ts[i].1) (by rw [List.getElem?_map,List.getElem?_eq_getElem hi'];rfl)) ?_
      refine⟨_,_,_,rfl,fr.1.1,fr.2.1,(td1.al _ (List.getElem_mem hi')).mono s2,fun H5 s5=> ?_⟩
      try contradiction
      cases hb:bB gs[i].2.1 ts[i].2 with
      | true=>exact hF (by rw [hb];rfl) _ s5
      | false=>exact hR (by rw [hb];rfl) _ s5
    intro H2 s2 h2
    try contradiction
    refine⟨by decide,?_⟩
    (intro r hr;generalize er:upd _ r _=Gr;obtain⟨sr,gr⟩:=nw hr er;clear er hr)
    have ef:((List.range gs.length).filter fun i=> !bB ((gs.map (·.2)).getD i (0,0)).1 ((ts.map (·.2)).getD i none)).map (fun i=>V.int (0+(i:Nat)))=(((List.range gs.length).filter fun i=> !bB ((gs.map (·.2)).getD i (0,0)).1 ((ts.map (·.2)).getD i none)).map (fun i=>(0+((i:Nat):Int)))).map V.int:=by rw [List.map_map];rfl
    rw [ef]at h2
    refine Mr (ms:=[]) (.of (sr _ _ h2)) (.of gr) ?_
    try contradiction
    have zr:=Tp (fun(e:Int × Rat) t=>bB e.1 t) (0,0) none (n:=gs.length) (xs:=gs.map (·.2)) (ys:=ts.map (·.2)) (by rw [List.length_map]) (by rw [List.length_map];exact hn)
    have ea:(List.zipWith (fun(e:Int × Rat) t=>bB e.1 t) (gs.map (·.2)) (ts.map (·.2))).all id=decide ((((List.range gs.length).filter fun i=> !bB ((gs.map (·.2)).getD i (0,0)).1 ((ts.map (·.2)).getD i none)).map (fun i=>(0+((i:Nat):Int))))=[]):=by
      rw [<-zr,List.all_map,Bool.eq_iff_iff,List.all_eq_true,decide_eq_true_eq,List.map_eq_nil_iff,List.filter_eq_nil_iff]
      constructor
      . intro h i hi
        have:=h i hi
        simpa using this
      . intro h i hi
        have:=h i hi
        simpa using this
    cases hb:(List.zipWith (fun(e:Int × Rat) t=>bB e.1 t) (gs.map (·.2)) (ts.map (·.2))).all id with
    | true=>
      rw [if_pos (of_decide_eq_true (ea.symm.trans hb))]
      exact hM _ _ ⟨s2.trans sr,hb,rfl⟩
    | false=>
      rw [if_neg (of_decide_eq_false (ea.symm.trans hb))]
      rw [hb]at kf
      exact kf _ ((s1.trans s2).trans sr)
  rintro σ H2 ⟨s2,hb,rfl⟩
  rw [hb,Bool.true_and]at kf
  replace s1:=s1.trans s2
  replace g1:=s2 _ _ g1
  clear on1 td1 s2
  obtain⟨ws,hw⟩:=all_some (G:=gs.map (·.2)) (by rw [List.length_map];exact hn) hb
  have wl:gs.length=ws.length:=by rw [<-hn,hw,List.length_map]
  have pw:Pw K H z ws:=⟨by
    have:=td.pi
    rw [hw,List.map_map]at this
    exact this,fun w hm=>(td.al (w.1,some w.2) (by rw [hw];exact List.mem_map.mpr ⟨w,hm,rfl⟩)).pv⟩
  have bd:∀t∈Fb ps gs ws,Bd t.1.1 t.2:=by
    intro t ht
    unfold Fb at ht
    rcases List.mem_append.mp ht with ht | ht
    . obtain⟨e,he,rfl⟩:=List.mem_map.mp ht
      show Bd e.2.1 _
      rw [(on.tw.pa e he).2]
      exact V9
    . rw [hw,List.map_map,List.zipWith_map]at hb
      exact V4 (f:=fun(e:V × (Int × Rat)) (w:V × (Rat × Rat))=>((e.2,w.2):Zt)) (g:=fun(e:V × (Int × Rat)) (w:V × (Rat × Rat))=>bB e.2.1 (some w.2)) (P:=fun t=>Bd t.1.1 t.2) (fun e w h=>Zh (d:=e.2.1) (p:=w.2) h) hb t ht
  rw [hw,Tz]at kf
  refine Am (fun σ' H'=>H'=H2/\f≠0/\σ'=[some (.ref x),some (.ref a),some (.ref l),none,none,some (.int f),some (.ref z),none,none,none,none]) (fun M hM=> ?_) ?_
  . contradiction
    by_cases f0:f=0
    . rw [if_pos f0]
      rw [if_pos f0]at kf
      refine⟨by decide,?_⟩
      (intro q hq;generalize eq:upd _ q _=Gq;obtain⟨sq,gq⟩:=nw hq eq;clear eq hq)
      refine Ip ((s1.trans sq).tup sm.it) (fun e he=>(sm.al e he).mono (s1.trans sq)) (.of gq) ?_
      have ed:decide (ps++gs=[])=decide (ps.map (·.2)++gs.map (·.2)=[]):=decide_eq_decide.mpr (by rw [<-List.map_append,List.map_eq_nil_iff])
      rw [ed]
      exact kf _ (s1.trans sq)
    . rw [if_neg f0]
      exact hM _ _ ⟨rfl,f0,rfl⟩
  rintro _ H3 ⟨e3,f0,rfl⟩
  rw [e3]
  clear e3 H3
  rw [if_neg f0]at kf
  refine Am (fun σ' H'=>Same H2 H'/\∃q:Addr,SqT K H' q [.int 0,.int 1]/\σ'=[some (.ref x),some (.ref a),some (.ref l),some (.ref q),none,some (.int f),some (.ref z),none,none,none,none]) (fun M hM=> ?_) ?_
  . contradiction
    (intro p hp;generalize ep:upd _ p _=Gp;obtain⟨sp,gp⟩:=nw hp ep;clear ep hp)
    exact hM _ _ ⟨sp,p,.of gp,rfl⟩
  rintro σ H3 ⟨s3,q3,h3,rfl⟩
  refine Am (fun σ' H'=>Same H3 H'/\∃q:Addr,SqT K H' q [.int 0,.int 1]/\σ'=[some (.ref x),some (.ref a),some (.ref l),some (.ref q3),some (.ref q),some (.int f),some (.ref z),none,none,none,none]) (fun M hM=> ?_) ?_
  . contradiction
    (intro p hp;generalize ep:upd _ p _=Gp;obtain⟨sp,gp⟩:=nw hp ep;clear ep hp)
    exact hM _ _ ⟨sp,p,.of gp,rfl⟩
  rintro σ H4 ⟨s4,q4,h4,rfl⟩
  replace h3:=s4.tup h3
  replace s1:=(s1.trans s3).trans s4
  replace g1:=(s3.trans s4) _ _ g1
  clear s3 s4
  have gll:(gs.map (·.1)).length=ws.length:=by rw [List.length_map];exact wl
  refine Am (fun σ' H'=>Same H H'/\∃(lo hi:V) (o7 o8 o9 o10:Option V),IsQ K H' lo (Jb (Fb ps gs ws))/\IsQ K H' hi (hiS (Fb ps gs ws))/\σ'=[some (.ref x),some (.ref a),some (.ref l),some lo,some hi,some (.int f),some (.ref z),o7,o8,o9,o10]) (fun M hM=> ?_) ?_
  . contradiction
    (intro p1 hp1;generalize ep1:upd _ p1 _=Gp1;obtain⟨sp1,gp1⟩:=nw hp1 ep1;clear ep1 hp1)
    (intro p2 hp2;generalize ep2:upd _ p2 _=Gp2;obtain⟨sp2,gp2⟩:=nw hp2 ep2;clear ep2 hp2)
    (intro p3 hp3;generalize ep3:upd _ p3 _=Gp3;obtain⟨sp3,gp3⟩:=nw hp3 ep3;clear ep3 hp3)
    (intro p4 hp4;generalize ep4:upd _ p4 _=Gp4;obtain⟨sp4,gp4⟩:=nw hp4 ep4;clear ep4 hp4)
    have s4:=(((s1.trans sp1).trans sp2).trans sp3).trans sp4
    have t4:=((sp1.trans sp2).trans sp3).trans sp4
    refine⟨x,_,rfl,.inr (s4.tup on.tw.it),l,_,rfl,.inl (.of (t4 _ _ g1)),?_⟩
    have ek:(((((ps++gs).map (·.1)).length:Nat):Int)-(((gs.map (·.1)).length:Nat):Int))=((ps.length:Nat):Int):=by
      rw [List.length_map,List.length_append,List.length_map]
      omega
    rw [ek]
    have pl:=on.tw.pl
    have wl3:ws.length<=3:=by omega
    refine⟨p4,_,_,rfl,rfl,gp4,by omega,by omega,by rw [Int.toNat_natCast];exact Nat.le_trans (Nat.mul_le_mul_left 1 pl) (by decide),?_⟩
    rw [Int.toNat_natCast,show(List.replicate ps.length [V.ref p3]).flatten=List.replicate ps.length (V.ref p3)from List.flatten_replicate_singleton]
    (intro p5 hp5;generalize ep5:upd _ p5 _=Gp5;obtain⟨sp5,gp5⟩:=nw hp5 ep5;clear ep5 hp5)
    have s5:=s4.trans sp5
    refine⟨z,_,rfl,.inr (s5.tup pw.it),?_⟩
    (intro p6 hp6;generalize ep6:upd _ p6 _=Gp6;obtain⟨sp6,gp6⟩:=nw hp6 ep6;clear ep6 hp6)
    refine⟨p5,p6,_,_,rfl,rfl,sp6 _ _ gp5,gp6,by rw [List.length_replicate,List.length_map];exact Nat.le_trans (Nat.add_le_add pl wl3) (by decide),?_⟩
    (intro p7 hp7;generalize ep7:upd _ p7 _=Gp7;obtain⟨sp7,gp7⟩:=nw hp7 ep7;clear ep7 hp7)
    have s7:=(s5.trans sp6).trans sp7
    have t4:=(sp5.trans sp6).trans sp7
    have t3:=sp4.trans t4
    have t2:=sp3.trans t3
    have t1:=sp2.trans t2
    have ue:=Acw (on.tw.mono s7) (pw.mono s7) (.of (t3 _ _ gp3)) (.of (t1 _ _ gp1)) (.of (t2 _ _ gp2))
    have hx:SqT K Gp7 x ((Q0 (.ref p3) ps gs ws).map (·.1.1)):=by
      rw [Z6 _ wl]
      exact s7.tup on.tw.it
    have hy:SqL K Gp7 p7 ((Q0 (.ref p3) ps gs ws).map (·.1.2)):=by
      rw [Z5 _ wl]
      exact .of gp7
    have wz:=Zx (ws:=ws) on.tw
    have ez:=Ac4 (.ref p3) ps gs ws
    have sg:Same H4 Gp7:=(((((sp1.trans sp2).trans sp3).trans sp4).trans sp5).trans sp6).trans sp7
    have lg:=sg.tup h3
    have gg:=sg.tup h4
    have nz:∀u∈Q0 (.ref p3) ps gs ws,u.2.1.2≠0:=fun u hu=>by
      have:u.1.1=u.1.1:=rfl
      unfold Q0 at hu
      rcases List.mem_append.mp hu with hu | hu
      . obtain⟨e,he,rfl⟩:=List.mem_map.mp hu
        exact(on.fr e (by simp [he])).2.2
      . exact Vi (P:=fun(u:(V × V) × Zt)=>u.2.1.2≠0) (fun e he w hw=>(on.fr e (by simp [he])).2.2) u hu
    rw [<-ez]at wz hM
    clear ez gp1 gp2 gp3 gp4 gp5 gp6 gp7 sp1 sp2 sp3 sp4 sp5 sp6 sp7 s4 s5 t1 t2 t3 t4 h3 h4 sg
    generalize Q0 (.ref p3) ps gs ws=us at*
    have z01:Szq 1 (0:Rat):=Szq.zero (by decide)
    refine⟨p7,rfl,⟨_,hy⟩,Ac6 (es:=us) (inj:=(·.1.2)) (fun pre σ' H'=>∃(lo hi:V) (o7 o8 o9 o10:Option V),σ'=[some (.ref x),some (.ref a),some (.ref l),some lo,some hi,some (.int f),some (.ref z),o7,o8,o9,o10]/\En2 K Gp7 H' (pre.map (·.2)) lo hi) ⟨_,_,_,_,_,_,rfl,Same.refl _,⟨q3,rfl,lg⟩,⟨q4,rfl,gg⟩,z01,z01⟩ ?_ ?_ ?_⟩
    . rintro pre σ' H' ⟨lo,hi,o7,o8,o9,o10,_,en⟩
      exact en.sm.seq hy
    . rintro pre e post σ' H' q hE ⟨lo,hi,o7,o8,o9,o10,rfl,en⟩ nq
      obtain⟨sq,gq⟩:=nw nq rfl
      refine Ck (.of gq) ?_
      generalize upd H' q (.tup [V.int (pre.length:Nat),e.1.2])=H6 at sq gq
      have em:e∈us:=by rw [hE];simp
      have sm6:=en.sm.trans sq
      have ui:=(ue e em).mono sm6
      have c0:=nz e em
      obtain⟨⟨b1,c1,eb1,hb1,⟨d1,rfl,hd1⟩,zc1⟩,⟨b2,u2,v2,eb2,hb2,hu2,hv2,zu2,zv2⟩,z1,z2⟩:=ui
      have il:=en.lo.mono sq
      have ig:=en.hi.mono sq
      have wl:wsz (pre.map (·.2))+(bz e.2+1)<=7074:=by
        rw [hE,List.map_append,Iz,List.map_cons]at wz
        have:wsz (e.2::post.map (·.2))=bz e.2+1+wsz (post.map (·.2)):=rfl
        omega
      have tk:(pre++ [e]).map (·.2)=pre.map (·.2)++ [e.2]:=by
        rw [List.map_append]
        rfl
      rw [eb2]
      simp only [List.set_cons_succ,List.set_cons_zero]
      refine Am (fun σ' H''=>H''=H6/\σ'=[some (.ref x),some (.ref a),some (.ref l),some lo,some hi,some (.int f),some (.ref z),some (.int (pre.length:Nat)),some (.ref b2),some (.ref d1),o10]) (fun M hM=> ?_) ?_
      . contradiction
        refine Bf (sm6.tup hx) (Bk (j:=pre.length) (v:=e.1.1) (by rw [hE,List.map_append,List.getElem?_append_right (by rw [List.length_map];exact Nat.le_refl _),List.length_map,Nat.sub_self];rfl)) ?_
        rw [eb1]
        exact Bf hb1 (at1 _ _ _) (hM _ _ ⟨rfl,rfl⟩)
      rintro _ H7 ⟨e7,rfl⟩
      rw [e7]
      clear e7 H7
      refine Am (fun σ' H''=>H''=H6/\σ'=[some (.ref x),some (.ref a),some (.ref l),some lo,some hi,some (.int f),some (.ref z),some (.int (pre.length:Nat)),some (.ref b2),some (.ref d1),some (.ref b2)]) (fun M hM=> ?_) ?_
      . contradiction
        exact hM _ _ ⟨rfl,rfl⟩
      rintro _ H7 ⟨e7,rfl⟩
      rw [e7]
      clear e7 H7
      refine Am (fun σ' H''=>Same H6 H''/\∃(r:Addr) (u v:V),SqT K H'' r [u,v]/\IsQ K H'' u (tL e.2)/\IsQ K H'' v (tG e.2)/\σ'=[some (.ref x),some (.ref a),some (.ref l),some lo,some hi,some (.int f),some (.ref z),some (.int (pre.length:Nat)),some (.ref b2),some (.ref d1),some (.ref r)]) (fun M hM=> ?_) ?_
      . contradiction
        refine Bf hd1 (at0 _ _) ?_
        try contradiction
        unfold tL tG at hM
        by_cases hc:e.2.1.2<0
        . rw [if_pos (Zz _▸hc)]
          have hp:¬0<e.2.1.2:=by grind
          rw [if_neg hp,if_neg hp]at hM
          refine⟨b2,_,rfl,hb2,?_⟩
          (intro r hr;generalize er:upd _ r _=Gr;obtain⟨sr,gr⟩:=nw hr er;clear er hr)
          exact hM _ _ ⟨sr,r,v2,u2,.of gr,hv2.mono sr,hu2.mono sr,rfl⟩
        . rw [if_neg (Zz _▸hc)]
          have hp:0<e.2.1.2:=by grind
          rw [if_pos hp,if_pos hp]at hM
          exact hM _ _ ⟨Same.refl _,b2,u2,v2,hb2,hu2,hv2,rfl⟩
      rintro σ H7 ⟨s7',r,u,v,hr7,iu,iv,rfl⟩
      have zL:Szq 2200 (tL e.2)/\Szq (bz e.2) (e.2.1.2*tL e.2):=by
        unfold tL
        split
        . exact⟨zu2,z1⟩
        . exact⟨zv2,z2⟩
      have zG:Szq 2200 (tG e.2)/\Szq (bz e.2) (e.2.1.2*tG e.2):=by
        unfold tG
        split
        . exact⟨zv2,z2⟩
        . exact⟨zu2,z1⟩
      have hc7:IsQ K H7 (.ref d1) e.2.1.2:=⟨d1,rfl,s7'.tup hd1⟩
      contradiction
      refine Bf hr7 (at0 _ _) ?_
      refine⟨_,u,_,_,162,2200,rfl,hc7,iu,zc1,zL.1,by decide,fun t8 H8 s8 i8=> ?_⟩
      refine⟨lo,t8,_,_,_,_,rfl,(il.mono s7').mono s8,i8,en.zl,zL.2,by omega,fun t9 H9 s9 i9=> ?_⟩
      try contradiction
      have s79:=s8.trans s9
      refine Bf (s79.tup hr7) (at1 _ _ _) ?_
      refine⟨_,v,_,_,162,2200,rfl,hc7.mono s79,iv.mono s79,zc1,zG.1,by decide,fun t10 H10 s10 i10=> ?_⟩
      have s710:=s79.trans s10
      refine⟨hi,t10,_,_,_,_,rfl,(ig.mono s7').mono s710,i10,en.zg,zG.2,by omega,fun t11 H11 s11 i11=> ?_⟩
      try contradiction
      refine⟨t9,t11,_,_,_,_,rfl,sm6.trans ((s7'.trans s710).trans s11),?_,?_,?_,?_⟩
      . rw [tk,Ei]
        exact i9.mono (s10.trans s11)
      . rw [tk,Hl]
        exact i11
      . rw [tk,Ei,Iv]
        exact(en.zl.add zL.2).mono (by omega)
      . rw [tk,Hl,Iv]
        exact(en.zg.add zG.2).mono (by omega)
    . rintro σ' H' ⟨lo,hi,o7,o8,o9,o10,rfl,en⟩
      exact hM _ _ ⟨s7.trans en.sm,lo,hi,o7,o8,o9,o10,en.lo,en.hi,rfl⟩
  rintro σ H5 ⟨s5,lo,hi,o7,o8,o9,o10,⟨bl,rfl,hl5⟩,⟨bh,rfl,hh5⟩,rfl⟩
  have lh:=N8 rfl bd bd
  have kk:=kf _ s5
  unfold shB at kk
  contradiction
  by_cases f1:f=1
  . subst f1
    rw [if_pos rfl]
    refine Bf hl5 (at0 _ _) ?_
    try contradiction
    by_cases p:0<Jb (Fb ps gs ws)
    . rw [if_pos (Adj _▸p)]
      rw [if_pos p]at kk
      exact kk
    . rw [if_neg (Adj _▸p),if_neg (by decide)]
      rw [if_neg p]at kk
      by_cases q:hiS (Fb ps gs ws)<0
      . rw [if_pos q]at kk
        exact kk
      . rw [if_neg q]at kk
        exact kk
  rw [if_neg f1]
  by_cases f2:f= -1
  . subst f2
    rw [if_pos rfl]
    refine Bf hh5 (at0 _ _) ?_
    try contradiction
    by_cases q:hiS (Fb ps gs ws)<0
    . have p:¬0<Jb (Fb ps gs ws):=by grind
      rw [if_neg p,if_pos q]at kk
      rw [decide_eq_true (Zz _▸q)]
      exact kk
    . rw [decide_eq_false (Zz _▸q)]
      by_cases p:0<Jb (Fb ps gs ws)
      . rw [if_pos p]at kk
        exact kk
      . rw [if_neg p,if_neg q]at kk
        exact kk
  . rw [if_neg f2]
    by_cases p:0<Jb (Fb ps gs ws)
    . rw [if_pos p,decide_eq_false (fun z=>f1 z.symm)]at kk
      exact kk
    . rw [if_neg p]at kk
      by_cases q:hiS (Fb ps gs ws)<0
      . rw [if_pos q,decide_eq_false (fun z=>f2 z.symm)]at kk
        exact kk
      . rw [if_neg q,decide_eq_false (fun z=>f0 z.symm)]at kk
        exact kk
def Qs (K:PySem.W.Frag):Sp:=fun vs H Q _=>∃(y:Addr) (ps gs:List (V × (Int × Rat))) (f:Int) (pz:Addr) (ws:List (V × (Rat × Rat))) (c:Int),vs=[.ref y,.int c]/\Gp K H y ps gs f pz ws/\ws.length<=4/\∀(a z:Addr) (ts:List (V × Option (Rat × Rat))) (H':Hp),Same H H'->Td K H' a (.int f) z ts->Q (.ref a) H'
def unit (k:Nat) (h:1<=k):Rat:=⟨1,k,by omega,Nat.coprime_one_left k⟩
theorem Tb.putL {H:Hp}{l:Addr}{v:V}{p:Rat × Rat}{ys:List V}{o:HO} (h:Tb K H v (some p)) (hl:H l=some (.lst ys)):Tb K (upd H l o) v (some p):= .good (h.pv.putL hl)
structure WiI (K:PySem.W.Frag) (H H':Hp) (t:Addr) (n:Nat) (rs:List (V × (Rat × Rat))):Prop where
  sm:Same H H'
  it:H' t=some (.lst (rs.map (·.1)))
  al:∀w∈rs,Pv 2200 K H' w.1 w.2
  le:rs.length=n
theorem Wd {f:Addr}{fd:FuncData} (F:Df K mg "_law_wide" O8 ["_law_paper","_law_cell"] f fd) (z_tuple:mg "tuple"=none) (z_min:mg "min"=none)  (c_fraction:Cal P w K mg base 2 "fraction" ["top","bottom"] (Bw K)) (c_plus:Cal P w K mg base 3 "plus" ["one","other"] (La K)):Cal P w K mg base 4 "_law_wide" ["_law_paper","_law_cell"] (Qs K):=by
  refine F.cal (F.fn.ok G8 (fun vs H Q E h=> ?_) (fun cdv A outer s H vs Q E hr h=> ?_))
  . obtain⟨y,ps,gs,f,pz,ws,c,rfl,_⟩:=h
    rfl
  obtain⟨y,ps,gs,f,pz,ws,c,rfl,gp,wl,k⟩:=h
  refine S.Bj ⟨_,(S.Ad (S.Ai (i:=2) G8.nd rfl (Or.inl rfl) (S.Af Cu S.Ab (S.Af Ce (S.Af Bg (S.pv 1) S.Ab) (S.Ay G9 (S.Cp (S.Aa S.Ab (S.Aa (S.Af Mz S.Ab S.Ab) (S.Aa (S.Af Mz S.Ab S.Ab) S.Ac)))) (S.Af Ce (S.pv 1) S.Ab) (fun _ _=>rfl)))))
      (S.Ad (S.Ai (i:=3) G8.nd rfl (Or.inl rfl) (S.Cp S.Ac))
      (S.Ad (S.Gw PassesOwn.never rfl (S.Kz (S.Ay Ak (S.pv 0) S.Ab (fun _ _=>rfl))) (S.Cr rfl (S.Ao (S.Aq (i:=4) G8.nd rfl (Or.inl rfl)) (S.Ao (S.Aq (i:=5) G8.nd rfl (Or.inl rfl)) S.Bq))) (S.Ad (S.Ai (i:=6) G8.nd rfl (Or.inl rfl) (S.Aw c_fraction (hr.mono (by decide)) (S.Aa (S.Af Ii (S.Af Az (S.Ay Ak (S.pv 4) S.Ab (fun _ _=>rfl)) (S.pv 2)) (S.Bo (Wf rfl) rfl z_min PyProof.Rows.boot_min (S.Aa (S.Af Az (S.Ay Ak (S.pv 4) S.Ab (fun _ _=>rfl)) (S.pv 2)) (S.Aa (S.Ay Ak (S.pv 4) S.Ab (fun _ _=>rfl)) S.Ac)))) (S.Aa (S.Af Az (S.Ay Ak (S.pv 4) S.Ab (fun _ _=>rfl)) (S.pv 2)) S.Ac))))
      (S.Ae (S.Ji (S.M8 PySem.F.plainAttrs_list PySem.F.slot_list_append PySem.F.type_list_append Ib (S.pv 3) (S.Aa (S.Av (S.Aa (S.pv 6) (S.Aa (S.Aw c_plus (hr.mono (by decide)) (S.Aa (S.pv 5) (S.Aa (S.Av (S.Aa S.Ab (S.Aa (S.pv 2) S.Ac))) S.Ac))) S.Ac))) S.Ac))))))
      (S.Ae (S.Al (S.Av (S.Aa (S.Ay Ak (S.pv 0) S.Ab (fun _ _=>rfl)) (S.Aa (S.Gs Eb rfl z_tuple PyProof.Rows.boot_tuple (S.Aa (S.pv 3) S.Ac)) S.Ac)))))))),?_⟩
  refine Am (fun σ' H'=>Same H H'/\∃far:Nat,1<=far/\far<=1000000000/\σ'=[some (.ref y),some (.int c),some (.int (far:Nat)),none,none,none,none]) (fun M hM=> ?_) ?_
  . contradiction
    have e4:(10:Int)^Int.toNat 4=10000:=by decide
    have e9:(10:Int)^Int.toNat 9=1000000000:=by decide
    rw [e4,e9]
    refine⟨⟨by decide,by decide⟩,⟨by decide,by decide,by decide⟩,⟨by decide,by decide,by decide⟩,by decide,?_⟩
    (intro p hp;generalize ep:upd _ p _=Gp;obtain⟨sp,gp⟩:=nw hp ep;clear ep hp)
    refine⟨by decide,?_⟩
    have menu:∃v:Int,atI [V.int 10,.int 10000,.int 1000000000] (c%3)=some (.int v)/\10<=v/\v<=1000000000:=by
      have:c%3=0\/c%3=1\/c%3=2:=by omega
      rcases this with h | h | h<;>rw [h]<;>exact⟨_,rfl,by decide,by decide⟩
    obtain⟨v,ev,v1,v2⟩:=menu
    refine Dw (.of gp) ev ?_
    try contradiction
    have q0:=Int.emod_nonneg (c/3) (show v≠0 by omega)
    have q1:=Int.emod_lt_of_pos (c/3) (show 0<v by omega)
    refine⟨by omega,hM _ _ ⟨sp,(1+c/3%v).toNat,by omega,by omega,?_⟩⟩
    rw [Int.toNat_of_nonneg (by omega)]
  rintro σ H1 ⟨s1,far,f1,f2,rfl⟩
  refine Am (fun σ' H'=>Same H1 H'/\∃t,H1 t=none/\σ'=[some (.ref y),some (.int c),some (.int (far:Nat)),some (.ref t),none,none,none]/\H' t=some (.lst [])) (fun M hM=> ?_) ?_
  . contradiction
    exact⟨by decide,fun p hp=>hM _ _ ⟨Same.upd hp _,p,hp,rfl,Ar⟩⟩
  rintro σ H2 ⟨s2,t,nt,rfl,g2⟩
  have g1:=gp.mono s1
  refine Am (fun σ' H'=>∃(rs:List (V × (Rat × Rat))) (o4 o5 o6:Option V),WiI K H1 H' t ws.length rs/\σ'=[some (.ref y),some (.int c),some (.int (far:Nat)),some (.ref t),o4,o5,o6]) (fun M hM=> ?_) ?_
  . contradiction
    refine Bf (s2.tup g1.it) (at1 _ _ _) ?_
    refine⟨pz,rfl,⟨_,s2.tup g1.pi⟩,Qe (es:=ws) (inj:=(·.1)) (fun pre σ' H'=>∃(rs:List (V × (Rat × Rat))) (o4 o5 o6:Option V),WiI K H1 H' t pre.length rs/\σ'=[some (.ref y),some (.int c),some (.int (far:Nat)),some (.ref t),o4,o5,o6]) ⟨[],_,_,_,⟨s2,g2,by simp,rfl⟩,rfl⟩ ?_ ?_ ?_⟩
    . rintro pre σ' H' ⟨rs,o4,o5,o6,wi,_⟩
      exact O9 (wi.sm.tup g1.pi)
    . rintro pre e post σ' H' hE ⟨rs,o4,o5,o6,wi,rfl⟩
      have em:e∈ws:=by rw [hE];simp
      obtain⟨b,u,v,eb,hb,⟨bu,rfl,hu⟩,iv,zu,zv⟩:=(g1.pl e em).mono wi.sm
      have zf:Sz 31 (far:Int):=by unfold Sz;omega
      have zn:=zu.1.mul zf
      have zd:=zu.2.mul zf
      have pl:pre.length<ws.length:=by rw [hE];simp
      rw [eb]
      refine Ck hb ?_
      contradiction
      refine Bf hu (at0 _ _) ?_
      try contradiction
      refine⟨zu.1.mulOk zf (by decide),Bf hu (at0 _ _) ?_⟩
      try contradiction
      refine⟨zu.1.mulOk zf (by decide),Bf hu (at1 _ _ _) ?_⟩
      try contradiction
      refine Bf hu (at1 _ _ _) ?_
      try contradiction
      have zm:Sz 2091 (if(e.2.1.den:Int)<e.2.1.num*far then(e.2.1.den:Int)else e.2.1.num*far):=by
        split
        . exact zu.2.mono (by decide)
        . exact zn
      generalize (if(e.2.1.den:Int)<e.2.1.num*far then(e.2.1.den:Int)else e.2.1.num*far)=μ at zm
      have zt:Sz 2093 (e.2.1.num*far-μ):=(zn.sub zm).mono (by omega)
      have zd':Sz 2093 ((e.2.1.den:Int)*far):=zd.mono (by decide)
      have d0:(e.2.1.den:Int)*far≠0:=Int.mul_ne_zero (Dp _) (by omega)
      refine⟨zu.2.mulOk zf (by decide),_,_,rfl,d0,zd'.mono (by decide),fun x1 H4 s4 i4=> ?_⟩
      have z4:Szq 2093 (Rat.divInt (e.2.1.num*far-μ) ((e.2.1.den:Int)*far)):=Szq.of zt zd' d0
      generalize Rat.divInt (e.2.1.num*far-μ) ((e.2.1.den:Int)*far)=q4 at i4 z4
      try contradiction
      refine⟨.inl ⟨rfl,_,.of (s4 _ _ wi.it)⟩,?_⟩
      (intro p hp;generalize ep:upd _ p _=Gp;obtain⟨sp,gp⟩:=nw hp ep;clear ep hp)
      have zun:Szq 31 (unit far f1):=⟨show Sz 31 1 by unfold Sz;decide,show Sz 31 (far:Int)from zf⟩
      refine⟨v,_,_,unit far f1,2060,31,rfl,(iv.mono s4).mono sp,⟨p,rfl,.of gp⟩,zv,zun,by decide,fun x2 H5 s5 i5=> ?_⟩
      try contradiction
      (intro r hr;generalize er:upd _ r _=Gr;obtain⟨sr,gr⟩:=nw hr er;clear er hr)
      have sA:=((s4.trans sp).trans s5).trans sr
      have g5:=sA _ _ wi.it
      have rl:=wi.le
      refine⟨t,_,_,rfl,rfl,g5,by rw [List.length_map,rl];exact Nat.lt_of_lt_of_le (show pre.length<7 by omega) (by decide),rs++ [(.ref r,(q4,e.2.2+unit far f1))],_,_,_,⟨(wi.sm.trans sA).put nt,?_,?_,?_⟩,rfl⟩
      . rw [Ar,List.map_append]
        rfl
      . intro w hw
        rcases List.mem_append.mp hw with hw | hw
        . exact((wi.al w hw).mono sA).putL g5
        . have ew:w=(.ref r,(q4,e.2.2+unit far f1)):=by simpa using hw
          rw [ew]
          exact Pv.putL (ys:=rs.map (·.1)) ⟨r,x1,x2,rfl,.of gr,i4.mono ((sp.trans s5).trans sr),i5.mono sr,z4.mono (by decide),(zv.add zun).mono (by decide)⟩ g5
      . rw [List.length_append,List.length_append,rl]
        rfl
    . rintro σ' H' ⟨rs,o4,o5,o6,wi,rfl⟩
      exact hM _ _ ⟨rs,o4,o5,o6,wi,rfl⟩
  rintro σ H3 ⟨rs,o4,o5,o6,wi,rfl⟩
  contradiction
  refine Bf (wi.sm.tup g1.it) (at0 _ _) ?_
  try contradiction
  refine⟨t,_,rfl,.inl ⟨.of wi.it,?_⟩⟩
  (intro q hq;generalize eq:upd _ q _=Gq;obtain⟨sq,gq⟩:=nw hq eq;clear eq hq)
  (intro r hr;generalize er:upd _ r _=Gr;obtain⟨sr,gr⟩:=nw hr er;clear er hr)
  refine k r q (rs.map fun w=>(w.1,some w.2)) _ (((s1.trans wi.sm).trans sq).trans sr) ⟨.of gr,?_,fun t ht=> ?_,?_⟩
  . rw [List.map_map]
    exact .of (sr _ _ gq)
  . obtain⟨w,hw,rfl⟩:=List.mem_map.mp ht
    exact .good ((wi.al w hw).mono (sq.trans sr))
  . rw [List.length_map,wi.le]
    omega
theorem Uh (xs:List V) (n:Nat):Vc xs none (some (n:Int))=xs.take n:=by
  unfold Vc
  rw [HT.T5,HT.V6]
  by_cases h:n<=xs.length
  . rw [Nat.min_eq_left h]
    simp
  . rw [Nat.min_eq_right (by omega),List.take_of_length_le (by omega:xs.length<=n)]
    simp
theorem Ua (xs:List V) (n:Nat):Vc xs (some (n:Int)) none=xs.drop n:=by
  unfold Vc
  rw [HT.T5,HT.V6]
  by_cases h:n<=xs.length
  . rw [Nat.min_eq_left h,List.take_of_length_le (by simp)]
  . rw [Nat.min_eq_right (by omega),List.drop_eq_nil_of_le (by omega:xs.length<=n)]
    simp
def Ng (K:PySem.W.Frag):Sp:=fun vs H Q _=>∃(y:Addr) (ps gs:List (V × (Int × Rat))) (f:Int) (pz:Addr) (ws:List (V × (Rat × Rat))) (c:Int),vs=[.ref y,.int c]/\Gp K H y ps gs f pz ws/\ws.length<=4/\∀(a z:Addr) (u:V) (o:Option Int) (ts:List (V × Option (Rat × Rat))) (H':Hp),Same H H'->Td K H' a u z ts->Wt u o->Q (.ref a) H'
def pD (p:Rat × Rat):PyData:= .tuple [.tuple [.int p.1.num,.int (p.1.den:Int)],.tuple [.int p.2.num,.int (p.2.den:Int)]]
theorem Pv.rd {n:Nat}{H:Hp}{v:V}{p:Rat × Rat} (h:Pv n K H v p):RdD K H v (pD p):=by
  obtain⟨a,x,y,rfl,h1,⟨b,rfl,h2⟩,⟨c,rfl,h3⟩,_⟩:=h
  exact .tup h1 (.cons (RdD.ints (ns:=[p.1.num,(p.1.den:Int)]) h2) (.cons (RdD.ints (ns:=[p.2.num,(p.2.den:Int)]) h3) .nil))
theorem Vm {n:Nat}{H:Hp}:∀ {es:List (V × (Rat × Rat))},(∀e∈es,Pv n K H e.1 e.2)->Rh K H (es.map (·.1)) ((es.map (·.2)).map pD)
  | [],_=> .nil
  | e::r,h=> .cons (h e (by simp)).rd (Vm fun x hx=>h x (by simp [hx]))
theorem Ze:∀R:List (Rat × Rat),PyData.canLayAll0 (R.map pD)=true
  | []=>by simp [PyData.canLayAll0]
  | e::r=>by
    rw [List.map_cons,PyData.canLayAll0,Ze r]
    simp [pD,PyData.canLay0,PyData.canLayAll0]
theorem Zq:∀R:List (Rat × Rat),PyData.depthAll (R.map pD)<=5
  | []=>by simp [PyData.depthAll]
  | e::r=>by
    rw [List.map_cons]
    have:=Zq r
    simp [pD,PyData.depthAll,PyData.depth]
    omega
theorem Yv {n:Nat}{H:Hp}{a b:Addr}{es:List (V × (Rat × Rat))}{Q:VK}{g:Bool->Bool} (ha:SqT K H a (es.map (·.1))) (h:∀e∈es,Pv n K H e.1 e.2) (hb:SqT K H b []) (q:Q (.bl (g (decide (es=[])))) H):Abz K g (.ref a) (.ref b) H Q:=by
  refine⟨.tuple ((es.map (·.2)).map pD),.tuple [],.tup ha (Vm h),.tup hb .nil,?_,by decide,?_⟩
  . have h1:=Ze (es.map (·.2))
    have h2:=Zq (es.map (·.2))
    generalize (es.map (·.2)).map pD=ds at*
    simp [SeqAt.shaped,PyData.canLay0,PyData.depth,h1]
    omega
  . have e:PyData.eqv (.tuple ((es.map (·.2)).map pD)) (.tuple [])=decide (es=[]):=by
      rw [PyData.eqv]
      cases es with
      | nil=>simp [PyData.eqvAll]
      | cons d r=>simp [PyData.eqvAll]
    rw [e]
    exact q
def gw (ws:List (V × (Rat × Rat))):List (V × Option (Rat × Rat)):=ws.map fun w=>(w.1,some w.2)
theorem Vr (ws:List (V × (Rat × Rat))):(gw ws).map (·.1)=ws.map (·.1):=by
  unfold gw
  rw [List.map_map]
  rfl
theorem Aaz {H:Hp}{n:Nat}{ws:List (V × (Rat × Rat))} (h:∀w∈ws,Pv n K H w.1 w.2) (hn:n<=2200):∀t∈gw ws,Tb K H t.1 t.2:=fun t ht=>by
  obtain⟨w,hw,rfl⟩:=List.mem_map.mp ht
  exact .good ((h w hw).up hn)
theorem Aca {H1:Hp}{pz:Addr}{c:Int}{Q:VK} (h:∀v o,Wt v o->∀H',Same H1 H'->∀p,H' p=none->Q (.ref p) (upd H' p (.tup [v,.ref pz]))):5<=sizeLine/\∀p,H1 p=none->Aa6 c 7/\(0:Int)<5/\Adf K (.ref p) (.int (c/7%5)) (upd H1 p (.lst [.int (-1),.int 0,.int 1,.bl true,.non])) fun x H1=>∀p,H1 p=none->Q (.ref p) (upd H1 p (.tup [x,.ref pz])):=by
  refine⟨by decide,fun p hp=>⟨⟨by decide,by decide⟩,by decide,?_⟩⟩
  have sp:=Same.upd hp (.lst [.int (-1),.int 0,.int 1,.bl true,.non])
  have e:c/7%5=0\/c/7%5=1\/c/7%5=2\/c/7%5=3\/c/7%5=4:=by omega
  rcases e with e | e | e | e | e<;>rw [e]
  . exact Dw (.of Ar) (Bk (j:=0) rfl) (h _ _ (.int _) _ sp)
  . exact Dw (.of Ar) (Bk (j:=1) rfl) (h _ _ (.int _) _ sp)
  . exact Dw (.of Ar) (Bk (j:=2) rfl) (h _ _ (.int _) _ sp)
  . exact Dw (.of Ar) (Bk (j:=3) rfl) (h _ _ (.bl _) _ sp)
  . exact Dw (.of Ar) (Bk (j:=4) rfl) (h _ _ .non _ sp)
theorem Rv {f:Addr}{fd:FuncData} (F:Df K mg "_law_turned" Lw ["_law_paper","_law_cell"] f fd) (z_max:mg "max"=none) (z_len:mg "len"=none)  (c_fraction:Cal P w K mg base 2 "fraction" ["top","bottom"] (Bw K)) (c_plus:Cal P w K mg base 3 "plus" ["one","other"] (La K)):Cal P w K mg base 4 "_law_turned" ["_law_paper","_law_cell"] (Ng K):=by
  refine F.cal (F.fn.ok Bh (fun vs H Q E h=> ?_) (fun cdv A outer s H vs Q E hr h=> ?_))
  . obtain⟨y,ps,gs,f,pz,ws,c,rfl,_⟩:=h
    rfl
  obtain⟨y,ps,gs,f,pz,ws,c,rfl,gp,wl,k⟩:=h
  refine S.Bj ⟨_,(S.Ad (S.El (S.pv 0) (S.Cr rfl (S.Ao (S.Aq (i:=7) Bh.nd rfl (Or.inl rfl)) (S.Ao (S.Aq (i:=8) Bh.nd rfl (Or.inl rfl)) S.Bq))))
      (S.Ad (S.Ai (i:=2) Bh.nd rfl (Or.inl rfl) (S.Af Ce (S.pv 1) S.Ab))
      (S.Ad (S.Ai (i:=3) Bh.nd rfl (Or.inl rfl) (S.Aw c_fraction (hr.mono (by decide)) (S.Aa (S.Af Ii (S.Af Ce (S.Af Bg (S.pv 1) S.Ab) S.Ab) S.Ab) (S.Aa (S.Af Cu S.Ab (S.Af Ce (S.Af Bg (S.pv 1) S.Ab) S.Ab)) S.Ac))))
      (S.Ad (S.Ai (i:=4) Bh.nd rfl (Or.inl rfl) (S.Af Ce (S.Af Bg (S.pv 1) S.Ab) (S.Bo (Vy rfl) rfl z_max PyProof.Rows.boot_max (S.Aa S.Ab (S.Aa (S.Bo Bb rfl z_len PySem.boot_len (S.Aa (S.pv 8) S.Ac)) S.Ac)))))
      (S.Ad (S.Bm (S.Hw (S.Dn (S.Ah Dr (S.pv 2) S.Ab (Aj _)) (S.Dv (S.Ah (M6 hr.units) (S.pv 8) (S.Av S.Ac) (Aj _))))) (S.Ae (S.Al (S.Av (S.Aa (S.Ay G9 (S.Cp (S.Aa (S.Jj G6 S.Ab) (S.Aa S.Ab (S.Aa S.Ab (S.Aa S.Fg (S.Aa S.K7 S.Ac)))))) (S.Af Ce (S.Af Bg (S.pv 1) S.Ab) S.Ab) (fun _ _=>rfl)) (S.Aa (S.pv 8) S.Ac))))) S.Ax)
      (S.Ad (S.Bm (S.Ah Dr (S.pv 2) S.Ab (Aj _)) (S.Ae (S.Al (S.Av (S.Aa (S.pv 7) (S.Aa (S.Af K9 (S.Hs Mt (S.pv 8) S.Ka (S.Jv (S.pv 4))) (S.Hs Mt (S.pv 8) (S.Jv (S.Af Cu (S.pv 4) S.Ab)) S.Ka)) S.Ac))))) S.Ax)
      (S.Ad (S.Bm (S.Ah Dr (S.pv 2) S.Ab (Aj _)) (S.Ae (S.Al (S.Av (S.Aa (S.pv 7) (S.Aa (S.Af K9 (S.pv 8) (S.Av (S.Aa (S.Av (S.Aa (S.pv 3) (S.Aa (S.pv 3) S.Ac))) S.Ac))) S.Ac))))) S.Ax)
      (S.Ad (S.El (S.Ay Ak (S.pv 8) (S.pv 4) (fun _ _=>rfl)) (S.Cr rfl (S.Ao (S.Aq (i:=9) Bh.nd rfl (Or.inl rfl)) (S.Ao (S.Aq (i:=10) Bh.nd rfl (Or.inl rfl)) S.Bq))))
      (S.Ad (S.Ai (i:=5) Bh.nd rfl (Or.inl rfl) (S.Ay G9 (S.Cp (S.Aa (S.Av (S.Aa (S.Aw c_plus (hr.mono (by decide)) (S.Aa (S.pv 9) (S.Aa (S.pv 3) S.Ac))) (S.Aa (S.pv 10) S.Ac))) (S.Aa (S.Av (S.Aa (S.pv 9) (S.Aa (S.Aw c_plus (hr.mono (by decide)) (S.Aa (S.pv 10) (S.Aa (S.pv 3) S.Ac))) S.Ac))) (S.Aa (S.Av (S.Aa (S.pv 10) (S.Aa (S.pv 9) S.Ac))) (S.Aa (S.Av (S.Aa (S.Aw c_plus (hr.mono (by decide)) (S.Aa (S.pv 9) (S.Aa (S.pv 3) S.Ac))) (S.Aa (S.Aw c_plus (hr.mono (by decide)) (S.Aa (S.pv 10) (S.Aa (S.pv 3) S.Ac))) S.Ac))) S.Ac))))) (S.Af Ce (S.Af Bg (S.pv 1) S.Ab) S.Ab) (fun _ _=>rfl)))
      (S.Ad (S.Bm (S.Ah Dr (S.pv 2) S.Ab (Aj _)) (S.Ae (S.Ai (i:=5) Bh.nd rfl (Or.inl rfl) (S.Av (S.Aa (S.Av (S.Aa S.Ab (S.Aa S.Ab S.Ac))) (S.Aa (S.Av (S.Aa (S.Af Cu S.Ab (S.Af Ce (S.Af Bg (S.pv 1) S.Ab) S.Ab)) (S.Aa S.Ab S.Ac))) S.Ac))))) S.Ax)
      (S.Ad (S.Bm (S.Ah Dr (S.pv 2) S.Ab (Aj _)) (S.Ae (S.Ai (i:=5) Bh.nd rfl (Or.inl rfl) (S.Ay G9 (S.Cp (S.Aa S.K7 (S.Aa (S.Av S.Ac) (S.Aa S.N5 (S.Aa (S.Cp (S.Aa (S.pv 9) (S.Aa (S.pv 10) S.Ac))) (S.Aa (S.Av (S.Aa (S.pv 9) S.Ac)) (S.Aa (S.Av (S.Aa S.Ab (S.Aa S.Ab S.Ac))) S.Ac))))))) (S.Af Ce (S.Af Bg (S.pv 1) S.Ab) S.Ab) (fun _ _=>rfl)))) S.Ax)
      (S.Ad (S.Ai (i:=6) Bh.nd rfl (Or.inl rfl) (S.pv 7))
      (S.Ad (S.Bm (S.Ah Dr (S.pv 2) S.Ab (Aj _)) (S.Ae (S.Ai (i:=6) Bh.nd rfl (Or.inl rfl) (S.Af Ii S.Ab (S.pv 7)))) S.Ax)
      (S.Ae (S.Al (S.Av (S.Aa (S.pv 6) (S.Aa (S.Af K9 (S.Af K9 (S.Hs Mt (S.pv 8) S.Ka (S.Jv (S.pv 4))) (S.Av (S.Aa (S.pv 5) S.Ac))) (S.Hs Mt (S.pv 8) (S.Jv (S.Af Cu (S.pv 4) S.Ab)) S.Ka)) S.Ac)))))))))))))))))),?_⟩
  refine Am (fun σ' H'=>H'=H/\σ'=[some (.ref y),some (.int c),none,none,none,none,none,some (.int f),some (.ref pz),none,none]) (fun M hM=> ?_) ?_
  . contradiction
    refine Ck gp.it ?_
    exact hM _ _ ⟨rfl,rfl⟩
  rintro _ H1 ⟨e1,rfl⟩
  rw [e1]
  clear e1 H1
  refine Am (fun σ' H'=>H'=H/\∃w:Int,0<=w/\w<7/\σ'=[some (.ref y),some (.int c),some (.int w),none,none,none,none,some (.int f),some (.ref pz),none,none]) (fun M hM=> ?_) ?_
  . contradiction
    exact⟨by decide,hM _ _ ⟨rfl,_,by omega,by omega,rfl⟩⟩
  rintro _ H1 ⟨e1,w,w0,w7,rfl⟩
  rw [e1]
  clear e1 H1
  refine Am (fun σ' H'=>Same H H'/\∃(ov:V) (q:Rat),IsQ K H' ov q/\Szq 7 q/\σ'=[some (.ref y),some (.int c),some (.int w),some ov,none,none,none,some (.int f),some (.ref pz),none,none]) (fun M hM=> ?_) ?_
  . contradiction
    have zb:Sz 7 (1+c/63%50):=by unfold Sz;omega
    have zt:Sz 7 (c/7%9-4):=by unfold Sz;omega
    refine⟨⟨by decide,by decide⟩,by decide,⟨by decide,by decide⟩,by decide,_,_,rfl,by omega,zb.mono (by decide),fun z H5 s5 iz=> ?_⟩
    try contradiction
    exact hM _ _ ⟨s5,z,_,iz,Szq.of zt zb (by omega),rfl⟩
  rintro σ H1 ⟨s1,ov,oq,io,zo,rfl⟩
  have g1:=gp.mono s1
  refine Am (fun σ' H'=>H'=H1/\∃j:Nat,(ws≠ []->j<ws.length)/\σ'=[some (.ref y),some (.int c),some (.int w),some ov,some (.int (j:Nat)),none,none,some (.int f),some (.ref pz),none,none]) (fun M hM=> ?_) ?_
  . contradiction
    refine⟨⟨by decide,by decide⟩,pz,_,rfl,.inr g1.pi,?_⟩
    rw [List.length_map]
    have m0:0<(if((ws.length:Nat):Int)>1 then((ws.length:Nat):Int)else 1):=by split<;>omega
    have m1:ws≠ []->(if((ws.length:Nat):Int)>1 then((ws.length:Nat):Int)else 1)<=ws.length:=fun h=>by
      have:=List.length_pos_iff.mpr h
      split<;>omega
    generalize (if((ws.length:Nat):Int)>1 then((ws.length:Nat):Int)else 1)=m at m0 m1
    have q0:=Int.emod_nonneg (c/63) (Int.ne_of_gt m0)
    have q1:=Int.emod_lt_of_pos (c/63) m0
    refine⟨m0,hM _ _ ⟨rfl,(c/63%m).toNat,fun h=> ?_,?_⟩⟩
    . have:=m1 h
      omega
    . rw [Int.toNat_of_nonneg q0]
  rintro _ H2 ⟨e2,j,hj,rfl⟩
  rw [e2]
  clear e2 H2
  have t0:∀ {H2:Hp},Same H1 H2->∀v o,Wt v o->∀H',Same H2 H'->∀p,H' p=none->Q (.ref p) (upd H' p (.tup [v,.ref pz])):=fun {H2} s2 v o wt H' s' p hp=>by
    have sp:=Same.upd hp (.tup [v,.ref pz])
    have sA:=(s2.trans s').trans sp
    refine k p pz v o (gw ws) _ (s1.trans sA) ⟨.of Ar,?_,Aaz (fun w hw=>(g1.pl w hw).mono sA) (by decide),?_⟩ wt
    . rw [Vr]
      exact sA.tup g1.pi
    . unfold gw
      rw [List.length_map]
      omega
  refine Am (fun σ' H'=>Same H1 H'/\ws≠ []/\σ'=[some (.ref y),some (.int c),some (.int w),some ov,some (.int (j:Nat)),none,none,some (.int f),some (.ref pz),none,none]) (fun M hM=> ?_) ?_
  . contradiction
    by_cases e0:w=0
    . rw [if_pos e0]
      exact Aca (t0 (Same.refl _))
    rw [if_neg e0]
    refine⟨by decide,?_⟩
    (intro q hq;generalize eq:upd _ q _=Gq;obtain⟨sq,gq⟩:=nw hq eq;clear eq hq)
    refine Yv (sq.tup g1.pi) (fun e he=>(g1.pl e he).mono sq) (.of gq) ?_
    by_cases w0:ws=[]
    . rw [decide_eq_true w0]
      exact⟨true,rfl,Aca (t0 sq)⟩
    . rw [decide_eq_false w0]
      exact⟨false,rfl,hM _ _ ⟨sq,w0,rfl⟩⟩
  rintro σ H2 ⟨s2,wn,rfl⟩
  replace g1:=g1.mono s2
  replace s1:=s1.trans s2
  replace io:=io.mono s2
  clear t0 s2
  replace hj:=hj wn
  have cat:∀ {ts us:List (V × Option (Rat × Rat))},ts.length<=4->us.length<=4->(ts.map (·.1)).length+(us.map (·.1)).length<=sizeLine:=fun {ts us} h1 h2=>by
    rw [List.length_map,List.length_map]
    exact Nat.le_trans (Nat.add_le_add h1 h2) (by decide)
  have gl:(gw ws).length<=4:=by
    unfold gw
    rw [List.length_map]
    exact wl
  have tb:∀ {H':Hp},Same H2 H'->∀t∈gw ws,Tb K H' t.1 t.2:=fun {H'} s'=>Aaz (fun w hw=>(g1.pl w hw).mono s') (by decide)
  have pi2:SqT K H2 pz ((gw ws).map (·.1)):=by
    rw [Vr]
    exact g1.pi
  refine Am (fun σ' H'=>H'=H2/\σ'=[some (.ref y),some (.int c),some (.int w),some ov,some (.int (j:Nat)),none,none,some (.int f),some (.ref pz),none,none]) (fun M hM=> ?_) ?_
  . contradiction
    by_cases e0:w=1
    . rw [if_pos e0]
      refine⟨pz,_,rfl,pi2,fun z3 H3 s3 h3=> ?_⟩
      rw [Uh,<-List.map_take]at h3
      refine⟨pz,_,rfl,s3.tup pi2,fun z4 H4 s4 h4=> ?_⟩
      rw [show((j:Nat):Int)+1=((j+1:Nat):Int)from rfl,Ua,<-List.map_drop]at h4
      refine⟨z3,z4,_,_,rfl,rfl,s4.tup h3,h4,cat (by rw [List.length_take];omega) (by rw [List.length_drop];omega),fun z5 H5 s5 h5=> ?_⟩
      rw [<-List.map_append]at h5
      try contradiction
      (intro p hp;generalize ep:upd _ p _=Gp;obtain⟨sp,gp⟩:=nw hp ep;clear ep hp)
      have sA:=((s3.trans s4).trans s5).trans sp
      refine k p z5 _ _ ((gw ws).take j++(gw ws).drop (j+1)) _ (s1.trans sA) ⟨.of gp,sp.tup h5,fun t ht=> ?_,?_⟩ (.int f)
      . rcases List.mem_append.mp ht with ht | ht
        . exact tb sA t (List.mem_of_mem_take ht)
        . exact tb sA t (List.mem_of_mem_drop ht)
      . rw [List.length_append,List.length_take,List.length_drop]
        omega
    . rw [if_neg e0]
      exact hM _ _ ⟨rfl,rfl⟩
  rintro _ H3 ⟨e3,rfl⟩
  rw [e3]
  clear e3 H3
  refine Am (fun σ' H'=>H'=H2/\σ'=[some (.ref y),some (.int c),some (.int w),some ov,some (.int (j:Nat)),none,none,some (.int f),some (.ref pz),none,none]) (fun M hM=> ?_) ?_
  . contradiction
    by_cases e0:w=2
    . rw [if_pos e0]
      (intro q1 hq1;generalize eq1:upd _ q1 _=Gq1;obtain⟨sq1,gq1⟩:=nw hq1 eq1;clear eq1 hq1)
      (intro q2 hq2;generalize eq2:upd _ q2 _=Gq2;obtain⟨sq2,gq2⟩:=nw hq2 eq2;clear eq2 hq2)
      have s12:=sq1.trans sq2
      have zo':=zo.mono (show 7<=2200 by decide)
      have good:Tb K Gq2 (.ref q1) (some (oq,oq)):= .good ⟨q1,ov,ov,rfl,.of (sq2 _ _ gq1),io.mono s12,io.mono s12,zo',zo'⟩
      have h2:SqT K Gq2 q2 ([((.ref q1,some (oq,oq)):V × Option (Rat × Rat))].map (·.1)):= .of gq2
      refine⟨pz,q2,_,_,rfl,rfl,s12.tup pi2,h2,cat gl (by show 1<=4;decide),fun z5 H5 s5 h5=> ?_⟩
      rw [<-List.map_append]at h5
      try contradiction
      (intro p hp;generalize ep:upd _ p _=Gp;obtain⟨sp,gp⟩:=nw hp ep;clear ep hp)
      have sB:=s5.trans sp
      have sA:=s12.trans sB
      refine k p z5 _ _ (gw ws++ [(.ref q1,some (oq,oq))]) _ (s1.trans sA) ⟨.of gp,sp.tup h5,fun t ht=> ?_,?_⟩ (.int f)
      . rcases List.mem_append.mp ht with ht | ht
        . exact tb sA t ht
        . have et:t=(.ref q1,some (oq,oq)):=by simpa using ht
          rw [et]
          exact good.mono sB
      . rw [List.length_append]
        show(gw ws).length+1<=10
        omega
    . rw [if_neg e0]
      exact hM _ _ ⟨rfl,rfl⟩
  rintro _ H3 ⟨e3,rfl⟩
  rw [e3]
  clear e3 H3
  obtain⟨b,lo,hi,eb,hb,ilo,ihi,zl,zh⟩:=g1.pl ws[j] (List.getElem_mem hj)
  refine Am (fun σ' H'=>H'=H2/\σ'=[some (.ref y),some (.int c),some (.int w),some ov,some (.int (j:Nat)),none,none,some (.int f),some (.ref pz),some lo,some hi]) (fun M hM=> ?_) ?_
  . contradiction
    refine Bf g1.pi (Bk (j:=j) (v:=ws[j].1) (by rw [List.getElem?_map,List.getElem?_eq_getElem hj];rfl)) ?_
    rw [eb]
    refine Ck hb ?_
    exact hM _ _ ⟨rfl,rfl⟩
  rintro _ H3 ⟨e3,rfl⟩
  rw [e3]
  clear e3 H3
  refine Am (fun σ' H'=>Same H2 H'/\∃(tv:V) (to:Option (Rat × Rat)),Tb K H' tv to/\σ'=[some (.ref y),some (.int c),some (.int w),some ov,some (.int (j:Nat)),some tv,none,some (.int f),some (.ref pz),some lo,some hi]) (fun M hM=> ?_) ?_
  . contradiction
    have zlo:=(zl.add zo).mono (show 2060+7+1<=2200 by decide)
    have zho:=(zh.add zo).mono (show 2060+7+1<=2200 by decide)
    have zl':=zl.mono (show 2060<=2200 by decide)
    have zh':=zh.mono (show 2060<=2200 by decide)
    refine⟨lo,ov,_,_,2060,7,rfl,ilo,io,zl,zo,by decide,fun x3 H3 s3 i3=> ?_⟩
    try contradiction
    (intro p1 hp1;generalize ep1:upd _ p1 _=Gp1;obtain⟨sp1,gp1⟩:=nw hp1 ep1;clear ep1 hp1)
    have s31:=s3.trans sp1
    refine⟨hi,ov,_,_,2060,7,rfl,ihi.mono s31,io.mono s31,zh,zo,by decide,fun x4 H4 s4 i4=> ?_⟩
    try contradiction
    (intro p2 hp2;generalize ep2:upd _ p2 _=Gp2;obtain⟨sp2,gp2⟩:=nw hp2 ep2;clear ep2 hp2)
    (intro p3 hp3;generalize ep3:upd _ p3 _=Gp3;obtain⟨sp3,gp3⟩:=nw hp3 ep3;clear ep3 hp3)
    have s33:=((s31.trans s4).trans sp2).trans sp3
    refine⟨lo,ov,_,_,2060,7,rfl,ilo.mono s33,io.mono s33,zl,zo,by decide,fun x5 H5 s5 i5=> ?_⟩
    try contradiction
    have s35:=s33.trans s5
    refine⟨hi,ov,_,_,2060,7,rfl,ihi.mono s35,io.mono s35,zh,zo,by decide,fun x6 H6 s6 i6=> ?_⟩
    try contradiction
    (intro p4 hp4;generalize ep4:upd _ p4 _=Gp4;obtain⟨sp4,gp4⟩:=nw hp4 ep4;clear ep4 hp4)
    refine⟨by decide,?_⟩
    (intro p5 hp5;generalize ep5:upd _ p5 _=Gp5;obtain⟨sp5,gp5⟩:=nw hp5 ep5;clear ep5 hp5)
    have t4:=sp5
    have t6:=sp4.trans t4
    have t5:=s6.trans t6
    have t3:=s5.trans t5
    have t2:=sp3.trans t3
    have t24:=sp2.trans t2
    have t1:=s4.trans t24
    have t13:=sp1.trans t1
    have sA:=(s35.trans s6).trans t6
    refine⟨⟨by decide,by decide⟩,by decide,?_⟩
    have e:c/3150%4=0\/c/3150%4=1\/c/3150%4=2\/c/3150%4=3:=by omega
    rcases e with e | e | e | e<;>rw [e]
    . exact Dw (.of gp5) (Bk (j:=0) rfl) (hM _ _ ⟨sA,_,_,.good (p:=(ws[j].2.1+oq,ws[j].2.2)) ⟨p1,_,_,rfl,.of (t1 _ _ gp1),i3.mono t13,ihi.mono sA,zlo,zh'⟩,rfl⟩)
    . exact Dw (.of gp5) (Bk (j:=1) rfl) (hM _ _ ⟨sA,_,_,.good (p:=(ws[j].2.1,ws[j].2.2+oq)) ⟨p2,_,_,rfl,.of (t2 _ _ gp2),ilo.mono sA,i4.mono t24,zl',zho⟩,rfl⟩)
    . exact Dw (.of gp5) (Bk (j:=2) rfl) (hM _ _ ⟨sA,_,_,.good (p:=(ws[j].2.2,ws[j].2.1)) ⟨p3,_,_,rfl,.of (t3 _ _ gp3),ihi.mono sA,ilo.mono sA,zh',zl'⟩,rfl⟩)
    . exact Dw (.of gp5) (Bk (j:=3) rfl) (hM _ _ ⟨sA,_,_,.good (p:=(ws[j].2.1+oq,ws[j].2.2+oq)) ⟨p4,_,_,rfl,.of (t4 _ _ gp4),i5.mono t5,i6.mono t6,zlo,zho⟩,rfl⟩)
  rintro σ H3 ⟨s3,tv,to,tt,rfl⟩
  refine Am (fun σ' H'=>Same H3 H'/\∃(tv:V) (to:Option (Rat × Rat)),Tb K H' tv to/\σ'=[some (.ref y),some (.int c),some (.int w),some ov,some (.int (j:Nat)),some tv,none,some (.int f),some (.ref pz),some lo,some hi]) (fun M hM=> ?_) ?_
  . contradiction
    split
    . (intro p1 hp1;generalize ep1:upd _ p1 _=Gp1;obtain⟨sp1,gp1⟩:=nw hp1 ep1;clear ep1 hp1)
      refine⟨⟨by decide,by decide⟩,by decide,?_⟩
      (intro p2 hp2;generalize ep2:upd _ p2 _=Gp2;obtain⟨sp2,gp2⟩:=nw hp2 ep2;clear ep2 hp2)
      (intro p3 hp3;generalize ep3:upd _ p3 _=Gp3;obtain⟨sp3,gp3⟩:=nw hp3 ep3;clear ep3 hp3)
      have z0:Szq 2200 (0:Rat):=Szq.zero (by decide)
      have n1:((((100+c/7%100):Int):Rat)).num=100+c/7%100:=rfl
      have z1:Szq 2200 ((((100+c/7%100):Int):Rat)):=⟨(show Sz 8 (100+c/7%100)by unfold Sz;omega).mono (by decide),(show Sz 8 ((1:Nat):Int)by unfold Sz;decide).mono (by decide)⟩
      exact hM _ _ ⟨(sp1.trans sp2).trans sp3,_,_,.good (p:=(0,(((100+c/7%100):Int):Rat))) ⟨p3,_,_,rfl,.of gp3,⟨p1,rfl,.of ((sp2.trans sp3) _ _ gp1)⟩,⟨p2,rfl,.of (sp3 _ _ gp2)⟩,z0,z1⟩,rfl⟩
    . exact hM _ _ ⟨Same.refl _,tv,to,tt,rfl⟩
  clear tt tv to
  rintro σ H4 ⟨s4,tv,to,tt,rfl⟩
  replace s3:=s3.trans s4
  clear s4
  refine Am (fun σ' H'=>Same H4 H'/\∃(tv:V) (to:Option (Rat × Rat)),Tb K H' tv to/\σ'=[some (.ref y),some (.int c),some (.int w),some ov,some (.int (j:Nat)),some tv,none,some (.int f),some (.ref pz),some lo,some hi]) (fun M hM=> ?_) ?_
  . contradiction
    split
    . refine⟨by decide,?_⟩
      (intro p1 hp1;generalize ep1:upd _ p1 _=Gp1;obtain⟨sp1,gp1⟩:=nw hp1 ep1;clear ep1 hp1)
      (intro p2 hp2;generalize ep2:upd _ p2 _=Gp2;obtain⟨sp2,gp2⟩:=nw hp2 ep2;clear ep2 hp2)
      (intro p3 hp3;generalize ep3:upd _ p3 _=Gp3;obtain⟨sp3,gp3⟩:=nw hp3 ep3;clear ep3 hp3)
      (intro p4 hp4;generalize ep4:upd _ p4 _=Gp4;obtain⟨sp4,gp4⟩:=nw hp4 ep4;clear ep4 hp4)
      refine⟨by decide,?_⟩
      (intro p5 hp5;generalize ep5:upd _ p5 _=Gp5;obtain⟨sp5,gp5⟩:=nw hp5 ep5;clear ep5 hp5)
      refine⟨⟨by decide,by decide⟩,by decide,?_⟩
      have t4:=sp5
      have t3:=sp4.trans t4
      have t2:=sp3.trans t3
      have t1:=sp2.trans t2
      have sA:=sp1.trans t1
      have e:c/7%6=0\/c/7%6=1\/c/7%6=2\/c/7%6=3\/c/7%6=4\/c/7%6=5:=by omega
      rcases e with e | e | e | e | e | e<;>rw [e]
      . exact Dw (.of gp5) (Bk (j:=0) rfl) (hM _ _ ⟨sA,_,_,.non,rfl⟩)
      . exact Dw (.of gp5) (Bk (j:=1) rfl) (hM _ _ ⟨sA,_,_,.long (.of (t1 _ _ gp1)) (by decide),rfl⟩)
      . exact Dw (.of gp5) (Bk (j:=2) rfl) (hM _ _ ⟨sA,_,_,.str _,rfl⟩)
      . exact Dw (.of gp5) (Bk (j:=3) rfl) (hM _ _ ⟨sA,_,_,.lst (t2 _ _ gp2),rfl⟩)
      . exact Dw (.of gp5) (Bk (j:=4) rfl) (hM _ _ ⟨sA,_,_,.long (.of (t3 _ _ gp3)) (by show 1≠2;decide),rfl⟩)
      . exact Dw (.of gp5) (Bk (j:=5) rfl) (hM _ _ ⟨sA,_,_,.nums (.of (t4 _ _ gp4)),rfl⟩)
    . exact hM _ _ ⟨Same.refl _,tv,to,tt,rfl⟩
  clear tt tv to
  rintro σ H5 ⟨s5,tv,to,tt,rfl⟩
  replace s3:=s3.trans s5
  clear s5
  refine Am (fun σ' H'=>H'=H5/\σ'=[some (.ref y),some (.int c),some (.int w),some ov,some (.int (j:Nat)),some tv,some (.int f),some (.int f),some (.ref pz),some lo,some hi]) (fun M hM=> ?_) ?_
  . contradiction
    exact hM _ _ ⟨rfl,rfl⟩
  rintro _ H6 ⟨e6,rfl⟩
  rw [e6]
  clear e6 H6
  refine Am (fun σ' H'=>H'=H5/\∃f':Int,σ'=[some (.ref y),some (.int c),some (.int w),some ov,some (.int (j:Nat)),some tv,some (.int f'),some (.int f),some (.ref pz),some lo,some hi]) (fun M hM=> ?_) ?_
  . contradiction
    split
    . exact hM _ _ ⟨rfl,_,rfl⟩
    . exact hM _ _ ⟨rfl,_,rfl⟩
  rintro _ H6 ⟨e6,f',rfl⟩
  rw [e6]
  clear e6 H6
  contradiction
  refine⟨pz,_,rfl,s3.tup pi2,fun z6 H6 s6 h6=> ?_⟩
  rw [Uh,<-List.map_take]at h6
  try contradiction
  (intro q hq;generalize eq:upd _ q _=Gq;obtain⟨sq,gq⟩:=nw hq eq;clear eq hq)
  have h7:SqT K Gq q ([((tv,to):V × Option (Rat × Rat))].map (·.1)):= .of gq
  have s37:=(s3.trans s6).trans sq
  refine⟨z6,q,_,_,rfl,rfl,sq.tup h6,h7,cat (by rw [List.length_take];omega) (by show 1<=4;decide),fun z8 H8 s8 h8=> ?_⟩
  rw [<-List.map_append]at h8
  have s38:=s37.trans s8
  refine⟨pz,_,rfl,s38.tup pi2,fun z9 H9 s9 h9=> ?_⟩
  rw [show((j:Nat):Int)+1=((j+1:Nat):Int)from rfl,Ua,<-List.map_drop]at h9
  refine⟨z8,z9,_,_,rfl,rfl,s9.tup h8,h9,by
    rw [List.length_map,List.length_map,List.length_append,List.length_take,List.length_drop]
    exact Nat.le_trans (show min j (gw ws).length+1+((gw ws).length-(j+1))<=10 by omega) (by decide),fun z10 H10 s10 h10=> ?_⟩
  rw [<-List.map_append]at h10
  try contradiction
  (intro p hp;generalize ep:upd _ p _=Gp;obtain⟨sp,gp⟩:=nw hp ep;clear ep hp)
  have sA:=((s38.trans s9).trans s10).trans sp
  have sT:=((((s6.trans sq).trans s8).trans s9).trans s10).trans sp
  refine k p z10 _ _ ((gw ws).take j++ [(tv,to)]++(gw ws).drop (j+1)) _ (s1.trans sA) ⟨.of gp,sp.tup h10,fun t ht=> ?_,?_⟩ (.int f')
  . rcases List.mem_append.mp ht with ht | ht
    . rcases List.mem_append.mp ht with ht | ht
      . exact tb sA t (List.mem_of_mem_take ht)
      . have et:t=(tv,to):=by simpa using ht
        rw [et]
        exact tt.mono sT
    . exact tb sA t (List.mem_of_mem_drop ht)
  . rw [List.length_append,List.length_append,List.length_take,List.length_drop]
    show min j (gw ws).length+1+((gw ws).length-(j+1))<=10
    omega
theorem M7 {ps gs:List (V × (Int × Rat))}{ws:List (V × (Rat × Rat))} (h:gs.length=ws.length):(Fb ps gs ws).map (·.1)=(ps++gs).map (·.2):=by
  unfold Fb
  have e:=Ol (f:=fun(e:V × (Int × Rat)) (w:V × (Rat × Rat))=>((e.2,w.2):Zt)) (g:=(·.1)) (h:=(·.2)) (fun _ _=>rfl) h
  rw [List.map_append,List.map_append,List.map_map,e]
  rfl
theorem Pq {ps gs:List (V × (Int × Rat))}{ws:List (V × (Rat × Rat))} (h:ps++gs=[]):shB (Fb ps gs ws)=0:=by
  obtain⟨rfl,rfl⟩:=List.append_eq_nil_iff.mp h
  unfold Fb
  rfl
theorem Gp.same {H H':Hp}{z z' pz pz':Addr}{ps gs:List (V × (Int × Rat))}{f f':Int}{ws ws':List (V × (Rat × Rat))} (h:Gp K H z ps gs f pz ws) (g:Gp K H' z' ps gs f' pz' ws'):f=f':=by
  by_cases e:ps++gs=[]
  . rw [h.sh,g.sh,Pq e,Pq e]
  . have h0:=h.nz e
    have g0:=g.nz e
    rw [h.sh]at h0 ⊢
    rw [g.sh]at g0 ⊢
    exact Uk (by rw [M7 h.le,M7 g.le]) h.bd g.bd h0 g0
theorem Gp.due {H:Hp}{z pz:Addr}{ps gs:List (V × (Int × Rat))}{f:Int}{ws:List (V × (Rat × Rat))}{v:V} (h:Gp K H z ps gs f pz ws) (d:Ad5 ((ps++gs).map (·.2)) v):v= .non\/v= .int f:=by
  rcases d with d | ⟨i,rfl,d⟩
  . exact .inl d
  . refine .inr ?_
    rw [d (Fb ps gs ws) (M7 h.le) h.bd fun ne=> ?_,h.sh]
    rw [<-h.sh]
    exact h.nz fun z=>ne (by rw [z];rfl)
theorem Gp.right {H:Hp}{z pz:Addr}{ps gs:List (V × (Int × Rat))}{f:Int}{ws:List (V × (Rat × Rat))} (h:Gp K H z ps gs f pz ws):Ia (ps.map (·.2)) (gs.map (·.2)) f ((gw ws).map (·.2))=true:=by
  unfold Ia
  have l1:((gw ws).map (·.2)).length=(gs.map (·.2)).length:=by
    unfold gw
    rw [List.length_map,List.length_map,List.length_map,h.le]
  have a1:(List.zipWith (fun(e:Int × Rat) t=>bB e.1 t) (gs.map (·.2)) ((gw ws).map (·.2))).all id=true:=by
    unfold gw
    rw [List.map_map,List.zipWith_map,List.all_eq_true]
    have bd:=h.bd
    unfold Fb at bd
    have bd2:∀t∈List.zipWith (fun(e:V × (Int × Rat)) (w:V × (Rat × Rat))=>((e.2,w.2):Zt)) gs ws,Bd t.1.1 t.2:=fun t ht=>bd t (List.mem_append.mpr (.inr ht))
    clear bd
    intro b hb
    have go:∀ {gs:List (V × (Int × Rat))}{ws:List (V × (Rat × Rat))},(∀t∈List.zipWith (fun(e:V × (Int × Rat)) (w:V × (Rat × Rat))=>((e.2,w.2):Zt)) gs ws,Bd t.1.1 t.2)->∀b∈List.zipWith (fun(e:V × (Int × Rat)) (w:V × (Rat × Rat))=>bB e.2.1 (some w.2)) gs ws,b=true:=by
      intro gs
      induction gs with
      | nil=>intro ws _ b hb;simp at hb
      | cons e gs ih=>
        intro ws h b hb
        cases ws with
        | nil=>simp at hb
        | cons w ws=>
          rw [List.zipWith_cons_cons]at h hb
          rcases List.mem_cons.mp hb with rfl | hb
          . have:=h (e.2,w.2) (by simp)
            show bdB e.2.1 w.2=true
            unfold bdB
            simp only [Bool.and_eq_true,decide_eq_true_eq]
            exact⟨this.l0,this.h0,this.lo,this.hi⟩
          . exact ih (fun t ht=>h t (by simp [ht])) b hb
    exact go bd2 b hb
  rw [decide_eq_true l1,a1,Bool.true_and,Bool.true_and]
  by_cases f0:f=0
  . rw [if_pos f0]
    have:ps++gs=[]:=Classical.byContradiction fun z=>h.nz z f0
    rw [<-List.map_append,this]
    rfl
  . rw [if_neg f0]
    unfold gw
    rw [Tz]
    exact decide_eq_true h.sh.symm
theorem Gp.told {H:Hp}{z pz x:Addr}{ps gs:List (V × (Int × Rat))}{f g:Int}{ws:List (V × (Rat × Rat))}{ts:List (V × Option (Rat × Rat))} (h:Gp K H z ps gs f pz ws) (on:On K H x ps gs) (r:Ia (ps.map (·.2)) (gs.map (·.2)) g (ts.map (·.2))=true):g=f:=by
  unfold Ia at r
  rw [Bool.and_eq_true,Bool.and_eq_true,decide_eq_true_eq,List.length_map,List.length_map]at r
  obtain⟨hn,hb,r⟩:=r
  obtain⟨us,hu⟩:=all_some (G:=gs.map (·.2)) (by rw [List.length_map];exact hn) hb
  have ul:gs.length=us.length:=by rw [<-hn,hu,List.length_map]
  by_cases g0:g=0
  . rw [if_pos g0,decide_eq_true_eq,<-List.map_append,List.map_eq_nil_iff]at r
    rw [h.sh,Pq r,g0]
  . rw [if_neg g0,decide_eq_true_eq,hu,Tz]at r
    have ne:ps++gs≠ []:=fun z=>g0 (by rw [<-r,Pq z])
    have bd:∀t∈Fb ps gs us,Bd t.1.1 t.2:=by
      intro t ht
      unfold Fb at ht
      rcases List.mem_append.mp ht with ht | ht
      . obtain⟨e,he,rfl⟩:=List.mem_map.mp ht
        show Bd e.2.1 _
        rw [(on.tw.pa e he).2]
        exact V9
      . rw [hu,List.map_map,List.zipWith_map]at hb
        exact V4 (f:=fun(e:V × (Int × Rat)) (w:V × (Rat × Rat))=>((e.2,w.2):Zt)) (g:=fun(e:V × (Int × Rat)) (w:V × (Rat × Rat))=>bB e.2.1 (some w.2)) (P:=fun t=>Bd t.1.1 t.2) (fun e w h=>Zh (d:=e.2.1) (p:=w.2) h) hb t ht
    have f0:=h.nz ne
    rw [h.sh]at f0 ⊢
    rw [<-r]at g0 ⊢
    exact Uk (by rw [M7 h.le,M7 ul]) bd h.bd g0 f0
theorem Gp.wl {H:Hp}{z pz x:Addr}{ps gs:List (V × (Int × Rat))}{f:Int}{ws:List (V × (Rat × Rat))} (h:Gp K H z ps gs f pz ws) (on:On K H x ps gs):ws.length<=4:=by
  have:=h.le
  have:=on.tw.gl
  omega
theorem Z4 {H:Hp}{a b:Bool}{Q:VK}{g:Bool->Bool} (q:Q (.bl (g (decide (a=b)))) H):Abz K g (.bl a) (.bl b) H Q:=by
  refine⟨.bool a,.bool b,.bl a,.bl b,by cases a<;>decide,by cases b<;>decide,?_⟩
  have e:PyData.eqv (.bool a) (.bool b)=decide (a=b):=by
    cases a<;>cases b<;>simp [PyData.eqv]
  rw [e]
  exact q
theorem Acl {f:Addr}{fd:FuncData} (F:Df K mg "law" Qk ["_law_script"] f fd) (z_range:mg "range"=none) (z_isinstance:mg "isinstance"=none) (z_bool:mg "bool"=none) (z_list:mg "list"=none)  (c_q_sum:Cal P w K mg base 6 "_law_sum" ["_law_script"] (S9 K)) (c_q_due:Cal P w K mg base 3 "_law_due" ["_law_one"] (T6 K)) (c_s_paper:Cal P w K mg base 6 "s_paper" ["one"] (Lq K)) (c_s_sign:Cal P w K mg base 7 "s_sign" ["one"] (Py K)) (c_q_turned:Cal P w K mg base 4 "_law_turned" ["_law_paper","_law_cell"] (Ng K)) (c_q_told:Cal P w K mg base 7 "_law_told" ["_law_one","_law_paper"] (Pk K)) (c_q_cell_at:Cal P w K mg base 1 "_law_cell_at" ["_law_script","_law_k"] (Gn K)) (c_q_wide:Cal P w K mg base 4 "_law_wide" ["_law_paper","_law_cell"] (Qs K)) (c_q_paper_due:Cal P w K mg base 5 "_law_paper_due" ["_law_one","_law_paper"] (Jd K)):Oe P w K mg base CX0 8 f fd ["_law_script"] (Yp K):=by
  refine F.fn.ok Ie (fun vs H Q E h=> ?_) (fun cdv A outer s H vs Q E hr h=> ?_)
  . obtain⟨a,ns,rfl,_⟩:=h
    rfl
  obtain⟨a,ns,rfl,hS,h63,k⟩:=h
  refine S.Bj ⟨_,(S.Ad (S.Ai (i:=1) Ie.nd rfl (Or.inl rfl) (S.Aw c_q_sum (hr.mono (by decide)) (S.Aa (S.pv 0) S.Ac)))
      (S.Ad (S.Ai (i:=2) Ie.nd rfl (Or.inl rfl) (S.Aw c_q_due (hr.mono (by decide)) (S.Aa (S.pv 1) S.Ac)))
      (S.Ad (S.Ai (i:=3) Ie.nd rfl (Or.inl rfl) (S.Aw c_s_paper (hr.mono (by decide)) (S.Aa (S.pv 1) S.Ac)))
      (S.Ad (S.Ai (i:=4) Ie.nd rfl (Or.inl rfl) (S.Aw c_s_sign (hr.mono (by decide)) (S.Aa (S.pv 1) S.Ac)))
      (S.Ad (S.Bm (S.Hw (S.Dn (S.Hw (S.Qx (S.Ah Aag (S.pv 2) S.K7 (Aj _)) (S.Nk (S.Ah Nr (S.pv 4) (S.pv 2) (Aj _))))) (S.Dn (S.Ah Qq (S.pv 4) (S.Av (S.Aa (S.Jj G6 S.Ab) (S.Aa S.Ab (S.Aa S.Ab S.Ac)))) rfl) (S.Dv (S.Bv (S.Bo Du rfl z_isinstance PyProof.Rows.boot_isinstance (S.Aa (S.pv 4) (S.Aa (S.Bu (v:= .ty "bool") rfl z_bool PyProof.Rows.boot_bool rfl) S.Ac)))))))) (S.Ae (S.Al S.Fg)) S.Ax)
      (S.Ad (S.Bm (S.Hw (S.Dn (S.Ah (Nb hr.units) (S.Ci Dr (S.pv 4) S.Ab (Aj _)) (S.Ci (M6 hr.units) (S.pv 1) (S.Av S.Ac) (Aj _)) (Aj _)) (S.Dn (S.Ah Nr (S.Ay Ak (S.pv 3) S.Ab (fun _ _=>rfl)) (S.pv 4) (Aj _)) (S.Dv (S.Ah Xv (S.Aw c_q_told (hr.mono (by decide)) (S.Aa (S.pv 1) (S.Aa (S.pv 3) S.Ac))) S.Fg (Aj _)))))) (S.Ae (S.Al S.Fg)) S.Ax)
      (S.Ad (S.Gw PassesOwn.never rfl (S.Ld (S.Cp (S.Aa S.K7 (S.Aa S.Ab (S.Aa S.N5 (S.Aa (S.Gs Gz rfl z_list PyProof.Rows.boot_list (S.Aa (S.pv 3) S.Ac)) (S.Aa (S.Av S.Ac) (S.Aa (S.Hs Mt (S.pv 3) S.Ka (S.Jv S.Ab)) (S.Aa (S.Av (S.Aa (S.pv 4) (S.Aa (S.Af Xc (S.Gs Gz rfl z_list PyProof.Rows.boot_list (S.Aa (S.Ay Ak (S.pv 3) S.Ab (fun _ _=>rfl)) S.Ac)) (S.Cp (S.Aa S.Ab S.Ac))) S.Ac))) S.Ac))))))))) (S.Aq (i:=5) Ie.nd rfl (Or.inl rfl)) (S.Ae (S.Bm (S.Ah Xv (S.Aw c_q_told (hr.mono (by decide)) (S.Aa (S.pv 1) (S.Aa (S.pv 5) S.Ac))) S.Fg (Aj _)) (S.Ae (S.Al S.Fg)) S.Ax)))
      (S.Ad (S.Gw PassesOwn.never rfl (S.Ig rfl z_range (S.Aa S.Ab (S.Aa S.Ab S.Ac))) (S.Aq (i:=6) Ie.nd rfl (Or.inl rfl)) (S.Ad (S.Ai (i:=7) Ie.nd rfl (Or.inl rfl) (S.Af Cu (S.Aw c_q_cell_at (hr.mono (by decide)) (S.Aa (S.pv 0) (S.Aa (S.pv 6) S.Ac))) (S.Af Az S.Ab (S.pv 6))))
      (S.Ad (S.Ai (i:=8) Ie.nd rfl (Or.inl rfl) (S.Aw c_q_turned (hr.mono (by decide)) (S.Aa (S.pv 3) (S.Aa (S.pv 7) S.Ac))))
      (S.Ad (S.Bm (S.Ah Dr (S.Af Ce (S.Af Bg (S.pv 7) S.Ab) S.Ab) S.Ab (Aj _)) (S.Ae (S.Ai (i:=8) Ie.nd rfl (Or.inl rfl) (S.Aw c_q_wide (hr.mono (by decide)) (S.Aa (S.pv 3) (S.Aa (S.Af Bg (S.pv 7) S.Ab) S.Ac))))) S.Ax)
      (S.Ad (S.Ai (i:=9) Ie.nd rfl (Or.inl rfl) (S.Aw c_q_told (hr.mono (by decide)) (S.Aa (S.pv 1) (S.Aa (S.pv 8) S.Ac))))
      (S.Ae (S.Bm (S.Hw (S.Dn (S.Ah Ach (S.pv 9) S.K7 (Aj _)) (S.Dn (S.Ah (Nb hr.units) (S.pv 9) (S.Aw c_q_paper_due (hr.mono (by decide)) (S.Aa (S.pv 1) (S.Aa (S.pv 8) S.Ac))) (Aj _)) (S.Dv (S.Hw (S.Qx (S.Bv (S.pv 9)) (S.Nk (S.Ah Nr (S.Ay Ak (S.pv 8) S.Ab (fun _ _=>rfl)) (S.pv 4) (Aj _))))))))) (S.Ae (S.Al S.Fg)) S.Ax)))))))
      (S.Ae (S.Al S.Fg)))))))))),?_⟩
  refine Am (fun σ' H'=>Same H H'/\∃(x:Addr) (ps gs:List (V × (Int × Rat))),On K H' x ps gs/\σ'=[some (.ref a),some (.ref x),none,none,none,none,none,none,none,none]) (fun M hM=> ?_) ?_
  . contradiction
    exact⟨a,ns,rfl,hS,fun x H1 ps gs s1 on=>hM _ _ ⟨s1,x,ps,gs,on,rfl⟩⟩
  rintro σ H1 ⟨s1,x,ps,gs,on,rfl⟩
  refine Am (fun σ' H'=>Same H1 H'/\∃v:V,Ad5 ((ps++gs).map (·.2)) v/\σ'=[some (.ref a),some (.ref x),some v,none,none,none,none,none,none,none]) (fun M hM=> ?_) ?_
  . contradiction
    exact⟨x,ps,gs,rfl,on,fun v H2 s2 du=>hM _ _ ⟨s2,v,du,rfl⟩⟩
  rintro σ H2 ⟨s2,v,du,rfl⟩
  replace on:=on.mono s2
  replace s1:=s1.trans s2
  clear s2
  refine Am (fun σ' H'=>Same H2 H'/\∃(y:Addr) (f:Int) (pz:Addr) (ws:List (V × (Rat × Rat))),Gp K H' y ps gs f pz ws/\σ'=[some (.ref a),some (.ref x),some v,some (.ref y),none,none,none,none,none,none]) (fun M hM=> ?_) ?_
  . contradiction
    exact⟨x,ps,gs,rfl,on,fun y H3 f pz ws s3 gp=>hM _ _ ⟨s3,y,f,pz,ws,gp,rfl⟩⟩
  rintro σ H3 ⟨s3,y,f,pz,ws,gp,rfl⟩
  replace on:=on.mono s3
  replace s1:=s1.trans s3
  clear s3
  refine Am (fun σ' H'=>Same H3 H'/\σ'=[some (.ref a),some (.ref x),some v,some (.ref y),some (.int f),none,none,none,none,none]) (fun M hM=> ?_) ?_
  . contradiction
    refine⟨x,ps,gs,rfl,on,fun y' H4 f' pz' ws' s4 gp'=> ?_⟩
    try contradiction
    rw [<-gp.same gp']
    exact hM _ _ ⟨s4,rfl⟩
  rintro σ H4 ⟨s4,rfl⟩
  replace on:=on.mono s4
  replace gp:=gp.mono s4
  replace s1:=s1.trans s4
  clear s4
  have du':=gp.due du
  have fi:f=1\/f= -1\/f=0:=by
    rw [gp.sh]
    exact Acd _
  have wl:=gp.wl on
  refine Am (fun σ' H'=>Same H4 H'/\σ'=[some (.ref a),some (.ref x),some v,some (.ref y),some (.int f),none,none,none,none,none]) (fun M hM=> ?_) ?_
  . contradiction
    rcases du' with rfl | rfl
    . rw [if_pos rfl]
      refine⟨by decide,?_⟩
      (intro q hq;generalize eq:upd _ q _=Gq;obtain⟨sq,gq⟩:=nw hq eq;clear eq hq)
      have fin:inV (.int f) [V.int (-1),V.int 0,V.int 1]=true:=by rcases fi with rfl | rfl | rfl<;>rfl
      refine⟨q,_,rfl,.inr (.of gq),rfl,rfl,?_⟩
      rw [fin]
      refine⟨false,rfl,?_⟩
      rw [if_neg (by decide)]
      refine isi (.int f) Oa ?_
      try contradiction
      exact hM _ _ ⟨sq,rfl⟩
    . rw [if_neg nofun]
      try contradiction
      refine⟨by decide,?_⟩
      (intro q hq;generalize eq:upd _ q _=Gq;obtain⟨sq,gq⟩:=nw hq eq;clear eq hq)
      have fin:inV (.int f) [V.int (-1),V.int 0,V.int 1]=true:=by rcases fi with rfl | rfl | rfl<;>rfl
      refine⟨q,_,rfl,.inr (.of gq),rfl,rfl,?_⟩
      rw [fin]
      refine⟨false,rfl,?_⟩
      rw [if_neg (by decide)]
      refine isi (.int f) Oa ?_
      try contradiction
      exact hM _ _ ⟨sq,rfl⟩
  rintro σ H5 ⟨s5,rfl⟩
  replace on:=on.mono s5
  replace gp:=gp.mono s5
  replace s1:=s1.trans s5
  clear s5
  refine Am (fun σ' H'=>Same H5 H'/\σ'=[some (.ref a),some (.ref x),some v,some (.ref y),some (.int f),none,none,none,none,none]) (fun M hM=> ?_) ?_
  . contradiction
    refine⟨by decide,?_⟩
    (intro q hq;generalize eq:upd _ q _=Gq;obtain⟨sq,gq⟩:=nw hq eq;clear eq hq)
    have sm:=(on.mono sq).sm
    refine Ip sm.it sm.al (.of gq) ?_
    refine Z4 ?_
    have e0:decide (f=0)=decide (ps++gs=[]):=decide_eq_decide.mpr ⟨fun h=>Classical.byContradiction fun z=>gp.nz z h,fun h=>by rw [gp.sh,Pq h]⟩
    rw [e0,decide_eq_true rfl]
    refine⟨false,rfl,?_⟩
    rw [if_neg (by decide)]
    refine Bf (sq.tup gp.it) (at0 _ _) ?_
    try contradiction
    have g2:=gp.mono sq
    have pp:Pp K Gq ps gs (.ref y) (Ia (ps.map (·.2)) (gs.map (·.2)) f ((gw ws).map (·.2))):= .good g2.it (by rw [Vr];exact g2.pi) (Aaz g2.pl (by decide)) (by unfold gw;rw [List.length_map];omega)
    rw [gp.right]at pp
    exact⟨x,ps,gs,_,true,rfl,on.mono sq,pp,fun H6 s6=>⟨true,true,rfl,rfl,hM _ _ ⟨sq.trans s6,rfl⟩⟩⟩
  rintro σ H6 ⟨s6,rfl⟩
  replace on:=on.mono s6
  replace gp:=gp.mono s6
  replace s1:=s1.trans s6
  clear s6
  refine Am (fun σ' H'=>Same H6 H'/\∃o5:Option V,σ'=[some (.ref a),some (.ref x),some v,some (.ref y),some (.int f),o5,none,none,none,none]) (fun M hM=> ?_) ?_
  . contradiction
    refine⟨y,_,rfl,.inr gp.it,?_⟩
    (intro q1 hq1;generalize eq1:upd _ q1 _=Gq1;obtain⟨sq1,gq1⟩:=nw hq1 eq1;clear eq1 hq1)
    refine⟨by decide,?_⟩
    (intro q2 hq2;generalize eq2:upd _ q2 _=Gq2;obtain⟨sq2,gq2⟩:=nw hq2 eq2;clear eq2 hq2)
    have s12:=sq1.trans sq2
    refine⟨y,_,rfl,s12.tup gp.it,fun z3 G3 t3 h3=> ?_⟩
    have ec:Vc [V.int f,V.ref pz] none (some 1)=[V.int f]:=rfl
    rw [ec]at h3
    have s13:=s12.trans t3
    refine Bf (s13.tup gp.it) (at1 _ _ _) ?_
    refine⟨pz,_,rfl,.inr (s13.tup gp.pi),?_⟩
    (intro q4 hq4;generalize eq4:upd _ q4 _=Gq4;obtain⟨sq4,gq4⟩:=nw hq4 eq4;clear eq4 hq4)
    (intro q5 hq5;generalize eq5:upd _ q5 _=Gq5;obtain⟨sq5,gq5⟩:=nw hq5 eq5;clear eq5 hq5)
    refine⟨q4,q5,_,_,rfl,rfl,sq5 _ _ gq4,gq5,by rw [List.length_map];exact Nat.le_trans (Nat.add_le_add_right wl 1) (by decide),?_⟩
    (intro q6 hq6;generalize eq6:upd _ q6 _=Gq6;obtain⟨sq6,gq6⟩:=nw hq6 eq6;clear eq6 hq6)
    (intro q7 hq7;generalize eq7:upd _ q7 _=Gq7;obtain⟨sq7,gq7⟩:=nw hq7 eq7;clear eq7 hq7)
    refine⟨by decide,?_⟩
    (intro q8 hq8;generalize eq8:upd _ q8 _=Gq8;obtain⟨sq8,gq8⟩:=nw hq8 eq8;clear eq8 hq8)
    have u6:=sq7.trans sq8
    have u3:=((sq4.trans sq5).trans sq6).trans u6
    have u2:=t3.trans u3
    have u1:=sq2.trans u2
    have sA:=sq1.trans u1
    have tr:∀e∈ [V.non,V.int 3,V.str (Str.ofString "paper"),V.ref q1,V.ref q2,V.ref z3,V.ref q7],Pp K Gq8 ps gs e false:=fun e he=>by
      have he:e=V.non\/e=V.int 3\/e=V.str (Str.ofString "paper")\/e=V.ref q1\/e=V.ref q2\/e=V.ref z3\/e=V.ref q7:=by simpa using he
      rcases he with rfl | rfl | rfl | rfl | rfl | rfl | rfl
      . exact .non
      . exact .int 3
      . exact .str _
      . exact .lst (u1 _ _ gq1)
      . exact .long (.of (u2 _ _ gq2)) (by decide)
      . exact .long (u3.tup h3) (by show 1≠2;decide)
      . exact .notl (.of (sq8 _ _ gq7)) (u6 _ _ gq6)
    refine⟨⟨_,.of gq8⟩,Qe (es:=[V.non,V.int 3,V.str (Str.ofString "paper"),V.ref q1,V.ref q2,V.ref z3,V.ref q7]) (inj:=id) (fun pre σ' H'=>Same Gq8 H'/\∃o5:Option V,σ'=[some (.ref a),some (.ref x),some v,some (.ref y),some (.int f),o5,none,none,none,none]) ⟨Same.refl _,_,rfl⟩ ?_ ?_ ?_⟩
    . rintro pre σ' H' ⟨t5,_⟩
      exact K3 (inj:=id) (by rw [List.map_id];exact .of (t5 _ _ gq8))
    . rintro pre e post σ' H' he ⟨t5,o5,rfl⟩
      contradiction
      exact⟨x,ps,gs,_,false,rfl,on.mono (sA.trans t5),(tr e (by rw [he];simp)).mono t5,fun H9 s9=>⟨false,false,rfl,rfl,t5.trans s9,_,rfl⟩⟩
    . rintro σ' H' ⟨t5,o5,rfl⟩
      exact hM _ _ ⟨sA.trans t5,o5,rfl⟩
  rintro σ H7 ⟨s7,o5,rfl⟩
  replace on:=on.mono s7
  replace gp:=gp.mono s7
  replace s1:=s1.trans s7
  clear s7
  refine Am (fun σ' H'=>True) (fun M hM=> ?_) ?_
  . contradiction
    refine⟨⟨by decide,by decide,by decide,by decide⟩,?_⟩
    rw [show((17:Int)-5).toNat=12 from rfl]
    refine Afd 12 (fun i=> .int (5+(i:Nat))) (fun _ σ' H'=>Same H7 H'/\∃o6 o7 o8 o9:Option V,σ'=[some (.ref a),some (.ref x),some v,some (.ref y),some (.int f),o5,o6,o7,o8,o9]) ⟨Same.refl _,_,_,_,_,rfl⟩ ?_ ?_ ?_
    . rintro i σ' H' _
      exact K8
    . rintro i σ' H' hi ⟨t1,o6,o7,o8,o9,rfl⟩
      simp only [Cj,List.set_cons_succ,List.set_cons_zero]
      refine Am (fun σ' H''=>H''=H'/\∃c:Int,σ'=[some (.ref a),some (.ref x),some v,some (.ref y),some (.int f),o5,some (.int (5+(i:Nat))),some (.int c),o8,o9]) (fun M hM=> ?_) ?_
      . contradiction
        refine S8 hS (s1.trans t1) (by omega) ?_
        try contradiction
        exact⟨.of_left (Ac8 (by decide)),hM _ _ ⟨rfl,_,rfl⟩⟩
      rintro _ H8 ⟨e8,c,rfl⟩
      rw [e8]
      clear e8 H8
      replace on:=on.mono t1
      replace gp:=gp.mono t1
      refine Am (fun σ' H''=>Same H' H''/\∃(p z:Addr) (u:V) (o:Option Int) (ts:List (V × Option (Rat × Rat))),Td K H'' p u z ts/\Wt u o/\σ'=[some (.ref a),some (.ref x),some v,some (.ref y),some (.int f),o5,some (.int (5+(i:Nat))),some (.int c),some (.ref p),o9]) (fun M hM=> ?_) ?_
      . contradiction
        exact⟨y,ps,gs,f,pz,ws,c,rfl,gp,wl,fun p z u o ts H8 s8 td wt=>hM _ _ ⟨s8,p,z,u,o,ts,td,wt,rfl⟩⟩
      rintro σ H8 ⟨s8,p,z,u,o,ts,td,wt,rfl⟩
      refine Am (fun σ' H''=>Same H8 H''/\∃(p z:Addr) (u:V) (o:Option Int) (ts:List (V × Option (Rat × Rat))),Td K H'' p u z ts/\Wt u o/\σ'=[some (.ref a),some (.ref x),some v,some (.ref y),some (.int f),o5,some (.int (5+(i:Nat))),some (.int c),some (.ref p),o9]) (fun M hM=> ?_) ?_
      . contradiction
        refine⟨⟨by decide,by decide⟩,by decide,?_⟩
        split
        . exact⟨⟨by decide,by decide⟩,y,ps,gs,f,pz,ws,_,rfl,gp.mono s8,wl,fun p z ts H9 s9 td=>hM _ _ ⟨s9,p,z,_,_,ts,td,.int f,rfl⟩⟩
        . exact hM _ _ ⟨Same.refl _,p,z,u,o,ts,td,wt,rfl⟩
      clear td wt
      rintro σ H9 ⟨s9,p,z,u,o,ts,td,wt,rfl⟩
      replace s8:=s8.trans s9
      clear s9
      have on9:=on.mono s8
      have gp9:=gp.mono s8
      refine Am (fun σ' H''=>Same H9 H''/\σ'=[some (.ref a),some (.ref x),some v,some (.ref y),some (.int f),o5,some (.int (5+(i:Nat))),some (.int c),some (.ref p),some (.bl (Adm (ps.map (·.2)) (gs.map (·.2)) o (ts.map (·.2))))]) (fun M hM=> ?_) ?_
      . contradiction
        exact⟨x,ps,gs,_,_,rfl,on9,td.pp wt ps gs,fun H10 s10=>hM _ _ ⟨s10,rfl⟩⟩
      rintro σ H10 ⟨s10,rfl⟩
      have td10:=td.mono s10
      contradiction
      rw [if_neg nofun]
      refine⟨x,p,z,ps,gs,u,o,ts,rfl,on9.mono s10,td10,wt,fun H11 s11=> ?_⟩
      try contradiction
      refine Z4 ?_
      rw [decide_eq_true rfl]
      refine⟨false,rfl,?_⟩
      rw [if_neg (by decide)]
      have sB:=((t1.trans s8).trans s10).trans s11
      split
      . rename_i hd
        cases wt with
        | bl b=>exact absurd hd Bool.false_ne_true
        | non=>exact absurd hd Bool.false_ne_true
        | int g=>
          have eg:=gp9.told on9 hd
          refine Bf (s11.tup td10.it) (at0 _ _) ?_
          rw [eg]
          try contradiction
          exact⟨sB,_,_,_,_,rfl⟩
      . exact⟨sB,_,_,_,_,rfl⟩
    . intro σ' H' _
      exact hM _ _ trivial
  rintro σ H8 _
  contradiction
  exact k _
end
abbrev Fd (K:PySem.W.Frag) (x:Str) (st:Stmt):Prop:=∃(f:Addr) (od an:Option Addr) (sl:Array (Option Value)) (oc kV dc pm cd ct:Value),PySem.W.nsIn K mainGlobals x=some (some (.ref f))/\K.lookup f=some ⟨oc,od,.func (PySem.W.fnOf x x (Jr st) (Hg st) (Ag st) .none kV dc pm an cd ct),sl⟩/\PySem.W.codeIn K cd x=true/\PySem.W.keepIn K (.ref f)=true
theorem Cq {K:PySem.W.Frag}{h:Heap}{mg:Str->Option Value}{x:Str}{st:Stmt} (X:K.In h) (G:h.Ns mainGlobals mg) (d:Fd K x st) (ps:List Str) (hb:∀(kV doc pm:Value) (an:Option Addr) (cdv ct:Value) (us:List Value),us.length=ps.length->bindArgs (PySem.W.fnOf x x (Jr st) (Hg st) (Ag st) .none kV doc pm an cdv ct) ⟨us,[]⟩=pure (ps.zip us)):∃f fd,Df K mg x st ps f fd:=by
  obtain⟨f,_,_,_,_,_,_,_,_,_,a,l,c,k⟩:=d
  have F:=Zf (st:=st) l c k
  exact⟨_,_,F,F.binds hb,PySem.W.mg_of X G a⟩
theorem all_mk {l:PySem.W.OpenLaw}{w:World}{K:PySem.W.Frag}{h:Heap}{mg:Str->Option Value}{fa:Addr} (X:K.In h) (G:h.Ns mainGlobals mg) (hfa:mg "law"=some (.ref fa))
    (d1:Fd K "divisor" Np) (d2:Fd K "fraction" Lk) (d3:Fd K "plus" Wr) (d4:Fd K "roots_in" Ir) (d5:Fd K "added_up" Iu) (d6:Fd K "root_floor" Ik) (d7:Fd K "square_in" Jx) (d8:Fd K "times" Ri) (d9:Fd K "root_sum" Le) (d10:Fd K "_law_cell_at" Jq) (d11:Fd K "minus" Rj) (d12:Fd K "s_minus" Kw) (d13:Fd K "s_plus" Ov) (d14:Fd K "_law_scaled" Lh) (d15:Fd K "_law_sum" Q7) (d16:Fd K "_law_due" Q9) (d17:Fd K "over" Vj) (d18:Fd K "pairs_at" Ln) (d19:Fd K "sign_of_whole" Ey) (d20:Fd K "sign" Xg) (d21:Fd K "ends" X3) (d22:Fd K "sign_shown" Ih) (d23:Fd K "s_paper" Nm) (d24:Fd K "s_sign" Ot) (d25:Fd K "_law_turned" Lw) (d26:Fd K "is_whole" Li) (d27:Fd K "is_fraction" Hq) (d28:Fd K "less" V8) (d29:Fd K "is_bound" Lj) (d30:Fd K "s_right" Ky) (d31:Fd K "_law_told" Pa) (d32:Fd K "_law_wide" O8) (d33:Fd K "_law_is_fraction" Dj) (d34:Fd K "_law_is_pair" Hi) (d35:Fd K "_law_paper_due" Di) (d36:Fd K "law" Qk)
    {qTooGreat:Addr} (aTooGreat:PySem.W.nsIn K mainGlobals "TooGreat"=some (some (.ref qTooGreat)))
    {tMOST_ROOTS:Tok}
    {tGREATEST:Tok}
    (xcMOST_ROOTS:PySem.W.nsIn K mainGlobals "MOST_ROOTS"=some (some (.int 3 tMOST_ROOTS)))
    (xcGREATEST:PySem.W.nsIn K mainGlobals "GREATEST"=some (some (.int 1000000000000 tGREATEST)))
    (xkTooGreat:PySem.W.excIn K qTooGreat [.type "ValueError",.type "Exception",.type "BaseException",.type "object"] "ValueError.__new__"=true)
    (zabs:PySem.W.nsIn K mainGlobals "abs"=some none) (ztuple:PySem.W.nsIn K mainGlobals "tuple"=some none) (zlen:PySem.W.nsIn K mainGlobals "len"=some none) (zsorted:PySem.W.nsIn K mainGlobals "sorted"=some none) (zrange:PySem.W.nsIn K mainGlobals "range"=some none) (zzip:PySem.W.nsIn K mainGlobals "zip"=some none) (zlist:PySem.W.nsIn K mainGlobals "list"=some none) (zmax:PySem.W.nsIn K mainGlobals "max"=some none) (zisinstance:PySem.W.nsIn K mainGlobals "isinstance"=some none) (zint:PySem.W.nsIn K mainGlobals "int"=some none) (zbool:PySem.W.nsIn K mainGlobals "bool"=some none) (zall:PySem.W.nsIn K mainGlobals "all"=some none) (zmin:PySem.W.nsIn K mainGlobals "min"=some none) (zenumerate:PySem.W.nsIn K mainGlobals "enumerate"=some none):
    ∃fd:FuncData,(∀(s:Shared) (v:Value),BindsTo s fd ⟨[v],[]⟩ [("_law_script",v)])/\∀base:Heap,K.In base->base.Ns mainGlobals mg->Oe l.prog w K mg base CX0 8 fa fd ["_law_script"] (Yp K):=by
  obtain⟨f36,_,an,sl,oc,kV,dc,pm,cd,ct,a36,l36,c36,k36⟩:=d36
  have e:=hfa.symm.trans (PySem.W.mg_of X G a36)
  cases e
  have z_abs:=PySem.W.mg_none_of X G zabs
  have z_tuple:=PySem.W.mg_none_of X G ztuple
  have z_len:=PySem.W.mg_none_of X G zlen
  have z_sorted:=PySem.W.mg_none_of X G zsorted
  have z_range:=PySem.W.mg_none_of X G zrange
  have z_zip:=PySem.W.mg_none_of X G zzip
  have z_list:=PySem.W.mg_none_of X G zlist
  have z_max:=PySem.W.mg_none_of X G zmax
  have z_isinstance:=PySem.W.mg_none_of X G zisinstance
  have z_int:=PySem.W.mg_none_of X G zint
  have z_bool:=PySem.W.mg_none_of X G zbool
  have z_all:=PySem.W.mg_none_of X G zall
  have z_min:=PySem.W.mg_none_of X G zmin
  have z_enumerate:=PySem.W.mg_none_of X G zenumerate
  have eTooGreat:=Ae4 aTooGreat
  have xc_MOST_ROOTS:∃u,mg "MOST_ROOTS"=some u/\RelV (V.int 3) u:=⟨_,PySem.W.mg_of X G xcMOST_ROOTS,⟨_,rfl⟩⟩
  have xc_GREATEST:∃u,mg "GREATEST"=some u/\RelV (V.int 1000000000000) u:=⟨_,PySem.W.mg_of X G xcGREATEST,⟨_,rfl⟩⟩
  have xk_TooGreat:Aba K (cA K "TooGreat"):=by rw [eTooGreat];exact xkTooGreat
  have xm_TooGreat:mg "TooGreat"=some (.ref (cA K "TooGreat")):=by rw [eTooGreat];exact PySem.W.mg_of X G aTooGreat
  obtain⟨_,_,D1⟩:=Cq X G d1 ["one","other"] fun _ _ _ _ _ _ us hl=>match us,hl with | [_,_],_=>rfl
  obtain⟨_,_,D2⟩:=Cq X G d2 ["top","bottom"] fun _ _ _ _ _ _ us hl=>match us,hl with | [_,_],_=>rfl
  obtain⟨_,_,D3⟩:=Cq X G d3 ["one","other"] fun _ _ _ _ _ _ us hl=>match us,hl with | [_,_],_=>rfl
  obtain⟨_,_,D4⟩:=Cq X G d4 ["one"] fun _ _ _ _ _ _ us hl=>match us,hl with | [_],_=>rfl
  obtain⟨_,_,D5⟩:=Cq X G d5 ["terms"] fun _ _ _ _ _ _ us hl=>match us,hl with | [_],_=>rfl
  obtain⟨_,_,D6⟩:=Cq X G d6 ["number"] fun _ _ _ _ _ _ us hl=>match us,hl with | [_],_=>rfl
  obtain⟨_,_,D7⟩:=Cq X G d7 ["d"] fun _ _ _ _ _ _ us hl=>match us,hl with | [_],_=>rfl
  obtain⟨_,_,D8⟩:=Cq X G d8 ["one","other"] fun _ _ _ _ _ _ us hl=>match us,hl with | [_,_],_=>rfl
  obtain⟨_,_,D9⟩:=Cq X G d9 ["terms"] fun _ _ _ _ _ _ us hl=>match us,hl with | [_],_=>rfl
  obtain⟨_,_,D10⟩:=Cq X G d10 ["_law_script","_law_k"] fun _ _ _ _ _ _ us hl=>match us,hl with | [_,_],_=>rfl
  obtain⟨_,_,D11⟩:=Cq X G d11 ["one","other"] fun _ _ _ _ _ _ us hl=>match us,hl with | [_,_],_=>rfl
  obtain⟨_,_,D12⟩:=Cq X G d12 ["one","other"] fun _ _ _ _ _ _ us hl=>match us,hl with | [_,_],_=>rfl
  obtain⟨_,_,D13⟩:=Cq X G d13 ["one","other"] fun _ _ _ _ _ _ us hl=>match us,hl with | [_,_],_=>rfl
  obtain⟨_,_,D14⟩:=Cq X G d14 ["_law_one","_law_far"] fun _ _ _ _ _ _ us hl=>match us,hl with | [_,_],_=>rfl
  obtain⟨_,_,D15⟩:=Cq X G d15 ["_law_script"] fun _ _ _ _ _ _ us hl=>match us,hl with | [_],_=>rfl
  obtain⟨_,_,D16⟩:=Cq X G d16 ["_law_one"] fun _ _ _ _ _ _ us hl=>match us,hl with | [_],_=>rfl
  obtain⟨_,_,D17⟩:=Cq X G d17 ["one","other"] fun _ _ _ _ _ _ us hl=>match us,hl with | [_,_],_=>rfl
  obtain⟨_,_,D18⟩:=Cq X G d18 ["one","scale"] fun _ _ _ _ _ _ us hl=>match us,hl with | [_,_],_=>rfl
  obtain⟨_,_,D19⟩:=Cq X G d19 ["number"] fun _ _ _ _ _ _ us hl=>match us,hl with | [_],_=>rfl
  obtain⟨_,_,D20⟩:=Cq X G d20 ["one"] fun _ _ _ _ _ _ us hl=>match us,hl with | [_],_=>rfl
  obtain⟨_,_,D21⟩:=Cq X G d21 ["one","pairs"] fun _ _ _ _ _ _ us hl=>match us,hl with | [_,_],_=>rfl
  obtain⟨_,_,D22⟩:=Cq X G d22 ["one","pairs"] fun _ _ _ _ _ _ us hl=>match us,hl with | [_,_],_=>rfl
  obtain⟨_,_,D23⟩:=Cq X G d23 ["one"] fun _ _ _ _ _ _ us hl=>match us,hl with | [_],_=>rfl
  obtain⟨_,_,D24⟩:=Cq X G d24 ["one"] fun _ _ _ _ _ _ us hl=>match us,hl with | [_],_=>rfl
  obtain⟨_,_,D25⟩:=Cq X G d25 ["_law_paper","_law_cell"] fun _ _ _ _ _ _ us hl=>match us,hl with | [_,_],_=>rfl
  obtain⟨_,_,D26⟩:=Cq X G d26 ["thing"] fun _ _ _ _ _ _ us hl=>match us,hl with | [_],_=>rfl
  obtain⟨_,_,D27⟩:=Cq X G d27 ["thing"] fun _ _ _ _ _ _ us hl=>match us,hl with | [_],_=>rfl
  obtain⟨_,_,D28⟩:=Cq X G d28 ["one","other"] fun _ _ _ _ _ _ us hl=>match us,hl with | [_,_],_=>rfl
  obtain⟨_,_,D29⟩:=Cq X G d29 ["d","pair"] fun _ _ _ _ _ _ us hl=>match us,hl with | [_,_],_=>rfl
  obtain⟨_,_,D30⟩:=Cq X G d30 ["one","paper"] fun _ _ _ _ _ _ us hl=>match us,hl with | [_,_],_=>rfl
  obtain⟨_,_,D31⟩:=Cq X G d31 ["_law_one","_law_paper"] fun _ _ _ _ _ _ us hl=>match us,hl with | [_,_],_=>rfl
  obtain⟨_,_,D32⟩:=Cq X G d32 ["_law_paper","_law_cell"] fun _ _ _ _ _ _ us hl=>match us,hl with | [_,_],_=>rfl
  obtain⟨_,_,D33⟩:=Cq X G d33 ["_law_thing"] fun _ _ _ _ _ _ us hl=>match us,hl with | [_],_=>rfl
  obtain⟨_,_,D34⟩:=Cq X G d34 ["_law_d","_law_pair"] fun _ _ _ _ _ _ us hl=>match us,hl with | [_,_],_=>rfl
  obtain⟨_,_,D35⟩:=Cq X G d35 ["_law_one","_law_paper"] fun _ _ _ _ _ _ us hl=>match us,hl with | [_,_],_=>rfl
  have F36:=Zf (st:=Qk) l36 c36 k36
  have D36:Df K mg "law" Qk ["_law_script"] _ _:=⟨F36,F36.binds (ps:=["_law_script"]) fun _ _ _ _ _ _ us hl=>match us,hl with | [_],_=>rfl,PySem.W.mg_of X G a36⟩
  refine⟨PySem.W.fnOf "law" "law" (Jr Qk) (Hg Qk) (Ag Qk) .none kV dc pm an cd ct,fun s v=> .of_eq rfl,fun base _ _=> ?_⟩
  have C_divisor:=Um (P:=l.prog) (w:=w) (base:=base) D1 z_abs
  have C_fraction:=S7 (P:=l.prog) (w:=w) (base:=base) D2 C_divisor
  have C_plus:=Abp (P:=l.prog) (w:=w) (base:=base) D3 C_fraction
  have C_roots_in:=Ss (P:=l.prog) (w:=w) (base:=base) D4
  have CE_added_up:=R7 (P:=l.prog) (w:=w) (base:=base) D5 z_tuple z_len z_sorted xc_MOST_ROOTS xc_GREATEST xk_TooGreat xm_TooGreat C_plus C_roots_in
  have C_added_up:=CE_added_up.calm (O6 K)
  have C_root_floor:=Oh (P:=l.prog) (w:=w) (base:=base) D6 z_range
  have C_square_in:=Qh (P:=l.prog) (w:=w) (base:=base) D7 C_root_floor
  have C_times:=Yc (P:=l.prog) (w:=w) (base:=base) D8 C_fraction
  have C_root_sum:=R4 (P:=l.prog) (w:=w) (base:=base) D9 C_added_up C_square_in C_times
  have C_q_cell_at:=Qp (P:=l.prog) (w:=w) (base:=base) D10 z_len
  have C_minus:=Y0 (P:=l.prog) (w:=w) (base:=base) D11 C_fraction
  have CE_s_minus:=Us (P:=l.prog) (w:=w) (base:=base) D12 z_tuple CE_added_up C_minus
  have C_s_minus:=CE_s_minus.calm (Ph K)
  have CE_s_plus:=Vw (P:=l.prog) (w:=w) (base:=base) D13 CE_added_up
  have C_s_plus:=CE_s_plus.calm (Ro K)
  have C_q_scaled:=Q8 (P:=l.prog) (w:=w) (base:=base) D14 C_root_floor
  have C_q_sum:=X7 (P:=l.prog) (w:=w) (base:=base) D15 z_range C_root_sum C_q_cell_at C_s_minus C_fraction C_s_plus C_q_scaled
  have C_q_due:=Ym (P:=l.prog) (w:=w) (base:=base) D16 C_q_scaled
  have C_over:=Abl (P:=l.prog) (w:=w) (base:=base) D17 C_fraction
  have C_pairs_at:=Sg (P:=l.prog) (w:=w) (base:=base) D18 z_tuple C_roots_in C_root_floor C_over
  have C_sign_of_whole:=Ml (P:=l.prog) (w:=w) (base:=base) D19
  have C_sign:=Abo (P:=l.prog) (w:=w) (base:=base) D20 C_sign_of_whole
  have C_ends:=Aac (P:=l.prog) (w:=w) (base:=base) D21 z_zip z_list z_len C_plus C_times C_sign
  have C_sign_shown:=Ox (P:=l.prog) (w:=w) (base:=base) D22 C_ends C_sign
  have C_s_paper:=U6 (P:=l.prog) (w:=w) (base:=base) D23 C_pairs_at C_sign_shown
  have C_s_sign:=W3 (P:=l.prog) (w:=w) (base:=base) D24 C_s_paper
  have C_q_turned:=Rv (P:=l.prog) (w:=w) (base:=base) D25 z_max z_len C_fraction C_plus
  have C_is_whole:=Ry (P:=l.prog) (w:=w) (base:=base) D26 z_isinstance z_int z_bool
  have C_is_fraction:=Nv (P:=l.prog) (w:=w) (base:=base) D27 z_isinstance z_tuple z_len C_is_whole C_divisor
  have C_less:=Aa5 (P:=l.prog) (w:=w) (base:=base) D28
  have C_is_bound:=Rk (P:=l.prog) (w:=w) (base:=base) D29 z_isinstance z_tuple z_len C_is_fraction C_sign C_less C_times
  have C_s_right:=Uu (P:=l.prog) (w:=w) (base:=base) D30 z_all z_isinstance z_tuple z_len z_zip C_sign_shown C_is_whole C_roots_in C_is_bound
  have C_q_told:=Xo (P:=l.prog) (w:=w) (base:=base) D31 z_isinstance z_bool C_s_right
  have C_q_wide:=Wd (P:=l.prog) (w:=w) (base:=base) D32 z_tuple z_min C_fraction C_plus
  have C_q_is_fraction:=Mh (P:=l.prog) (w:=w) (base:=base) D33 z_isinstance z_bool z_tuple z_len z_int C_fraction
  have C_q_is_pair:=Qw (P:=l.prog) (w:=w) (base:=base) D34 z_isinstance z_tuple z_len C_q_is_fraction
  have C_q_paper_due:=Nx (P:=l.prog) (w:=w) (base:=base) D35 z_enumerate z_isinstance z_bool z_int z_tuple z_len z_list z_range C_plus C_times C_q_is_pair
  exact Acl (P:=l.prog) (w:=w) (base:=base) D36 z_range z_isinstance z_bool z_list C_q_sum C_q_due C_s_paper C_s_sign C_q_turned C_q_told C_q_cell_at C_q_wide C_q_paper_due
theorem walk {l:PySem.W.OpenLaw}{q:Program}{loose:List Str}{XP:(Str->Option Value)->Heap->Prop}{YP:World->Heap->Prop}{d:DefRec}{K:Params->PySem.W.Frag} (hn:l.most=some 63) (hdf:d.params.defaults=[])
    (hY:∀(w:World) (h:Heap),YP w h->(K w.params).In h)
    (F:∀(w:World) (mg:Str->Option Value) (fa:Addr) (h:Heap),(K w.params).In h->h.Ns mainGlobals mg->mg d.name=some (.ref fa)->
      ∃fd:FuncData,(∀(s:Shared) (u:Value),BindsTo s fd ⟨[u],[]⟩ [("_law_script",u)])/\∀base:Heap,(K w.params).In base->base.Ns mainGlobals mg->Oe l.prog w (K w.params) mg base CX0 8 fa fd ["_law_script"] (Yp (K w.params))):
    PySem.W.WalkO q loose XP YP l.row.toRowW d [] (fun f vs=>PySem.call f vs):=
  L2.W5 (n:=63) (k:=8) (x:="_law_script") (CX:=fun _=>CX0) (sp:=fun w=>Yp (K w.params)) hn (by decide) hdf ⟨rfl,by decide,by decide⟩ hY F (fun _ _ a ns hl _ hS=>⟨a,ns,rfl,hS,hl,fun _=>rfl⟩) fun _ _ _ _ _ z=>z
end Z
namespace PySem.W.Fast
def tw10076740182454446264:=()
def tw10118032596212457842:=()
def tw10241771166135849211:=()
def tw10256787526927509888:=()
def tw10290128628382277342:=()
def tw10359620175172498979:=()
def tw10363422468938305124:=()
def tw10410379259826046501:=()
def tw10603165268407804491:=()
def tw10650088210254051456:=()
def tw10669919778602680841:=()
def tw10695736054259268730:=()
def tw10700291187698197225:=()
def tw10761267475076247627:=()
def tw10831804378013379335:=()
def tw10850817681698354602:=()
def tw11035530620826015450:=()
def tw11135275614365340839:=()
def tw11242125273611976258:=()
def tw11311231512102416373:=()
def tw11335732472166943329:=()
def tw11511143313130175755:=()
def tw1152812486152262564:=()
def tw11540252787812350142:=()
def tw11631724307149676110:=()
def tw11659115887623518007:=()
def tw1181343081944162430:=()
def tw11831989351284971867:=()
def tw11889922827048667439:=()
def tw11907765938814538335:=()
def tw11941995840542191695:=()
def tw11961228737957385639:=()
def tw11985300858887116538:=()
def tw12026898798619238880:=()
def tw12028015577780964852:=()
def tw12047406373230897072:=()
def tw12047866599270918260:=()
def tw12182568011591453566:=()
def tw12240289243175076590:=()
def tw12243705275351624533:=()
def tw1235138776868572232:=()
def tw12386057333154919743:=()
def tw12509345797298507465:=()
def tw12529470833957075225:=()
def tw12769957518690794785:=()
def tw12838533789694317530:=()
def tw12891691143672034221:=()
def tw12948951790712438949:=()
def tw12979739963821372183:=()
def tw13040434505202518307:=()
def tw13152353969449506544:=()
def tw13231233787462304476:=()
def tw13245155831817182838:=()
def tw13339232853593935972:=()
def tw13341279863380451341:=()
def tw13391680309212203577:=()
def tw1339170498903763638:=()
def tw13419544859763735884:=()
def tw13453095943304721776:=()
def tw13458060168628761976:=()
def tw13492501494952993539:=()
def tw13637640315307545408:=()
def tw13655076886368573456:=()
def tw13671138036328369785:=()
def tw13714845186974127315:=()
def tw13722849096492941941:=()
def tw14011382794765585379:=()
def tw14030546701233849342:=()
def tw14149616636192517713:=()
def tw1429859667204840501:=()
def tw14304662242458261964:=()
def tw14367468576351683125:=()
def tw14382524448995368716:=()
def tw14389287803116982307:=()
def tw14429423567761586762:=()
def tw14540159075638343779:=()
def tw14647711069679145912:=()
def tw14806578838879534649:=()
def tw14827345683818286878:=()
def tw14899507013913917308:=()
def tw15043394341605633313:=()
def tw15074463346678683901:=()
def tw15117918016636528333:=()
def tw15147848761382429004:=()
def tw15190134458567249278:=()
def tw151919333319597059:=()
def tw15265829134239097918:=()
def tw15282459567695482224:=()
def tw15508998928504817316:=()
def tw155968234884572533:=()
def tw15610201475874849733:=()
def tw15691108076855197637:=()
def tw1591706703763749674:=()
def tw15929120141558176977:=()
def tw15978954888586093419:=()
def tw16011883357203814259:=()
def tw1605836438906573781:=()
def tw16103773959457088604:=()
def tw16104676808022673666:=()
def tw1638213716529235866:=()
def tw16394533128452509409:=()
def tw16434409991719099305:=()
def tw164640130360968477:=()
def tw16514830747806829833:=()
def tw16593189554845641874:=()
def tw16668194171865654251:=()
def tw16684656962101471522:=()
def tw16738290162063465492:=()
def tw16840741423743036079:=()
def tw16935340947035224614:=()
def tw16964082574383574816:=()
def tw16991338254527522790:=()
def tw17055797091738025652:=()
def tw17115946480801003103:=()
def tw17157099358455732378:=()
def tw17168857268099789461:=()
def tw17169581214175646445:=()
def tw17362322159490053552:=()
def tw17399965919602465595:=()
def tw1742449905847304790:=()
def tw17523190457060352138:=()
def tw17593502608906929385:=()
def tw17595129433322494831:=()
def tw17780385637619032882:=()
def tw17781044700152224654:=()
def tw17853159004084777743:=()
def tw17953495673924182455:=()
def tw17988854516834248313:=()
def tw18023372353650203190:=()
def tw18024364139208998741:=()
def tw18087120474825664499:=()
def tw18123287560326296700:=()
def tw18216257537223890921:=()
def tw18326610257379346534:=()
def tw18445624500173990572:=()
def tw208632649794150276:=()
def tw2128004311209790296:=()
def tw229011727871462398:=()
def tw2317718116956751871:=()
def tw2378590146423374017:=()
def tw2433196430243231142:=()
def tw2530099117116663301:=()
def tw2565988319167677063:=()
def tw2595224163686648925:=()
def tw2612360179863245588:=()
def tw2640008665129789539:=()
def tw2693867711648116323:=()
def tw2786905837049185927:=()
def tw2799350517111277269:=()
def tw2872867912842857735:=()
def tw2888672421338117916:=()
def tw2911461830496110441:=()
def tw2982338930335652064:=()
def tw2985636525157143948:=()
def tw305709061582441781:=()
def tw306287501326476460:=()
def tw3132214920475282054:=()
def tw316504913857896880:=()
def tw3197203035154170414:=()
def tw3203974489480755082:=()
def tw3240414850376007755:=()
def tw326586343520014797:=()
def tw3286996109685677376:=()
def tw3329200772194953918:=()
def tw342228822058072789:=()
def tw3464868973097142350:=()
def tw3468738805537156678:=()
def tw3583998016185389392:=()
def tw3657214663734728084:=()
def tw3658217555529924722:=()
def tw365889587997677627:=()
def tw379005597166677122:=()
def tw4016540175217452805:=()
def tw4029775075432980652:=()
def tw4124408376644967463:=()
def tw4127976827165365428:=()
def tw4237648950907732469:=()
def tw4313562870584631927:=()
def tw4462846988511880128:=()
def tw4504428948439128931:=()
def tw4603918052483059945:=()
def tw4817986091623153223:=()
def tw4870851158567533648:=()
def tw4880393062665195721:=()
def tw4994730204509540794:=()
def tw5044672919215479427:=()
def tw510881901673064828:=()
def tw5122721068217387741:=()
def tw5144675115145085712:=()
def tw5295500205690345710:=()
def tw533062589420037005:=()
def tw5346502849043269399:=()
def tw5357738159090546133:=()
def tw5371286038766832126:=()
def tw5513579772601706978:=()
def tw5527120740605796113:=()
def tw5553524108935406484:=()
def tw5584888096401620852:=()
def tw5619921006784547491:=()
def tw5773318696282202726:=()
def tw5817235228449017386:=()
def tw5871343316888022452:=()
def tw5893086249676125608:=()
def tw5999887974177993938:=()
def tw6013511895587223243:=()
def tw6102885631353018504:=()
def tw6222968040212587351:=()
def tw6357914206170383342:=()
def tw6405240099890406264:=()
def tw6562270818344049981:=()
def tw6572740418686754157:=()
def tw6586092365478216194:=()
def tw6644566159043509752:=()
def tw6697125992727153754:=()
def tw6729527402484966265:=()
def tw6809183603615720179:=()
def tw6995812791567741271:=()
def tw7159068267346387002:=()
def tw7237382509510183983:=()
def tw7316485367315697476:=()
def tw7380937728523037239:=()
def tw742351305888138484:=()
def tw7431871067652953602:=()
def tw7447504908334555619:=()
def tw7464015114768603232:=()
def tw7530070666321961644:=()
def tw7630640873512471272:=()
def tw768548783343307817:=()
def tw7786247779985970950:=()
def tw7801934193318938477:=()
def tw7830555327178116397:=()
def tw8004821871399558874:=()
def tw8030120110246968573:=()
def tw8129284420751513566:=()
def tw8219487858295119709:=()
def tw8236643671009392244:=()
def tw8250673328101542899:=()
def tw8258915285846946191:=()
def tw8304751758614676034:=()
def tw8406391431796769840:=()
def tw8457850391378317372:=()
def tw8686573209346764702:=()
def tw8795225347650323829:=()
def tw8796184892734334995:=()
def tw8804205920675454980:=()
def tw8964375489069637062:=()
def tw900240949116571069:=()
def tw9020705369030243245:=()
def tw9021986979208038453:=()
def tw9165073123255903664:=()
def tw9216489489830829144:=()
def tw924927630593273536:=()
def tw9307124044994381316:=()
def tw9449955305559714514:=()
def tw9614413083672767276:=()
def tw9626638121329529219:=()
def tw9630408465607411163:=()
def tw964166021809361584:=()
def tw9659713807248421564:=()
def tw9696092299017118248:=()
def tw9701313320683004772:=()
def tw9774160658607484694:=()
def tw9781041278683539327:=()
def tw9818439217255993783:=()
def tw995999304497705004:=()
end PySem.W.Fast
open PySem PySem.W PyProof.Rows
set_option maxRecDepth 100000 in
set_option maxHeartbeats 0 in
theorem PySem.Challenge.cw_rootcourt_k66_signs_of_root_sums_holds : PySem.Challenge.rw_rootcourt_k66_signs_of_root_sums.Holds := by
  w_on;o_law;k_head;(case hw=>w_witness2)
  k_fill
  refine Z.walk (l:=PySem.Challenge.rw_rootcourt_k66_signs_of_root_sums) rfl rfl (fun w h Y=>PySem.W.kIn_of Y) ?F
  case F=>
    intro w mg fa h KX G hmg
    refine' Z.all_mk KX G hmg ?d1 ?d2 ?d3 ?d4 ?d5 ?d6 ?d7 ?d8 ?d9 ?d10 ?d11 ?d12 ?d13 ?d14 ?d15 ?d16 ?d17 ?d18 ?d19 ?d20 ?d21 ?d22 ?d23 ?d24 ?d25 ?d26 ?d27 ?d28 ?d29 ?d30 ?d31 ?d32 ?d33 ?d34 ?d35 ?d36 ?aTooGreat ?xcMOST_ROOTS ?xcGREATEST ?xkTooGreat ?zabs ?ztuple ?zlen ?zsorted ?zrange ?zzip ?zlist ?zmax ?zisinstance ?zint ?zbool ?zall ?zmin ?zenumerate
    (case aTooGreat=>k_is);(case xcMOST_ROOTS=>k_is);(case xcGREATEST=>k_is);(case xkTooGreat=>k_exc)
    all_goals first | k_is | exact⟨_,_,_,_,_,_,_,_,_,_,by k_is,by k_is,by k_is,by k_is⟩
