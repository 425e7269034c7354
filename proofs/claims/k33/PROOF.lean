import PyProof.Rows.All
import Wide.All
import OpenK.AllK
import Wide.FinOn
import Lean
import PyProof.EqAt
import PyProof.EqKinds
import PyProof.TupleCall
import PySem.Challenge.RW_rootcourt_k33_forms_made
set_option maxHeartbeats 4000000
set_option Elab.async false
set_option linter.all false
set_option maxRecDepth 100000
namespace L2
open PySem PySem.Spec PyProof.Rows
abbrev Key:=Sum Int Str
def Rq:Key->Value->Bool
  | .inl k,v=>Value.isInt k v
  | .inr x,v=>Value.isStrOf x v
def Aex (w:World):Key->Int
  | .inl k=>hashInt k
  | .inr x=>hashStr w x
theorem Bp:∀ {k:Key}{v:Value},Rq k v=true->(∃i t,k=Sum.inl i/\v=Value.int i t)\/(∃x t,k=Sum.inr x/\v=Value.str x t)
  | .inl i,v,h=>by
    obtain⟨t,e⟩:=Value.isInt_shape (k:=i) (v:=v) h
    exact .inl ⟨i,t,rfl,e⟩
  | .inr x,v,h=>by
    obtain⟨t,e⟩:=Value.isStrOf_shape (x:=x) (v:=v) h
    exact .inr ⟨x,t,rfl,e⟩
theorem Sg (i:Int) (t:Tok):Rq (.inl i) (.int i t)=true:=by simp [Rq,Value.isInt]
theorem Tg (x:Str) (t:Tok):Rq (.inr x) (.str x t)=true:=by simp [Rq,Value.isStrOf]
theorem Abr (a b:Int):decide ((Sum.inl a:Key)=Sum.inl b)=(a==b):=by
  by_cases e:a=b
  . subst e;simp
  . have h:¬(Sum.inl a:Key)=Sum.inl b:=fun q=>e (Sum.inl.inj q)
    rw [decide_eq_false h]
    exact(beq_eq_false_iff_ne.mpr e).symm
theorem Ab7 (a b:Str):decide ((Sum.inr a:Key)=Sum.inr b)=decide (a=b):=by
  by_cases e:a=b
  . subst e;simp
  . have h:¬(Sum.inr a:Key)=Sum.inr b:=fun q=>e (Sum.inr.inj q)
    rw [decide_eq_false h,decide_eq_false e]
theorem Ace (a:Int) (b:Str):decide ((Sum.inl a:Key)=Sum.inr b)=false:=decide_eq_false (fun q=>nomatch q)
theorem Aby (a:Str) (b:Int):decide ((Sum.inr a:Key)=Sum.inl b)=false:=decide_eq_false (fun q=>nomatch q)
def Bq (prog:Program) (w:World):PySem.KeyKind prog w Key where
  is:=Rq
  hash:=Aex w
  inj:=fun v a b ha hb=>by
    rcases Bp ha with⟨i,t,rfl,rfl⟩ | ⟨x,t,rfl,rfl⟩
    . rcases Bp hb with⟨j,u,rfl,e⟩ | ⟨y,u,rfl,e⟩
      . injection e with e1 _;rw [e1]
      . exact nomatch e
    . rcases Bp hb with⟨j,u,rfl,e⟩ | ⟨y,u,rfl,e⟩
      . exact nomatch e
      . injection e with e1 _;rw [e1]
  byValue:=fun k v h=>by
    rcases Bp h with⟨i,t,rfl,rfl⟩ | ⟨x,t,rfl,rfl⟩<;>rfl
  pyHash:=fun hv h=>by
    rcases Bp hv with⟨i,t,rfl,rfl⟩ | ⟨x,t,rfl,rfl⟩
    . exact wpAny_pyHash_int h
    . exact wpAny_pyHash_str h
  eqBool:=fun hu hv h=>by
    rcases Bp hu with⟨i,t,rfl,rfl⟩ | ⟨x,t,rfl,rfl⟩
    . rcases Bp hv with⟨j,u,rfl,rfl⟩ | ⟨y,u,rfl,rfl⟩
      . rw [Abr]at h;exact wpAny_eqBool_int h
      . rw [Ace]at h;exact SeqAt.EqAt.int_str i t y u _ _ _ _ h
    . rcases Bp hv with⟨j,u,rfl,rfl⟩ | ⟨y,u,rfl,rfl⟩
      . rw [Aby]at h;exact SeqAt.EqAt.str_int x t j u _ _ _ _ h
      . rw [Ab7]at h;exact wpAny_eqBool_str h
  «strs» :=fun k x t v h=>by
    rcases Bp h with⟨i,u,rfl,e⟩ | ⟨y,u,rfl,e⟩
    . exact nomatch e
    . injection e with e1 _
      subst e1
      cases v<;>rfl
theorem Oc (prog:Program) (w:World) (i:Int) (t:Tok):(Bq prog w).is (.inl i) (.int i t)=true:=Sg i t
theorem Oo (prog:Program) (w:World) (x:Str) (t:Tok):(Bq prog w).is (.inr x) (.str x t)=true:=Tg x t
end L2
namespace L2
open PySem PySem.Spec PyProof.Rows
inductive V where
  | non | bl (b:Bool) | int (i:Int) | str (x:Str) | byt (b:Array UInt8) | flt (b:UInt64) | ref (a:Addr) | ty (n:String)
  deriving DecidableEq
def RelV:V->Value->Prop
  | .non,u=>u=Value.none
  | .bl b,u=>u=Value.bool b
  | .int i,u=>∃t,u=Value.int i t
  | .str x,u=>∃t,u=Value.str x t
  | .byt b,u=>∃t,u=Value.bytes b t
  | .flt b,u=>∃t,u=Value.float b t
  | .ref a,u=>u=Value.ref a
  | .ty n,u=>u=Value.type n
abbrev Vals:List V->List Value->Prop:=Paired RelV
theorem Vals.length {xs:List V}{us:List Value} (r:Vals xs us):xs.length=us.length:=Paired.length r
theorem Vals.get:∀ {xs:List V}{us:List Value}{i:Nat}{x:V},Vals xs us->xs[i]? =some x->∃u,us[i]? =some u/\RelV x u
  | _,_,_,_,.nil,e=>by simp at e
  | _,_,0,_,.cons r _,e=>by simp at e;subst e;exact⟨_,rfl,r⟩
  | _,_,i+1,x,.cons _ t,e=>by
    obtain⟨u,h1,h2⟩:=Vals.get (i:=i) (x:=x) t (by simpa using e)
    exact⟨u,by simpa using h1,h2⟩
theorem Vals.set {x:V}{u:Value} (r:RelV x u):∀ {xs:List V}{us:List Value} (i:Nat),Vals xs us->Vals (xs.set i x) (us.set i u)
  | _,_,_,.nil=> .nil
  | _,_,0,.cons _ t=> .cons r t
  | _,_,i+1,.cons q t=> .cons q (Vals.set r i t)
theorem Vals.append:∀ {xs ys:List V}{us ws:List Value},Vals xs us->Vals ys ws->Vals (xs++ys) (us++ws)
  | _,_,_,_,.nil,s=>s
  | _,_,_,_,.cons r t,s=> .cons r (Vals.append t s)
theorem Vals.take:∀ {xs:List V}{us:List Value} (n:Nat),Vals xs us->Vals (xs.take n) (us.take n)
  | _,_,0,_=> .nil
  | _,_,_+1,.nil=> .nil
  | _,_,n+1,.cons r t=> .cons r (Vals.take n t)
theorem Vals.drop:∀ {xs:List V}{us:List Value} (n:Nat),Vals xs us->Vals (xs.drop n) (us.drop n)
  | _,_,0,r=>r
  | _,_,_+1,.nil=> .nil
  | _,_,n+1,.cons _ t=>Vals.drop n t
def Q6:Option V->Option Value->Prop
  | some v,some u=>RelV v u
  | none,none=>True
  | _,_=>False
def KV {κ:Type}:List (κ × V)->List (κ × Value)->Prop:=Paired fun(p:κ × V) (q:κ × Value)=>p.1=q.1/\RelV p.2 q.2
def kV:Key->V
  | .inl i=> .int i
  | .inr x=> .str x
inductive HO where
  | lst (xs:List V)
  | tup (xs:List V)
  | dK (kvs:List (Key × V)) | dT (kvs:List (List Key × V))
  | set (S:Int->Bool) (n:Nat)
  | ins (C dx:Addr) (fs:List (Str × V))
  | own (x:Addr)
  | xd (fs:List (Str × V))
  | met (f x:Addr)
  | rng (lo hi:Int)
  | frz (o:Obj) (u:HO)
  | tbl (ps:Array Value)
  | ext (φ:Heap->Prop)
abbrev Hp:=Addr->Option HO
def upd (H:Hp) (a:Addr) (o:HO):Hp:=fun b=>if b=a then some o else H b
theorem Ae {H:Hp}{a:Addr}{o:HO}:upd H a o a=some o:=by unfold upd;rw [if_pos rfl]
theorem Av {H:Hp}{a b:Addr}{o:HO} (h:b≠a):upd H a o b=H b:=by unfold upd;rw [if_neg h]
theorem Fi {H:Hp}{a b:Addr}{o u:HO} (h:H a=some o) (h':H b=some u) (d:o≠u):a≠b:=by
  intro e;subst e;rw [h]at h';exact d (Option.some.inj h')
theorem Ar {H:Hp}{a b:Addr}{o:HO} (h:H a=some o) (h':H b=none):a≠b:=by
  intro e;subst e;rw [h]at h';cases h'
section
variable (P:Program) (w:World)
def Bs (H:Hp) (h:Heap) (a:Addr):HO->Prop
  | .lst xs=>xs.length<=sizeLine/\∃(its:List Value) (n:Nat),Vals xs its/\h.get? a=some { cls:= .type "list",data:= .seq its.toArray n}
  | .tup xs=>xs.length<=sizeLine/\∃its:List Value,Vals xs its/\IsTup h a its.toArray
  | .dK kvs=>kvs.length<=sizeLine/\(a==sysModules)=false/\∃vs,KV kvs vs/\h.DictOf (Bq P w) a vs
  | .dT kvs=>kvs.length<=sizeLine/\(a==sysModules)=false/\∃xs:List (List Key × Addr × Value),
      Paired (fun(p:List Key × V) (q:List Key × Addr × Value)=>p.1=q.1/\H q.2.1=some (.tup (p.1.map kV))/\RelV p.2 q.2.2) kvs xs/\
      ∃o es ep,h.get? a=some o/\o.ExactDict/\o.data= .dict es ep/\es.toList=xs.map (entryOfKey (tupleKind (Bq P w)))/\(xs.map (·.1)).Nodup
  | .set S n=>h.SetOf (intKind P w) a S n
  | .ins C dx fs=>H dx=some (.own a)/\fs.length<=1000/\dx≠a/\h.get? a=some (PySem.W.instObj C dx)/\
      ∃mA,h.Ns1 dx mA/\(∀f,Q6 (fs.lookup f) (mA f))/\PySem.Within mA (fs.map (·.1))
  | .own _=>∃o,h.get? a=some o
  | .xd fs=>∃mA,h.Ns1 a mA/\∀f,Q6 (fs.lookup f) (mA f)
  | .rng lo hi=>∃t u v,h.get? a=some { cls:= .type "range",data:= .fields #[.int lo t,.int hi u,.int 1 v]}
  | .frz o u=>h.get? a=some o/\Bs H h a u
  | .tbl ps=>h.get? a=some { cls:= .none,data:= .fields ps}
  | .met f x=>h.get? a=some (PySem.W.methodObj (.ref f) (.ref x))
  | .ext φ=>φ h/\(∃o,h.get? a=some o)/\∀h1 h2:Heap,φ h1->(∀o,h1.get? a=some o->h2.get? a=some o)->φ h2
def HOk (H:Hp) (h:Heap):Prop:=∀a o,H a=some o->Bs P w H h a o
end
section
variable {P:Program}{w:World}{H H':Hp}{h h':Heap}{a:Addr}{o:HO}
theorem Bs.lt (x:Bs P w H h a o):a<h.objs.size:=by
  cases o with
  | lst xs=>obtain⟨_,_,_,_,e⟩:=x;exact Heap.lt_size e
  | tup xs=>obtain⟨_,_,_,p⟩:=x;exact p.lt
  | dK kvs=>obtain⟨_,_,_,_,o,_,_,e,_⟩:=x;exact Heap.lt_size e
  | dT kvs=>obtain⟨_,_,_,_,o,_,_,e,_⟩:=x;exact Heap.lt_size e
  | set S n=>obtain⟨o,_,_,_,e,_⟩:=x;exact Heap.lt_size e
  | ins C dx fs=>obtain⟨_,_,_,e,_⟩:=x;exact Heap.lt_size e
  | own y=>obtain⟨_,e⟩:=x;exact Heap.lt_size e
  | xd fs=>obtain⟨_,⟨_,_,_,e,_⟩,_⟩:=x;exact Heap.lt_size e
  | rng lo hi=>obtain⟨_,_,_,e⟩:=x;exact Heap.lt_size e
  | frz ob u=>obtain⟨e,_⟩:=x;exact Heap.lt_size e
  | tbl ps=>exact Heap.lt_size (show h.get? a=some _ from x)
  | met f y=>exact Heap.lt_size (show h.get? a=some _ from x)
  | ext φ=>obtain⟨_,⟨_,e⟩,_⟩:=x;exact Heap.lt_size e
theorem Paired.mapP {α β:Type}{F G:α->β->Prop}:∀ {l₁:List α}{l₂:List β},Paired F l₁ l₂->(∀a b,F a b->G a b)->Paired G l₁ l₂
  | _,_,.nil,_=> .nil
  | _,_,.cons r t,f=> .cons (f _ _ r) (Paired.mapP t f)
theorem Bs.stay (x:Bs P w H h a o) (k:∀b u,(b=a\/H b=some (.own a))->h.get? b=some u->h'.get? b=some u)
    (ho:∀b,H b=some (.own a)->H' b=some (.own a)) (ht:∀b xs,H b=some (.tup xs)->H' b=some (.tup xs)):Bs P w H' h' a o:=by
  induction o with
  | lst xs=>obtain⟨z,its,n,r,e⟩:=x;exact⟨z,its,n,r,k _ _ (.inl rfl) e⟩
  | tup xs=>obtain⟨z,its,r,ob,e,c⟩:=x;exact⟨z,its,r,ob,k _ _ (.inl rfl) e,c⟩
  | dK kvs=>obtain⟨z,y,vs,r,ob,es,ep,e,c⟩:=x;exact⟨z,y,vs,r,ob,es,ep,k _ _ (.inl rfl) e,c⟩
  | dT kvs=>
    obtain⟨z,y,xs,r,ob,es,ep,e,c⟩:=x
    exact⟨z,y,xs,Paired.mapP r fun p q z=>⟨z.1,ht _ _ z.2.1,z.2.2⟩,ob,es,ep,k _ _ (.inl rfl) e,c⟩
  | set S n=>obtain⟨ob,es,ep,t,e,c⟩:=x;exact⟨ob,es,ep,t,k _ _ (.inl rfl) e,c⟩
  | ins C dx fs=>
    obtain⟨d,z,ne,e,mA,⟨od,es,ep,e2,c⟩,r⟩:=x
    exact⟨ho _ d,z,ne,k _ _ (.inl rfl) e,mA,⟨od,es,ep,k _ _ (.inr d) e2,c⟩,r⟩
  | own y=>obtain⟨ob,e⟩:=x;exact⟨ob,k _ _ (.inl rfl) e⟩
  | xd fs=>obtain⟨mA,⟨od,es,ep,e,c⟩,r⟩:=x;exact⟨mA,⟨od,es,ep,k _ _ (.inl rfl) e,c⟩,r⟩
  | rng lo hi=>obtain⟨t,u,v,e⟩:=x;exact⟨t,u,v,k _ _ (.inl rfl) e⟩
  | frz ob u ih=>obtain⟨e,q⟩:=x;exact⟨k _ _ (.inl rfl) e,ih q⟩
  | tbl ps=>
    have e:h.get? a=some { cls:= .none,data:= .fields ps}:=x
    show h'.get? a=some { cls:= .none,data:= .fields ps}
    exact k a _ (.inl rfl) e
  | met f y=>
    have e:h.get? a=some (PySem.W.methodObj (.ref f) (.ref y)):=x
    show h'.get? a=some (PySem.W.methodObj (.ref f) (.ref y))
    exact k a _ (.inl rfl) e
  | ext φ=>obtain⟨p,⟨o,e⟩,st⟩:=x;exact⟨st _ _ p fun o q=>k _ _ (.inl rfl) q,⟨o,k _ _ (.inl rfl) e⟩,st⟩
theorem HOk.lt (x:HOk P w H h) (e:H a=some o):a<h.objs.size:=(x a o e).lt
theorem HOk.fresh (x:HOk P w H h) (e:h.objs.size<=a):H a=none:=by
  cases q:H a with
  | none=>rfl
  | some u=>exact absurd (Nat.lt_of_lt_of_le (x.lt q) e) (Nat.lt_irrefl _)
theorem HOk.kept (x:HOk P w H h) (k:∀b u,h.get? b=some u->h'.get? b=some u):HOk P w H h':=fun a o e=>
  (x a o e).stay (fun b u _ q=>k b u q) (fun _ q=>q) fun _ _ q=>q
theorem HOk.laid (x:HOk P w H h) (k:∀b u,h.get? b=some u->h'.get? b=some u) (hp:h.objs.size<=a) (new:Bs P w (upd H a o) h' a o):HOk P w (upd H a o) h':=fun b u e=>by
  have hn:=x.fresh hp
  by_cases hb:b=a
  . subst hb;rw [Ae]at e;cases e;exact new
  . rw [Av hb]at e
    exact(x b u e).stay (fun c v _ q=>k c v q) (fun c q=>by rw [Av (Ar q hn)];exact q) fun c xs q=>by rw [Av (Ar q hn)];exact q
end
def Rd (H:Hp) (a:Addr) (u:HO):Prop:=H a=some u\/∃o,H a=some (.frz o u)
theorem Rd.of {H:Hp}{a:Addr}{u:HO} (h:H a=some u):Rd H a u:= .inl h
theorem Rd.ok {P:Program}{w:World}{H:Hp}{h:Heap}{a:Addr}{u:HO} (r:Rd H a u) (x:HOk P w H h):Bs P w H h a u:=by
  rcases r with r | ⟨o,r⟩
  . exact x a u r
  . obtain⟨_,q⟩:=x a _ r
    exact q
def Mut:Option HO->Prop
  | some (.lst _)=>True
  | some (.dK _)=>True
  | some (.dT _)=>True
  | some (.set _ _)=>True
  | some (.ins _ _ _)=>True
  | some (.ext _)=>True
  | _=>False
section
variable {P:Program}{w:World}{H:Hp}{h h':Heap}{x e:Addr}{o':HO}
theorem HOk.write (ok:HOk P w H h) (mu:Mut (H x)) (he:e=x\/H e=some (.own x)) (k:∀b u,b≠e->h.get? b=some u->h'.get? b=some u) (heo:∃u,h'.get? e=some u)
    (new:Bs P w (upd H x o') h' x o'):HOk P w (upd H x o') h':=fun b u q=>by
  have nown:∀c y,H c=some (.own y)->c≠x:=fun c y r z=>by subst z;rw [r]at mu;exact mu
  have ntup:∀c xs,H c=some (.tup xs)->c≠x:=fun c xs r z=>by subst z;rw [r]at mu;exact mu
  by_cases hb:b=x
  . subst hb;rw [Ae]at q;cases q;exact new
  . rw [Av hb]at q
    by_cases hbe:b=e
    . have q':H b=some (.own x):=by
        rcases he with z | z
        . exact absurd (hbe.trans z) hb
        . rw [hbe];exact z
      rw [q]at q';cases q'
      obtain⟨v,hv⟩:=heo
      exact⟨v,by rw [hbe];exact hv⟩
    . refine(ok b u q).stay (fun c v hc r=>k c v ?_ r) (fun c r=>by rw [Av (nown c b r)];exact r) fun c xs r=>by rw [Av (ntup c xs r)];exact r
      rcases hc with rfl | hc
      . exact hbe
      . rintro rfl
        rcases he with z | z
        . exact nown c b hc z
        . rw [hc]at z;cases z;exact hb rfl
end
structure Un (fs ex:List Addr) (H H':Hp) (h h':Heap):Prop where
  keep:∀b o,h.get? b=some o->H b=none->b∉fs->b∉ex->h'.get? b=some o
  slot:∀b o,h.get? b=some o->H b=none->b∈fs->b∉ex->∃sl,h'.get? b=some { o with slots:=sl}
  free:∀b o,h.get? b=some o->H b=none->b∉ex->H' b=none
  there:∀b o,h.get? b=some o->b∉ex->∃o',h'.get? b=some o'
  tups:∀b xs,H b=some (.tup xs)->H' b=some (.tup xs)
  frzs:∀b o u,H b=some (.frz o u)->H' b=some (.frz o u)
  tbls:∀b ps,H b=some (.tbl ps)->∃more,H' b=some (.tbl (ps++more))
section
variable {fs fs' ex ex':List Addr}{H H1 H2:Hp}{h h1 h2 h':Heap}{a x e:Addr}{o:HO}
theorem Un.any (u:Un fs ex H H1 h h1) {b:Addr}{ob:Obj} (q:h.get? b=some ob) (n:H b=none) (hx:b∉ex):∃sl,h1.get? b=some { ob with slots:=sl}:=by
  by_cases hb:b∈fs
  . exact u.slot b ob q n hb hx
  . exact⟨ob.slots,u.keep b ob q n hb hx⟩
theorem Un.trans (a:Un fs ex H H1 h h1) (b:Un fs ex H1 H2 h1 h2):Un fs ex H H2 h h2 where
  keep:=fun c ob q n hc hx=>b.keep c ob (a.keep c ob q n hc hx) (a.free c ob q n hx) hc hx
  slot:=fun c ob q n hc hx=>by
    obtain⟨sl,e1⟩:=a.slot c ob q n hc hx
    obtain⟨sl',e2⟩:=b.slot c _ e1 (a.free c ob q n hx) hc hx
    exact⟨sl',e2⟩
  free:=fun c ob q n hx=>by
    obtain⟨o',e1⟩:=a.there c ob q hx
    exact b.free c o' e1 (a.free c ob q n hx) hx
  there:=fun c ob q hx=>by
    obtain⟨o',e1⟩:=a.there c ob q hx
    exact b.there c o' e1 hx
  tups:=fun c xs q=>b.tups c xs (a.tups c xs q)
  frzs:=fun c ob xs q=>b.frzs c ob xs (a.frzs c ob xs q)
  tbls:=fun c ps q=>by
    obtain⟨m1,e1⟩:=a.tbls c ps q
    obtain⟨m2,e2⟩:=b.tbls c _ e1
    exact⟨m1++m2,by rw [e2,Array.append_assoc]⟩
theorem Un.kept (k:∀b u,h.get? b=some u->h'.get? b=some u):Un fs ex H H h h':=
  ⟨fun b ob q _ _ _=>k b ob q,fun b ob q _ _ _=>⟨ob.slots,k b ob q⟩,fun _ _ _ n _=>n,fun b ob q _=>⟨ob,k b ob q⟩,fun _ _ q=>q,fun _ _ _ q=>q,fun _ ps q=>⟨#[],by rw [q];simp⟩⟩
theorem Un.refl:Un fs ex H H h h:=Un.kept fun _ _ q=>q
theorem Un.laid (k:∀b u,h.get? b=some u->h'.get? b=some u) (hp:h.objs.size<=a) (hn:H a=none):Un fs ex H (upd H a o) h h' where
  keep:=fun b u q _ _ _=>k b u q
  slot:=fun b u q _ _ _=>⟨u.slots,k b u q⟩
  free:=fun b u q n _=>by rw [Av (Nat.ne_of_lt (Nat.lt_of_lt_of_le (Heap.lt_size q) hp))];exact n
  there:=fun b u q _=>⟨u,k b u q⟩
  tups:=fun b xs q=>by rw [Av (Ar q hn)];exact q
  frzs:=fun b u xs q=>by rw [Av (Ar q hn)];exact q
  tbls:=fun b ps q=>⟨#[],by rw [Av (Ar q hn),q];simp⟩
theorem Un.write (mu:Mut (H x)) (he:e=x\/H e=some (.own x)) (k:∀b u,b≠e->h.get? b=some u->h'.get? b=some u) (heo:∃u,h'.get? e=some u):Un fs ex H (upd H x o) h h':=by
  have hx:∀b,H b=none->b≠x:=fun b n z=>by subst z;rw [n]at mu;exact mu
  have hb:∀b,H b=none->b≠e:=fun b n z=>by
    subst z
    rcases he with r | r
    . exact hx b n r
    . rw [n]at r;cases r
  have hm:∀b u,H b=some u->¬Mut (some u)->b≠x:=fun b u q nm z=>by subst z;rw [q]at mu;exact nm mu
  refine⟨fun b u q n _ _=>k b u (hb b n) q,fun b u q n _ _=>⟨u.slots,k b u (hb b n) q⟩,fun b u q n _=>by rw [Av (hx b n)];exact n,fun b u q _=> ?_,
    fun b xs q=>by rw [Av (hm b _ q fun z=>z)];exact q,fun b u xs q=>by rw [Av (hm b _ q fun z=>z)];exact q,fun b ps q=>⟨#[],by rw [Av (hm b _ q fun z=>z),q];simp⟩⟩
  by_cases hbe:b=e
  . subst hbe;exact heo
  . exact⟨u,k b u hbe q⟩
theorem Un.mono (u:Un fs ex H H1 h h1) (hs:∀b∈fs,b∈fs') (hx:∀b∈ex,b∈ex'):Un fs' ex' H H1 h h1:=
  ⟨fun b ob q n hb he=>u.keep b ob q n (fun z=>hb (hs b z)) fun z=>he (hx b z),fun _ _ q n _ he=>u.any q n fun z=>he (hx _ z),fun b ob q n he=>u.free b ob q n fun z=>he (hx b z),fun b ob q he=>u.there b ob q fun z=>he (hx b z),u.tups,u.frzs,u.tbls⟩
end
def trk (h:Heap) (H:Hp):List Addr:=(List.range h.objs.size).filter fun a=>(H a).isSome
def Wz (h:Heap) (H:Hp):Heap:=PySem.W.hideAll h (trk h H)
theorem Vh (h:Heap) (H:Hp):(Wz h H).objs.size=h.objs.size:=PySem.W.hideAll_size _ _
theorem W3 {h:Heap}{H:Hp}{b:Addr}{o:Obj} (e:h.get? b=some o) (n:H b=none):(Wz h H).get? b=some o:=
  PySem.W.hideAll_get _ e fun hm=>by
    have q:(H b).isSome=true:=(List.mem_filter.mp hm).2
    rw [n]at q;simp at q
theorem Aav {h:Heap}{H:Hp}{b:Addr}{o:Obj} (e:(Wz h H).get? b=some o):h.get? b=some o/\H b=none:=by
  have e':h.get? b=some o:=PySem.W.of_hideAll (trk h H) e
  refine⟨e',?_⟩
  cases q:H b with
  | none=>rfl
  | some x=>
    have hm:b∈trk h H:=List.mem_filter.mpr ⟨List.mem_range.mpr (Heap.lt_size e'),by simp [q]⟩
    have z:(Wz h H).get? b=none:=PySem.W.hideAll_none (trk h H) hm
    rw [z]at e;cases e
def Zr (g h:Heap) (L:Addr):List (Addr × Obj):=(List.range h.objs.size).filterMap fun a=>if a=L\/(g.get? a).isSome=true then none else(h.get? a).map fun o=>(a,o)
def rest (g h:Heap) (L d:Addr):List (Addr × Obj):=(Zr g h L).filter fun p=>decide (p.1≠d)
end L2
namespace L2
open PySem PySem.Spec PyProof.Rows
structure Mod (K:PySem.W.Frag) (mg:Str->Option Value) (base:Heap):Prop where
  kin:K.In base
  glob:base.Ns mainGlobals mg
  blt:∃mb,base.Ns builtinsNs mb/\∀x:Str,x≠"__name__"->mb x=bootBuiltins x
  nolimit:base.NoLimit
structure Cx where
  prog:Program
  w:World
  K:PySem.W.Frag
  mg:Str->Option Value
  base:Heap
  A:Around
  N:List Str
  s₀:Shared
  H₀:Hp
  env:Env
  outer:List Env
  stack:List Env
  ex:List Addr
  fn:Str->Bool
  calm:Bool
  pn:List (Addr × Obj)
  xe:Value->Shared->Prop
def frs (l:List Env):List Addr:=l.filterMap (·.frame)
abbrev Cx.fs (X:Cx):List Addr:=frs X.outer
def Vis (sc:Scope) (x:Str):Prop:=sc.names.lookup x=some .local \/sc.names.lookup x=some .cell\/sc.names.lookup x=some .free
def Loc (sc:Scope) (x:Str):Prop:=sc.names.lookup x=some .local \/sc.names.lookup x=some .cell
def Look (env:Env) (h:Heap) (m:Str->Option Value) (x:Str) (u:Value):Prop:=
  (env.kindOf x=some .local /\m x=some u)\/((env.kindOf x=some .cell\/env.kindOf x=some .free)/\∃c,env.cells.lookup x=some c/\h.IsCell c (some u))
structure Cx.Ok (X:Cx):Prop where
  mod:Mod X.K X.mg X.base
  kind:X.env.scope.kind= .function
  glob:X.env.globals=mainGlobals
  blt:X.env.builtins=builtinsNs
  above:X.s₀.heap.objs.size<=X.env.locals
  inj:∀x y c,X.env.cells.lookup x=some c->X.env.cells.lookup y=some c->x=y
  has:∀x,(X.env.kindOf x=some .cell\/X.env.kindOf x=some .free)->∃c,X.env.cells.lookup x=some c
  cab:∀x c,X.fn x=true->X.env.cells.lookup x=some c->X.s₀.heap.objs.size<=c
  hd:X.calm=true->X.A.handled=none
  frames:X.A.frames=some X.stack
  stk:X.stack=X.outer\/(X.stack=X.env::X.outer/\X.env.frame=some X.env.locals)
  exf:∀b∈X.ex,b≠X.env.locals/\∀x c,X.env.cells.lookup x=some c->c≠b
  bs:∀b o,X.base.get? b=some o->X.s₀.heap.get? b=some o/\X.H₀ b=none
  bsz:X.base.objs.size<=X.s₀.heap.objs.size
  noex:∀b o,X.base.get? b=some o->b∉X.ex
  exfs:∀b∈X.ex,b∉X.fs
  funs:X.s₀.heap.FunFrames X.base X.outer
  frf:∀b∈X.fs,X.H₀ b=none
structure Inv (X:Cx) (pins:List (Addr × Obj)) (σ:List (Option V)) (H:Hp) (s:Shared):Prop where
  ok:X.Ok
  os:s.os=X.s₀.os
  bare:AllBare s.gens
  base:Un X.fs X.ex X.H₀ H X.s₀.heap s.heap
  loc:∃m,s.heap.Ns X.env.locals m/\∀(i:Nat) (x:Str) (v:V),X.N[i]? =some x->σ[i]? =some (some v)->Vis X.env.scope x->∃u,RelV v u/\Look X.env s.heap m x u
  cell:∀x c,X.env.cells.lookup x=some c->∃v,s.heap.IsCell c v
  free:H X.env.locals=none
  freeC:∀x c,X.env.cells.lookup x=some c->H c=none
  pin:∀p∈X.pn++pins,s.heap.get? p.1=some p.2/\H p.1=none/\p.1≠X.env.locals/\p.1∉X.fs/\∀v,p.2.data≠ .cell v
  hok:HOk X.prog X.w H s.heap
  len:σ.length=X.N.length
section
variable {X:Cx}{pins:List (Addr × Obj)}{σ:List (Option V)}{H H':Hp}{s:Shared}{h':Heap}
theorem Cx.Ok.nofr (ok:X.Ok) {b:Addr}{o:Obj} (e:X.base.get? b=some o):b∉X.fs:=fun hb=>by
  have:=(ok.funs.mem hb).1
  rw [e]at this;cases this
theorem Inv.bs (I:Inv X pins σ H s):∀b o,X.base.get? b=some o->s.heap.get? b=some o/\H b=none:=fun b o e=>
  ⟨I.base.keep b o (I.ok.bs b o e).1 (I.ok.bs b o e).2 (I.ok.nofr e) (I.ok.noex b o e),I.base.free b o (I.ok.bs b o e).1 (I.ok.bs b o e).2 (I.ok.noex b o e)⟩
theorem Inv.bk (I:Inv X pins σ H s):∀b o,X.base.get? b=some o->s.heap.get? b=some o:=fun b o e=>(I.bs b o e).1
theorem Inv.mod (I:Inv X pins σ H s):Mod X.K X.mg X.base:=I.ok.mod
theorem Inv.kIn (I:Inv X pins σ H s):X.K.In s.heap:=I.ok.mod.kin.keeps I.bk
theorem Inv.nolimit (I:Inv X pins σ H s):s.heap.NoLimit:=I.ok.mod.nolimit.keeps I.bk
theorem Inv.fr (I:Inv X pins σ H s):∃m,Fr X.base X.env.locals s.heap m:=
  let ⟨m,hn,_⟩:=I.loc
  ⟨m,hn,I.bk,Nat.le_trans I.ok.bsz I.ok.above⟩
theorem Inv.lt (I:Inv X pins σ H s):X.env.locals<s.heap.objs.size:=let ⟨_,hn,_⟩:=I.loc;hn.lt
theorem Inv.sz (I:Inv X pins σ H s):X.s₀.heap.objs.size<=s.heap.objs.size:=Nat.le_trans I.ok.above (Nat.le_of_lt I.lt)
theorem Inv.nofs (I:Inv X pins σ H s) {a:Addr} (h:s.heap.objs.size<=a):a∉X.fs:=fun hb=>by
  obtain⟨_,o,ho,_⟩:=I.ok.funs.mem hb
  exact absurd (Nat.lt_of_lt_of_le (Heap.lt_size ho) (Nat.le_trans I.sz h)) (Nat.lt_irrefl _)
theorem Inv.cne (I:Inv X pins σ H s):∀x c,X.env.cells.lookup x=some c->c≠X.env.locals:=fun x c e z=>by
  obtain⟨v,o,ho,hd⟩:=I.cell x c e
  obtain⟨m,⟨o',es,ep,ho',hd',_⟩,_⟩:=I.loc
  rw [z,ho']at ho;cases ho;rw [hd']at hd;cases hd
theorem Inv.funs (I:Inv X pins σ H s):s.heap.FunFrames X.base X.outer:=by
  have all:∀(l:List Env),(∀b∈frs l,b∈X.fs)->X.s₀.heap.FunFrames X.base l->s.heap.FunFrames X.base l:=by
    intro l
    induction l with
    | nil=>intro _ _;trivial
    | cons env r ih=>
      intro hs hl
      obtain⟨hk,⟨L,o,hf,hn,ho,hd⟩,hr⟩:=hl
      have hL:L∈X.fs:=hs L (by unfold frs;rw [List.filterMap_cons,hf];exact List.mem_cons_self)
      obtain⟨sl,e⟩:=I.base.slot L o ho (I.ok.frf L hL) hL fun z=>I.ok.exfs L z hL
      exact⟨hk,⟨L,_,hf,hn,e,hd⟩,ih (fun b hb=>hs b (by unfold frs;rw [List.filterMap_cons,hf];exact List.mem_cons_of_mem _ hb)) hr⟩
  exact all X.outer (fun _ hb=>hb) I.ok.funs
theorem Inv.stack (I:Inv X pins σ H s):s.heap.FunFrames X.base X.stack:=by
  rcases I.ok.stk with e | ⟨e,hf⟩
  . rw [e];exact I.funs
  . rw [e]
    obtain⟨m,hn,_⟩:=I.loc
    refine .cons (by rw [I.ok.kind];decide) hf hn ?_ I.funs
    exact Heap.get?_none_of_le (Nat.le_trans I.ok.bsz I.ok.above)
theorem Inv.stkSub (I:Inv X pins σ H s):∀b∈frs X.stack,b∈X.env.locals::X.fs:=fun b hb=>by
  rcases I.ok.stk with e | ⟨e,hf⟩
  . rw [e]at hb;exact List.mem_cons_of_mem _ hb
  . rw [e]at hb
    unfold frs at hb
    rw [List.filterMap_cons,hf]at hb
    exact hb
theorem Inv.stkFree (I:Inv X pins σ H s):∀b∈frs X.stack,H b=none:=fun b hb=>by
  rcases List.mem_cons.mp (I.stkSub b hb)with e | hb
  . rw [e];exact I.free
  . obtain⟨_,o,ho,_⟩:=I.ok.funs.mem hb
    exact I.base.free b o ho (I.ok.frf b hb) fun z=>I.ok.exfs b z hb
theorem Inv.step {g':Array GenState}{t':Nat}{d':Drawn}{ch:List Addr} (I:Inv X pins σ H s)
    (hch:∀b∈ch,(b∈X.ex\/X.s₀.heap.objs.size<=b)/\b≠X.env.locals/\(∀x c,X.env.cells.lookup x=some c->c≠b)/\∀p∈X.pn++pins,p.1≠b)
    (keep:∀b o,b≠X.env.locals->b∉X.fs->b∉ch->s.heap.get? b=some o->H b=none->h'.get? b=some o)
    (slot:∀b o,b≠X.env.locals->b∈X.fs->b∉ch->s.heap.get? b=some o->H b=none->∃sl,h'.get? b=some { o with slots:=sl}) (free:∀b o,b∉ch->s.heap.get? b=some o->H b=none->H' b=none)
    (there:∀b o,b∉ch->s.heap.get? b=some o->∃o',h'.get? b=some o')
    (tups:∀b xs,H b=some (.tup xs)->H' b=some (.tup xs)) (frzs:∀b o u,H b=some (.frz o u)->H' b=some (.frz o u)) (tbls:∀b ps,H b=some (.tbl ps)->∃more,H' b=some (.tbl (ps++more)))
    (ns:∀m,s.heap.Ns X.env.locals m->h'.Ns X.env.locals m) (hok:HOk X.prog X.w H' h') (hg:AllBare g'):
    Inv X pins σ H' { s with heap:=h',gens:=g',drawn:=d',toks:=t'}:=by
  have neL:∀b o,X.s₀.heap.get? b=some o->b≠X.env.locals:=fun b o e=>Nat.ne_of_lt (Nat.lt_of_lt_of_le (Heap.lt_size e) I.ok.above)
  have neC:∀b o,X.s₀.heap.get? b=some o->b∉X.ex->b∉ch:=fun b o e hx hb=>by
    rcases(hch b hb).1 with z | z
    . exact hx z
    . exact absurd (Nat.lt_of_lt_of_le (Heap.lt_size e) z) (Nat.lt_irrefl _)
  have cellK:∀x c,X.env.cells.lookup x=some c->∀v,s.heap.IsCell c v->h'.IsCell c v:=fun x c e v ⟨o,ho,hd⟩=>by
    have nch:c∉ch:=fun z=>(hch c z).2.2.1 x c e rfl
    by_cases hc:c∈X.fs
    . obtain⟨sl,q⟩:=slot c o (I.cne x c e) hc nch ho (I.freeC x c e)
      exact⟨_,q,hd⟩
    . exact⟨o,keep c o (I.cne x c e) hc nch ho (I.freeC x c e),hd⟩
  refine⟨I.ok,I.os,hg,⟨fun b o e n hb hx=> ?_,fun b o e n hb hx=> ?_,fun b o e n hx=> ?_,fun b o e hx=> ?_,fun b xs e=>tups b xs (I.base.tups b xs e),fun b o xs e=>frzs b o xs (I.base.frzs b o xs e),fun b ps e=> ?_⟩,?_,fun x c e=> ?_,?_,fun x c e=> ?_,fun p hp=> ?_,hok,I.len⟩
  . exact keep b o (neL b o e) hb (neC b o e hx) (I.base.keep b o e n hb hx) (I.base.free b o e n hx)
  . obtain⟨sl,e1⟩:=I.base.slot b o e n hb hx
    obtain⟨sl',e2⟩:=slot b _ (neL b o e) hb (neC b o e hx) e1 (I.base.free b o e n hx)
    exact⟨sl',e2⟩
  . obtain⟨o',e1⟩:=I.base.there b o e hx
    exact free b o' (neC b o e hx) e1 (I.base.free b o e n hx)
  . obtain⟨o',e1⟩:=I.base.there b o e hx
    exact there b o' (neC b o e hx) e1
  . obtain⟨m1,e1⟩:=I.base.tbls b ps e
    obtain⟨m2,e2⟩:=tbls b _ e1
    exact⟨m1++m2,by rw [e2,Array.append_assoc]⟩
  . obtain⟨m,hn,hl⟩:=I.loc
    refine⟨m,ns m hn,fun i x v e1 e2 e3=> ?_⟩
    obtain⟨u,r,l⟩:=hl i x v e1 e2 e3
    refine⟨u,r,?_⟩
    rcases l with l | ⟨k,c,e,z⟩
    . exact .inl l
    . exact .inr ⟨k,c,e,cellK x c e _ z⟩
  . obtain⟨v,z⟩:=I.cell x c e
    exact⟨v,cellK x c e v z⟩
  . obtain⟨m,⟨o,_,_,ho,_⟩,_⟩:=I.loc
    exact free _ o (fun z=>(hch _ z).2.1 rfl) ho I.free
  . obtain⟨v,o,ho,hd⟩:=I.cell x c e
    exact free c o (fun z=>(hch c z).2.2.1 x c e rfl) ho (I.freeC x c e)
  . obtain⟨e,n,ne,nf,d⟩:=I.pin p hp
    have nch:p.1∉ch:=fun z=>(hch p.1 z).2.2.2 p hp rfl
    exact⟨keep p.1 p.2 ne nf nch e n,free p.1 p.2 nch e n,ne,nf,d⟩
theorem Inv.un {t':Nat} (I:Inv X pins σ H s) (u:Un X.fs [] H H' s.heap h') (hok:HOk X.prog X.w H' h'):Inv X pins σ H' { s with heap:=h',toks:=t'}:=by
  obtain⟨m,⟨o,es,ep,ho,r⟩,_⟩:=id I.loc
  obtain⟨sl,hL⟩:=u.any ho I.free (by simp)
  exact I.step (g':=s.gens) (d':=s.drawn) (ch:=[]) (fun _ z=>nomatch z) (fun b o _ hb _ e n=>u.keep b o e n hb (by simp)) (fun b o _ hb _ e n=>u.slot b o e n hb (by simp)) (fun b o _ e n=>u.free b o e n (by simp)) (fun b o _ e=>u.there b o e (by simp)) u.tups u.frzs u.tbls (fun m' hm=>by
    obtain⟨o',es',ep',ho',r'⟩:=hm
    rw [ho]at ho';cases ho'
    exact⟨_,es',ep',hL,r'⟩) hok I.bare
theorem Inv.call {g':Array GenState}{t':Nat}{d':Drawn}{ch:List Addr} (I:Inv X pins σ H s) (u:Un (frs X.stack) ch H H' s.heap h') (hok:HOk X.prog X.w H' h') (hg:AllBare g')
    (hch:∀b∈ch,(b∈X.ex\/X.s₀.heap.objs.size<=b)/\b≠X.env.locals/\(∀x c,X.env.cells.lookup x=some c->c≠b)/\∀p∈X.pn++pins,p.1≠b):
    Inv X pins σ H' { s with heap:=h',gens:=g',drawn:=d',toks:=t'}:=by
  obtain⟨m,⟨o,es,ep,ho,r⟩,_⟩:=id I.loc
  obtain⟨sl,hL⟩:=u.any ho I.free fun z=>(hch _ z).2.1 rfl
  exact I.step (ch:=ch) hch (fun b o hL hb hc e n=>u.keep b o e n (fun z=>(List.mem_cons.mp (I.stkSub b z)).elim hL hb) hc) (fun b o _ _ hc e n=>u.any e n hc) (fun b o hc e n=>u.free b o e n hc) (fun b o hc e=>u.there b o e hc) u.tups u.frzs u.tbls (fun m' hm=>by
    obtain⟨o',es',ep',ho',r'⟩:=hm
    rw [ho]at ho';cases ho'
    exact⟨_,es',ep',hL,r'⟩) hok hg
theorem Inv.turned {t':Nat}{it:Addr} (I:Inv X pins σ H s) (k:∀b o,b≠it->s.heap.get? b=some o->h'.get? b=some o) (hn:H it=none) (hL:it≠X.env.locals)
    (h1:it∈X.ex\/X.s₀.heap.objs.size<=it) (h2:∀x c,X.env.cells.lookup x=some c->c≠it) (h3:∀p∈X.pn++pins,p.1≠it):Inv X pins σ H { s with heap:=h',toks:=t'}:=by
  have nit:∀b u,H b=some u->b≠it:=fun b u e z=>by rw [z,hn]at e;cases e
  refine I.step (g':=s.gens) (d':=s.drawn) (ch:=[it]) (fun b hb=> ?_) (fun b o _ _ hc e _=>k b o (fun z=>hc (by simp [z])) e) (fun b o _ _ hc e _=>⟨o.slots,k b o (fun z=>hc (by simp [z])) e⟩) (fun _ _ _ _ n=>n)
    (fun b o hc e=>⟨o,k b o (fun z=>hc (by simp [z])) e⟩) (fun _ _ e=>e) (fun _ _ _ e=>e) (fun b ps e=>⟨#[],by rw [e];simp⟩) (fun m hm=> ?_) (fun b u e=> ?_) I.bare
  . have e:b=it:=by simpa using hb
    subst e
    exact⟨h1,hL,h2,h3⟩
  . obtain⟨o,es,ep,ho,r⟩:=hm
    exact⟨o,es,ep,k _ o (Ne.symm hL) ho,r⟩
  . refine(I.hok b u e).stay (fun c v hc q=>k c v ?_ q) (fun _ q=>q) fun _ _ q=>q
    rcases hc with z | z
    . rw [z];exact nit b u e
    . exact nit c _ z
theorem Inv.tok (I:Inv X pins σ H s) (t:Nat):Inv X pins σ H { s with toks:=t}:=I.un (h':=s.heap) (t':=t) Un.refl I.hok
theorem Inv.kept {t':Nat} (I:Inv X pins σ H s) (k:∀b u,s.heap.get? b=some u->h'.get? b=some u):Inv X pins σ H { s with heap:=h',toks:=t'}:=I.un (Un.kept k) (I.hok.kept k)
theorem Inv.laid {a:Addr}{o:HO}{t':Nat} (I:Inv X pins σ H s) (k:∀b u,s.heap.get? b=some u->h'.get? b=some u) (hp:s.heap.objs.size<=a) (new:Bs X.prog X.w (upd H a o) h' a o):
    Inv X pins σ (upd H a o) { s with heap:=h',toks:=t'}:=I.un (Un.laid k hp (I.hok.fresh hp)) (I.hok.laid k hp new)
theorem Inv.write {x e:Addr}{o:HO}{t':Nat} (I:Inv X pins σ H s) (mu:Mut (H x)) (he:e=x\/H e=some (.own x)) (k:∀b u,b≠e->s.heap.get? b=some u->h'.get? b=some u) (heo:∃u,h'.get? e=some u)
    (new:Bs X.prog X.w (upd H x o) h' x o):Inv X pins σ (upd H x o) { s with heap:=h',toks:=t'}:=I.un (Un.write mu he k heo) (I.hok.write mu he k heo new)
theorem Inv.pins_of {pins':List (Addr × Obj)} (I:Inv X pins σ H s) (h:∀p∈pins',s.heap.get? p.1=some p.2/\H p.1=none/\p.1≠X.env.locals/\p.1∉X.fs/\∀v,p.2.data≠ .cell v):Inv X pins' σ H s:=
  ⟨I.ok,I.os,I.bare,I.base,I.loc,I.cell,I.free,I.freeC,fun p hp=>(List.mem_append.mp hp).elim (fun z=>I.pin p (List.mem_append_left _ z)) (h p),I.hok,I.len⟩
theorem Qf {N:List Str} (hN:N.Nodup) {i j:Nat}{x:Str} (a:N[i]? =some x) (b:N[j]? =some x):i=j:=by
  obtain⟨h1,e1⟩:=List.getElem?_eq_some_iff.mp a
  obtain⟨h2,e2⟩:=List.getElem?_eq_some_iff.mp b
  exact(List.getElem_inj hN).mp (e1.trans e2.symm)
theorem Vs {M:Model}{A:Around}{E:Value->Shared->Prop}{i:Nat}{x:Str}{v:V}{u:Value}{Q:Unit->Shared->Prop} (I:Inv X pins σ H s) (hN:X.N.Nodup) (hi:X.N[i]? =some x) (hx:Loc X.env.scope x) (r:RelV v u)
    (h:∀s',Inv X pins (σ.set i (some v)) H s'->(∃a,Heap.SameBut a s.heap s'.heap/\(a=X.env.locals\/X.env.cells.lookup x=some a))->Q () s') (hf:X.fn x=true\/X.env.scope.names.lookup x=some .local :=by first | exact .inl rfl | exact .inr rfl | assumption):wpAny M A (storeName X.env x u) Q E s:=by
  obtain⟨m,hn,hl⟩:=id I.loc
  have hcls:(X.env.scope.kind== .class||(X.env.scope.kind== .module&&X.env.locals != X.env.globals))=false:=by rw [I.ok.kind];rfl
  have hiσ:i<σ.length:=by rw [I.len];exact(List.getElem?_eq_some_iff.mp hi).1
  have cne:=I.cne
  have tracked:∀ {a:Addr}{h':Heap},(∃o,s.heap.get? a=some o/\H a=none)->Heap.SameBut a s.heap h'->HOk X.prog X.w H h':=fun {a h'} ha hs b ob e=>by
    obtain⟨_,_,hfree⟩:=ha
    refine(I.hok b ob e).stay (fun c w' hc q=>(hs.2 c ?_).trans q) (fun _ q=>q) fun _ _ q=>q
    rintro rfl
    rcases hc with rfl | hc
    . rw [hfree]at e;cases e
    . rw [hfree]at hc;cases hc
  rcases hx with hk | hk
  . refine wpAny_storeName_local hk hn (fun h' hn' hs=> ?_) hcls
    obtain⟨oL,_,_,hoL,_⟩:=id hn
    refine h _ ⟨I.ok,I.os,I.bare,⟨fun b o e n hb hx=> ?_,fun b o e n hb hx=> ?_,I.base.free,fun b o e hx=> ?_,I.base.tups,I.base.frzs,I.base.tbls⟩,⟨_,hn',fun j y v' e1 e2 e3=> ?_⟩,fun y c e=> ?_,I.free,I.freeC,fun p hp=> ?_,tracked ⟨oL,hoL,I.free⟩ hs,by simpa using I.len⟩ ⟨_,hs,.inl rfl⟩
    . exact(hs.2 b (Nat.ne_of_lt (Nat.lt_of_lt_of_le (Heap.lt_size e) I.ok.above))).trans (I.base.keep b o e n hb hx)
    . obtain⟨sl,e1⟩:=I.base.slot b o e n hb hx
      exact⟨sl,(hs.2 b (Nat.ne_of_lt (Nat.lt_of_lt_of_le (Heap.lt_size e) I.ok.above))).trans e1⟩
    . obtain⟨o',e1⟩:=I.base.there b o e hx
      exact⟨o',(hs.2 b (Nat.ne_of_lt (Nat.lt_of_lt_of_le (Heap.lt_size e) I.ok.above))).trans e1⟩
    . by_cases hj:j=i
      . subst hj
        rw [hi]at e1;cases e1
        rw [List.getElem?_set_self hiσ]at e2
        cases e2
        exact⟨u,r,.inl ⟨hk,by simp⟩⟩
      . rw [List.getElem?_set_ne (Ne.symm hj)]at e2
        obtain⟨u',r',q⟩:=hl j y v' e1 e2 e3
        refine⟨u',r',?_⟩
        rcases q with⟨k,e⟩ | ⟨k,c,e,z⟩
        . refine .inl ⟨k,?_⟩
          have:y≠x:=fun e=>hj (Qf hN e1 (e▸hi))
          simp [this,e]
        . exact .inr ⟨k,c,e,z.sameBut hs (cne y c e)⟩
    . obtain⟨w',z⟩:=I.cell y c e
      exact⟨w',z.sameBut hs (cne y c e)⟩
    . obtain⟨e,n,ne,nf,d⟩:=I.pin p hp
      exact⟨(hs.2 p.1 ne).trans e,n,ne,nf,d⟩
  . have hfn:X.fn x=true:=by
      rcases hf with z | z
      . exact z
      . rw [z]at hk;cases hk
    obtain⟨c,hc⟩:=I.ok.has x (.inl hk)
    obtain⟨w',z⟩:=I.cell x c hc
    refine wpAny_storeName_cell I.ok.kind hk hc z (fun h' hc' hs=> ?_)
    obtain⟨oc,hoc,hocd⟩:=id z
    refine h { s with heap:=h'} ⟨I.ok,I.os,I.bare,⟨fun b o e n hb hx=> ?_,fun b o e n hb hx=> ?_,I.base.free,fun b o e hx=> ?_,I.base.tups,I.base.frzs,I.base.tbls⟩,⟨m,hn.sameBut hs (Ne.symm (cne x c hc)),fun j y v' e1 e2 e3=> ?_⟩,fun y c' e=> ?_,I.free,I.freeC,fun p hp=> ?_,tracked ⟨oc,hoc,I.freeC x c hc⟩ hs,by simpa using I.len⟩ ⟨c,hs,.inr hc⟩
    . exact(hs.2 b (Nat.ne_of_lt (Nat.lt_of_lt_of_le (Heap.lt_size e) (I.ok.cab x c hfn hc)))).trans (I.base.keep b o e n hb hx)
    . obtain⟨sl,e1⟩:=I.base.slot b o e n hb hx
      exact⟨sl,(hs.2 b (Nat.ne_of_lt (Nat.lt_of_lt_of_le (Heap.lt_size e) (I.ok.cab x c hfn hc)))).trans e1⟩
    . obtain⟨o',e1⟩:=I.base.there b o e hx
      exact⟨o',(hs.2 b (Nat.ne_of_lt (Nat.lt_of_lt_of_le (Heap.lt_size e) (I.ok.cab x c hfn hc)))).trans e1⟩
    . by_cases hj:j=i
      . subst hj
        rw [hi]at e1;cases e1
        rw [List.getElem?_set_self hiσ]at e2
        cases e2
        exact⟨u,r,.inr ⟨.inl hk,c,hc,hc'⟩⟩
      . rw [List.getElem?_set_ne (Ne.symm hj)]at e2
        obtain⟨u',r',q⟩:=hl j y v' e1 e2 e3
        refine⟨u',r',?_⟩
        rcases q with q | ⟨k,c',e,z'⟩
        . exact .inl q
        . refine .inr ⟨k,c',e,z'.sameBut hs ?_⟩
          rintro rfl
          exact hj (Qf hN e1 (I.ok.inj _ _ _ e hc▸hi))
    . by_cases hcc:c'=c
      . subst hcc;exact⟨_,hc'⟩
      . obtain⟨w2,z2⟩:=I.cell y c' e
        exact⟨w2,z2.sameBut hs hcc⟩
    . obtain⟨e,n,ne,nf,d⟩:=I.pin p hp
      refine⟨(hs.2 p.1 ?_).trans e,n,ne,nf,d⟩
      intro q
      rw [q,hoc]at e
      have q':oc=p.2:=Option.some.inj e
      exact d w' (by rw [<-q'];exact hocd)
theorem Ib {M:Model}{A:Around}{E:Value->Shared->Prop}{i:Nat}{x:Str}{v:V}{u:Value}{Q:Unit->Shared->Prop} (I:Inv X pins σ H s) (hN:X.N.Nodup) (hi:X.N[i]? =some x) (hx:Loc X.env.scope x) (r:RelV v u)
    (h:∀s',Inv X pins (σ.set i (some v)) H s'->Q () s') (hf:X.fn x=true\/X.env.scope.names.lookup x=some .local :=by first | exact .inl rfl | exact .inr rfl | assumption):wpAny M A (storeName X.env x u) Q E s:=
  Vs I hN hi hx r (fun s' I' _=>h s' I') hf
theorem Inv.call' {s':Shared}{ch:List Addr} (I:Inv X pins σ H s) (ho:s'.os=s.os) (u:Un (frs X.stack) ch H H' s.heap s'.heap) (hok:HOk X.prog X.w H' s'.heap) (hg:AllBare s'.gens)
    (hch:∀b∈ch,(b∈X.ex\/X.s₀.heap.objs.size<=b)/\b≠X.env.locals/\(∀x c,X.env.cells.lookup x=some c->c≠b)/\∀p∈X.pn++pins,p.1≠b):Inv X pins σ H' s':=by
  obtain⟨h',g',d',t',o'⟩:=s'
  have e:o'=s.os:=ho
  subst e
  exact I.call (g':=g') (t':=t') (d':=d') u hok hg hch
end
abbrev XK:=Value->Option Addr->Hp->Prop
abbrev St:=List (Option V)
abbrev VK:=V->Hp->Prop
abbrev TE:=St->Hp->VK->Prop
abbrev TT:=St->Hp->(Bool->Hp->Prop)->Prop
abbrev TA:=St->Hp->(List V->Hp->Prop)->Prop
structure Ends where
  nx:St->Hp->Prop
  rt:VK
  bk:St->Hp->Prop:=fun _ _=>False
  ct:St->Hp->Prop:=fun _ _=>False
abbrev TS:=Ends->St->Hp->Prop
def EP (X:Cx) (pins:List (Addr × Obj)) (σ:St) (Q:VK) (u:Value) (s':Shared):Prop:=∃v H',Inv X pins σ H' s'/\RelV v u/\Q v H'
def TP (X:Cx) (pins:List (Addr × Obj)) (σ:St) (Q:Bool->Hp->Prop) (b:Bool) (s':Shared):Prop:=∃H',Inv X pins σ H' s'/\Q b H'
def AP (X:Cx) (pins:List (Addr × Obj)) (σ:St) (Q:List V->Hp->Prop) (us:List Value) (s':Shared):Prop:=∃vs H',Inv X pins σ H' s'/\Vals vs us/\Q vs H'
def SP (X:Cx) (pins:List (Addr × Obj)) (D:Ends) (f:Flow) (s':Shared):Prop:=
  match f with
  | .next=>∃σ' H',Inv X pins σ' H' s'/\D.nx σ' H'
  | .brk=>∃σ' H',Inv X pins σ' H' s'/\D.bk σ' H'
  | .cont=>∃σ' H',Inv X pins σ' H' s'/\D.ct σ' H'
  | .ret u=>∃v σ' H',Inv X pins σ' H' s'/\RelV v u/\D.rt v H'
def PE (X:Cx) (e:Expr) (t:TE):Prop:=
  ∀(pins:List (Addr × Obj)) (s:Shared) (σ:St) (H:Hp) (Q:VK),Inv X pins σ H s->t σ H Q->wpAny (model X.prog X.w) X.A (eval e X.env) (EP X pins σ Q) X.xe s
def PT (X:Cx) (e:Expr) (t:TT):Prop:=
  ∀(pins:List (Addr × Obj)) (s:Shared) (σ:St) (H:Hp) (Q:Bool->Hp->Prop),Inv X pins σ H s->t σ H Q->wpAny (model X.prog X.w) X.A (isTrue e X.env (eval e X.env)) (TP X pins σ Q) X.xe s
def PW (X:Cx) (e:Expr) (t:TT):Prop:=
  ∀(whole:Sem Value) (pins:List (Addr × Obj)) (s:Shared) (σ:St) (H:Hp) (Q:Bool->Hp->Prop),Inv X pins σ H s->t σ H Q->wpAny (model X.prog X.w) X.A (isTrue e X.env whole) (TP X pins σ Q) X.xe s
theorem PW.pt {X:Cx}{e:Expr}{t:TT} (h:PW X e t):PT X e t:=h _
def PA (X:Cx) (es:List Expr) (t:TA):Prop:=
  ∀(pos:Pos) (pins:List (Addr × Obj)) (s:Shared) (σ:St) (H:Hp) (Q:List V->Hp->Prop),Inv X pins σ H s->t σ H Q->wpAny (model X.prog X.w) X.A (spliced (backTo pos (starEach es X.env))) (AP X pins σ Q) X.xe s
def PS (X:Cx) (st:Stmt) (t:TS):Prop:=
  ∀(pins:List (Addr × Obj)) (s:Shared) (σ:St) (H:Hp) (D:Ends),Inv X pins σ H s->t D σ H->wpAny (model X.prog X.w) X.A (exec st X.env) (SP X pins D) X.xe s
def PSs (X:Cx) (st:List Stmt) (t:TS):Prop:=
  ∀(pins:List (Addr × Obj)) (s:Shared) (σ:St) (H:Hp) (D:Ends),Inv X pins σ H s->t D σ H->wpAny (model X.prog X.w) X.A (execs st X.env) (SP X pins D) X.xe s
theorem thn {α:Type}{t:Sem α}{Q Q':α->Shared->Prop}{M:Model}{A:Around}{E:Value->Shared->Prop}{s:Shared} (h:wpAny M A t Q E s) (hQ:∀a s,Q a s->Q' a s):wpAny M A t Q' E s:=wpAny_mono h hQ fun _ _ x=>x
end L2
namespace L2
open PySem PySem.Spec PyProof.Rows
section
variable {X:Cx}
def Yd (i:Nat):TE:=fun σ H Q=>∃v,σ[i]? =some (some v)/\Q v H
def tC (v:V):TE:=fun _ H Q=>Q v H
theorem Abz {i:Nat}{x:Str}{pos:Pos} (hN:X.N[i]? =some x) (hv:Vis X.env.scope x) (hd:(x==("__debug__":Str))=false:=by decide) (hcd:(x==("__classdict__":Str))=false:=by decide):PE X (.Name x pos) (Yd i):=by
  intro pins s σ H Q I h
  obtain⟨v,e,h⟩:=h
  obtain⟨m,hn,hl⟩:=I.loc
  obtain⟨u,r,l⟩:=hl i x v hN e hv
  have fin:EP X pins σ Q u s:=⟨v,H,I,r,h⟩
  rcases l with⟨hk,hm⟩ | ⟨hk,c,hc,hcell⟩
  . exact wpAny_Name (wpAny_loadName_local I.ok.kind hk hn hm fin) hd
  . rcases hk with hk | hk
    . exact wpAny_Name (wpAny_loadName_cell I.ok.kind hk hc hcell fin) hd
    . exact wpAny_Name (wpAny_loadName_free I.ok.kind hk hc hcell fin hcd) hd
theorem Ad {i j pos}:PE X (.Constant (.int i) j pos) (tC (.int i)):=fun _ _ _ H _ I h=>wpAny_Constant_int ⟨.int i,H,I.tok _,⟨_,rfl⟩,h⟩
theorem Hv {b j pos}:PE X (.Constant (.bool b) j pos) (tC (.bl b)):=fun _ _ _ H _ I h=>Constant_bool ⟨.bl b,H,I,rfl,h⟩
def Gl (X:Cx) (x:Str):Prop:=X.env.kindOf x=some .globalImplicit
theorem Uv {E:Value->Shared->Prop}{pins:List (Addr × Obj)}{s:Shared}{σ:St}{H:Hp}{x:Str}{u:Value}{pos:Pos}{Q:Value->Shared->Prop} (I:Inv X pins σ H s) (hg:Gl X x) (hm:X.mg x=some u) (h:Q u s)
    (hd:(x==("__debug__":Str))=false:=by decide):wpAny (model X.prog X.w) X.A (eval (.Name x pos) X.env) Q E s:=
  Calls.Name_function_global I.ok.kind hg (Calls.loadGlobal_global (by rw [I.ok.glob];exact I.mod.glob.keeps I.bk) hm h) hd
theorem Gs {E:Value->Shared->Prop}{pins:List (Addr × Obj)}{s:Shared}{σ:St}{H:Hp}{x:Str}{u:Value}{pos:Pos}{Q:Value->Shared->Prop} (I:Inv X pins σ H s) (hg:Gl X x) (hm:X.mg x=none) (hv:bootBuiltins x=some u) (h:Q u s)
    (hn:x≠"__name__":=by decide) (hd:(x==("__debug__":Str))=false:=by decide):wpAny (model X.prog X.w) X.A (eval (.Name x pos) X.env) Q E s:=by
  obtain⟨mb,h1,h2⟩:=I.mod.blt
  exact Calls.Name_function_global I.ok.kind hg (Calls.loadGlobal_builtin (by rw [I.ok.glob];exact I.mod.glob.keeps I.bk) hm (by rw [I.ok.blt];exact h1.keeps I.bk) ((h2 x hn).trans hv) h) hd
theorem K8 {x:Str}{v:V}{u:Value}{pos:Pos} (hg:Gl X x) (hm:X.mg x=some u) (r:RelV v u) (hd:(x==("__debug__":Str))=false:=by decide):PE X (.Name x pos) (tC v):=
  fun _ _ _ H _ I h=>Uv I hg hm ⟨v,H,I,r,h⟩ hd
theorem Ds {x:Str}{v:V}{u:Value}{pos:Pos} (hg:Gl X x) (hm:X.mg x=none) (hv:bootBuiltins x=some u) (r:RelV v u) (hn:x≠"__name__":=by decide) (hd:(x==("__debug__":Str))=false:=by decide):PE X (.Name x pos) (tC v):=
  fun _ _ _ H _ I h=>Gs I hg hm hv ⟨v,H,I,r,h⟩ hn hd
variable {a b:Expr}{ta tb:TE}{pos:Pos}
def tB (t:TE):TT:=fun σ H Q=>t σ H fun x H1=>∃c,x= .bl c/\Q c H1
theorem Fx {e:Expr}{t:TE} (h:PE X e t) (he:∀whole,isTrue e X.env whole=(do let v<-whole;standAt e.pos;holding [v] (truthy v)):=by intro _;rfl):PT X e (tB t):=by
  intro pins s σ H Q I hw
  refine isTrue_plain (thn (h pins s σ H _ I hw) fun v s1 ⟨x,H1,I1,r1,q1⟩=> ?_) (he _)
  obtain⟨d,rfl,q⟩:=q1
  cases r1
  exact wpAny_truthy_bool ⟨H1,I1,q⟩
variable {tA tB':TT}{rest:List Expr}
def Ad6 (t u:TT):TT:=fun σ H Q=>t σ H fun c H1=>if c=true then u σ H1 Q else Q false H1
def tOr (t u:TT):TT:=fun σ H Q=>t σ H fun c H1=>if c=true then Q true H1 else u σ H1 Q
def Adx (t:TT):TT:=fun σ H Q=>t σ H fun c H1=>Q (!c) H1
theorem Oz (ha:PT X a tA):PW X (.BoolOp .And [a] pos) tA:=by
  intro wh pins s σ H Q I h
  refine isTrue_and (thn (ha pins s σ H Q I h) fun c s1 e=> ?_)
  cases c with
  | true=>exact isTrue_and_nil e
  | false=>exact e
theorem Fy (ha:PT X a tA):PW X (.BoolOp .Or [a] pos) tA:=by
  intro wh pins s σ H Q I h
  refine isTrue_or (thn (ha pins s σ H Q I h) fun c s1 e=> ?_)
  cases c with
  | false=>exact isTrue_or_nil e
  | true=>exact e
theorem Qn (ha:PT X a tA) (hb:PW X (.BoolOp .And (b::rest) pos) tB'):PW X (.BoolOp .And (a::b::rest) pos) (Ad6 tA tB'):=by
  intro wh pins s σ H Q I h
  refine isTrue_and (thn (ha pins s σ H _ I h) fun c s1 ⟨H1,I1,q1⟩=> ?_)
  cases c with
  | true=>exact hb wh pins s1 σ H1 Q I1 q1
  | false=>exact⟨H1,I1,q1⟩
theorem Ga (ha:PT X a tA) (hb:PW X (.BoolOp .Or (b::rest) pos) tB'):PW X (.BoolOp .Or (a::b::rest) pos) (tOr tA tB'):=by
  intro wh pins s σ H Q I h
  refine isTrue_or (thn (ha pins s σ H _ I h) fun c s1 ⟨H1,I1,q1⟩=> ?_)
  cases c with
  | true=>exact⟨H1,I1,q1⟩
  | false=>exact hb wh pins s1 σ H1 Q I1 q1
theorem Gx (ha:PT X a tA):PT X (.UnaryOp .Not a pos) (Adx tA):=by
  intro pins s σ H Q I h
  exact isTrue_not (ha pins s σ H (fun c H1=>Q (!c) H1) I h)
def Yv (ta tb:TE):TE:=fun σ H Q=>ta σ H fun x H1=>∃c,x= .bl c/\if c=true then tb σ H1 Q else Q (.bl false) H1
def Aey (ta tb:TE):TE:=fun σ H Q=>ta σ H fun x H1=>∃c,x= .bl c/\if c=true then Q (.bl true) H1 else tb σ H1 Q
def Z1 (ta:TE):TE:=fun σ H Q=>ta σ H fun x H1=>∃c,x= .bl c/\Q (.bl (!c)) H1
theorem Mp {op}{t:TE} (h:PE X a t):PE X (.BoolOp op [a] pos) t:=fun pins s σ H Q I hw=>BoolOp_one (h pins s σ H Q I hw)
theorem Kh (ha:PE X a ta) (hb:PE X (.BoolOp .And (b::rest) pos) tb):PE X (.BoolOp .And (a::b::rest) pos) (Yv ta tb):=by
  intro pins s σ H Q I h
  refine BoolOp_and (thn (ha pins s σ H _ I h) fun v s1 ⟨x,H1,I1,r1,q1⟩=> ?_)
  obtain⟨c,rfl,q1⟩:=q1
  cases r1
  refine wpAny_truthy_bool ?_
  cases c with
  | true=>exact hb pins s1 σ H1 Q I1 q1
  | false=>exact⟨.bl false,H1,I1,rfl,q1⟩
theorem Tt (ha:PE X a ta):PE X (.UnaryOp .Not a pos) (Z1 ta):=by
  intro pins s σ H Q I h
  refine UnaryOp_ (thn (ha pins s σ H _ I h) fun v s1 ⟨x,H1,I1,r1,q1⟩=> ?_)
  obtain⟨c,rfl,q1⟩:=q1
  cases r1
  exact not_of (wpAny_truthy_bool ⟨.bl (!c),H1,I1,rfl,q1⟩)
def tIf (t:TT) (ta tb:TE):TE:=fun σ H Q=>t σ H fun c H1=>if c=true then ta σ H1 Q else tb σ H1 Q
end
end L2
namespace L2
open PySem PySem.Spec PyProof.Rows
def SqL (K:PySem.W.Frag) (H:Hp) (a:Addr) (xs:List V):Prop:=
  Rd H a (.lst xs)\/
    ∃(o:Obj) (its:Array Value) (n:Nat),K.lookup a=some o/\o.cls= .type "list"/\o.dict=none/\o.data= .seq its n/\its.size<=sizeLine/\Vals xs its.toList
def SqT (K:PySem.W.Frag) (H:Hp) (a:Addr) (xs:List V):Prop:=
  Rd H a (.tup xs)\/
    ∃(o:Obj) (its:Array Value) (n:Nat),K.lookup a=some o/\o.cls= .type "tuple"/\o.data= .seq its n/\its.size<=sizeLine/\Vals xs its.toList
def Ae0:Value->Option V
  | .none=>some .non
  | .bool b=>some (.bl b)
  | .int i _=>some (.int i)
  | .str x _=>some (.str x)
  | .bytes b _=>some (.byt b)
  | .float b _=>some (.flt b)
  | .ref a=>some (.ref a)
  | .type n=>some (.ty n)
  | _=>none
theorem RelV.abs {x:V}{u:Value} (r:RelV x u):Ae0 u=some x:=by
  cases x with
  | non=>cases r;rfl
  | bl _=>cases r;rfl
  | int _=>obtain⟨t,rfl⟩:=r;rfl
  | str _=>obtain⟨t,rfl⟩:=r;rfl
  | byt _=>obtain⟨t,rfl⟩:=r;rfl
  | flt _=>obtain⟨t,rfl⟩:=r;rfl
  | ref _=>cases r;rfl
  | ty _=>cases r;rfl
theorem RelV.inj {x y:V}{u:Value} (r:RelV x u) (q:RelV y u):x=y:=Option.some.inj (r.abs.symm.trans q.abs)
theorem Vals.inj:∀ {xs ys:List V}{us:List Value},Vals xs us->Vals ys us->xs=ys
  | _,_,_,.nil,.nil=>rfl
  | _,_,_,.cons r t,.cons r' t'=>by rw [r.inj r',Vals.inj t t']
section
variable {X:Cx}{pins:List (Addr × Obj)}{σ:St}{H:Hp}{s:Shared}{a:Addr}{xs ys:List V}
theorem SqL.of {K:PySem.W.Frag} (h:H a=some (.lst xs)):SqL K H a xs:= .inl (.inl h)
theorem SqT.of {K:PySem.W.Frag} (h:H a=some (.tup xs)):SqT K H a xs:= .inl (.inl h)
theorem Inv.list (I:Inv X pins σ H s) (h:SqL X.K H a xs):∃its:List Value,Vals xs its/\PlainL s.heap a its.toArray/\xs.length<=sizeLine:=by
  rcases h with h | ⟨o,its,n,hk,hc,hd,hs,hz,r⟩
  . obtain⟨z,its,n,r,e⟩:=h.ok I.hok
    exact⟨its,r,⟨_,n,e,rfl,rfl,rfl⟩,z⟩
  . refine⟨its.toList,r,⟨o,n,I.kIn a o hk,hc,hd,by simpa using hs⟩,?_⟩
    have e:=r.length
    simp only [Array.length_toList]at e
    omega
theorem Inv.tuple (I:Inv X pins σ H s) (h:SqT X.K H a xs):∃its:List Value,Vals xs its/\IsTup s.heap a its.toArray/\xs.length<=sizeLine:=by
  rcases h with h | ⟨o,its,n,hk,hc,hs,hz,r⟩
  . obtain⟨z,its,r,p⟩:=h.ok I.hok
    exact⟨its,r,p,z⟩
  . refine⟨its.toList,r,⟨o,I.kIn a o hk,hc,n,by simpa using hs⟩,?_⟩
    have e:=r.length
    simp only [Array.length_toList]at e
    omega
theorem Inv.list_inj (I:Inv X pins σ H s) (h:SqL X.K H a xs) (h':SqL X.K H a ys):xs=ys:=by
  obtain⟨its,r,⟨o,n,e,_,_,d⟩,_⟩:=I.list h
  obtain⟨its',r',⟨o',n',e',_,_,d'⟩,_⟩:=I.list h'
  rw [e]at e';cases e'
  rw [d]at d'
  injection d' with d1 _
  have:its=its':=by simpa using congrArg Array.toList d1
  subst this
  exact r.inj r'
theorem Inv.tuple_inj (I:Inv X pins σ H s) (h:SqT X.K H a xs) (h':SqT X.K H a ys):xs=ys:=by
  obtain⟨its,r,⟨o,e,_,n,d⟩,_⟩:=I.tuple h
  obtain⟨its',r',⟨o',e',_,n',d'⟩,_⟩:=I.tuple h'
  rw [e]at e';cases e'
  rw [d]at d'
  injection d' with d1 _
  have:its=its':=by simpa using congrArg Array.toList d1
  subst this
  exact r.inj r'
end
abbrev Cx.wish (X:Cx) (E:Value->Shared->Prop):Cx:={ X with xe:=E}
abbrev Cx.nox (X:Cx):Cx:=X.wish fun _ _=>False
theorem Cx.Ok.wish {X:Cx} (ok:X.Ok) (E:Value->Shared->Prop):(X.wish E).Ok:=
  ⟨ok.mod,ok.kind,ok.glob,ok.blt,ok.above,ok.inj,ok.has,ok.cab,ok.hd,ok.frames,ok.stk,ok.exf,ok.bs,ok.bsz,ok.noex,ok.exfs,ok.funs,ok.frf⟩
theorem Cx.Ok.unwish {X:Cx}{E:Value->Shared->Prop} (ok:(X.wish E).Ok):X.Ok:=
  ⟨ok.mod,ok.kind,ok.glob,ok.blt,ok.above,ok.inj,ok.has,ok.cab,ok.hd,ok.frames,ok.stk,ok.exf,ok.bs,ok.bsz,ok.noex,ok.exfs,ok.funs,ok.frf⟩
section
variable {X:Cx}{pins:List (Addr × Obj)}{σ:St}{H:Hp}{s:Shared}{E:Value->Shared->Prop}
theorem Inv.wish (I:Inv X pins σ H s) (E:Value->Shared->Prop):Inv (X.wish E) pins σ H s:=⟨I.ok.wish E,I.os,I.bare,I.base,I.loc,I.cell,I.free,I.freeC,I.pin,I.hok,I.len⟩
theorem Inv.unwish (I:Inv (X.wish E) pins σ H s):Inv X pins σ H s:=⟨I.ok.unwish,I.os,I.bare,I.base,I.loc,I.cell,I.free,I.freeC,I.pin,I.hok,I.len⟩
theorem SP.unwish {D:Ends}{f:Flow}{s':Shared} (h:SP (X.wish E) pins D f s'):SP X pins D f s':=by
  cases f with
  | next=>obtain⟨σ',H',I,q⟩:=h;exact⟨σ',H',I.unwish,q⟩
  | brk=>obtain⟨σ',H',I,q⟩:=h;exact⟨σ',H',I.unwish,q⟩
  | cont=>obtain⟨σ',H',I,q⟩:=h;exact⟨σ',H',I.unwish,q⟩
  | ret u=>obtain⟨v,σ',H',I,r,q⟩:=h;exact⟨v,σ',H',I.unwish,r,q⟩
theorem PE.nox {e:Expr}{t:TE} (h:PE X.nox e t):PE X e t:=fun pins s σ H Q I hw=>
  wpAny_mono (h pins s σ H Q (I.wish _) hw) (fun _ _ ⟨v,H',I',r,q⟩=>⟨v,H',I'.unwish,r,q⟩) fun _ _ z=>False.elim z
theorem PT.nox {e:Expr}{t:TT} (h:PT X.nox e t):PT X e t:=fun pins s σ H Q I hw=>
  wpAny_mono (h pins s σ H Q (I.wish _) hw) (fun _ _ ⟨H',I',q⟩=>⟨H',I'.unwish,q⟩) fun _ _ z=>False.elim z
theorem PSs.nox {st:List Stmt}{t:TS} (h:PSs X.nox st t):PSs X st t:=fun pins s σ H D I hw=>
  wpAny_mono (h pins s σ H D (I.wish _) hw) (fun _ _ q=>q.unwish) fun _ _ z=>False.elim z
end
section
variable {X:Cx}{st:Stmt}{rest:List Stmt}{t u:TS}{e:Expr}{te:TE}{pos:Pos}
def Z2:TS:=fun D σ H=>D.nx σ H
def Acq (t u:TS):TS:=fun D σ H=>t { D with nx:=u D} σ H
theorem Bd:PSs X [] Z2:=fun _ _ σ H _ I h=>wpAny_execs_nil ⟨σ,H,I,h⟩
theorem Ac (h1:PS X st t) (h2:PSs X rest u):PSs X (st::rest) (Acq t u):=by
  intro pins s σ H D I h
  refine wpAny_execs_cons (thn (h1 pins s σ H { D with nx:=u D} I h) fun f s1 q=> ?_)
  cases f with
  | next=>
    obtain⟨σ',H',I',q⟩:=q
    exact h2 pins s1 σ' H' D I' q
  | ret v=>exact q
  | brk=>exact q
  | cont=>exact q
theorem Af (h1:PS X st t):PSs X [st] t:=by
  intro pins s σ H D I h
  refine wpAny_execs_cons (thn (h1 pins s σ H D I h) fun f s1 q=> ?_)
  cases f with
  | next=>exact wpAny_execs_nil q
  | ret v=>exact q
  | brk=>exact q
  | cont=>exact q
theorem Inv.quiet {pins:List (Addr × Obj)}{σ:St}{H:Hp}{s:Shared} (I:Inv X pins σ H s):interactive X.env=false:=by simp [interactive,I.ok.kind]
def Zt (te:TE):TS:=fun D σ H=>te σ H fun _ H1=>D.nx σ H1
theorem Ep (he:PE X e te) (hs:swapsWith e none pos.line X.env=pure false:=by rfl):PS X (.Expr e pos) (Zt te):=by
  intro pins s σ H D I h
  exact wpAny_Expr_any (thn (he pins s σ H _ I h) fun v s1 ⟨x,H1,I1,r1,q1⟩=>⟨σ,H1,I1,q1⟩) I.quiet hs
def Ac5 (te:TE):TS:=fun D σ H=>te σ H D.rt
theorem Ao (he:PE X e te):PS X (.Return (some e) pos) (Ac5 te):=by
  intro pins s σ H D I h
  exact wpAny_Return_some (thn (he pins s σ H _ I h) fun v s1 ⟨x,H1,I1,r1,q1⟩=>⟨x,σ,H1,I1,r1,q1⟩)
def Ac3 (c:TT) (t u:TS):TS:=fun D σ H=>c σ H fun b H1=>if b=true then t D σ H1 else u D σ H1
theorem Dp {c:Expr}{a b:List Stmt}{tc:TT} (hc:PT X c tc) (ha:PSs X a t) (hb:PSs X b u):PS X (.If c a b pos) (Ac3 tc t u):=by
  intro pins s σ H D I h
  refine wpAny_If (thn (hc pins s σ H _ I h) fun d s1 ⟨H1,I1,q1⟩=> ?_)
  cases d with
  | true=>exact ha pins s1 σ H1 D I1 q1
  | false=>exact hb pins s1 σ H1 D I1 q1
def Yb:TS:=fun _ _ _=>False
theorem Li:PS X st Yb:=fun _ _ _ _ _ _ h=>h.elim
end
abbrev TG:=V->St->Hp->(St->Hp->Prop)->Prop
abbrev TGs:=List V->St->Hp->(St->Hp->Prop)->Prop
def PG (X:Cx) (target:Expr) (t:TG):Prop:=
  ∀(pins:List (Addr × Obj)) (s:Shared) (σ:St) (H:Hp) (v:V) (u:Value) (Q:St->Hp->Prop),Inv X pins σ H s->RelV v u->t v σ H Q->
    wpAny (model X.prog X.w) X.A (assign target X.env u) (fun _ s'=>∃σ' H',Inv X pins σ' H' s'/\Q σ' H') X.xe s
def PGs (X:Cx) (ts:List Expr) (t:TGs):Prop:=
  ∀(pins:List (Addr × Obj)) (s:Shared) (σ:St) (H:Hp) (vs:List V) (us:List Value) (Q:St->Hp->Prop),Inv X pins σ H s->Vals vs us->t vs σ H Q->
    wpAny (model X.prog X.w) X.A (assignInOrder ((assignEach ts X.env).map (·.2)) us) (fun _ s'=>∃σ' H',Inv X pins σ' H' s'/\Q σ' H') X.xe s
abbrev Abn:=V->V->V->Hp->(Hp->Prop)->Prop
def Adz (X:Cx) (t:Abn):Prop:=
  ∀(pins:List (Addr × Obj)) (s:Shared) (σ:St) (H:Hp) (o i v:V) (ov iv u:Value) (Q:Hp->Prop),Inv X pins σ H s->RelV o ov->RelV i iv->RelV v u->t o i v H Q->
    wpAny (model X.prog X.w) X.A (setItem ov iv u) (fun _ s'=>∃H',Inv X pins σ H' s'/\Q H') X.xe s
section
variable {X:Cx}{pos:Pos}
def Nx (i:Nat):TG:=fun v σ H Q=>Q (σ.set i (some v)) H
theorem Ah {i:Nat}{x:Str} (hN:X.N.Nodup) (hi:X.N[i]? =some x) (hx:Loc X.env.scope x) (hf:X.fn x=true\/X.env.scope.names.lookup x=some .local :=by first | exact .inl rfl | exact .inr rfl | assumption):PG X (.Name x pos) (Nx i):=by
  intro pins s σ H v u Q I r h
  exact wpAny_assign_Name (Ib I hN hi hx r (fun s' I'=>⟨_,H,I',h⟩) hf)
def Ade:TGs:=fun vs σ H Q=>vs=[]/\Q σ H
def W0 (t:TG) (u:TGs):TGs:=fun vs σ H Q=>∃v r,vs=v::r/\t v σ H fun σ' H'=>u r σ' H' Q
theorem Bb:PGs X [] Ade:=by
  intro pins s σ H vs us Q I r h
  obtain⟨e,h⟩:=h
  subst e
  cases r
  exact assignInOrder_nil ⟨σ,H,I,h⟩
theorem Ai {e:Expr}{es:List Expr}{t:TG}{u:TGs} (h1:PG X e t) (h2:PGs X es u)
    (hs:(assignEach (e::es) X.env).map (·.2)=assign e X.env::(assignEach es X.env).map (·.2):=by rfl):PGs X (e::es) (W0 t u):=by
  intro pins s σ H vs us Q I r h
  obtain⟨v,vr,e1,h⟩:=h
  subst e1
  cases r with
  | cons r rr=>
    rw [hs]
    refine assignInOrder_cons (thn (h1 pins s σ H _ _ _ I r h) fun _ s1 ⟨σ1,H1,I1,q1⟩=> ?_)
    exact h2 pins s1 σ1 H1 _ _ Q I1 rr q1
def Abt (K:PySem.W.Frag) (n:Nat) (t:TGs):TG:=fun v σ H Q=>∃a xs,v= .ref a/\SqT K H a xs/\xs.length=n/\t xs σ H Q
theorem Cq {es:List Expr}{k:Nat}{t:TGs}{n:Nat} (hc:X.calm=true) (h:PGs X es t)
    (hn:(assignEach es X.env).length=n:=by rfl) (hst:(assignEach es X.env).findIdx? (·.1)=none:=by rfl):PG X (.Tuple es k pos) (Abt X.K n t):=by
  intro pins s σ H v u Q I r hw
  obtain⟨a,xs,e1,hq,hl,hw⟩:=hw
  subst e1
  cases r
  obtain⟨its,rv,ht,hz⟩:=I.tuple hq
  refine assign_Tuple_tuple (I.ok.hd hc) ht (by simp [hn,<-hl,rv.length]) hst fun h' hx=> ?_
  have I1:Inv X pins σ H { s with heap:=h'}:=I.kept (t':=s.toks) fun b o e=>hx b o (Nat.ne_of_lt (Heap.lt_size e)) e
  exact h pins _ σ H xs _ Q I1 (by simpa using rv) hw
def Ac8 (to ti:TE) (t:Abn):TG:=fun v σ H Q=>to σ H fun o H1=>ti σ H1 fun i H2=>t o i v H2 fun H3=>Q σ H3
theorem Pu {o i:Expr}{to ti:TE}{t:Abn} (ho:PE X o to) (hi:PE X i ti) (hs:Adz X t)
    (ha:∀v,assign (.Subscript o i pos) X.env v=(do
      let ov<-holding [v] (eval o X.env)
      let iv<-holding [v,ov] (eval i X.env)
      standAt pos
      holding [v,ov,iv] (setItem ov iv v)
      release [v,ov,iv] []):=by intro _;rfl):PG X (.Subscript o i pos) (Ac8 to ti t):=by
  intro pins s σ H v u Q I r h
  rw [ha]
  refine wpAny_bind (wpAny_holding (thn (ho pins s σ H _ I h) fun ov s1 ⟨x,H1,I1,r1,q1⟩=> ?_))
  refine wpAny_bind (wpAny_holding (thn (hi pins s1 σ H1 _ I1 q1) fun iv s2 ⟨y,H2,I2,r2,q2⟩=> ?_))
  refine wpAny_bind (wpAny_standAt (wpAny_bind (wpAny_holding (thn (hs pins s2 σ H2 x y v ov iv u _ I2 r1 r2 r q2) fun _ s3 ⟨H3,I3,q3⟩=> ?_))))
  exact wpAny_release ⟨σ,H3,I3,q3⟩
def Xu (te:TE) (g:TG):TS:=fun D σ H=>te σ H fun x H1=>g x σ H1 D.nx
theorem Fw {tg e:Expr}{te:TE}{g:TG} (he:PE X e te) (hg:PG X tg g) (hs:swapsWithSole [tg] e pos.line X.env=pure false:=by rfl) (hw:swappedStores [tg] e X.env=pure none:=by rfl)
    (h1:(assignEach [tg] X.env).map (·.2)=[assign tg X.env]:=by rfl):PS X (.Assign [tg] e pos) (Xu te g):=by
  intro pins s σ H D I h
  refine wpAny_Assign_stores (thn (he pins s σ H _ I h) fun v s1 ⟨x,H1,I1,r1,q1⟩=> ?_) hs hw
  rw [h1]
  exact thn (hg pins s1 σ H1 x v _ I1 r1 q1) fun _ s2 q=>q
theorem Ak {i:Nat}{x:Str}{e:Expr}{te:TE}{pos':Pos} (hN:X.N.Nodup) (hi:X.N[i]? =some x) (hx:Loc X.env.scope x) (he:PE X e te) (hs:swapsWith e (some (.Name x pos')) pos.line X.env=pure false:=by rfl) (hf:X.fn x=true\/X.env.scope.names.lookup x=some .local :=by first | exact .inl rfl | exact .inr rfl | assumption):
    PS X (.Assign [.Name x pos'] e pos) (Xu te (Nx i)):=by
  intro pins s σ H D I h
  refine wpAny_Assign_Name (thn (he pins s σ H _ I h) fun v s1 ⟨y,H1,I1,r1,q1⟩=> ?_) hs
  exact Ib I1 hN hi hx r1 (fun s2 I2=>⟨_,H1,I2,q1⟩) hf
def Adp (i j:Nat) (ta:TA):TS:=fun D σ H=>ta σ H fun vs H1=>∃v w,vs=[v,w]/\D.nx ((σ.set i (some v)).set j (some w)) H1
theorem Ho {i j:Nat}{x y:Str}{a b:Expr}{ta:TA}{px py pt:Pos}{kt k2 pt2} (hc:X.calm=true) (hN:X.N.Nodup) (hi:X.N[i]? =some x) (hj:X.N[j]? =some y) (hij:i≠j)
    (hx:X.env.scope.names.lookup x=some .local) (hy:X.env.scope.names.lookup y=some .local) (ha:PA X [a,b] ta)
    (hw:swappedStores [.Tuple [.Name x px,.Name y py] kt pt] (.Tuple [a,b] k2 pt2) X.env=pure (some [x,y]))
    (hs:swapsWithSole [.Tuple [.Name x px,.Name y py] kt pt] (.Tuple [a,b] k2 pt2) pos.line X.env=pure false:=by rfl):
    PS X (.Assign [.Tuple [.Name x px,.Name y py] kt pt] (.Tuple [a,b] k2 pt2) pos) (Adp i j ta):=by
  intro pins s σ H D I h
  rw [exec_Assign_arm]
  refine wpAny_bind (wpAny_standAt ?_)
  rw [hs]
  refine wpAny_bind (wpAny_pure ?_)
  rw [if_neg (by decide)]
  refine wpAny_bind (Tuple_ (thn (ha _ pins s σ H _ I h) fun us s1 ⟨vs,H1,I1,r1,q1⟩=> ?_))
  obtain⟨v,w,e1,q1⟩:=q1
  subst e1
  obtain⟨u1,u2,rfl,rv,rw'⟩:∃u1 u2,us=[u1,u2]/\RelV v u1/\RelV w u2:=by
    cases r1 with
    | cons p q=>
      cases q with
      | cons p' q'=>
        cases q'
        exact⟨_,_,rfl,p,p'⟩
  refine wpAny_newObj_type ?_ (by show 2<=sizeLine;decide)
  have I2:Inv X pins σ H1 { s1 with heap:=s1.heap.push { cls:= .type "tuple",data:= .seq [u1,u2].toArray}}:=I1.kept (t':=s1.toks) fun b o e=>Heap.get?_push_of_some _ e
  rw [hw]
  refine wpAny_bind (wpAny_pure ?_)
  show wpAny (model X.prog X.w) X.A (do rule "assign.swapped-stores";let items<-unpackItems (.ref s1.heap.objs.size) 2 none;assignInOrder [fun v=>bindName X.env y v,fun v=>bindName X.env x v] items.reverse;pure Flow.next) _ _ _
  refine wpAny_bind (wpAny_rule (wpAny_bind (unpackItems_tuple (items:= #[u1,u2]) (I.ok.hd hc) (IsTup.new s1.heap _) fun h' hx'=> ?_)))
  have I3:=I2.kept (h':=h') (t':=s1.toks) fun b o e=>hx' b o (Nat.ne_of_lt (Heap.lt_size e)) e
  show wpAny _ _ (assignInOrder [fun v=>bindName X.env y v,fun v=>bindName X.env x v] [u2,u1]>>=fun _=>pure Flow.next) _ _ _
  refine wpAny_bind (assignInOrder_cons (wpAny_bindName (Ib I3 hN hj (.inl hy) rw' (fun s2 I4=> ?_) (.inr hy))))
  refine assignInOrder_cons (wpAny_bindName (Ib I4 hN hi (.inl hx) rv (fun s3 I5=>assignInOrder_nil (wpAny_pure ?_)) (.inr hx)))
  rw [List.set_comm _ _ (Ne.symm hij)]at I5
  exact⟨_,H1,I5,q1⟩
end
section
variable {X:Cx}{pos:Pos}
def Pb (c:TT) (tb:TS):TS:=fun D σ H=>∃W:Nat->St->Hp->Prop,(∃m,W m σ H)/\∀m σ H,W m σ H->
  c σ H fun b H1=>if b=true then ∃N:St->Hp->Prop,(∀σ' H',N σ' H'->∃m',m'<m/\W m' σ' H')/\tb { D with nx:=N,ct:=N,bk:=D.nx} σ H1 else D.nx σ H1
theorem Ec {c:Expr}{body:List Stmt}{tc:TT}{tb:TS} (hp:PassesOwn (model X.prog X.w) X.A X.env X.xe) (hc:PT X c tc) (hb:PSs X body tb):PS X (.While c body [] pos) (Pb tc tb):=by
  intro pins s σ H D I h
  obtain⟨W,⟨m0,w0⟩,turn⟩:=h
  refine wpAny_While (codeAny_whileLoop (fun n s'=>∃σ' H',Inv X pins σ' H' s'/\W n σ' H') ?_ m0 ⟨σ,H,I,w0⟩)
  rintro n s1 ⟨σ1,H1,I1,w1⟩
  refine wpAny_passesOwn hp (thn (hc pins s1 σ1 H1 _ I1 (turn n σ1 H1 w1)) fun b s2 ⟨H2,I2,q2⟩=> ?_)
  cases b with
  | true=>
    obtain⟨N,hN,q2⟩:=q2
    rw [if_pos rfl]
    refine wpAny_passesOwn hp (thn (hb pins s2 σ1 H2 _ I2 q2) fun f s3 q3=> ?_)
    cases f with
    | next=>
      obtain⟨σ3,H3,I3,n3⟩:=q3
      obtain⟨m',hm,w3⟩:=hN σ3 H3 n3
      exact⟨m',hm,σ3,H3,I3,w3⟩
    | cont=>
      obtain⟨σ3,H3,I3,n3⟩:=q3
      obtain⟨m',hm,w3⟩:=hN σ3 H3 n3
      exact⟨m',hm,σ3,H3,I3,w3⟩
    | brk=>exact q3
    | ret v=>exact q3
  | false=>
    rw [if_neg Bool.false_ne_true]
    exact wpAny_execs_nil ⟨σ1,H2,I2,q2⟩
end
structure It where
  go:Nat->Hp->Prop
  yld:Nat->Hp->V->Hp->Prop
  stop:Nat->Hp->Prop
def Hs (X:Cx) (pins:List (Addr × Obj)) (H:Hp) (b:Addr):Prop:=
  H b=none/\b≠X.env.locals/\b∉X.fs/\(b∈X.ex\/X.s₀.heap.objs.size<=b)/\(∀x c,X.env.cells.lookup x=some c->c≠b)/\∀p∈X.pn++pins,p.1≠b
theorem Inv.fpOk {X:Cx}{pins:List (Addr × Obj)}{σ:St}{H H':Hp}{s:Shared}{b:Addr} (I:Inv X pins σ H s) (hb:s.heap.objs.size<=b) (hn:H' b=none):Hs X pins H' b:=by
  refine⟨hn,Nat.ne_of_gt (Nat.lt_of_lt_of_le I.lt hb),I.nofs hb,.inr (Nat.le_trans I.sz hb),fun x c e z=> ?_,fun p hp z=> ?_⟩
  . obtain⟨v,q⟩:=I.cell x c e
    exact absurd (Nat.lt_of_lt_of_le q.lt (by rw [z];exact hb)) (Nat.lt_irrefl _)
  . exact absurd (Nat.lt_of_lt_of_le (Heap.lt_size (I.pin p hp).1) (by rw [z];exact hb)) (Nat.lt_irrefl _)
structure Turn (P:Program) (w:World) (K:PySem.W.Frag) (tg:Expr) (J:It) (fp:List Addr) (it:Addr) (tn:Nat->Heap->Prop):Prop where
  mem:it∈fp
  obj:∀i h,tn i h->∀b∈fp,∃o,h.get? b=some o/\∀v,o.data≠ .cell v
  keep:∀i h h',tn i h->(∀b∈fp,∀o,h.get? b=some o->h'.get? b=some o)->tn i h'
  item:∀(X:Cx),X.prog=P->X.w=w->X.K=K->X.calm=true->∀(i:Nat) (pins:List (Addr × Obj)) (s:Shared) (σ:St) (H:Hp) (E:Value->Shared->Prop),Inv X pins σ H s->(∀b∈fp,Hs X pins H b)->tn i s.heap->J.go i H->
    wpAny (model P w) X.A (pyNext (.ref it)) (fun r s1=>∃u,r=some u/\
      wpAny (model P w) X.A (letOwnedTupleGo tg (.ref it) u) (fun _ s2=>∃x H',Inv X pins σ H' s2/\RelV x u/\J.yld i H x H'/\tn (i+1) s2.heap/\∀b∈fp,H' b=none) E s1) E s
  done:∀(X:Cx),X.prog=P->X.w=w->X.K=K->X.calm=true->∀(i:Nat) (pins:List (Addr × Obj)) (s:Shared) (σ:St) (H:Hp) (E:Value->Shared->Prop),Inv X pins σ H s->(∀b∈fp,Hs X pins H b)->tn i s.heap->J.stop i H->
    wpAny (model P w) X.A (pyNext (.ref it)) (fun r s1=>r=none/\Inv X pins σ H s1) E s
  self:∀(A:Around) (i:Nat) (s:Shared) (Q:Value->Shared->Prop) (E:Value->Shared->Prop),tn i s.heap->Q (.ref it) s->wpAny (model P w) A (pyIter (.ref it)) Q E s
abbrev TI:=St->Hp->(It->Hp->Prop)->Prop
def PIE (X:Cx) (pins:List (Addr × Obj)) (σ:St) (tg:Expr) (R:It->Hp->Prop) (itv:Value) (s2:Shared):Prop:=
  ∃(it:Addr) (fp:List Addr) (tn:Nat->Heap->Prop) (J:It) (H':Hp),itv= .ref it/\Inv X pins σ H' s2/\Turn X.prog X.w X.K tg J fp it tn/\tn 0 s2.heap/\(∀b∈fp,Hs X pins H' b)/\R J H'
def PI (X:Cx) (tg iter:Expr) (wi:TI):Prop:=
  ∀(pins:List (Addr × Obj)) (s:Shared) (σ:St) (H:Hp) (R:It->Hp->Prop),Inv X pins σ H s->wi σ H R->
    wpAny (model X.prog X.w) X.A (eval iter X.env) (fun v s1=>wpAny (model X.prog X.w) X.A (pyIter v) (PIE X pins σ tg R) X.xe s1) X.xe s
theorem Aao {M:Model}{A:Around}{E:Value->Shared->Prop}{s:Shared}{tg:Expr}{it:Addr}{u:Value}{o:Obj}{n:String}{vs:Array Value}{Q:Unit->Shared->Prop} (ho:s.heap.get? it=some o) (hc:o.cls= .type n) (hd:o.data= .fields vs)
    (hn:["enumerate","zip","dict_itemiterator","dict_reverseitemiterator","odict_iterator","itertools.zip_longest","itertools.pairwise"].contains n=false) (hQ:Q () s):wpAny M A (letOwnedTupleGo tg (.ref it) u) Q E s:=by
  unfold letOwnedTupleGo
  cases tg<;>first
    | exact wpAny_pure hQ
    | (cases u<;>first
        | exact wpAny_pure hQ
        | (refine wpAny_bind (wpAny_load ho ?_)
           rw [hc,hd]
           show wpAny M A (if(["enumerate","zip","dict_itemiterator","dict_reverseitemiterator","odict_iterator","itertools.zip_longest","itertools.pairwise"].contains n&&vs[0]? ==some (rawInt _))=true then _ else _) Q E s
           rw [if_neg (by intro h;rw [hn,Bool.false_and]at h;cases h)]
           exact wpAny_pure hQ))
def Itl (K:PySem.W.Frag) (a:Addr):It:=
  ⟨fun i H=>∃xs x,SqL K H a xs/\xs[i]? =some x,fun i H x H'=>H'=H/\∀xs,SqL K H a xs->xs[i]? =some x,fun i H=>∃xs,SqL K H a xs/\xs.length<=i⟩
def Itt (K:PySem.W.Frag) (a:Addr):It:=
  ⟨fun i H=>∃xs x,SqT K H a xs/\xs[i]? =some x,fun i H x H'=>H'=H/\∀xs,SqT K H a xs->xs[i]? =some x,fun i H=>∃xs,SqT K H a xs/\xs.length<=i⟩
def Itr (lo:Int) (n:Nat):It:=⟨fun i _=>i<n,fun i H x H'=>H'=H/\x= .int (lo+i),fun i _=>n<=i⟩
theorem Mt {P:Program}{w:World}{K:PySem.W.Frag}{tg:Expr} (a it:Addr):Turn P w K tg (Itl K a) [it] it (fun i h=>h.IsListIter it a i) where
  mem:=by simp
  obj:=fun i h st b hb=>by
    have e:b=it:=by simpa using hb
    subst e
    obtain⟨o,e,c,d⟩:=st
    exact⟨o,e,fun v z=>by rw [d]at z;cases z⟩
  keep:=fun i h h' st k=>st.at fun o e=>k it (by simp) o e
  item:=by
    intro X hP hw hK hc i pins s σ H E I hf st hg
    subst hP hw hK
    obtain⟨xs,x,hq,hx⟩:=hg
    obtain⟨its,rv,p,hz⟩:=I.list hq
    obtain⟨u,hu,ru⟩:=rv.get hx
    obtain⟨f0,f1,f2,f3,f4,f5⟩:=hf it (by simp)
    refine wpAny_pyNext_list_item st p.isList (x:=u) (by simpa using hu) fun h' st' sb=> ?_
    have I1:Inv X pins σ H { s with heap:=h'}:=I.turned (t':=s.toks) (fun b o hb e=>(sb.2 b hb).trans e) f0 f1 f3 f4 f5
    obtain⟨o,e,c,d⟩:=id st'
    exact⟨u,rfl,Aao (s:={ s with heap:=h'}) e c d (by decide) ⟨x,H,I1,ru,⟨rfl,fun ys hy=>by rw [I.list_inj hy hq];exact hx⟩,st',fun b hb=>(hf b hb).1⟩⟩
  done:=by
    intro X hP hw hK hc i pins s σ H E I hf st hg
    subst hP hw hK
    obtain⟨xs,hq,hx⟩:=hg
    obtain⟨its,rv,p,hz⟩:=I.list hq
    obtain⟨f0,f1,f2,f3,f4,f5⟩:=hf it (by simp)
    have hl:=rv.length
    exact wpAny_pyNext_list_end (I.ok.hd hc) st p.isList (by simp;omega) fun h' eb=>⟨rfl,I.turned (t':=s.toks) (fun b o hb e=>eb b o hb e) f0 f1 f3 f4 f5⟩
  self:=fun _ _ _ _ _ st h=>wpAny_pyIter_listiter st h
theorem Kc {P:Program}{w:World}{K:PySem.W.Frag}{tg:Expr} (a it:Addr):Turn P w K tg (Itt K a) [it] it (fun i h=>h.IsTupleIter it a i) where
  mem:=by simp
  obj:=fun i h st b hb=>by
    have e:b=it:=by simpa using hb
    subst e
    obtain⟨o,e,c,d⟩:=st
    exact⟨o,e,fun v z=>by rw [d]at z;cases z⟩
  keep:=fun i h h' st k=>st.at fun o e=>k it (by simp) o e
  item:=by
    intro X hP hw hK hc i pins s σ H E I hf st hg
    subst hP hw hK
    obtain⟨xs,x,hq,hx⟩:=hg
    obtain⟨its,rv,p,hz⟩:=I.tuple hq
    obtain⟨u,hu,ru⟩:=rv.get hx
    obtain⟨f0,f1,f2,f3,f4,f5⟩:=hf it (by simp)
    refine wpAny_pyNext_tuple_item st (show s.heap.IsTuple a its.toArray from p) (x:=u) (by simpa using hu) fun h' st' sb=> ?_
    have I1:Inv X pins σ H { s with heap:=h'}:=I.turned (t':=s.toks) (fun b o hb e=>(sb.2 b hb).trans e) f0 f1 f3 f4 f5
    obtain⟨o,e,c,d⟩:=id st'
    exact⟨u,rfl,Aao (s:={ s with heap:=h'}) e c d (by decide) ⟨x,H,I1,ru,⟨rfl,fun ys hy=>by rw [I.tuple_inj hy hq];exact hx⟩,st',fun b hb=>(hf b hb).1⟩⟩
  done:=by
    intro X hP hw hK hc i pins s σ H E I hf st hg
    subst hP hw hK
    obtain⟨xs,hq,hx⟩:=hg
    obtain⟨its,rv,p,hz⟩:=I.tuple hq
    obtain⟨f0,f1,f2,f3,f4,f5⟩:=hf it (by simp)
    have hl:=rv.length
    exact wpAny_pyNext_tuple_end (I.ok.hd hc) st (show s.heap.IsTuple a its.toArray from p) (by simp;omega) fun h' eb=>⟨rfl,I.turned (t':=s.toks) (fun b o hb e=>eb b o hb e) f0 f1 f3 f4 f5⟩
  self:=fun _ _ _ _ _ st h=>wpAny_pyIter_tupleiter st h
theorem Q8 {P:Program}{w:World}{K:PySem.W.Frag}{tg:Expr} (it:Addr) (lo:Int) (n:Nat):Turn P w K tg (Itr lo n) [it] it (fun i h=>IsRangeIter h it (lo+(i:Nat)*1) ((n:Int)-(i:Nat)) 1) where
  mem:=by simp
  obj:=fun i h st b hb=>by
    have e:b=it:=by simpa using hb
    subst e
    exact⟨_,st,fun v z=>by
      have z':Data.fields _=Data.cell v:=z
      cases z'⟩
  keep:=fun i h h' st k=>k it (by simp) _ st
  item:=by
    intro X hP hw hK hc i pins s σ H E I hf st hg
    subst hP hw hK
    obtain⟨f0,f1,f2,f3,f4,f5⟩:=hf it (by simp)
    have W:=Walks.range (prog:=X.prog) (w:=X.w) (I.ok.hd hc) it lo 1 n
    refine W.item i s _ _ hg st fun v h' tk hv st' kk=> ?_
    obtain⟨t,rfl⟩:=hv
    have I1:Inv X pins σ H { s with heap:=h',toks:=tk}:=I.turned (fun b o hb e=>kk b o (by simpa using hb) e) f0 f1 f3 f4 f5
    refine⟨_,rfl,Aao (s:={ s with heap:=h',toks:=tk}) (n:="range_iterator") st' rfl rfl (by decide) ⟨.int (lo+i),H,I1,⟨t,?_⟩,⟨rfl,rfl⟩,st',fun b hb=>(hf b hb).1⟩⟩
    rw [Int.mul_one]
  done:=by
    intro X hP hw hK hc i pins s σ H E I hf st hg
    subst hP hw hK
    obtain⟨f0,f1,f2,f3,f4,f5⟩:=hf it (by simp)
    exact wpAny_pyNext_range_end (I.ok.hd hc) st (by have:n<=i:=hg;omega) fun h' eb=>⟨rfl,I.turned (t':=s.toks) (fun b o hb e=>eb b o hb e) f0 f1 f3 f4 f5⟩
  self:=fun _ _ _ _ _ st h=>wpAny_pyIter_rangeiter st h
end L2
namespace L2
open PySem PySem.Spec PyProof.Rows
section
variable {X:Cx}{tg:Expr}
def Zo (K:PySem.W.Frag) (tl:TE):TI:=fun σ H R=>tl σ H fun x H1=>∃a,x= .ref a/\(∃xs,SqL K H1 a xs)/\R (Itl K a) H1
def Aci (K:PySem.W.Frag) (tl:TE):TI:=fun σ H R=>tl σ H fun x H1=>∃a,x= .ref a/\(∃xs,SqT K H1 a xs)/\R (Itt K a) H1
theorem Eu {l:Expr}{tl:TE} (hl:PE X l tl):PI X tg l (Zo X.K tl):=by
  intro pins s σ H R I h
  refine thn (hl pins s σ H _ I h) fun v s1 ⟨x,H1,I1,r1,q1⟩=> ?_
  obtain⟨a,e,⟨xs,hq⟩,q⟩:=q1
  subst e
  cases r1
  obtain⟨its,rv,p,hz⟩:=I1.list hq
  refine wpAny_pyIter_list p.isList ?_
  refine⟨s1.heap.objs.size,[s1.heap.objs.size],_,_,H1,rfl,I1.kept (t':=s1.toks) fun b o e=>Heap.get?_push_of_some _ e,Mt a _,⟨_,Heap.get?_push_size _ rfl,rfl,rfl⟩,fun b hb=> ?_,q⟩
  have e:b=s1.heap.objs.size:=by simpa using hb
  subst e
  exact I1.fpOk (Nat.le_refl _) (I1.hok.fresh (Nat.le_refl _))
theorem Dn {l:Expr}{tl:TE} (hl:PE X l tl):PI X tg l (Aci X.K tl):=by
  intro pins s σ H R I h
  refine thn (hl pins s σ H _ I h) fun v s1 ⟨x,H1,I1,r1,q1⟩=> ?_
  obtain⟨a,e,⟨xs,hq⟩,q⟩:=q1
  subst e
  cases r1
  obtain⟨its,rv,p,hz⟩:=I1.tuple hq
  refine wpAny_pyIter_tuple (show s1.heap.IsTuple a its.toArray from p) ?_
  refine⟨s1.heap.objs.size,[s1.heap.objs.size],_,_,H1,rfl,I1.kept (t':=s1.toks) fun b o e=>Heap.get?_push_of_some _ e,Kc a _,⟨_,Heap.get?_push_size _ rfl,rfl,rfl⟩,fun b hb=> ?_,q⟩
  have e:b=s1.heap.objs.size:=by simpa using hb
  subst e
  exact I1.fpOk (Nat.le_refl _) (I1.hok.fresh (Nat.le_refl _))
theorem Xl {pins:List (Addr × Obj)}{σ:St}{H:Hp}{s:Shared}{R:It->Hp->Prop}{E:Value->Shared->Prop}{lo hi:Int}{t u v:Tok}{tk:Nat} (I:Inv X pins σ H s) (h1: -(2^62)<=lo) (h2:lo<2^62) (h3: -(2^62)<=hi) (h4:hi<2^62)
    (q:R (Itr lo (hi-lo).toNat) H):wpAny (model X.prog X.w) X.A (pyIter (.ref s.heap.objs.size)) (PIE X pins σ tg R) E { s with heap:=s.heap.push { cls:= .type "range",data:= .fields #[.int lo t,.int hi u,.int 1 v]},toks:=tk}:=by
  refine wpAny_pyIter_range (IsRange.new ..) (small_one h1 h2 h3 h4) ?_
  have I1:Inv X pins σ H { s with heap:=s.heap.push { cls:= .type "range",data:= .fields #[.int lo t,.int hi u,.int 1 v]},toks:=tk}:=I.kept fun b o e=>Heap.get?_push_of_some _ e
  refine⟨(s.heap.push { cls:= .type "range",data:= .fields #[.int lo t,.int hi u,.int 1 v]}).objs.size,[(s.heap.push { cls:= .type "range",data:= .fields #[.int lo t,.int hi u,.int 1 v]}).objs.size],_,_,H,rfl,
    I1.kept (t':=tk) fun b o e=>Heap.get?_push_of_some _ e,Q8 _ lo (hi-lo).toNat,?_,fun b hb=> ?_,q⟩
  . have e1:lo+((0:Nat):Int)*1=lo:=by simp
    have e2:(((hi-lo).toNat:Nat):Int)-((0:Nat):Int)=Builtin.Range.rangeSize lo hi 1:=by rw [rangeSize_one];split<;>omega
    show IsRangeIter _ _ (lo+((0:Nat):Int)*1) ((((hi-lo).toNat:Nat):Int)-((0:Nat):Int)) 1
    rw [e1,e2]
    exact Heap.get?_push_size _ rfl
  . have e:b=(s.heap.push { cls:= .type "range",data:= .fields #[.int lo t,.int hi u,.int 1 v]}).objs.size:=by simpa using hb
    subst e
    exact I1.fpOk (Nat.le_refl _) (I1.hok.fresh (Nat.le_refl _))
def Yu (ta:TA):TI:=fun σ H R=>ta σ H fun vs H1=>∃j:Int,vs=[.int j]/\ -(2^62)<=j/\j<2^62/\R (Itr 0 j.toNat) H1
def Ad3 (ta:TA):TI:=fun σ H R=>ta σ H fun vs H1=>∃i j:Int,vs=[.int i,.int j]/\(-(2^62)<=i/\i<2^62/\ -(2^62)<=j/\j<2^62)/\R (Itr i (j-i).toNat) H1
theorem Bl {a:Expr}{ta:TA}{p pos:Pos} (hg:Gl X "range") (hm:X.mg "range"=none) (ha:PA X [a] ta) (hs:starEach [a] X.env=[(false,eval a X.env)]:=by rfl):PI X tg (.Call (.Name "range" p) [a] [] pos) (Yu ta):=by
  intro pins s σ H R I h
  refine Call_ (Gs I hg hm boot_range (PyProof.Rows.callWith_type1 (thn (ha pos pins s σ H _ I h) fun us s1 ⟨vs,H1,I1,r1,q1⟩=> ?_) hs rfl))
  obtain⟨j,e,q1,q2,q⟩:=q1
  subst e
  cases r1 with
  | cons r rr=>
    cases rr
    obtain⟨t,rfl⟩:=r
    exact call_range_1 (Xl I1 (by omega) (by omega) q1 q2 (by simpa using q))
def Adf (wi:TI) (g:TG) (tb:TS):TS:=fun D σ H=>wi σ H fun J H1=>∃W:Nat->Nat->St->Hp->Prop,(∃m,W 0 m σ H1)/\∀i m σ H,W i m σ H->
  (J.stop i H/\D.nx σ H)\/(J.go i H/\∃N:St->Hp->Prop,(∀σ' H',N σ' H'->∃m',m'<m/\W (i+1) m' σ' H')/\∀x H',J.yld i H x H'->g x σ H' fun σ2 H2=>tb { D with nx:=N,ct:=N,bk:=D.nx} σ2 H2)
def Ko (fp:List Addr) (h:Heap):List (Addr × Obj):=fp.filterMap fun b=>(h.get? b).map fun o=>(b,o)
theorem Cr {fp:List Addr}{h:Heap}{b:Addr}{o:Obj} (hb:b∈fp) (e:h.get? b=some o):(b,o)∈Ko fp h:=List.mem_filterMap.mpr ⟨b,hb,by rw [e];rfl⟩
theorem Vp {fp:List Addr}{h:Heap}{p:Addr × Obj} (hp:p∈Ko fp h):p.1∈fp/\h.get? p.1=some p.2:=by
  obtain⟨b,hb,e⟩:=List.mem_filterMap.mp hp
  cases q:h.get? b with
  | none=>rw [q]at e;cases e
  | some o=>
    rw [q]at e
    have e':(b,o)=p:=Option.some.inj e
    subst e'
    exact⟨hb,q⟩
theorem Inv.pinned {pins:List (Addr × Obj)}{σ:St}{H:Hp}{s:Shared}{fp:List Addr} (I:Inv X pins σ H s) (hf:∀b∈fp,Hs X pins H b) (ho:∀b∈fp,∃o,s.heap.get? b=some o/\∀v,o.data≠ .cell v):Inv X (pins++Ko fp s.heap) σ H s:=
  I.pins_of fun p hp=>(List.mem_append.mp hp).elim (fun z=>I.pin p (List.mem_append_right _ z)) fun z=>by
    obtain⟨hb,e⟩:=Vp z
    obtain⟨f0,f1,f2,_⟩:=hf p.1 hb
    obtain⟨o,e',d⟩:=ho p.1 hb
    rw [e]at e';cases e'
    exact⟨e,f0,f1,f2,d⟩
theorem Inv.unpinned {pins pl:List (Addr × Obj)}{σ:St}{H:Hp}{s:Shared} (I:Inv X (pins++pl) σ H s):Inv X pins σ H s:=I.pins_of fun p hp=>I.pin p (List.mem_append_right _ (List.mem_append_left _ hp))
theorem Bt {iter:Expr}{body:List Stmt}{wi:TI}{g:TG}{tb:TS}{pos:Pos} (hp:PassesOwn (model X.prog X.w) X.A X.env X.xe) (hc:X.calm=true) (hi:PI X tg iter wi) (hg:PG X tg g) (hb:PSs X body tb)
    (hs:∀x,foldedSetIterable iter X.env x=pure x:=by intro _;rfl):PS X (.For tg iter body [] pos) (Adf wi g tb):=by
  intro pins s σ H D I h
  refine wpAny_For (thn (hi pins s σ H _ I h) fun v s1 h1=>thn h1 fun itv s2 h2=> ?_) hs
  obtain⟨it,fp,tn,J,H2,e,I2,T,st2,f2,W,⟨m0,w0⟩,turn⟩:=h2
  subst e
  have stat:∀ {H':Hp},(∀b∈fp,H' b=none)->∀b∈fp,Hs X pins H' b:=fun hn b hb=>⟨hn b hb,(f2 b hb).2⟩
  refine codeAny_forLoop_any (fun n s'=>∃i σ' H',Inv X pins σ' H' s'/\tn i s'.heap/\(∀b∈fp,H' b=none)/\W i n σ' H') ?_ m0 ⟨0,σ,H2,I2,st2,fun b hb=>(f2 b hb).1,w0⟩
  rintro n s3 ⟨i,σ3,H3,I3,st3,fr3,w3⟩
  rcases turn i n σ3 H3 w3 with⟨stop,qn⟩ | ⟨go,N,hN,step⟩
  . refine wpAny_passesOwn hp (thn (T.done X rfl rfl rfl hc i pins s3 σ3 H3 X.xe I3 (stat fr3) st3 stop) fun r s4 ⟨hr,I4⟩=> ?_)
    subst hr
    exact wpAny_execs_nil ⟨σ3,H3,I4,qn⟩
  . refine wpAny_passesOwn hp (thn (T.item X rfl rfl rfl hc i pins s3 σ3 H3 X.xe I3 (stat fr3) st3 go) fun r s4 ⟨u,hr,h4⟩=> ?_)
    subst hr
    refine wpAny_passesOwn hp (thn h4 fun _ s5 ⟨x,H5,I5,r5,y5,st5,fr5⟩=> ?_)
    have I5':=I5.pinned (stat fr5) (T.obj _ _ st5)
    refine wpAny_passesOwn hp (thn (hg _ s5 σ3 H5 x u _ I5' r5 (step x H5 y5)) fun _ s6 ⟨σ6,H6,I6,q6⟩=> ?_)
    refine wpAny_passesOwn hp (thn (hb _ s6 σ6 H6 _ I6 q6) fun f s7 q7=> ?_)
    have again:∀ {σ7:St}{H7:Hp},Inv X (pins++Ko fp s5.heap) σ7 H7 s7->N σ7 H7->∃m,m<n/\∃i σ' H',Inv X pins σ' H' s7/\tn i s7.heap/\(∀b∈fp,H' b=none)/\W i m σ' H':=fun {σ7 H7} I7 n7=>by
      obtain⟨m',hm,w7⟩:=hN σ7 H7 n7
      refine⟨m',hm,i+1,σ7,H7,I7.unpinned,T.keep _ _ _ st5 fun b hb o e=>(I7.pin (b,o) (List.mem_append_right _ (List.mem_append_right _ (Cr hb e)))).1,fun b hb=> ?_,w7⟩
      obtain⟨o,e,d⟩:=T.obj _ _ st5 b hb
      exact(I7.pin (b,o) (List.mem_append_right _ (List.mem_append_right _ (Cr hb e)))).2.1
    cases f with
    | next=>obtain⟨σ7,H7,I7,n7⟩:=q7;exact again I7 n7
    | cont=>obtain⟨σ7,H7,I7,n7⟩:=q7;exact again I7 n7
    | brk=>obtain⟨σ7,H7,I7,q7⟩:=q7;exact⟨σ7,H7,I7.unpinned,q7⟩
    | ret v=>obtain⟨x7,σ7,H7,I7,r7,q7⟩:=q7;exact⟨x7,σ7,H7,I7.unpinned,r7,q7⟩
end
theorem W9 {c:TT}{tb:TS}{D:Ends}{σ:St}{H:Hp} (Pv:St->Hp->Prop) (μ:St->Hp->Nat) (h0:Pv σ H)
    (hs:∀σ H,Pv σ H->c σ H fun b H1=>if b=true then tb { D with nx:=fun σ' H'=>Pv σ' H'/\μ σ' H'<μ σ H,ct:=fun σ' H'=>Pv σ' H'/\μ σ' H'<μ σ H,bk:=D.nx} σ H1 else D.nx σ H1)
    (mono:∀σ H Q Q',(∀b H1,Q b H1->Q' b H1)->c σ H Q->c σ H Q'):Pb c tb D σ H:=by
  refine⟨fun m σ H=>m=μ σ H/\Pv σ H,⟨_,rfl,h0⟩,?_⟩
  rintro m σ H ⟨rfl,p⟩
  refine mono σ H _ _ (fun b H1 q=> ?_) (hs σ H p)
  cases b with
  | true=>exact⟨_,fun σ' H' ⟨p',l⟩=>⟨_,l,rfl,p'⟩,q⟩
  | false=>exact q
end L2
namespace L2
open PySem PySem.Spec PyProof.Rows
abbrev R2:=V->V->Hp->VK->Prop
def OpR (X:Cx) (f:Value->Value->Sem Value) (r:R2):Prop:=
  ∀(pins:List (Addr × Obj)) (s:Shared) (σ:St) (H:Hp) (x y:V) (v u:Value) (Q:VK),Inv X pins σ H s->RelV x v->RelV y u->r x y H Q->
    wpAny (model X.prog X.w) X.A (f v u) (EP X pins σ Q) X.xe s
def UnR (X:Cx) (f:Value->Sem Value) (r:V->Hp->VK->Prop):Prop:=
  ∀(pins:List (Addr × Obj)) (s:Shared) (σ:St) (H:Hp) (x:V) (v:Value) (Q:VK),Inv X pins σ H s->RelV x v->r x H Q->
    wpAny (model X.prog X.w) X.A (f v) (EP X pins σ Q) X.xe s
def Dv (X:Cx) (f:Value) (r:List V->Hp->VK->Prop):Prop:=
  ∀(pins:List (Addr × Obj)) (s:Shared) (σ:St) (H:Hp) (xs:List V) (us:List Value) (Q:VK),Inv X pins σ H s->Vals xs us->r xs H Q->
    wpAny (model X.prog X.w) X.A (call f us) (EP X pins σ Q) X.xe s
def tOp (r:R2) (ta tb:TE):TE:=fun σ H Q=>ta σ H fun x H1=>tb σ H1 fun y H2=>r x y H2 Q
def tUn (r:V->Hp->VK->Prop) (ta:TE):TE:=fun σ H Q=>ta σ H fun x H1=>r x H1 Q
def rI (C:Int->Int->Prop) (g:Int->Int->V):R2:=fun x y H Q=>∃i j,x= .int i/\y= .int j/\C i j/\Q (g i j) H
def rI0 (g:Int->Int->V):R2:=fun x y H Q=>∃i j,x= .int i/\y= .int j/\Q (g i j) H
def rU (g:Int->V):V->Hp->VK->Prop:=fun x H Q=>∃i,x= .int i/\Q (g i) H
section
variable {X:Cx}{a b c:Expr}{ta tb tc:TE}{pos:Pos}
theorem Ac7 (ha:PE X a ta) (hb:PE X b tb) {pins:List (Addr × Obj)}{s:Shared}{σ:St}{H:Hp}{R:V->V->Hp->Prop} (I:Inv X pins σ H s)
    (h:ta σ H fun x H1=>tb σ H1 fun y H2=>R x y H2) {Q:Value->Shared->Prop}{f:Value->Value->Sem Value}
    (hf:∀v u s2 x y H2,Inv X pins σ H2 s2->RelV x v->RelV y u->R x y H2->wpAny (model X.prog X.w) X.A (f v u) Q X.xe s2):
    wpAny (model X.prog X.w) X.A (eval a X.env) (fun v s₁=>wpAny (model X.prog X.w) X.A (eval b X.env) (fun u s₂=>wpAny (model X.prog X.w) X.A (f v u) Q X.xe s₂) X.xe s₁) X.xe s:=by
  refine thn (ha pins s σ H _ I h) fun v s1 ⟨x,H1,I1,r1,q1⟩=> ?_
  refine thn (hb pins s1 σ H1 _ I1 q1) fun u s2 ⟨y,H2,I2,r2,q2⟩=> ?_
  exact hf v u s2 x y H2 I2 r1 r2 q2
theorem Aj {op:Operator}{r:R2} (ho:OpR X (binaryOp op) r) (ha:PE X a ta) (hb:PE X b tb):PE X (.BinOp a op b pos) (tOp r ta tb):=by
  intro pins s σ H Q I h
  exact wpAny_BinOp (Ac7 ha hb I h fun v u s2 x y H2 I2 rx ry q=>ho pins s2 σ H2 x y v u Q I2 rx ry q)
theorem Wy {op:UnaryOp}{r:V->Hp->VK->Prop} (ho:UnR X (unaryOp op) r) (ha:PE X a ta):PE X (.UnaryOp op a pos) (tUn r ta):=by
  intro pins s σ H Q I h
  exact UnaryOp_ (thn (ha pins s σ H _ I h) fun v s1 ⟨x,H1,I1,r1,q1⟩=>ho pins s1 σ H1 x v Q I1 r1 q1)
theorem opI {f:Value->Value->Sem Value}{C:Int->Int->Prop}{g:Int->Int->Int}
    (rule:∀(i j:Int) (t u:Tok) (s:Shared) (Q:Value->Shared->Prop) (E:Value->Shared->Prop),C i j->Q (.int (g i j) s.toks) { s with toks:=s.toks+1}->wpAny (model X.prog X.w) X.A (f (.int i t) (.int j u)) Q E s):
    OpR X f (rI C fun i j=> .int (g i j)):=by
  intro pins s σ H x y v u Q I rx ry h
  obtain⟨i,j,rfl,rfl,hc,q⟩:=h
  obtain⟨t,rfl⟩:=rx
  obtain⟨t',rfl⟩:=ry
  exact rule i j t t' s _ _ hc ⟨.int (g i j),H,I.tok _,⟨_,rfl⟩,q⟩
theorem Aei {f:Value->Value->Sem Value}{g:Int->Int->Int}
    (rule:∀(i j:Int) (t u:Tok) (s:Shared) (Q:Value->Shared->Prop) (E:Value->Shared->Prop),Q (.int (g i j) s.toks) { s with toks:=s.toks+1}->wpAny (model X.prog X.w) X.A (f (.int i t) (.int j u)) Q E s):
    OpR X f (rI0 fun i j=> .int (g i j)):=by
  intro pins s σ H x y v u Q I rx ry h
  obtain⟨i,j,rfl,rfl,q⟩:=h
  obtain⟨t,rfl⟩:=rx
  obtain⟨t',rfl⟩:=ry
  exact rule i j t t' s _ _ ⟨.int (g i j),H,I.tok _,⟨_,rfl⟩,q⟩
theorem Adb {f:Value->Value->Sem Value}{g:Int->Int->Bool}
    (rule:∀(i j:Int) (t u:Tok) (s:Shared) (Q:Value->Shared->Prop) (E:Value->Shared->Prop),Q (.bool (g i j)) s->wpAny (model X.prog X.w) X.A (f (.int i t) (.int j u)) Q E s):
    OpR X f (rI0 fun i j=> .bl (g i j)):=by
  intro pins s σ H x y v u Q I rx ry h
  obtain⟨i,j,rfl,rfl,q⟩:=h
  obtain⟨t,rfl⟩:=rx
  obtain⟨t',rfl⟩:=ry
  exact rule i j t t' s _ _ ⟨.bl (g i j),H,I,rfl,q⟩
def Aew (i j:Int):Prop:=0<j/\j<1073741824
def Aev (i j:Int):Prop:=0<=j/\j<=1000000/\i.natAbs<2^64
def Aem (i j:Int):Prop:=(-(2^64)<i/\i<2^64)\/(-(2^64)<j/\j<2^64)
theorem Aem.ok {i j:Int} (h:Aem i j):IntMulOk i j:=by
  rcases h with⟨h1,h2⟩ | ⟨h1,h2⟩
  . exact .of_left (intBits_le_64 h1 h2)
  . exact .of_right (intBits_le_64 h1 h2)
theorem Bc:OpR X (binaryOp .Add) (rI0 fun i j=> .int (i+j)):=Aei fun _ _ _ _ _ _ _ q=>add_int q
theorem Im:OpR X (binaryOp .Sub) (rI0 fun i j=> .int (i-j)):=Aei fun _ _ _ _ _ _ _ q=>sub_int q
theorem Fj:OpR X (binaryOp .Mod) (rI (fun _ j=>0<j) fun i j=> .int (i%j)):=opI fun i j _ _ _ _ _ hc q=>by
  have h1:(0:Int)<j:=hc
  exact mod_int' (by omega) (by rw [Int.fmod_eq_emod_of_nonneg i (by omega)];exact q)
theorem Fe:OpR X (binaryOp .Pow) (rI Aev fun i j=> .int (i^j.toNat)):=opI fun _ _ _ _ _ _ _ hc q=>pow_int_small hc.1 hc.2.1 hc.2.2 q
theorem unI {f:Value->Sem Value}{g:Int->Int}
    (rule:∀(i:Int) (t:Tok) (s:Shared) (Q:Value->Shared->Prop) (E:Value->Shared->Prop),Q (.int (g i) s.toks) { s with toks:=s.toks+1}->wpAny (model X.prog X.w) X.A (f (.int i t)) Q E s):
    UnR X f (rU fun i=> .int (g i)):=by
  intro pins s σ H x v Q I rx h
  obtain⟨i,rfl,q⟩:=h
  obtain⟨t,rfl⟩:=rx
  exact rule i t s _ _ ⟨.int (g i),H,I.tok _,⟨_,rfl⟩,q⟩
theorem Xy:UnR X (unaryOp .USub) (rU fun i=> .int (-i)):=unI fun _ _ _ _ _ q=>neg_int q
end
def Aa7:V->V->Bool
  | .non,.non=>true | .non,.int _=>true | .int _,.non=>true | .non,.bl _=>true | .bl _,.non=>true | .non,.str _=>true | .str _,.non=>true
  | .int _,.int _=>true | .bl _,.bl _=>true | .str _,.str _=>true | .byt _,.byt _=>true
  | .int _,.str _=>true | .str _,.int _=>true | .bl _,.str _=>true | .str _,.bl _=>true
  | _,_=>false
def rEq:R2:=fun x y H Q=>Aa7 x y=true/\Q (.bl (decide (x=y))) H
def rNe:R2:=fun x y H Q=>Aa7 x y=true/\Q (.bl (!decide (x=y))) H
theorem U0 {i j:Int}:decide (V.int i=V.int j)=(i==j):=by
  rw [Bool.eq_iff_iff]
  simp
theorem X3 {i j:Bool}:decide (V.bl i=V.bl j)=(i==j):=by
  rw [Bool.eq_iff_iff]
  simp
theorem Vb {i j:Str}:decide (V.str i=V.str j)=(i==j):=by
  rw [Bool.eq_iff_iff]
  simp
theorem Vo {i j:Array UInt8}:decide (V.byt i=V.byt j)=(i.toList==j.toList):=by
  rw [Bool.eq_iff_iff]
  cases i
  cases j
  simp
section
variable {X:Cx}{a b c:Expr}{ta tb tc:TE}{pos:Pos}
theorem Bg {pins:List (Addr × Obj)}{σ:St}{H:Hp}{s:Shared}{Q:VK}{k k':Bool} (I:Inv X pins σ H s) (q:Q (.bl k) H) (e:k=k'):EP X pins σ Q (.bool k') s:=by
  subst e
  exact⟨.bl k,H,I,rfl,q⟩
theorem M5:OpR X (compareOp .Eq) rEq:=by
  intro pins s σ H x y v u Q I rx ry h
  obtain⟨hs,q⟩:=h
  cases x with
  | non=>
    cases rx
    cases y with
    | non=>cases ry;exact PySem.EqNone.eq_none_none (Bg I q (by simp))
    | bl j=>cases ry;exact PySem.EqNone.eq_none_bool (Bg I q (by simp))
    | int j=>obtain⟨t',rfl⟩:=ry;exact PySem.EqNone.eq_none_int (Bg I q (by simp))
    | str j=>obtain⟨t',rfl⟩:=ry;exact PySem.EqNone.eq_none_str (Bg I q (by simp))
    | _=>exact absurd (show false=true from hs) Bool.false_ne_true
  | bl i=>
    cases rx
    cases y with
    | non=>cases ry;exact PySem.EqNone.eq_bool_none (Bg I q (by simp))
    | bl j=>cases ry;exact eq_bool (Bg I q X3)
    | str j=>obtain⟨t',rfl⟩:=ry;exact PySem.EqMixed.eq_bool_str (Bg I q (by simp))
    | _=>exact absurd (show false=true from hs) Bool.false_ne_true
  | int i=>
    obtain⟨t,rfl⟩:=rx
    cases y with
    | non=>cases ry;exact PySem.EqNone.eq_int_none (Bg I q (by simp))
    | int j=>obtain⟨t',rfl⟩:=ry;exact eq_int (Bg I q U0)
    | str j=>obtain⟨t',rfl⟩:=ry;exact PySem.EqMixed.eq_int_str (Bg I q (by simp))
    | _=>exact absurd (show false=true from hs) Bool.false_ne_true
  | str i=>
    obtain⟨t,rfl⟩:=rx
    cases y with
    | non=>cases ry;exact PySem.EqNone.eq_str_none (Bg I q (by simp))
    | bl j=>cases ry;exact PySem.EqMixed.eq_str_bool (Bg I q (by simp))
    | int j=>obtain⟨t',rfl⟩:=ry;exact PySem.EqMixed.eq_str_int (Bg I q (by simp))
    | str j=>obtain⟨t',rfl⟩:=ry;exact eq_str (Bg I q Vb)
    | _=>exact absurd (show false=true from hs) Bool.false_ne_true
  | byt i=>
    obtain⟨t,rfl⟩:=rx
    cases y with
    | byt j=>obtain⟨t',rfl⟩:=ry;exact PySem.W.eq_bytes (Bg I q Vo)
    | _=>exact absurd (show false=true from hs) Bool.false_ne_true
  | _=>cases y<;>exact absurd (show false=true from hs) Bool.false_ne_true
theorem Jy:OpR X (compareOp .NotEq) rNe:=by
  intro pins s σ H x y v u Q I rx ry h
  obtain⟨hs,q⟩:=h
  cases x with
  | non=>
    cases rx
    cases y with
    | non=>cases ry;exact PySem.EqNone.ne_none_none (Bg I q (by simp))
    | bl j=>cases ry;exact PySem.EqNone.ne_none_bool (Bg I q (by simp))
    | int j=>obtain⟨t',rfl⟩:=ry;exact PySem.EqNone.ne_none_int (Bg I q (by simp))
    | str j=>obtain⟨t',rfl⟩:=ry;exact PySem.EqNone.ne_none_str (Bg I q (by simp))
    | _=>exact absurd (show false=true from hs) Bool.false_ne_true
  | bl i=>
    cases rx
    cases y with
    | non=>cases ry;exact PySem.EqNone.ne_bool_none (Bg I q (by simp))
    | bl j=>cases ry;exact ne_bool (Bg I q (congrArg not X3))
    | str j=>obtain⟨t',rfl⟩:=ry;exact PySem.EqMixed.ne_bool_str (Bg I q (by simp))
    | _=>exact absurd (show false=true from hs) Bool.false_ne_true
  | int i=>
    obtain⟨t,rfl⟩:=rx
    cases y with
    | non=>cases ry;exact PySem.EqNone.ne_int_none (Bg I q (by simp))
    | int j=>obtain⟨t',rfl⟩:=ry;exact ne_int (Bg I q (congrArg not U0))
    | str j=>obtain⟨t',rfl⟩:=ry;exact PySem.EqMixed.ne_int_str (Bg I q (by simp))
    | _=>exact absurd (show false=true from hs) Bool.false_ne_true
  | str i=>
    obtain⟨t,rfl⟩:=rx
    cases y with
    | non=>cases ry;exact PySem.EqNone.ne_str_none (Bg I q (by simp))
    | bl j=>cases ry;exact PySem.EqMixed.ne_str_bool (Bg I q (by simp))
    | int j=>obtain⟨t',rfl⟩:=ry;exact PySem.EqMixed.ne_str_int (Bg I q (by simp))
    | str j=>obtain⟨t',rfl⟩:=ry;exact ne_str (Bg I q (congrArg not Vb))
    | _=>exact absurd (show false=true from hs) Bool.false_ne_true
  | byt i=>
    obtain⟨t,rfl⟩:=rx
    cases y with
    | byt j=>obtain⟨t',rfl⟩:=ry;exact PySem.W.ne_bytes (Bg I q (congrArg not Vo))
    | _=>exact absurd (show false=true from hs) Bool.false_ne_true
  | _=>cases y<;>exact absurd (show false=true from hs) Bool.false_ne_true
theorem Aau:OpR X (compareOp .Lt) (rI0 fun i j=> .bl (decide (i<j))):=Adb fun _ _ _ _ _ _ _ q=>lt_int q
theorem T6:OpR X (compareOp .Gt) (rI0 fun i j=> .bl (decide (j<i))):=Adb fun _ _ _ _ _ _ _ q=>gt_int q
theorem Acz:OpR X (compareOp .GtE) (rI0 fun i j=> .bl (decide (j<=i))):=Adb fun _ _ _ _ _ _ _ q=>ge_int q
theorem Ax (b:Expr) {op:CmpOp} (h:op≠ .In:=by decide) (h2:op≠ .NotIn:=by decide):behindInMarks op b=false:=by
  have e1:(op==CmpOp.In)=false:=by cases op<;>first | rfl | exact absurd rfl h
  have e2:(op==CmpOp.NotIn)=false:=by cases op<;>first | rfl | exact absurd rfl h2
  cases b<;>simp [behindInMarks,e1,e2]
theorem Gg {op:CmpOp}{r:R2} (ho:OpR X (compareOp op) r) (ha:PE X a ta) (hb:PE X b tb) (hm:behindInMarks op b=false):PE X (.Compare a [op] [b] pos) (tOp r ta tb):=by
  intro pins s σ H Q I h
  exact wpAny_Compare1 (Ac7 ha hb I h fun v u s2 x y H2 I2 rx ry q=>ho pins s2 σ H2 x y v u Q I2 rx ry q) hm
def Aah (t:TE):TT:=fun σ H Q=>t σ H fun x H'=>∃k,x= .bl k/\Q k H'
theorem Al {op:CmpOp}{r:R2} (ho:OpR X (compareOp op) r) (ha:PE X a ta) (hb:PE X b tb) (hm:behindInMarks op b=false):PT X (.Compare a [op] [b] pos) (Aah (tOp r ta tb)):=by
  intro pins s σ H Q I h
  refine wpAny_isTrue_Compare1 (thn (ha pins s σ H _ I h) fun v s1 ⟨x,H1,I1,r1,q1⟩=>thn (hb pins s1 σ H1 _ I1 q1) fun u s2 ⟨y,H2,I2,r2,q2⟩=>
    thn (ho pins s2 σ H2 x y v u _ I2 r1 r2 q2) fun c s3 ⟨z,H3,I3,r3,k,e,q3⟩=> ?_) hm
  subst e
  cases r3
  exact wpAny_truthy_bool ⟨H3,I3,q3⟩
def Acb (r r':R2) (ta tb tc:TE):TE:=fun σ H Q=>ta σ H fun x H1=>tb σ H1 fun y H2=>r x y H2 fun z H3=>∃k,z= .bl k/\
  (if k=true then tc σ H3 fun w' H4=>r' y w' H4 Q else Q (.bl false) H3)
theorem Pz:(sizeLine:Nat)<2^63:=by rw [sizeLine_eq];decide
theorem vals1 {x:V}{us:List Value} (r:Vals [x] us):∃u,us=[u]/\RelV x u:=by
  cases r with
  | cons r1 r2=>cases r2;exact⟨_,rfl,r1⟩
theorem vals2 {x y:V}{us:List Value} (r:Vals [x,y] us):∃u w',us=[u,w']/\RelV x u/\RelV y w':=by
  cases r with
  | cons r1 r2=>
    cases r2 with
    | cons r3 r4=>cases r4;exact⟨_,_,rfl,r1,r3⟩
theorem Hx:Dv X (.builtin "abs") (fun xs H Q=>∃i,xs=[.int i]/\Q (.int (if i<0 then-i else i)) H):=by
  intro pins s σ H xs us Q I r h
  obtain⟨i,rfl,q⟩:=h
  obtain⟨u,rfl,t,rfl⟩:=vals1 r
  exact call_abs_int fun u tk=>⟨.int (if i<0 then-i else i),H,I.tok _,⟨_,rfl⟩,q⟩
theorem Ou:Dv X (.builtin "divmod") (fun xs H Q=>∃i j,xs=[.int i,.int j]/\Aew i j/\∀p,H p=none->Q (.ref p) (upd H p (.tup [.int (i/j),.int (i%j)]))):=by
  intro pins s σ H xs us Q I r h
  obtain⟨i,j,rfl,⟨h1,h2⟩,q⟩:=h
  obtain⟨u,w',rfl,⟨t,rfl⟩,⟨t',rfl⟩⟩:=vals2 r
  refine divmod_int (by omega) ?_ (.inl (PyProof.noPylong_small (by omega)))
  rw [Int.fdiv_eq_ediv_of_nonneg i (by omega),Int.fmod_eq_emod_of_nonneg i (by omega)]
  have hn:H s.heap.objs.size=none:=I.hok.fresh (Nat.le_refl _)
  refine⟨.ref s.heap.objs.size,_,?_,rfl,q _ hn⟩
  refine I.laid (fun b o e=>Heap.get?_push_of_some _ e) (Nat.le_refl _) ⟨by simp only [List.length_cons,List.length_nil];rw [sizeLine_eq];decide,[.int (i/j) s.toks,.int (i%j) (s.toks+1)],.cons ⟨_,rfl⟩ (.cons ⟨_,rfl⟩ .nil),?_⟩
  exact⟨_,Heap.get?_push_size s.heap rfl,rfl,0,rfl⟩
end
end L2
namespace L2
open PySem PySem.Spec PyProof.Rows
structure Acy (h:Heap) (x dx C:Addr) (mA:Str->Option Value):Prop where
  obj:h.get? x=some (PySem.W.instObj C dx)
  ns:h.Ns1 dx mA
  ne:dx≠x
theorem Sy {h:Heap}{dx:Addr}{mA:Str->Option Value} (n:h.Ns1 dx mA):∃od,h.get? dx=some od/\∀name,PySem.W.lookIn name od=some (mA name):=by
  obtain⟨o,es,ep,ho,hd,hk,_,hm⟩:=n
  refine⟨o,ho,fun name=> ?_⟩
  have e:=hm name
  unfold nsFind findBy at e
  rw [<-Array.find?_toList]at e
  unfold PySem.W.lookIn
  rw [hd]
  dsimp only
  split
  . rename_i y q
    rw [q]at e
    exact congrArg some e
  . rename_i q
    rw [q]at e
    have a:es.toList.any (·.refKey)=false:=by
      rw [List.any_eq_false]
      intro y hy
      obtain⟨z,t,hkey⟩:=hk y (Array.mem_toList_iff.mp hy)
      simp [DictEntry.refKey,hkey]
    have a':¬es.toList.any (·.refKey)=true:=by rw [a];exact Bool.false_ne_true
    rw [if_neg a']
    exact congrArg some e
theorem Acy.look {h:Heap}{x dx C:Addr}{mA:Str->Option Value} (I:Acy h x dx C mA):∃od,PySem.W.InstAt h x (PySem.W.instObj C dx) C (some od)/\∀name,PySem.W.lookIn name od=some (mA name):=
  let ⟨od,ho,hl⟩:=Sy I.ns
  ⟨od,⟨I.obj,rfl,rfl,ho⟩,hl⟩
theorem Q6.some_of {v:V}{o:Option Value} (r:Q6 (some v) o):∃u,o=some u/\RelV v u:=by
  cases o with
  | none=>exact(show False from r).elim
  | some u=>exact⟨u,rfl,r⟩
section
variable {P:Program}{w:World}{H H':Hp}{h h':Heap}{a C dx:Addr}{fs fs':List (Str × V)}
theorem Ys (hok:HOk P w H h) (e:H a=some (.ins C dx fs)):∃mA,Acy h a dx C mA/\(∀f,Q6 (fs.lookup f) (mA f))/\PySem.Within mA (fs.map (·.1))/\fs.length<=1000/\H dx=some (.own a):=by
  obtain⟨d,z,ne,ob,mA,n,r,q⟩:=(show Bs P w H h a (.ins C dx fs)from hok a _ e)
  exact⟨mA,⟨ob,n,ne⟩,r,q,z,d⟩
end
structure Cls (K:PySem.W.Frag) (C:Addr):Prop where
  pg:PySem.W.plainGet K C Str.empty=true
  hd:PySem.W.hasDictIn K C=true
  po:PySem.W.plainOver K C=true
  sa:PySem.W.findIn K (.ref C) "__setattr__"=some (some (.builtin "object.__setattr__"))
theorem Cls.get {K:PySem.W.Frag}{C:Addr} (c:Cls K C) (f:Str):PySem.W.plainGet K C f=true:=c.pg
structure Con (K:PySem.W.Frag) (C:Addr) (f:Str) (v:V) (u:Value):Prop where
  at_:PySem.W.findIn K (.ref C) f=some (some u)
  rel:RelV v u
  get:PySem.W.specialIn K u "__get__"=some none
  cp:PySem.W.copiedNames.contains f=false
structure Meth (K:PySem.W.Frag) (C:Addr) (m:Str) (f:Addr):Prop where
  at_:PySem.W.findIn K (.ref C) m=some (some (.ref f))
  fn:PySem.W.isFn K (.ref f)=true
  kp:PySem.W.keepIn K (.ref f)=true
section
variable {X:Cx}{pins:List (Addr × Obj)}{σ:St}{H:Hp}{s:Shared}{A:Around}{E:Value->Shared->Prop}{Q:Value->Shared->Prop}{c:Value}{b:Bool}
inductive M9 (K:PySem.W.Frag) (H:Hp):V->Value->Prop where
  | non:M9 K H .non (.type "NoneType")
  | bl (x:Bool):M9 K H (.bl x) (.type "bool")
  | int (i:Int):M9 K H (.int i) (.type "int")
  | str (x:Str):M9 K H (.str x) (.type "str")
  | flt (x:UInt64):M9 K H (.flt x) (.type "float")
  | lst {a:Addr}{xs:List V} (e:H a=some (.lst xs)):M9 K H (.ref a) (.type "list")
  | frz {a:Addr}{o:Obj}{xs:List V} (e:H a=some (.frz o (.lst xs))):M9 K H (.ref a) (.type "list")
  | tup {a:Addr}{xs:List V} (e:H a=some (.tup xs)):M9 K H (.ref a) (.type "tuple")
  | dK {a:Addr}{kvs:List (Key × V)} (e:H a=some (.dK kvs)):M9 K H (.ref a) (.type "dict")
  | dT {a:Addr}{kvs:List (List Key × V)} (e:H a=some (.dT kvs)):M9 K H (.ref a) (.type "dict")
  | ins {a C dx:Addr}{fs:List (Str × V)} (e:H a=some (.ins C dx fs)) (cl:Cls K C) (ha:PySem.W.findIn K (.ref C) "__class__"=some (some (.builtin "object.__class__")))
      (hn:PySem.W.specialIn K (.builtin "object.__class__") "__get__"=some (some (.builtin "getset_descriptor.__get__"))) (htk:PySem.W.takesIn K (.builtin "object.__class__")=some true)
      (hm:PySem.W.mroIn K C (.type "object")=some true):M9 K H (.ref a) (.ref C)
theorem Vc {x:V}{u t:Value} (I:Inv X pins σ H s) (rx:RelV x u) (ty:M9 X.K H x t) (e:PySem.W.kitOne X.K t c=some b) (h:∀tk,Q (.bool b) { s with toks:=tk}):
    wpAny (model X.prog X.w) A (call (.builtin "isinstance") [u,c]) Q E s:=by
  cases ty with
  | non=>cases(show u=Value.none from rx);exact PySem.W.kia_one PySem.W.kitx_none I.kIn True.intro e (fun z=>nomatch z) h
  | bl y=>cases(show u=Value.bool y from rx);exact PySem.W.kia_one PySem.W.kitx_bool I.kIn True.intro e (fun z=>nomatch z) h
  | int i=>obtain⟨t,q⟩:=(show ∃t,u=Value.int i t from rx);cases q;exact PySem.W.kia_one PySem.W.kitx_int I.kIn True.intro e (fun z=>nomatch z) h
  | str y=>obtain⟨t,q⟩:=(show ∃t,u=Value.str y t from rx);cases q;exact PySem.W.kia_one PySem.W.kitx_str I.kIn True.intro e (fun z=>nomatch z) h
  | flt y=>obtain⟨t,q⟩:=(show ∃t,u=Value.float y t from rx);cases q;exact PySem.W.kia_one PySem.W.kitx_float I.kIn True.intro e (fun z=>nomatch z) h
  | @lst a xs ea=>
    cases(show u=Value.ref a from rx)
    obtain⟨_,_,n,_,h1⟩:=(show Bs X.prog X.w H s.heap a (.lst xs)from I.hok a _ ea)
    exact PySem.W.kia_one PySem.W.kitx_list I.kIn ⟨_,h1,rfl⟩ e (fun z=>nomatch z) h
  | @frz a ob xs ea=>
    cases(show u=Value.ref a from rx)
    obtain⟨_,_,_,n,_,h1⟩:=(show Bs X.prog X.w H s.heap a (.frz ob (.lst xs))from I.hok a _ ea)
    exact PySem.W.kia_one PySem.W.kitx_list I.kIn ⟨_,h1,rfl⟩ e (fun z=>nomatch z) h
  | @tup a xs ea=>
    cases(show u=Value.ref a from rx)
    obtain⟨_,_,_,p⟩:=(show Bs X.prog X.w H s.heap a (.tup xs)from I.hok a _ ea)
    obtain⟨o,h1,h2,_⟩:=p
    exact PySem.W.kia_one PySem.W.kitx_tuple I.kIn ⟨o,h1,h2⟩ e (fun z=>nomatch z) h
  | @dK a kvs ea=>
    cases(show u=Value.ref a from rx)
    obtain⟨_,_,vs,_,p⟩:=(show Bs X.prog X.w H s.heap a (.dK kvs)from I.hok a _ ea)
    obtain⟨o,es,ep,h1,h2,_⟩:=p
    exact PySem.W.kia_one PySem.W.kitx_dict I.kIn ⟨o,h1,h2.1⟩ e (fun z=>nomatch z) h
  | @dT a kvs ea=>
    cases(show u=Value.ref a from rx)
    obtain⟨_,_,xs,_,o,es,ep,h1,h2,_⟩:=(show Bs X.prog X.w H s.heap a (.dT kvs)from I.hok a _ ea)
    exact PySem.W.kia_one PySem.W.kitx_dict I.kIn ⟨o,h1,h2.1⟩ e (fun z=>nomatch z) h
  | @ins a C dx fs ea cl ha hn htk hm=>
    cases(show u=Value.ref a from rx)
    obtain⟨mA,O,_⟩:=Ys I.hok ea
    obtain⟨od,J,_⟩:=O.look
    exact PySem.W.kia_one (PySem.W.kitx_own (cl.get _) cl.hd ha hn htk hm) I.kIn J e (fun z=>nomatch z) h
end
end L2
namespace L2
open PySem PySem.Spec PyProof.Rows
structure Ht (k:Nat) (A:Around):Prop where
  hd:A.handled=none
  dp:A.depth+3*k+5<recursionLimit
  un:A.units+16*k+200<cLine
theorem Ht.mono {j k:Nat}{A:Around} (r:Ht k A) (h:j<=k):Ht j A:=⟨r.hd,by have:=r.dp;omega,by have:=r.un;omega⟩
theorem Ht.deeper {k:Nat}{A:Around} (r:Ht (k+1) A) (env:Env):Ht k (A.deeper env):=
  ⟨r.hd,by have:=r.dp;show A.depth+1+3*k+5<_;omega,by have:=r.un;show A.units+3+16*k+200<_;omega⟩
theorem Ht.in1 {k:Nat}{A:Around} (r:Ht (k+1) A):Ht k A.in1:=
  ⟨r.hd,by have:=r.dp;show A.depth+3*k+5<_;omega,by have:=r.un;show A.units+1+16*k+200<_;omega⟩
theorem Ht.depth {k:Nat}{A:Around} (r:Ht k A):A.depth<recursionLimit:=by have:=r.dp;omega
theorem Ht.units {k:Nat}{A:Around} (r:Ht k A):A.units+64<cLine:=by have:=r.un;omega
def Adt:TA:=fun _ H Q=>Q [] H
def Xe (ta:TE) (tr:TA):TA:=fun σ H Q=>ta σ H fun x H1=>tr σ H1 fun xs H2=>Q (x::xs) H2
section
variable {X:Cx}{e:Expr}{es:List Expr}{te:TE}{t:TA}{pos:Pos}
theorem Ab:PA X [] Adt:=fun _ _ _ _ H Q I h=>Calls.spliced_nil ⟨[],H,I,.nil,h⟩
theorem Y4 (ha:PE X e te) (hr:PA X es t) (hs:starEach (e::es) X.env=(false,eval e X.env)::starEach es X.env:=by rfl):PA X (e::es) (Xe te t):=by
  intro pos pins s σ H Q I h
  rw [hs]
  show wpAny _ _ (spliced ((false,eval e X.env)::backTo pos (starEach es X.env))) _ _ s
  refine Calls.spliced_cons (thn (ha pins s σ H _ I h) fun u s1 ⟨x,H1,I1,r1,q1⟩=> ?_)
  exact thn (hr pos pins s1 σ H1 _ I1 q1) fun us s2 ⟨xs,H2,I2,r2,q2⟩=>⟨x::xs,H2,I2,.cons r1 r2,q2⟩
def Adu (t:TA):TE:=fun σ H Q=>t σ H fun xs H1=>xs.length<=sizeLine/\∀p,H1 p=none->Q (.ref p) (upd H1 p (.tup xs))
def Acx (t:TA):TE:=fun σ H Q=>t σ H fun xs H1=>xs.length<=sizeLine/\∀p,H1 p=none->Q (.ref p) (upd H1 p (.lst xs))
theorem Bu {x1} (h:PA X es t):PE X (.Tuple es x1 pos) (Adu t):=by
  intro pins s σ H Q I hq
  refine wpAny_Tuple_spliced (thn (h pos pins s σ H _ I hq) fun us s1 ⟨xs,H1,I1,r,z,q⟩=>⟨by rw [<-r.length];exact z,?_⟩)
  have hf:H1 s1.heap.objs.size=none:=I1.hok.fresh (Nat.le_refl _)
  refine⟨.ref s1.heap.objs.size,upd H1 s1.heap.objs.size (.tup xs),I1.laid (t':=s1.toks) (fun b u e=>Heap.get?_push_of_some _ e) (Nat.le_refl _) ?_,rfl,q _ hf⟩
  exact⟨z,us,r,⟨_,Heap.get?_push_size _ rfl,rfl,_,rfl⟩⟩
theorem Em (h:PA X es t):PE X (.List es pos) (Acx t):=by
  intro pins s σ H Q I hq
  refine wpAny_List_spliced (thn (h pos pins s σ H _ I hq) fun us s1 ⟨xs,H1,I1,r,z,q⟩=>⟨by rw [<-r.length];exact z,?_⟩)
  have hf:H1 s1.heap.objs.size=none:=I1.hok.fresh (Nat.le_refl _)
  refine⟨.ref s1.heap.objs.size,upd H1 s1.heap.objs.size (.lst xs),I1.laid (t':=s1.toks) (fun b u e=>Heap.get?_push_of_some _ e) (Nat.le_refl _) ?_,rfl,q _ hf⟩
  exact⟨z,us,0,r,Heap.get?_push_size _ rfl⟩
end
abbrev Sp:=List V->Hp->VK->XK->Prop
abbrev CXT:=List Env->Hp->Shared->XK->Value->Shared->Prop
structure Aaa (P:Program) (w:World) (K:PySem.W.Frag) (mg:Str->Option Value) (base:Heap) (A:Around) (outer:List Env) (s:Shared) (H:Hp):Prop where
  frames:A.frames=some outer
  mod:Mod K mg base
  bs:∀b o,base.get? b=some o->s.heap.get? b=some o/\H b=none
  bsz:base.objs.size<=s.heap.objs.size
  funs:s.heap.FunFrames base outer
  frf:∀b∈frs outer,H b=none
  hok:HOk P w H s.heap
  bare:AllBare s.gens
def CE (outer:List Env) (P:Program) (w:World) (H:Hp) (s:Shared) (Q:VK) (u:Value) (s':Shared):Prop:=
  ∃v H',s'.os=s.os/\AllBare s'.gens/\Un (frs outer) [] H H' s.heap s'.heap/\HOk P w H' s'.heap/\RelV v u/\Q v H'
def CR (CX:CXT) (outer:List Env) (P:Program) (w:World) (H:Hp) (s:Shared) (Q:VK) (E:XK) (r:Result) (s':Shared):Prop:=
  match r with
  | .ok (.ret u)=>CE outer P w H s Q u s'
  | .ok _=>False
  | .error e=>CX outer H s E e s'
structure Mg (P:Program) (w:World) (K:PySem.W.Frag) (mg:Str->Option Value) (base:Heap) (CX:CXT) (k:Nat) (f:Addr) (fd:FuncData) (ps:List Str) (sp:Sp):Prop where
  len:∀vs H Q E,sp vs H Q E->vs.length=ps.length
  run:∀(A:Around) (outer:List Env) (s:Shared) (H:Hp) (args:Args) (us:List Value) (vs:List V) (Q:VK) (E:XK),Ht k A->Aaa P w K mg base A outer s H->BindsTo s fd args (ps.zip us)->Vals vs us->sp vs H Q E->
    codeAny (model P w) A (.call (.ref f) args) (CR CX outer P w H s Q E) s
theorem Mg.mono {P:Program}{w:World}{K:PySem.W.Frag}{mg:Str->Option Value}{base:Heap}{CX:CXT}{j k:Nat}{f:Addr}{fd:FuncData}{ps:List Str}{sp:Sp} (F:Mg P w K mg base CX j f fd ps sp) (h:j<=k):
    Mg P w K mg base CX k f fd ps sp:=⟨F.len,fun A outer s H args us vs Q E hr=>F.run A outer s H args us vs Q E (hr.mono h)⟩
theorem Mg.imp {P:Program}{w:World}{K:PySem.W.Frag}{mg:Str->Option Value}{base:Heap}{CX:CXT}{k:Nat}{f:Addr}{fd:FuncData}{ps:List Str}{sp sp':Sp} (F:Mg P w K mg base CX k f fd ps sp)
    (h:∀vs H Q E,sp' vs H Q E->sp vs H Q E):Mg P w K mg base CX k f fd ps sp':=
  ⟨fun vs H Q E q=>F.len vs H Q E (h _ _ _ _ q),fun A outer s H args us vs Q E hr he hb hv hs=>F.run A outer s H args us vs Q E hr he hb hv (h _ _ _ _ hs)⟩
theorem Aaa.in1 {P:Program}{w:World}{K:PySem.W.Frag}{mg:Str->Option Value}{base:Heap}{A:Around}{outer:List Env}{s:Shared}{H:Hp} (e:Aaa P w K mg base A outer s H):
    Aaa P w K mg base A.in1 outer s H:=⟨e.frames,e.mod,e.bs,e.bsz,e.funs,e.frf,e.hok,e.bare⟩
section
variable {X:Cx}{pins:List (Addr × Obj)}{σ:St}{H:Hp}{s s':Shared}
theorem Inv.env0 (I:Inv X pins σ H s):Aaa X.prog X.w X.K X.mg X.base X.A X.stack s H:=
  ⟨I.ok.frames,I.ok.mod,I.bs,Nat.le_trans I.ok.bsz I.sz,I.stack,I.stkFree,I.hok,I.bare⟩
theorem Inv.after {Q:VK}{u:Value} (I:Inv X pins σ H s) (h:CE X.stack X.prog X.w H s Q u s'):EP X pins σ Q u s':=by
  obtain⟨v,H',os,bare,un,hok,r,q⟩:=h
  obtain⟨hh,g,d,t,os'⟩:=s'
  obtain rfl:os'=s.os:=os
  exact⟨v,H',I.call (h':=hh) (g':=g) (d':=d) (t':=t) (ch:=[]) un hok bare (fun b z=>absurd z (by simp)),r,q⟩
end
def Sv (sp:Sp) (dvs:List V) (E:XK) (t:TA):TE:=fun σ H Q=>t σ H fun vs H1=>sp (vs++dvs) H1 Q E
def Binds (K:PySem.W.Frag) (fd:FuncData) (ps:List Str) (ds:List Value):Prop:=
  ∀(s:Shared) (us:List Value),K.In s.heap->(us++ds).length=ps.length->BindsTo s fd ⟨us,[]⟩ (ps.zip (us++ds))
theorem Binds.all {K:PySem.W.Frag}{fd:FuncData}{ps:List Str} (h:∀us:List Value,us.length=ps.length->bindArgs fd ⟨us,[]⟩=pure (ps.zip us)):Binds K fd ps []:=fun s us _ hl=>by
  rw [List.append_nil]at hl ⊢
  exact .of_eq (h us hl)
def Passes (CX:CXT) (X:Cx) (E:XK):Prop:=∀(pins:List (Addr × Obj)) (σ:St) (H:Hp) (s:Shared) (e:Value) (s':Shared),Inv X pins σ H s->CX X.stack H s E e s'->X.xe e s'
section
variable {X:Cx}{CX:CXT}{k:Nat}{f C:Addr}{fd:FuncData}{ps:List Str}{sp:Sp}{dvs:List V}{ds:List Value}{E:XK}{x m:Str}{p pos apos:Pos}{e o:Expr}{es:List Expr}{ta:TE}{t:TA}
theorem Xz {pins:List (Addr × Obj)}{σ:St}{H:Hp}{s:Shared}{Q:VK}{us:List Value}{vs:List V} (F:Mg X.prog X.w X.K X.mg X.base CX k f fd ps sp) (hr:Ht k X.A) (hb:Binds X.K fd ps ds) (hd:Vals dvs ds) (hx:Passes CX X E)
    (I:Inv X pins σ H s) (r:Vals vs us) (h:sp (vs++dvs) H Q E):wpAny (model X.prog X.w) X.A (call (.ref f) us) (EP X pins σ Q) X.xe s:=by
  have r2:Vals (vs++dvs) (us++ds):=r.append hd
  have hl:(us++ds).length=ps.length:=by rw [<-r2.length];exact F.len _ _ _ _ h
  refine wpAny_call (codeAny_mono (F.run X.A X.stack s H ⟨us,[]⟩ (us++ds) (vs++dvs) Q E hr I.env0 (hb s us I.kIn hl) r2 h) fun r s' hq=> ?_)
  cases r with
  | error e=>exact hx pins σ H s e s' I hq
  | ok fl=>
    cases fl with
    | ret u=>exact I.after hq
    | next=>exact False.elim hq
    | brk=>exact False.elim hq
    | cont=>exact False.elim hq
theorem Zi (F:Mg X.prog X.w X.K X.mg X.base CX k f fd ps sp) (hr:Ht k X.A) (hg:Gl X x) (hm:X.mg x=some (.ref f)) (hk:PySem.W.keepIn X.K (.ref f)=true) (hb:Binds X.K fd ps ds) (hd:Vals dvs ds) (hx:Passes CX X E)
    (ha:PA X (e::es) t) (hdb:(x==("__debug__":Str))=false:=by decide) (he:starEach (e::es) X.env=(false,eval e X.env)::starEach es X.env:=by rfl) (hpl:(backTo pos (starEach es X.env)).any (·.1)=false:=by rfl):
    PE X (.Call (.Name x p) (e::es) [] pos) (Sv sp dvs E t):=by
  intro pins s σ H Q I h
  refine wpAny_Call_Name_kw (Uv I hg hm ?_ hdb)
  refine PySem.W.callWith_K (h₀:=X.base) I.ok.mod.kin hk (thn (ha pos pins s σ H _ I h) fun us s1 ⟨vs,H1,I1,r,q⟩=>⟨I1.kIn,?_⟩) he hpl
  exact Xz F hr hb hd hx I1 r q
structure Mk (K:PySem.W.Frag) (C f:Addr):Prop where
  makes:PySem.W.makesIn K C=true
  init:PySem.W.findIn K (.ref C) "__init__"=some (some (.ref f))
  fn:PySem.W.isFn K (.ref f)=true
  kp:PySem.W.keepIn K (.ref C)=true
end
section
variable {X:Cx}{CX:CXT}{k:Nat}{f C:Addr}{fd:FuncData}{ps ks:List Str}{sp:Sp}{E:XK}{x m:Str}{p pos apos kpos:Pos}{e o:Expr}{es:List Expr}{kws:List Keyword}{te ta:TE}{t tk:TA}{nm:Option Str}
structure Aeh (K:PySem.W.Frag) (fd:FuncData) (ps ks:List Str) (g:List Value->List Value->List Value) (gV:List V->List V->List V):Prop where
  to:∀(s:Shared) (us ws:List Value),K.In s.heap->(g us ws).length=ps.length->BindsTo s fd ⟨us,ks.zip ws⟩ (ps.zip (g us ws))
  rel:∀ {vs:List V}{us:List Value}{zs:List V}{ws:List Value},Vals vs us->Vals zs ws->Vals (gV vs zs) (g us ws)
variable {g:List Value->List Value->List Value}{gV:List V->List V->List V}
end
structure Aq (N P:List Str) (sc:Scope):Prop where
  kind:sc.kind= .function
  co:sc.isCoroutine=false
  gen:sc.isGenerator=false
  nd:N.Nodup
  pre:N.take P.length=P
  par:∀x∈P,sc.names.lookup x=some .local \/sc.names.lookup x=some .cell
  nofree:∀y∈sc.names,y.2≠ .free
theorem Nb {kindOf:Str->Option NameKind}{x:Str}:∀ {binds:List (Str × Value)}{m:Str->Option Value},(∀v,(x,v)∉binds)->bindL kindOf binds m x=m x
  | [],_,_=>rfl
  | (n,v)::r,m,h=>by
    unfold bindL
    rw [Nb fun w hw=>h w (List.mem_cons_of_mem _ hw)]
    split
    . have:x≠n:=by rintro rfl;exact h v List.mem_cons_self
      simp [this]
    . rfl
theorem Mw {kindOf:Str->Option NameKind}{x:Str}:∀ {binds:List (Str × Value)}{m:Str->Option Value},(∀v,(x,v)∉binds)->bindC kindOf binds m x=m x
  | [],_,_=>rfl
  | (n,v)::r,m,h=>by
    unfold bindC
    rw [Mw fun w hw=>h w (List.mem_cons_of_mem _ hw)]
    split
    . rfl
    . have:x≠n:=by rintro rfl;exact h v List.mem_cons_self
      simp [this]
theorem Ng {kindOf:Str->Option NameKind}{x:Str}{v:Value}:∀ {P:List Str}{vs:List Value}{i:Nat}{m:Str->Option Value},P.Nodup->P[i]? =some x->vs[i]? =some v->kindOf x=some .local ->
    bindL kindOf (P.zip vs) m x=some v
  | [],_,_,_,_,h,_,_=>by simp at h
  | _::_,[],_,_,_,_,h,_=>by simp at h
  | p::P,w::vs,0,m,nd,h1,h2,hk=>by
    simp at h1 h2;subst h1;subst h2
    show bindL kindOf ((p,w)::P.zip vs) m p=_
    unfold bindL
    rw [Nb fun v hv=>(List.nodup_cons.mp nd).1 (List.of_mem_zip hv).1,if_pos hk]
    simp
  | p::P,w::vs,i+1,m,nd,h1,h2,hk=>by
    show bindL kindOf ((p,w)::P.zip vs) m x=_
    unfold bindL
    exact Ng (i:=i) (List.nodup_cons.mp nd).2 (by simpa using h1) (by simpa using h2) hk
theorem Mi {kindOf:Str->Option NameKind}{x:Str}{v:Value}:∀ {P:List Str}{vs:List Value}{i:Nat}{m:Str->Option Value},P.Nodup->P[i]? =some x->vs[i]? =some v->kindOf x≠some .local ->
    bindC kindOf (P.zip vs) m x=some v
  | [],_,_,_,_,h,_,_=>by simp at h
  | _::_,[],_,_,_,_,h,_=>by simp at h
  | p::P,w::vs,0,m,nd,h1,h2,hk=>by
    simp at h1 h2;subst h1;subst h2
    show bindC kindOf ((p,w)::P.zip vs) m p=_
    unfold bindC
    rw [Mw fun v hv=>(List.nodup_cons.mp nd).1 (List.of_mem_zip hv).1,if_neg hk]
    simp
  | p::P,w::vs,i+1,m,nd,h1,h2,hk=>by
    show bindC kindOf ((p,w)::P.zip vs) m x=_
    unfold bindC
    exact Mi (i:=i) (List.nodup_cons.mp nd).2 (by simpa using h1) (by simpa using h2) hk
def start (N:List Str) (vs:List V):St:=vs.map some++List.replicate (N.length-vs.length) none
def X7 (CX:CXT) (P:Program) (w:World) (K:PySem.W.Frag) (mg:Str->Option Value) (base:Heap) (N:List Str) (qual:Str) (scope:Scope) (f:Addr) (cd:Value) (A:Around) (outer:List Env) (s:Shared) (H:Hp) (E:XK):Cx where
  prog:=P
  w:=w
  K:=K
  mg:=mg
  base:=base
  A:=A.deeper (envOfC qual scope s.heap.objs.size f cd)
  N:=N
  s₀:=s
  H₀:=H
  env:=envOfC qual scope s.heap.objs.size f cd
  outer:=outer
  stack:=envOfC qual scope s.heap.objs.size f cd::outer
  ex:=[]
  calm:=true
  fn:=fun _=>true
  pn:=[]
  xe:=fun e s'=>wpAny (model P w) (A.deeper (envOfC qual scope s.heap.objs.size f cd)) (leaving (envOfC qual scope s.heap.objs.size f cd) e) (fun _ s''=>CX outer H s E e s'') (fun e' s''=>CX outer H s E e' s'') s'
theorem Qa {sc:Scope}{n:Nat}{x:Str} (h:sc.names.lookup x=some .cell):∃c,(cellsFrom n sc.names []).lookup x=some c:=by
  have q:=PySem.W.cellsFrom_some sc.names n [] (.inl h)
  exact Option.isSome_iff_exists.mp q
theorem Vw {CX:CXT}{P:Program}{w:World}{K:PySem.W.Frag}{mg:Str->Option Value}{base:Heap}{N ps:List Str}{qual:Str}{scope:Scope}{f:Addr}{cd:Value}{A:Around}{outer:List Env}{s s1:Shared}{H:Hp}{E:XK}{us:List Value}{vs:List V}
    (S:Aq N ps scope) (hd:A.handled=none) (e0:Aaa P w K mg base A outer s H) (hl:vs.length=ps.length) (r:Vals vs us)
    (x:InCallC s s.heap.objs.size (bindL (envOfC qual scope s.heap.objs.size f cd).kindOf (ps.zip us) fun _=>none) (cellsFrom (s.heap.objs.size+1) scope.names []) (bindC (envOfC qual scope s.heap.objs.size f cd).kindOf (ps.zip us) fun _=>none) s1):
    Inv (X7 CX P w K mg base N qual scope f cd A outer s H E) [] (start N vs) H s1:=by
  have hpl:ps.length<=N.length:=by have:=congrArg List.length S.pre;rw [List.length_take]at this;omega
  obtain⟨h1,tk,rfl,hk⟩:=x.done
  have noA:∀b:Addr,b∉(X7 CX P w K mg base N qual scope f cd A outer s H E).ex:=fun b z=>absurd (show b∈([]:List Addr)from z) (by simp)
  refine⟨⟨e0.mod,S.kind,rfl,rfl,Nat.le_refl _,fun y z c h1 h2=> ?_,fun y hy=> ?_,fun y c _ h=> ?_,fun _=>hd,Around.frames_deeper e0.frames,.inr ⟨rfl,rfl⟩,fun b z=>absurd z (noA b),e0.bs,e0.bsz,fun b _ _=>noA b,fun b z=>absurd z (noA b),e0.funs,e0.frf⟩,
    rfl,e0.bare,Un.kept hk,⟨_,x.toInCall.ns,fun i y v h1 h2 h3=> ?_⟩,fun y c h=>⟨_,x.cell y c h⟩,e0.hok.fresh (Nat.le_refl _),fun y c h=> ?_,fun p hp=>absurd (show p∈([]:List (Addr × Obj))from hp) (by simp),e0.hok.kept hk,?_⟩
  . exact name_of_addr x.apart (PySem.mem_of_lookup h1) (PySem.mem_of_lookup h2)
  . have hy:scope.names.lookup y=some .cell\/scope.names.lookup y=some .free:=hy
    rcases hy with hy | hy
    . exact Qa hy
    . exact absurd rfl (S.nofree _ (PySem.mem_of_lookup hy))
  . exact Nat.le_of_lt (x.above y c (PySem.mem_of_lookup h))
  . have hi:i<vs.length:=by
      unfold start at h2
      by_cases hi:i<vs.length
      . exact hi
      . rw [List.getElem?_append_right (by simpa using hi)]at h2
        rw [List.getElem?_replicate]at h2
        split at h2<;>cases h2
    have ha:vs[i]? =some v:=by
      unfold start at h2
      rw [List.getElem?_append_left (by simpa using hi),List.getElem?_map]at h2
      cases e:vs[i]? with
      | none=>rw [e]at h2;cases h2
      | some a=>rw [e]at h2;cases h2;rfl
    obtain⟨u,hu,rv⟩:=r.get ha
    have hp:ps[i]? =some y:=by
      rw [<-S.pre,List.getElem?_take_of_lt (by omega)];exact h1
    have ndP:ps.Nodup:=by rw [<-S.pre];exact S.nd.sublist (List.take_sublist _ _)
    refine⟨u,rv,?_⟩
    rcases S.par y (List.mem_of_getElem? hp)with k | k
    . exact .inl ⟨k,Ng ndP hp hu k⟩
    . obtain⟨c,e⟩:=Qa (n:=s.heap.objs.size+1) k
      refine .inr ⟨.inl k,c,e,?_⟩
      have q:=x.cell y c e
      rw [Mi ndP hp hu (by show scope.names.lookup y≠_;rw [k];decide)]at q
      exact q
  . exact e0.hok.fresh (Nat.le_of_lt (x.above y c (PySem.mem_of_lookup h)))
  . unfold start
    show _=N.length
    rw [List.length_append,List.length_map,List.length_replicate]
    omega
theorem Aec {CX:CXT}{P:Program}{w:World}{K:PySem.W.Frag}{mg:Str->Option Value}{base:Heap}{k:Nat}{f:Addr}{name qual:Str}{params:Arguments}{body:List Stmt}{scope:Scope}{dV kV doc pm cdv ct oc:Value}{an od:Option Addr}
    {osl:Array (Option Value)}{N ps:List Str}{sp:Sp} (lk:K.lookup f=some ⟨oc,od,.func (PySem.W.fnOf name qual params body scope dV kV doc pm an cdv ct),osl⟩) (hcd:PySem.W.codeIn K cdv qual=true) (S:Aq N ps scope)
    (len:∀vs H Q E,sp vs H Q E->vs.length=ps.length)
    (hbody:∀(A:Around) (outer:List Env) (s:Shared) (H:Hp) (vs:List V) (Q:VK) (E:XK),Ht k (A.deeper (envOfC qual scope s.heap.objs.size f cdv))->sp vs H Q E->
      ∃t,PSs (X7 CX P w K mg base N qual scope f cdv A outer s H E) body t/\t { nx:=fun _ H'=>Q .non H',rt:=Q} (start N vs) H):
    Mg P w K mg base CX (k+1) f (PySem.W.fnOf name qual params body scope dV kV doc pm an cdv ct) ps sp:=by
  refine⟨len,fun A outer s H args us vs Q E hr e0 hb r hsp=> ?_⟩
  have hl:=len _ _ _ _ hsp
  have KX:K.In s.heap:=e0.mod.kin.keeps fun b o e=>(e0.bs b o e).1
  have lim:s.heap.NoLimit:=e0.mod.nolimit.keeps fun b o e=>(e0.bs b o e).1
  have hkind:∀y∈ps.zip us,scope.names.lookup y.1=some .local \/(scope.names.lookup y.1=some .cell/\((cellsFrom (s.heap.objs.size+1) scope.names []).lookup y.1).isSome=true):=fun⟨n,v⟩ hy=>by
    rcases S.par n (List.of_mem_zip hy).1 with q | q
    . exact .inl q
    . exact .inr ⟨q,PySem.W.cellsFrom_some _ _ _ (.inl q)⟩
  refine codeAny_call_function hr.depth (KX _ _ lk) rfl S.co S.gen rfl (PySem.W.codeRec_of KX hcd) (hb _ _ _ _ ?_)
  refine wpAny_newFunctionEnv_cells S.kind hkind fun env he s1 x=> ?_
  subst he
  refine⟨lim.keeps x.toInCall.keep,codeAny_func ?_⟩
  obtain⟨t,ht,hq⟩:=hbody A outer s H vs Q E (hr.deeper _) hsp
  have I:Inv (X7 CX P w K mg base N qual scope f cdv A outer s H E) [] (start N vs) H s1:=Vw S hr.hd e0 hl r x
  refine wpAny_mono (ht [] s1 (start N vs) H _ I hq) (fun fl s' hs=> ?_) fun e s' hs=>hs
  have fin:∀ {σ':St}{H':Hp}{v:V}{u:Value},Inv (X7 CX P w K mg base N qual scope f cdv A outer s H E) [] σ' H' s'->RelV v u->Q v H'->CE outer P w H s Q u s':=
    fun {σ' H' v u} J rv q=>⟨v,H',J.os,J.bare,J.base,J.hok,rv,q⟩
  cases fl with
  | ret u=>
    obtain⟨v,σ',H',J,rv,q⟩:=hs
    exact fin J rv q
  | next=>
    obtain⟨σ',H',J,q⟩:=hs
    exact fin (v:=V.non) (u:=Value.none) J rfl q
  | brk=>
    obtain⟨_,_,_,q⟩:=hs
    exact False.elim q
  | cont=>
    obtain⟨_,_,_,q⟩:=hs
    exact False.elim q
end L2
namespace L2
open PySem PySem.Spec PyProof.Rows
section
variable {X:Cx}{x:Str}{p pos:Pos}{e:Expr}{es:List Expr}{t:TA}{id T:String}{r:List V->Hp->VK->Prop}
def tCB (r:List V->Hp->VK->Prop) (t:TA):TE:=fun σ H Q=>t σ H fun vs H1=>r vs H1 Q
theorem Wq (hc:Dv X (.builtin id) r) (hg:Gl X x) (hm:X.mg x=none) (hv:bootBuiltins x=some (.builtin id)) (ha:PA X (e::es) t) (hn:x≠"__name__":=by decide) (hdb:(x==("__debug__":Str))=false:=by decide)
    (he:starEach (e::es) X.env=(false,eval e X.env)::starEach es X.env:=by rfl) (hpl:(backTo pos (starEach es X.env)).any (·.1)=false:=by rfl):PE X (.Call (.Name x p) (e::es) [] pos) (tCB r t):=by
  intro pins s σ H Q I h
  refine wpAny_Call_Name_kw (Gs I hg hm hv ?_ hn hdb)
  exact PyProof.Rows.callWith_builtin1 (thn (ha pos pins s σ H _ I h) fun us s1 ⟨vs,H1,I1,r1,q1⟩=>hc pins s1 σ H1 vs us Q I1 r1 q1) he hpl
theorem Ul (hc:Dv X (.type T) r) (hg:Gl X x) (hm:X.mg x=none) (hv:bootBuiltins x=some (.type T)) (ha:PA X (e::es) t) (hn:x≠"__name__":=by decide) (hdb:(x==("__debug__":Str))=false:=by decide)
    (he:starEach (e::es) X.env=(false,eval e X.env)::starEach es X.env:=by rfl) (hpl:(backTo pos (starEach es X.env)).any (·.1)=false:=by rfl):PE X (.Call (.Name x p) (e::es) [] pos) (tCB r t):=by
  intro pins s σ H Q I h
  refine wpAny_Call_Name_kw (Gs I hg hm hv ?_ hn hdb)
  exact PyProof.Rows.callWith_type1 (thn (ha pos pins s σ H _ I h) fun us s1 ⟨vs,H1,I1,r1,q1⟩=>hc pins s1 σ H1 vs us Q I1 r1 q1) he hpl
end
end L2
namespace HT
open PySem PyProof.Rows
def lexLt:List Int->List Int->Bool
  | [],[]=>false
  | [],_::_=>true
  | _::_,[]=>false
  | x::xs,y::ys=>if x=y then lexLt xs ys else decide (x<y)
theorem Cd (x y:Int) (xs ys:List Int):lexLt (x::xs) (y::ys)=if x=y then lexLt xs ys else decide (x<y):=rfl
theorem Mf:lexLt [] []=false:=rfl
theorem Jx (y:Int) (ys:List Int):lexLt [] (y::ys)=true:=rfl
theorem Jz (x:Int) (xs:List Int):lexLt (x::xs) []=false:=rfl
theorem Xx (A:Around) (s:Shared) (a:Int) (t:Tok) (c:Int) (u:Tok):∃e,SeqAt.EqAt A s (.int a t) (.int c u) e/\(e=true↔a=c):=
  ⟨(a==c),SeqAt.EqAt.int_int a t c u,by simp⟩
theorem W8 (A:Around) (s:Shared) (a:Int) (t:Tok) (c:Int) (u:Tok) (prog:Program) (w:World) (E:Value->Shared->Prop) (Q:Value->Shared->Prop) (h:Q (.bool (decide (a<c))) s):
    wpAny (model prog w) A (richCompare .Lt (.int a t) (.int c u)) Q E s:=
  (PyProof.Rows.lt_int h:wpAny (model prog w) A (compareOp .Lt (.int a t) (.int c u)) Q E s)
section
open PySem.SeqAt
open PySem.AutoSeq1 (wpAny_loadPart')
open PySem.MeetsSeq PySem.MeetsSeq2 PySem.MeetsSeq3
theorem Lj (l b:Addr) (items items2:Array Value) (n n2:Nat) (dd dd2:Option Addr) (sl sl2:Array (Option Value)) (ns ms:List Int) (hi:IntsAre items.toList ns) (hj:IntsAre items2.toList ms):
    Meets (Builtin.«tuple.__lt__» ⟨[.ref l,.ref b],[]⟩)
      (fun _ R s=>s.heap.get? l=some { cls:= .type "tuple",dict:=dd,data:= .seq items n,slots:=sl}/\s.heap.get? b=some { cls:= .type "tuple",dict:=dd2,data:= .seq items2 n2,slots:=sl2}/\
        R (.ok (.ret (.bool (lexLt ns ms)))) s):=
  .of_wp fun prog w A R s h=>by
    obtain⟨hp,g,d,tk,os⟩:=s;obtain⟨hl,hb,h⟩:=h
    have f2:=AutoSeq1.sub_tuple_tuple
    have z1:items.size=ns.length:=by rw [<-hi.length];simp
    have z2:items2.size=ms.length:=by rw [<-hj.length];simp
    wp_walk using wpAny_loadPart' hl,wpAny_loadPart' hb,wpAny_forIn_list _ (fun rest b s'=>b.1=none/\s'=⟨hp,g,d,tk,os⟩/\∃(vs ws:List Value) (ns' ms':List Int),rest=vs.zip ws/\
      IntsAre vs ns'/\IntsAre ws ms'/\ns'.length+items2.size=ms'.length+items.size/\R (.ok (.ret (.bool (lexLt ns' ms')))) ⟨hp,g,d,tk,os⟩) _
    case turn=>
      rintro⟨y,x⟩ rest b s' ⟨hb',rfl,vs,ws,ns',ms',hz,hvi,hwi,hlen,hR⟩
      cases hvi with
      | nil=>rw [List.zip_nil_left]at hz;cases hz
      | cons a t hvi'=>
        cases hwi with
        | nil=>rw [List.zip_nil_right]at hz;cases hz
        | cons c u hwi'=>
          rw [List.zip_cons_cons]at hz
          injection hz with hyx hrest
          injection hyx with hy hx
          subst hy hx
          rw [Cd]at hR
          simp only [List.length_cons]at hlen
          obtain⟨e,he,hiff⟩:=Xx A.in1 ⟨hp,g,d,tk,os⟩ a t c u
          refine wpAny_bind (he prog w _ _ ?_)
          cases e with
          | true=>
            rw [if_pos (hiff.mp rfl)]at hR
            wp_walk
            exact⟨rfl,rfl,_,_,_,_,hrest,hvi',hwi',by omega,hR⟩
          | false=>
            rw [if_neg (fun q=>absurd (hiff.mpr q) Bool.false_ne_true)]at hR
            have hri:=W8 A.in1 ⟨hp,g,d,tk,os⟩ a t c u prog w
            wp_walk using hri
            exact⟨_,rfl,by simpa using hR⟩
    case fin=>
      rintro⟨b1,b2⟩ s' ⟨hb',rfl,vs,ws,ns',ms',hz,hvi,hwi,hlen,hR⟩
      simp only at hb'
      subst hb'
      have hv:lexLt ns' ms'=decide (items.size<items2.size):=by
        cases hvi with
        | nil=>
          cases hwi with
          | nil=>
            simp only [List.length_nil]at hlen
            rw [Mf]
            exact(decide_eq_false (by omega)).symm
          | cons c u hw=>
            simp only [List.length_nil,List.length_cons]at hlen
            rw [Jx]
            exact(decide_eq_true (by omega)).symm
        | cons a t hv=>
          cases hwi with
          | nil=>
            simp only [List.length_nil,List.length_cons]at hlen
            rw [Jz]
            exact(decide_eq_false (by omega)).symm
          | cons c u hw=>
            rw [List.zip_cons_cons]at hz
            cases hz
      rw [hv]at hR
      wp_walk
      exact⟨_,rfl,by simpa [Builtin.Tuple.tupleCompareSizes]using hR⟩
    case h=>
      exact⟨rfl,rfl,items.toList,items2.toList,ns,ms,rfl,hi,hj,by omega,h⟩
end
section
variable {prog:Program}{w:World}{A:Around}{E:Value->Shared->Prop}{s:Shared}
theorem Ku {l b:Addr}{items items2:Array Value}{ns ms:List Int}{Q:Value->Shared->Prop} (hl:IsTup s.heap l items) (hb:IsTup s.heap b items2) (hi:IntsAre items.toList ns) (hj:IntsAre items2.toList ms)
    (hu:A.units<cLine) (h:Q (.bool (lexLt ns ms)) s):wpAny (model prog w) A (compareOp .Lt (.ref l) (.ref b)) Q E s:=by
  obtain⟨⟨cls,dd,data,sl⟩,ho,hc,n,hd⟩:=id hl
  obtain⟨⟨cls2,dd2,data2,sl2⟩,ho2,hc2,n2,hd2⟩:=id hb
  simp only at hc hd hc2 hd2
  subst hc hd hc2 hd2
  exact richCompare_meets_room (op:= .Lt) ⟨_,ho,rfl⟩ ⟨_,ho2,rfl⟩ PySem.F.slot_tuple_lt PySem.F.entry_tuple_lt (PySem.F.args_tuple_lt_2 _ _) (Lj l b items items2 n n2 dd dd2 sl sl2 ns ms hi hj)
    ⟨ho,ho2,show Value.bool (lexLt ns ms)≠Value.notImplemented/\Q (.bool (lexLt ns ms)) s from⟨(fun x=>nomatch x),h⟩⟩ hu
theorem Y0 {t b:Addr}{vs ws:List Value}{Q:Value->Shared->Prop} (ht:IsTup s.heap t vs.toArray) (hb:IsTup s.heap b ws.toArray) (hv:vs≠ [])
    (h1:ws=[]->Q (.ref t) s) (h2:ws≠ []->Q (.ref s.heap.objs.size) { s with heap:=s.heap.push { cls:= .type "tuple",data:= .seq (vs++ws).toArray}})
    (hsz:vs.length+ws.length<=sizeLine):wpAny (model prog w) A (binaryOp .Add (.ref t) (.ref b)) Q E s:=by
  obtain⟨⟨cls,dd,data,sl⟩,ho,hc,n,hd⟩:=id ht
  obtain⟨⟨cls2,dd2,data2,sl2⟩,ho2,hc2,n2,hd2⟩:=id hb
  simp only at hc hd hc2 hd2
  subst hc hd hc2 hd2
  have e:vs.toArray++ws.toArray=(vs++ws).toArray:=by simp
  by_cases hw:ws=[]
  . exact concat_meets ⟨_,ho,rfl⟩ ⟨_,ho2,rfl⟩ noFill_tuple_add seq_tuple_add PySem.F.slot_tuple_add PySem.F.entry_tuple_add (PySem.F.args_tuple_add_2 _ _)
      (tuple_addW1 t b vs.toArray ws.toArray n n2 dd dd2 sl sl2 (by simpa using hv) (by simp [hw])) ⟨ho,ho2,h1 hw⟩
  . refine concat_meets ⟨_,ho,rfl⟩ ⟨_,ho2,rfl⟩ noFill_tuple_add seq_tuple_add PySem.F.slot_tuple_add PySem.F.entry_tuple_add (PySem.F.args_tuple_add_2 _ _)
      (tuple_addW2 t b vs.toArray ws.toArray n n2 dd dd2 sl sl2 (by simpa using hv) (by simpa using hw) (by rw [List.size_toArray,List.size_toArray];exact hsz)) ⟨ho,ho2,?_⟩
    rw [e]
    exact h2 hw
def sIx (n d:Nat):Option Int->Nat
  | none=>d
  | some v=>if v<0 then(v+(n:Int)).toNat else min v.toNat n
theorem Wb (n d:Nat):sIx n d none=d:=rfl
theorem Yr (n d k:Nat):sIx n d (some (k:Int))=min k n:=by
  show(if(k:Int)<0 then((k:Int)+(n:Int)).toNat else min (k:Int).toNat n)=min k n
  rw [if_neg (by omega),Int.toNat_natCast]
theorem Acp (n d:Nat) (hd:d<=n) (o:Option Int):sIx n d o<=n:=by
  cases o with
  | none=>exact hd
  | some v=>
    show(if v<0 then(v+(n:Int)).toNat else min v.toNat n)<=n
    by_cases hv:v<0
    . rw [if_pos hv];omega
    . rw [if_neg hv];exact Nat.min_le_right _ _
theorem R7 (v:Int) (n d:Nat):(if v<0 then max (v+(n:Int)) 0 else min v (n:Int))=((sIx n d (some v):Nat):Int):=by
  show(if v<0 then max (v+(n:Int)) 0 else min v (n:Int))=(((if v<0 then(v+(n:Int)).toNat else min v.toNat n):Nat):Int)
  by_cases hv:v<0
  . simp only [if_pos hv];omega
  . simp only [if_neg hv];omega
theorem Rf (lo hi:Option Int) (n:Nat):Builtin.Slice.sliceAdjust lo hi 1 (n:Int)=(((sIx n 0 lo:Nat):Int),((sIx n n hi:Nat):Int)):=by
  have h1:¬((1:Int)<0):=by omega
  unfold Builtin.Slice.sliceAdjust
  simp only [h1,if_false]
  refine Prod.ext ?_ ?_
  . cases lo with
    | none=>rfl
    | some v=>exact R7 v n 0
  . cases hi with
    | none=>rfl
    | some v=>exact R7 v n n
theorem Qq (i j:Nat):Builtin.Slice.slicePlaces (i:Int) (j:Int) 1=j-i:=by
  unfold Builtin.Slice.slicePlaces
  have h1:(1:Int)>0:=by omega
  simp only [h1,if_true,Int.ediv_one]
  split<;>omega
theorem J3 {v:Value}{o:Option Int}{Q:Option Int->Shared->Prop} (p:IsPart v o) (h:Q o s):wpAny (model prog w) A (Builtin.Slice.slicePartIndex v) Q E s:=by
  cases p with
  | none=>exact slicePart_none h
  | int i t=>exact slicePart_int h
theorem El {sl:Addr}{vl vu:Value}{lo hi:Option Int}{n:Nat}{Q:Int × Int × Nat->Shared->Prop} (hs:s.heap.IsSliceOf sl vl vu .none) (pl:IsPart vl lo) (pu:IsPart vu hi)
    (h:Q (((sIx n 0 lo:Nat):Int),1,sIx n n hi-sIx n 0 lo) s):wpAny (model prog w) A (Builtin.Slice.sliceApplied (.ref sl) (pure (n:Int))) Q E s:=by
  obtain⟨os,hos,hcs,hds⟩:=id hs
  unfold Builtin.Slice.sliceApplied Builtin.Slice.sliceFields
  refine wpAny_bind (wpAny_bind (wpAny_field hos hds (x:=vl) rfl (wpAny_bind (wpAny_field hos hds (x:=vu) rfl (wpAny_bind (wpAny_field hos hds (x:= .none) rfl (wpAny_pure ?_)))))))
  refine wpAny_bind (slicePart_none ?_)
  show wpAny _ _ (if((1:Int)==0)=true then _ else _) _ _ s
  rw [if_neg (by decide)]
  refine wpAny_bind (J3 pl (wpAny_bind (J3 pu (wpAny_bind (wpAny_pure ?_)))))
  show wpAny _ _ (match Builtin.Slice.sliceAdjust lo hi 1 (n:Int)with | (lo,hi)=>pure (lo,(1:Int),Builtin.Slice.slicePlaces lo hi 1)) _ _ s
  rw [Rf lo hi n]
  show wpAny _ _ (pure (((sIx n 0 lo:Nat):Int),(1:Int),Builtin.Slice.slicePlaces ((sIx n 0 lo:Nat):Int) ((sIx n n hi:Nat):Int) 1)) _ _ s
  rw [Qq]
  exact wpAny_pure h
theorem W7 (xs:Array Value) (i k:Nat):((List.range k).filterMap fun(m:Nat)=>xs[((i:Int)+(m:Int)*1).toNat]?).toArray=((xs.toList.drop i).take k).toArray:=by
  have e:(fun(m:Nat)=>xs[((i:Int)+(m:Int)*1).toNat]?)=fun m=>xs[i+m]? :=by
    funext m
    have:((i:Int)+(m:Int)*1).toNat=i+m:=by omega
    rw [this]
  rw [e]
  have:=pick_run xs i k
  rw [List.filterMap_map]at this
  have e2:((fun x=>xs[x]?) ∘ fun x=>i+x)=fun m=>xs[i+m]? :=rfl
  rw [e2]at this
  rw [this]
theorem Gz {t sl:Addr}{items:Array Value}{vl vu:Value}{lo hi:Option Int}{Q:Value->Shared->Prop} (ht:IsTup s.heap t items) (hs:s.heap.IsSliceOf sl vl vu .none) (pl:IsPart vl lo) (pu:IsPart vu hi)
    (hw:¬(sIx items.size 0 lo=0/\sIx items.size items.size hi=items.size))
    (h:Q (.ref s.heap.objs.size) { s with heap:=s.heap.push { cls:= .type "tuple",data:= .seq ((items.toList.drop (sIx items.size 0 lo)).take (sIx items.size items.size hi-sIx items.size 0 lo)).toArray}})
    (hsz:items.size<=sizeLine):wpAny (model prog w) A (getItem (.ref t) (.ref sl)) Q E s:=by
  have htake:sizeOk (.seq ((items.toList.drop (sIx items.size 0 lo)).take (sIx items.size items.size hi-sIx items.size 0 lo)).toArray):=by
    show((items.toList.drop (sIx items.size 0 lo)).take (sIx items.size items.size hi-sIx items.size 0 lo)).toArray.size<=sizeLine
    rw [List.size_toArray,List.length_take,List.length_drop,Array.length_toList]
    omega
  have hj:sIx items.size items.size hi<=items.size:=Acp _ _ (Nat.le_refl _) hi
  obtain⟨os,hos,hcs,hds⟩:=id hs
  have hTs:s.TypeIs (.ref sl) "slice":=⟨os,hos,hcs⟩
  unfold getItem
  try with_reducible refine wpAny_holding ?_
  first | refine wpAny_bind (wpAny_pure ?_) | skip
  refine wpAny_bind (wpAny_sequenceKey ht.typeIs (by decide) ?_)
  refine wpAny_bind (wpAny_callSpecial?_slot (name:=Str.ofString "__getitem__") ht.typeIs PyProof.Rows.slot_tuple_getitem
    (wpAny_call_entry PyProof.Rows.slot_tuple_getitem ht.typeIs entry_tuple_getitem ?_ (args_tuple_getitem _ _)))
  show wpAny _ _ (Builtin.Tuple.tupleItemsOf (.ref t)>>=_) _ _ s
  refine wpAny_bind (tupleItemsOf_ ht ?_)
  refine wpAny_bind (wpAny_typeOf hTs ?_)
  rw [if_pos (by decide)]
  refine wpAny_bind (El hs pl pu ?_)
  have hno:¬((((sIx items.size 0 lo:Nat):Int)==0&&(1:Int)==1&&(sIx items.size items.size hi-sIx items.size 0 lo)==items.size)=true):=by
    intro q
    rw [Bool.and_eq_true,Bool.and_eq_true]at q
    have q1:((sIx items.size 0 lo:Nat):Int)=0:=eq_of_beq q.1.1
    have q2:sIx items.size items.size hi-sIx items.size 0 lo=items.size:=eq_of_beq q.2
    exact hw ⟨by omega,by omega⟩
  show wpAny _ _ (if(((sIx items.size 0 lo:Nat):Int)==0&&(1:Int)==1&&(sIx items.size items.size hi-sIx items.size 0 lo)==items.size)=true then _ else _) _ _ s
  rw [if_neg hno,W7]
  first
    | exact wpAny_bind (m:=Builtin.Tuple.tupleExact _) (wpAny_newObj_type (wpAny_pure ⟨_,rfl,wpAny_pure h⟩) htake)
    | exact wpAny_bind (m:=Builtin.Tuple.tupleExact _) (wpAny_newObj_type (wpAny_bind (wpAny_pure (wpAny_pure ⟨_,rfl,wpAny_pure h⟩))) htake)
    | exact wpAny_bind (wpAny_bind (m:=Builtin.Tuple.tupleExact _) (wpAny_newObj_type (wpAny_pure (wpAny_pure ⟨_,rfl,wpAny_pure h⟩)) htake))
    | exact wpAny_bind (wpAny_bind (m:=Builtin.Tuple.tupleExact _) (wpAny_newObj_type (wpAny_pure ⟨_,rfl,wpAny_pure h⟩) htake))
end
end HT
namespace L2
open PySem PySem.Spec PyProof.Rows
abbrev TO:=St->Hp->(Option Int->Hp->Prop)->Prop
def PO (X:Cx) (e:Option Expr) (t:TO):Prop:=
  ∀(pins:List (Addr × Obj)) (s:Shared) (σ:St) (H:Hp) (Q:Option Int->Hp->Prop),Inv X pins σ H s->t σ H Q->
    wpAny (model X.prog X.w) X.A (evalPart e X.env) (fun u s'=>∃o H',Inv X pins σ H' s'/\IsPart u o/\Q o H') X.xe s
def Oq:TO:=fun _ H Q=>Q none H
def Z8 (t:TE):TO:=fun σ H Q=>t σ H fun x H1=>∃i,x= .int i/\Q (some i) H1
theorem intsAre_of {ns:List Int}:∀ {us:List Value},Vals (ns.map V.int) us->IntsAre us ns:=by
  induction ns with
  | nil=>intro us r;rw [List.map_nil]at r;cases r;exact .nil
  | cons n ns ih=>
    intro us r
    rw [List.map_cons]at r
    cases r with
    | cons r1 r2=>
      obtain⟨t,e⟩:=r1
      subst e
      exact .cons n t (ih r2)
section
variable {X:Cx}{e:Expr}{te:TE}{lo hi:Option Expr}{tl th:TO}{pos p2:Pos}
theorem Ly:PO X none Oq:=by
  intro pins s σ H Q I h
  rw [evalPart_none]
  exact wpAny_pure ⟨none,H,I,.none,h⟩
theorem Lg (h:PE X e te):PO X (some e) (Z8 te):=by
  intro pins s σ H Q I hw
  rw [evalPart_some]
  refine thn (h pins s σ H _ I hw) fun u s1 ⟨x,H1,I1,r1,q1⟩=> ?_
  obtain⟨i,rfl,q⟩:=q1
  obtain⟨t,rfl⟩:=r1
  exact⟨some i,H1,I1,.int i t,q⟩
def SlR (X:Cx) (r:V->Option Int->Option Int->Hp->VK->Prop):Prop:=
  ∀(pins:List (Addr × Obj)) (s:Shared) (σ:St) (H:Hp) (x:V) (v vl vu:Value) (lo hi:Option Int) (sl:Addr) (Q:VK),Inv X pins σ H s->RelV x v->s.heap.IsSliceOf sl vl vu .none->IsPart vl lo->IsPart vu hi->r x lo hi H Q->
    ∃T id,typeLookup (.type T) "__getitem__"=pure (some (.builtin id))/\s.TypeIs v T/\wpAny (model X.prog X.w) X.A (getItem v (.ref sl)) (EP X pins σ Q) X.xe s
def tSl (r:V->Option Int->Option Int->Hp->VK->Prop) (te:TE) (tl th:TO):TE:=fun σ H Q=>te σ H fun x H1=>tl σ H1 fun l H2=>th σ H2 fun u H3=>r x l u H3 Q
theorem Ig {r:V->Option Int->Option Int->Hp->VK->Prop} (hr:SlR X r) (he:PE X e te) (hl:PO X lo tl) (hu:PO X hi th):PE X (.Subscript e (.Slice lo hi none p2) pos) (tSl r te tl th):=by
  intro pins s σ H Q I h
  refine Subscript_ (thn (he pins s σ H _ I h) fun v s1 ⟨x,H1,I1,r1,q1⟩=> ?_)
  refine wpAny_Slice (thn (hl pins s1 σ H1 _ I1 q1) fun vl s2 ⟨l,H2,I2,pl,q2⟩=>thn (hu pins s2 σ H2 _ I2 q2) fun vu s3 ⟨u,H3,I3,pu,q3⟩=> ?_)
  rw [evalPart_none]
  refine wpAny_pure ?_
  have I4:Inv X pins σ H3 { s3 with heap:=s3.heap.push { cls:= .type "slice",data:= .fields #[vl,vu,.none]}}:=I3.kept (t':=s3.toks) fun b ob q=>Heap.get?_push_of_some _ q
  obtain⟨T,id,hT,ht,hg⟩:=hr pins { s3 with heap:=s3.heap.push { cls:= .type "slice",data:= .fields #[vl,vu,.none]}} σ H3 x v vl vu l u s3.heap.objs.size Q I4 r1 (Heap.IsSliceOf.new ..) pl pu q3
  show wpAny (model X.prog X.w) X.A (subscriptTail e (.Slice lo hi none p2) v (.ref s3.heap.objs.size)) (EP X pins σ Q) X.xe { s3 with heap:=s3.heap.push { cls:= .type "slice",data:= .fields #[vl,vu,.none]}}
  exact tail_any (ops:=[.ref s3.heap.objs.size,v]) ht hT hg (by with_unfolding_all rfl)
def Rj (xs:List V) (lo hi:Option Int):List V:=(xs.drop (HT.sIx xs.length 0 lo)).take (HT.sIx xs.length xs.length hi-HT.sIx xs.length 0 lo)
theorem Jj (xs:List V) (lo hi:Option Int):(Rj xs lo hi).length<=xs.length:=by
  unfold Rj
  rw [List.length_take,List.length_drop]
  omega
def Ae2 (K:PySem.W.Frag):V->Option Int->Option Int->Hp->VK->Prop:=fun x lo hi H Q=>∃a xs,x= .ref a/\SqT K H a xs/\
  ¬(HT.sIx xs.length 0 lo=0/\HT.sIx xs.length xs.length hi=xs.length)/\∀p,H p=none->Q (.ref p) (upd H p (.tup (Rj xs lo hi)))
theorem Ab0:SlR X (Ae2 X.K):=by
  intro pins s σ H x v vl vu lo hi sl Q I rx hs pl pu h
  obtain⟨a,xs,rfl,hx,hw,q⟩:=h
  cases rx
  obtain⟨its,r,ht,hz⟩:=I.tuple hx
  have hlen:its.toArray.size=xs.length:=by rw [List.size_toArray];exact r.length.symm
  refine⟨"tuple",_,PyProof.Rows.slot_tuple_getitem.lookup,ht.typeIs,?_⟩
  refine HT.Gz ht hs pl pu (by rw [hlen];exact hw) ?_ (by rw [hlen];exact hz)
  rw [hlen]
  refine⟨.ref s.heap.objs.size,_,I.laid (t':=s.toks) (o:= .tup (Rj xs lo hi)) (fun b ob q=>Heap.get?_push_of_some _ q) (Nat.le_refl _) ?_,rfl,q _ (I.hok.fresh (Nat.le_refl _))⟩
  exact⟨Nat.le_trans (Jj xs lo hi) hz,_,(r.drop (HT.sIx xs.length 0 lo)).take (HT.sIx xs.length xs.length hi-HT.sIx xs.length 0 lo),IsTup.new _ _⟩
def Aef (K:PySem.W.Frag):R2:=fun x y H Q=>∃a b ns ms,x= .ref a/\y= .ref b/\SqT K H a (ns.map V.int)/\SqT K H b (ms.map V.int)/\Q (.bl (HT.lexLt ns ms)) H
theorem Abg (hu:X.A.units<cLine):OpR X (compareOp .Lt) (Aef X.K):=by
  intro pins s σ H x y v u Q I rx ry h
  obtain⟨a,b,ns,ms,rfl,rfl,ha,hb,q⟩:=h
  cases rx
  cases ry
  obtain⟨its,r1,p1,_⟩:=I.tuple ha
  obtain⟨its2,r2,p2,_⟩:=I.tuple hb
  have i1:IntsAre its.toArray.toList ns:=intsAre_of r1
  have i2:IntsAre its2.toArray.toList ms:=intsAre_of r2
  exact HT.Ku p1 p2 i1 i2 hu ⟨.bl (HT.lexLt ns ms),H,I,rfl,q⟩
def Ac2 (K:PySem.W.Frag):R2:=fun x y H Q=>∃a b xs ys,x= .ref a/\y= .ref b/\SqT K H a xs/\SqT K H b ys/\xs≠ []/\xs.length+ys.length<=sizeLine/\
  (ys=[]->Q (.ref a) H)/\(ys≠ []->∀p,H p=none->Q (.ref p) (upd H p (.tup (xs++ys))))
theorem Vals.nil_iff {xs:List V}{us:List Value} (r:Vals xs us):us=[]↔xs=[]:=by
  cases r with
  | nil=>simp
  | cons _ _=>simp
theorem Yq:OpR X (binaryOp .Add) (Ac2 X.K):=by
  intro pins s σ H x y v u Q I rx ry h
  obtain⟨a,b,xs,ys,rfl,rfl,ha,hb,hx,hz,q1,q2⟩:=h
  cases rx
  cases ry
  obtain⟨its,r1,p1,_⟩:=I.tuple ha
  obtain⟨its2,r2,p2,_⟩:=I.tuple hb
  refine HT.Y0 p1 p2 (fun z=>hx (r1.nil_iff.mp z)) (fun z=>⟨.ref a,H,I,rfl,q1 (r2.nil_iff.mp z)⟩) (fun z=> ?_) (by rw [<-r1.length,<-r2.length];exact hz)
  refine⟨.ref s.heap.objs.size,_,I.laid (t':=s.toks) (o:= .tup (xs++ys)) (fun b ob q=>Heap.get?_push_of_some _ q) (Nat.le_refl _) ?_,rfl,q2 (fun w=>z (r2.nil_iff.mpr w)) _ (I.hok.fresh (Nat.le_refl _))⟩
  exact⟨by rw [List.length_append];exact hz,_,r1.append r2,IsTup.new _ _⟩
end
end L2
namespace L2
open PySem PySem.Spec PyProof.Rows
def ixN (n:Nat) (i:Int):Option Nat:=if 0<=i then(if i<n then some i.toNat else none)else if-(n:Int)<=i then some (i+n).toNat else none
def atI {α:Type} (xs:List α) (i:Int):Option α:=(ixN xs.length i).bind fun j=>xs[j]?
theorem Tp {n:Nat}{i:Int}{j:Nat} (h:ixN n i=some j):seqIndex? i n=some j/\j<n/\ -(n:Int)<=i/\i<n:=by
  unfold ixN at h
  by_cases h0:0<=i
  . rw [if_pos h0]at h
    by_cases h1:i<n
    . rw [if_pos h1]at h
      have e:i.toNat=j:=Option.some.inj h
      exact⟨by rw [seqIndex_of h0 h1,e],by omega,by omega,h1⟩
    . rw [if_neg h1]at h;cases h
  . rw [if_neg h0]at h
    by_cases h1: -(n:Int)<=i
    . rw [if_pos h1]at h
      have e:(i+n).toNat=j:=Option.some.inj h
      exact⟨by rw [seqIndex_neg (by omega) h1,e],by omega,h1,by omega⟩
    . rw [if_neg h1]at h;cases h
theorem T8 {α:Type}{xs:List α}{i:Int}{v:α} (h:atI xs i=some v):∃j,seqIndex? i xs.length=some j/\xs[j]? =some v/\j<xs.length/\ -(xs.length:Int)<=i/\i<xs.length:=by
  unfold atI at h
  cases e:ixN xs.length i with
  | none=>rw [e]at h;cases h
  | some j=>
    rw [e]at h
    obtain⟨h1,h2,h3,h4⟩:=Tp e
    exact⟨j,h1,h,h2,h3,h4⟩
theorem Dc {α:Type}{xs:List α}{j:Nat}{v:α} (h:xs[j]? =some v):atI xs (j:Int)=some v:=by
  have hj:j<xs.length:=(List.getElem?_eq_some_iff.mp h).1
  have e:ixN xs.length (j:Int)=some j:=by
    unfold ixN
    rw [if_pos (by omega),if_pos (by omega)];simp
  unfold atI;rw [e];exact h
def Ur (b:Expr):Prop:=∀o i,subscripted b false o i=operate [o,i] (getItem o i)
def IxR (X:Cx) (r:R2):Prop:=
  ∀(value slice:Expr) (pins:List (Addr × Obj)) (s:Shared) (σ:St) (H:Hp) (x y:V) (v u:Value) (Q:VK),Inv X pins σ H s->RelV x v->RelV y u->r x y H Q->
    subscripted slice false v u=operate [v,u] (getItem v u)->wpAny (model X.prog X.w) X.A (subscriptTail value slice v u) (EP X pins σ Q) X.xe s
def MtR (X:Cx) (id:String) (r:V->List V->Hp->VK->Prop):Prop:=
  ∀(pins:List (Addr × Obj)) (s:Shared) (σ:St) (H:Hp) (x:V) (xs:List V) (v:Value) (us:List Value) (Q:VK),Inv X pins σ H s->RelV x v->Vals xs us->r x xs H Q->
    wpAny (model X.prog X.w) X.A (call (.builtin id) (v::us)) (EP X pins σ Q) X.xe s
section
variable {X:Cx}{a b:Expr}{ta tb:TE}{pos:Pos}
theorem Bj {r:R2} (hr:IxR X r) (ha:PE X a ta) (hb:PE X b tb) (hs:Ur b):PE X (.Subscript a b pos) (tOp r ta tb):=by
  intro pins s σ H Q I h
  exact Subscript_ (Ac7 ha hb I h fun v u s2 x y H2 I2 rx ry q=>hr a b pins s2 σ H2 x y v u Q I2 rx ry q (hs _ _))
def Aeg (K:PySem.W.Frag):R2:=fun x y H Q=>∃p xs i v,x= .ref p/\y= .int i/\SqL K H p xs/\atI xs i=some v/\Q v H
def Adk (K:PySem.W.Frag):R2:=fun x y H Q=>∃p xs i v,x= .ref p/\y= .int i/\SqT K H p xs/\atI xs i=some v/\Q v H
theorem Ea:IxR X (Aeg X.K):=by
  intro value slice pins s σ H x y v u Q I rx ry h hs
  obtain⟨p,xs,i,z,rfl,rfl,hq,he,q⟩:=h
  cases rx
  obtain⟨t,rfl⟩:=ry
  obtain⟨its,r,pl,hz⟩:=I.list hq
  obtain⟨j,h1,h2,h3,h4,h5⟩:=T8 he
  obtain⟨w,ew,rw'⟩:=r.get h2
  have hl:=r.length
  have hn:=Pz
  have fin:EP X pins σ Q w s:=⟨z,H,I,rw',q⟩
  by_cases h0:0<=i
  . have hj:i.toNat=j:=by
      rw [seqIndex_of h0 h5]at h1
      exact Option.some.inj h1
    exact item_listR pl.isList h0 (by omega) (by rw [hj];simpa using ew) fin hs
  . have hj:(i+(its.toArray.size:Int)).toNat=j:=by
      rw [seqIndex_neg (by omega) h4]at h1
      rw [List.size_toArray,<-hl]
      exact Option.some.inj h1
    exact subscriptTail_builtinR (x:=w) pl.isList.typeIs slot_list_getitem.lookup
      (wpAny_getItem_list_neg (Q:=fun r s'=>r=w/\EP X pins σ Q r s') pl.isList (by omega) (by rw [List.size_toArray]<;>omega) (by omega) (by rw [hj];simpa using ew) ⟨rfl,fin⟩) hs
theorem Bk:IxR X (Adk X.K):=by
  intro value slice pins s σ H x y v u Q I rx ry h hs
  obtain⟨p,xs,i,z,rfl,rfl,hq,he,q⟩:=h
  cases rx
  obtain⟨t,rfl⟩:=ry
  obtain⟨its,r,pl,hz⟩:=I.tuple hq
  obtain⟨j,h1,h2,h3,h4,h5⟩:=T8 he
  obtain⟨w,ew,rw'⟩:=r.get h2
  have hl:=r.length
  have hn:=Pz
  have fin:EP X pins σ Q w s:=⟨z,H,I,rw',q⟩
  exact subscriptTail_builtinR (x:=w) pl.typeIs slot_tuple_getitem.lookup
    (getItem_tuple (j:=j) (Q:=fun r s'=>r=w/\EP X pins σ Q r s') pl (by omega) (by omega) (by rw [List.size_toArray,<-hl];exact h1) (by simpa using ew) ⟨rfl,fin⟩) hs
theorem Qy (its:List Value) (n j:Nat) (u:Value):Obj.mapSeq (·.setIfInBounds j u) { cls:= .type "list",data:= .seq its.toArray n}={ cls:= .type "list",data:= .seq (its.set j u).toArray n}:=by
  simp [Obj.mapSeq]
theorem Inv.lst {pins:List (Addr × Obj)}{σ:St}{H:Hp}{s:Shared}{p:Addr}{xs:List V} (I:Inv X pins σ H s) (h:H p=some (.lst xs)):
    ∃(its:List Value) (n:Nat),Vals xs its/\s.heap.get? p=some { cls:= .type "list",data:= .seq its.toArray n}/\xs.length<=sizeLine:=by
  obtain⟨z,its,n,r,e⟩:=I.hok p _ h
  exact⟨its,n,r,e,z⟩
theorem Inv.lstUpd {pins:List (Addr × Obj)}{σ:St}{H:Hp}{s:Shared}{p:Addr}{xs ys:List V}{its its':List Value}{n n':Nat}{f:Obj->Obj} (I:Inv X pins σ H s) (h:H p=some (.lst xs))
    (ho:s.heap.get? p=some { cls:= .type "list",data:= .seq its.toArray n}) (hf:f { cls:= .type "list",data:= .seq its.toArray n}={ cls:= .type "list",data:= .seq its'.toArray n'}) (r:Vals ys its') (hz:ys.length<=sizeLine) (t:Nat):
    Inv X pins σ (upd H p (.lst ys)) { s with heap:=s.heap.update p f,toks:=t}:=by
  have e:(s.heap.update p f).get? p=some { cls:= .type "list",data:= .seq its'.toArray n'}:=by
    rw [Heap.get?_update_self f ho (by rw [hf]<;>rfl),hf]
  refine I.write (x:=p) (e:=p) (by rw [h];trivial) (.inl rfl) (fun b u hb q=>(Heap.get?_update_other _ _ (Ne.symm hb)).trans q) ⟨_,e⟩ ?_
  exact⟨hz,its',n',r,e⟩
def Acg:V->V->V->Hp->(Hp->Prop)->Prop:=fun o i v H Q=>∃p xs k j,o= .ref p/\i= .int k/\H p=some (.lst xs)/\ixN xs.length k=some j/\Q (upd H p (.lst (xs.set j v)))
theorem set_list:Adz X Acg:=by
  intro pins s σ H o i v ov iv u Q I ro ri rv h
  obtain⟨p,xs,k,j,rfl,rfl,hp,hj,q⟩:=h
  cases ro
  obtain⟨t,rfl⟩:=ri
  obtain⟨its,n,r,ho,hz⟩:=I.lst hp
  obtain⟨h1,h2,h3,h4⟩:=Tp hj
  have hl:=r.length
  have hn:=Pz
  have I':Inv X pins σ (upd H p (.lst (xs.set j v))) { s with heap:=s.heap.update p (Obj.mapSeq (·.setIfInBounds j u))}:=
    I.lstUpd hp ho (Qy its n j u) (r.set rv j) (by rw [List.length_set];exact hz) s.toks
  by_cases h0:0<=k
  . have hk:k.toNat=j:=by
      rw [seqIndex_of h0 h4]at h1
      exact Option.some.inj h1
    exact PySem.W.ki_setAt ho h0 (by omega) (by rw [List.size_toArray,<-hl];exact h4) (by rw [hk];exact⟨_,I',q⟩)
  . have hk:(k+(its.toArray.size:Int)).toNat=j:=by
      rw [seqIndex_neg (by omega) h3]at h1
      rw [List.size_toArray,<-hl]
      exact Option.some.inj h1
    exact PySem.W.ki_setBack ho (by omega) (by rw [List.size_toArray,<-hl];exact h3) (by omega) (by rw [hk];exact⟨_,I',q⟩)
theorem Mj (lo hi:Option Int) (n:Nat):(sliceBounds lo hi none n).1=((HT.sIx n 0 lo:Nat):Int)/\(sliceBounds lo hi none n).2.1=((HT.sIx n n hi:Nat):Int)/\(sliceBounds lo hi none n).2.2=1:=by
  refine⟨?_,?_,rfl⟩
  . cases lo with
    | none=>simp [sliceBounds,HT.sIx]
    | some i=>
      simp only [sliceBounds,HT.sIx,Option.getD_none,show(1:Int)>0 by decide,if_true]
      by_cases h:i<0
      . simp only [h,if_true]<;>omega
      . simp only [h,if_false]<;>omega
  . cases hi with
    | none=>simp [sliceBounds,HT.sIx]
    | some i=>
      simp only [sliceBounds,HT.sIx,Option.getD_none,show(1:Int)>0 by decide,if_true]
      by_cases h:i<0
      . simp only [h,if_true]<;>omega
      . simp only [h,if_false]<;>omega
theorem Lk (its:List Value) (lo hi:Option Int):slicePick its.toArray lo hi none=((its.drop (HT.sIx its.length 0 lo)).take (HT.sIx its.length its.length hi-HT.sIx its.length 0 lo)).toArray:=by
  obtain⟨h1,h2,h3⟩:=Mj lo hi its.toArray.size
  unfold slicePick
  rw [h1,h2,h3]
  simp only [sliceRange_one,pick_run,List.size_toArray]<;>rfl
def Ae3 (K:PySem.W.Frag):V->Option Int->Option Int->Hp->VK->Prop:=fun x lo hi H Q=>∃a xs,x= .ref a/\SqL K H a xs/\∀p,H p=none->Q (.ref p) (upd H p (.lst (Rj xs lo hi)))
theorem Zd:SlR X (Ae3 X.K):=by
  intro pins s σ H x v vl vu lo hi sl Q I rx hs pl pu h
  obtain⟨a,xs,rfl,hx,q⟩:=h
  cases rx
  obtain⟨its,r,ht,hz⟩:=I.list hx
  have hlen:=r.length
  refine⟨"list",_,slot_list_getitem.lookup,ht.isList.typeIs,?_⟩
  refine wpAny_getItem_list_slice ht.isList hs pl pu .none (by simp) ?_ (by rw [List.size_toArray]<;>omega)
  rw [Lk,<-hlen]
  refine⟨.ref s.heap.objs.size,_,I.laid (t':=s.toks) (o:= .lst (Rj xs lo hi)) (fun b ob q=>Heap.get?_push_of_some _ q) (Nat.le_refl _) ?_,rfl,q _ (I.hok.fresh (Nat.le_refl _))⟩
  exact⟨Nat.le_trans (Jj xs lo hi) hz,_,0,(r.drop (HT.sIx xs.length 0 lo)).take (HT.sIx xs.length xs.length hi-HT.sIx xs.length 0 lo),Heap.get?_push_size _ rfl⟩
theorem Bm:Dv X (.builtin "len") (fun xs H Q=>∃p ys,xs=[.ref p]/\(SqL X.K H p ys\/SqT X.K H p ys)/\Q (.int ys.length) H):=by
  intro pins s σ H xs us Q I r h
  obtain⟨p,ys,rfl,hq,q⟩:=h
  obtain⟨u,rfl,rx⟩:=vals1 r
  cases rx
  have hn:=Pz
  rcases hq with hq | hq
  . obtain⟨its,r',pl,hz⟩:=I.list hq
    have hlen:=r'.length
    exact Calls.call_len_list pl.isList (by simp only [List.size_toArray]<;>omega) ⟨.int ys.length,H,I.tok _,⟨s.toks+1,by rw [List.size_toArray,hlen]⟩,q⟩
  . obtain⟨its,r',pl,hz⟩:=I.tuple hq
    have hlen:=r'.length
    exact len_tuple pl (by simp only [List.size_toArray]<;>omega) ⟨.int ys.length,H,I.tok _,⟨s.toks+1,by rw [List.size_toArray,hlen]⟩,q⟩
theorem Nh:Dv X (.type "list") (fun xs H Q=>∃p ys,xs=[.ref p]/\(SqL X.K H p ys\/SqT X.K H p ys)/\∀l,H l=none->Q (.ref l) (upd H l (.lst ys))):=by
  intro pins s σ H xs us Q I r h
  obtain⟨p,ys,rfl,hq,q⟩:=h
  obtain⟨u,rfl,rx⟩:=vals1 r
  cases rx
  have fin:∀(its:List Value),Vals ys its->ys.length<=sizeLine->∀(h':Heap) (c':Nat),(∀b o',s.heap.get? b=some o'->h'.get? b=some o')->
      h'.get? s.heap.objs.size=some { cls:= .type "list",dict:=none,data:= .seq its.toArray c',slots:= #[]}->EP X pins σ Q (.ref s.heap.objs.size) { s with heap:=h'}:=fun its r' hz h' c' kp e=>
    ⟨.ref s.heap.objs.size,_,I.laid (t':=s.toks) kp (Nat.le_refl _) (show Bs X.prog X.w _ h' _ (.lst ys)from⟨hz,its,c',r',e⟩),rfl,q _ (I.hok.fresh (Nat.le_refl _))⟩
  rcases hq with hq | hq
  . obtain⟨its,r',pl,hz⟩:=I.list hq
    have hlen:=r'.length
    obtain⟨o,ho,hc,n,hd⟩:=pl.isList
    exact call_list_seq p (.inl rfl) ho hc hd (fun h' c' kp e=>fin its r' hz h' c' kp e) (by simp only [List.size_toArray]<;>omega)
  . obtain⟨its,r',pl,hz⟩:=I.tuple hq
    have hlen:=r'.length
    obtain⟨o,ho,hc,n,hd⟩:=pl
    exact call_list_seq p (.inr rfl) ho hc hd (fun h' c' kp e=>fin its r' hz h' c' kp e) (by simp only [List.size_toArray]<;>omega)
theorem Cv:Dv X (.type "tuple") (fun xs H Q=>∃p ys,xs=[.ref p]/\((SqL X.K H p ys/\∀l,H l=none->Q (.ref l) (upd H l (.tup ys)))\/(SqT X.K H p ys/\Q (.ref p) H))):=by
  intro pins s σ H xs us Q I r h
  obtain⟨p,ys,rfl,h⟩:=h
  obtain⟨u,rfl,rx⟩:=vals1 r
  cases rx
  rcases h with⟨hq,q⟩ | ⟨hq,q⟩
  . obtain⟨its,r',pl,hz⟩:=I.list hq
    have hlen:=r'.length
    refine call_tuple_list pl.isList (fun h' kp=> ?_) (by simp only [List.size_toArray]<;>omega)
    have I1:Inv X pins σ H { s with heap:=h'}:=I.kept (t':=s.toks) kp
    have I2:Inv X pins σ (upd H h'.objs.size (.tup ys)) { s with heap:=h'.push { cls:= .type "tuple",data:= .seq its.toArray}}:=
      I1.laid (t':=s.toks) (fun b o e=>Heap.get?_push_of_some _ e) (Nat.le_refl _) (show Bs X.prog X.w _ _ _ (.tup ys)from⟨hz,its,r',IsTup.new _ _⟩)
    exact⟨.ref h'.objs.size,_,I2,rfl,q _ (I1.hok.fresh (Nat.le_refl _))⟩
  . obtain⟨its,r',pl,hz⟩:=I.tuple hq
    exact call_tuple_same pl ⟨.ref p,H,I,rfl,q⟩
def tyV (K:PySem.W.Frag) (T:String) (x:V) (H:Hp):Prop:=match x with
  | .str _=>T="str"
  | .int _=>T="int"
  | .ref p=>(T="list"/\∃xs,SqL K H p xs)\/(T="tuple"/\∃o,K.lookup p=some o/\o.cls= .type "tuple"/\o.dict=none)\/
      (T="dict"/\((∃kvs,H p=some (.dK kvs))\/∃kvs,H p=some (.dT kvs)))\/(T="set"/\∃S n,H p=some (.set S n))
  | _=>False
theorem Abv {pins:List (Addr × Obj)}{σ:St}{H:Hp}{s:Shared}{T:String}{x:V}{v:Value} (I:Inv X pins σ H s) (r:RelV x v) (ty:tyV X.K T x H):
    s.TypeIs v T/\∀a,v= .ref a->∃ob,s.heap.get? a=some ob/\ob.dict=none:=by
  cases x with
  | str z=>
    obtain⟨t,rfl⟩:=r
    cases(show T="str" from ty)
    exact⟨typeIs_str s z t,fun _ e=>nomatch e⟩
  | int i=>
    obtain⟨t,rfl⟩:=r
    cases(show T="int" from ty)
    exact⟨typeIs_int s i t,fun _ e=>nomatch e⟩
  | ref p=>
    cases r
    rcases ty with⟨rfl,xs,hq⟩ | ⟨rfl,o,hk,hc,hd⟩ | ⟨rfl,hk⟩ | ⟨rfl,S,n,hk⟩
    . obtain⟨its,_,pl,_⟩:=I.list hq
      refine⟨pl.isList.typeIs,fun a e=> ?_⟩
      cases e
      obtain⟨o,n,e,c,hd,_⟩:=pl
      exact⟨o,e,hd⟩
    . refine⟨⟨o,I.kIn p o hk,hc⟩,fun a e=> ?_⟩
      cases e
      exact⟨o,I.kIn _ o hk,hd⟩
    . have z:∃o,s.heap.get? p=some o/\o.ExactDict:=by
        rcases hk with⟨kvs,hk⟩ | ⟨kvs,hk⟩
        . obtain⟨_,_,_,_,o,_,_,e,ex,_⟩:=I.hok p _ hk
          exact⟨o,e,ex⟩
        . obtain⟨_,_,_,_,o,_,_,e,ex,_⟩:=I.hok p _ hk
          exact⟨o,e,ex⟩
      obtain⟨o,e,ex⟩:=z
      refine⟨⟨o,e,ex.1⟩,fun a e2=> ?_⟩
      cases e2
      exact⟨o,e,ex.2.1⟩
    . obtain⟨o,_,_,_,e,ex,_⟩:=I.hok p _ hk
      refine⟨⟨o,e,ex.1⟩,fun a e2=> ?_⟩
      cases e2
      exact⟨o,e,ex.2.1⟩
  | _=>exact False.elim ty
def Ae4 (K:PySem.W.Frag) (T:String) (r:V->List V->Hp->VK->Prop) (to:TE):TE:=fun σ H Q=>to σ H fun x H1=>tyV K T x H1/\r x [] H1 Q
def tBM (K:PySem.W.Frag) (T:String) (r:V->List V->Hp->VK->Prop) (to:TE) (t:TA):TE:=fun σ H Q=>to σ H fun x H1=>tyV K T x H1/\t σ H1 fun xs H2=>r x xs H2 Q
variable {o e:Expr}{es:List Expr}{to:TE}{t:TA}{name:Str}{apos cpos:Pos}{T id:String}{r:V->List V->Hp->VK->Prop}
theorem G4 (pa:PlainAttrs T) (slot:Slot T name id) (hty:typeOf (.builtin id)=pure (.type "method_descriptor")) (hm:MtR X id r) (ho:PE X o to) (ha:PA X (e::es) t)
    (hbase:attributeBase o name X.env (eval o X.env)=eval o X.env:=by rfl)
    (hfew:((backTo cpos (starEach (e::es) X.env)).all (fun x=> !x.1)&&(backToKw cpos (keywordEach [] X.env)).all (fun x=>x.1.isSome)
      &&decide ((e::es).length+([]:List Keyword).length+(if([]:List Keyword).isEmpty then 0 else 1)<30))=true:=by rfl)
    (hline:(apos.endLine==cpos.line)=true:=by rfl) (hs:starEach (e::es) X.env=(false,eval e X.env)::starEach es X.env:=by rfl) (hplain:(backTo cpos (starEach es X.env)).any (·.1)=false:=by rfl):
    PE X (.Call (.Attribute o name apos) (e::es) [] cpos) (tBM X.K T r to t):=by
  intro pins s σ H Q I h
  refine wpAny_Call_method_late hbase hfew hline rfl (thn (ho pins s σ H _ I h) fun v s1 ⟨x,H1,I1,r1,ty,q1⟩=> ?_)
  obtain⟨h1,h2⟩:=Abv I1 r1 ty
  refine⟨T,id,pa,slot,hty,h1,h2,?_⟩
  have hA:=ha cpos pins s1 σ H1 _ I1 q1
  rw [hs]at hA ⊢
  refine Calls.callWith_builtin (by show(false||(backTo cpos (starEach es X.env)).any (·.1))=false;rw [hplain]<;>rfl) (Calls.evalArgs_plain ?_)
  exact thn hA fun us s2 ⟨vs,H2,I2,r2,q2⟩=>hm pins s2 σ H2 x vs v us Q I2 r1 r2 q2
/-xs.append(e),list.index on a module's tuple .. are MtR facts of 06m-/
end
end L2
namespace L2
open PySem PySem.Spec PyProof.Rows
def MtM (X:Cx) (id:String) (r:V->List V->Hp->VK->Prop):Prop:=
  ∀(pins:List (Addr × Obj)) (s:Shared) (σ:St) (H:Hp) (x:V) (xs:List V) (v:Value) (us:List Value) (Q:VK),Inv X pins σ H s->RelV x v->Vals xs us->r x xs H Q->
    wpAny (model X.prog X.w) X.A (call (.builtin id) (v::us)) (EP X pins σ Q) X.xe s
theorem Vals.one:∀ {x:V}{us:List Value},Vals [x] us->∃u,us=[u]/\RelV x u
  | _,_,.cons r .nil=>⟨_,rfl,r⟩
theorem Vals.zero:∀ {us:List Value},Vals [] us->us=[]
  | _,.nil=>rfl
theorem Vals.eraseIdx:∀ {xs:List V}{us:List Value} (i:Nat),Vals xs us->Vals (xs.eraseIdx i) (us.eraseIdx i)
  | _,_,_,.nil=> .nil
  | _,_,0,.cons _ t=>t
  | _,_,i+1,.cons r t=> .cons r (Vals.eraseIdx i t)
theorem Vals.reverse {xs:List V}{us:List Value} (h:Vals xs us):Vals xs.reverse us.reverse:=by
  induction h with
  | nil=>exact .nil
  | cons r t ih=>rw [List.reverse_cons,List.reverse_cons];exact Vals.append ih (.cons r .nil)
theorem Vals.rep {xs:List V}{us:List Value} (h:Vals xs us):∀k:Nat,Vals (List.replicate k xs).flatten (List.replicate k us).flatten
  | 0=> .nil
  | k+1=>by
    rw [List.replicate_succ,List.replicate_succ,List.flatten_cons,List.flatten_cons]
    exact Vals.append h (Vals.rep h k)
theorem Mx {α:Type}:∀(l:List α) (i:Nat),(l.eraseIdx i).length<=l.length
  | [],_=>Nat.le_refl _
  | _::_,0=>Nat.le_succ _
  | _::r,i+1=>Nat.succ_le_succ (Mx r i)
theorem foldl_rep (its:List Value):∀(k:Nat) (acc:List Value),
    List.foldl (fun x1 x2=>x1++x2) acc.toArray (List.replicate k its.toArray)=(acc++(List.replicate k its).flatten).toArray
  | 0,acc=>by simp
  | k+1,acc=>by
    have e:acc.toArray++its.toArray=(acc++its).toArray:=by simp
    have e2:(acc++its)++(List.replicate k its).flatten=acc++(List.replicate (k+1) its).flatten:=by
      rw [List.replicate_succ,List.flatten_cons,List.append_assoc]
    rw [<-e2,<-foldl_rep its k (acc++its),<-e,List.replicate_succ,List.foldl_cons]
section
variable {X:Cx}{pins:List (Addr × Obj)}{σ:St}{H:Hp}{s:Shared}{l b:Addr}{xs ys zs:List V}
theorem Inv.lset {its its':List Value}{n:Nat}{f:Array Value->Array Value}{t':Nat} (I:Inv X pins σ H s) (hH:H l=some (.lst xs))
    (e:s.heap.get? l=some { cls:= .type "list",data:= .seq its.toArray n}) (hf:f its.toArray=its'.toArray) (hv:Vals ys its') (hz:ys.length<=sizeLine):
    Inv X pins σ (upd H l (.lst ys)) { s with heap:=s.heap.update l (Obj.mapSeq f),toks:=t'}:=by
  have q:=PySem.IsL.update e f
  rw [hf]at q
  refine I.write (x:=l) (e:=l) (by rw [hH];exact trivial) (.inl rfl) (fun b' u hb hu=>(Heap.get?_update_other s.heap (Obj.mapSeq f) (Ne.symm hb)).trans hu) ⟨_,q⟩ ?_
  exact⟨hz,its',_,hv,q⟩
theorem Inv.lnew {its:List Value}{t':Nat} (I:Inv X pins σ H s) (hv:Vals ys its) (hz:ys.length<=sizeLine):
    Inv X pins σ (upd H s.heap.objs.size (.lst ys)) { s with heap:=s.heap.push { cls:= .type "list",data:= .seq its.toArray},toks:=t'}:=
  I.laid (fun _ _ q=>Heap.get?_push_of_some _ q) (Nat.le_refl _) ⟨hz,its,0,hv,Heap.get?_push_size _ rfl⟩
theorem Inv.fresh (I:Inv X pins σ H s):H s.heap.objs.size=none:=I.hok.fresh (Nat.le_refl _)
theorem Inv.lstM (I:Inv X pins σ H s) (hH:H l=some (.lst xs)):xs.length<=sizeLine/\∃(its:List Value) (n:Nat),Vals xs its/\xs.length=its.length/\s.heap.get? l=some { cls:= .type "list",data:= .seq its.toArray n}:=by
  obtain⟨z,its,n,r,e⟩:=I.hok l _ hH
  exact⟨z,its,n,r,r.length,e⟩
theorem Xw {n:Nat} (h:n<=sizeLine):Builtin.List.listTooLong n=false:=by
  unfold Builtin.List.listTooLong
  exact decide_eq_false (by omega)
end
section
variable {X:Cx}
def Aae:V->List V->Hp->VK->Prop:=fun x vs H Q=>∃l xs y,x= .ref l/\vs=[y]/\H l=some (.lst xs)/\xs.length<sizeLine/\Q .non (upd H l (.lst (xs++ [y])))
theorem Dq:MtM X "list.append" Aae:=by
  intro pins s σ H x vs v us Q I rx rv h
  obtain⟨l,xs,y,rfl,rfl,hH,hz,q⟩:=h
  cases rx
  obtain⟨u,rfl,ru⟩:=rv.one
  obtain⟨z,its,n,r,hl,e⟩:=I.lstM hH
  refine call_meets F.slot_list_append ⟨_,e,rfl⟩ F.entry_list_append (F.args_list_append_2 _ _) (PySem.list_append l its.toArray n u (by rw [List.size_toArray];omega)) ⟨e,?_⟩
  refine⟨.non,_,I.lset (its':=its++ [u]) hH e (by simp) (r.append (.cons ru .nil)) ?_,rfl,q⟩
  rw [List.length_append,List.length_singleton]
  omega
def Aa9:V->List V->Hp->VK->Prop:=fun x vs H Q=>∃l xs i k y,x= .ref l/\vs=[.int i]/\H l=some (.lst xs)/\ -(2^63)<=i/\i<2^63/\seqIndex? i xs.length=some k/\xs[k]? =some y/\Q y (upd H l (.lst (xs.eraseIdx k)))
theorem Xp:MtM X "list.pop" Aa9:=by
  intro pins s σ H x vs v us Q I rx rv h
  obtain⟨l,xs,i,k,y,rfl,rfl,hH,h1,h2,hk,hy,q⟩:=h
  cases rx
  obtain⟨u,rfl,ru⟩:=rv.one
  obtain⟨t,rfl⟩:=ru
  obtain⟨z,its,n,r,hl,e⟩:=I.lstM hH
  obtain⟨w,hw,rw'⟩:=r.get hy
  refine call_meets F.slot_list_pop ⟨_,e,rfl⟩ F.entry_list_pop (F.args_list_pop_2 _ _)
    (MeetsSeq.list_pop_at l its.toArray n i t k w (fitsIndex_both h1 h2) (by rw [List.size_toArray,<-hl];exact hk) (by rw [<-Array.getElem?_toList];exact hw) (by rw [List.size_toArray];omega)) ⟨e,?_⟩
  refine⟨y,_,I.lset (its':=its.eraseIdx k) hH e ?_ (r.eraseIdx k) ?_,rw',q⟩
  . show its.toArray.eraseIdxIfInBounds k=(its.eraseIdx k).toArray
    rw [List.eraseIdxIfInBounds_toArray]
  . have:=Mx xs k
    omega
def Aez:R2:=fun x y H Q=>∃l b xs zs,x= .ref l/\y= .ref b/\H l=some (.lst xs)/\H b=some (.lst zs)/\xs.length+zs.length<=sizeLine/\∀p,H p=none->Q (.ref p) (upd H p (.lst (xs++zs)))
theorem R8:OpR X (binaryOp .Add) Aez:=by
  intro pins s σ H x y v u Q I rx ry h
  obtain⟨l,b,xs,zs,rfl,rfl,hH,hB,hz,q⟩:=h
  cases rx
  cases ry
  obtain⟨z,its,n,r,hl,e⟩:=I.lstM hH
  obtain⟨z2,its2,n2,r2,hl2,e2⟩:=I.lstM hB
  refine PySem.P.add_list e e2 ?_ (by rw [List.size_toArray,List.size_toArray];omega)
  have ea:its.toArray++its2.toArray=(its++its2).toArray:=by simp
  rw [ea]
  exact⟨.ref _,_,I.lnew (t':=s.toks) (r.append r2) (by rw [List.length_append];omega),rfl,q _ I.fresh⟩
def Aer:R2:=fun x y H Q=>∃l k xs,x= .ref l/\y= .int k/\H l=some (.lst xs)/\ -(2^63)<=k/\k<2^63/\xs.length*k.toNat<=sizeLine/\
  ∀p,H p=none->Q (.ref p) (upd H p (.lst (List.replicate k.toNat xs).flatten))
theorem len_rep {α:Type} (xs:List α) (k:Nat):(List.replicate k xs).flatten.length=k*xs.length:=by
  induction k with
  | zero=>simp
  | succ k ih=>rw [List.replicate_succ,List.flatten_cons,List.length_append,ih,Nat.succ_mul,Nat.add_comm]
theorem Ab3:OpR X (binaryOp .Mult) Aer:=by
  intro pins s σ H x y v u Q I rx ry h
  obtain⟨l,k,xs,rfl,rfl,hH,h1,h2,hz,q⟩:=h
  cases rx
  obtain⟨t,rfl⟩:=ry
  obtain⟨z,its,n,r,hl,e⟩:=I.lstM hH
  have hlen:its.toArray.size*k.toNat<=sizeLine:=by rw [List.size_toArray,<-hl];exact hz
  have hcap:¬its.toArray.size*k.toNat>(2^63-1)/8:=by
    have:(sizeLine:Nat)<=(2^63-1)/8:=by decide
    omega
  have hfit:¬(!Builtin.List.listFitsIndex k)=true:=by
    rw [fitsIndex_both h1 h2]
    exact Bool.false_ne_true
  have hlong:¬Builtin.List.listTooLong (its.toArray.size*k.toNat)=true:=by
    rw [Xw hlen]
    exact Bool.false_ne_true
  have hnew:List.foldl (fun x1 x2=>x1++x2) #[] (List.replicate (if its.toArray.isEmpty=true then 0 else k.toNat) its.toArray)=(List.replicate k.toNat its).flatten.toArray:=by
    have f0:∀m:Nat,List.foldl (fun x1 x2=>x1++x2) #[] (List.replicate m its.toArray)=(List.replicate m its).flatten.toArray:=fun m=>by
      have:=foldl_rep its m []
      rw [List.nil_append]at this
      exact this
    rw [f0]
    cases its with
    | nil=>simp
    | cons a r'=>rw [if_neg (by simp)]
  refine wpAny_binaryOp_repeat_ref (T:="list") (U:="int") (by decide) ⟨_,e,rfl⟩ (fun s'=>typeIs_int s' k t) noFill_list_mul F.fills_int_mul F.slot_int_rmul repeat_list F.slot_int_index.lookup
    (call_meets F.slot_int_rmul (typeIs_int s k t) F.entry_int_rmul (F.args_int_rmul_2 _ _) (int___rmul___int_list k t l its.toArray n)
      ⟨e,rfl,⟨_,e,rfl⟩,call_meets F.slot_list_mul ⟨_,e,rfl⟩ F.entry_list_mul (F.args_list_mul_2 _ _) (AutoListH.list___mul___list_int_3 l its.toArray n k t hfit hcap hlong) ⟨e,?_⟩⟩)
  rw [hnew]
  exact⟨.ref _,_,I.lnew (t':=s.toks) (r.rep k.toNat) (by rw [len_rep,Nat.mul_comm];exact hz),rfl,q _ I.fresh⟩
end
end L2
namespace Att
open PySem PySem.W PySem.Calls PyProof.Rows
theorem Iu {P:Params}{h:Heap}:∀(ns:List Int) (vs:List Value),WellAll P h vs (ns.map WData.int)->IntsAre vs ns:=by
  intro ns
  induction ns with
  | nil=>
    intro vs w
    rw [List.map_nil]at w
    cases w
    exact .nil
  | cons n ns ih=>
    intro vs w
    rw [List.map_cons]at w
    cases w with
    | cons a b=>
      cases a
      exact .cons _ _ (ih _ b)
theorem Vf {l:OpenLaw}{n:Nat} (hn:l.most=some n) {P:Params}{h:Heap}{args:List WData}{vals:List Value}
    (hpre:l.row.toRowW.claim.pre args=true) (hwl:WellAll P h vals args):
    ∃a vs ns,vals=[Value.ref a]/\args=[WData.list (ns.map WData.int)]/\h.get? a=some { cls:= .type "list",data:= .seq vs.toArray}/\IntsAre vs ns/\ns.length<=n:=by
  have hsh:WShape.hasAll [] args [.list .int]=true:=(pre_splitW hpre).1
  have hc:l.pre.holds [] { args:=args}=true:=(pre_splitW hpre).2
  obtain⟨d,r,rfl,h1,h2⟩:=hasAllW_cons hsh
  obtain rfl:=hasAllW_nil h2
  obtain⟨xs,rfl,h3⟩:=hasW_list h1
  obtain⟨ns,rfl⟩:=items_int h3
  have hlen:ns.length<=n:=by
    unfold OpenLaw.pre at hc
    have h4:(WTm.not (.lt (.lit (.int (n:Int))) (.len (.arg 0)))).holds [] { args:=[.list (ns.map .int)]}=true:=by
      have h4:=(holds_andW hc).1
      rw [hn]at h4
      exact h4
    have h5:=condW_of h4 (w_not (w_lt w_lit (w_len_list (w_arg rfl))))
    rw [List.length_map]at h5
    refine Nat.le_of_not_lt fun q=> ?_
    have q':(n:Int)<((ns.length:Nat):Int):=by omega
    first
      | (rw [decide_eq_true q']at h5;exact absurd h5 (by decide))
      | (simp at h5;omega)
  cases hwl with
  | cons w1 w2=>
    cases w2
    cases w1 with
    | list ho hall=>exact⟨_,_,ns,rfl,rfl,ho,Iu ns _ hall,hlen⟩
theorem Ug (l:OpenLaw) (args:List WData):l.row.toRowW.claim.post args (.bool true) args=true:=
  postW_of (r:=l.row.toRowW) (X:=(true==true))
    (show WShape.has [] (.bool true) .bool=true by first | rfl | decide | simp [WShape.has,WShape.arms,WShape.armsAll])
    (show(WTm.eq .res (.lit (.bool true))).value [] { args:=args,res:=some (.bool true),after:=args}=some (.bool (true==true))from w_eq_bool (w_res rfl) w_lit) rfl
theorem Nt {l:OpenLaw}{n:Nat}{q:Program}{loose:List Str}{XP:(Str->Option Value)->Heap->Prop}{YP:World->Heap->Prop}{d:DefRec}
    (hn:l.most=some n) (hdf:d.params.defaults=[])
    (call:∀(w:World) (s₀ s₁:Shared) (mg mb:Str->Option Value) (fa:Addr) (o:Obj) (pm cd doc:Value) (a:Addr) (vs:List Value) (ns:List Int),
      Ground q loose [] XP w s₀ mg mb s₁.heap->YP w s₁.heap->
      s₁.heap.get? fa=some o->o.data= .func (docDef d.name d.params d.body d.scope pm cd doc)->s₁.heap.CodeRec cd d.name->mg d.name=some (.ref fa)->
      s₁.heap.get? a=some { cls:= .type "list",data:= .seq vs.toArray}->IntsAre vs ns->ns.length<=n->s₁.gens= #[]->
      codeAny (model l.prog w) callerA (.call (.ref fa) ⟨[.ref a],[]⟩) (fun r s'=>r= .ok (.ret (.bool true))/\OldK s₁.heap s'.heap/\s'.os=s₁.os/\AllBare s'.gens) s₁):
    WalkO q loose XP YP l.row.toRowW d [] (fun f vs=>PySem.call f vs):=by
  intro w s₀ s₁ mg mb G Y fa o pm cd doc dV kV ho hd hcd hD hmg hg args vals as hpre hlay hrd hwl hlo
  obtain rfl:dV= .none:=Dflts.none hD hdf
  obtain rfl:kV= .none:=Dflts.noKw hD
  obtain⟨a,vs,ns,rfl,rfl,hobj,hints,hlen⟩:=Vf hn hpre hwl
  refine enter_call (codeAny_mono (call w s₀ s₁ mg mb fa o pm cd doc a vs ns G Y ho (fd_plain hd) hcd hmg hobj hints hlen hg) fun r s' hq=> ?_)
  obtain⟨rfl,h2,h3,h4⟩:=hq
  exact⟨.inl ⟨.bool true,.bool true,[],rfl,fun _=>rfl,.bool true,Ug l _,fun _=>⟨List.Pairwise.nil,fun _ hm=>(nomatch hm)⟩⟩,h2,h3,h4⟩
end Att
namespace L2
open PySem PySem.Spec PyProof.Rows
theorem Mz:∀ {vs:List Value}{ns:List Int},IntsAre vs ns->Vals (ns.map V.int) vs
  | _,_,.nil=> .nil
  | _,_,.cons n t h=> .cons ⟨t,rfl⟩ (Mz h)
def Only (H:Hp):Prop:=∀b,H b=none\/∃o xs,H b=some (.frz o (.lst xs))
theorem Wj {P:Program}{w:World}{K:PySem.W.Frag}{mg mb:Str->Option Value}{CX:CXT}{k:Nat}{fa a:Addr}{fd:FuncData}{x:Str}{sp:Sp}{s₁:Shared}{vs:List Value}{ns:List Int}
    (KX:K.In s₁.heap) (hns:s₁.heap.Ns mainGlobals mg) (hb:s₁.heap.Ns builtinsNs mb) (hbb:∀x:Str,x≠"__name__"->mb x=bootBuiltins x) (hlim:s₁.heap.NoLimit) (hg:s₁.gens= #[])
    (ha:s₁.heap.get? a=some { cls:= .type "list",data:= .seq vs.toArray}) (hi:IntsAre vs ns) (hl:ns.length<=sizeLine) (hr:Ht k callerA)
    (F:∀base:Heap,K.In base->base.Ns mainGlobals mg->Mg P w K mg base CX k fa fd [x] sp) (hbind:∀(s:Shared) (u:Value),BindsTo s fd ⟨[u],[]⟩ [(x,u)])
    (hsp:∀H:Hp,Only H->SqL K H a (ns.map V.int)->sp [.ref a] H (fun v _=>v= .bl true) fun _ _ _=>False)
    (hCX:∀H e s',CX [] H s₁ (fun _ _ _=>False) e s'->False):
    codeAny (model P w) callerA (.call (.ref fa) ⟨[.ref a],[]⟩) (fun r s'=>r= .ok (.ret (.bool true))/\OldK s₁.heap s'.heap/\s'.os=s₁.os/\AllBare s'.gens) s₁:=by
  have rv:=Mz hi
  have lenV:=hi.length
  have core:∀H:Hp,Only H->SqL K H a (ns.map V.int)->HOk P w H s₁.heap->(∀b,H b≠none->b=a)->(H a≠none->K.lookup a=none)->
      codeAny (model P w) callerA (.call (.ref fa) ⟨[.ref a],[]⟩) (fun r s'=>r= .ok (.ret (.bool true))/\OldK s₁.heap s'.heap/\s'.os=s₁.os/\AllBare s'.gens) s₁:=by
    intro H hO hS hok hA hK
    have base_of:∀ {b:Addr}{o:Obj},s₁.heap.get? b=some o->H b=none->(Wz s₁.heap H).get? b=some o:=fun e n=>W3 e n
    have noA:∀ {b:Addr}{o:Obj}{es:Array DictEntry}{ep:Nat},s₁.heap.get? b=some o->o.data= .dict es ep->H b=none:=fun {b o es ep} e d=>by
      cases q:H b with
      | none=>rfl
      | some u=>
        have e':b=a:=hA b (by rw [q];simp)
        subst e'
        rw [ha]at e;cases e
        have d':Data.seq vs.toArray _=Data.dict es ep:=d
        cases d'
    have nsK:∀ {b:Addr}{m:Str->Option Value},s₁.heap.Ns b m->(Wz s₁.heap H).Ns b m:=fun {b m} ⟨o,es,ep,e,d,r⟩=>⟨o,es,ep,base_of e (noA e d),d,r⟩
    have hKb:K.In (Wz s₁.heap H):=fun b o e=>base_of (KX b o e) (by
      cases q:H b with
      | none=>rfl
      | some u=>
        have e':b=a:=hA b (by rw [q];simp)
        subst e'
        rw [hK (by rw [q];simp)]at e;cases e)
    have hM:Mod K mg (Wz s₁.heap H):=⟨hKb,nsK hns,⟨mb,nsK hb,hbb⟩,let ⟨mc,h1,h2⟩:=hlim;⟨mc,nsK h1,h2⟩⟩
    have e0:Aaa P w K mg (Wz s₁.heap H) callerA [] s₁ H:=⟨rfl,hM,fun b o e=>Aav e,Nat.le_of_eq (Vh _ _),trivial,fun b hb=>absurd (show b∈([]:List Addr)from hb) (by simp),hok,.of_eq hg⟩
    refine codeAny_mono ((F _ hKb (nsK hns)).run callerA [] s₁ H ⟨[.ref a],[]⟩ [.ref a] [.ref a] _ _ hr e0 (hbind s₁ (.ref a)) (.cons rfl .nil) (hsp H hO hS)) fun r s' h=> ?_
    cases r with
    | error e=>exact(hCX H e s' h).elim
    | ok fl=>
      cases fl with
      | next=>exact False.elim h
      | brk=>exact False.elim h
      | cont=>exact False.elim h
      | ret u=>
        obtain⟨v,H',os,bare,un,hok',r',q⟩:=h
        have q':v= .bl true:=q
        subst q'
        obtain rfl:u=Value.bool true:=r'
        refine⟨rfl,OldK.of_keep fun b o e=> ?_,os,bare⟩
        cases q:H b with
        | none=>exact un.keep b o e q (by intro z;exact absurd (show b∈([]:List Addr)from z) (by simp)) (by simp)
        | some u=>
          rcases hO b with z | ⟨ob,xs,z⟩
          . rw [q]at z;cases z
          . have z2:=un.frzs b ob _ z
            obtain⟨e1,_⟩:=hok b _ z
            obtain⟨e2,_⟩:=hok' b _ z2
            rw [e]at e1;cases e1
            exact e2
  cases hk:K.lookup a with
  | some o=>
    have e:=KX a o hk
    rw [ha]at e
    cases e
    refine core (fun _=>none) (fun _=> .inl rfl) (.inr ⟨_,vs.toArray,_,hk,rfl,rfl,rfl,by rw [List.size_toArray,lenV];exact hl,by simpa using rv⟩) (fun b u z=>by have z':(none:Option HO)=some u:=z;cases z') (fun b z=>absurd rfl z) fun z=>absurd rfl z
  | none=>
    refine core (fun b=>if b=a then some (.frz { cls:= .type "list",data:= .seq vs.toArray} (.lst (ns.map V.int)))else none) (fun b=> ?_) (.inl (.inr ⟨{ cls:= .type "list",data:= .seq vs.toArray},if_pos rfl⟩)) (fun b u z=> ?_) (fun b z=> ?_) fun _=>hk
    . by_cases hb:b=a
      . exact .inr ⟨_,_,if_pos hb⟩
      . exact .inl (if_neg hb)
    . by_cases hb:b=a
      . have z':=(if_pos hb).symm.trans z
        cases z'
        subst hb
        exact⟨ha,by rw [List.length_map];exact hl,vs,_,rv,ha⟩
      . have z':=(if_neg hb).symm.trans z
        cases z'
    . by_cases hb:b=a
      . exact hb
      . exact absurd (if_neg hb) z
end L2
namespace L2
open PySem PySem.Spec PyProof.Rows
theorem Us {l:PySem.W.OpenLaw}{n k:Nat}{q:Program}{loose:List Str}{XP:(Str->Option Value)->Heap->Prop}{YP:World->Heap->Prop}{d:DefRec}{K:Params->PySem.W.Frag}{CX:World->CXT}{sp:World->Sp}{x:Str}
    (hn:l.most=some n) (hn2:n<=sizeLine) (hdf:d.params.defaults=[]) (hr:Ht k callerA)
    (hY:∀(w:World) (h:Heap),YP w h->(K w.params).In h)
    (F:∀(w:World) (mg:Str->Option Value) (fa:Addr) (h:Heap),(K w.params).In h->h.Ns mainGlobals mg->mg d.name=some (.ref fa)->
      ∃fd:FuncData,(∀(s:Shared) (u:Value),BindsTo s fd ⟨[u],[]⟩ [(x,u)])/\
        ∀base:Heap,(K w.params).In base->base.Ns mainGlobals mg->Mg l.prog w (K w.params) mg base (CX w) k fa fd [x] (sp w))
    (hsp:∀(w:World) (H:Hp) (a:Addr) (ns:List Int),ns.length<=n->Only H->SqL (K w.params) H a (ns.map V.int)->sp w [.ref a] H (fun v _=>v= .bl true) fun _ _ _=>False)
    (hCX:∀(w:World) (H:Hp) (s:Shared) (e:Value) (s':Shared),CX w [] H s (fun _ _ _=>False) e s'->False):
    PySem.W.WalkO q loose XP YP l.row.toRowW d [] (fun f vs=>PySem.call f vs):=by
  refine Att.Nt hn hdf fun w s₀ s₁ mg mb fa o pm cd doc a vs ns G Y ho hd hcd hmg hobj hints hlen hg=> ?_
  have KX:=hY w _ Y
  obtain⟨fd,hb,hF⟩:=F w mg fa _ KX G.T.g hmg
  exact Wj KX G.T.g G.T.b G.T.builtins G.T.nolimit hg hobj hints (Nat.le_trans hlen hn2) hr hF hb (fun H hO hS=>hsp w H a ns hlen hO hS) fun H e s'=>hCX w H s₁ e s'
end L2
/-THE LAST THEOREM (shape;LID,My.*are yours):
   My.Adr:a structure of the addresses that your layer names (classes,functions);My.Txt K t:a structure (Prop) of the equations over K;
   My.txt_mk:{K}{implicit addresses ..} (e1:nsIn K mainGlobals "law"=some (some (.ref f))) (e2:K.lookup f=some ⟨oc,od,.func (fnOf "law" "law" params body scope dV kV doc pm an cdv ct),sl⟩) (e3:codeIn K cdv "law"=true) .. :∃t,My.Txt K t
set_option maxRecDepth 100000 in
set_option maxHeartbeats 0 in
theorem PySem.Challenge.cw_LID_holds : PySem.Challenge.rw_LID.Holds := by
  w_on;o_law;k_head;(case hw=>w_witness2)
  k_fill
  refine L2.Us (l:=PySem.Challenge.rw_LID) (n:=63) (k:=40) (x:="script") (CX:=fun w=> ..) (sp:=fun _=>My.sp_law) rfl (by decide) rfl ⟨rfl,by decide,by decide⟩ (fun w h Y=>PySem.W.kIn_of Y) ?F ?S ?C
  case F=>
    intro w mg fa h KX G hmg
    have T:∃t,My.Txt (L2.KOf KX) t:=by
      dsimp only [L2.KOf]                          --K must stand as «<heap const>w.params» for k_is
      refine' My.txt_mk ?e1 ?e2 ?e3 ..
      (case e1=>PySem.W.k_is)                    --in the order:a name->its address->its object->its parts
      (case e2=>PySem.W.k_is)
      ..
    obtain⟨t,T⟩:=T
    have e0:=hmg.symm.trans (PySem.W.mg_of KX G T.law)
    cases e0                                       --fa is the law's own address
    exact⟨_,fun s u=> .of_eq rfl,fun base kb nb=>My.law_fn T kb nb⟩     --if «.of_eq rfl» comes too early:refine' ⟨_,?b,fun base kb nb=>My.law_fn T kb nb⟩;exact fun s u=> .of_eq rfl
  case S=>exact fun w H a ns hl hO hS=> ..
  case C=>exact ..
(the tactic k_is has no namespace:write k_is)-/
namespace L2
open PySem PySem.Spec PyProof.Rows
def Gk (s:Stmt):Arguments:=match s with
  | .FunctionDef _ a _ _ _ _ _ _ _ _=>a
  | _=>{ posonlyargs:=[],args:=[],vararg:=none,kwonlyargs:=[],kw_defaults:=[],kwarg:=none,defaults:=[]}
def Es (s:Stmt):List Stmt:=match s with
  | .FunctionDef _ _ b _ _ _ _ _ _ _=>b
  | _=>[]
def Ag (s:Stmt):Scope:=match s with
  | .FunctionDef _ _ _ _ _ _ sc _ _ _=>sc
  | _=>{ kind:= .function,names:=[],isGenerator:=false,isCoroutine:=false}
abbrev CX0:CXT:=fun _ _ _ _ _ _=>False
abbrev E0:XK:=fun _ _ _=>False
theorem Abl {X:Cx}:Passes CX0 X E0:=fun _ _ _ _ _ _ _ h=>h.elim
structure Fun (K:PySem.W.Frag) (x qual:Str) (st:Stmt) (f:Addr) (fd:FuncData):Prop where
  ex:∃(oc:Value) (od:Option Addr) (kV doc pm:Value) (an:Option Addr) (cdv ct:Value) (osl:Array (Option Value)),
    fd=PySem.W.fnOf x qual (Gk st) (Es st) (Ag st) .none kV doc pm an cdv ct/\K.lookup f=some ⟨oc,od,.func fd,osl⟩/\PySem.W.codeIn K cdv qual=true
  kp:PySem.W.keepIn K (.ref f)=true
section
variable {P:Program}{w:World}{K:PySem.W.Frag}{mg:Str->Option Value}{base:Heap}
theorem Fun.ok {x qual:Str}{st:Stmt}{f:Addr}{fd:FuncData}{N ps:List Str}{k:Nat}{sp:Sp} (F:Fun K x qual st f fd) (S:Aq N ps (Ag st)) (len:∀vs H Q E,sp vs H Q E->vs.length=ps.length)
    (hbody:∀(cdv:Value) (A:Around) (outer:List Env) (s:Shared) (H:Hp) (vs:List V) (Q:VK) (E:XK),Ht k (A.deeper (envOfC qual (Ag st) s.heap.objs.size f cdv))->sp vs H Q E->
      ∃t,PSs (X7 CX0 P w K mg base N qual (Ag st) f cdv A outer s H E).nox (Es st) t/\t { nx:=fun _ H'=>Q .non H',rt:=Q} (start N vs) H):Mg P w K mg base CX0 (k+1) f fd ps sp:=by
  obtain⟨oc,od,kV,doc,pm,an,cdv,ct,osl,rfl,lk,hcd⟩:=F.ex
  refine Aec lk hcd S len fun A outer s H vs Q E hr hsp=> ?_
  obtain⟨t,h,q⟩:=hbody cdv A outer s H vs Q E hr hsp
  exact⟨t,h.nox,q⟩
theorem Fun.binds {x qual:Str}{st:Stmt}{f:Addr}{fd:FuncData}{ps:List Str} (F:Fun K x qual st f fd)
    (h:∀(kV doc pm:Value) (an:Option Addr) (cdv ct:Value) (us:List Value),us.length=ps.length->bindArgs (PySem.W.fnOf x qual (Gk st) (Es st) (Ag st) .none kV doc pm an cdv ct) ⟨us,[]⟩=pure (ps.zip us)):Binds K fd ps []:=by
  obtain⟨oc,od,kV,doc,pm,an,cdv,ct,osl,rfl,lk,hcd⟩:=F.ex
  exact .all (h kV doc pm an cdv ct)
theorem X8 {x qual:Str}{st:Stmt}{f:Addr}{oc:Value}{od an:Option Addr}{osl:Array (Option Value)}{kV doc pm cdv ct:Value} (l:K.lookup f=some ⟨oc,od,.func (PySem.W.fnOf x qual (Gk st) (Es st) (Ag st) .none kV doc pm an cdv ct),osl⟩)
    (c:PySem.W.codeIn K cdv qual=true) (k:PySem.W.keepIn K (.ref f)=true):Fun K x qual st f (PySem.W.fnOf x qual (Gk st) (Es st) (Ag st) .none kV doc pm an cdv ct):=⟨⟨oc,od,kV,doc,pm,an,cdv,ct,osl,rfl,l,c⟩,k⟩
end
section
variable {X:Cx}
theorem pv (i:Nat) {x:Str}{pos:Pos} (hN:X.N[i]? =some x:=by rfl) (hv:Vis X.env.scope x:=by first | exact Or.inl rfl | exact Or.inr (Or.inl rfl) | exact Or.inr (Or.inr rfl)) (hd:(x==("__debug__":Str))=false:=by decide)
    (hcd:(x==("__classdict__":Str))=false:=by decide):PE X (.Name x pos) (Yd i):=Abz hN hv hd hcd
end
def Same (H H':Hp):Prop:=∀b o,H b=some o->H' b=some o
theorem Same.refl (H:Hp):Same H H:=fun _ _ h=>h
theorem Same.trans {H H1 H2:Hp} (a:Same H H1) (b:Same H1 H2):Same H H2:=fun c o h=>b c o (a c o h)
theorem Same.free {H H':Hp} (e:Same H H') {l:Addr} (h:H' l=Option.none):H l=Option.none:=by
  cases q:H l with
  | none=>rfl
  | some o=>
    rw [e l o q]at h
    cases h
theorem Same.seq {K:PySem.W.Frag}{H H':Hp}{a:Addr}{xs:List V} (e:Same H H') (h:SqL K H a xs):SqL K H' a xs:=by
  rcases h with(h | ⟨o,h⟩) | h
  . exact .inl (.inl (e _ _ h))
  . exact .inl (.inr ⟨o,e _ _ h⟩)
  . exact .inr h
end L2
namespace L2
open PySem PySem.Spec PyProof.Rows
def Cal (P:Program) (w:World) (K:PySem.W.Frag) (mg:Str->Option Value) (base:Heap) (k:Nat) (x:Str) (ps:List Str) (sp:Sp):Prop:=
  ∃f fd,Mg P w K mg base CX0 k f fd ps sp/\mg x=some (.ref f)/\PySem.W.keepIn K (.ref f)=true/\Binds K fd ps []
structure Df (K:PySem.W.Frag) (mg:Str->Option Value) (x:Str) (st:Stmt) (ps:List Str) (f:Addr) (fd:FuncData):Prop where
  fn:Fun K x x st f fd
  bd:Binds K fd ps []
  at':mg x=some (.ref f)
theorem Df.cal {P:Program}{w:World}{K:PySem.W.Frag}{mg:Str->Option Value}{base:Heap}{k:Nat}{x:Str}{st:Stmt}{ps:List Str}{f:Addr}{fd:FuncData}{sp:Sp}
    (F:Df K mg x st ps f fd) (G:Mg P w K mg base CX0 k f fd ps sp):Cal P w K mg base k x ps sp:=⟨f,fd,G,F.at',F.fn.kp,F.bd⟩
theorem Cal.imp {P:Program}{w:World}{K:PySem.W.Frag}{mg:Str->Option Value}{base:Heap}{k:Nat}{x:Str}{ps:List Str}{sp sp':Sp}
    (C:Cal P w K mg base k x ps sp) (h:∀vs H Q E,sp' vs H Q E->sp vs H Q E):Cal P w K mg base k x ps sp':=by
  obtain⟨f,fd,G,a,b,c⟩:=C
  exact⟨f,fd,G.imp h,a,b,c⟩
theorem Xk {X:Cx}{k:Nat}{x:Str}{ps:List Str}{sp:Sp}{p pos:Pos}{e:Expr}{es:List Expr}{t:TA}
    (C:Cal X.prog X.w X.K X.mg X.base k x ps sp) (hr:Ht k X.A) (ha:PA X (e::es) t) (hg:Gl X x:=by rfl) (hdb:(x==("__debug__":Str))=false:=by decide)
    (he:starEach (e::es) X.env=(false,eval e X.env)::starEach es X.env:=by rfl) (hpl:(backTo pos (starEach es X.env)).any (·.1)=false:=by rfl):
    PE X (.Call (.Name x p) (e::es) [] pos) (Sv sp [] E0 t):=by
  obtain⟨f,fd,G,a,b,c⟩:=C
  exact Zi G hr hg a b c .nil Abl ha hdb he hpl
def Sz (n:Nat) (a:Int):Prop:=a.natAbs<2^n
theorem Sz.mono {m n:Nat}{a:Int} (h:Sz m a) (l:m<=n):Sz n a:=Nat.lt_of_lt_of_le h (Nat.pow_le_pow_right (by decide) l)
theorem Sz.mul {m n:Nat}{a b:Int} (h:Sz m a) (g:Sz n b):Sz (m+n) (a*b):=by
  unfold Sz at*
  rw [Int.natAbs_mul,Nat.pow_add]
  exact Nat.mul_lt_mul'' h g
theorem Sz.add {m n:Nat}{a b:Int} (h:Sz m a) (g:Sz n b):Sz (max m n+1) (a+b):=by
  have h1:Sz (max m n) a:=h.mono (Nat.le_max_left _ _)
  have h2:Sz (max m n) b:=g.mono (Nat.le_max_right _ _)
  unfold Sz at*
  have:=Int.natAbs_add_le a b
  rw [Nat.pow_succ]
  omega
theorem Sz.neg {n:Nat}{a:Int} (h:Sz n a):Sz n (-a):=by
  unfold Sz at*
  rw [Int.natAbs_neg]
  exact h
theorem Sz.sub {m n:Nat}{a b:Int} (h:Sz m a) (g:Sz n b):Sz (max m n+1) (a-b):=by
  rw [Int.sub_eq_add_neg]
  exact h.add g.neg
theorem Sz.of_abs {n:Nat}{a b:Int} (h:Sz n b) (l:a.natAbs<=b.natAbs):Sz n a:=Nat.lt_of_le_of_lt l h
theorem Sz.mulOk {m n:Nat}{a b:Int} (h:Sz m a) (g:Sz n b) (l:m+n<=134217728):IntMulOk a b:=
  IntMulOk.of_le (PySem.intBits_le_iff.mpr h) (PySem.intBits_le_iff.mpr g) l
theorem Sz.log2 {n:Nat}{a:Int} (h:Sz n a) (h0:a≠0) (l:n<=9000):a.natAbs.log2<9000:=
  Nat.lt_of_lt_of_le ((Nat.log2_lt (by omega)).mpr h) l
section
variable {X:Cx}{a b:Expr}{ta tb:TE}{pos:Pos}
theorem Bh:OpR X (binaryOp .Mult) (rI IntMulOk fun i j=> .int (i*j)):=opI fun _ _ _ _ _ _ _ hc q=>mul_int q hc
def Aac (_ j:Int):Prop:=j≠0/\j.natAbs.log2<9000
theorem Qd:OpR X (binaryOp .FloorDiv) (rI Aac fun i j=> .int (i.fdiv j)):=opI fun _ _ _ _ _ _ _ hc q=>floordiv_int hc.1 q (.inl (PyProof.noPylong_of_log2 hc.2))
end
mutual
inductive RdD (K:PySem.W.Frag) (H:Hp):V->PyData->Prop where
  | non:RdD K H .non .none
  | bl (b:Bool):RdD K H (.bl b) (.bool b)
  | int (i:Int):RdD K H (.int i) (.int i)
  | str (x:Str):RdD K H (.str x) (.str x)
  | tup {a:Addr}{xs:List V}{ds:List PyData}:SqT K H a xs->Px K H xs ds->RdD K H (.ref a) (.tuple ds)
  | lst {a:Addr}{xs:List V}{ds:List PyData}:SqL K H a xs->Px K H xs ds->RdD K H (.ref a) (.list ds)
inductive Px (K:PySem.W.Frag) (H:Hp):List V->List PyData->Prop where
  | nil:Px K H [] []
  | cons {x:V}{d:PyData}{xs:List V}{ds:List PyData}:RdD K H x d->Px K H xs ds->Px K H (x::xs) (d::ds)
end
section
variable {X:Cx}{pins:List (Addr × Obj)}{σ:St}{H:Hp}{s:Shared}
mutual
theorem RdD.reads (I:Inv X pins σ H s):∀ {x:V}{d:PyData}{u:Value},RdD X.K H x d->RelV x u->∃as,Reads s.heap u d as
  | _,_,_,.non,r=>by cases r;exact⟨_,.none⟩
  | _,_,_,.bl b,r=>by cases r;exact⟨_,.bool b⟩
  | _,_,_,.int i,r=>by obtain⟨t,rfl⟩:=r;exact⟨_,.int i t⟩
  | _,_,_,.str x,r=>by obtain⟨t,rfl⟩:=r;exact⟨_,.str x t⟩
  | _,_,_,.tup hq hr,r=>by
    cases r
    obtain⟨its,rv,pl,hz⟩:=I.tuple hq
    obtain⟨as,q⟩:=Px.reads I hr rv
    obtain⟨o,ho,hc,n,hd⟩:=pl
    exact⟨_,.tuple ho hc hd (by simpa using q)⟩
  | _,_,_,.lst hq hr,r=>by
    cases r
    obtain⟨its,rv,pl,hz⟩:=I.list hq
    obtain⟨as,q⟩:=Px.reads I hr rv
    obtain⟨o,ho,hc,n,hd⟩:=pl.isList
    exact⟨_,.list ho hc hd (by simpa using q)⟩
theorem Px.reads (I:Inv X pins σ H s):∀ {xs:List V}{ds:List PyData}{us:List Value},Px X.K H xs ds->Vals xs us->∃as,ReadsAll s.heap us ds as
  | _,_,_,.nil,r=>by cases r;exact⟨_,.nil⟩
  | _,_,_,.cons h t,r=>by
    cases r with
    | cons r1 r2=>
      obtain⟨as,q⟩:=RdD.reads I h r1
      obtain⟨bs,p⟩:=Px.reads I t r2
      exact⟨_,.cons q p⟩
end
end
theorem Px.ints {K:PySem.W.Frag}{H:Hp}:∀ns:List Int,Px K H (ns.map V.int) (ns.map PyData.int)
  | []=> .nil
  | n::r=> .cons (.int n) (Px.ints r)
theorem RdD.ints {K:PySem.W.Frag}{H:Hp}{a:Addr}{ns:List Int} (h:SqT K H a (ns.map V.int)):RdD K H (.ref a) (.tuple (ns.map PyData.int)):= .tup h (.ints ns)
theorem RdD.lints {K:PySem.W.Frag}{H:Hp}{a:Addr}{ns:List Int} (h:SqL K H a (ns.map V.int)):RdD K H (.ref a) (.list (ns.map PyData.int)):= .lst h (.ints ns)
theorem Hw:∀ns ms:List Int,PyData.eqvAll (ns.map PyData.int) (ms.map PyData.int)=decide (ns=ms)
  | [],[]=>by simp [PyData.eqvAll]
  | [],_::_=>by simp [PyData.eqvAll]
  | _::_,[]=>by simp [PyData.eqvAll]
  | a::r,b::t=>by
    simp only [List.map_cons,PyData.eqvAll,PyData.eqv,Hw r t]
    by_cases h:a=b<;>by_cases h':r=t<;>simp [h,h']
theorem shaped_ints (ns:List Int):SeqAt.shaped (.tuple (ns.map PyData.int))=true:=by
  simp [SeqAt.shaped,PyData.canLay0,PyData.depth,PySem.W.ke_canLayAll0,PySem.W.ke_depthAll]
section
variable {X:Cx}
def Aa4 (K:PySem.W.Frag) (f:Bool->Bool):R2:=fun x y H Q=>∃d e,RdD K H x d/\RdD K H y e/\SeqAt.shaped d=true/\SeqAt.shaped e=true/\Q (.bl (f (PyData.eqv d e))) H
theorem X4 (hu:X.A.units+64<cLine):OpR X (compareOp .Eq) (Aa4 X.K fun b=>b):=by
  intro pins s σ H x y v u Q I rx ry h
  obtain⟨d,e,hd,he,s1,s2,q⟩:=h
  obtain⟨as,r1⟩:=RdD.reads I hd rx
  obtain⟨bs,r2⟩:=RdD.reads I he ry
  exact eq_dataH r1 r2 s1 s2 hu ⟨.bl _,H,I,rfl,q⟩
theorem Ji (hu:X.A.units+64<cLine):OpR X (compareOp .NotEq) (Aa4 X.K fun b=> !b):=by
  intro pins s σ H x y v u Q I rx ry h
  obtain⟨d,e,hd,he,s1,s2,q⟩:=h
  obtain⟨as,r1⟩:=RdD.reads I hd rx
  obtain⟨bs,r2⟩:=RdD.reads I he ry
  exact ne_dataH r1 r2 s1 s2 hu ⟨.bl _,H,I,rfl,q⟩
def Aek (K:PySem.W.Frag) (f:Bool->Bool):R2:=fun x y H Q=>∃(a b:Addr) (ns ms:List Int),x= .ref a/\y= .ref b/\SqT K H a (ns.map V.int)/\SqT K H b (ms.map V.int)/\Q (.bl (f (decide (ns=ms)))) H
theorem Yi (hu:X.A.units+64<cLine):OpR X (compareOp .Eq) (Aek X.K fun b=>b):=by
  intro pins s σ H x y v u Q I rx ry h
  obtain⟨a,b,ns,ms,rfl,rfl,ha,hb,q⟩:=h
  exact X4 hu pins s σ H _ _ v u Q I rx ry ⟨_,_,.ints ha,.ints hb,shaped_ints _,shaped_ints _,by rw [PyData.eqv,Hw];exact q⟩
theorem Ih:Dv X (.builtin "isinstance") (fun xs H Q=>∃x t T b,xs=[x,.ty T]/\M9 X.K H x t/\PySem.W.kitOne X.K t (.type T)=some b/\Q (.bl b) H):=by
  intro pins s σ H xs us Q I r h
  obtain⟨x,t,T,b,rfl,ht,hk,q⟩:=h
  obtain⟨u,c,rfl,ru,rc⟩:=vals2 r
  cases rc
  exact Vc I ru ht hk fun tk=>⟨.bl b,H,I.tok tk,rfl,q⟩
end
theorem Same.tup {K:PySem.W.Frag}{H H':Hp}{a:Addr}{xs:List V} (e:Same H H') (h:SqT K H a xs):SqT K H' a xs:=by
  rcases h with(h | ⟨o,h⟩) | h
  . exact .inl (.inl (e _ _ h))
  . exact .inl (.inr ⟨o,e _ _ h⟩)
  . exact .inr h
theorem Same.upd {H:Hp}{p:Addr} (h:H p=none) (o:HO):Same H (upd H p o):=fun b u q=>by
  rw [Av (Ar q h)]
  exact q
end L2
namespace L2
open PySem PySem.Spec PyProof.Rows
section
variable {X:Cx}{K:PySem.W.Frag}{σ:St}{H:Hp}{Q:VK}{D:Ends}{B:Bool->Hp->Prop}
theorem Yw {t u:TS}:Acq t u D σ H=t { D with nx:=u D} σ H:=rfl
theorem Tj:Z2 D σ H=D.nx σ H:=rfl
theorem Yx {c:TT}{t u:TS}:Ac3 c t u D σ H=c σ H (fun b H1=>if b=true then t D σ H1 else u D σ H1):=rfl
theorem Zw {te:TE}:Ac5 te D σ H=te σ H D.rt:=rfl
theorem Uh {te:TE}:Zt te D σ H=te σ H (fun _ H1=>D.nx σ H1):=rfl
theorem Aaw {te:TE}{g:TG}:Xu te g D σ H=te σ H (fun x H1=>g x σ H1 D.nx):=rfl
theorem Oe {i:Nat}{v:V}{R:St->Hp->Prop}:Nx i v σ H R=R (σ.set i (some v)) H:=rfl
theorem Ze {i j:Nat}{ta:TA}:Adp i j ta D σ H=ta σ H (fun vs H1=>∃v w,vs=[v,w]/\D.nx ((σ.set i (some v)).set j (some w)) H1):=rfl
theorem S6 {v:V}{r:St}:Yd 0 (some v::r) H Q=Q v H:=propext ⟨fun⟨_,e,h⟩=>by cases e;exact h,fun h=>⟨v,rfl,h⟩⟩
theorem U7 {i:Nat}{o:Option V}{r:St}:Yd (i+1) (o::r) H Q=Yd i r H Q:=rfl
theorem z_c {v:V}:tC v σ H Q=Q v H:=rfl
theorem Acr {r:R2}{ta tb:TE}:tOp r ta tb σ H Q=ta σ H (fun x H1=>tb σ H1 fun y H2=>r x y H2 Q):=rfl
theorem Adg {r:V->Hp->VK->Prop}{ta:TE}:tUn r ta σ H Q=ta σ H (fun x H1=>r x H1 Q):=rfl
theorem Ac4 {C:Int->Int->Prop}{g:Int->Int->V}{i j:Int}:rI C g (.int i) (.int j) H Q=(C i j/\Q (g i j) H):=
  propext ⟨fun⟨_,_,e,f,h⟩=>by cases e;cases f;exact h,fun h=>⟨i,j,rfl,rfl,h⟩⟩
theorem Z0 {g:Int->Int->V}{i j:Int}:rI0 g (.int i) (.int j) H Q=Q (g i j) H:=
  propext ⟨fun⟨_,_,e,f,h⟩=>by cases e;cases f;exact h,fun h=>⟨i,j,rfl,rfl,h⟩⟩
theorem Adn {g:Int->V}{i:Int}:rU g (.int i) H Q=Q (g i) H:=propext ⟨fun⟨_,e,h⟩=>by cases e;exact h,fun h=>⟨i,rfl,h⟩⟩
theorem Z4 {i j:Int}:rEq (.int i) (.int j) H Q=Q (.bl (decide (i=j))) H:=by
  unfold rEq
  simp only [Aa7,V.int.injEq,true_and]
theorem Zf {i j:Int}:rNe (.int i) (.int j) H Q=Q (.bl (!decide (i=j))) H:=by
  unfold rNe
  simp only [Aa7,V.int.injEq,true_and]
theorem Aag {i j:Bool}:rEq (.bl i) (.bl j) H Q=Q (.bl (decide (i=j))) H:=by
  unfold rEq
  simp only [Aa7,V.bl.injEq,true_and]
theorem Zh {i j:Bool}:rNe (.bl i) (.bl j) H Q=Q (.bl (!decide (i=j))) H:=by
  unfold rNe
  simp only [Aa7,V.bl.injEq,true_and]
theorem Qj {t:TE}:Aah t σ H B=t σ H (fun x H'=>∃k,x= .bl k/\B k H'):=rfl
theorem Adw {t:TE}:tB t σ H B=t σ H (fun x H'=>∃k,x= .bl k/\B k H'):=rfl
theorem Aay {b:Bool}{p:Bool->Prop}:(∃k,V.bl b= .bl k/\p k)=p b:=propext ⟨fun⟨_,e,h⟩=>by cases e;exact h,fun h=>⟨b,rfl,h⟩⟩
theorem Yp {b:Int}{p:Int->Prop}:(∃k,V.int b= .int k/\p k)=p b:=propext ⟨fun⟨_,e,h⟩=>by cases e;exact h,fun h=>⟨b,rfl,h⟩⟩
theorem Aaz {a b:V}{p:V->V->Prop}:(∃v w,[a,b]=[v,w]/\p v w)=p a b:=propext ⟨fun⟨_,_,e,h⟩=>by cases e;exact h,fun h=>⟨a,b,rfl,h⟩⟩
theorem Ss {b:Int}{p:Int->Prop}:(∃k,[V.int b]=[.int k]/\p k)=p b:=propext ⟨fun⟨_,e,h⟩=>by cases e;exact h,fun h=>⟨b,rfl,h⟩⟩
theorem Vl {a b:Int}{p:Int->Int->Prop}:(∃i j,[V.int a,V.int b]=[.int i,.int j]/\p i j)=p a b:=propext ⟨fun⟨_,_,e,h⟩=>by cases e;exact h,fun h=>⟨a,b,rfl,h⟩⟩
theorem Zn {t:TT}:Adx t σ H B=t σ H (fun c H1=>B (!c) H1):=rfl
theorem Yy {t u:TT}:Ad6 t u σ H B=t σ H (fun c H1=>if c=true then u σ H1 B else B false H1):=rfl
theorem Ac9 {t u:TT}:tOr t u σ H B=t σ H (fun c H1=>if c=true then B true H1 else u σ H1 B):=rfl
theorem V0 {ta tb:TE}:Yv ta tb σ H Q=ta σ H (fun x H1=>∃c,x= .bl c/\if c=true then tb σ H1 Q else Q (.bl false) H1):=rfl
theorem Z6 {ta tb:TE}:Aey ta tb σ H Q=ta σ H (fun x H1=>∃c,x= .bl c/\if c=true then Q (.bl true) H1 else tb σ H1 Q):=rfl
theorem Vt {ta:TE}:Z1 ta σ H Q=ta σ H (fun x H1=>∃c,x= .bl c/\Q (.bl (!c)) H1):=rfl
theorem Adv {t:TT}{ta tb:TE}:tIf t ta tb σ H Q=t σ H (fun c H1=>if c=true then ta σ H1 Q else tb σ H1 Q):=rfl
theorem Tq {sp:Sp}{dvs:List V}{E:XK}{t:TA}:Sv sp dvs E t σ H Q=t σ H (fun vs H1=>sp (vs++dvs) H1 Q E):=rfl
theorem Ym {R:List V->Hp->Prop}:Adt σ H R=R [] H:=rfl
theorem U4 {te:TE}{t:TA}{R:List V->Hp->Prop}:Xe te t σ H R=te σ H (fun x H1=>t σ H1 fun xs H2=>R (x::xs) H2):=rfl
theorem Ady {r:List V->Hp->VK->Prop}{t:TA}:tCB r t σ H Q=t σ H (fun vs H1=>r vs H1 Q):=rfl
theorem Yo {t:TA}:Adu t σ H Q=t σ H (fun xs H1=>xs.length<=sizeLine/\∀p,H1 p=none->Q (.ref p) (upd H1 p (.tup xs))):=rfl
theorem Aak {t:TA}:Acx t σ H Q=t σ H (fun xs H1=>xs.length<=sizeLine/\∀p,H1 p=none->Q (.ref p) (upd H1 p (.lst xs))):=rfl
theorem Nu {r r':R2}{ta tb tc:TE}:Acb r r' ta tb tc σ H Q=ta σ H (fun x H1=>tb σ H1 fun y H2=>r x y H2 fun z H3=>∃k,z= .bl k/\(if k=true then tc σ H3 fun w' H4=>r' y w' H4 Q else Q (.bl false) H3)):=rfl
theorem Bw {a:Addr}{xs:List V}{i:Int}{v:V} (h:SqT K H a xs) (e:atI xs i=some v) (q:Q v H):Adk K (.ref a) (.int i) H Q:=⟨a,xs,i,v,rfl,rfl,h,e,q⟩
theorem K1 {a:Addr}{xs:List V}{i:Int}{v:V} (h:SqL K H a xs) (e:atI xs i=some v) (q:Q v H):Aeg K (.ref a) (.int i) H Q:=⟨a,xs,i,v,rfl,rfl,h,e,q⟩
end
def Abj (_ j:Int):Prop:=0<j/\j.natAbs.log2<9000
theorem Ed {X:Cx}:OpR X (binaryOp .FloorDiv) (rI Abj fun i j=> .int (i/j)):=opI fun i j _ _ _ _ _ hc q=>by
  have h:j≠0:=by have:=hc.1;omega
  refine floordiv_int h ?_ (.inl (PyProof.noPylong_of_log2 hc.2))
  rw [Int.fdiv_eq_ediv_of_nonneg _ (Int.le_of_lt hc.1)]
  exact q
theorem R6:(1:Nat)<=sizeLine:=by decide
theorem T3:(2:Nat)<=sizeLine:=by decide
end L2
namespace L2
open PySem PySem.Spec PyProof.Rows
def clF (env:Env) (cs:List (Str × Addr)) (x:Str × NameKind):List (Str × Addr):=if x.2== .free then(x.1,(env.cells.lookup x.1).getD 0)::cs else cs
theorem J2 {scope:Scope}{env:Env} (h:∀x∈scope.names,x.2= .free->∃c,env.cells.lookup x.1=some c):closureFor scope env=pure (scope.names.foldl (clF env) []):=by
  unfold closureFor
  have key:∀(names:List (Str × NameKind)) (init:List (Str × Addr)),(∀x∈names,x.2= .free->∃c,env.cells.lookup x.1=some c)->
      (forIn names init (fun(x:Str × NameKind) (cs:List (Str × Addr))=>(if x.2== .free then(do let c<-cellOf env x.1;pure (ForInStep.yield ((x.1,c)::cs)))else pure (ForInStep.yield cs):Sem (ForInStep (List (Str × Addr))))))=(pure (names.foldl (clF env) init):Sem (List (Str × Addr))):=by
    intro names
    induction names with
    | nil=>intro init _;rfl
    | cons x r ih=>
      intro init hx
      rw [List.forIn_cons,List.foldl_cons]
      by_cases hf:x.2= .free
      . obtain⟨c,hc⟩:=hx x List.mem_cons_self hf
        have e1:cellOf env x.1=pure c:=by unfold cellOf;rw [hc]
        have e2:clF env init x=(x.1,c)::init:=by unfold clF;rw [hf,hc];rfl
        rw [e2,<-ih _ fun y hy=>hx y (List.mem_cons_of_mem _ hy)]
        rw [hf,e1]
        rfl
      . have e0:(x.2==NameKind.free)=false:=by simpa using hf
        have e2:clF env init x=init:=by unfold clF;rw [e0];rfl
        rw [e2,<-ih _ fun y hy=>hx y (List.mem_cons_of_mem _ hy),e0]
        rfl
  exact(congrArg (fun m=>m>>=fun r=>pure r) (key scope.names [] h)).trans (by rfl)
theorem K9 {env:Env}:∀(names:List (Str × NameKind)) (init:List (Str × Addr)) (y:Str) (c:Addr),(∀x∈names,x.2= .free->∃c,env.cells.lookup x.1=some c)->(names.foldl (clF env) init).lookup y=some c->init.lookup y=some c\/env.cells.lookup y=some c
  | [],_,_,_,_,h=> .inl h
  | x::r,init,y,c,hx,h=>by
    rw [List.foldl_cons]at h
    rcases K9 r _ y c (fun z hz=>hx z (List.mem_cons_of_mem _ hz)) h with h1 | h1
    . unfold clF at h1
      by_cases hf:x.2= .free
      . obtain⟨d,hd⟩:=hx x List.mem_cons_self hf
        rw [hf,hd]at h1
        change List.lookup y ((x.1,d)::init)=some c at h1
        rw [List.lookup_cons]at h1
        cases hy:y==x.1 with
        | true=>
          rw [hy]at h1
          have:y=x.1:=by simpa using hy
          subst this
          exact .inr (hd.trans h1)
        | false=>
          rw [hy]at h1
          exact .inl h1
      . have e0:(x.2==NameKind.free)=false:=by simpa using hf
        rw [e0]at h1
        exact .inl h1
    . exact .inr h1
theorem G8 {env:Env}:∀(names:List (Str × NameKind)) (init:List (Str × Addr)) (y:Str),((∃x∈names,x.2= .free/\x.1=y)\/∃c,init.lookup y=some c)->∃c,(names.foldl (clF env) init).lookup y=some c
  | [],_,_,h=>by
    rcases h with⟨_,h,_⟩ | h
    . cases h
    . exact h
  | x::r,init,y,h=>by
    rw [List.foldl_cons]
    apply G8 r
    rcases h with⟨z,hz,hf,rfl⟩ | ⟨c,hc⟩
    . rcases List.mem_cons.mp hz with rfl | hz
      . refine .inr ⟨(env.cells.lookup z.1).getD 0,?_⟩
        unfold clF
        rw [hf]
        show List.lookup z.1 ((z.1,_)::init)=_
        rw [List.lookup_cons]
        simp
      . exact .inl ⟨z,hz,hf,rfl⟩
    . refine .inr ?_
      unfold clF
      by_cases hf:x.2= .free
      . rw [hf]
        show ∃c,List.lookup y ((x.1,_)::init)=some c
        rw [List.lookup_cons]
        cases y==x.1 with
        | true=>exact⟨_,rfl⟩
        | false=>exact⟨c,hc⟩
      . have e0:(x.2==NameKind.free)=false:=by simpa using hf
        rw [e0]
        exact⟨c,hc⟩
theorem Hq {prog:Program}{w:World}{A:Around}{R:Result->Shared->Prop}{s:Shared}{elt target iter:Expr}{ifs:List Expr}{scope:Scope}{pos:Pos}{it acc:Value}{env:Env} (I:Nat->Shared->Prop)
    (turn:∀n s,I n s->wpAny (model prog w) A (pyNext it) (fun r s₁=>match r with
      | none=>R (.ok .next) s₁
      | some v=>wpAny (model prog w) A (letOwnedTupleGo target it v) (fun _ s₀=>wpAny (model prog w) A (assign target env v) (fun _ s₂=>
          wpAny (model prog w) A (forIn ifs true fun c r=>if r=true then do let ok<-isTrue c env (eval c env);pure (ForInStep.yield ok)else pure (ForInStep.yield r)) (fun ok s₃=>
            if ok=true then wpAny (model prog w) A (eval elt env) (fun x s₄=>
              wpAny (model prog w) A (call (.builtin "list.append") [acc,x]) (fun _ s₅=>∃m,m<n/\I m s₅) (fun _ _=>False) s₄) (fun _ _=>False) s₃
            else ∃m,m<n/\I m s₃) (fun _ _=>False) s₂) (fun _ _=>False) s₀) (fun _ _=>False) s₁) (fun _ _=>False) s)
    (n:Nat) (h:I n s):
    codeAny (model prog w) A (.compLoop (.ListComp elt [⟨target,iter,ifs,0⟩] scope pos) 0 it acc env) R s:=by
  have no:∀(x:Value) (s':Shared),False->notedBy (model prog w) A env (fun e s'=>R (.error e) s') x s':=fun _ _ z=>z.elim
  refine codeAny_loop rfl I (fun n s hI=> ?_) n h
  show wpAny _ A ((compTurn (.ListComp elt [⟨target,iter,ifs,0⟩] scope pos) 0 it acc env).onRaise (fun x=>do noteFrame x env;theTreesLotGoes x)) _ _ s
  refine wpAny_noted ?_
  rw [compTurn_list]
  refine wpAny_bind (wpAny_standAt (wpAny_bind (wpAny_mono (turn n s hI) (fun r s₁ h₁=> ?_) no)))
  cases r with
  | none=>exact wpAny_pure h₁
  | some v=>
    refine wpAny_bind (wpAny_mono h₁ (fun _ s₀ h₀=> ?_) no)
    refine wpAny_bind (wpAny_mono h₀ (fun _ s₂ h₂=>wpAny_bind (wpAny_mono h₂ (fun ok s₃ h₃=> ?_) no)) no)
    cases ok with
    | false=>exact wpAny_pure ⟨rfl,h₃⟩
    | true=>
      exact wpAny_bind (wpAny_bind (wpAny_mono h₃ (fun x s₄ h₄=>wpAny_bind (wpAny_mono h₄ (fun _ s₅ h₅=>wpAny_pure (wpAny_pure ⟨rfl,h₅⟩)) no)) no))
def cxC (X:Cx) (N:List Str) (scope:Scope) (ex:List Addr) (s:Shared) (H:Hp):Cx where
  prog:=X.prog
  w:=X.w
  K:=X.K
  mg:=X.mg
  base:=X.base
  A:=X.A
  N:=N
  s₀:=s
  H₀:=H
  env:=compEnvC scope (scope.names.foldl (clF X.env) []) s.heap.objs.size X.env
  outer:=X.stack
  stack:=X.stack
  ex:=ex
  fn:=fun _=>false
  calm:=X.calm
  pn:=[]
  xe:=fun _ _=>False
structure Ay (X:Cx) (ts:List Str) (fs:List (Nat × Str)) (scope:Scope):Prop where
  kind:scope.kind= .function
  cell:∀y∈scope.names,y.2≠ .cell
  names:∀y∈scope.names,y.2= .local ->scope.names.lookup y.1=some .local
  free:∀y∈scope.names,y.2= .free->X.env.kindOf y.1=some .cell\/X.env.kindOf y.1=some .free
  at':∀p∈fs,X.N[p.1]? =some p.2/\(p.2,NameKind.free)∈scope.names/\((relabel scope X.env).names.lookup p.2=some .cell\/(relabel scope X.env).names.lookup p.2=some .free)
def rlb (sc scope:Scope):List (Str × NameKind):=scope.names.map fun(n,k)=>if(k==NameKind.free&&sc.kind== .function&&sc.names.lookup n==some .cell)then(n,NameKind.cell)else(n,k)
def Ac1 (sc:Scope) (N:List Str) (fs:List (Nat × Str)) (scope:Scope):Bool:=
  (scope.kind== .function)&&(scope.names.all fun y=>y.2 != .cell)&&(scope.names.all fun y=>y.2 != .local ||scope.names.lookup y.1==some .local)&&
  (scope.names.all fun y=>y.2 != .free||(sc.names.lookup y.1==some .cell||sc.names.lookup y.1==some .free))&&
  fs.all fun p=>N[p.1]? ==some p.2&&(scope.names.contains (p.2,NameKind.free)&&((rlb sc scope).lookup p.2==some .cell||(rlb sc scope).lookup p.2==some .free))
theorem Ay.of {X:Cx}{ts:List Str}{fs:List (Nat × Str)}{scope sc:Scope}{N:List Str} (e1:X.env.scope=sc) (e2:X.N=N) (h:Ac1 sc N fs scope=true):Ay X ts fs scope:=by
  unfold Ac1 at h
  simp only [Bool.and_eq_true,List.all_eq_true,Bool.or_eq_true,bne_iff_ne,beq_iff_eq,List.contains_iff_mem]at h
  obtain⟨⟨⟨⟨h1,h2⟩,h3⟩,h4⟩,h5⟩:=h
  refine⟨h1,h2,fun y hy e=> ?_,fun y hy e=> ?_,fun p hp=> ?_⟩
  . rcases h3 y hy with z | z
    . exact absurd e z
    . exact z
  . rcases h4 y hy with z | z
    . exact absurd e z
    . show X.env.scope.names.lookup y.1=_\/X.env.scope.names.lookup y.1=_
      rw [e1]
      exact z
  . obtain⟨a,b,c⟩:=h5 p hp
    refine⟨by rw [e2];exact a,b,?_⟩
    subst e1
    exact c
def cpN (ts:List Str) (fs:List (Nat × Str)):List Str:=ts++fs.map (·.2)
def cpσ (n:Nat) (fs:List (Nat × Str)) (σ:St):St:=List.replicate n none++fs.map fun p=>(σ[p.1]?).join
theorem Du {env:Env}{x:Str}{k':NameKind}:∀ {names:List (Str × NameKind)},(names.map fun(n,k)=>if(k==NameKind.free&&env.scope.kind== .function&&env.kindOf n==some .cell)then(n,NameKind.cell)else(n,k)).lookup x=some k'->
    ∃k,(x,k)∈names/\(k'=k\/(k= .free/\k'= .cell))
  | [],h=>by simp at h
  | (n,k)::r,h=>by
    rw [List.map_cons]at h
    dsimp only at h
    by_cases hc:(k==NameKind.free&&env.scope.kind== .function&&env.kindOf n==some .cell)=true
    . rw [if_pos hc,List.lookup_cons]at h
      cases hx:x==n with
      | true=>
        rw [hx]at h
        have e:x=n:=by simpa using hx
        subst e
        have hk:k= .free:=by
          rw [Bool.and_eq_true,Bool.and_eq_true]at hc
          simpa using hc.1.1
        exact⟨k,List.mem_cons_self,.inr ⟨hk,(Option.some.inj h).symm⟩⟩
      | false=>
        rw [hx]at h
        obtain⟨k2,h1,h2⟩:=Du h
        exact⟨k2,List.mem_cons_of_mem _ h1,h2⟩
    . rw [if_neg hc,List.lookup_cons]at h
      cases hx:x==n with
      | true=>
        rw [hx]at h
        have e:x=n:=by simpa using hx
        subst e
        exact⟨k,List.mem_cons_self,.inl (Option.some.inj h).symm⟩
      | false=>
        rw [hx]at h
        obtain⟨k2,h1,h2⟩:=Du h
        exact⟨k2,List.mem_cons_of_mem _ h1,h2⟩
def PTs (X:Cx) (ifs:List Expr) (t:TT):Prop:=
  ∀(pins:List (Addr × Obj)) (s:Shared) (σ:St) (H:Hp) (B:Bool->Hp->Prop),Inv X pins σ H s->t σ H B->
    wpAny (model X.prog X.w) X.A (forIn ifs true fun c r=>if r=true then do let ok<-isTrue c X.env (eval c X.env);pure (ForInStep.yield ok)else pure (ForInStep.yield r)) (TP X pins σ B) X.xe s
def Ms:TT:=fun _ H B=>B true H
theorem Cy {X:Cx}:PTs X [] Ms:=fun _ _ _ H _ I h=>wpAny_pure ⟨H,I,h⟩
theorem Kz {X:Cx}{c:Expr}{t:TT} (h:PT X c t):PTs X [c] t:=by
  intro pins s σ H B I hw
  rw [List.forIn_cons]
  simp only [if_true]
  refine wpAny_bind (wpAny_bind (thn (h pins s σ H B I hw) fun b s1 q=>wpAny_pure ?_))
  exact wpAny_pure q
def Kp (σ σ':St):Prop:=σ'.length=σ.length/\∀(i:Nat) v,σ[i]? =some (some v)->σ'[i]? =some (some v)
def cIn (J:It) (cσ:St) (g:TG) (tt:TT) (te:TE) (Q:VK) (H1:Hp) (p:Addr):Prop:=∃W:Nat->Nat->List V->Hp->Prop,(∃m,W 0 m [] (upd H1 p (.lst [])))/\∀i m acc H2,W i m acc H2->
  (J.stop i H2/\Q (.ref p) H2)\/(J.go i H2/\∀x H3,J.yld i H2 x H3->g x cσ H3 fun σ4 H4=>Kp cσ σ4/\tt σ4 H4 fun b H5=>
    if b=true then te σ4 H5 fun y H6=>H6 p=some (.lst acc)/\acc.length<sizeLine/\∃m',m'<m/\W (i+1) m' (acc++ [y]) (upd H6 p (.lst (acc++ [y])))else ∃m',m'<m/\W (i+1) m' acc H5)
def Lz (n:Nat) (fs:List (Nat × Str)) (wi:TI) (g:TG) (tt:TT) (te:TE):TE:=fun σ H Q=>wi σ H fun J H1=>∀p,H1 p=none->cIn J (cpσ n fs σ) g tt te Q H1 p
section
variable {X:Cx}{elt tg iter:Expr}{ifs:List Expr}{scope:Scope}{pos:Pos}{wi:TI}{g:TG}{tt:TT}{te:TE}{ts:List Str}{fs:List (Nat × Str)}
theorem Ay.clos (S:Ay X ts fs scope) (ok:X.Ok):∀x∈scope.names,x.2= .free->∃c,X.env.cells.lookup x.1=some c:=fun x hx hf=>ok.has x.1 (S.free x hx hf)
theorem Ay.sub (S:Ay X ts fs scope) (ok:X.Ok) {y:Str}{c:Addr} (h:(scope.names.foldl (clF X.env) []).lookup y=some c):X.env.cells.lookup y=some c:=by
  rcases K9 scope.names [] y c (S.clos ok) h with z | z
  . simp at z
  . exact z
theorem Qv {pins:List (Addr × Obj)}{σ:St}{H:Hp}{s3 s4:Shared}{ex:List Addr} (S:Ay X ts fs scope) (I:Inv X pins σ H s3)
    (hex:∀b∈ex,Hs X pins H b/\∃o,s3.heap.get? b=some o) (hos:s4.os=s3.os) (hg:s4.gens=s3.gens) (hk:∀b u,s3.heap.get? b=some u->s4.heap.get? b=some u)
    (hn:s4.heap.Ns s3.heap.objs.size fun _=>none):Inv (cxC X (cpN ts fs) scope ex s3 H) [] (cpσ ts.length fs σ) H s4:=by
  have ok:=I.ok
  have noC:∀b∈ex,b≠s3.heap.objs.size:=fun b hb=>by
    obtain⟨_,o,ho⟩:=hex b hb
    exact Nat.ne_of_lt (Heap.lt_size ho)
  refine⟨⟨ok.mod,S.kind,ok.glob,ok.blt,Nat.le_refl _,fun y z c h1 h2=>ok.inj y z c (S.sub ok h1) (S.sub ok h2),fun y hy=> ?_,fun y c h _=>absurd h (by intro z;cases z),ok.hd,ok.frames,.inl rfl,fun b hb=>⟨noC b hb,fun x c e=>(hex b hb).1.2.2.2.2.1 x c (S.sub ok e)⟩,
    I.bs,Nat.le_trans ok.bsz I.sz,fun b o e hb=> ?_,fun b hb=> ?_,I.stack,I.stkFree⟩,hos,by rw [hg];exact I.bare,Un.kept hk,⟨_,hn,fun i x v h1 h2 h3=> ?_⟩,fun y c e=> ?_,I.hok.fresh (Nat.le_refl _),fun y c e=>I.freeC y c (S.sub ok e),
    fun p hp=>absurd (show p∈([]:List (Addr × Obj))from hp) (by simp),I.hok.kept hk,?_⟩
  . have z:∃k',(k'=NameKind.cell\/k'= .free)/\(scope.names.map fun(n,k)=>if(k==NameKind.free&&X.env.scope.kind== .function&&X.env.kindOf n==some .cell)then(n,NameKind.cell)else(n,k)).lookup y=some k':=by
      rcases hy with hy | hy
      . exact⟨_,.inl rfl,hy⟩
      . exact⟨_,.inr rfl,hy⟩
    obtain⟨k',hk',hl⟩:=z
    obtain⟨k,hm,h2⟩:=Du hl
    have hf:k= .free:=by
      rcases h2 with e | ⟨e,_⟩
      . subst e
        rcases hk' with e | e
        . exact absurd e (S.cell _ hm)
        . exact e
      . exact e
    exact G8 scope.names [] y (.inl ⟨_,hm,hf,rfl⟩)
  . rcases(hex b hb).1.2.2.2.1 with z | z
    . exact ok.noex b o e z
    . exact absurd (Nat.lt_of_lt_of_le (Heap.lt_size e) (Nat.le_trans ok.bsz z)) (Nat.lt_irrefl _)
  . intro hb2
    rcases List.mem_cons.mp (I.stkSub b hb2)with e | e
    . exact(hex b hb).1.2.1 e
    . exact(hex b hb).1.2.2.1 e
  . unfold cpσ at h2
    by_cases hi:i<ts.length
    . rw [List.getElem?_append_left (by simpa using hi),List.getElem?_replicate]at h2
      split at h2<;>cases h2
    . rw [List.getElem?_append_right (by simpa using hi),List.length_replicate]at h2
      have h1':(cpN ts fs)[i]? =some x:=h1
      unfold cpN at h1'
      rw [List.getElem?_append_right (by omega)]at h1'
      rw [List.getElem?_map]at h1' h2
      cases e:fs[i-ts.length]? with
      | none=>rw [e]at h1';cases h1'
      | some p=>
        rw [e]at h1' h2
        have ex':p.2=x:=Option.some.inj h1'
        have e2:(σ[p.1]?).join=some v:=Option.some.inj h2
        have e3:σ[p.1]? =some (some v):=by
          cases q:σ[p.1]? with
          | none=>rw [q]at e2;cases e2
          | some o=>rw [q]at e2;cases o with | none=>cases e2 | some v'=>cases e2;rfl
        obtain⟨a1,a2,a3⟩:=S.at' p (List.mem_of_getElem? e)
        obtain⟨m,_,hl⟩:=I.loc
        have kd:=S.free _ a2 rfl
        have vis:Vis X.env.scope p.2:=by
          rcases kd with z | z
          . exact .inr (.inl z)
          . exact .inr (.inr z)
        obtain⟨u,r,l⟩:=hl p.1 p.2 v a1 e3 vis
        refine⟨u,r,?_⟩
        rcases l with⟨z,_⟩ | ⟨_,c,hc,hcell⟩
        . rcases kd with q | q
          . rw [q]at z;cases z
          . rw [q]at z;cases z
        . obtain⟨c',hc'⟩:=G8 (env:=X.env) scope.names [] p.2 (.inl ⟨_,a2,rfl,rfl⟩)
          have ec:c'=c:=Option.some.inj ((S.sub ok hc').symm.trans hc)
          subst ec
          subst ex'
          refine .inr ⟨?_,c',hc',?_⟩
          . exact a3
          . obtain⟨o,ho,hd⟩:=hcell
            exact⟨o,hk _ _ ho,hd⟩
  . obtain⟨v,o,ho,hd⟩:=I.cell y c (S.sub ok e)
    exact⟨v,o,hk _ _ ho,hd⟩
  . unfold cpσ
    show _=(cpN ts fs).length
    unfold cpN
    simp
theorem Qo {pins:List (Addr × Obj)}{σ σ':St}{H H':Hp}{s3 s5:Shared}{h':Heap}{ex:List Addr} (S:Ay X ts fs scope) (I:Inv X pins σ H s3) (hex:∀b∈ex,Hs X pins H b)
    (J:Inv (cxC X (cpN ts fs) scope ex s3 H) [] σ' H' s5) (sb:Heap.SameBut s3.heap.objs.size s5.heap h'):Inv X pins σ H' { s5 with heap:=h'}:=by
  have nC:H' s3.heap.objs.size=none:=J.free
  have old:∀b o,b≠s3.heap.objs.size->s5.heap.get? b=some o->h'.get? b=some o:=fun b o hb e=>sb.extBut b o hb e
  have lt:∀b o,s3.heap.get? b=some o->b≠s3.heap.objs.size:=fun b o e=>Nat.ne_of_lt (Heap.lt_size e)
  have u:Un (frs X.stack) ex H H' s3.heap s5.heap:=J.base
  have u2:Un (frs X.stack) ex H H' s3.heap h':=
    ⟨fun b o e n hb hx=>old b o (lt b o e) (u.keep b o e n hb hx),fun b o e n hb hx=>by
      obtain⟨sl,q⟩:=u.slot b o e n hb hx
      exact⟨sl,old b _ (lt b o e) q⟩,u.free,fun b o e hx=>by
      obtain⟨o',q⟩:=u.there b o e hx
      exact⟨o',old b o' (lt b o e) q⟩,u.tups,u.frzs,u.tbls⟩
  have hok:HOk X.prog X.w H' h':=fun b o e=>by
    have nb:b≠s3.heap.objs.size:=fun z=>by rw [z,nC]at e;cases e
    refine(J.hok b o e).stay (fun c v hc q=>old c v ?_ q) (fun _ q=>q) fun _ _ q=>q
    rcases hc with z | z
    . rw [z];exact nb
    . intro z2;rw [z2,nC]at z;cases z
  exact I.call' (s':={ s5 with heap:=h'}) (ch:=ex) J.os u2 hok J.bare fun b hb=>⟨(hex b hb).2.2.2.1,(hex b hb).2.1,(hex b hb).2.2.2.2.1,(hex b hb).2.2.2.2.2⟩
theorem Inv.fade {pins:List (Addr × Obj)}{σ σ':St}{H:Hp}{s:Shared} (I:Inv X pins σ' H s) (k:Kp σ σ'):Inv X pins σ H s:=by
  refine⟨I.ok,I.os,I.bare,I.base,?_,I.cell,I.free,I.freeC,I.pin,I.hok,k.1.symm.trans I.len⟩
  obtain⟨m,hn,hl⟩:=I.loc
  exact⟨m,hn,fun i x v h1 h2 h3=>hl i x v h1 (k.2 i v h2) h3⟩
theorem Xb {pins:List (Addr × Obj)}{σ:St}{H3:Hp}{s3 s4:Shared}{Q:VK}{R:Result->Shared->Prop}{fp:List Addr}{it p:Addr}{tn:Nat->Heap->Prop}{J:It}{W:Nat->Nat->List V->Hp->Prop}{m0:Nat} (hc:X.calm=true) (S:Ay X ts fs scope)
    (hg:∀ex s H,PG (cxC X (cpN ts fs) scope ex s H) tg g) (ht:∀ex s H,PTs (cxC X (cpN ts fs) scope ex s H) ifs tt) (he:∀ex s H,PE (cxC X (cpN ts fs) scope ex s H) elt te)
    (I3:Inv X pins σ H3 s3) (T:Turn X.prog X.w X.K tg J fp it tn) (hex:∀b∈fp,Hs X pins H3 b) (lt:∀b∈fp,b<s3.heap.objs.size)
    (I4:Inv (cxC X (cpN ts fs) scope fp s3 H3) [] (cpσ ts.length fs σ) H3 s4) (st4:tn 0 s4.heap) (w0:W 0 m0 [] H3)
    (fin:∀H5 s6,Inv (cxC X (cpN ts fs) scope fp s3 H3) [] (cpσ ts.length fs σ) H5 s6->Q (.ref p) H5->R (.ok .next) s6)
    (turn:∀i m acc H2,W i m acc H2->(J.stop i H2/\Q (.ref p) H2)\/(J.go i H2/\∀x H3,J.yld i H2 x H3->g x (cpσ ts.length fs σ) H3 fun σ4 H4=>Kp (cpσ ts.length fs σ) σ4/\tt σ4 H4 fun b H5=>
      if b=true then te σ4 H5 fun y H6=>H6 p=some (.lst acc)/\acc.length<sizeLine/\∃m',m'<m/\W (i+1) m' (acc++ [y]) (upd H6 p (.lst (acc++ [y])))else ∃m',m'<m/\W (i+1) m' acc H5)):
    codeAny (model X.prog X.w) X.A (.compLoop (.ListComp elt [⟨tg,iter,ifs,0⟩] scope pos) 0 (.ref it) (.ref p) (cxC X (cpN ts fs) scope fp s3 H3).env) R s4:=by
  have stat:∀ {H':Hp},(∀b∈fp,H' b=none)->∀b∈fp,Hs (cxC X (cpN ts fs) scope fp s3 H3) [] H' b:=fun hn b hb=>
    ⟨hn b hb,Nat.ne_of_lt (lt b hb),fun z=>(List.mem_cons.mp (I3.stkSub b z)).elim (hex b hb).2.1 (hex b hb).2.2.1,.inl hb,fun x c e=>(hex b hb).2.2.2.2.1 x c (S.sub I3.ok e),fun q hq=>absurd (show q∈([]:List (Addr × Obj))from hq) (by simp)⟩
  refine Hq (fun n s'=>∃i acc H',Inv (cxC X (cpN ts fs) scope fp s3 H3) [] (cpσ ts.length fs σ) H' s'/\tn i s'.heap/\(∀b∈fp,H' b=none)/\W i n acc H') ?_ m0 ⟨0,[],H3,I4,st4,fun b hb=>(hex b hb).1,w0⟩
  rintro n s5 ⟨i,acc,H5,I5,st5,fr5,w5⟩
  rcases turn i n acc H5 w5 with⟨stop,q⟩ | ⟨go,step⟩
  . refine thn (T.done (cxC X (cpN ts fs) scope fp s3 H3) rfl rfl rfl hc i [] s5 _ H5 _ I5 (stat fr5) st5 stop) fun r s6 ⟨hr,I6⟩=> ?_
    subst hr
    exact fin H5 s6 I6 q
  . refine thn (T.item (cxC X (cpN ts fs) scope fp s3 H3) rfl rfl rfl hc i [] s5 _ H5 _ I5 (stat fr5) st5 go) fun r s6 ⟨u,hr,h6⟩=> ?_
    subst hr
    refine thn h6 fun _ s7 ⟨x,H7,I7,r7,y7,st7,fr7⟩=> ?_
    have I7':=I7.pinned (stat fr7) (T.obj _ _ st7)
    refine thn (hg fp s3 H3 _ s7 _ H7 x u _ I7' r7 (step x H7 y7)) fun _ s8 ⟨σ8,H8,I8,kp,q8⟩=> ?_
    have again:∀ {H9:Hp}{s9:Shared}{acc':List V}{m':Nat},Inv (cxC X (cpN ts fs) scope fp s3 H3) ([]++Ko fp s7.heap) σ8 H9 s9->m'<n->W (i+1) m' acc' H9->
        ∃m,m<n/\∃i acc H',Inv (cxC X (cpN ts fs) scope fp s3 H3) [] (cpσ ts.length fs σ) H' s9/\tn i s9.heap/\(∀b∈fp,H' b=none)/\W i m acc H':=fun {H9 s9 acc' m'} I9 hm w9=>by
      refine⟨m',hm,i+1,acc',H9,(I9.fade kp).unpinned,T.keep _ _ _ st7 fun b hb o e=>(I9.pin (b,o) (List.mem_append_right _ (List.mem_append_right _ (Cr hb e)))).1,fun b hb=> ?_,w9⟩
      obtain⟨o,e,d⟩:=T.obj _ _ st7 b hb
      exact(I9.pin (b,o) (List.mem_append_right _ (List.mem_append_right _ (Cr hb e)))).2.1
    refine thn (ht fp s3 H3 _ s8 σ8 H8 _ I8 q8) fun ok s9 ⟨H9,I9,q9⟩=> ?_
    cases ok with
    | false=>
      rw [if_neg Bool.false_ne_true]at q9 ⊢
      obtain⟨m',hm,w9⟩:=q9
      exact again I9 hm w9
    | true=>
      rw [if_pos rfl]at q9 ⊢
      refine thn (he fp s3 H3 _ s9 σ8 H9 _ I9 q9) fun y s10 ⟨yv,H10,I10,r10,hp10,hlen,m',hm,w10⟩=> ?_
      exact thn (Dq _ s10 σ8 H10 (.ref p) [yv] (.ref p) [y] _ I10 rfl (.cons r10 .nil) ⟨p,acc,yv,rfl,rfl,hp10,hlen,w10⟩) fun _ s11 ⟨_,H11,I11,_,w11⟩=>again I11 hm w11
set_option maxHeartbeats 2000000 in
theorem Kf {pos':Pos}{pins:List (Addr × Obj)}{σ:St}{H:Hp}{s:Shared}{Q:VK}{QQ:Value->Shared->Prop}{use:Option (Value->Sem Unit)} (hc:X.calm=true) (S:Ay X ts fs scope) (hi:PI X tg iter wi) (hg:∀ex s H,PG (cxC X (cpN ts fs) scope ex s H) tg g) (ht:∀ex s H,PTs (cxC X (cpN ts fs) scope ex s H) ifs tt)
    (he:∀ex s H,PE (cxC X (cpN ts fs) scope ex s H) elt te) (hs:∀x,foldedSetIterable iter X.env x=pure x) (I:Inv X pins σ H s) (h:Lz ts.length fs wi g tt te σ H Q)
    (fin:∀(H3:Hp) (s3:Shared) (fp:List Addr) (p:Addr) (H5:Hp) (s6:Shared),Inv X pins σ H3 s3->(∀b∈fp,Hs X pins H3 b)->Inv (cxC X (cpN ts fs) scope fp s3 H3) [] (cpσ ts.length fs σ) H5 s6->Q (.ref p) H5->compPost (model X.prog X.w) X.A X.xe use QQ (.ref p) s3.heap.objs.size (.ok .next) s6):
    wpAny (model X.prog X.w) X.A (comprehension (.ListComp elt [⟨tg,iter,ifs,0⟩] scope pos) scope X.env pos' (newList []) false (eval iter X.env) use) QQ X.xe s:=by
  refine wpAny_comprehension_free (use:=use) rfl hs (J2 (S.clos I.ok)) S.kind S.names (thn (hi pins s σ H _ I h) fun v s1 h1=>thn h1 fun itv s2 h2=> ?_)
  obtain⟨it,fp,tn,J,H2,rfl,I2,T,st2,f2,hw⟩:=h2
  refine wpAny_newObj_type (wpAny_newFunctionEnv S.cell (by intro y hy;simp at hy) (fun h₁ hns₁ hsb₁=> ?_) S.kind)
  dsimp only at hns₁ hsb₁ ⊢
  have I3:=I2.lnew (its:=[]) (ys:=[]) (t':=s2.toks) .nil (Nat.zero_le _)
  have hD:H2 s2.heap.objs.size=none:=I2.fresh
  obtain⟨W,⟨m0,w0⟩,turn⟩:=hw _ hD
  have up:∀b o,s2.heap.get? b=some o->(s2.heap.push { cls:= .type "list",data:= .seq ([]:List Value).toArray}).get? b=some o:=fun b o e=>Heap.get?_push_of_some _ e
  have hex:∀b∈fp,Hs X pins (upd H2 s2.heap.objs.size (.lst [])) b/\∃o,(s2.heap.push { cls:= .type "list",data:= .seq ([]:List Value).toArray}).get? b=some o:=fun b hb=>by
    obtain⟨o,ho,_⟩:=T.obj _ _ st2 b hb
    have nb:b≠s2.heap.objs.size:=Nat.ne_of_lt (Heap.lt_size ho)
    exact⟨⟨by rw [Av nb];exact(f2 b hb).1,(f2 b hb).2⟩,o,up b o ho⟩
  have hk4:∀b u,(s2.heap.push { cls:= .type "list",data:= .seq ([]:List Value).toArray}).get? b=some u->h₁.get? b=some u:=fun b u e=>
    hsb₁.extBut b u (Nat.ne_of_lt (Heap.lt_size e)) (Heap.get?_push_of_some _ e)
  have I4:=Qv (s4:={ s2 with heap:=h₁,toks:=s2.toks}) S I3 hex rfl rfl hk4 hns₁
  have st4:tn 0 h₁:=T.keep _ _ _ st2 fun b _ o e=>hk4 b o (up b o e)
  have run:=Xb (elt:=elt) (iter:=iter) (pos:=pos) hc S hg ht he I3 T (fun b hb=>(hex b hb).1) (fun b hb=>Heap.lt_size (hex b hb).2.choose_spec) I4 st4 w0 (fun H5 s6 I6 q=>fin _ _ fp _ H5 s6 I3 (fun b hb=>(hex b hb).1) I6 q) turn
  exact codeAny_compStart_list run (T.self X.A 0 _ _ _ st4 run)
theorem Cj (hc:X.calm=true) (S:Ay X ts fs scope) (hi:PI X tg iter wi) (hg:∀ex s H,PG (cxC X (cpN ts fs) scope ex s H) tg g) (ht:∀ex s H,PTs (cxC X (cpN ts fs) scope ex s H) ifs tt)
    (he:∀ex s H,PE (cxC X (cpN ts fs) scope ex s H) elt te) (hs:∀x,foldedSetIterable iter X.env x=pure x:=by intro _;rfl):
    PE X (.ListComp elt [⟨tg,iter,ifs,0⟩] scope pos) (Lz ts.length fs wi g tt te):=by
  intro pins s σ H Q I h
  rw [eval_ListComp]
  refine Kf (use:=none) hc S hi hg ht he hs I h fun H3 s3 fp p H5 s6 I3 hex I6 q=> ?_
  obtain⟨m,hn,_⟩:=I6.loc
  exact⟨m,hn,fun h' sb=>⟨.ref p,H5,Qo S I3 hex I6 sb,rfl,q⟩⟩
theorem Io {g':TG}{y:Str}{py spos:Pos} (hc:X.calm=true) (S:Ay X ts fs scope) (hi:PI X tg iter wi) (hg:∀ex s H,PG (cxC X (cpN ts fs) scope ex s H) tg g) (ht:∀ex s H,PTs (cxC X (cpN ts fs) scope ex s H) ifs tt)
    (he:∀ex s H,PE (cxC X (cpN ts fs) scope ex s H) elt te) (hn:PG X (.Name y py) g') (hsw:swapsWith (.ListComp elt [⟨tg,iter,ifs,0⟩] scope pos) (some (.Name y py)) spos.line X.env=pure true:=by rfl) (hs:∀x,foldedSetIterable iter X.env x=pure x:=by intro _;rfl):
    PS X (.Assign [.Name y py] (.ListComp elt [⟨tg,iter,ifs,0⟩] scope pos) spos) (Xu (Lz ts.length fs wi g tt te) g'):=by
  intro pins s σ H D I h
  rw [exec_Assign_Name_used _ _ _ _ hsw]
  refine wpAny_bind (wpAny_standAt (wpAny_bind ?_))
  show wpAny _ X.A (do let _<-comprehension (.ListComp elt [⟨tg,iter,ifs,0⟩] scope pos) scope X.env _ (newList []) false (eval iter X.env) (some (assign (.Name y py) X.env))) _ _ s
  refine wpAny_bind (wpAny_mono (Kf (use:=some (assign (.Name y py) X.env)) (QQ:=fun _ s'=>SP X pins D .next s') hc S hi hg ht he hs I h fun H3 s3 fp p H5 s6 I3 hex I6 q=> ?_) (fun _ s' hq=>wpAny_pure (wpAny_pure hq)) fun _ _ e=>e)
  have J:Inv X pins σ H5 s6:=Qo S I3 hex I6 (Heap.SameBut.refl _ _)
  obtain⟨m,⟨o,es,ep,ho,hd,hsk,hf⟩,_⟩:=I6.loc
  have ho':s6.heap.get? s3.heap.objs.size=some o:=ho
  have fC:Hs X pins H5 s3.heap.objs.size:=I3.fpOk (Nat.le_refl _) I6.free
  have J':=J.pinned (fp:=[s3.heap.objs.size]) (fun b hb=>by
    have e:b=s3.heap.objs.size:=by simpa using hb
    subst e
    exact fC) (fun b hb=>by
    have e:b=s3.heap.objs.size:=by simpa using hb
    subst e
    exact⟨o,ho',fun v z=>by rw [hd]at z;cases z⟩)
  refine thn (hn _ s6 σ H5 (.ref p) (.ref p) _ J' rfl q) fun _ s7 ⟨σ7,H7,I7,q7⟩=> ?_
  have pC:=I7.pin (s3.heap.objs.size,o) (List.mem_append_right _ (List.mem_append_right _ (Cr (by simp) ho')))
  exact⟨m,⟨o,es,ep,pC.1,hd,hsk,hf⟩,fun h' sb=>⟨σ7,H7,I7.unpinned.turned (t':=s7.toks) (fun b o hb e=>sb.extBut b o hb e) pC.2.1 fC.2.1 fC.2.2.2.1 fC.2.2.2.2.1 fC.2.2.2.2.2,q7⟩⟩
end
section
variable {K:PySem.W.Frag}{H1:Hp}{p:Addr}{cσ:St}{g:TG}{te:TE}{Q:VK}{α:Type}{es:List α}{inj:α->V}
def Wk (J:It) (H1:Hp) (es:List α) (inj:α->V):Prop:=∀i H',Same H1 H'->(es[i]? =none->J.stop i H')/\∀e,es[i]? =some e->J.go i H'/\∀x H3,J.yld i H' x H3->H3=H'/\x=inj e
theorem N8 {a:Addr} (h:SqL K H1 a (es.map inj)):Wk (Itl K a) H1 es inj:=fun i H' s=>by
  have h':=s.seq h
  refine⟨fun e=>⟨_,h',?_⟩,fun e he=>⟨⟨_,inj e,h',by rw [List.getElem?_map,he];rfl⟩,fun x H3 ⟨e1,e2⟩=>⟨e1,?_⟩⟩⟩
  . rw [List.length_map]
    exact List.getElem?_eq_none_iff.mp e
  . have z:=e2 _ h'
    rw [List.getElem?_map,he]at z
    exact(Option.some.inj z).symm
theorem Fz {a:Addr} (h:SqT K H1 a (es.map inj)):Wk (Itt K a) H1 es inj:=fun i H' s=>by
  have h':=s.tup h
  refine⟨fun e=>⟨_,h',?_⟩,fun e he=>⟨⟨_,inj e,h',by rw [List.getElem?_map,he];rfl⟩,fun x H3 ⟨e1,e2⟩=>⟨e1,?_⟩⟩⟩
  . rw [List.length_map]
    exact List.getElem?_eq_none_iff.mp e
  . have z:=e2 _ h'
    rw [List.getElem?_map,he]at z
    exact(Option.some.inj z).symm
theorem Lf {lo:Int}{n:Nat}:Wk (Itr lo n) H1 (List.range n) (fun i=> .int (lo+(i:Nat))):=fun i H' s=>by
  refine⟨fun e=> ?_,fun e he=> ?_⟩
  . have:=List.getElem?_eq_none_iff.mp e
    show n<=i
    simpa using this
  . obtain⟨h,z⟩:=List.getElem?_eq_some_iff.mp he
    have hi:i<n:=by simpa using h
    have z':i=e:=by simpa using z
    subst z'
    exact⟨hi,fun x H3 ⟨e1,e2⟩=>⟨e1,e2⟩⟩
theorem Et {J:It} (f:α->V) (hz:es.length<=sizeLine) (hp:H1 p=none) (hJ:Wk J H1 es inj)
    (step:∀e H' R,e∈es->Same H1 H'->(∀H6,Same H' H6->R (f e) H6)->g (inj e) cσ H' fun σ4 H4=>Kp cσ σ4/\te σ4 H4 R)
    (done:∀H',Same H1 H'->H' p=some (.lst (es.map f))->Q (.ref p) H'):cIn J cσ g Ms te Q H1 p:=by
  have su:∀ {H':Hp}{o:HO},Same H1 H'->Same H1 (upd H' p o):=fun {H' o} s b u e=>by
    rw [Av (Ar e hp)]
    exact s b u e
  refine⟨fun i m acc H'=>m=es.length-i/\i<=es.length/\acc=(es.take i).map f/\H' p=some (.lst acc)/\Same H1 H',⟨es.length,by simp,Nat.zero_le _,by simp,Ae,su (Same.refl _)⟩,?_⟩
  rintro i m acc H' ⟨rfl,hi,rfl,hH,s⟩
  cases he:es[i]? with
  | none=>
    have hl:=List.getElem?_eq_none_iff.mp he
    have e:i=es.length:=Nat.le_antisymm hi hl
    subst e
    rw [List.take_length]at hH
    exact .inl ⟨(hJ _ _ s).1 he,done _ s hH⟩
  | some e=>
    obtain⟨go,yl⟩:=(hJ _ _ s).2 e he
    refine .inr ⟨go,fun x H3 y=> ?_⟩
    obtain⟨rfl,rfl⟩:=yl x H3 y
    obtain⟨hlt,e'⟩:=List.getElem?_eq_some_iff.mp he
    have tk:es.take (i+1)=es.take i++ [e]:=by rw [List.take_succ,he];rfl
    have q:=step e H3 (fun y H6=>H6 p=some (.lst ((es.take i).map f))/\((es.take i).map f).length<sizeLine/\∃m',m'<es.length-i/\m'=es.length-(i+1)/\i+1<=es.length/\(es.take i).map f++ [y]=(es.take (i+1)).map f/\
        upd H6 p (.lst ((es.take i).map f++ [y])) p=some (.lst ((es.take i).map f++ [y]))/\Same H1 (upd H6 p (.lst ((es.take i).map f++ [y])))) (List.mem_of_getElem? he) s
      (fun H6 s6=>⟨s6 _ _ hH,by rw [List.length_map,List.length_take];omega,_,by omega,rfl,hlt,by rw [tk,List.map_append];rfl,Ae,su (s.trans s6)⟩)
    have eq:∀(R:VK) (B:Hp->Prop),(fun σ4 H4=>Kp cσ σ4/\Ms σ4 H4 fun b H5=>if b=true then te σ4 H5 R else B H5)=(fun σ4 H4=>Kp cσ σ4/\te σ4 H4 R):=fun R B=>by
      funext σ4 H4
      show(Kp cσ σ4/\if true=true then te σ4 H4 R else B H4)=_
      rw [if_pos rfl]
    rw [eq]
    exact q
end
section
variable {X:Cx}{K:PySem.W.Frag}{σ:St}{H:Hp}{Q:VK}{R:It->Hp->Prop}
theorem Vm {n:Nat}{fs:List (Nat × Str)}{wi:TI}{g:TG}{tt:TT}{te:TE}:Lz n fs wi g tt te σ H Q=wi σ H (fun J H1=>∀p,H1 p=none->cIn J (cpσ n fs σ) g tt te Q H1 p):=rfl
theorem Ve {ta:TA}:Yu ta σ H R=ta σ H (fun vs H1=>∃j:Int,vs=[.int j]/\ -(2^62)<=j/\j<2^62/\R (Itr 0 j.toNat) H1):=rfl
theorem Ux {ta:TA}:Ad3 ta σ H R=ta σ H (fun vs H1=>∃i j:Int,vs=[.int i,.int j]/\(-(2^62)<=i/\i<2^62/\ -(2^62)<=j/\j<2^62)/\R (Itr i (j-i).toNat) H1):=rfl
theorem O1 {tl:TE}:Zo K tl σ H R=tl σ H (fun x H1=>∃a,x= .ref a/\(∃xs,SqL K H1 a xs)/\R (Itl K a) H1):=rfl
theorem T7 {tl:TE}:Aci K tl σ H R=tl σ H (fun x H1=>∃a,x= .ref a/\(∃xs,SqT K H1 a xs)/\R (Itt K a) H1):=rfl
theorem Y5 {a:Addr}{p:Addr->Prop}:(∃b,V.ref a= .ref b/\p b)=p a:=propext ⟨fun⟨_,e,h⟩=>by cases e;exact h,fun h=>⟨a,rfl,h⟩⟩
theorem Aas {v:Option V}{r:St}:Kp (none::r) (v::r)=True:=by
  refine eq_true ⟨rfl,fun i u e=> ?_⟩
  cases i with
  | zero=>cases e
  | succ i=>exact e
theorem Aaf {v v':Option V}{r:St}:Kp (none::none::r) (v::v'::r)=True:=by
  refine eq_true ⟨rfl,fun i u e=> ?_⟩
  cases i with
  | zero=>cases e
  | succ i=>
    cases i with
    | zero=>cases e
    | succ i=>exact e
theorem Sx {k:Bool}{p:Int->Prop}{q:Bool->Prop}:((∃i,[V.bl k]=[V.int i]/\p i)\/∃k',[V.bl k]=[V.bl k']/\q k')=q k:=
  propext ⟨fun h=>h.elim (fun⟨_,e,_⟩=>by cases e) fun⟨_,e,h⟩=>by cases e;exact h,fun h=> .inr ⟨k,rfl,h⟩⟩
end
end L2
namespace L2
open PySem PySem.Spec PyProof.Rows
def FI (J:It) (g:TG) (tb:TS) (D:Ends) (σ:St) (H:Hp):Prop:=∃W:Nat->Nat->St->Hp->Prop,(∃m,W 0 m σ H)/\∀i m σ H,W i m σ H->
  (J.stop i H/\D.nx σ H)\/(J.go i H/\∃N:St->Hp->Prop,(∀σ' H',N σ' H'->∃m',m'<m/\W (i+1) m' σ' H')/\∀x H',J.yld i H x H'->g x σ H' fun σ2 H2=>tb { D with nx:=N,ct:=N,bk:=D.nx} σ2 H2)
theorem Y6 {wi:TI}{g:TG}{tb:TS}{D:Ends}{σ:St}{H:Hp}:Adf wi g tb D σ H=wi σ H (fun J H1=>FI J g tb D σ H1):=rfl
section
variable {K:PySem.W.Frag}{σ:St}{H:Hp}{g:TG}{tb:TS}{D:Ends}{α:Type}{es:List α}{inj:α->V}
def Aa5 (J:It) (H:Hp) (es:List α) (inj:α->V):Prop:=∀i,(es[i]? =none->J.stop i H)/\∀e,es[i]? =some e->J.go i H/\∀x H3,J.yld i H x H3->H3=H/\x=inj e
theorem Ez {a:Addr} (h:SqL K H a (es.map inj)):Aa5 (Itl K a) H es inj:=fun i=>N8 h i H (Same.refl _)
theorem Fp {a:Addr} (h:SqT K H a (es.map inj)):Aa5 (Itt K a) H es inj:=fun i=>Fz h i H (Same.refl _)
theorem Cp {lo:Int}{n:Nat}:Aa5 (Itr lo n) H (List.range n) (fun i=> .int (lo+(i:Nat))):=fun i=>Lf i H (Same.refl _)
theorem Jt {J:It} (Pv:List α->St->Hp->Prop) (h0:Pv [] σ H) (hw:∀pre σ H,Pv pre σ H->Aa5 J H es inj)
    (hs:∀pre e post σ H,es=pre++e::post->Pv pre σ H->g (inj e) σ H fun σ2 H2=>tb { D with nx:=Pv (pre++ [e]),ct:=Pv (pre++ [e]),bk:=D.nx} σ2 H2) (hd:∀σ H,Pv es σ H->D.nx σ H):FI J g tb D σ H:=by
  refine⟨fun i m σ H=>m=es.length-i/\i<=es.length/\Pv (es.take i) σ H,⟨es.length,by simp,Nat.zero_le _,h0⟩,?_⟩
  rintro i m σ H ⟨rfl,hi,p⟩
  have w:=hw _ _ _ p i
  cases he:es[i]? with
  | none=>
    have e:i=es.length:=Nat.le_antisymm hi (List.getElem?_eq_none_iff.mp he)
    subst e
    rw [List.take_length]at p
    exact .inl ⟨w.1 he,hd _ _ p⟩
  | some e=>
    obtain⟨hlt,ee⟩:=List.getElem?_eq_some_iff.mp he
    have tk:es.take (i+1)=es.take i++ [e]:=by rw [List.take_succ,he];rfl
    have sp:es=es.take i++e::es.drop (i+1):=by
      rw [<-ee,<-List.drop_eq_getElem_cons hlt,List.take_append_drop]
    refine .inr ⟨(w.2 e he).1,Pv (es.take i++ [e]),fun σ' H' q=>⟨es.length-(i+1),by omega,rfl,hlt,by rw [tk];exact q⟩,fun x H' y=> ?_⟩
    obtain⟨rfl,rfl⟩:=(w.2 e he).2 x H' y
    exact hs _ e _ σ H' sp p
end
end L2
namespace L2
open PySem PySem.Spec PyProof.Rows
section
variable {K:PySem.W.Frag}{σ:St}{H:Hp}{Q:VK}
theorem Ad2 {r:V->Option Int->Option Int->Hp->VK->Prop}{te:TE}{tl th:TO}:tSl r te tl th σ H Q=te σ H (fun x H1=>tl σ H1 fun l H2=>th σ H2 fun u H3=>r x l u H3 Q):=rfl
theorem Ln {R:Option Int->Hp->Prop}:Oq σ H R=R none H:=rfl
theorem Tn {t:TE}{R:Option Int->Hp->Prop}:Z8 t σ H R=t σ H (fun x H1=>∃i,x= .int i/\R (some i) H1):=rfl
theorem Aaq {T:String}{r:V->List V->Hp->VK->Prop}{to:TE}:Ae4 K T r to σ H Q=to σ H (fun x H1=>tyV K T x H1/\r x [] H1 Q):=rfl
theorem Ad8 {T:String}{r:V->List V->Hp->VK->Prop}{to:TE}{t:TA}:tBM K T r to t σ H Q=to σ H (fun x H1=>tyV K T x H1/\t σ H1 fun xs H2=>r x xs H2 Q):=rfl
end
section
variable {CX:CXT}{P:Program}{w:World}{K:PySem.W.Frag}{mg:Str->Option Value}{base:Heap}{N:List Str}{qual:Str}{scope:Scope}{f:Addr}{cd:Value}{A:Around}{outer:List Env}{s:Shared}{H H1 H2:Hp}{E:XK}{Q:VK}{a b:Addr}{ns ms:List Int}{g:Bool->Bool}
theorem Aa3:(X7 CX P w K mg base N qual scope f cd A outer s H E).K=K:=rfl
theorem Uo:(X7 CX P w K mg base N qual scope f cd A outer s H E).nox.K=K:=rfl
theorem Hr (ns:List Int):SeqAt.shaped (.list (ns.map PyData.int))=true:=by
  simp [SeqAt.shaped,PyData.canLay0,PyData.depth,PySem.W.ke_canLayAll0,PySem.W.ke_depthAll]
theorem Wr (ha:SqL K H a (ns.map V.int)) (hb:SqL K H b (ms.map V.int)) (h:Q (.bl (g (decide (ns=ms)))) H):Aa4 K g (.ref a) (.ref b) H Q:=
  ⟨_,_,.lints ha,.lints hb,Hr _,Hr _,by rw [PyData.eqv,Hw];exact h⟩
end
end L2
namespace L2
open PySem PySem.Spec PyProof.Rows
section
variable {c:TT}{tb:TS}{D:Ends}{σ:St}{H:Hp}
def WB (Pv:St->Hp->Prop) (μ:St->Hp->Nat) (tb:TS) (D:Ends) (n:Nat) (σ:St) (H:Hp):Prop:=
  ∃N:St->Hp->Prop,(∀σ' H',N σ' H'->∃m',m'<n/\(m'=μ σ' H'/\Pv σ' H'))/\tb { D with nx:=N,ct:=N,bk:=D.nx} σ H
theorem Xv {Pv:St->Hp->Prop}{μ:St->Hp->Nat}{n:Nat} (h:tb { D with nx:=fun σ' H'=>Pv σ' H'/\μ σ' H'<n,ct:=fun σ' H'=>Pv σ' H'/\μ σ' H'<n,bk:=D.nx} σ H):WB Pv μ tb D n σ H:=
  ⟨_,fun _ _ ⟨p,l⟩=>⟨_,l,rfl,p⟩,h⟩
theorem Il (Pv:St->Hp->Prop) (μ:St->Hp->Nat) (h0:Pv σ H) (hs:∀σ H,Pv σ H->c σ H fun b H1=>if b=true then WB Pv μ tb D (μ σ H) σ H1 else D.nx σ H1):Pb c tb D σ H:=by
  refine⟨fun m σ H=>m=μ σ H/\Pv σ H,⟨_,rfl,h0⟩,?_⟩
  rintro m σ H ⟨rfl,p⟩
  exact hs σ H p
end
theorem S7 {a:Addr}{p:Addr->Prop}:(∃b,[V.ref a]=[.ref b]/\p b)=p a:=propext ⟨fun⟨_,e,h⟩=>by cases e;exact h,fun h=>⟨a,rfl,h⟩⟩
section
variable {K:PySem.W.Frag}{σ:St}{H:Hp}{Q:St->Hp->Prop}{R:VK}{p a b:Addr}{v w:V}{i j:Nat}{xs:List V}{ns ms:List Int}{f:Bool->Bool}
theorem Bo (h:SqT K H p [v,w]) (q:Q ((σ.set i (some v)).set j (some w)) H):Abt K 2 (W0 (Nx i) (W0 (Nx j) Ade)) (.ref p) σ H Q:=⟨p,_,rfl,h,rfl,v,_,rfl,w,_,rfl,rfl,q⟩
theorem T9 {to ti:TE}{t:Abn}:Ac8 to ti t v σ H Q=to σ H (fun o H1=>ti σ H1 fun i H2=>t o i v H2 fun H3=>Q σ H3):=rfl
theorem Adq {G:Hp->Prop} (hp:H p=some (.lst xs)) (hj:j<xs.length) (q:G (upd H p (.lst (xs.set j v)))):Acg (.ref p) (.int (j:Nat)) v H G:=by
  refine⟨p,xs,j,j,rfl,rfl,hp,?_,q⟩
  unfold ixN
  rw [if_pos (by omega),if_pos (by omega),Int.toNat_natCast]
theorem Pa (ha:SqT K H a (ns.map V.int)) (hb:SqT K H b (ms.map V.int)) (h:R (.bl (f (decide (ns=ms)))) H):Aek K f (.ref a) (.ref b) H R:=⟨a,b,ns,ms,rfl,rfl,ha,hb,h⟩
end
end L2
namespace L2
open PySem PySem.Spec PyProof.Rows
section
variable {prog:Program}{w:World}{A:Around}{E:Value->Shared->Prop}{s:Shared}{j u:Addr}{i:Nat}{xs:Array Value}
theorem nextT {y:Value}{Q:Value->Shared->Prop} (hj:s.heap.IsTupleIter j u i) (hu:s.heap.IsTuple u xs) (hy:xs[i]? =some y)
    (k:∀g,g.IsTupleIter j u (i+1)->Heap.SameBut j s.heap g->Q y { s with heap:=g}):wpAny (model prog w) A (Builtin.SmallTypes.nextOf (.ref j)) Q E s:=by
  obtain⟨oj,ej,cj,dj⟩:=id hj
  obtain⟨ou,eu,_,nu,du⟩:=hu
  unfold Builtin.SmallTypes.nextOf
  refine wpAny_bind (wpAny_callSpecial?_slot (name:=Str.ofString "__next__") hj.typeIs F.slot_tuple_iterator_next (wpAny_call_entry F.slot_tuple_iterator_next hj.typeIs F.entry_tuple_iterator_next ?_ (F.args_tuple_iterator_next_1 _)))
  show wpAny _ _ (field (.ref j) 0>>=_) _ _ s
  refine wpAny_bind (wpAny_field ej dj (x:= .ref u) rfl ?_)
  show wpAny _ _ (if(Value.ref u==Value.none)=true then _ else _) _ _ s
  rw [if_neg (show ¬((Value.ref u==Value.none)=true)from Bool.false_ne_true)]
  show wpAny _ _ (field (.ref j) 1>>=_) _ _ s
  refine wpAny_bind (wpAny_field ej dj (x:= .int i 0) rfl ?_)
  show wpAny _ _ (seqItems? (.ref u)>>=_) _ _ s
  refine wpAny_bind (wpAny_seqItems eu du ?_)
  simp only [hy,Int.toNat_natCast]
  refine wpAny_bind (wpAny_setField ej dj (by simp) (wpAny_pure ⟨y,rfl,wpAny_pure (k _ ?_ (Heap.SameBut.update ..))⟩))
  exact⟨_,Heap.get?_update_self _ ej (Obj.isFreed_of_fields (Obj.data_mapFields dj _)),(Obj.cls_mapFields ..).trans cj,by rw [Obj.data_mapFields dj];simp [rawInt]⟩
theorem Mv {Q:Value->Shared->Prop} (hh:A.handled=none) (hj:s.heap.IsTupleIter j u i) (hu:s.heap.IsTuple u xs) (hy:xs[i]? =none)
    (k:∀g e,Heap.ExtBut j s.heap g->(∃o,g.get? e=some o/\o.cls= .type "StopIteration")->E (.ref e) { s with heap:=g}):wpAny (model prog w) A (Builtin.SmallTypes.nextOf (.ref j)) Q E s:=by
  obtain⟨oj,ej,cj,dj⟩:=id hj
  obtain⟨ou,eu,_,nu,du⟩:=hu
  unfold Builtin.SmallTypes.nextOf
  refine wpAny_bind (wpAny_callSpecial?_slot (name:=Str.ofString "__next__") hj.typeIs F.slot_tuple_iterator_next (wpAny_call_entry F.slot_tuple_iterator_next hj.typeIs F.entry_tuple_iterator_next ?_ (F.args_tuple_iterator_next_1 _)))
  show wpAny _ _ (field (.ref j) 0>>=_) _ _ s
  refine wpAny_bind (wpAny_field ej dj (x:= .ref u) rfl ?_)
  show wpAny _ _ (if(Value.ref u==Value.none)=true then _ else _) _ _ s
  rw [if_neg (show ¬((Value.ref u==Value.none)=true)from Bool.false_ne_true)]
  show wpAny _ _ (field (.ref j) 1>>=_) _ _ s
  refine wpAny_bind (wpAny_field ej dj (x:= .int i 0) rfl ?_)
  show wpAny _ _ (seqItems? (.ref u)>>=_) _ _ s
  refine wpAny_bind (wpAny_seqItems eu du ?_)
  simp only [hy,Int.toNat_natCast]
  refine wpAny_bind (wpAny_rule (wpAny_bind (wpAny_setField ej dj (by simp) ?_)))
  show wpAny _ A.in1 (newExc (.type "StopIteration") []>>=_) _ _ _
  refine wpAny_bind ?_
  simp only [newTuple,newExc]
  refine wpAny_bind (wpAny_newObj_type ?_ (by size_fits))
  refine wpAny_bind (m:=firstArgMember _ _) (wpAny_of_eq (a:=Value.none) (by first | rfl | (simp only [firstArgMember];rfl)) ?_)
  refine(wpAny_newObj_type ?_ (by size_fits))
  simp only [raiseNew]
  refine wpAny_bind (wpAny_handled ?_)
  first | rw [show A.in1.handled=none from hh] | (rw [hh])
  refine wpAny_bind (wpAny_pure (wpAny_throw ?_))
  exact k _ _ (((Heap.SameBut.update ..).extBut.push _).push _) ⟨_,Heap.get?_push_size _ rfl,rfl⟩
theorem Wf {e:Addr}{y old:Value}{Q:Value->Shared->Prop} (he:IsEnum s.heap e j i old) (hj:s.heap.IsTupleIter j u i) (hu:s.heap.IsTuple u xs) (hy:xs[i]? =some y) (ne:e≠j)
    (k:∀g,IsEnumOut g e j ((i:Int)+1) y s.heap.objs.size->g.IsTupleIter j u (i+1)->g.get? s.heap.objs.size=some { cls:= .type "tuple",data:= .seq #[.int i s.toks,y]}->g.objs.size=s.heap.objs.size+1->
      (∀b o,b≠e->b≠j->s.heap.get? b=some o->g.get? b=some o)->Q (.ref s.heap.objs.size) { s with heap:=g,toks:=s.toks+1}):
    wpAny (model prog w) A (Builtin.«enumerate.__next__» ⟨[.ref e],[]⟩) (fun fin s'=>∃v,fin= .done (.ret v)/\Q v s') E s:=by
  obtain⟨hp,gg,d,tk,os⟩:=s
  show wpAny _ _ (field (.ref e) 2>>=_) _ _ _
  refine wpAny_bind (wpAny_field he rfl (x:= .ref j) rfl ?_)
  refine wpAny_bind (nextT hj hu hy fun g₁ hj₁ sb₁=> ?_)
  replace sb₁:Heap.SameBut j hp g₁:=sb₁
  have e₁:IsEnum g₁ e j i old:=(sb₁.2 e ne).trans he
  show wpAny _ _ (field (.ref e) 3>>=_) _ _ ⟨g₁,gg,d,tk,os⟩
  refine wpAny_bind (wpAny_field e₁ rfl (x:=rawInt i) rfl ?_)
  show wpAny _ _ (field (.ref e) 4>>=_) _ _ ⟨g₁,gg,d,tk,os⟩
  refine wpAny_bind (wpAny_field e₁ rfl (x:= .none) rfl ?_)
  show wpAny _ _ (mkInt i>>=_) _ _ ⟨g₁,gg,d,tk,os⟩
  refine wpAny_bind (wpAny_mkInt ?_)
  show wpAny _ _ (setField (.ref e) 3 (rawInt ((i:Int)+1))>>=_) _ _ ⟨g₁,gg,d,tk+1,os⟩
  refine wpAny_bind (wpAny_setField_rec e₁ (by simp) fun g₂ e₂ sb₂=> ?_)
  replace sb₂:Heap.SameBut e g₁ g₂:=sb₂
  replace e₂:IsEnum g₂ e j ((i:Int)+1) old:=e₂
  show wpAny _ _ (setField (.ref e) 4 .none>>=_) _ _ ⟨g₂,gg,d,tk+1,os⟩
  refine wpAny_bind (wpAny_setField_rec e₂ (by simp) fun g₃ e₃ sb₃=> ?_)
  replace sb₃:Heap.SameBut e g₂ g₃:=sb₃
  replace e₃:IsEnum g₃ e j ((i:Int)+1) old:=e₃
  show wpAny _ _ (newTuple [.int i tk,y]>>=_) _ _ ⟨g₃,gg,d,tk+1,os⟩
  refine wpAny_bind (wpAny_newTuple ?_)
  have e₄:IsEnum (g₃.push { cls:= .type "tuple",data:= .seq #[.int i tk,y]}) e j ((i:Int)+1) old:=Heap.get?_push_of_some _ e₃
  generalize hg:g₃.push { cls:= .type "tuple",data:= .seq #[.int i tk,y]}=g₄ at e₄
  have sz:g₃.objs.size=hp.objs.size:=by rw [sb₃.1,sb₂.1,sb₁.1]
  have lt:e<hp.objs.size:=Heap.lt_size he
  have t₄:g₄.get? hp.objs.size=some { cls:= .type "tuple",data:= .seq #[.int i tk,y]}:=by rw [<-hg,<-sz];exact Heap.get?_push_size _ rfl
  have z₄:g₄.objs.size=hp.objs.size+1:=by rw [<-hg,Heap.size_push,sz]
  have k₄:∀b o,b≠e->b≠j->hp.get? b=some o->g₄.get? b=some o:=fun b o h1 h2 hb=>by
    rw [<-hg];exact Heap.get?_push_of_some _ (sb₃.extBut b o h1 (sb₂.extBut b o h1 (sb₁.extBut b o h2 hb)))
  have j₄:g₄.IsTupleIter j u (i+1):=by
    rw [<-hg];obtain⟨o,ho,r⟩:=(hj₁.extBut sb₂.extBut (Ne.symm ne)).extBut sb₃.extBut (Ne.symm ne);exact⟨o,Heap.get?_push_of_some _ ho,r⟩
  show wpAny _ _ (Builtin.SmallTypes.ownedTupleIsFree (.ref e)>>=_) _ _ ⟨g₄,gg,d,tk+1,os⟩
  rw [sz]
  clear hg e₃ sb₃ e₂ sb₂ e₁ sb₁ hj₁ sz g₃ g₂ g₁
  refine wpAny_bind ?_
  . unfold Builtin.SmallTypes.ownedTupleIsFree
    refine wpAny_bind (wpAny_field e₄ rfl (x:= .none) rfl (wpAny_pure ?_))
    simp only [if_true]
    refine wpAny_bind (wpAny_rule ?_)
    refine wpAny_bind (wpAny_field e₄ rfl (x:=old) rfl ?_)
    refine wpAny_bind (wpAny_setField_rec e₄ (by simp) fun g₅ e₅ sb₅=> ?_)
    replace sb₅:Heap.SameBut e g₄ g₅:=sb₅
    replace e₅:IsEnum g₅ e j ((i:Int)+1) y:=e₅
    show wpAny _ _ (Builtin.SmallTypes.ownedTupleHandOut (.ref e) (.ref hp.objs.size)>>=_) _ _ ⟨g₅,gg,d,tk+1,os⟩
    refine wpAny_bind ?_
    . unfold Builtin.SmallTypes.ownedTupleHandOut
      refine wpAny_bind (wpAny_setField_rec e₅ (by simp) fun g₆ e₆ sb₆=> ?_)
      replace sb₆:Heap.SameBut e g₅ g₆:=sb₆
      replace e₆:IsEnumOut g₆ e j ((i:Int)+1) y hp.objs.size:=e₆
      refine wpAny_setField_rec e₆ (by simp) fun g₇ e₇ sb₇=> ?_
      replace sb₇:Heap.SameBut e g₆ g₇:=sb₇
      replace e₇:IsEnumOut g₇ e j ((i:Int)+1) y hp.objs.size:=e₇
      refine wpAny_bind (wpAny_letGo (wpAny_pure ⟨_,rfl,k g₇ e₇ ?_ ?_ ?_ ?_⟩))
      . exact((j₄.extBut sb₅.extBut (Ne.symm ne)).extBut sb₆.extBut (Ne.symm ne)).extBut sb₇.extBut (Ne.symm ne)
      . exact sb₇.extBut _ _ (Nat.ne_of_gt lt) (sb₆.extBut _ _ (Nat.ne_of_gt lt) (sb₅.extBut _ _ (Nat.ne_of_gt lt) t₄))
      . rw [sb₇.1,sb₆.1,sb₅.1,z₄]
      . exact fun b o h1 h2 hb=>sb₇.extBut b o h1 (sb₆.extBut b o h1 (sb₅.extBut b o h1 (k₄ b o h1 h2 hb)))
theorem Wi {e:Addr}{y old:Value}{Q:Option Value->Shared->Prop} (he:IsEnum s.heap e j i old) (hj:s.heap.IsTupleIter j u i) (hu:s.heap.IsTuple u xs) (hy:xs[i]? =some y) (ne:e≠j)
    (k:∀g,IsEnumOut g e j ((i:Int)+1) y s.heap.objs.size->g.IsTupleIter j u (i+1)->g.get? s.heap.objs.size=some { cls:= .type "tuple",data:= .seq #[.int i s.toks,y]}->g.objs.size=s.heap.objs.size+1->
      (∀b o,b≠e->b≠j->s.heap.get? b=some o->g.get? b=some o)->Q (some (.ref s.heap.objs.size)) { s with heap:=g,toks:=s.toks+1}):wpAny (model prog w) A (pyNext (.ref e)) Q E s:=by
  have ty:s.TypeIs (.ref e) "enumerate":=⟨_,he,rfl⟩
  unfold pyNext
  exact wpAny_bind (wpAny_attempt (wpAny_callSpecial?_slot (name:=Str.ofString "__next__") ty F.slot_enumerate_next (wpAny_call_entry F.slot_enumerate_next ty F.entry_enumerate_next
    (Wf he hj hu hy ne fun g a b c d f=>wpAny_pure (k g a b c d f)) (F.args_enumerate_next_1 _))))
theorem Xa {e:Addr}{old:Value}{Q:Option Value->Shared->Prop} (hh:A.handled=none) (he:IsEnum s.heap e j i old) (hj:s.heap.IsTupleIter j u i) (hu:s.heap.IsTuple u xs) (hy:xs[i]? =none)
    (k:∀g,Heap.ExtBut j s.heap g->Q none { s with heap:=g}):wpAny (model prog w) A (pyNext (.ref e)) Q E s:=by
  have ty:s.TypeIs (.ref e) "enumerate":=⟨_,he,rfl⟩
  unfold pyNext
  refine wpAny_bind (wpAny_attempt (wpAny_callSpecial?_slot (name:=Str.ofString "__next__") ty F.slot_enumerate_next (wpAny_call_entry F.slot_enumerate_next ty F.entry_enumerate_next ?_ (F.args_enumerate_next_1 _))))
  show wpAny _ _ (field (.ref e) 2>>=_) _ _ _
  refine wpAny_bind (wpAny_field he rfl (x:= .ref j) rfl ?_)
  refine wpAny_bind (Mv hh hj hu hy fun g x hg ⟨o,ho,hc⟩=> ?_)
  refine wpAny_bind (wpAny_isInstance (T:="StopIteration") (b:=true) ⟨o,ho,hc⟩ isSubtype_stop ?_)
  exact wpAny_pure (k _ hg)
end
open AutoSeq1 (wpAny_loadPart')in
theorem T5 (u:Addr) (xs:Array Value) (o:Obj) (n:Nat) (hc:o.cls= .type "tuple") (hd:o.data= .seq xs n):
    Meets (Builtin.«enumerate.__new__» ⟨[.type "enumerate",.ref u],[]⟩) (fun _ R s=>s.heap.get? u=some o/\R (.ok (.ret (.ref (s.heap.push { cls:= .type "tuple_iterator",data:= .fields #[.ref u,.int 0 0]}).objs.size)))
        { s with heap:=(s.heap.push { cls:= .type "tuple_iterator",data:= .fields #[.ref u,.int 0 0]}).push { cls:= .type "enumerate",data:= .fields #[.none,.bool false,.ref s.heap.objs.size,rawInt 0,.none,.none]}}):=
  .of_wp fun prog w A R s h=>by
    obtain⟨hp,g,d,tk,os⟩:=s;obtain⟨hu,h⟩:=h
    obtain⟨oc,od,odat,osl⟩:=o
    obtain rfl:oc= .type "tuple":=hc
    obtain rfl:odat= .seq xs n:=hd
    have su:=sub_enumerate
    have hT:Heap.IsTuple (Shared.heap ⟨hp,g,d,tk,os⟩) u xs:=⟨_,hu,rfl,n,rfl⟩
    wp_walk using wpAny_loadPart' hu
    refine wpAny_stack_any fun st=>wpAny_pure ?_
    split
    . rename_i c _ _ _ _ _
      cases(c==Value.type "enumerate")
      . wp_walk using wpAny_loadPart' hu,wpAny_pyIter_tuple hT
        exact⟨_,rfl,h⟩
      . wp_walk using wpAny_loadPart' hu,wpAny_pyIter_tuple hT
        exact⟨_,rfl,h⟩
    . wp_walk using wpAny_loadPart' hu,wpAny_pyIter_tuple hT
      exact⟨_,rfl,h⟩
section
variable {X:Cx}{pins:List (Addr × Obj)}{σ:St}{H:Hp}{s:Shared}{h':Heap}
theorem Inv.turnL {t':Nat}{fp:List Addr} (I:Inv X pins σ H s) (k:∀b o,b∉fp->s.heap.get? b=some o->h'.get? b=some o) (hf:∀b∈fp,Hs X pins H b):Inv X pins σ H { s with heap:=h',toks:=t'}:=by
  have nf:∀b u,H b=some u->b∉fp:=fun b u e z=>by
    have:=(hf b z).1
    rw [this]at e
    cases e
  refine I.step (g':=s.gens) (d':=s.drawn) (ch:=fp) (fun b hb=>⟨(hf b hb).2.2.2.1,(hf b hb).2.1,(hf b hb).2.2.2.2.1,(hf b hb).2.2.2.2.2⟩) (fun b o _ _ hc e _=>k b o hc e) (fun b o _ _ hc e _=>⟨o.slots,k b o hc e⟩) (fun _ _ _ _ n=>n)
    (fun b o hc e=>⟨o,k b o hc e⟩) (fun _ _ e=>e) (fun _ _ _ e=>e) (fun b ps e=>⟨#[],by rw [e];simp⟩) (fun m hm=> ?_) (fun b u e=> ?_) I.bare
  . obtain⟨o,es,ep,ho,r⟩:=hm
    exact⟨o,es,ep,k _ o (fun z=>(hf _ z).2.1 rfl) ho,r⟩
  . refine(I.hok b u e).stay (fun c v hc q=>k c v ?_ q) (fun _ q=>q) fun _ _ q=>q
    rcases hc with z | z
    . rw [z]
      exact nf b u e
    . exact nf c _ z
end
def Ite (K:PySem.W.Frag) (a:Addr):It:=
  ⟨fun i H=>∃xs x,SqT K H a xs/\xs[i]? =some x,fun i H x H'=>∃p v,(∀xs,SqT K H a xs->xs[i]? =some v)/\H p=none/\x= .ref p/\H'=upd H p (.tup [.int (i:Nat),v]),fun i H=>∃xs,SqT K H a xs/\xs.length<=i⟩
theorem Aax {P:Program}{w:World}{K:PySem.W.Frag}{el:List Expr}{x1}{tp:Pos} (a e j:Addr) (ne:e≠j):Turn P w K (.Tuple el x1 tp) (Ite K a) [e,j] e (fun i h=>(∃old,IsEnum h e j i old)/\h.IsTupleIter j a i) where
  mem:=by simp
  obj:=fun i h st b hb=>by
    obtain⟨⟨old,he⟩,oj,ej,cj,dj⟩:=st
    rcases List.mem_cons.mp hb with rfl | hb
    . exact⟨_,he,fun v z=>by cases(show Data.fields _=Data.cell v from z)⟩
    . have z:b=j:=by simpa using hb
      subst z
      exact⟨oj,ej,fun v z=>by rw [dj]at z;cases z⟩
  keep:=fun i h h' st k=>by
    obtain⟨⟨old,he⟩,oj,ej,r⟩:=st
    exact⟨⟨old,k e (by simp) _ he⟩,oj,k j (by simp) _ ej,r⟩
  item:=by
    intro X hP hw hK hc i pins s σ H E I hf st hg
    subst hP hw hK
    obtain⟨xs,x,hq,hx⟩:=hg
    obtain⟨its,rv,p,hz⟩:=I.tuple hq
    obtain⟨u,hu,ru⟩:=rv.get hx
    obtain⟨⟨old,he⟩,hj⟩:=st
    refine Wi he hj (show s.heap.IsTuple a its.toArray from p) (y:=u) (by simpa using hu) ne fun g hout hj' hT hsz kk=>⟨_,rfl,?_⟩
    refine wpAny_letOwnedTupleGo_enum hout fun g2 he2 sb2=> ?_
    replace sb2:Heap.SameBut e g g2:=sb2
    have lte:e<s.heap.objs.size:=Heap.lt_size he
    have ltj:j<s.heap.objs.size:=by
      obtain⟨_,ej,_⟩:=hj
      exact Heap.lt_size ej
    have hn:H s.heap.objs.size=none:=I.fresh
    have I1:Inv X pins σ (upd H s.heap.objs.size (.tup [.int (i:Nat),x])) { s with heap:=s.heap.push { cls:= .type "tuple",data:= .seq #[.int i s.toks,u]},toks:=s.toks+1}:=
      I.laid (fun b o q=>Heap.get?_push_of_some _ q) (Nat.le_refl _) ⟨by show 2<=sizeLine;decide,[.int i s.toks,u],.cons ⟨_,rfl⟩ (.cons ru .nil),⟨_,Heap.get?_push_size _ rfl,rfl,_,rfl⟩⟩
    have fp':∀b∈ [e,j],Hs X pins (upd H s.heap.objs.size (.tup [.int (i:Nat),x])) b:=fun b hb=>by
      have nb:b≠s.heap.objs.size:=by
        rcases List.mem_cons.mp hb with rfl | hb'
        . exact Nat.ne_of_lt lte
        . have z:b=j:=by simpa using hb'
          subst z
          exact Nat.ne_of_lt ltj
      exact⟨by rw [Av nb];exact(hf b hb).1,(hf b hb).2⟩
    have I2:=I1.turnL (h':=g2) (t':=s.toks+1) (fp:=[e,j]) (fun b o hb q=>by
      have n1:b≠e:=fun z=>hb (by simp [z])
      have n2:b≠j:=fun z=>hb (by simp [z])
      refine(sb2.2 b n1).trans ?_
      rcases Heap.get?_push_cases q with⟨rfl,rfl⟩ | q0
      . exact hT
      . exact kk b o n1 n2 q0) fp'
    refine⟨.ref s.heap.objs.size,_,I2,rfl,⟨_,x,fun ys hy=>by rw [I.tuple_inj hy hq];exact hx,hn,rfl,rfl⟩,⟨⟨_,by simpa using he2⟩,?_⟩,fun b hb=>(fp' b hb).1⟩
    exact hj'.extBut sb2.extBut (Ne.symm ne)
  done:=by
    intro X hP hw hK hc i pins s σ H E I hf st hg
    subst hP hw hK
    obtain⟨xs,hq,hx⟩:=hg
    obtain⟨its,rv,p,hz⟩:=I.tuple hq
    obtain⟨⟨old,he⟩,hj⟩:=st
    have hl:=rv.length
    exact Xa (I.ok.hd hc) he hj (show s.heap.IsTuple a its.toArray from p) (by simp;omega) fun g eb=>⟨rfl,I.turnL (t':=s.toks) (fp:=[e,j]) (fun b o hb q=>eb b o (fun z=>hb (by simp [z])) q) hf⟩
  self:=fun _ _ _ _ _ st h=>by
    obtain⟨⟨old,he⟩,_⟩:=st
    exact wpAny_pyIter_enum he h
section
variable {X:Cx}{a:Expr}{ta:TA}{el:List Expr}{x1}{tp p pos:Pos}
def iEn (K:PySem.W.Frag) (ta:TA):TI:=fun σ H R=>ta σ H fun vs H1=>∃a,vs=[.ref a]/\(∃xs,SqT K H1 a xs)/\R (Ite K a) H1
theorem Vd (hg:Gl X "enumerate") (hm:X.mg "enumerate"=none) (ha:PA X [a] ta) (hs:starEach [a] X.env=[(false,eval a X.env)]:=by rfl):PI X (.Tuple el x1 tp) (.Call (.Name "enumerate" p) [a] [] pos) (iEn X.K ta):=by
  intro pins s σ H R I h
  refine Call_ (Gs I hg hm boot_enumerate (PyProof.Rows.callWith_type1 (thn (ha pos pins s σ H _ I h) fun us s1 ⟨vs,H1,I1,r1,q1⟩=> ?_) hs rfl))
  obtain⟨b,rfl,⟨xs,hq⟩,q⟩:=q1
  obtain⟨v,rfl,rv⟩:=vals1 r1
  cases rv
  obtain⟨its,rr,pl,hz⟩:=I1.tuple hq
  obtain⟨o,ho,hc,n,hd⟩:=(show s1.heap.IsTuple b its.toArray from pl)
  refine callType_new F.called_enumerate (by decide) (F.typeCall_enumerate_1 _) (F.newCall_enumerate_1 _) (fun obj=>F.args_object_init_2 obj _) F.entry_enumerate_new (T5 b its.toArray o n hc hd) ⟨ho,?_⟩
  have z1:(s1.heap.push { cls:= .type "tuple_iterator",data:= .fields #[.ref b,.int 0 0]}).objs.size=s1.heap.objs.size+1:=Heap.size_push ..
  show _/\_
  rw [z1]
  have he:IsEnum ((s1.heap.push { cls:= .type "tuple_iterator",data:= .fields #[.ref b,.int 0 0]}).push { cls:= .type "enumerate",data:= .fields #[.none,.bool false,.ref s1.heap.objs.size,rawInt 0,.none,.none]}) (s1.heap.objs.size+1) s1.heap.objs.size ((0:Nat):Int) .none:=by
    have z2:=Heap.get?_push_size (s1.heap.push { cls:= .type "tuple_iterator",data:= .fields #[.ref b,.int 0 0]}) (o:={ cls:= .type "enumerate",data:= .fields #[.none,.bool false,.ref s1.heap.objs.size,rawInt 0,.none,.none]}) rfl
    rw [z1]at z2
    exact z2
  have hj:Heap.IsTupleIter ((s1.heap.push { cls:= .type "tuple_iterator",data:= .fields #[.ref b,.int 0 0]}).push { cls:= .type "enumerate",data:= .fields #[.none,.bool false,.ref s1.heap.objs.size,rawInt 0,.none,.none]}) s1.heap.objs.size b 0:=
    ⟨_,Heap.get?_push_of_some _ (Heap.get?_push_size _ rfl),rfl,rfl⟩
  have I2:Inv X pins σ H1 { s1 with heap:=(s1.heap.push { cls:= .type "tuple_iterator",data:= .fields #[.ref b,.int 0 0]}).push { cls:= .type "enumerate",data:= .fields #[.none,.bool false,.ref s1.heap.objs.size,rawInt 0,.none,.none]}}:=
    I1.kept (t':=s1.toks) fun c o' e=>Heap.get?_push_of_some _ (Heap.get?_push_of_some _ e)
  refine⟨⟨_,he,rfl⟩,wpAny_pyIter_enum he ⟨s1.heap.objs.size+1,[s1.heap.objs.size+1,s1.heap.objs.size],_,_,H1,rfl,I2,Aax b _ _ (Nat.ne_of_gt (Nat.lt_succ_self _)),⟨⟨_,he⟩,hj⟩,fun c hcm=> ?_,q⟩⟩
  have hge:s1.heap.objs.size<=c:=by
    rcases List.mem_cons.mp hcm with rfl | hcm
    . exact Nat.le_succ _
    . have z:c=s1.heap.objs.size:=by simpa using hcm
      exact Nat.le_of_eq z.symm
  exact I1.fpOk hge (I1.hok.fresh hge)
end
theorem Zv {K:PySem.W.Frag}{σ:St}{H:Hp}{ta:TA}{R:It->Hp->Prop}:iEn K ta σ H R=ta σ H (fun vs H1=>∃a,vs=[.ref a]/\(∃xs,SqT K H1 a xs)/\R (Ite K a) H1):=rfl
theorem Abf {K:PySem.W.Frag}{σ:St}{H:Hp}{g:TG}{tb:TS}{D:Ends}{α:Type}{es:List α}{inj:α->V}{a:Addr} (Pv:List α->St->Hp->Prop) (h0:Pv [] σ H) (hw:∀pre σ H,Pv pre σ H->SqT K H a (es.map inj))
    (hs:∀pre e post σ H p,es=pre++e::post->Pv pre σ H->H p=none->g (.ref p) σ (upd H p (.tup [.int (pre.length:Nat),inj e])) fun σ2 H2=>tb { D with nx:=Pv (pre++ [e]),ct:=Pv (pre++ [e]),bk:=D.nx} σ2 H2) (hd:∀σ H,Pv es σ H->D.nx σ H):FI (Ite K a) g tb D σ H:=by
  refine⟨fun i m σ H=>m=es.length-i/\i<=es.length/\Pv (es.take i) σ H,⟨es.length,by simp,Nat.zero_le _,h0⟩,?_⟩
  rintro i m σ H ⟨rfl,hi,p⟩
  have w:=hw _ _ _ p
  cases he:es[i]? with
  | none=>
    have e:i=es.length:=Nat.le_antisymm hi (List.getElem?_eq_none_iff.mp he)
    subst e
    rw [List.take_length]at p
    exact .inl ⟨⟨_,w,by rw [List.length_map];exact Nat.le_refl _⟩,hd _ _ p⟩
  | some e=>
    obtain⟨hlt,ee⟩:=List.getElem?_eq_some_iff.mp he
    have tk:es.take (i+1)=es.take i++ [e]:=by rw [List.take_succ,he];rfl
    have sp:es=es.take i++e::es.drop (i+1):=by
      rw [<-ee,<-List.drop_eq_getElem_cons hlt,List.take_append_drop]
    refine .inr ⟨⟨_,inj e,w,by rw [List.getElem?_map,he];rfl⟩,Pv (es.take i++ [e]),fun σ' H' q=>⟨es.length-(i+1),by omega,rfl,hlt,by rw [tk];exact q⟩,fun x H' y=> ?_⟩
    obtain⟨b,v,y1,y2,rfl,rfl⟩:=y
    have y3:=y1 _ w
    rw [List.getElem?_map,he]at y3
    obtain rfl:inj e=v:=Option.some.inj y3
    have hl:(es.take i).length=i:=by rw [List.length_take];omega
    have z:=hs _ e _ σ H b sp p y2
    rw [hl]at z
    exact z
end L2
namespace L2
open PySem PySem.Spec PyProof.Rows
section
variable {X:Cx}
def Adh (K:PySem.W.Frag):R2:=fun x y H Q=>∃a b xs ys,x= .ref a/\y= .ref b/\SqT K H a xs/\SqT K H b ys/\xs.length+ys.length<=sizeLine/\∀z H',Same H H'->SqT K H' z (xs++ys)->Q (.ref z) H'
theorem Aaj:OpR X (binaryOp .Add) (Adh X.K):=by
  intro pins s σ H x y v u Q I rx ry h
  obtain⟨a,b,xs,ys,rfl,rfl,ha,hb,hz,q⟩:=h
  by_cases hx:xs=[]
  . subst hx
    cases rx
    cases ry
    obtain⟨its,r1,p1,_⟩:=I.tuple ha
    obtain⟨its2,r2,p2,_⟩:=I.tuple hb
    cases r1
    obtain⟨⟨c1,d1,t1,l1⟩,ho,hc,n,hd⟩:=(show s.heap.IsTuple a ([]:List Value).toArray from p1)
    obtain⟨⟨c2,d2,t2,l2⟩,ho2,hc2,n2,hd2⟩:=(show s.heap.IsTuple b its2.toArray from p2)
    simp only at hc hd hc2 hd2
    subst hc hd hc2 hd2
    exact concat_meets ⟨_,ho,rfl⟩ ⟨_,ho2,rfl⟩ noFill_tuple_add seq_tuple_add PySem.F.slot_tuple_add PySem.F.entry_tuple_add (PySem.F.args_tuple_add_2 _ _)
      (tuple_addW0 a b #[] its2.toArray n n2 d1 d2 l1 l2 rfl) ⟨ho,ho2,⟨.ref b,H,I,rfl,q b H (Same.refl _) hb⟩⟩
  . exact Yq pins s σ H _ _ v u Q I rx ry ⟨a,b,xs,ys,rfl,rfl,ha,hb,hx,hz,fun e=>q a H (Same.refl _) (by rw [e,List.append_nil];exact ha),fun _ p hp=>q p _ (Same.upd hp _) (.of Ae)⟩
theorem Ia (hc:X.calm=true):Dv X (.builtin "all") (fun xs H Q=>∃(a:Addr) (bs:List Bool),xs=[.ref a]/\SqL X.K H a (bs.map V.bl)/\Q (.bl (bs.all id)) H):=by
  intro pins s σ H xs us Q I r h
  obtain⟨a,bs,rfl,ha,q⟩:=h
  obtain⟨u,rfl,ru⟩:=vals1 r
  cases ru
  obtain⟨its,rv,p,hz⟩:=I.list ha
  have hl:s.heap.IsList a its.toArray:=p.isList
  have lt:a<s.heap.objs.size:=by
    obtain⟨_,e,_⟩:=hl
    exact Heap.lt_size e
  have ln:its.length=bs.length:=by
    have:=rv.length
    rw [List.length_map]at this
    exact this.symm
  refine call_all_walk (wpAny_pyIter_list hl ?_)
  refine⟨s.heap.objs.size,[s.heap.objs.size,a],[s.heap.objs.size],its.toArray.size,_,_,fun i=>(bs[i]?).getD true,rfl,Walks.list (A:=X.A.in1) (I.ok.hd hc) _ a (Nat.ne_of_lt lt) its.toArray,
    ⟨⟨_,Heap.get?_push_size _ rfl,rfl,rfl⟩,hl.push _⟩,fun i v s' Q' E' hP hQ=> ?_,fun g tk hk=> ?_⟩
  . have hv:its[i]? =some v:=by simpa using hP
    have hi:i<its.length:=(List.getElem?_eq_some_iff.mp hv).1
    have hb:bs[i]? =some bs[i]:=List.getElem?_eq_getElem (by omega)
    obtain⟨w',hw,rw'⟩:=rv.get (show(bs.map V.bl)[i]? =some (V.bl bs[i])by rw [List.getElem?_map,hb];rfl)
    rw [hv]at hw
    cases hw
    cases rw'
    simp only [hb,Option.getD_some]at hQ
    exact wpAny_truthy_bool hQ
  . have e:((List.range its.toArray.size).all fun i=>(bs[i]?).getD true)=bs.all id:=by
      rw [List.size_toArray,ln,Bool.eq_iff_iff,List.all_eq_true,List.all_eq_true]
      constructor
      . intro h x hx
        obtain⟨i,hi,ei⟩:=List.getElem_of_mem hx
        have:=h i (List.mem_range.mpr hi)
        rw [List.getElem?_eq_getElem hi,ei]at this
        exact this
      . intro h i hi
        have hi':=List.mem_range.mp hi
        rw [List.getElem?_eq_getElem hi']
        exact h _ (List.getElem_mem hi')
    rw [e]
    exact⟨.bl _,H,I.kept (t':=tk) fun b o q'=>hk b o (fun hm=>by rw [List.mem_singleton.mp hm]at q';exact Nat.lt_irrefl _ (Heap.lt_size q')) (Heap.get?_push_of_some _ q'),rfl,q⟩
end
open AutoSeq1 (wpAny_loadPart')in
open AutoSeq1 (wpAny_loadPart')in
open AutoSeq1 (wpAny_loadPart')in
section
variable {X:Cx}
theorem Fb (K:PySem.W.Frag) (h:X.K=K:=by rfl):IxR X (Adk K):=by subst h;exact Bk
end
section
variable {X:Cx}
theorem Pq:Dv X (.builtin "isinstance") (fun xs H Q=>∃(a:Addr) (ys:List V) (T:String) (b:Bool),xs=[.ref a,.ty T]/\SqT X.K H a ys/\PySem.W.kitOne X.K (.type "tuple") (.type T)=some b/\Q (.bl b) H):=by
  intro pins s σ H xs us Q I r h
  obtain⟨a,ys,T,b,rfl,ht,hk,q⟩:=h
  obtain⟨u,c,rfl,ru,rc⟩:=vals2 r
  cases rc
  cases ru
  obtain⟨its,rv,p,_⟩:=I.tuple ht
  obtain⟨o,h1,h2,_⟩:=(show s.heap.IsTuple a its.toArray from p)
  exact PySem.W.kia_one PySem.W.kitx_tuple I.kIn ⟨o,h1,h2⟩ hk (fun z=>nomatch z) fun tk=>⟨.bl b,H,I.tok tk,rfl,q⟩
end
section
variable {prog:Program}{w:World}{A:Around}{E:Value->Shared->Prop}{s:Shared}
theorem U5 {t sl:Addr}{ys:Array Value}{vl vu:Value}{lo hi:Option Int}{Q:Value->Shared->Prop} (ht:IsTup s.heap t ys) (hs:s.heap.IsSliceOf sl vl vu .none) (pl:IsPart vl lo) (pu:IsPart vu hi)
    (w1:HT.sIx ys.size 0 lo=0) (w2:HT.sIx ys.size ys.size hi=ys.size) (h:Q (.ref t) s):wpAny (model prog w) A (getItem (.ref t) (.ref sl)) Q E s:=by
  obtain⟨os,eos,cs,ds⟩:=id hs
  have ty:s.TypeIs (.ref sl) "slice":=⟨os,eos,cs⟩
  unfold getItem
  try with_reducible refine(wpAny_holding ?_)
  first | refine(wpAny_bind (wpAny_pure ?_)) | skip
  refine wpAny_bind (wpAny_sequenceKey ht.typeIs (by decide) (?_))
  refine wpAny_bind (wpAny_callSpecial?_slot (name:=Str.ofString "__getitem__") ht.typeIs PyProof.Rows.slot_tuple_getitem (wpAny_call_entry PyProof.Rows.slot_tuple_getitem ht.typeIs entry_tuple_getitem ?_ (args_tuple_getitem _ _)))
  show wpAny _ A.in1 (Builtin.Tuple.tupleItemsOf (.ref t)>>=_) _ _ s
  refine wpAny_bind (tupleItemsOf_ ht (?_))
  refine wpAny_bind (wpAny_typeOf ty ?_)
  rw [if_pos (by decide)]
  refine wpAny_bind (HT.El hs pl pu ?_)
  have yes:(((HT.sIx ys.size 0 lo:Nat):Int)==0&&(1:Int)==1&&(HT.sIx ys.size ys.size hi-HT.sIx ys.size 0 lo)==ys.size)=true:=by
    rw [w1,w2]
    simp
  show wpAny _ A.in1 (if(((HT.sIx ys.size 0 lo:Nat):Int)==0&&(1:Int)==1&&(HT.sIx ys.size ys.size hi-HT.sIx ys.size 0 lo)==ys.size)=true then _ else _) _ _ s
  rw [if_pos yes]
  refine wpAny_bind ?_
  unfold Builtin.Tuple.tupleIsExact
  refine wpAny_bind (wpAny_typeOf ht.typeIs (wpAny_pure ?_))
  rw [if_pos (by decide)]
  exact wpAny_bind (wpAny_rule (wpAny_pure ⟨_,rfl,wpAny_pure h⟩))
end
section
variable {X:Cx}
def Ae1 (K:PySem.W.Frag):V->Option Int->Option Int->Hp->VK->Prop:=fun x lo hi H Q=>∃a xs,x= .ref a/\SqT K H a xs/\∀z H',Same H H'->SqT K H' z (Rj xs lo hi)->Q (.ref z) H'
theorem Zy:SlR X (Ae1 X.K):=by
  intro pins s σ H x v vl vu lo hi sl Q I rx hs pl pu h
  obtain⟨a,xs,rfl,hx,q⟩:=h
  by_cases hw:HT.sIx xs.length 0 lo=0/\HT.sIx xs.length xs.length hi=xs.length
  . cases rx
    obtain⟨its,r,ht,hz⟩:=I.tuple hx
    have hlen:its.toArray.size=xs.length:=by rw [List.size_toArray];exact r.length.symm
    refine⟨"tuple",_,PyProof.Rows.slot_tuple_getitem.lookup,ht.typeIs,U5 ht hs pl pu (by rw [hlen];exact hw.1) (by rw [hlen];exact hw.2) ⟨.ref a,H,I,rfl,q a H (Same.refl _) ?_⟩⟩
    have e:Rj xs lo hi=xs:=by
      unfold Rj
      rw [hw.1,hw.2,List.drop_zero,Nat.sub_zero,List.take_length]
    rw [e]
    exact hx
  . exact Ab0 pins s σ H _ v vl vu lo hi sl Q I rx hs pl pu ⟨a,xs,rfl,hx,hw,fun p hp=>q p _ (Same.upd hp _) (.of Ae)⟩
end
end L2
namespace L2
open PySem PySem.Spec PyProof.Rows
section
variable {X:Cx}{e st:Expr}{te tst:TE}{pos p2:Pos}
def Aeq (K:PySem.W.Frag) (te tst:TE):TE:=fun σ H Q=>te σ H fun x H1=>tst σ H1 fun y H2=>∃a xs,x= .ref a/\y= .int (-1)/\SqT K H2 a xs/\∀p,H2 p=none->Q (.ref p) (upd H2 p (.tup xs.reverse))
theorem Vals.rev {xs:List V}{us:List Value} (h:Vals xs us):Vals xs.reverse us.reverse:=by
  induction h with
  | nil=>exact .nil
  | cons r _ ih=>
    rw [List.reverse_cons,List.reverse_cons]
    exact ih.append (.cons r .nil)
theorem Y8 {K:PySem.W.Frag}{σ:St}{H:Hp}{Q:VK}:Aeq K te tst σ H Q=te σ H (fun x H1=>tst σ H1 fun y H2=>∃a xs,x= .ref a/\y= .int (-1)/\SqT K H2 a xs/\∀p,H2 p=none->Q (.ref p) (upd H2 p (.tup xs.reverse))):=rfl
end
end L2
namespace L2
open PySem PySem.Spec PyProof.Rows
set_option maxRecDepth 100000
open AutoSeq1 (wpAny_loadPart')in
def Itv (K:PySem.W.Frag) (a:Addr) (n:Nat):It:=
  ⟨fun i H=>∃xs x,SqT K H a xs/\xs.length=n/\xs.reverse[i]? =some x,fun i H x H'=>H'=H/\∀xs,SqT K H a xs->xs.reverse[i]? =some x,fun i _=>n<=i⟩
section
variable {X:Cx}{a:Expr}{ta:TA}{tg:Expr}{p pos:Pos}
def iRv (K:PySem.W.Frag) (ta:TA):TI:=fun σ H R=>ta σ H fun vs H1=>∃a,vs=[.ref a]/\∃xs,SqT K H1 a xs/\R (Itv K a xs.length) H1
end
theorem Aa2 {K:PySem.W.Frag}{σ:St}{H:Hp}{ta:TA}{R:It->Hp->Prop}:iRv K ta σ H R=ta σ H (fun vs H1=>∃a,vs=[.ref a]/\∃xs,SqT K H1 a xs/\R (Itv K a xs.length) H1):=rfl
theorem Di {X:Cx}{es:List Expr}{k:Nat}{pos:Pos}{t:TGs} (K:PySem.W.Frag) (n:Nat) (hK:X.K=K) (hc:X.calm=true) (h:PGs X es t)
    (hn:(assignEach es X.env).length=n:=by rfl) (hst:(assignEach es X.env).findIdx? (·.1)=none:=by rfl):PG X (.Tuple es k pos) (Abt K n t):=by
  subst hK
  exact Cq hc h hn hst
end L2
namespace L2
open PySem PySem.Spec PyProof.Rows
set_option maxRecDepth 100000
theorem Bs.has {P:Program}{w:World}{H:Hp}{h:Heap}{a:Addr}{o:HO} (x:Bs P w H h a o):∃ob,h.get? a=some ob:=by
  cases o with
  | lst xs=>obtain⟨_,_,_,_,e⟩:=x;exact⟨_,e⟩
  | tup xs=>obtain⟨_,_,_,ob,e,_⟩:=x;exact⟨_,e⟩
  | dK kvs=>obtain⟨_,_,_,_,o,_,_,e,_⟩:=x;exact⟨_,e⟩
  | dT kvs=>obtain⟨_,_,_,_,o,_,_,e,_⟩:=x;exact⟨_,e⟩
  | set S n=>obtain⟨o,_,_,_,e,_⟩:=x;exact⟨_,e⟩
  | ins C dx fs=>obtain⟨_,_,_,e,_⟩:=x;exact⟨_,e⟩
  | own y=>exact x
  | xd fs=>obtain⟨_,⟨_,_,_,e,_⟩,_⟩:=x;exact⟨_,e⟩
  | rng lo hi=>obtain⟨_,_,_,e⟩:=x;exact⟨_,e⟩
  | frz ob u=>obtain⟨e,_⟩:=x;exact⟨_,e⟩
  | tbl ps=>exact⟨_,show h.get? a=some _ from x⟩
  | met f y=>exact⟨_,show h.get? a=some _ from x⟩
  | ext φ=>exact x.2.1
structure FX (P:Program) (w:World) (fr:List Addr) (H:Hp) (h0:Heap) (B:Heap) (H':Hp) (h:Heap):Prop where
  stay:B.StaysIn h
  k1:∀b o,h0.get? b=some o->b∉fr->∃o',B.get? b=some o'/\(H b=none->o'=o)
  k2:∀b u,H' b=some u->∃o,B.get? b=some o
  fr0:∀b∈fr,H b=none/\∃o,h0.get? b=some o/\∀vs,o.data≠ .fields vs
  un:Un fr [] H H' h0 h
  hok:HOk P w H' h
theorem FX.step {P:Program}{w:World}{fr:List Addr}{H H':Hp}{h0 B h h':Heap} (x:FX P w fr H h0 B H' h) (k:B.StaysIn h') (u:h.UpToSlots h'):FX P w fr H h0 B H' h':=by
  have slot:∀b o,h0.get? b=some o->H b=none->b∈fr->∃sl,h'.get? b=some { o with slots:=sl}:=fun b o e n hb=>by
    obtain⟨sl,e1⟩:=x.un.slot b o e n hb (by simp)
    obtain⟨_,o2,e2,hf⟩:=x.fr0 b hb
    rw [e]at e2;cases e2
    obtain⟨sl',e3⟩:=u b _ e1 hf
    exact⟨sl',e3⟩
  refine⟨k,x.k1,x.k2,x.fr0,⟨fun b o e n hb _=> ?_,fun b o e n hb _=>slot b o e n hb,x.un.free,fun b o e _=> ?_,x.un.tups,x.un.frzs,x.un.tbls⟩,fun b v e=>(x.hok b v e).stay (fun c z hc q=> ?_) (fun _ q=>q) fun _ _ q=>q⟩
  . obtain⟨o',e1,e2⟩:=x.k1 b o e hb
    rw [e2 n]at e1
    exact k b o e1
  . by_cases hb:b∈fr
    . obtain⟨sl,e1⟩:=slot b o e (x.fr0 b hb).1 hb
      exact⟨_,e1⟩
    . obtain⟨o',e1,_⟩:=x.k1 b o e hb
      exact⟨o',k b o' e1⟩
  . have t:∃o,B.get? c=some o:=by
      rcases hc with z | z
      . rw [z];exact x.k2 _ _ e
      . exact x.k2 _ _ z
    obtain⟨o,eo⟩:=t
    have:=x.stay c o eo
    rw [q]at this;cases this
    exact k c _ eo
section
variable {X:Cx}{pins:List (Addr × Obj)}{σ:St}{H H':Hp}{s s':Shared}{B:Heap}
theorem Inv.old (I:Inv X pins σ H s) {b:Addr}{o:Obj} (e:X.s₀.heap.get? b=some o) (hb:b∉X.fs):b∉frs X.stack:=fun z=>by
  rcases List.mem_cons.mp (I.stkSub b z)with q | q
  . exact absurd (Nat.lt_of_lt_of_le (Heap.lt_size e) I.ok.above) (by rw [q];exact Nat.lt_irrefl _)
  . exact hb q
theorem Inv.fr0 (I:Inv X pins σ H s):∀b∈X.fs,X.H₀ b=none/\∃o,X.s₀.heap.get? b=some o/\∀vs,o.data≠ .fields vs:=fun b hb=>by
  obtain⟨_,o,ho,hd⟩:=I.ok.funs.mem hb
  exact⟨I.ok.frf b hb,o,ho,hd⟩
theorem Inv.one (I:Inv X pins σ H s) (hex:X.ex=[]) {b:Addr}{o:Obj} (e:X.s₀.heap.get? b=some o) (hb:b∉X.fs):∃o',s.heap.get? b=some o'/\(X.H₀ b=none->o'=o/\H b=none):=by
  by_cases n:X.H₀ b=none
  . exact⟨o,I.base.keep b o e n hb (by rw [hex];simp),fun _=>⟨rfl,I.base.free b o e n (by rw [hex];simp)⟩⟩
  . obtain⟨o',e1⟩:=I.base.there b o e (by rw [hex];simp)
    exact⟨o',e1,fun z=>absurd z n⟩
end
def CXE (P:Program) (w:World):CXT:=fun outer H s E e s'=>∃(x C:Addr) (a0:Value) (B:Heap) (H':Hp),e= .ref x/\s'.os=s.os/\AllBare s'.gens/\Heap.FlyingW B outer x (.ref C) a0 s'.heap/\FX P w (frs outer) H s.heap B H' s'.heap/\E (.ref C) none H'
abbrev VE:List Value:=[.type "ValueError",.type "Exception",.type "BaseException",.type "object"]
def Aeb (K:PySem.W.Frag) (C:Addr):Prop:=PySem.W.excIn K C VE "ValueError.__new__"=true
def cA (K:PySem.W.Frag) (x:Str):Addr:=match PySem.W.nsIn K mainGlobals x with
  | some (some (.ref C))=>C
  | _=>0
theorem Ab2 {K:PySem.W.Frag}{x:Str}{C:Addr} (e:PySem.W.nsIn K mainGlobals x=some (some (.ref C))):cA K x=C:=by
  unfold cA
  rw [e]
def Aet (h:Heap) (C:Addr):Prop:=∃bm N nm q bs hdct sn sub ab col dd k0 k1 k2 k3 k5 mN,h.get? C=some (excClassObj nm q C N bs bm hdct sn sub ab col dd k0 k1 k2 k3 k5 "ValueError.__new__")/\h.Ns N mN/\mN "__init__"=none/\OwnTail h VE bm
theorem Aeb.obj {K:PySem.W.Frag}{C:Addr}{h:Heap} (q:Aeb K C) (X:K.In h):Aet h C:=by
  unfold Aeb PySem.W.excIn at q
  cases e:K.lookup C with
  | none=>rw [e]at q;cases q
  | some ob=>
    rw [e]at q
    have eX:=X _ _ e
    split at q
    . rename_i dd cd sl z
      cases z
      split at q
      . rename_i C1 bm a0 a1 a2 a3 n a5 hm hs
        rw [Bool.and_eq_true,Bool.and_eq_true,Bool.and_eq_true,Bool.and_eq_true,Bool.and_eq_true]at q
        obtain⟨⟨⟨⟨⟨z1,z2⟩,z3⟩,z4⟩,z5⟩,z6⟩:=q
        have y1:C1=C:=by simpa using z1
        have y2:n="ValueError.__new__":=by simpa using z2
        have y3:cd.hasDel=false:=by simpa using z3
        have y6:PySem.W.nsIn K cd.ns "__init__"=some none:=by simpa using z6
        obtain⟨c1,c2,c3,c4,c5,c6,c7,c8,c9,c10,c11⟩:=cd
        have hl:sl= #[a0,a1,a2,a3,some (.builtin n),a5]:=by
          cases sl
          exact congrArg Array.mk hs
        dsimp only at hm y3 y6 z5
        rw [hl,hm,y1,y2,y3]at eX
        exact⟨bm,c4,c1,c5,c2,c6,c7,c8,c9,c10,dd,a0,a1,a2,a3,a5,_,eX,Heap.Ns.of_isNs (PySem.W.isNs_of_in X z5),PySem.W.nsMap_none_of_in X z5 y6,PySem.W.tail_of_in X z4⟩
      . cases q
    . cases q
section
variable {P:Program}{w:World}{K:PySem.W.Frag}{mg:Str->Option Value}{base:Heap}{N:List Str}{qual:Str}{scope:Scope}{f:Addr}{cd:Value}{A:Around}{outer:List Env}{s0:Shared}{H0:Hp}{E:XK}
def Ab9 (C:Addr) (E:XK) (t:TA):TS:=fun _ σ H=>t σ H fun vs H1=>vs.length<=sizeLine/\E (.ref C) none H1
end
theorem Ov {C:Addr}{E:XK}{t:TA}{D:Ends}{σ:St}{H:Hp}:Ab9 C E t D σ H=t σ H (fun vs H1=>vs.length<=sizeLine/\E (.ref C) none H1):=rfl
theorem PS.nox {X:Cx}{st:Stmt}{t:TS} (h:PS X.nox st t):PS X st t:=fun pins s σ H D I hw=>
  wpAny_mono (h pins s σ H D (I.wish _) hw) (fun _ _ q=>q.unwish) fun _ _ z=>False.elim z
def Aee (P:Program) (w:World) (K:PySem.W.Frag) (mg:Str->Option Value) (base:Heap) (k:Nat) (x:Str) (ps:List Str) (sp:Sp):Prop:=
  ∃f fd,Mg P w K mg base (CXE P w) k f fd ps sp/\mg x=some (.ref f)/\PySem.W.keepIn K (.ref f)=true/\Binds K fd ps []
theorem Aee.calm {P:Program}{w:World}{K:PySem.W.Frag}{mg:Str->Option Value}{base:Heap}{k:Nat}{x:Str}{ps:List Str}{sp sp':Sp}
    (C:Aee P w K mg base k x ps sp) (h:∀vs H Q E,sp' vs H Q E->sp vs H Q E0):Cal P w K mg base k x ps sp':=by
  obtain⟨f,fd,G,a,b,c⟩:=C
  refine⟨f,fd,⟨fun vs H Q E z=>G.len vs H Q E0 (h _ _ _ _ z),fun A outer s H args us vs Q E hr he hb hv hs=> ?_⟩,a,b,c⟩
  refine codeAny_mono (G.run A outer s H args us vs Q E0 hr he hb hv (h _ _ _ _ hs)) fun r s' q=> ?_
  cases r with
  | ok fl=>cases fl<;>exact q
  | error e=>
    obtain⟨_,_,_,_,_,_,_,_,_,_,z⟩:=q
    exact z.elim
end L2
namespace L2
open PySem PySem.Spec PyProof.Rows
set_option maxRecDepth 100000
def Abh (sp:Sp) (C:Addr) (g:V->St->St) (i:Nat) (ta:TA) (ts:Addr->Obj->TS):TS:=fun D σ H=>ta σ H fun vs H1=>sp vs H1 (fun v H2=>D.nx (g v σ) H2)
  (fun c _ H2=>c= .ref C/\∀x oe,oe.cls= .ref C->ts x oe { nx:=fun σ' H'=>D.nx (σ'.set i none) H',rt:=D.rt,bk:=fun σ' H'=>D.bk (σ'.set i none) H',ct:=fun σ' H'=>D.ct (σ'.set i none) H'} (σ.set i (some (.ref x))) H2)
def Aeu (sp:Sp) (C:Addr) (g:V->St->St) (ta:TA) (ts:Addr->Obj->TS):TS:=fun D σ H=>ta σ H fun vs H1=>sp vs H1 (fun v H2=>D.nx (g v σ) H2)
  (fun c _ H2=>c= .ref C/\∀x oe,oe.cls= .ref C->ts x oe D σ H2)
theorem Oi {sp:Sp}{C:Addr}{g:V->St->St}{i:Nat}{ta:TA}{ts:Addr->Obj->TS}{D:Ends}{σ:St}{H:Hp}:Abh sp C g i ta ts D σ H=ta σ H (fun vs H1=>sp vs H1 (fun v H2=>D.nx (g v σ) H2)
  (fun c _ H2=>c= .ref C/\∀x oe,oe.cls= .ref C->ts x oe { nx:=fun σ' H'=>D.nx (σ'.set i none) H',rt:=D.rt,bk:=fun σ' H'=>D.bk (σ'.set i none) H',ct:=fun σ' H'=>D.ct (σ'.set i none) H'} (σ.set i (some (.ref x))) H2)):=rfl
theorem Za {sp:Sp}{C:Addr}{g:V->St->St}{ta:TA}{ts:Addr->Obj->TS}{D:Ends}{σ:St}{H:Hp}:Aeu sp C g ta ts D σ H=ta σ H (fun vs H1=>sp vs H1 (fun v H2=>D.nx (g v σ) H2)
  (fun c _ H2=>c= .ref C/\∀x oe,oe.cls= .ref C->ts x oe D σ H2)):=rfl
end L2
namespace L2
open PySem PySem.Spec PyProof.Rows
set_option maxRecDepth 100000
structure Aej (K:PySem.W.Frag) (C:Addr):Prop where
  ga:PySem.W.findIn K (.ref C) "__getattribute__"=some (some (.builtin "BaseException.__getattribute__"))
  gn:PySem.W.findIn K (.ref C) "__getattr__"=some none
  cl:PySem.W.findIn K (.ref C) "__class__"=some (some (.builtin "object.__class__"))
  ob:PySem.W.mroIn K C (.type "object")=some true
  be:PySem.W.mroIn K C (.type "BaseException")=some true
theorem Aej.is {K:PySem.W.Frag}{C:Addr} (Z:Aej K C):(PySem.W.clsIn K C).isSome=true:=by
  obtain⟨cd,a,_⟩:=Option.bind_eq_some_iff.mp Z.ob
  rw [a];rfl
end L2
namespace L2
open PySem PySem.Spec PyProof.Rows
def Br:Expr->Bool
  | .Starred _ _=>false
  | _=>true
theorem Dd {e:Expr}{es:List Expr}{env:Env} (h:Br e=true):starEach (e::es) env=(false,eval e env)::starEach es env:=by
  cases e<;>first | rfl | cases h
theorem Gy {env:Env}{pos:Pos}:∀ {es:List Expr},es.all Br=true->(backTo pos (starEach es env)).any (·.1)=false
  | [],_=>rfl
  | e::es,h=>by
    rw [List.all_cons,Bool.and_eq_true]at h
    rw [Dd h.1]
    have ih:=Gy (env:=env) (pos:=pos) h.2
    unfold backTo at ih ⊢
    rw [List.map_cons,List.any_cons,ih]
    rfl
section
variable {X:Cx}{e:Expr}{es:List Expr}{te:TE}{t:TA}{x:Str}{p pos:Pos}{id T:String}{r:List V->Hp->VK->Prop}{k:Nat}{ps:List Str}{sp:Sp}
theorem Aa (ha:PE X e te) (hr:PA X es t) (h:Br e=true:=by rfl):PA X (e::es) (Xe te t):=Y4 ha hr (Dd h)
theorem Bv (hc:Dv X (.builtin id) r) (hg:Gl X x) (hm:X.mg x=none) (hv:bootBuiltins x=some (.builtin id)) (ha:PA X (e::es) t) (h1:Br e=true:=by rfl) (h2:es.all Br=true:=by rfl) (hn:x≠"__name__":=by decide) (hdb:(x==("__debug__":Str))=false:=by decide):
    PE X (.Call (.Name x p) (e::es) [] pos) (tCB r t):=Wq hc hg hm hv ha hn hdb (Dd h1) (Gy h2)
theorem Ej (hc:Dv X (.type T) r) (hg:Gl X x) (hm:X.mg x=none) (hv:bootBuiltins x=some (.type T)) (ha:PA X (e::es) t) (h1:Br e=true:=by rfl) (h2:es.all Br=true:=by rfl) (hn:x≠"__name__":=by decide) (hdb:(x==("__debug__":Str))=false:=by decide):
    PE X (.Call (.Name x p) (e::es) [] pos) (tCB r t):=Ul hc hg hm hv ha hn hdb (Dd h1) (Gy h2)
theorem Am (C:Cal X.prog X.w X.K X.mg X.base k x ps sp) (hr:Ht k X.A) (ha:PA X (e::es) t) (h1:Br e=true:=by rfl) (h2:es.all Br=true:=by rfl) (hg:Gl X x:=by rfl) (hdb:(x==("__debug__":Str))=false:=by decide):
    PE X (.Call (.Name x p) (e::es) [] pos) (Sv sp [] E0 t):=Xk C hr ha hg hdb (Dd h1) (Gy h2)
end
end L2
namespace L2
open PySem PySem.Spec PyProof.Rows
def Itd (lo:Int) (n:Nat):It:=⟨fun i _=>i<n,fun i H x H'=>H'=H/\x= .int (lo-i),fun i _=>n<=i⟩
section
variable {X:Cx}{tg:Expr}
def Ado (ta:TA):TI:=fun σ H R=>ta σ H fun vs H1=>∃i j:Int,vs=[.int i,.int j,.int (-1)]/\(-(2^62)<=i/\i<2^62/\ -(2^62)<=j/\j<2^62)/\R (Itd i (i-j).toNat) H1
theorem R5 {ta:TA}{σ:St}{H:Hp}{R:It->Hp->Prop}:Ado ta σ H R=ta σ H (fun vs H1=>∃i j:Int,vs=[.int i,.int j,.int (-1)]/\(-(2^62)<=i/\i<2^62/\ -(2^62)<=j/\j<2^62)/\R (Itd i (i-j).toNat) H1):=rfl
theorem Aab {i j:Int}{G:Int->Int->Prop}:(∃i' j':Int,[V.int i,.int j,.int (-1)]=[.int i',.int j',.int (-1)]/\G i' j')=G i j:=propext ⟨fun⟨_,_,e,h⟩=>by cases e;exact h,fun h=>⟨i,j,rfl,h⟩⟩
end
end L2
namespace L2
open PySem PySem.Spec PyProof.Rows
section
variable {X:Cx}{e st:Expr}{te tst:TE}{pos p2:Pos}
def Ada (K:PySem.W.Frag) (te tst:TE):TE:=fun σ H Q=>te σ H fun x H1=>tst σ H1 fun y H2=>∃a xs,x= .ref a/\y= .int (-1)/\SqL K H2 a xs/\∀p,H2 p=none->Q (.ref p) (upd H2 p (.lst xs.reverse))
theorem Ut {K:PySem.W.Frag}{σ:St}{H:Hp}{Q:VK}:Ada K te tst σ H Q=te σ H (fun x H1=>tst σ H1 fun y H2=>∃a xs,x= .ref a/\y= .int (-1)/\SqL K H2 a xs/\∀p,H2 p=none->Q (.ref p) (upd H2 p (.lst xs.reverse))):=rfl
end
end L2
namespace L2
open PySem PySem.Spec PyProof.Rows
theorem X6 {σ:St}{H:Hp}{g:TG}{tb:TS}{D:Ends}{J:It} (n:Nat) (inj:Nat->V) (Pv:Nat->St->Hp->Prop) (h0:Pv 0 σ H) (hw:∀i σ H,Pv i σ H->Aa5 J H (List.range n) inj)
    (hs:∀i σ H,i<n->Pv i σ H->g (inj i) σ H fun σ2 H2=>tb { D with nx:=Pv (i+1),ct:=Pv (i+1),bk:=D.nx} σ2 H2) (hd:∀σ H,Pv n σ H->D.nx σ H):FI J g tb D σ H:=by
  refine Jt (es:=List.range n) (inj:=inj) (fun pre=>Pv pre.length) h0 (fun pre σ H p=>hw pre.length σ H p) (fun pre e post σ H he p=> ?_) (fun σ H p=>hd σ H (by rw [List.length_range]at p;exact p))
  have hl:=congrArg List.length he
  rw [List.length_range,List.length_append,List.length_cons]at hl
  have ee:e=pre.length:=by
    have:=congrArg (fun l=>l[pre.length]?) he
    simp only [List.getElem?_append_right (Nat.le_refl _),Nat.sub_self,List.getElem?_cons_zero]at this
    rw [List.getElem?_range (by omega)]at this
    exact(Option.some.inj this).symm
  subst ee
  have:=hs pre.length σ H (by omega) p
  rw [List.length_append,List.length_singleton]
  exact this
theorem Same.put {H H':Hp}{p:Addr}{o:HO} (s:Same H H') (hp:H p=none):Same H (L2.upd H' p o):=fun b u e=>by
  rw [Av (Ar e hp)]
  exact s b u e
end L2
namespace L2
open PySem PySem.Spec PyProof.Rows
def Ad7 (K:PySem.W.Frag) (tl:TE):TI:=fun σ H R=>tl σ H fun x H1=>∃a,x= .ref a/\(((∃xs,SqL K H1 a xs)/\R (Itl K a) H1)\/((∃xs,SqT K H1 a xs)/\R (Itt K a) H1))
theorem V1 {X:Cx}{tg l:Expr}{tl:TE} (hl:PE X l tl):PI X tg l (Ad7 X.K tl):=by
  intro pins s σ H R I h
  refine thn (hl pins s σ H _ I h) fun v s1 ⟨x,H1,I1,r1,q1⟩=> ?_
  obtain⟨a,e,q1⟩:=q1
  subst e
  cases r1
  have fp:∀b∈ [s1.heap.objs.size],Hs X pins H1 b:=fun b hb=>by
    have e:b=s1.heap.objs.size:=by simpa using hb
    subst e
    exact I1.fpOk (Nat.le_refl _) (I1.hok.fresh (Nat.le_refl _))
  rcases q1 with⟨⟨xs,hq⟩,q⟩ | ⟨⟨xs,hq⟩,q⟩
  . obtain⟨its,rv,p,hz⟩:=I1.list hq
    exact wpAny_pyIter_list p.isList ⟨s1.heap.objs.size,[s1.heap.objs.size],_,_,H1,rfl,I1.kept (t':=s1.toks) fun b o e=>Heap.get?_push_of_some _ e,Mt a _,⟨_,Heap.get?_push_size _ rfl,rfl,rfl⟩,fp,q⟩
  . obtain⟨its,rv,p,hz⟩:=I1.tuple hq
    exact wpAny_pyIter_tuple (show s1.heap.IsTuple a its.toArray from p) ⟨s1.heap.objs.size,[s1.heap.objs.size],_,_,H1,rfl,I1.kept (t':=s1.toks) fun b o e=>Heap.get?_push_of_some _ e,Kc a _,⟨_,Heap.get?_push_size _ rfl,rfl,rfl⟩,fp,q⟩
theorem Ub {K:PySem.W.Frag}{tl:TE}{σ:St}{H:Hp}{R:It->Hp->Prop}:Ad7 K tl σ H R=tl σ H (fun x H1=>∃a,x= .ref a/\(((∃xs,SqL K H1 a xs)/\R (Itl K a) H1)\/((∃xs,SqT K H1 a xs)/\R (Itt K a) H1))):=rfl
end L2
namespace L2
open PySem PySem.Spec PyProof.Rows
theorem Tz {X:Cx} (K:PySem.W.Frag) (h:X.K=K:=by rfl):Dv X (.builtin "isinstance") (fun xs H Q=>∃x t T b,xs=[x,.ty T]/\M9 K H x t/\PySem.W.kitOne K t (.type T)=some b/\Q (.bl b) H):=by
  subst h
  exact Ih
end L2
namespace L2
theorem Je {t u:TS}{D:Ends}{σ:St}{H:Hp} (P:St->Hp->Prop) (h1:∀N:St->Hp->Prop,(∀σ' H',P σ' H'->N σ' H')->t { D with nx:=N} σ H) (h2:∀σ' H',P σ' H'->u D σ' H'):Acq t u D σ H:=h1 (u D) h2
end L2
namespace L2
open PySem PySem.Spec PyProof.Rows
def Itz (K:PySem.W.Frag) (a b:Addr):It:=
  ⟨fun i H=>∃xs ys x y,SqL K H a xs/\SqL K H b ys/\xs[i]? =some x/\ys[i]? =some y,
   fun i H x H'=>∃p u v,(∀xs,SqL K H a xs->xs[i]? =some u)/\(∀ys,SqL K H b ys->ys[i]? =some v)/\H p=none/\x= .ref p/\H'=upd H p (.tup [u,v]),
   fun i H=>∃xs ys,SqL K H a xs/\SqL K H b ys/\(xs.length<=i\/ys.length<=i)⟩
section
variable {X:Cx}{a b:Expr}{ta:TA}{el:List Expr}{x1}{tp p pos:Pos}
def Aen (K:PySem.W.Frag) (ta:TA):TI:=fun σ H R=>ta σ H fun vs H1=>∃a b,vs=[.ref a,.ref b]/\(∃xs,SqL K H1 a xs)/\(∃ys,SqL K H1 b ys)/\R (Itz K a b) H1
end
theorem V6 {K:PySem.W.Frag}{ta:TA}{σ:St}{H:Hp}{R:It->Hp->Prop}:Aen K ta σ H R=ta σ H (fun vs H1=>∃a b,vs=[.ref a,.ref b]/\(∃xs,SqL K H1 a xs)/\(∃ys,SqL K H1 b ys)/\R (Itz K a b) H1):=rfl
end L2
namespace L2
open PySem PySem.SeqAt PySem.Spec PyProof.Rows
section
variable {X:Cx}
theorem Tr:OpR X (compareOp .IsNot) (fun x y H Q=>∃a b:Bool,x= .bl a/\y= .bl b/\Q (.bl (a != b)) H):=by
  intro pins s σ H x y v u Q I rx ry h
  obtain⟨a,b,rfl,rfl,q⟩:=h
  cases rx
  cases ry
  exact isnot_bool ⟨.bl _,H,I,rfl,q⟩
open Classical in
def Yz:TE:=fun _ H Q=>∀p,H p=none->Q (.ref p) (upd H p (.dK []))
theorem Ld {pos:Pos}:PE X (.Dict [] [] pos) Yz:=fun pins s σ H Q I h=>by
  have hb:sysModules<s.heap.objs.size:=Nat.lt_trans (by decide) (show mainGlobals<s.heap.objs.size from(I.mod.glob.keeps I.bk).lt)
  exact wpAny_Dict_empty ⟨.ref s.heap.objs.size,_,I.laid (a:=s.heap.objs.size) (o:= .dK []) (t':=s.toks) (fun _ _ q=>Heap.get?_push_of_some _ q) (Nat.le_refl _) ⟨Nat.zero_le _,beq_eq_false_iff_ne.mpr (Ne.symm (Nat.ne_of_lt hb)),[],.nil,Heap.DictOf.new s.heap⟩,rfl,h _ (I.hok.fresh (Nat.le_refl _))⟩
theorem Vr {σ:St}{H:Hp}{Q:VK}:Yz σ H Q=∀p,H p=none->Q (.ref p) (upd H p (.dK [])):=rfl
end
end L2
namespace L2
open PySem PySem.Spec PyProof.Rows
def tCV (i:Nat) (a:Addr) (sp:Sp) (E:XK) (t:TA):TE:=fun σ H Q=>σ[i]? =some (some (.ref a))/\t σ H fun vs H1=>sp vs H1 Q E
theorem Aea {i:Nat}{a:Addr}{sp:Sp}{E:XK}{t:TA}{σ:St}{H:Hp}{Q:VK}:tCV i a sp E t σ H Q=(σ[i]? =some (some (.ref a))/\t σ H fun vs H1=>sp vs H1 Q E):=rfl
theorem Rn {X:Cx}{i k:Nat}{a:Addr}{x y:Str}{ps:List Str}{sp:Sp}{p pos:Pos}{e:Expr}{es:List Expr}{t:TA} (C:Cal X.prog X.w X.K X.mg X.base k y ps sp) (hy:X.mg y=some (.ref a)) (hr:Ht k X.A)
    (hx:PE X (.Name x p) (Yd i)) (ha:PA X (e::es) t) (h1:Br e=true:=by rfl) (h2:es.all Br=true:=by rfl):PE X (.Call (.Name x p) (e::es) [] pos) (tCV i a sp E0 t):=by
  obtain⟨f,fd,G,g,b,c⟩:=C
  have ef:f=a:=by rw [hy]at g;cases g;rfl
  subst ef
  intro pins s σ H Q I h
  obtain⟨hv,h⟩:=h
  refine wpAny_Call_Name_kw (thn (hx pins s σ H (fun v H1=>v= .ref f/\H1=H) I ⟨_,hv,rfl,rfl⟩) fun u s1 ⟨v,H1,I1,r,e1,e2⟩=> ?_)
  subst e1 e2
  cases r
  refine PySem.W.callWith_K (h₀:=X.base) I1.ok.mod.kin b (thn (ha pos pins s1 σ H1 _ I1 h) fun us s2 ⟨vs,H2,I2,r2,q⟩=>⟨I2.kIn,?_⟩) (Dd h1) (Gy h2)
  have q':sp (vs++ []) H2 Q E0:=by rw [List.append_nil];exact q
  exact Xz G hr c .nil Abl I2 r2 q'
end L2
namespace L2
open PySem PySem.Spec PyProof.Rows
def Ael (K:PySem.W.Frag) (a:Addr):It:=
  ⟨fun i H=>∃xs x,SqL K H a xs/\xs[i]? =some x,fun i H x H'=>∃p v,(∀xs,SqL K H a xs->xs[i]? =some v)/\H p=none/\x= .ref p/\H'=upd H p (.tup [.int (i:Nat),v]),fun i H=>∃xs,SqL K H a xs/\xs.length<=i⟩
section
variable {X:Cx}{a:Expr}{ta:TA}{el:List Expr}{x1}{tp p pos:Pos}
def Aes (K:PySem.W.Frag) (ta:TA):TI:=fun σ H R=>ta σ H fun vs H1=>∃a,vs=[.ref a]/\(∃xs,SqL K H1 a xs)/\R (Ael K a) H1
end
theorem V8 {K:PySem.W.Frag}{σ:St}{H:Hp}{ta:TA}{R:It->Hp->Prop}:Aes K ta σ H R=ta σ H (fun vs H1=>∃a,vs=[.ref a]/\(∃xs,SqL K H1 a xs)/\R (Ael K a) H1):=rfl
end L2
namespace L2
open PySem PySem.Spec PyProof.Rows
def Ad5 (sp:Sp) (Cs:List Addr) (g:V->St->St) (i:Nat) (ta:TA) (ts:Addr->Addr->Obj->TS):TS:=fun D σ H=>ta σ H fun vs H1=>sp vs H1 (fun v H2=>D.nx (g v σ) H2)
  (fun c _ H2=>∃C,c= .ref C/\C∈Cs/\∀x oe,oe.cls= .ref C->ts C x oe { nx:=fun σ' H'=>D.nx (σ'.set i none) H',rt:=D.rt,bk:=fun σ' H'=>D.bk (σ'.set i none) H',ct:=fun σ' H'=>D.ct (σ'.set i none) H'} (σ.set i (some (.ref x))) H2)
theorem Vz {sp:Sp}{Cs:List Addr}{g:V->St->St}{i:Nat}{ta:TA}{ts:Addr->Addr->Obj->TS}{D:Ends}{σ:St}{H:Hp}:Ad5 sp Cs g i ta ts D σ H=ta σ H (fun vs H1=>sp vs H1 (fun v H2=>D.nx (g v σ) H2)
  (fun c _ H2=>∃C,c= .ref C/\C∈Cs/\∀x oe,oe.cls= .ref C->ts C x oe { nx:=fun σ' H'=>D.nx (σ'.set i none) H',rt:=D.rt,bk:=fun σ' H'=>D.bk (σ'.set i none) H',ct:=fun σ' H'=>D.ct (σ'.set i none) H'} (σ.set i (some (.ref x))) H2)):=rfl
def Ads (sp:Sp) (Cs:List Addr) (g:V->St->St) (ta:TA) (ts:Addr->Addr->Obj->TS):TS:=fun D σ H=>ta σ H fun vs H1=>sp vs H1 (fun v H2=>D.nx (g v σ) H2)
  (fun c _ H2=>∃C,c= .ref C/\C∈Cs/\∀x oe,oe.cls= .ref C->ts C x oe D σ H2)
theorem Vi {sp:Sp}{Cs:List Addr}{g:V->St->St}{ta:TA}{ts:Addr->Addr->Obj->TS}{D:Ends}{σ:St}{H:Hp}:Ads sp Cs g ta ts D σ H=ta σ H (fun vs H1=>sp vs H1 (fun v H2=>D.nx (g v σ) H2)
  (fun c _ H2=>∃C,c= .ref C/\C∈Cs/\∀x oe,oe.cls= .ref C->ts C x oe D σ H2)):=rfl
end L2
namespace L2
open PySem PySem.Spec PyProof.Rows
def It1 (t:Bool) (h:Heap) (j u:Addr) (k:Nat):Prop:=if t=true then h.IsTupleIter j u k else h.IsListIter j u k
def Sq1 (t:Bool) (h:Heap) (u:Addr) (xs:Array Value):Prop:=if t=true then h.IsTuple u xs else h.IsList u xs
theorem It1.ext {t:Bool}{h g:Heap}{j u b:Addr}{k:Nat} (x:It1 t h j u k) (e:Heap.ExtBut b h g) (n:j≠b):It1 t g j u k:=by
  cases t
  . exact Heap.IsListIter.extBut x e n
  . exact Heap.IsTupleIter.extBut x e n
theorem It1.to {t:Bool}{h g:Heap}{j u:Addr}{k:Nat} (x:It1 t h j u k) (e:∀o,h.get? j=some o->g.get? j=some o):It1 t g j u k:=by
  cases t
  . exact Heap.IsListIter.at x e
  . exact Heap.IsTupleIter.at x e
theorem Sq1.ext {t:Bool}{h g:Heap}{u b:Addr}{xs:Array Value} (x:Sq1 t h u xs) (e:Heap.ExtBut b h g) (n:u≠b):Sq1 t g u xs:=by
  cases t
  . exact Heap.IsList.extBut x e n
  . exact Heap.IsTuple.extBut x e n
theorem It1.there {t:Bool}{h:Heap}{j u:Addr}{k:Nat} (x:It1 t h j u k):∃o,h.get? j=some o/\∀v,o.data≠ .cell v:=by
  cases t
  . obtain⟨o,e,_,d⟩:=(show h.IsListIter j u k from x)
    exact⟨o,e,fun v z=>by rw [d]at z;cases z⟩
  . obtain⟨o,e,_,d⟩:=(show h.IsTupleIter j u k from x)
    exact⟨o,e,fun v z=>by rw [d]at z;cases z⟩
section
variable {prog:Program}{w:World}{A:Around}{E:Value->Shared->Prop}{s:Shared}
theorem Aam {t:Bool}{j u:Addr}{k:Nat}{xs:Array Value}{y:Value}{Q:Value->Shared->Prop} (hj:It1 t s.heap j u k) (hu:Sq1 t s.heap u xs) (hy:xs[k]? =some y)
    (c:∀g,It1 t g j u (k+1)->Heap.SameBut j s.heap g->Q y { s with heap:=g}):wpAny (model prog w) A (Builtin.SmallTypes.nextOf (.ref j)) Q E s:=by
  cases t
  . exact wpAny_nextOf_list_item hj hu hy c
  . exact nextT hj hu hy c
theorem Mr {t:Bool}{j u:Addr}{k:Nat}{xs:Array Value}{Q:Value->Shared->Prop} (hh:A.handled=none) (hj:It1 t s.heap j u k) (hu:Sq1 t s.heap u xs) (hy:xs[k]? =none)
    (c:∀g e,Heap.ExtBut j s.heap g->(∃o,g.get? e=some o/\o.cls= .type "StopIteration")->E (.ref e) { s with heap:=g}):wpAny (model prog w) A (Builtin.SmallTypes.nextOf (.ref j)) Q E s:=by
  cases t
  . exact wpAny_nextOf_list_end hh hj hu hy c
  . exact Mv hh hj hu hy c
theorem Ui {t1 t2:Bool}{zz TI TO i1 i2 u1 u2:Addr}{k1 k2:Nat}{xs ys:Array Value}{x y p q:Value}{Q:Value->Shared->Prop} (D:ZipApart zz TI TO i1 i2 u1 u2)
    (hz:IsZip s.heap zz TI TO .none) (hTI:IsPair s.heap TI (.ref i1) (.ref i2)) (hTO:IsPair s.heap TO p q) (j1:It1 t1 s.heap i1 u1 k1) (j2:It1 t2 s.heap i2 u2 k2) (a1:Sq1 t1 s.heap u1 xs) (a2:Sq1 t2 s.heap u2 ys) (hx:xs[k1]? =some x) (hy:ys[k2]? =some y)
    (c:∀g,IsZip g zz TI TO (rawInt s.heap.objs.size)->IsPair g TO x y->It1 t1 g i1 u1 (k1+1)->It1 t2 g i2 u2 (k2+1)->IsPair g s.heap.objs.size x y->g.objs.size=s.heap.objs.size+1->
      (∀b o,b≠zz->b≠TO->b≠i1->b≠i2->s.heap.get? b=some o->g.get? b=some o)->Q (.ref s.heap.objs.size) { s with heap:=g}):
    wpAny (model prog w) A (Builtin.«zip.__next__» ⟨[.ref zz],[]⟩) (fun fin s'=>∃v,fin= .done (.ret v)/\Q v s') E s:=by
  show wpAny _ _ (field (.ref zz) 2>>=_) _ _ s
  refine wpAny_bind (wpAny_field hz rfl (x:= .bool false) rfl ?z1)
  case z1=>
  show wpAny _ _ (field (.ref zz) 3>>=_) _ _ s
  refine wpAny_bind (wpAny_field hz rfl (x:= .ref TI) rfl (wpAny_bind (wpAny_seqItems hTI rfl ?z2)))
  case z2=>
  show wpAny _ _ (Builtin.SmallTypes.ownedTupleIsFree (.ref zz)>>=_) _ _ s
  refine wpAny_bind (m:=Builtin.SmallTypes.ownedTupleIsFree (.ref zz)) ?z3
  case z3=>
  unfold Builtin.SmallTypes.ownedTupleIsFree;refine wpAny_bind (wpAny_field hz rfl (x:= .none) rfl (wpAny_pure ?z4))
  case z4=>
  simp only [if_true];refine wpAny_bind (wpAny_rule (wpAny_bind (wpAny_field hz rfl (x:= .ref TO) rfl (wpAny_bind (wpAny_setField_rec hz (by simp) fun g1 (z1:IsZip g1 zz TI TO .ellipsis) b1=> ?z5)))))
  case z5=>
  refine wpAny_bind ?z6
  case z6=>
  simp only [List.forIn_cons,List.forIn_nil,List.zipIdx_cons,List.zipIdx_nil]
  refine wpAny_bind (wpAny_bind (wpAny_onRaise ?z7))
  case z7=>
  show wpAny _ _ (Builtin.SmallTypes.nextOf (.ref i1)>>=_) _ _ { s with heap:=g1}
  refine wpAny_bind (Aam (j1.ext b1.extBut D.i1z) (a1.ext b1.extBut D.l1z) hx fun g2 n1 b2=>wpAny_pure ?z8)
  case z8=>
  have o2:IsPair g2 TO p q:=b2.extBut _ _ D.TOi1 (b1.extBut _ _ D.TOz hTO)
  refine wpAny_bind (wpAny_seqItems o2 rfl (wpAny_bind (wpAny_updateSeq_pair o2 fun g3 (o3:IsPair g3 TO x q) b3=>wpAny_bind (wpAny_letGo (wpAny_pure (wpAny_bind (wpAny_bind (wpAny_onRaise ?z9))))))))
  case z9=>
  show wpAny _ _ (Builtin.SmallTypes.nextOf (.ref i2)>>=_) _ _ { s with heap:=g3}
  refine wpAny_bind (Aam (((j2.ext b1.extBut D.i2z).ext b2.extBut D.i12.symm).ext b3.extBut D.TOi2.symm) (((a2.ext b1.extBut D.l2z).ext b2.extBut D.l2i1).ext b3.extBut D.l2TO) hy fun g4 n2 b4=>wpAny_pure ?z10)
  case z10=>
  have o4:IsPair g4 TO x q:=b4.extBut _ _ D.TOi2 o3
  refine wpAny_bind (wpAny_seqItems o4 rfl (wpAny_bind (wpAny_updateSeq_pair o4 fun g5 (o5:IsPair g5 TO x y) b5=>wpAny_bind (wpAny_letGo (wpAny_pure (wpAny_pure (wpAny_bind (wpAny_seqItems o5 rfl (wpAny_bind (wpAny_newTuple ?z11))))))))))
  case z11=>
  have sz:g5.objs.size=s.heap.objs.size:=by rw [b5.1,b4.1,b3.1,b2.1,b1.1]
  have z5:IsZip g5 zz TI TO .ellipsis:=b5.extBut _ _ D.TOz.symm (b4.extBut _ _ D.i2z.symm (b3.extBut _ _ D.TOz.symm (b2.extBut _ _ D.i1z.symm z1)))
  have k5:∀b o,b≠zz->b≠TO->b≠i1->b≠i2->s.heap.get? b=some o->g5.get? b=some o:=fun b o c1 c2 c3 c4 e=>b5.extBut _ _ c2 (b4.extBut _ _ c4 (b3.extBut _ _ c2 (b2.extBut _ _ c3 (b1.extBut _ _ c1 e))))
  have m1:It1 t1 g5 i1 u1 (k1+1):=((n1.ext b3.extBut D.TOi1.symm).ext b4.extBut D.i12).ext b5.extBut D.TOi1.symm
  have m2:It1 t2 g5 i2 u2 (k2+1):=n2.ext b5.extBut D.TOi2.symm
  have zlt:zz<g5.objs.size:=Heap.lt_size z5
  show wpAny _ _ (Builtin.SmallTypes.ownedTupleHandOut (.ref zz) (.ref g5.objs.size)>>=_) _ _ _
  refine wpAny_bind (m:=Builtin.SmallTypes.ownedTupleHandOut (.ref zz) (.ref g5.objs.size)) ?z12
  case z12=>
  unfold Builtin.SmallTypes.ownedTupleHandOut
  have z6:IsZip (g5.push { cls:= .type "tuple",data:= .seq #[x,y]}) zz TI TO .ellipsis:=Heap.get?_push_of_some _ z5
  refine wpAny_bind (wpAny_setField_rec z6 (by simp) fun g7 (z7:IsZip g7 zz TI TO (rawInt g5.objs.size)) b7=>wpAny_setField_rec z7 (by simp) fun g8 (z8:IsZip g8 zz TI TO (rawInt g5.objs.size)) b8=> ?z13)
  case z13=>
  have up:∀b o,b≠zz->g5.get? b=some o->g8.get? b=some o:=fun b o c1 e=>b8.extBut _ _ c1 (b7.extBut _ _ c1 (Heap.get?_push_of_some _ e))
  have t8:IsPair g8 g5.objs.size x y:=b8.extBut _ _ (Nat.ne_of_gt zlt) (b7.extBut _ _ (Nat.ne_of_gt zlt) (Heap.get?_push_size _ rfl))
  have w8:g8.objs.size=g5.objs.size+1:=by rw [b8.1,b7.1,Heap.size_push]
  rw [sz]at z8 t8 w8
  refine wpAny_pure ⟨_,rfl,?z14⟩
  case z14=>
  show Q (.ref g5.objs.size) _
  rw [sz]
  exact c g8 z8 (up _ _ D.TOz o5) (m1.to fun o e=>up _ o D.i1z e) (m2.to fun o e=>up _ o D.i2z e) t8 w8 fun b o c1 c2 c3 c4 e=>up b o c1 (k5 b o c1 c2 c3 c4 e)
theorem Ww {t1 t2:Bool}{zz TI TO i1 i2 u1 u2:Addr}{k1 k2:Nat}{xs ys:Array Value}{p q:Value}{Q:Fin->Shared->Prop} (hh:A.handled=none) (D:ZipApart zz TI TO i1 i2 u1 u2)
    (hz:IsZip s.heap zz TI TO .none) (hTI:IsPair s.heap TI (.ref i1) (.ref i2)) (hTO:IsPair s.heap TO p q) (j1:It1 t1 s.heap i1 u1 k1) (j2:It1 t2 s.heap i2 u2 k2) (a1:Sq1 t1 s.heap u1 xs) (a2:Sq1 t2 s.heap u2 ys) (he:xs[k1]? =none\/ys[k2]? =none)
    (c:∀g e,(∀b o,b≠zz->b≠TO->b≠i1->b≠i2->s.heap.get? b=some o->g.get? b=some o)->(∃o,g.get? e=some o/\o.cls= .type "StopIteration")->E (.ref e) { s with heap:=g}):
    wpAny (model prog w) A (Builtin.«zip.__next__» ⟨[.ref zz],[]⟩) Q E s:=by
  show wpAny _ _ (field (.ref zz) 2>>=_) _ _ s
  refine wpAny_bind (wpAny_field hz rfl (x:= .bool false) rfl ?z1)
  case z1=>
  show wpAny _ _ (field (.ref zz) 3>>=_) _ _ s
  refine wpAny_bind (wpAny_field hz rfl (x:= .ref TI) rfl (wpAny_bind (wpAny_seqItems hTI rfl ?z2)))
  case z2=>
  show wpAny _ _ (Builtin.SmallTypes.ownedTupleIsFree (.ref zz)>>=_) _ _ s
  refine wpAny_bind (m:=Builtin.SmallTypes.ownedTupleIsFree (.ref zz)) ?z3
  case z3=>
  unfold Builtin.SmallTypes.ownedTupleIsFree;refine wpAny_bind (wpAny_field hz rfl (x:= .none) rfl (wpAny_pure ?z4))
  case z4=>
  simp only [if_true];refine wpAny_bind (wpAny_rule (wpAny_bind (wpAny_field hz rfl (x:= .ref TO) rfl (wpAny_bind (wpAny_setField_rec hz (by simp) fun g1 (z1:IsZip g1 zz TI TO .ellipsis) b1=> ?z5)))))
  case z5=>
  refine wpAny_bind ?z6
  case z6=>
  simp only [List.forIn_cons,List.forIn_nil,List.zipIdx_cons,List.zipIdx_nil]
  refine wpAny_bind (wpAny_bind (wpAny_onRaise ?z7))
  case z7=>
  show wpAny _ _ (Builtin.SmallTypes.nextOf (.ref i1)>>=_) _ _ { s with heap:=g1}
  cases hx:xs[k1]? with
  | none=>
    refine wpAny_bind (Mr hh (j1.ext b1.extBut D.i1z) (a1.ext b1.extBut D.l1z) hx fun g2 e b2 ⟨oe,hoe,hce⟩=> ?_)
    have z2:IsZip g2 zz TI TO .ellipsis:=b2 _ _ D.i1z.symm z1
    have ne:e≠zz:=fun y=>by subst y;rw [z2]at hoe;cases hoe;simp at hce
    exact wpAny_setField_rec z2 (by simp) fun g3 _ b3=>c g3 e (fun b o c1 _ c3 _ y=>b3.extBut _ _ c1 (b2 _ _ c3 (b1.extBut _ _ c1 y))) ⟨oe,b3.extBut _ _ ne hoe,hce⟩
  | some x=>
    have hy:ys[k2]? =none:=by
      rcases he with h | h
      . rw [hx]at h;cases h
      . exact h
    refine wpAny_bind (Aam (j1.ext b1.extBut D.i1z) (a1.ext b1.extBut D.l1z) hx fun g2 n1 b2=>wpAny_pure ?_)
    have o2:IsPair g2 TO p q:=b2.extBut _ _ D.TOi1 (b1.extBut _ _ D.TOz hTO)
    refine wpAny_bind (wpAny_seqItems o2 rfl (wpAny_bind (wpAny_updateSeq_pair o2 fun g3 o3 b3=>wpAny_bind (wpAny_letGo (wpAny_pure (wpAny_bind (wpAny_bind (wpAny_onRaise ?z9))))))))
    case z9=>
    show wpAny _ _ (Builtin.SmallTypes.nextOf (.ref i2)>>=_) _ _ { s with heap:=g3}
    refine wpAny_bind (Mr hh (((j2.ext b1.extBut D.i2z).ext b2.extBut D.i12.symm).ext b3.extBut D.TOi2.symm) (((a2.ext b1.extBut D.l2z).ext b2.extBut D.l2i1).ext b3.extBut D.l2TO) hy fun g4 e b4 ⟨oe,hoe,hce⟩=> ?_)
    have z4:IsZip g4 zz TI TO .ellipsis:=b4 _ _ D.i2z.symm (b3.extBut _ _ D.TOz.symm (b2.extBut _ _ D.i1z.symm z1))
    have ne:e≠zz:=fun y=>by subst y;rw [z4]at hoe;cases hoe;simp at hce
    exact wpAny_setField_rec z4 (by simp) fun g5 _ b5=>c g5 e (fun b o c1 c2 c3 c4 y=>b5.extBut _ _ c1 (b4 _ _ c4 (b3.extBut _ _ c2 (b2.extBut _ _ c3 (b1.extBut _ _ c1 y))))) ⟨oe,b5.extBut _ _ ne hoe,hce⟩
theorem Uz {t1 t2:Bool}{zz TI TO i1 i2 u1 u2:Addr}{k1 k2:Nat}{xs ys:Array Value}{x y p q:Value}{Q:Option Value->Shared->Prop} (D:ZipApart zz TI TO i1 i2 u1 u2)
    (hz:IsZip s.heap zz TI TO .none) (hTI:IsPair s.heap TI (.ref i1) (.ref i2)) (hTO:IsPair s.heap TO p q) (j1:It1 t1 s.heap i1 u1 k1) (j2:It1 t2 s.heap i2 u2 k2) (a1:Sq1 t1 s.heap u1 xs) (a2:Sq1 t2 s.heap u2 ys) (hx:xs[k1]? =some x) (hy:ys[k2]? =some y)
    (c:∀g,IsZip g zz TI TO (rawInt s.heap.objs.size)->IsPair g TO x y->It1 t1 g i1 u1 (k1+1)->It1 t2 g i2 u2 (k2+1)->IsPair g s.heap.objs.size x y->g.objs.size=s.heap.objs.size+1->
      (∀b o,b≠zz->b≠TO->b≠i1->b≠i2->s.heap.get? b=some o->g.get? b=some o)->Q (some (.ref s.heap.objs.size)) { s with heap:=g}):wpAny (model prog w) A (pyNext (.ref zz)) Q E s:=by
  have ty:s.TypeIs (.ref zz) "zip":=⟨_,hz,rfl⟩
  unfold pyNext
  exact wpAny_bind (wpAny_attempt (wpAny_callSpecial?_slot (name:=Str.ofString "__next__") ty F.slot_zip_next (wpAny_call_entry F.slot_zip_next ty F.entry_zip_next
    (Ui D hz hTI hTO j1 j2 a1 a2 hx hy fun g b1 b2 b3 b4 b5 b6 b7=>wpAny_pure (c g b1 b2 b3 b4 b5 b6 b7)) (F.args_zip_next_1 _))))
theorem S8 {t1 t2:Bool}{zz TI TO i1 i2 u1 u2:Addr}{k1 k2:Nat}{xs ys:Array Value}{p q:Value}{Q:Option Value->Shared->Prop} (hh:A.handled=none) (D:ZipApart zz TI TO i1 i2 u1 u2)
    (hz:IsZip s.heap zz TI TO .none) (hTI:IsPair s.heap TI (.ref i1) (.ref i2)) (hTO:IsPair s.heap TO p q) (j1:It1 t1 s.heap i1 u1 k1) (j2:It1 t2 s.heap i2 u2 k2) (a1:Sq1 t1 s.heap u1 xs) (a2:Sq1 t2 s.heap u2 ys) (he:xs[k1]? =none\/ys[k2]? =none)
    (c:∀g,(∀b o,b≠zz->b≠TO->b≠i1->b≠i2->s.heap.get? b=some o->g.get? b=some o)->Q none { s with heap:=g}):wpAny (model prog w) A (pyNext (.ref zz)) Q E s:=by
  have ty:s.TypeIs (.ref zz) "zip":=⟨_,hz,rfl⟩
  unfold pyNext
  refine wpAny_bind (wpAny_attempt (wpAny_callSpecial?_slot (name:=Str.ofString "__next__") ty F.slot_zip_next (wpAny_call_entry F.slot_zip_next ty F.entry_zip_next (Ww hh D hz hTI hTO j1 j2 a1 a2 he fun g e hk ⟨o,ho,hc⟩=> ?_) (F.args_zip_next_1 _))))
  exact wpAny_bind (wpAny_isInstance (T:="StopIteration") (b:=true) ⟨o,ho,hc⟩ isSubtype_stop (wpAny_pure (c _ hk)))
end
def Acm (t:Bool):String:=if t=true then "tuple_iterator" else "list_iterator"
abbrev Nm (t:Bool) (u:Addr):Obj:={ cls:= .type (Acm t),data:= .fields #[.ref u,.int 0 0]}
theorem iter1 {prog:Program}{w:World}{A:Around}{E:Value->Shared->Prop}{s:Shared}{t:Bool}{u:Addr}{xs:Array Value}{Q:Value->Shared->Prop} (h:Sq1 t s.heap u xs) (q:Q (.ref s.heap.objs.size) { s with heap:=s.heap.push (Nm t u)}):wpAny (model prog w) A (pyIter (.ref u)) Q E s:=by
  cases t
  . exact wpAny_pyIter_list h q
  . exact wpAny_pyIter_tuple h q
theorem Uu {t:Bool}{u j:Addr}{g:Heap} (e:g.get? j=some (Nm t u)):It1 t g j u 0:=by
  cases t
  . exact⟨_,e,rfl,rfl⟩
  . exact⟨_,e,rfl,rfl⟩
theorem Sq1.push {t:Bool}{h:Heap}{u:Addr}{xs:Array Value} (x:Sq1 t h u xs) (o:Obj):Sq1 t (h.push o) u xs:=by
  cases t
  . exact Heap.IsList.push x _
  . obtain⟨ob,e,r⟩:=(show h.IsTuple u xs from x)
    exact⟨ob,Heap.get?_push_of_some _ e,r⟩
abbrev zA1 (t1:Bool) (h:Heap) (u1:Addr):Heap:=h.push (Nm t1 u1)
abbrev zA2 (t1 t2:Bool) (h:Heap) (u1 u2:Addr):Heap:=(zA1 t1 h u1).push (Nm t2 u2)
abbrev zA3 (t1 t2:Bool) (h:Heap) (u1 u2:Addr):Heap:=(zA2 t1 t2 h u1 u2).push { cls:= .type "tuple",data:= .seq #[.ref h.objs.size,.ref (zA1 t1 h u1).objs.size]}
abbrev zA4 (t1 t2:Bool) (h:Heap) (u1 u2:Addr):Heap:=(zA3 t1 t2 h u1 u2).push { cls:= .type "tuple",data:= .seq #[.none,.none]}
abbrev zA5 (t1 t2:Bool) (h:Heap) (u1 u2:Addr):Heap:=(zA4 t1 t2 h u1 u2).push { cls:= .type "zip",data:= .fields #[.none,.bool false,.bool false,.ref (zA2 t1 t2 h u1 u2).objs.size,.ref (zA3 t1 t2 h u1 u2).objs.size]}
theorem Rb (t1 t2:Bool) (u1 u2:Addr) (xs ys:Array Value):
    Meets (Builtin.«zip.__new__» ⟨[.type "zip",.ref u1,.ref u2],[]⟩) (fun _ R s=>Sq1 t1 s.heap u1 xs/\Sq1 t2 s.heap u2 ys/\R (.ok (.ret (.ref (zA4 t1 t2 s.heap u1 u2).objs.size))) { s with heap:=zA5 t1 t2 s.heap u1 u2}):=
  .of_wp fun prog w A R s h=>by
    obtain⟨hp,g,d,tk,os⟩:=s;obtain⟨b1,b2,h⟩:=h
    have su:=sub_zip
    have L1:Sq1 t1 (Shared.heap ⟨hp,g,d,tk,os⟩) u1 xs:=b1
    have L2:Sq1 t2 (Shared.heap ⟨hp.push (Nm t1 u1),g,d,tk,os⟩) u2 ys:=b2.push _
    wp_walk using iter1 L1,iter1 L2
    exact⟨_,rfl,h⟩
theorem Vv {prog:Program}{w:World}{A:Around}{E:Value->Shared->Prop}{s:Shared}{t1 t2:Bool}{u1 u2:Addr}{xs ys:Array Value}{Q:Value->Shared->Prop} (b1:Sq1 t1 s.heap u1 xs) (b2:Sq1 t2 s.heap u2 ys)
    (c:∀g,IsZip g (s.heap.objs.size+4) (s.heap.objs.size+2) (s.heap.objs.size+3) .none->IsPair g (s.heap.objs.size+2) (.ref s.heap.objs.size) (.ref (s.heap.objs.size+1))->IsPair g (s.heap.objs.size+3) .none .none->
      It1 t1 g s.heap.objs.size u1 0->It1 t2 g (s.heap.objs.size+1) u2 0->(∀b o,s.heap.get? b=some o->g.get? b=some o)->Q (.ref (s.heap.objs.size+4)) { s with heap:=g}):wpAny (model prog w) A (call (.type "zip") [.ref u1,.ref u2]) Q E s:=by
  refine callType_new F.called_zip (by decide) (F.typeCall_zip_2 _ _) (F.newCall_zip_2 _ _) (fun obj=>F.args_object_init_3 obj _ _) F.entry_zip_new (Rb t1 t2 u1 u2 xs ys) ⟨b1,b2,?_⟩
  have w1:(zA1 t1 s.heap u1).objs.size=s.heap.objs.size+1:=Heap.size_push ..
  have w2:(zA2 t1 t2 s.heap u1 u2).objs.size=s.heap.objs.size+2:=by rw [Heap.size_push,w1]
  have w3:(zA3 t1 t2 s.heap u1 u2).objs.size=s.heap.objs.size+3:=by rw [Heap.size_push,w2]
  have w4:(zA4 t1 t2 s.heap u1 u2).objs.size=s.heap.objs.size+4:=by rw [Heap.size_push,w3]
  have e5:(zA5 t1 t2 s.heap u1 u2).get? (zA4 t1 t2 s.heap u1 u2).objs.size=some _:=Heap.get?_push_size _ rfl
  have e4:(zA5 t1 t2 s.heap u1 u2).get? (zA3 t1 t2 s.heap u1 u2).objs.size=some _:=Heap.get?_push_of_some _ (Heap.get?_push_size _ rfl)
  have e3:(zA5 t1 t2 s.heap u1 u2).get? (zA2 t1 t2 s.heap u1 u2).objs.size=some _:=Heap.get?_push_of_some _ (Heap.get?_push_of_some _ (Heap.get?_push_size _ rfl))
  have e2:(zA5 t1 t2 s.heap u1 u2).get? (zA1 t1 s.heap u1).objs.size=some (Nm t2 u2):=Heap.get?_push_of_some _ (Heap.get?_push_of_some _ (Heap.get?_push_of_some _ (Heap.get?_push_size _ rfl)))
  have e1:(zA5 t1 t2 s.heap u1 u2).get? s.heap.objs.size=some (Nm t1 u1):=Heap.get?_push_of_some _ (Heap.get?_push_of_some _ (Heap.get?_push_of_some _ (Heap.get?_push_of_some _ (Heap.get?_push_size _ rfl))))
  show _/\_
  rw [w2,w3,w4]at e5
  rw [w1,w2]at e3
  rw [w3]at e4
  rw [w1]at e2
  rw [w4]
  exact⟨⟨_,e5,rfl⟩,c _ e5 e3 e4 (Uu e1) (Uu e2) fun b o x=>Heap.get?_push_of_some _ (Heap.get?_push_of_some _ (Heap.get?_push_of_some _ (Heap.get?_push_of_some _ (Heap.get?_push_of_some _ x))))⟩
def SqB (t:Bool) (K:PySem.W.Frag) (H:Hp) (a:Addr) (xs:List V):Prop:=if t=true then SqT K H a xs else SqL K H a xs
theorem Inv.sqB {X:Cx}{pins:List (Addr × Obj)}{σ:St}{H:Hp}{s:Shared}{t:Bool}{a:Addr}{xs:List V} (I:Inv X pins σ H s) (h:SqB t X.K H a xs):∃its:List Value,Vals xs its/\Sq1 t s.heap a its.toArray:=by
  cases t
  . obtain⟨its,r,p,_⟩:=I.list h
    exact⟨its,r,p.isList⟩
  . obtain⟨its,r,p,_⟩:=I.tuple h
    exact⟨its,r,p⟩
theorem Inv.sqB_inj {X:Cx}{pins:List (Addr × Obj)}{σ:St}{H:Hp}{s:Shared}{t:Bool}{a:Addr}{xs ys:List V} (I:Inv X pins σ H s) (h:SqB t X.K H a xs) (h':SqB t X.K H a ys):xs=ys:=by
  cases t
  . exact I.list_inj h h'
  . exact I.tuple_inj h h'
def Acs (t1 t2:Bool) (K:PySem.W.Frag) (a b:Addr):It:=
  ⟨fun i H=>∃xs ys x y,SqB t1 K H a xs/\SqB t2 K H b ys/\xs[i]? =some x/\ys[i]? =some y,
   fun i H x H'=>∃p u v,(∀xs,SqB t1 K H a xs->xs[i]? =some u)/\(∀ys,SqB t2 K H b ys->ys[i]? =some v)/\H p=none/\x= .ref p/\H'=upd H p (.tup [u,v]),
   fun i H=>∃xs ys,SqB t1 K H a xs/\SqB t2 K H b ys/\(xs.length<=i\/ys.length<=i)⟩
theorem Vg {P:Program}{w:World}{K:PySem.W.Frag}{el:List Expr}{x1}{tp:Pos} (t1 t2:Bool) (a b z TI TO i1 i2:Addr) (D:ZipApart z TI TO i1 i2 a b):
    Turn P w K (.Tuple el x1 tp) (Acs t1 t2 K a b) [z,TI,TO,i1,i2] z (fun i h=>IsZip h z TI TO .none/\IsPair h TI (.ref i1) (.ref i2)/\(∃c d,IsPair h TO c d)/\It1 t1 h i1 a i/\It1 t2 h i2 b i) where
  mem:=by simp
  obj:=fun i h st c hc=>by
    obtain⟨hz,hTI,⟨u,v,hTO⟩,h1,h2⟩:=st
    simp only [List.mem_cons,List.not_mem_nil,or_false]at hc
    rcases hc with rfl | rfl | rfl | rfl | rfl
    . exact⟨_,hz,fun v z=>by cases(show Data.fields _=Data.cell v from z)⟩
    . exact⟨_,hTI,fun v z=>by cases(show Data.seq _ _=Data.cell v from z)⟩
    . exact⟨_,hTO,fun v z=>by cases(show Data.seq _ _=Data.cell v from z)⟩
    . exact h1.there
    . exact h2.there
  keep:=fun i h h' st k=>by
    obtain⟨hz,hTI,⟨u,v,hTO⟩,h1,h2⟩:=st
    exact⟨k z (by simp) _ hz,k TI (by simp) _ hTI,⟨u,v,k TO (by simp) _ hTO⟩,h1.to fun o e=>k i1 (by simp) _ e,h2.to fun o e=>k i2 (by simp) _ e⟩
  item:=by
    intro X hP hw hK hc i pins s σ H E I hf st hg
    subst hP hw hK
    obtain⟨xs,ys,x,y,hqx,hqy,hx,hy⟩:=hg
    obtain⟨its,rv,p⟩:=I.sqB hqx
    obtain⟨its2,rv2,p2⟩:=I.sqB hqy
    obtain⟨u,hu,ru⟩:=rv.get hx
    obtain⟨v,hv,rv'⟩:=rv2.get hy
    obtain⟨hz,hTI,⟨c,d,hTO⟩,h1,h2⟩:=st
    refine Uz D hz hTI hTO h1 h2 p p2 (x:=u) (y:=v) (by simpa using hu) (by simpa using hv) fun g a1 a2 a3 a4 a5 a6 hk=>⟨_,rfl,?_⟩
    refine wpAny_letOwnedTupleGo_zip a1 fun g2 hz2 sb2=> ?_
    replace sb2:Heap.SameBut z g g2:=sb2
    have lt:∀b∈ [z,TI,TO,i1,i2],b≠s.heap.objs.size:=fun b hb=>by
      obtain⟨o1,e1,_⟩:=h1.there
      obtain⟨o2,e2,_⟩:=h2.there
      simp only [List.mem_cons,List.not_mem_nil,or_false]at hb
      rcases hb with rfl | rfl | rfl | rfl | rfl
      . exact Nat.ne_of_lt (Heap.lt_size hz)
      . exact Nat.ne_of_lt (Heap.lt_size hTI)
      . exact Nat.ne_of_lt (Heap.lt_size hTO)
      . exact Nat.ne_of_lt (Heap.lt_size e1)
      . exact Nat.ne_of_lt (Heap.lt_size e2)
    have hn:H s.heap.objs.size=none:=I.fresh
    have I1:Inv X pins σ (upd H s.heap.objs.size (.tup [x,y])) { s with heap:=s.heap.push { cls:= .type "tuple",data:= .seq #[u,v]},toks:=s.toks}:=
      I.laid (fun b o q=>Heap.get?_push_of_some _ q) (Nat.le_refl _) ⟨by show 2<=sizeLine;decide,[u,v],.cons ru (.cons rv' .nil),⟨_,Heap.get?_push_size _ rfl,rfl,_,rfl⟩⟩
    have fp':∀b∈ [z,TI,TO,i1,i2],Hs X pins (upd H s.heap.objs.size (.tup [x,y])) b:=fun b hb=>
      ⟨by rw [Av (lt b hb)];exact(hf b hb).1,(hf b hb).2⟩
    have I2:=I1.turnL (h':=g2) (t':=s.toks) (fp:=[z,TI,TO,i1,i2]) (fun b o hb q=>by
      have n1:b≠z:=fun e=>hb (by simp [e])
      refine(sb2.2 b n1).trans ?_
      rcases Heap.get?_push_cases q with⟨rfl,rfl⟩ | q0
      . exact a5
      . exact hk b o n1 (fun e=>hb (by simp [e])) (fun e=>hb (by simp [e])) (fun e=>hb (by simp [e])) q0) fp'
    refine⟨.ref s.heap.objs.size,_,I2,rfl,⟨_,x,y,fun zs hz=>by rw [I.sqB_inj hz hqx];exact hx,fun zs hz=>by rw [I.sqB_inj hz hqy];exact hy,hn,rfl,rfl⟩,⟨hz2,?_,⟨u,v,sb2.extBut _ _ D.TOz a2⟩,a3.ext sb2.extBut D.i1z,a4.ext sb2.extBut D.i2z⟩,fun b hb=>(fp' b hb).1⟩
    exact sb2.extBut _ _ D.TIz (hk _ _ D.TIz D.TITO D.TIi1 D.TIi2 hTI)
  done:=by
    intro X hP hw hK hc i pins s σ H E I hf st hg
    subst hP hw hK
    obtain⟨xs,ys,hqx,hqy,hxy⟩:=hg
    obtain⟨its,rv,p⟩:=I.sqB hqx
    obtain⟨its2,rv2,p2⟩:=I.sqB hqy
    obtain⟨hz,hTI,⟨c,d,hTO⟩,h1,h2⟩:=st
    have l1:=rv.length
    have l2:=rv2.length
    exact S8 (I.ok.hd hc) D hz hTI hTO h1 h2 p p2 (by
      rcases hxy with h | h
      . exact .inl (by simp;omega)
      . exact .inr (by simp;omega)) fun g hk=>⟨rfl,I.turnL (t':=s.toks) (fp:=[z,TI,TO,i1,i2]) (fun b o hb q=>hk b o (fun e=>hb (by simp [e])) (fun e=>hb (by simp [e])) (fun e=>hb (by simp [e])) (fun e=>hb (by simp [e])) q) hf⟩
  self:=fun _ _ _ _ _ st h=>wpAny_pyIter_zip st.1 h
section
variable {X:Cx}{a b:Expr}{ta:TA}{el:List Expr}{x1}{tp p pos:Pos}
def Zj (t1 t2:Bool) (K:PySem.W.Frag) (ta:TA):TI:=fun σ H R=>ta σ H fun vs H1=>∃a b,vs=[.ref a,.ref b]/\(∃xs,SqB t1 K H1 a xs)/\(∃ys,SqB t2 K H1 b ys)/\R (Acs t1 t2 K a b) H1
theorem Iv (t1 t2:Bool) (hg:Gl X "zip") (hm:X.mg "zip"=none) (ha:PA X [a,b] ta) (hs:starEach [a,b] X.env=[(false,eval a X.env),(false,eval b X.env)]:=by rfl) (hs2:starEach [b] X.env=[(false,eval b X.env)]:=by rfl):
    PI X (.Tuple el x1 tp) (.Call (.Name "zip" p) [a,b] [] pos) (Zj t1 t2 X.K ta):=by
  intro pins s σ H R I h
  refine Call_ (Gs I hg hm boot_zip (PyProof.Rows.callWith_type1 (thn (ha pos pins s σ H _ I h) fun us s1 ⟨vs,H1,I1,r1,q1⟩=> ?_) (by rw [hs,hs2]) (by rw [hs2];rfl)))
  obtain⟨u,v,rfl,⟨xs,hqx⟩,⟨ys,hqy⟩,q⟩:=q1
  obtain⟨v1,v2,rfl,r1,r2⟩:=vals2 r1
  cases r1
  cases r2
  obtain⟨its,rx,px⟩:=I1.sqB hqx
  obtain⟨its2,ry,py⟩:=I1.sqB hqy
  have lt1:u<s1.heap.objs.size:=by
    cases t1
    . obtain⟨o,e,_⟩:=(show s1.heap.IsList u _ from px)
      exact Heap.lt_size e
    . obtain⟨o,e,_⟩:=(show s1.heap.IsTuple u _ from px)
      exact Heap.lt_size e
  have lt2:v<s1.heap.objs.size:=by
    cases t2
    . obtain⟨o,e,_⟩:=(show s1.heap.IsList v _ from py)
      exact Heap.lt_size e
    . obtain⟨o,e,_⟩:=(show s1.heap.IsTuple v _ from py)
      exact Heap.lt_size e
  refine Vv px py fun h' hz hTI hTO hi1 hi2 hk=> ?_
  have I2:Inv X pins σ H1 { s1 with heap:=h'}:=I1.kept (t':=s1.toks) fun c o' e=>hk c o' e
  refine wpAny_pyIter_zip hz ⟨s1.heap.objs.size+4,[s1.heap.objs.size+4,s1.heap.objs.size+2,s1.heap.objs.size+3,s1.heap.objs.size,s1.heap.objs.size+1],_,_,H1,rfl,I2,Vg t1 t2 u v _ _ _ _ _ (zipApart_new lt1 lt2),⟨hz,hTI,⟨_,_,hTO⟩,hi1,hi2⟩,fun c hcm=> ?_,q⟩
  have hge:s1.heap.objs.size<=c:=by
    simp only [List.mem_cons,List.not_mem_nil,or_false]at hcm
    rcases hcm with rfl | rfl | rfl | rfl | rfl
    . exact Nat.le_add_right _ 4
    . exact Nat.le_add_right _ 2
    . exact Nat.le_add_right _ 3
    . exact Nat.le_refl _
    . exact Nat.le_add_right _ 1
  exact I1.fpOk hge (I1.hok.fresh hge)
end
theorem Nr {t1 t2:Bool}{K:PySem.W.Frag}{ta:TA}{σ:St}{H:Hp}{R:It->Hp->Prop}:Zj t1 t2 K ta σ H R=ta σ H (fun vs H1=>∃a b,vs=[.ref a,.ref b]/\(∃xs,SqB t1 K H1 a xs)/\(∃ys,SqB t2 K H1 b ys)/\R (Acs t1 t2 K a b) H1):=rfl
end L2
namespace L2
open PySem PySem.Spec PyProof.Rows
set_option maxRecDepth 100000
abbrev TB:=St->Hp->(St->Hp->Prop)->XK->Prop
def Ad1 (sp:Sp) (g:V->St->St) (ta:TA):TB:=fun σ H N E=>ta σ H fun vs H1=>sp vs H1 (fun v H2=>N (g v σ) H2) E
def bIf (tc:TT) (t u:TB):TB:=fun σ H N E=>tc σ H fun b H1=>if b=true then t σ H1 N E else u σ H1 N E
def Ad0 (C:Addr) (i:Nat) (tb:TB) (ts:Addr->Obj->TS):TS:=fun D σ H=>tb σ H (fun σ' H'=>D.nx σ' H')
  (fun c _ H2=>c= .ref C/\∀x oe,oe.cls= .ref C->ts x oe { nx:=fun σ' H'=>D.nx (σ'.set i none) H',rt:=D.rt,bk:=fun σ' H'=>D.bk (σ'.set i none) H',ct:=fun σ' H'=>D.ct (σ'.set i none) H'} (σ.set i (some (.ref x))) H2)
theorem Oa {sp:Sp}{g:V->St->St}{ta:TA}{σ:St}{H:Hp}{N:St->Hp->Prop}{E:XK}:Ad1 sp g ta σ H N E=ta σ H fun vs H1=>sp vs H1 (fun v H2=>N (g v σ) H2) E:=rfl
theorem Zg {tc:TT}{t u:TB}{σ:St}{H:Hp}{N:St->Hp->Prop}{E:XK}:bIf tc t u σ H N E=tc σ H fun b H1=>if b=true then t σ H1 N E else u σ H1 N E:=rfl
theorem Tv {C:Addr}{i:Nat}{tb:TB}{ts:Addr->Obj->TS}{D:Ends}{σ:St}{H:Hp}:Ad0 C i tb ts D σ H=tb σ H (fun σ' H'=>D.nx σ' H')
  (fun c _ H2=>c= .ref C/\∀x oe,oe.cls= .ref C->ts x oe { nx:=fun σ' H'=>D.nx (σ'.set i none) H',rt:=D.rt,bk:=fun σ' H'=>D.bk (σ'.set i none) H',ct:=fun σ' H'=>D.ct (σ'.set i none) H'} (σ.set i (some (.ref x))) H2):=rfl
end L2
namespace L2
open PySem PySem.Spec PySem.Calls PyProof.Rows
theorem Kd:∀ {ns:List Int}{us:List Value},IntsAre us ns->Vals (ns.map V.int) us
  | _,_,.nil=> .nil
  | _,_,.cons _ t r=> .cons ⟨t,rfl⟩ (Kd r)
theorem Py:∀ {ns:List Int}{vs:List Value},vs.length=ns.length->(∀(j:Nat) (v:Value),vs[j]? =some v->∃(i:Int) (t:Tok),ns[j]? =some i/\v= .int i t)->IntsAre vs ns
  | [],[],_,_=> .nil
  | [],_::_,h,_=>by simp at h
  | _::_,[],h,_=>by simp at h
  | n::ns,v::vs,h,k=>by
    obtain⟨i,t,e1,rfl⟩:=k 0 v rfl
    have e2:n=i:=by simpa using e1
    subst e2
    exact .cons n t (Py (by simpa using h) fun j u hu=>by
      obtain⟨i,t,e,e'⟩:=k (j+1) u (by simpa using hu)
      exact⟨i,t,by simpa using e,e'⟩)
theorem KV.keysL {kvs:List (Key × V)}{vs:List (Key × Value)} (r:KV kvs vs):kvs.map (·.1)=vs.map (·.1):=by
  unfold KV at r
  induction r with
  | nil=>rfl
  | cons h _ ih=>rw [List.map_cons,List.map_cons,h.1,ih]
theorem Q7 {X:Cx} (hc:X.calm=true):Dv X (.builtin "sorted") (fun xs H Q=>∃(d:Addr) (kvs:List (Key × V)) (ns:List Int),xs=[.ref d]/\H d=some (.dK kvs)/\kvs.map (·.1)=ns.map Sum.inl/\ns.length<64/\∀(l:Addr) (ms:List Int),H l=none->ms.Perm ns->ms.Pairwise (· <= ·)->Q (.ref l) (upd H l (.lst (ms.map V.int)))):=by
  intro pins s σ H xs us Q I r h
  obtain⟨d,kvs,ns,rfl,hd,hk,h64,q⟩:=h
  obtain⟨u,rfl,ru⟩:=vals1 r
  cases ru
  obtain⟨hz,lo,vs,rel,dd⟩:kvs.length<=sizeLine/\(d==sysModules)=false/\∃vs,KV kvs vs/\s.heap.DictOf (Bq X.prog X.w) d vs:=I.hok d _ hd
  obtain⟨ep,hat⟩:=dd.dictAt
  have ek:vs.map (·.1)=ns.map Sum.inl:=by rw [<-rel.keysL,hk]
  have hn:vs.length=ns.length:=by
    have:=congrArg List.length ek
    simpa using this
  have hs:vs.length<=sizeLine:=by rw [hn];exact Nat.le_trans (Nat.le_of_lt h64) (by decide)
  refine call_function_entry kind_sorted plain_sorted entry_sorted (args_sorted1 _) ?_
  unfold Builtin.«sorted»
  refine wpAny_bind (m:=checkCount "sorted" 1 1 _) (wpAny_pure ?_)
  refine wpAny_bind (PySem.W.kdu_collect (PySem.W.kdl_dict (knd:=Bq X.prog X.w) (kvs:=vs) (ep:=ep) lo) (I.ok.hd hc) hat hs fun h' tk acc hkeep hacc=> ?_)
  have hl:acc.toList.length=ns.length:=by rw [Array.length_toList,<-hn];exact hacc.1
  have hI:IntsAre acc.toList ns:=Py hl fun j v e=>by
    obtain⟨k,x,hx,hv⟩:=hacc.2 j v (by rw [<-Array.getElem?_toList];exact e)
    have e1:(vs.map (·.1))[j]? =some k:=by rw [List.getElem?_map,hx];rfl
    rw [ek,List.getElem?_map]at e1
    obtain⟨i,hi,rfl⟩:=Option.map_eq_some_iff.mp e1
    obtain⟨t,rfl⟩:=Value.isInt_shape (k:=i) (v:=v) hv
    exact⟨i,t,hi,rfl⟩
  refine wpAny_bind (wpAny_newList ?_ (by rw [hl,<-hn];exact hs))
  have hoL:(h'.push (seqObj "list" acc.toList.toArray 0)).get? h'.objs.size=some (seqObj "list" acc.toList.toArray 0):=Heap.get?_push_size _ rfl
  refine wpAny_bind (wpAny_holding (wpAny_call_entry slot_list_sort ⟨_,hoL,rfl⟩ entry_list_sort (list_sort_tree hoL hI (by rw [hl];exact h64) fun out ns' a1 a2 a3=>⟨_,rfl,?_⟩) (args_list_sort _)))
  refine wpAny_pure ⟨_,rfl,?_⟩
  obtain⟨e,he⟩:=sortedHeap_at (out:=out) hoL
  have hlen:ns'.length=ns.length:=a2.length_eq
  have I1:Inv X pins σ H { s with heap:=h',toks:=tk}:=I.kept hkeep
  have kp:∀b o,h'.get? b=some o->(sortedHeap (h'.push (seqObj "list" acc.toList.toArray 0)) h'.objs.size acc.toList out).get? b=some o:=fun b o e1=>by
    have lt:b<h'.objs.size:=Heap.lt_size e1
    rw [sortedHeap_old (Nat.ne_of_lt lt) (by rw [size_push'];exact Nat.lt_succ_of_lt lt),Heap.get?_push_ne _ _ _ (Nat.ne_of_lt lt)]
    exact e1
  exact⟨.ref h'.objs.size,_,I1.laid (a:=h'.objs.size) (t':=tk) kp (Nat.le_refl _) (show Bs X.prog X.w _ _ _ (.lst (ns'.map V.int))from⟨by rw [List.length_map,hlen,<-hn];exact hs,out.toList,e,Kd a1,he⟩),rfl,q _ ns' (I1.hok.fresh (Nat.le_refl _)) a2 a3⟩
end L2
namespace L2
open PySem PySem.Spec PyProof.Rows
section
variable {κ:Type} [DecidableEq κ]
def Dt (kvs:List (κ × V)) (k:κ):Option V:=(kvs.find? fun kv=>decide (kv.1=k)).map (·.2)
def putK (kvs:List (κ × V)) (k:κ) (v:V):List (κ × V):=
  if(kvs.any fun kv=>decide (kv.1=k))=true then kvs.map (fun kv=>if kv.1=k then(kv.1,v)else kv)else kvs++ [(k,v)]
def Abk (kvs:List (κ × V)) (k:κ):List (κ × V):=kvs.filter fun kv=>decide (kv.1≠k)
theorem Ci {p:κ × V}{r:List (κ × V)}{k:κ} (e:p.1=k):Dt (p::r) k=some p.2:=by simp [Dt,List.find?_cons,e]
theorem Ce {p:κ × V}{r:List (κ × V)}{k:κ} (e:¬p.1=k):Dt (p::r) k=Dt r k:=by simp [Dt,List.find?_cons,e]
theorem Dj (k:κ):∀kvs:List (κ × V),(kvs.any fun kv=>decide (kv.1=k))=(Dt kvs k).isSome
  | []=>rfl
  | p::r=>by
    rw [List.any_cons]
    by_cases e:p.1=k
    . simp only [Ci e,decide_eq_true e,Bool.true_or,Option.isSome_some]
    . rw [Ce e,decide_eq_false e,Bool.false_or];exact Dj k r
theorem Qh (k j:κ) (y:V):∀kvs:List (κ × V),Dt (kvs.map fun kv=>if kv.1=k then(kv.1,y)else kv) j=(Dt kvs j).map fun x=>if j=k then y else x
  | []=>rfl
  | p::r=>by
    have ih:=Qh k j y r
    rw [List.map_cons]
    by_cases h:p.1=k
    . rw [if_pos h]
      by_cases e:p.1=j
      . rw [Ci (p:=(p.1,y)) e,Ci e,Option.map_some,if_pos (e.symm.trans h)]
      . rw [Ce (p:=(p.1,y)) e,Ce e,ih]
    . rw [if_neg h]
      by_cases e:p.1=j
      . rw [Ci (p:=p) e,Ci e,Option.map_some,if_neg (fun z=>h (e.trans z))]
      . rw [Ce (p:=p) e,Ce e,ih]
theorem M4 (k j:κ) (y:V):∀kvs:List (κ × V),Dt kvs k=none->Dt (kvs++ [(k,y)]) j=if j=k then some y else Dt kvs j
  | [],_=>by
    by_cases e:k=j
    . rw [if_pos e.symm];exact Ci (p:=(k,y)) e
    . rw [if_neg (fun z=>e z.symm)];exact Ce (p:=(k,y)) e
  | p::r,hn=>by
    rw [List.cons_append]
    have hk:¬p.1=k:=fun z=>by rw [Ci z]at hn;cases hn
    rw [Ce hk]at hn
    have ih:=M4 k j y r hn
    by_cases e:p.1=j
    . rw [Ci e,Ci e,if_neg (fun z=>hk (e.trans z))]
    . rw [Ce e,Ce e,ih]
theorem Ie (kvs:List (κ × V)) (k j:κ) (y:V):Dt (putK kvs k y) j=if j=k then some y else Dt kvs j:=by
  unfold putK
  by_cases a:(kvs.any fun kv=>decide (kv.1=k))=true
  . rw [if_pos a,Qh]
    rw [Dj]at a
    by_cases e:j=k
    . obtain⟨x,hx⟩:=Option.isSome_iff_exists.mp a
      rw [if_pos e,e,hx,Option.map_some,if_pos rfl]
    . rw [if_neg e]
      cases Dt kvs j with
      | none=>rfl
      | some x=>rw [Option.map_some,if_neg e]
  . rw [if_neg a]
    refine M4 k j y kvs ?_
    rw [Dj]at a
    cases q:Dt kvs k with
    | none=>rfl
    | some x=>rw [q]at a;exact(a rfl).elim
theorem Eh (kvs:List (κ × V)) (k:κ) (v:V):(putK kvs k v).length<=kvs.length+1:=by
  unfold putK
  split
  . rw [List.length_map];omega
  . rw [List.length_append,List.length_cons,List.length_nil];omega
theorem Ph {kvs:List (κ × V)}{k:κ} (v:V) (h:Dt kvs k=none):putK kvs k v=kvs++ [(k,v)]:=by
  unfold putK
  rw [Dj,h]
  exact if_neg (by decide)
theorem Q6.isSome_eq {o:Option V}{u:Option Value} (r:Q6 o u):o.isSome=u.isSome:=by
  cases o with
  | none=>cases u with
    | none=>rfl
    | some _=>exact(show False from r).elim
  | some _=>cases u with
    | none=>exact(show False from r).elim
    | some _=>rfl
theorem Q6.getD {o:Option V}{u:Option Value}{d:V}{d':Value} (r:Q6 o u) (rd:RelV d d'):RelV (o.getD d) (u.getD d'):=by
  cases o with
  | none=>cases u with
    | none=>exact rd
    | some _=>exact(show False from r).elim
  | some _=>cases u with
    | none=>exact(show False from r).elim
    | some _=>exact r
theorem KV.val {kvs:List (κ × V)}{vs:List (κ × Value)} (r:KV kvs vs) (k:κ):Q6 (Dt kvs k) (valueAt vs k):=by
  unfold KV at r
  induction r with
  | nil=>exact True.intro
  | @cons p q ps qs h t ih=>
    obtain⟨h1,h2⟩:=h
    by_cases e:p.1=k
    . have e':q.1=k:=h1.symm.trans e
      have b:valueAt (q::qs) k=some q.2:=by simp [valueAt,List.find?_cons,e']
      rw [Ci e,b];exact h2
    . have e':¬q.1=k:=fun z=>e (h1.trans z)
      have b:valueAt (q::qs) k=valueAt qs k:=by simp [valueAt,List.find?_cons,e']
      rw [Ce e,b];exact ih
theorem KV.any {kvs:List (κ × V)}{vs:List (κ × Value)} (r:KV kvs vs) (k:κ):(kvs.any fun kv=>decide (kv.1=k))=vs.any fun kv=>decide (kv.1=k):=by
  unfold KV at r
  induction r with
  | nil=>rfl
  | cons h t ih=>rw [List.any_cons,List.any_cons,ih,h.1]
theorem KV.repl {kvs:List (κ × V)}{vs:List (κ × Value)} (r:KV kvs vs) (k:κ) {y:V}{u:Value} (ry:RelV y u):
    KV (kvs.map fun kv=>if kv.1=k then(kv.1,y)else kv) (vs.map fun kv=>if kv.1=k then(kv.1,u)else kv):=by
  unfold KV at r ⊢
  induction r with
  | nil=>exact .nil
  | @cons p q ps qs h t ih=>
    rw [List.map_cons,List.map_cons]
    refine .cons ?_ ih
    obtain⟨h1,h2⟩:=h
    by_cases e:p.1=k
    . rw [if_pos e,if_pos (h1.symm.trans e)];exact⟨h1,ry⟩
    . rw [if_neg e,if_neg (fun z=>e (h1.trans z))];exact⟨h1,h2⟩
theorem KV.put {kvs:List (κ × V)}{vs:List (κ × Value)} (r:KV kvs vs) (k:κ) {y:V}{u:Value} (ry:RelV y u):KV (putK kvs k y) (stored vs k u):=by
  unfold putK stored
  rw [r.any k]
  by_cases e:(vs.any fun kv=>decide (kv.1=k))=true
  . rw [if_pos e,if_pos e];exact r.repl k ry
  . rw [if_neg e,if_neg e];exact Paired.snoc r ⟨rfl,ry⟩
theorem KV.drop {kvs:List (κ × V)}{vs:List (κ × Value)} (r:KV kvs vs) (k:κ):KV (Abk kvs k) (without vs k):=by
  unfold KV at r ⊢
  unfold Abk without
  induction r with
  | nil=>exact .nil
  | @cons p q ps qs h t ih=>
    obtain⟨h1,h2⟩:=h
    rw [List.filter_cons,List.filter_cons]
    by_cases e:p.1=k
    . have a:¬decide (p.1≠k)=true:=by simp [e]
      have b:¬decide (q.1≠k)=true:=by simp [h1.symm.trans e]
      rw [if_neg a,if_neg b];exact ih
    . have e':¬q.1=k:=fun z=>e (h1.trans z)
      have a:decide (p.1≠k)=true:=by simp [e]
      have b:decide (q.1≠k)=true:=by simp [e']
      rw [if_pos a,if_pos b];exact .cons ⟨h1,h2⟩ ih
theorem KV.keys {kvs:List (κ × V)}{vs:List (κ × Value)} (r:KV kvs vs):kvs.map (·.1)=vs.map (·.1):=by
  unfold KV at r
  induction r with
  | nil=>rfl
  | cons h t ih=>rw [List.map_cons,List.map_cons,ih,h.1]
theorem KV.length {kvs:List (κ × V)}{vs:List (κ × Value)} (r:KV kvs vs):kvs.length=vs.length:=Paired.length r
end
theorem Ua {P:Program}{w:World}{k:Key}{u:Value} (r:RelV (kV k) u):(Bq P w).is k u=true:=by
  cases k with
  | inl i=>obtain⟨t,e⟩:=(show ∃t,u=Value.int i t from r);subst e;exact Oc P w i t
  | inr x=>obtain⟨t,e⟩:=(show ∃t,u=Value.str x t from r);subst e;exact Oo P w x t
theorem Ml {P:Program}{w:World}:∀ {ks:List Key}{us:List Value},Vals (ks.map kV) us->ItemsAre (Bq P w) ks us
  | [],_,r=>by rw [List.map_nil]at r;cases r;exact .nil
  | k::ks,_,r=>by
    rw [List.map_cons]at r
    cases r with
    | cons h t=>exact .cons (Ua h) (Ml t)
abbrev KT (H:Hp):List (List Key × V)->List (List Key × Addr × Value)->Prop:=Paired fun p q=>p.1=q.1/\H q.2.1=some (.tup (p.1.map kV))/\RelV p.2 q.2.2
theorem KT.val {H:Hp}{kvs:List (List Key × V)}{xs:List (List Key × Addr × Value)} (r:KT H kvs xs) (k:List Key):Q6 (Dt kvs k) ((atKey xs k).map (·.2)):=by
  induction r with
  | nil=>exact True.intro
  | @cons p q ps qs h t ih=>
    obtain⟨h1,_,h2⟩:=h
    by_cases e:p.1=k
    . have e':q.1=k:=h1.symm.trans e
      have b:atKey (q::qs) k=some q.2:=by simp [atKey,List.find?_cons,e']
      rw [Ci e,b];exact h2
    . have e':¬q.1=k:=fun z=>e (h1.trans z)
      have b:atKey (q::qs) k=atKey qs k:=by simp [atKey,List.find?_cons,e']
      rw [Ce e,b];exact ih
theorem KT.repl {H:Hp}{kvs:List (List Key × V)}{xs:List (List Key × Addr × Value)} (r:KT H kvs xs) (k:List Key) {y:V}{u:Value} (ry:RelV y u):
    KT H (kvs.map fun kv=>if kv.1=k then(kv.1,y)else kv) (xs.map (putAt k u)):=by
  induction r with
  | nil=>exact .nil
  | @cons p q ps qs h t ih=>
    rw [List.map_cons,List.map_cons]
    refine .cons ?_ ih
    obtain⟨h1,h2,h3⟩:=h
    unfold putAt
    by_cases e:p.1=k
    . rw [if_pos e,if_pos (h1.symm.trans e)];exact⟨h1,h2,ry⟩
    . rw [if_neg e,if_neg (fun z=>e (h1.trans z))];exact⟨h1,h2,h3⟩
theorem KT.put {H:Hp}{kvs:List (List Key × V)}{xs:List (List Key × Addr × Value)} (r:KT H kvs xs) (k:List Key) {b:Addr}{y:V}{u:Value} (hb:H b=some (.tup (k.map kV))) (ry:RelV y u):
    KT H (putK kvs k y) (storedH xs k b u):=by
  have e:(kvs.any fun kv=>decide (kv.1=k))=(atKey xs k).isSome:=by
    rw [Dj,(r.val k).isSome_eq,Option.isSome_map]
  unfold putK storedH
  rw [e]
  by_cases q:(atKey xs k).isSome=true
  . rw [if_pos q,if_pos q];exact r.repl k ry
  . rw [if_neg q,if_neg q];exact Paired.snoc r ⟨rfl,hb,ry⟩
theorem KT.keeps {H H':Hp}{kvs:List (List Key × V)}{xs:List (List Key × Addr × Value)} (r:KT H kvs xs) (ht:∀b ys,H b=some (.tup ys)->H' b=some (.tup ys)):KT H' kvs xs:=
  Paired.mapP r fun _ _ z=>⟨z.1,ht _ _ z.2.1,z.2.2⟩
section
variable {P:Program}{w:World}{H:Hp}{h:Heap}{a:Addr}
theorem Aca {u:HO} (ok:HOk P w H h) (e:Rd H a u):Bs P w H h a u:=e.ok ok
theorem Qz {kvs:List (Key × V)} (ok:HOk P w H h) (e:Rd H a (.dK kvs)):kvs.length<=sizeLine/\(a==sysModules)=false/\∃vs,KV kvs vs/\h.DictOf (Bq P w) a vs:=
  show Bs P w H h a (.dK kvs)from Aca ok e
theorem Acw {kvs:List (Key × V)} (ok:HOk P w H h) (e:H a=some (.dK kvs)):kvs.length<=sizeLine/\(a==sysModules)=false/\∃vs,KV kvs vs/\h.DictOf (Bq P w) a vs:=Qz ok (.inl e)
theorem Mh {ks:List Key} (ok:HOk P w H h) (e:H a=some (.tup (ks.map kV))):(tupleKind (Bq P w)).is h ks a:=by
  obtain⟨_,its,r,o,h1,h2,n,h3⟩:=(show Bs P w H h a (.tup (ks.map kV))from ok a _ e)
  exact⟨o,its.toArray,n,h1,h2,h3,by simpa using Ml r⟩
theorem Q9 {kvs:List (List Key × V)} (ok:HOk P w H h) (e:Rd H a (.dT kvs)):kvs.length<=sizeLine/\(a==sysModules)=false/\
    ∃xs,KT H kvs xs/\h.DictOfH (tupleKind (Bq P w)) a xs:=by
  obtain⟨z,y,xs,r,o,es,ep,h1,h2,h3,h4,h5⟩:=(show Bs P w H h a (.dT kvs)from Aca ok e)
  refine⟨z,y,xs,r,o,es,ep,h1,h2,h3,h4,fun x hx=> ?_,h5⟩
  have all:∀ {l:List (List Key × V)}{m:List (List Key × Addr × Value)},KT H l m->∀x∈m,(tupleKind (Bq P w)).is h x.1 x.2.1:=by
    intro l m q
    induction q with
    | nil=>intro x hx;exact nomatch hx
    | @cons p q ps qs hq t ih=>
      intro x hx
      rcases List.mem_cons.mp hx with e | hx
      . subst e
        exact Mh ok (by rw [<-hq.1];exact hq.2.1)
      . exact ih x hx
  exact all r x hx
theorem Adi {kvs:List (List Key × V)} (ok:HOk P w H h) (e:H a=some (.dT kvs)):kvs.length<=sizeLine/\(a==sysModules)=false/\
    ∃xs,KT H kvs xs/\h.DictOfH (tupleKind (Bq P w)) a xs:=Q9 ok (.inl e)
end
def Km (H:Hp) (a:Addr) (y:V) (r:Option V):Prop:=
  (∃kvs k,Rd H a (.dK kvs)/\y=kV k/\r=Dt kvs k)\/∃kvs k b,Rd H a (.dT kvs)/\y= .ref b/\H b=some (.tup (k.map kV))/\r=Dt kvs k
def Wa (H:Hp) (a:Addr) (y v:V) (H':Hp):Prop:=
  (∃kvs k,H a=some (.dK kvs)/\y=kV k/\kvs.length<sizeLine/\H'=upd H a (.dK (putK kvs k v)))\/
  ∃kvs k b,H a=some (.dT kvs)/\y= .ref b/\H b=some (.tup (k.map kV))/\kvs.length<sizeLine/\H'=upd H a (.dT (putK kvs k v))
theorem Km.k {H:Hp}{a:Addr}{kvs:List (Key × V)}{k:Key} (e:H a=some (.dK kvs)):Km H a (kV k) (Dt kvs k):= .inl ⟨kvs,k,.inl e,rfl,rfl⟩
theorem Km.t {H:Hp}{a b:Addr}{kvs:List (List Key × V)}{k:List Key} (e:H a=some (.dT kvs)) (eb:H b=some (.tup (k.map kV))):Km H a (.ref b) (Dt kvs k):= .inr ⟨kvs,k,b,.inl e,rfl,eb,rfl⟩
theorem Wa.k {H:Hp}{a:Addr}{kvs:List (Key × V)}{k:Key}{v:V} (e:H a=some (.dK kvs)) (hl:kvs.length<sizeLine):Wa H a (kV k) v (upd H a (.dK (putK kvs k v))):= .inl ⟨kvs,k,e,rfl,hl,rfl⟩
theorem Wa.t {H:Hp}{a b:Addr}{kvs:List (List Key × V)}{k:List Key}{v:V} (e:H a=some (.dT kvs)) (eb:H b=some (.tup (k.map kV))) (hl:kvs.length<sizeLine):
    Wa H a (.ref b) v (upd H a (.dT (putK kvs k v))):= .inr ⟨kvs,k,b,e,rfl,eb,hl,rfl⟩
section
variable {X:Cx}{pins:List (Addr × Obj)}{σ:St}{H:Hp}{s:Shared}{a:Addr}{y v:V}{u r:Value}{o:Option V}{A:Around}{E:Value->Shared->Prop}
theorem Inv.big (I:Inv X pins σ H s):sysModules<s.heap.objs.size:=by
  have h:mainGlobals<s.heap.objs.size:=(I.mod.glob.keeps I.bk).lt
  exact Nat.lt_trans (by decide) h
theorem V3 {Q:Value->Shared->Prop} (hu:A.units+1<cLine) (I:Inv X pins σ H s) (g:Km H a y (some v)) (ry:RelV y u) (h:∀w' s',Inv X pins σ H s'->RelV v w'->Q w' s'):
    wpAny (model X.prog X.w) A (getItem (.ref a) u) Q E s:=by
  rcases g with⟨kvs,k,e,ey,l⟩ | ⟨kvs,k,b,e,ey,eb,l⟩
  . subst ey
    obtain⟨z,hd,vs,rel,dd⟩:=Qz I.hok e
    obtain⟨w',hw,rw'⟩:=Q6.some_of (v:=v) (o:=valueAt vs k) (by rw [l];exact rel.val k)
    exact wpAny_getItem_of (Ua ry) dd.mapOf hw (h w' _ (I.tok _) rw')
  . subst ey
    cases(show u=Value.ref b from ry)
    obtain⟨z,hd,xs,rel,dd⟩:=Q9 I.hok e
    obtain⟨w',hw,rw'⟩:=Q6.some_of (v:=v) (o:=(atKey xs k).map (·.2)) (by rw [l];exact rel.val k)
    obtain⟨p,hp,hp2⟩:=Option.map_eq_some_iff.mp hw
    refine wpAny_getItem_heap (tupleKind_room_in1 hu) (Mh I.hok eb) dd hp ?_
    rw [hp2]
    exact h w' _ (I.tok _) rw'
theorem Aa1 {Q:Value->Shared->Prop} (hu:A.units+1<cLine) (I:Inv X pins σ H s) (g:Km H a y o) (ry:RelV y u) (h:∀s',Inv X pins σ H s'->Q (.bool (!o.isSome)) s'):
    wpAny (model X.prog X.w) A (compareOp .NotIn u (.ref a)) Q E s:=by
  rcases g with⟨kvs,k,e,ey,l⟩ | ⟨kvs,k,b,e,ey,eb,l⟩
  . subst ey
    obtain⟨z,hd,vs,rel,dd⟩:=Qz I.hok e
    refine wpAny_notIn_of (Ua ry) hd dd.mapOf ?_
    rw [<-(rel.val k).isSome_eq,<-l]
    exact h _ (I.tok _)
  . subst ey
    cases(show u=Value.ref b from ry)
    obtain⟨z,hd,xs,rel,dd⟩:=Q9 I.hok e
    refine wpAny_notIn_heap (tupleKind_room_in1 hu) (Mh I.hok eb) hd dd ?_
    have q:=(rel.val k).isSome_eq
    rw [Option.isSome_map]at q
    rw [<-q,<-l]
    exact h _ (I.tok _)
theorem Va {h':Heap}{t':Nat}{ob:HO} (I:Inv X pins σ H s) (mu:Mut (H a)) (hs:Heap.SameBut a s.heap h') (he:∃q,h'.get? a=some q) (new:Bs X.prog X.w (upd H a ob) h' a ob):
    Inv X pins σ (upd H a ob) { s with heap:=h',toks:=t'}:=
  I.write (x:=a) (e:=a) mu (.inl rfl) (fun b q hb z=>(hs.2 b hb).trans z) he new
theorem Ab6 {P:Program}{w:World}{H':Hp}{h':Heap}{kvs:List (Key × V)}{vs:List (Key × Value)} (z:kvs.length<=sizeLine) (hd:(a==sysModules)=false) (rel:KV kvs vs) (dd:h'.DictOf (Bq P w) a vs):
    Bs P w H' h' a (.dK kvs):=⟨z,hd,vs,rel,dd⟩
theorem Vn {H':Hp}{Q:Unit->Shared->Prop} (hu:A.units+1<cLine) (I:Inv X pins σ H s) (g:Wa H a y v H') (ry:RelV y u) (rv:RelV v r) (h:∀s',Inv X pins σ H' s'->Q () s'):
    wpAny (model X.prog X.w) A (setItem (.ref a) u r) Q E s:=by
  rcases g with⟨kvs,k,e,ey,l,eH⟩ | ⟨kvs,k,b,e,ey,eb,l,eH⟩
  . subst ey eH
    obtain⟨z,hd,vs,rel,dd⟩:=Acw I.hok e
    have hz:vs.length<=sizeLine:=by rw [<-rel.length];exact z
    have hl:(putK kvs k v).length<=sizeLine:=by have:=Eh kvs k v;omega
    refine wpAny_setItem_pairs (hsz:=hz) (Ua ry) dd fun h' dd' hs=>h _ ?_
    have he:∃q,h'.get? a=some q:=let ⟨q,_,_,hq,_⟩:=dd';⟨q,hq⟩
    exact Va I (by rw [e];exact True.intro) hs he (Ab6 hl hd (rel.put k rv) dd')
  . subst ey eH
    cases(show u=Value.ref b from ry)
    obtain⟨z,hd,xs,rel,dd⟩:=Adi I.hok e
    have hz:xs.length<=sizeLine:=by rw [<-Paired.length rel];exact z
    have hl:(putK kvs k v).length<=sizeLine:=by have:=Eh kvs k v;omega
    refine wpAny_setItem_heap (hsz:=hz) (tupleKind_room_in1 hu) (Mh I.hok eb) dd fun h' dd' hs=>h _ ?_
    obtain⟨q,es,ep,hq,h2,h3,h4,_,h5⟩:=dd'
    refine Va I (by rw [e];exact True.intro) hs ⟨q,hq⟩ ⟨hl,hd,_,(rel.put k eb rv).keeps fun c ys ec=> ?_,q,es,ep,hq,h2,h3,h4,h5⟩
    rw [Av (Fi ec e (fun z=>nomatch z))]
    exact ec
end
def Adl (i:Expr):Prop:=∀ov iv,subscripted i false ov iv=operate [ov,iv] (getItem ov iv)
theorem Aal {prog:Program}{w:World}{A:Around}{E:Value->Shared->Prop}{s:Shared}{env:Env}{value slice:Expr}{pos:Pos}{T id:String}{Q:Value->Shared->Prop}
    (hl:typeLookup (.type T) "__getitem__"=pure (some (.builtin id))) (hs:Adl slice)
    (h:wpAny (model prog w) A (eval value env) (fun o s₁=>wpAny (model prog w) A (eval slice env) (fun i s₂=>s₂.TypeIs o T/\wpAny (model prog w) A (getItem o i) Q E s₂) E s₁) E s):
    wpAny (model prog w) A (eval (.Subscript value slice pos) env) Q E s:=by
  refine Subscript_ (wpAny_mono h (fun o s₁ h₁=>wpAny_mono h₁ (fun i s₂ h₂=> ?_) fun _ _ x=>x) fun _ _ x=>x)
  obtain⟨hT,h₂⟩:=h₂
  unfold subscriptTail
  refine wpAny_bind ?_
  rw [getitemInPython_of_ne hT.not_modules]
  refine wpAny_bind (wpAny_specialOf hT hl ?_)
  have fin:wpAny (model prog w) A (subscripted slice false o i) (fun r s₃=>wpAny (model prog w) A (letTemporaryGo value o r>>=fun _=>pure r) Q E s₃) E s₂:=by
    rw [hs o i]
    exact wpAny_operating (wpAny_mono h₂ (fun r s₃ h₃=>wpAny_bind (wpAny_letTemporaryGo (wpAny_pure h₃))) fun _ _ x=>x)
  first
    | exact wpAny_pure (wpAny_bind fin)
    | exact wpAny_bind (wpAny_pure (wpAny_bind fin))
    | exact wpAny_bind fin
theorem Oj {X:Cx}{pins:List (Addr × Obj)}{σ:St}{H:Hp}{s:Shared}{a:Addr}{y:V}{o:Option V} (I:Inv X pins σ H s) (g:Km H a y o):s.TypeIs (.ref a) "dict":=by
  rcases g with⟨kvs,k,e,_,_⟩ | ⟨kvs,k,b,e,_,_,_⟩
  . obtain⟨_,_,vs,_,dd⟩:=Qz I.hok e
    exact dd.typeIs
  . obtain⟨_,_,xs,_,dd⟩:=Q9 I.hok e
    exact dd.typeIs
def Z5 (td ty:TE):TE:=fun σ H Q=>td σ H fun x H1=>ty σ H1 fun y H2=>∃a v,x= .ref a/\Km H2 a y (some v)/\Q v H2
def Zx (td ty tv:TE):TS:=fun D σ H=>tv σ H fun v H1=>td σ H1 fun x H2=>ty σ H2 fun y H3=>∃a H4,x= .ref a/\Wa H3 a y v H4/\D.nx σ H4
section
variable {X:Cx}{o i e value:Expr}{pos pos' tpos:Pos}{td ty tv:TE}
theorem Eb (hu:X.A.units+1<cLine) (ho:PE X o td) (hi:PE X i ty) (hs:Adl i):PE X (.Subscript o i pos) (Z5 td ty):=by
  intro pins s σ H Q I h
  refine Aal PySem.F.slot_dict_getitem.lookup hs (thn (ho pins s σ H _ I h) fun u s1 ⟨x,H1,I1,rx,q1⟩=>thn (hi pins s1 σ H1 _ I1 q1) fun iv s2 ⟨y,H2,I2,ry,a,v,ex,g,q2⟩=> ?_)
  subst ex
  obtain rfl:u=Value.ref a:=rx
  exact⟨Oj I2 g,V3 hu I2 g ry fun w' s3 I3 rw'=>⟨v,H2,I3,rw',q2⟩⟩
theorem G9 (hu:X.A.units+1<cLine) (ho:PE X o td) (hi:PE X i ty) (hv:PE X value tv) (hs:swapsWith value (some (.Subscript o i pos')) pos.line X.env=pure false):
    PS X (.Assign [.Subscript o i pos'] value pos) (Zx td ty tv):=by
  intro pins s σ H D I h
  refine wpAny_Assign_Subscript (thn (hv pins s σ H _ I h) fun r s1 ⟨v,H1,I1,rv,q1⟩=>thn (ho pins s1 σ H1 _ I1 q1) fun u s2 ⟨x,H2,I2,rx,q2⟩=>thn (hi pins s2 σ H2 _ I2 q2) fun iv s3 ⟨y,H3,I3,ry,a,H4,ex,g,q3⟩=> ?_) hs
  subst ex
  obtain rfl:u=Value.ref a:=rx
  exact Vn hu I3 g ry rv fun s4 I4=>⟨σ,H4,I4,q3⟩
end
theorem Xn {P:Program}{w:World}{H:Hp} (h:Heap) (hb:sysModules<h.objs.size):Bs P w H (h.push { cls:= .type "dict",data:= .dict #[]}) h.objs.size (.dT []):=
  ⟨Nat.zero_le _,beq_eq_false_iff_ne.mpr (Ne.symm (Nat.ne_of_lt hb)),[],.nil,_,#[],0,Heap.get?_push_size _ rfl,⟨rfl,rfl,rfl⟩,rfl,rfl,List.nodup_nil⟩
def Ti:TE:=fun _ H Q=>∀p,H p=none->Q (.ref p) (upd H p (.dT []))
section
variable {X:Cx}{pos:Pos}
theorem Hy:PE X (.Dict [] [] pos) Ti:=fun pins s σ H Q I h=>
  wpAny_Dict_empty ⟨.ref s.heap.objs.size,_,I.laid (a:=s.heap.objs.size) (o:= .dT []) (t':=s.toks) (fun _ _ q=>Heap.get?_push_of_some _ q) (Nat.le_refl _) (Xn s.heap I.big),rfl,h _ (I.hok.fresh (Nat.le_refl _))⟩
end
structure M1 (X:Cx) (o:Expr) (m:Str) (apos:Pos) (e:Expr) (cpos:Pos):Prop where
  base:attributeBase o m X.env (eval o X.env)=eval o X.env
  few:((backTo cpos (starEach [e] X.env)).all (fun x=> !x.1)&&(backToKw cpos (keywordEach [] X.env)).all (fun x=>x.1.isSome)
    &&decide (([e]:List Expr).length+([]:List Keyword).length+(if([]:List Keyword).isEmpty then 0 else 1)<30))=true
  line:(apos.endLine==cpos.line)=true
  trees:backTo cpos (starEach [e] X.env)=[(false,eval e X.env)]
structure M2 (X:Cx) (o:Expr) (m:Str) (apos:Pos) (e f:Expr) (cpos:Pos):Prop where
  base:attributeBase o m X.env (eval o X.env)=eval o X.env
  few:((backTo cpos (starEach [e,f] X.env)).all (fun x=> !x.1)&&(backToKw cpos (keywordEach [] X.env)).all (fun x=>x.1.isSome)
    &&decide (([e,f]:List Expr).length+([]:List Keyword).length+(if([]:List Keyword).isEmpty then 0 else 1)<30))=true
  line:(apos.endLine==cpos.line)=true
  trees:backTo cpos (starEach [e,f] X.env)=[(false,eval e X.env),(false,eval f X.env)]
def IsD (H:Hp) (a:Addr):Prop:=(∃kvs,Rd H a (.dK kvs))\/∃kvs,Rd H a (.dT kvs)
theorem Ye {X:Cx}{pins:List (Addr × Obj)}{σ:St}{H:Hp}{s:Shared}{a:Addr} (I:Inv X pins σ H s) (d:IsD H a):
    s.TypeIs (.ref a) "dict"/\(∀b,Value.ref a= .ref b->∃ob,s.heap.get? b=some ob/\ob.dict=none)/\(a==sysModules)=false:=by
  rcases d with⟨kvs,e⟩ | ⟨kvs,e⟩
  . obtain⟨_,hd,vs,_,dd⟩:=Qz I.hok e
    refine⟨dd.typeIs,fun b q=> ?_,hd⟩
    cases q
    obtain⟨ob,_,_,h1,h2,_⟩:=dd
    exact⟨ob,h1,h2.2.1⟩
  . obtain⟨_,hd,xs,_,dd⟩:=Q9 I.hok e
    refine⟨dd.typeIs,fun b q=> ?_,hd⟩
    cases q
    obtain⟨ob,_,_,h1,h2,_⟩:=dd
    exact⟨ob,h1,h2.2.1⟩
section
variable {X:Cx}{pins:List (Addr × Obj)}{σ:St}{H:Hp}{s:Shared}{a:Addr}{y d:V}{u r:Value}{o:Option V}{A:Around}{E:Value->Shared->Prop}
theorem Ab8 {Q:Value->Shared->Prop} (hu:A.units+1<cLine) (I:Inv X pins σ H s) (g:Km H a y o) (ry:RelV y u) (rd:RelV d r) (h:∀w' s',Inv X pins σ H s'->RelV (o.getD d) w'->Q w' s'):
    wpAny (model X.prog X.w) A (call (.builtin "dict.get") [.ref a,u,r]) Q E s:=by
  rcases g with⟨kvs,k,e,ey,l⟩ | ⟨kvs,k,b,e,ey,eb,l⟩
  . subst ey
    obtain⟨z,hd,vs,rel,dd⟩:=Qz I.hok e
    refine call_meetsIn PySem.F.slot_dict_get dd.typeIs PySem.F.entry_dict_get (PySem.F.args_dict_get_3 _ _ _) (meets_dict_get_default (Bq X.prog X.w) a (Ua ry) hd r) ⟨_,dd.mapOf,h _ _ (I.tok _) ?_⟩
    rw [l]
    exact(rel.val k).getD rd
  . subst ey
    cases(show u=Value.ref b from ry)
    obtain⟨z,hd,xs,rel,dd⟩:=Q9 I.hok e
    refine call_meetsIn PySem.F.slot_dict_get dd.typeIs PySem.F.entry_dict_get (PySem.F.args_dict_get_3 _ _ _) (meetsH_dict_get_default (tupleKind (Bq X.prog X.w)) a b hd r) ⟨tupleKind_room_in1 hu,k,xs,Mh I.hok eb,dd,h _ _ (I.tok _) ?_⟩
    rw [l]
    exact(rel.val k).getD rd
end
def Ud (td ty tx:TE):TE:=fun σ H Q=>td σ H fun x H1=>∃a,x= .ref a/\IsD H1 a/\ty σ H1 fun y H2=>tx σ H2 fun z H3=>∃o,Km H3 a y o/\Q (o.getD z) H3
section
variable {X:Cx}{o e f:Expr}{apos cpos:Pos}{td ty tx:TE}
theorem Gq (hu:X.A.units+1<cLine) (ho:PE X o td) (he:PE X e ty) (hf:PE X f tx) (m:M2 X o "get" apos e f cpos):PE X (.Call (.Attribute o "get" apos) [e,f] [] cpos) (Ud td ty tx):=by
  intro pins s σ H Q I h
  refine wpAny_Call_method m.base m.few m.line PySem.F.plainAttrs_dict PySem.F.slot_dict_get PySem.F.type_dict_get (thn (ho pins s σ H _ I h) fun u s1 ⟨x,H1,I1,rx,a,ex,d,q1⟩=> ?_)
  subst ex
  obtain rfl:u=Value.ref a:=rx
  obtain⟨t1,t2,_⟩:=Ye I1 d
  refine⟨t1,t2,?_⟩
  rw [m.trees]
  refine Calls.callWith_builtin rfl (Calls.evalArgs_plain (Calls.spliced_cons (thn (he pins s1 σ H1 _ I1 q1) fun iv s2 ⟨y,H2,I2,ry,q2⟩=>
    Calls.spliced_cons (thn (hf pins s2 σ H2 _ I2 q2) fun fv s3 ⟨z,H3,I3,rz,ov,g,q3⟩=>Calls.spliced_nil ?_))))
  exact Ab8 hu I3 g ry rz fun w' s4 I4 rw'=>⟨_,H3,I4,rw',q3⟩
end
end L2
namespace L2
open PySem PySem.Spec PyProof.Rows
section
variable {κ:Type} [DecidableEq κ]
theorem Pr {kvs:List (κ × V)}{k:κ} (h:Dt kvs k=none):¬k∈kvs.map (·.1):=by
  intro m
  obtain⟨p,hp,e⟩:=List.mem_map.mp m
  have q:(kvs.any fun kv=>decide (kv.1=k))=true:=List.any_eq_true.mpr ⟨p,hp,decide_eq_true e⟩
  rw [Dj,h]at q
  exact absurd q (by simp)
theorem Nk {kvs:List (κ × V)}{k:κ}{v:V} (h:Dt kvs k=some v):k∈kvs.map (·.1):=by
  have q:(kvs.any fun kv=>decide (kv.1=k))=true:=by
    rw [Dj,h]
    all_goals rfl
  obtain⟨p,hp,e⟩:=List.any_eq_true.mp q
  exact List.mem_map.mpr ⟨p,hp,of_decide_eq_true e⟩
theorem Ox:∀ {l:List κ}{k:κ},l.Nodup->¬k∈l->(l++ [k]).Nodup
  | [],k,_,_=>by simp
  | a::r,k,h,hk=>by
    obtain⟨h1,h2⟩:=List.nodup_cons.mp h
    show(a::(r++ [k])).Nodup
    refine List.nodup_cons.mpr ⟨fun m=> ?_,Ox h2 fun m=>hk (List.mem_cons.mpr (Or.inr m))⟩
    rcases List.mem_append.mp m with q | q
    . exact h1 q
    . exact hk (List.mem_cons.mpr (Or.inl (List.mem_singleton.mp q).symm))
theorem Zz {kvs:List (κ × V)}{k:κ} (v:V) (hn:(kvs.map (·.1)).Nodup) (h:Dt kvs k=none):((putK kvs k v).map (·.1)).Nodup:=by
  rw [Ph v h,List.map_append]
  exact Ox hn (Pr h)
end
end L2
namespace L2
open PySem PySem.Spec PyProof.Rows
theorem hu1 {A:Around} (h:A.units+64<cLine):A.units+1<cLine:=Nat.lt_of_le_of_lt (Nat.add_le_add_left (by decide:1<=64) _) h
section
variable {td ty tx tv:TE}{σ:St}{H:Hp}{Q:VK}{D:Ends}
theorem U8:Z5 td ty σ H Q=td σ H fun x H1=>ty σ H1 fun y H2=>∃a v,x= .ref a/\Km H2 a y (some v)/\Q v H2:=rfl
theorem Ni:Ud td ty tx σ H Q=td σ H fun x H1=>∃a,x= .ref a/\IsD H1 a/\ty σ H1 fun y H2=>tx σ H2 fun z H3=>∃o,Km H3 a y o/\Q (o.getD z) H3:=rfl
theorem Tw:Zx td ty tv D σ H=tv σ H fun v H1=>td σ H1 fun x H2=>ty σ H2 fun y H3=>∃a H4,x= .ref a/\Wa H3 a y v H4/\D.nx σ H4:=rfl
end
theorem Xd {H:Hp}{a:Addr}{kvs:List (Key × V)}{i:Int}{v:V} (e:H a=some (.dK kvs)) (h:Dt kvs (.inl i)=some v):Km H a (.int i) (some v):= .inl ⟨kvs,.inl i,.inl e,rfl,h.symm⟩
theorem Abo {H:Hp}{a:Addr}{kvs:List (Key × V)}{i:Int} (e:H a=some (.dK kvs)):Km H a (.int i) (Dt kvs (.inl i)):= .inl ⟨kvs,.inl i,.inl e,rfl,rfl⟩
theorem Abp {H:Hp}{a:Addr}{kvs:List (Key × V)}{i:Int}{v:V} (e:H a=some (.dK kvs)) (hl:kvs.length<sizeLine):Wa H a (.int i) v (upd H a (.dK (putK kvs (.inl i) v))):= .inl ⟨kvs,.inl i,e,rfl,hl,rfl⟩
end L2
namespace L2
open PySem PySem.Spec PyProof.Rows
theorem Ip {H1:Hp}{p:Addr}{cσ:St}{g:TG}{tt:TT}{te:TE}{Q:VK}{α:Type}{es:List α}{inj:α->V}{J:It} (pf:α->Bool) (Rl:α->V->Hp->Prop)
    (mono:∀e v H H',Rl e v H->Same H H'->Rl e v H') (put:∀e v H ys zs,Rl e v H->H p=some (.lst ys)->Rl e v (upd H p (.lst zs))) (hz:es.length<=sizeLine) (hp:H1 p=none) (hJ:Wk J H1 es inj)
    (step:∀(e:α) (H':Hp) (R:VK) (RF:Hp->Prop),e∈es->Same H1 H'->(pf e=true->∀v H6,Same H' H6->Rl e v H6->R v H6)->(pf e=false->∀H6,Same H' H6->RF H6)->g (inj e) cσ H' fun σ4 H4=>Kp cσ σ4/\tt σ4 H4 fun b H5=>if b=true then te σ4 H5 R else RF H5)
    (done:∀H' (vs:List (V × α)),Same H1 H'->H' p=some (.lst (vs.map (·.1)))->vs.map (·.2)=es.filter pf->(∀x∈vs,Rl x.2 x.1 H')->Q (.ref p) H'):cIn J cσ g tt te Q H1 p:=by
  have su:∀ {H':Hp}{o:HO},Same H1 H'->Same H1 (upd H' p o):=fun {H' o} s b u e=>by
    rw [Av (Ar e hp)]
    exact s b u e
  refine⟨fun i m acc H'=>∃vs:List (V × α),m=es.length-i/\i<=es.length/\acc=vs.map (·.1)/\vs.map (·.2)=(es.take i).filter pf/\(∀x∈vs,Rl x.2 x.1 H')/\H' p=some (.lst acc)/\Same H1 H',⟨es.length,[],by simp,Nat.zero_le _,rfl,by simp,by simp,Ae,su (Same.refl _)⟩,?_⟩
  rintro i m acc H' ⟨vs,rfl,hi,rfl,hv,hr,hH,s⟩
  cases he:es[i]? with
  | none=>
    have e:i=es.length:=Nat.le_antisymm hi (List.getElem?_eq_none_iff.mp he)
    subst e
    rw [List.take_length]at hv
    exact .inl ⟨(hJ _ _ s).1 he,done _ vs s hH hv hr⟩
  | some e=>
    obtain⟨go,yl⟩:=(hJ _ _ s).2 e he
    refine .inr ⟨go,fun x H3 y=> ?_⟩
    obtain⟨rfl,rfl⟩:=yl x H3 y
    obtain⟨hlt,_⟩:=List.getElem?_eq_some_iff.mp he
    have tk:es.take (i+1)=es.take i++ [e]:=by rw [List.take_succ,he];rfl
    have fl:vs.length<=i:=by
      have h1:=congrArg List.length hv
      rw [List.length_map]at h1
      rw [h1]
      exact Nat.le_trans (List.length_filter_le _ _) (by rw [List.length_take];omega)
    refine step e H3 _ _ (List.mem_of_getElem? he) s (fun hpf v H6 s6 r6=>⟨s6 _ _ hH,by rw [List.length_map];omega,_,by omega,vs++ [(v,e)],rfl,hlt,by rw [List.map_append];rfl,?_,?_,Ae,su (s.trans s6)⟩) (fun hpf H6 s6=>⟨_,by omega,vs,rfl,hlt,rfl,?_,fun x hx=>mono _ _ _ _ (hr x hx) s6,s6 _ _ hH,s.trans s6⟩)
    . rw [tk,List.filter_append,List.map_append,hv]
      simp [hpf]
    . intro x hx
      rcases List.mem_append.mp hx with hx | hx
      . exact put _ _ _ _ _ (mono _ _ _ _ (hr x hx) s6) (s6 _ _ hH)
      . have:x=(v,e):=by simpa using hx
        rw [this]
        exact put _ _ _ _ _ r6 (s6 _ _ hH)
    . rw [tk,List.filter_append,hv]
      simp [hpf]
end L2
namespace L2
open PySem PySem.Spec PyProof.Rows
theorem Xr {t1 t2:Bool}{K:PySem.W.Frag}{a b:Addr}{xs ys:List V}{H1:Hp}{p:Addr}{cσ:St}{g:TG}{te:TE}{Q:VK} (n:Nat) (hn:n=min xs.length ys.length) (f:Nat->V) (hz:n<=sizeLine) (hp:H1 p=none)
    (wx:∀H',Same H1 H'->SqB t1 K H' a xs) (wy:∀H',Same H1 H'->SqB t2 K H' b ys)
    (step:∀(i:Nat) (H':Hp) (q:Addr) (R:VK),i<n->Same H1 H'->H' q=some (.tup [xs.getD i .non,ys.getD i .non])->(∀H6,Same H' H6->R (f i) H6)->g (.ref q) cσ H' fun σ4 H4=>Kp cσ σ4/\te σ4 H4 R)
    (done:∀H',Same H1 H'->H' p=some (.lst ((List.range n).map f))->Q (.ref p) H'):cIn (Acs t1 t2 K a b) cσ g Ms te Q H1 p:=by
  have su:∀ {H':Hp}{o:HO},Same H1 H'->Same H1 (upd H' p o):=fun {H' o} s b u e=>by
    rw [Av (Ar e hp)]
    exact s b u e
  refine⟨fun i m acc H'=>m=n-i/\i<=n/\acc=(List.range i).map f/\H' p=some (.lst acc)/\Same H1 H',⟨n,by simp,Nat.zero_le _,by simp,Ae,su (Same.refl _)⟩,?_⟩
  rintro i m acc H' ⟨rfl,hi,rfl,hH,s⟩
  by_cases he:i=n
  . subst he
    exact .inl ⟨⟨xs,ys,wx _ s,wy _ s,by omega⟩,done _ s hH⟩
  . have hl:i<n:=by omega
    have ex:xs[i]? =some (xs.getD i .non):=by rw [List.getD_eq_getElem?_getD,List.getElem?_eq_getElem (by omega)];rfl
    have ey:ys[i]? =some (ys.getD i .non):=by rw [List.getD_eq_getElem?_getD,List.getElem?_eq_getElem (by omega)];rfl
    refine .inr ⟨⟨xs,ys,_,_,wx _ s,wy _ s,ex,ey⟩,fun x H3 y=> ?_⟩
    obtain⟨q,u,v,hu,hv,hq,rfl,rfl⟩:=y
    have eu:=hu _ (wx _ s)
    have ev:=hv _ (wy _ s)
    rw [ex]at eu
    rw [ey]at ev
    cases eu
    cases ev
    have sq:=Same.upd hq (.tup [xs.getD i .non,ys.getD i .non])
    have q0:=step i (upd H' q (.tup [xs.getD i .non,ys.getD i .non])) q (fun y H6=>H6 p=some (.lst ((List.range i).map f))/\((List.range i).map f).length<sizeLine/\∃m',m'<n-i/\m'=n-(i+1)/\i+1<=n/\(List.range i).map f++ [y]=(List.range (i+1)).map f/\
        upd H6 p (.lst ((List.range i).map f++ [y])) p=some (.lst ((List.range i).map f++ [y]))/\Same H1 (upd H6 p (.lst ((List.range i).map f++ [y])))) hl (s.trans sq) Ae
      (fun H6 s6=>⟨s6 _ _ (sq _ _ hH),by rw [List.length_map,List.length_range];omega,_,by omega,rfl,hl,by rw [List.range_succ,List.map_append];rfl,Ae,su ((s.trans sq).trans s6)⟩)
    have eq:∀(R:VK) (B:Hp->Prop),(fun σ4 H4=>Kp cσ σ4/\Ms σ4 H4 fun b H5=>if b=true then te σ4 H5 R else B H5)=(fun σ4 H4=>Kp cσ σ4/\te σ4 H4 R):=fun R B=>by
      funext σ4 H4
      simp only [Ms,if_pos]
    rw [eq]
    exact q0
end L2
namespace L2
open PySem PySem.Spec PyProof.Rows
def Adc (C:Addr) (tb:TB) (ts:Addr->Obj->TS):TS:=fun D σ H=>tb σ H (fun σ' H'=>D.nx σ' H')
  (fun c _ H2=>c= .ref C/\∀x oe,oe.cls= .ref C->ts x oe D σ H2)
theorem U6 {C:Addr}{tb:TB}{ts:Addr->Obj->TS}{D:Ends}{σ:St}{H:Hp}:Adc C tb ts D σ H=tb σ H (fun σ' H'=>D.nx σ' H')
  (fun c _ H2=>c= .ref C/\∀x oe,oe.cls= .ref C->ts x oe D σ H2):=rfl
end L2
namespace L2
open PySem PySem.W PyProof.Rows
structure LO (n:Nat) (lt:Nat->Nat->Bool):Prop where
  tri:∀i j,i<n->j<n->i≠j->lt i j= !lt j i
  trans:∀i j k,i<n->j<n->k<n->lt i j=true->lt j k=true->lt i k=true
def KOk {α:Type} (lt:Nat->Nat->Bool) (n:Nat):KasT α->(α->Prop)->Prop
  | .ret a,P=>P a
  | .ask i j k,P=>i<n/\j<n/\i≠j/\KOk lt n (k (lt i j)) P
theorem KOk.bind {α β:Type}{lt:Nat->Nat->Bool}{n:Nat}{f:α->KasT β}{P:β->Prop}:∀ {t:KasT α},KOk lt n t (fun a=>KOk lt n (f a) P)->KOk lt n (t.bind f) P
  | .ret _,h=>h
  | .ask _ _ k,h=>⟨h.1,h.2.1,h.2.2.1,KOk.bind (t:=k _) h.2.2.2⟩
theorem KOk.mono {α:Type}{lt:Nat->Nat->Bool}{n:Nat}{P Q:α->Prop} (hq:∀a,P a->Q a):∀ {t:KasT α},KOk lt n t P->KOk lt n t Q
  | .ret a,h=>hq a h
  | .ask _ _ k,h=>⟨h.1,h.2.1,h.2.2.1,KOk.mono hq (t:=k _) h.2.2.2⟩
theorem KOk.wp {α:Type}{lt:Nat->Nat->Bool}{n:Nat}{I:Shared->Prop}{cmp:Nat->Nat->(Bool->Shared->Prop)->Shared->Prop}{P:α->Prop}{Q:α->Shared->Prop}
    (hc:∀i j C s,I s->i<n->j<n->i≠j->(∀s',I s'->C (lt i j) s')->cmp i j C s) (hq:∀a s,P a->I s->Q a s):∀ {t:KasT α}{s:Shared},I s->KOk lt n t P->t.kasWp cmp Q s
  | .ret a,s,i,h=>hq a s h i
  | .ask a b k,s,i,h=>hc a b _ s i h.1 h.2.1 h.2.2.1 fun s' i'=>KOk.wp hc hq (t:=k _) i' h.2.2.2
def aT (p:Array Nat) (i:Nat):Nat:=p.getD i 0
theorem W4 {p q:Array Nat}{i j:Nat} (h:p[i]? =q[j]?):aT p i=aT q j:=by
  unfold aT
  rw [Array.getD_eq_getD_getElem?,Array.getD_eq_getD_getElem?,h]
structure PM (n:Nat) (p:Array Nat):Prop where
  sz:p.size=n
  lt:∀i,i<n->aT p i<n
  ne:∀i j,i<n->j<n->i≠j->aT p i≠aT p j
  pm:p.toList.Perm (List.range n)
theorem PM.of {n:Nat}{p:Array Nat} (h:p.toList.Perm (List.range n)):PM n p:=by
  have sz:p.size=n:=by
    have:=h.length_eq
    simpa using this
  have nd:p.toList.Nodup:=h.nodup_iff.mpr List.nodup_range
  refine⟨sz,fun i hi=> ?_,fun i j hi hj hn e=> ?_,h⟩
  . have hi':i<p.size:=by omega
    have e:aT p i=p[i]:=by simp [aT,hi']
    have m:p[i]∈p.toList:=by simp
    rw [e]
    exact List.mem_range.mp (h.mem_iff.mp m)
  . have hi':i<p.toList.length:=by rw [Array.length_toList];omega
    have hj':j<p.toList.length:=by rw [Array.length_toList];omega
    have e1:aT p i=p.toList[i]:=by simp [aT,show i<p.size by omega]
    have e2:aT p j=p.toList[j]:=by simp [aT,show j<p.size by omega]
    have pw:=List.pairwise_iff_getElem.mp nd
    have e3:p.toList[i]=p.toList[j]:=by rw [<-e1,<-e2,e]
    rcases Nat.lt_or_gt_of_ne hn with l | l
    . exact pw i j hi' hj' l e3
    . exact pw j i hj' hi' l e3.symm
theorem PM.start (n:Nat):PM n (List.toArray (List.range n)):=PM.of (by simp)
theorem PM.perm {n:Nat}{p q:Array Nat} (h:PM n p) (e:q.Perm p):PM n q:=PM.of (e.toList.trans h.pm)
theorem PM.rev {n:Nat}{p:Array Nat} (h:PM n p) (i j:Nat):PM n (kas_rev p i j):=h.perm (mirror_perm _ _ _ _)
section
variable {n:Nat}{lt:Nat->Nat->Bool}
def StT (lt:Nat->Nat->Bool) (p:Array Nat) (k:Nat):Prop:=∀i j,i<j->j<k->lt (aT p i) (aT p j)=true
def DsT (lt:Nat->Nat->Bool) (p:Array Nat) (k:Nat):Prop:=∀i j,i<j->j<k->lt (aT p j) (aT p i)=true
theorem Sq (L:LO n lt) {p:Array Nat} (h:PM n p):∀(f m:Nat),1<=m->m+f<=n->StT lt p m->
    KOk lt n (kas_asc p f m) fun r=>m<=r/\r<=m+f/\StT lt p r/\(r<m+f->lt (aT p r) (aT p (r-1))=true)
  | 0,m,_,_,st=>⟨Nat.le_refl _,Nat.le_refl _,st,fun x=>absurd x (Nat.lt_irrefl _)⟩
  | f+1,m,h1,hm,st=>by
    refine⟨h.lt m (by omega),h.lt (m-1) (by omega),h.ne m (m-1) (by omega) (by omega) (by omega),?_⟩
    show KOk lt n (if lt (aT p m) (aT p (m-1))=true then KasT.ret m else kas_asc p f (m+1)) _
    by_cases c:lt (aT p m) (aT p (m-1))=true
    . rw [if_pos c]
      exact⟨Nat.le_refl _,by omega,st,fun _=>c⟩
    . rw [if_neg c]
      have c2:lt (aT p (m-1)) (aT p m)=true:=by
        have:=L.tri _ _ (h.lt m (by omega)) (h.lt (m-1) (by omega)) (h.ne m (m-1) (by omega) (by omega) (by omega))
        cases e:lt (aT p (m-1)) (aT p m)
        . rw [e]at this
          exact absurd this c
        . rfl
      have st':StT lt p (m+1):=fun i j hij hj=>by
        by_cases e:j=m
        . subst e
          by_cases e2:i=j-1
          . subst e2
            exact c2
          . exact L.trans _ _ _ (h.lt _ (by omega)) (h.lt _ (by omega)) (h.lt _ (by omega)) (st i (j-1) (by omega) (by omega)) c2
        . exact st i j hij (by omega)
      refine(Sq L h f (m+1) (by omega) (by omega) st').mono fun r hr=> ?_
      exact⟨by omega,by omega,hr.2.2.1,fun x=>hr.2.2.2 (by omega)⟩
theorem Sd (L:LO n lt) {p:Array Nat} (h:PM n p):∀(f m:Nat),1<=m->m+f<=n->DsT lt p m->
    KOk lt n (kas_desc f p m 0) fun r=>r.1=p/\r.2.2=0/\m<=r.2.1/\r.2.1<=m+f/\DsT lt p r.2.1
  | 0,m,_,_,st=>⟨rfl,rfl,Nat.le_refl _,Nat.le_refl _,st⟩
  | f+1,m,h1,hm,st=>by
    refine⟨h.lt m (by omega),h.lt (m-1) (by omega),h.ne m (m-1) (by omega) (by omega) (by omega),?_⟩
    show KOk lt n (if lt (aT p m) (aT p (m-1))=true then(if 0>0 then kas_desc f (kas_rev p (m-(0+1)) m) (m+1) 0 else kas_desc f p (m+1) 0)
      else .ask (aT p (m-1)) (aT p m) fun d=>if d=true then .ret (p,m,0)else kas_desc f p (m+1) (0+1)) _
    by_cases c:lt (aT p m) (aT p (m-1))=true
    . rw [if_pos c,if_neg (by omega)]
      have st':DsT lt p (m+1):=fun i j hij hj=>by
        by_cases e:j=m
        . subst e
          by_cases e2:i=j-1
          . subst e2
            exact c
          . exact L.trans _ _ _ (h.lt _ (by omega)) (h.lt _ (by omega)) (h.lt _ (by omega)) c (st i (j-1) (by omega) (by omega))
        . exact st i j hij (by omega)
      refine(Sd L h f (m+1) (by omega) (by omega) st').mono fun r hr=> ?_
      exact⟨hr.1,hr.2.1,by omega,by omega,hr.2.2.2.2⟩
    . rw [if_neg c]
      have c2:lt (aT p (m-1)) (aT p m)=true:=by
        have:=L.tri _ _ (h.lt m (by omega)) (h.lt (m-1) (by omega)) (h.ne m (m-1) (by omega) (by omega) (by omega))
        cases e:lt (aT p (m-1)) (aT p m)
        . rw [e]at this
          exact absurd this c
        . rfl
      refine⟨h.lt (m-1) (by omega),h.lt m (by omega),h.ne (m-1) m (by omega) (by omega) (by omega),?_⟩
      show KOk lt n (if lt (aT p (m-1)) (aT p m)=true then KasT.ret (p,m,0)else kas_desc f p (m+1) (0+1)) _
      rw [if_pos c2]
      exact⟨rfl,rfl,Nat.le_refl _,Nat.le_add_right _ _,st⟩
theorem Aba {p:Array Nat}{m:Nat} (hm:m<=p.size) (d:DsT lt p m):StT lt (kas_rev p 0 m) m:=fun i j hij hj=>by
  have e:∀k,k<m->aT (kas_rev p 0 m) k=aT p (0+m-1-k):=fun k hk=>W4 (by
    unfold kas_rev
    rw [getElem?_mirror_all hm,if_pos ⟨Nat.zero_le _,hk⟩])
  rw [e i (by omega),e j hj]
  exact d _ _ (by omega) (by omega)
theorem Xi (L:LO n lt) {p:Array Nat} (h:PM n p) (h1:1<=n):KOk lt n (kas_count n p) fun r=>PM n r.2/\1<=r.1/\r.1<=n/\StT lt r.2 r.1:=by
  unfold kas_count
  refine KOk.bind ((Sq L h (n-1) 1 (Nat.le_refl _) (by omega) fun i j hij hj=>by omega).mono fun r hr=> ?_)
  by_cases c:(r==n)=true
  . rw [if_pos c]
    exact⟨h,hr.1,by omega,hr.2.2.1⟩
  . rw [if_neg c]
    have c':r≠n:=fun e=>c (by simp [e])
    by_cases c1:r>1
    . rw [if_pos c1]
      refine⟨h.lt 0 (by omega),h.lt (r-1) (by omega),h.ne 0 (r-1) (by omega) (by omega) (by omega),?_⟩
      show KOk lt n (if lt (aT p 0) (aT p (r-1))=true then KasT.ret (r,p)else kas_descPart r n (kas_rev p 0 r)) _
      rw [if_pos (hr.2.2.1 0 (r-1) (by omega) (by omega))]
      exact⟨h,hr.1,by omega,hr.2.2.1⟩
    . rw [if_neg c1]
      have e:r=1:=by omega
      subst e
      have l:=hr.2.2.2 (by omega)
      unfold kas_descPart
      refine KOk.bind ((Sd L h (n-(1+1)) (1+1) (by omega) (by omega) fun i j hij hj=> ?_).mono fun r hr=> ?_)
      . have e1:i=0:=by omega
        have e2:j=1:=by omega
        subst e1 e2
        exact l
      . obtain⟨q,m,z⟩:=r
        obtain⟨e1,e2,a1,a2,a3⟩:=hr
        dsimp only at e1 e2 a1 a2 a3 ⊢
        subst e1 e2
        rw [if_neg (by omega)]
        unfold kas_tail3
        have hz:=h.sz
        refine KOk.bind ((Sq L (h.rev 0 m) (n-m) m (by omega) (by omega) (Aba (by omega) a3)).mono fun r hr=> ?_)
        exact⟨h.rev 0 m,by omega,by omega,hr.2.2.1⟩
theorem K5 (L:LO n lt) {p:Array Nat} (h:PM n p) {k:Nat} (hk:k<n) (st:StT lt p k):∀(f l r:Nat),l<=r->r<=k->r-l<=f->(∀i,i<l->lt (aT p i) (aT p k)=true)->(∀i,r<=i->i<k->lt (aT p k) (aT p i)=true)->
    KOk lt n (kas_place p k f l r) fun l=>l<=k/\(∀i,i<l->lt (aT p i) (aT p k)=true)/\(∀i,l<=i->i<k->lt (aT p k) (aT p i)=true)
  | 0,l,r,h1,h2,h3,a,b=>⟨by omega,a,fun i hi=>b i (by omega)⟩
  | f+1,l,r,h1,h2,h3,a,b=>by
    show KOk lt n (if l>=r then KasT.ret l else .ask (aT p k) (aT p ((l+r)/2)) fun c=>if c=true then kas_place p k f l ((l+r)/2)else kas_place p k f ((l+r)/2+1) r) _
    by_cases c:l>=r
    . rw [if_pos c]
      exact⟨by omega,a,fun i hi=>b i (by omega)⟩
    . rw [if_neg c]
      have hm:(l+r)/2<k:=by omega
      refine⟨h.lt k hk,h.lt _ (by omega),h.ne k _ hk (by omega) (by omega),?_⟩
      show KOk lt n (if lt (aT p k) (aT p ((l+r)/2))=true then kas_place p k f l ((l+r)/2)else kas_place p k f ((l+r)/2+1) r) _
      by_cases c1:lt (aT p k) (aT p ((l+r)/2))=true
      . rw [if_pos c1]
        refine K5 L h hk st f l ((l+r)/2) (by omega) (by omega) (by omega) a fun i hi hik=> ?_
        by_cases e:i=(l+r)/2
        . rw [e]
          exact c1
        . exact L.trans _ _ _ (h.lt _ hk) (h.lt _ (by omega)) (h.lt _ (by omega)) c1 (st _ _ (by omega) hik)
      . rw [if_neg c1]
        have c2:lt (aT p ((l+r)/2)) (aT p k)=true:=by
          have:=L.tri _ _ (h.lt k hk) (h.lt ((l+r)/2) (by omega)) (h.ne k _ hk (by omega) (by omega))
          cases e:lt (aT p ((l+r)/2)) (aT p k)
          . rw [e]at this
            exact absurd this c1
          . rfl
        refine K5 L h hk st f ((l+r)/2+1) r (by omega) h2 (by omega) (fun i hi=> ?_) b
        by_cases e:i=(l+r)/2
        . rw [e]
          exact c2
        . exact L.trans _ _ _ (h.lt _ (by omega)) (h.lt _ (by omega)) (h.lt _ hk) (st _ _ (by omega) (by omega)) c2
theorem Yj (L:LO n lt):∀(f:Nat) (p:Array Nat) (k:Nat),PM n p->k+f=n->StT lt p k->KOk lt n (kas_bin f p k) fun q=>PM n q/\StT lt q n
  | 0,p,k,h,e,st=>⟨h,by rw [<-e];exact st⟩
  | f+1,p,k,h,e,st=>by
    unfold kas_bin
    have hk:k<n:=by omega
    refine KOk.bind ((K5 L h hk st k 0 k (Nat.zero_le _) (Nat.le_refl _) (by omega) (fun i hi=>by omega) fun i h1 h2=>by omega).mono fun l hl=> ?_)
    obtain⟨l1,l2,l3⟩:=hl
    refine Yj L f _ (k+1) (h.perm (bubble_perm _ _ _)) (by omega) fun i j hij hj=> ?_
    have hz:=h.sz
    have g:∀i,aT (bubble p k (k-l)) i=if i=l then aT p k else if l<i/\i<=k then aT p (i-1)else aT p i:=fun i=>by
      have:=getElem?_bubble (xs:=p) (src:=k) (by omega) (k-l) (by omega) i
      rw [show k-(k-l)=l by omega]at this
      split
      . rename_i c
        rw [if_pos c]at this
        exact W4 this
      . rename_i c
        rw [if_neg c]at this
        split
        . rename_i c2
          rw [if_pos c2]at this
          exact W4 this
        . rename_i c2
          rw [if_neg c2]at this
          exact W4 this
    rw [g i,g j]
    by_cases ei:i=l
    . rw [if_pos ei,if_neg (by omega),if_pos (by omega)]
      exact l3 _ (by omega) (by omega)
    . rw [if_neg ei]
      by_cases ej:j=l
      . rw [if_neg (by omega),if_pos ej]
        exact l2 _ (by omega)
      . rw [if_neg ej]
        by_cases ci:l<i/\i<=k
        . rw [if_pos ci,if_pos (by omega)]
          exact st _ _ (by omega) (by omega)
        . rw [if_neg ci]
          by_cases cj:l<j/\j<=k
          . rw [if_pos cj]
            by_cases e3:i=j-1
            . omega
            . exact st _ _ (by omega) (by omega)
          . rw [if_neg cj]
            exact st _ _ (by omega) (by omega)
theorem Aat (L:LO n lt) (h1:1<=n):KOk lt n (kas_sort n) fun q=>PM n q/\StT lt q n:=by
  unfold kas_sort
  refine KOk.bind ((Xi L (PM.start n) h1).mono fun r hr=> ?_)
  obtain⟨a1,a2,a3,a4⟩:=hr
  by_cases c:r.1<n
  . rw [if_pos c]
    have e:max r.1 1=r.1:=by omega
    rw [e]
    exact Yj L _ _ _ a1 (by omega) a4
  . rw [if_neg c]
    have e:r.1=n:=by omega
    rw [e]at a4
    exact⟨a1,a4⟩
end
end L2
namespace L2
open PySem PySem.Spec PySem.Calls PyProof.Rows PySem.W
theorem Lb:∀ns ms:List Int,ns≠ms->HT.lexLt ns ms= !HT.lexLt ms ns
  | [],[],h=>absurd rfl h
  | [],_::_,_=>rfl
  | _::_,[],_=>rfl
  | x::xs,y::ys,h=>by
    rw [HT.Cd,HT.Cd]
    by_cases e:x=y
    . subst e
      rw [if_pos rfl,if_pos rfl]
      exact Lb xs ys fun z=>h (by rw [z])
    . rw [if_neg e,if_neg (Ne.symm e)]
      by_cases l:x<y
      . rw [decide_eq_true l,decide_eq_false (by omega)]
        rfl
      . rw [decide_eq_false l,decide_eq_true (by omega)]
        rfl
theorem lex_trans:∀ns ms ls:List Int,HT.lexLt ns ms=true->HT.lexLt ms ls=true->HT.lexLt ns ls=true
  | [],[],_,h,_=>by cases h
  | [],_::_,[],_,h=>by cases h
  | [],_::_,_::_,_,_=>rfl
  | _::_,[],_,h,_=>by cases h
  | _::_,_::_,[],_,h=>by cases h
  | x::xs,y::ys,z::zs,h1,h2=>by
    rw [HT.Cd]at h1 h2 ⊢
    by_cases e:x=y
    . subst e
      rw [if_pos rfl]at h1
      by_cases e2:x=z
      . rw [if_pos e2]at h2 ⊢
        exact lex_trans xs ys zs h1 h2
      . rw [if_neg e2]at h2 ⊢
        exact h2
    . rw [if_neg e]at h1
      have l1:=of_decide_eq_true h1
      by_cases e2:y=z
      . subst e2
        rw [if_neg e]
        exact h1
      . rw [if_neg e2]at h2
        have l2:=of_decide_eq_true h2
        rw [if_neg (by omega)]
        exact decide_eq_true (by omega)
theorem Lw {P:Program}{w:World}:∀ {ns:List Int}{us:List Value},IntsAre us ns->ItemsAre (intKind P w) ns us
  | _,_,.nil=> .nil
  | _,_,.cons n t r=> .cons (by show Value.isInt n (.int n t)=true;simp [Value.isInt]) (Lw r)
theorem Gn {prog:Program}{w:World}{A:Around}{E:Value->Shared->Prop}{s:Shared}{a:Addr}{vs:List Value}{n:Nat}{P:PySem.Fin->Shared->Prop}{κ:SortKind}{lt:Nat->Nat->Bool}
    (ho:s.heap.get? a=some (seqObj "list" vs.toArray n)) (h64:vs.length<64) (L:LO vs.length lt)
    (hk:2<=vs.length->∀h':Heap,(∀b o,b≠a->s.heap.get? b=some o->h'.get? b=some o)->wpAny (model prog w) A (keyKind' vs.toArray) (fun κ' s'=>κ'=κ/\s'={ s with heap:=h'}) (fun _ _=>False) { s with heap:=h'})
    (hc:∀(h':Heap) (i j:Nat) (C:Bool->Shared->Prop),(∀b o,b≠a->s.heap.get? b=some o->h'.get? b=some o)->i<vs.length->j<vs.length->i≠j->C (lt i j) { s with heap:=h'}->kas_ask prog w A κ vs i j C { s with heap:=h'})
    (h:∀p:Array Nat,PM vs.length p->StT lt p vs.length->P (.done (.ret .none)) { s with heap:=sortedHeap s.heap a vs (List.toArray (p.toList.map fun i=>vs.getD i Value.none))}):
    wpAny (model prog w) A (Builtin.«list.sort» ⟨[.ref a],[]⟩) P E s:=by
  have ha:a<s.heap.objs.size:=Heap.lt_size ho
  obtain⟨e1,ho1⟩:∃e1,(s.heap.update a (Obj.mapSeq fun _=>(#[]:Array Value))).get? a=some (seqObj "list" #[] e1):=⟨_,get?_update_seq ho fun _=> #[]⟩
  rw [list_sort_plain]
  refine wpAny_bind (listItems_at ho rfl ?_)
  refine wpAny_bind (listUpdate_at ho rfl ?_ (by rw [List.size_toArray,sizeLine_eq];omega) (Nat.zero_le _))
  refine wpAny_bind (seqEpoch_at ho1 rfl ?_)
  refine wpAny_bind (wpAny_newTuple ?_ (by show vs.length<=_;rw [sizeLine_eq];omega))
  refine wpAny_bind (wpAny_newList ?_ (Nat.zero_le _))
  refine wpAny_holding ?_
  show wpAny (model prog w) A _ P E { s with heap:=((s.heap.update a (Obj.mapSeq fun _=>(#[]:Array Value))).push (seqObj "tuple" vs.toArray 0)).push (seqObj "list" #[] 0)}
  dsimp only
  have ho6:(((s.heap.update a (Obj.mapSeq fun _=>(#[]:Array Value))).push (seqObj "tuple" vs.toArray 0)).push (seqObj "list" #[] 0)).get? a=some (seqObj "list" #[] e1):=by
    rw [Heap.get?_push_ne _ _ _ (by rw [size_push',Heap.size_update];exact Nat.ne_of_lt (Nat.lt_succ_of_lt ha)),Heap.get?_push_ne _ _ _ (by rw [Heap.size_update];exact Nat.ne_of_lt ha)]
    exact ho1
  have kp:∀b o,b≠a->s.heap.get? b=some o->(((s.heap.update a (Obj.mapSeq fun _=>(#[]:Array Value))).push (seqObj "tuple" vs.toArray 0)).push (seqObj "list" #[] 0)).get? b=some o:=fun b o hb e=>by
    have hlt:b<s.heap.objs.size:=Heap.lt_size e
    rw [Heap.get?_push_ne _ _ _ (by rw [size_push',Heap.size_update];exact Nat.ne_of_lt (Nat.lt_succ_of_lt hlt)),Heap.get?_push_ne _ _ _ (by rw [Heap.size_update];exact Nat.ne_of_lt hlt),Heap.get?_update_ne _ _ _ _ hb]
    exact e
  by_cases h2:vs.toArray.size<2
  . rw [if_pos h2,if_pos h2]
    refine wpAny_bind (wpAny_pure ?_)
    rw [StateT.run_pure]
    refine wpAny_bind (wpAny_pure ?_)
    dsimp only
    have hl:vs.length<2:=by rw [List.size_toArray]at h2;exact h2
    have hout:(arrOf (SortSt.mk' general' (vs.toArray.zip vs.toArray) #[] 7 none)).map (·.2)=List.toArray ((List.toArray (List.range vs.length)).toList.map fun i=>vs.getD i Value.none):=by
      show(vs.toArray.zip vs.toArray).map (·.2)=_
      match vs,hl with
      | [],_=>simp
      | [v],_=>simp [List.range_succ]
    rw [hout]
    refine wpAny_bind (seqEpoch_at ho6 rfl ?_)
    refine wpAny_bind (listUpdate_at ho6 rfl ?_ (Nat.zero_le _) (by rw [List.size_toArray,List.length_map,sizeLine_eq];simp;omega))
    simp only [bne_self_eq_false,Bool.false_eq_true,if_false]
    exact wpAny_pure (h _ (PM.start _) fun i j hij hj=>by omega)
  . rw [if_neg h2,if_neg h2]
    have hl:2<=vs.length:=by rw [List.size_toArray]at h2;omega
    refine wpAny_bind (wpAny_mono (hk hl _ kp) (fun κ' s0 hh=> ?_) fun _ _ x=>x.elim)
    obtain⟨rfl,rfl⟩:=hh
    have ask:=KOk.wp (I:=fun s'=>s'={ s with heap:=((s.heap.update a (Obj.mapSeq fun _=>(#[]:Array Value))).push (seqObj "tuple" vs.toArray 0)).push (seqObj "list" #[] 0)})
      (cmp:=kas_ask prog w A κ' vs) (Q:=fun p s'=>(PM vs.length p/\StT lt p vs.length)/\s'={ s with heap:=((s.heap.update a (Obj.mapSeq fun _=>(#[]:Array Value))).push (seqObj "tuple" vs.toArray 0)).push (seqObj "list" #[] 0)})
      (fun i j C s' e hi hj hn q=>by subst e;exact hc _ i j C kp hi hj hn (q _ rfl)) (fun p s' hp e=>⟨hp,e⟩) rfl (Aat L (by omega))
    refine wpAny_bind (wpAny_mono (kat_run (Q:=fun st' s'=>∃p:Array Nat,p.size=vs.length/\arrOf st'=p.map (kas_item (vs.toArray.zip vs.toArray))/\failedOf st'=none/\(PM vs.length p/\StT lt p vs.length)/\s'={ s with heap:=((s.heap.update a (Obj.mapSeq fun _=>(#[]:Array Value))).push (seqObj "tuple" vs.toArray 0)).push (seqObj "list" #[] 0)})
      rfl hl h64 (fun p' st' s' a1 a2 a3 a4=>⟨p',a1,a2,a3,a4⟩) ask) ?_ fun _ _ e=>e)
    rintro⟨⟨⟩,st'⟩ s' ⟨p,hp,har,hf,hP,rfl⟩
    dsimp only
    have hout:=kat_snds rfl har
    have hsz:(List.toArray (p.toList.map fun i=>vs.getD i Value.none)).size=vs.length:=by rw [List.size_toArray,List.length_map,Array.length_toList,hp]
    rw [hout]
    refine wpAny_bind (seqEpoch_at ho6 rfl ?_)
    refine wpAny_bind (listUpdate_at ho6 rfl ?_ (Nat.zero_le _) (Nat.le_trans (Nat.le_of_eq hsz) (by rw [sizeLine_eq];omega)))
    rw [hf]
    simp only [bne_self_eq_false,Bool.false_eq_true,if_false]
    exact wpAny_pure (h p hP.1 hP.2)
abbrev Prt:=Addr × Addr × List Int × V
def Prt.ks (t:Prt):List Int:=t.2.2.1
structure Acu (K:PySem.W.Frag) (H:Hp) (t:Prt):Prop where
  pr:SqT K H t.1 [.ref t.2.1,t.2.2.2]
  tu:SqT K H t.2.1 (t.ks.map V.int)
theorem Vj:∀ {as:List Addr}{us:List Value},Vals (as.map V.ref) us->us=as.map Value.ref
  | [],_,.nil=>rfl
  | _::_,_,.cons r t=>by
    cases r
    rw [Vj t]
    rfl
theorem Jk:∀as:List Addr,Vals (as.map V.ref) (as.map Value.ref)
  | []=> .nil
  | _::r=> .cons rfl (Jk r)
structure W2 (P:Program) (w:World) (h:Heap) (t:Prt):Prop where
  pr:∃o xs n u,h.get? t.1=some o/\o.cls= .type "tuple"/\o.data= .seq xs n/\xs.toList=[.ref t.2.1,u]
  tu:∃its:List Value,IsTup h t.2.1 its.toArray/\IntsAre its t.ks
theorem W2.keeps {P:Program}{w:World}{h h':Heap}{a:Addr}{t:Prt} (x:W2 P w h t) (k:∀b o,b≠a->h.get? b=some o->h'.get? b=some o) (h1:t.1≠a) (h2:t.2.1≠a):W2 P w h' t:=by
  obtain⟨⟨o,xs,n,u,e,r⟩,its,⟨ot,et,rt⟩,i⟩:=x
  exact⟨⟨o,xs,n,u,k _ _ h1 e,r⟩,its,⟨ot,k _ _ h2 et,rt⟩,i⟩
theorem Acu.at {X:Cx}{pins:List (Addr × Obj)}{σ:St}{H:Hp}{s:Shared}{t:Prt} (I:Inv X pins σ H s) (x:Acu X.K H t):W2 X.prog X.w s.heap t/\t.1<s.heap.objs.size/\t.2.1<s.heap.objs.size:=by
  obtain⟨its,r,⟨o,e,c,n,d⟩,_⟩:=I.tuple x.pr
  obtain⟨its2,r2,p2,_⟩:=I.tuple x.tu
  refine⟨⟨?_,its2,p2,intsAre_of r2⟩,Heap.lt_size e,p2.lt⟩
  cases r with
  | cons r1 r'=>
    cases r1
    cases r' with
    | cons r3 r4=>
      cases r4
      exact⟨o,_,n,_,e,c,d,rfl⟩
theorem O9 {P:Program}{w:World}{h:Heap}:∀ts:List Prt,(∀t∈ts,W2 P w h t)->KatTups h (ts.map fun t=>Value.ref t.1) (ts.map fun t=>Value.ref t.2.1)
  | [],_=> .nil
  | t::r,k=>by
    obtain⟨o,xs,n,u,e,c,d,x⟩:=(k t (.head _)).pr
    exact KatTups.cons e c d (by rw [<-Array.getElem?_toList,x];rfl) (O9 r fun t ht=>k t (.tail _ ht))
theorem Ad4 {P:Program}{w:World}{A:Around}{E:Value->Shared->Prop}{s:Shared}{x y:Prt}{Q:Bool->Shared->Prop} (hu:A.units<cLine) (hx:W2 P w s.heap x) (hy:W2 P w s.heap y) (hn:x.ks≠y.ks) (q:Q (HT.lexLt x.ks y.ks) s):
    wpAny (model P w) A (keyLt' (tuples' false) (.ref x.1) (.ref y.1)) Q E s:=by
  obtain⟨o,xs,n,u,e,c,d,ex⟩:=hx.pr
  obtain⟨o',ys,n',u',e',c',d',ey⟩:=hy.pr
  obtain⟨its,t1,i1⟩:=hx.tu
  obtain⟨its',t2,i2⟩:=hy.tu
  refine kat_lt e d e' d' ?_
  rw [ex,ey]
  have k1:IsTupleKey (intKind P w) s.heap x.ks x.2.1:=by
    obtain⟨ot,et,ct,nt,dt⟩:=t1
    exact⟨ot,_,nt,et,ct,dt,Lw i1⟩
  have k2:IsTupleKey (intKind P w) s.heap y.ks y.2.1:=by
    obtain⟨ot,et,ct,nt,dt⟩:=t2
    exact⟨ot,_,nt,et,ct,dt,Lw i2⟩
  refine kat_cons (wpAny_eqBool_tuple hu k1 k2 ?_)
  rw [decide_eq_false hn]
  refine kat_no (kat_one _ _ ?_)
  exact HT.Ku t1 t2 i1 i2 hu q
theorem Rv {X:Cx} (hu:X.A.units+64<cLine):Dv X (.builtin "sorted") (fun xs H Q=>∃(d:Addr) (ts:List Prt),xs=[.ref d]/\SqL X.K H d (ts.map fun t=>V.ref t.1)/\(∀t∈ts,Acu X.K H t)/\(ts.map Prt.ks).Nodup/\ts.length<64/\
    ∀(l:Addr) (us:List Prt),H l=none->us.Perm ts->us.Pairwise (fun x y=>HT.lexLt x.ks y.ks=true)->Q (.ref l) (upd H l (.lst (us.map fun t=>V.ref t.1)))):=by
  intro pins s σ H xs us Q I r h
  obtain⟨d,ts,rfl,hd,hp,nd,h64,q⟩:=h
  obtain⟨u,rfl,ru⟩:=vals1 r
  cases ru
  obtain⟨its,rv,⟨oL,nL,eL,cL,dL,sL⟩,hz⟩:=I.list hd
  have ev:its=ts.map fun t=>Value.ref t.1:=by
    have:=Vj (as:=ts.map fun t=>t.1) (us:=its) (by simpa [List.map_map,Function.comp_def]using rv)
    simpa [List.map_map,Function.comp_def]using this
  have hl:its.length=ts.length:=by rw [ev,List.length_map]
  have hIsL:s.heap.IsList d its.toArray:=⟨oL,eL,cL,nL,sL⟩
  have hat:∀t∈ts,W2 X.prog X.w s.heap t/\t.1<s.heap.objs.size/\t.2.1<s.heap.objs.size:=fun t ht=>(hp t ht).at I
  have hget:∀i (hi:i<its.length),its.getD i Value.none= .ref (ts[i]'(by omega)).1:=fun i hi=>by
    subst ev
    simp only [List.length_map]at hi
    simp [hi]
  refine call_function_entry kind_sorted plain_sorted entry_sorted (args_sorted1 _) ?_
  unfold Builtin.«sorted»
  refine wpAny_bind (m:=checkCount "sorted" 1 1 _) (wpAny_pure ?_)
  refine wpAny_bind (collect_list hIsL ?_ (by rw [sizeLine_eq];omega))
  refine wpAny_bind (wpAny_newList ?_ (by rw [sizeLine_eq];omega))
  have hsz:((s.heap.push (seqObj "list" #[] 0)).update s.heap.objs.size (Obj.mapSeq (· ++its.toArray))).objs.size=s.heap.objs.size+1:=by
    rw [Heap.size_update,size_push']
  have hoL:(((s.heap.push (seqObj "list" #[] 0)).update s.heap.objs.size (Obj.mapSeq (· ++its.toArray))).push (seqObj "list" its.toArray 0)).get? (s.heap.objs.size+1)=some (seqObj "list" its.toArray 0):=by
    rw [<-hsz];exact Heap.get?_push_size _ rfl
  have keep:∀b o,s.heap.get? b=some o->(((s.heap.push (seqObj "list" #[] 0)).update s.heap.objs.size (Obj.mapSeq (· ++its.toArray))).push (seqObj "list" its.toArray 0)).get? b=some o:=fun b o q=>by
    have hlt:b<s.heap.objs.size:=Heap.lt_size q
    rw [Heap.get?_push_ne _ _ _ (by rw [hsz];exact Nat.ne_of_lt (Nat.lt_succ_of_lt hlt)),Heap.get?_update_ne _ _ _ _ (Nat.ne_of_lt hlt),Heap.get?_push_ne _ _ _ (Nat.ne_of_lt hlt)]
    exact q
  show wpAny _ _ _ _ _ { s with heap:=((s.heap.push (seqObj "list" #[] 0)).update s.heap.objs.size (Obj.mapSeq (· ++its.toArray))).push (seqObj "list" its.toArray 0)}
  rw [hsz]
  generalize ((s.heap.push (seqObj "list" #[] 0)).update s.heap.objs.size (Obj.mapSeq (· ++its.toArray))).push (seqObj "list" its.toArray 0)=g at hoL keep ⊢
  have hatg:∀h':Heap,(∀b o,b≠s.heap.objs.size+1->g.get? b=some o->h'.get? b=some o)->∀t∈ts,W2 X.prog X.w h' t:=fun h' k t ht=>by
    obtain⟨x,l1,l2⟩:=hat t ht
    exact(x.keeps (a:=s.heap.objs.size+1) (fun b o _ e=>keep b o e) (Nat.ne_of_lt (Nat.lt_succ_of_lt l1)) (Nat.ne_of_lt (Nat.lt_succ_of_lt l2))).keeps k (Nat.ne_of_lt (Nat.lt_succ_of_lt l1)) (Nat.ne_of_lt (Nat.lt_succ_of_lt l2))
  have L:LO its.length (fun i j=>HT.lexLt ((ts.map Prt.ks).getD i []) ((ts.map Prt.ks).getD j [])):=by
    refine⟨fun i j hi hj hn=>Lb _ _ fun e=> ?_,fun i j k _ _ _=>lex_trans _ _ _⟩
    have pw:=List.pairwise_iff_getElem.mp nd
    have hi':i<(ts.map Prt.ks).length:=by rw [List.length_map];omega
    have hj':j<(ts.map Prt.ks).length:=by rw [List.length_map];omega
    have e3:(ts.map Prt.ks)[i]=(ts.map Prt.ks)[j]:=by
      rw [List.getD_eq_getElem?_getD,List.getD_eq_getElem?_getD,List.getElem?_eq_getElem hi',List.getElem?_eq_getElem hj']at e
      exact e
    rcases Nat.lt_or_gt_of_ne hn with l | l
    . exact pw i j hi' hj' l e3
    . exact pw j i hj' hi' l e3.symm
  refine wpAny_bind (wpAny_holding (wpAny_call_entry slot_list_sort ⟨_,hoL,rfl⟩ entry_list_sort (Gn (κ:=tuples' false) (n:=0) hoL (by omega) L (fun h2 h' k=> ?_) (fun h' i j C k hi hj hn hC=> ?_) fun p hP hS=>⟨_,rfl,?_⟩) (args_list_sort _)))
  . rw [ev]
    refine kat_kind (T:= .type "tuple") (fs:=ts.map fun t=>Value.ref t.2.1) (O9 ts (hatg h' k)) (by rw [List.length_map];omega) (fun v hv=> ?_) (by simp) ⟨by simp,rfl⟩
    obtain⟨t,ht,rfl⟩:=List.mem_map.mp hv
    obtain⟨its2,⟨o,e,c,_⟩,_⟩:=(hatg h' k t ht).tu
    rw [<-c]
    exact(Looks.ld e).andThen .now
  . unfold kas_ask
    rw [hget i hi,hget j hj]
    have e:∀i (hi:i<its.length),(ts.map Prt.ks).getD i []=(ts[i]'(by omega)).ks:=fun i hi=>by
      rw [hl]at hi
      simp [hi]
    rw [e i hi,e j hj]at hC
    refine Ad4 ?_ (hatg h' k _ (List.getElem_mem _)) (hatg h' k _ (List.getElem_mem _)) (fun z=> ?_) hC
    . show X.A.units+2<cLine
      omega
    . have z2:=L.tri i j hi hj hn
      rw [e i hi,e j hj,z]at z2
      simp at z2
  . refine wpAny_pure ⟨_,rfl,?_⟩
    have eo:(p.toList.map fun i=>its.getD i Value.none)=(p.toList.map fun i=>ts.getD i (0,0,[],V.non)).map fun t=>Value.ref t.1:=by
      rw [List.map_map]
      refine List.map_congr_left fun i hi=> ?_
      have hi2:i<its.length:=List.mem_range.mp (hP.pm.mem_iff.mp hi)
      rw [hget i hi2]
      show _=Value.ref (ts.getD i _).1
      rw [hl]at hi2
      simp [hi2]
    have hpm:(p.toList.map fun i=>ts.getD i (0,0,[],V.non)).Perm ts:=by
      have h1:=hP.pm.map fun i=>ts.getD i ((0,0,[],V.non):Prt)
      have h2:(List.range its.length).map (fun i=>ts.getD i ((0,0,[],V.non):Prt))=ts:=by
        rw [hl]
        refine List.ext_getElem (by simp) fun i a b=> ?_
        simp only [List.length_map,List.length_range]at a
        simp [a]
      rw [h2]at h1
      exact h1
    have hpw:(p.toList.map fun i=>ts.getD i ((0,0,[],V.non):Prt)).Pairwise (fun x y=>HT.lexLt x.ks y.ks=true):=by
      refine List.pairwise_iff_getElem.mpr fun i j hi hj hij=> ?_
      have hz2:(p.toList.map fun i=>ts.getD i ((0,0,[],V.non):Prt)).length=its.length:=by rw [List.length_map,Array.length_toList,hP.sz]
      have g:∀i (hi:i<(p.toList.map fun i=>ts.getD i ((0,0,[],V.non):Prt)).length),((p.toList.map fun i=>ts.getD i ((0,0,[],V.non):Prt))[i]).ks=(ts.map Prt.ks).getD (aT p i) []:=fun i hi=>by
        have hi1:i<p.size:=by rw [hP.sz,<-hz2];exact hi
        have ea:p.toList[i]'(by rw [Array.length_toList];exact hi1)=aT p i:=by simp [aT,hi1]
        have hb:aT p i<ts.length:=by rw [<-hl];exact hP.lt i (by rw [<-hP.sz];exact hi1)
        rw [List.getElem_map,ea]
        simp [hb]
      rw [g i hi,g j hj]
      exact hS i j hij (by rw [<-hz2];exact hj)
    obtain⟨e,he⟩:=sortedHeap_at (out:=List.toArray (p.toList.map fun i=>its.getD i Value.none)) hoL
    have kp:∀b o,s.heap.get? b=some o->(sortedHeap g (s.heap.objs.size+1) its (List.toArray (p.toList.map fun i=>its.getD i Value.none))).get? b=some o:=fun b o e1=>by
      have lt:b<s.heap.objs.size:=Heap.lt_size e1
      rw [sortedHeap_old (Nat.ne_of_lt (Nat.lt_succ_of_lt lt)) (Heap.lt_size (keep b o e1))]
      exact keep b o e1
    have hlen:(p.toList.map fun i=>ts.getD i ((0,0,[],V.non):Prt)).length<=sizeLine:=by rw [hpm.length_eq,sizeLine_eq];omega
    refine⟨.ref (s.heap.objs.size+1),_,I.laid (a:=s.heap.objs.size+1) (t':=s.toks) (o:= .lst ((p.toList.map fun i=>ts.getD i ((0,0,[],V.non):Prt)).map fun t=>V.ref t.1)) kp (Nat.le_succ _) ⟨by rw [List.length_map];exact hlen,p.toList.map fun i=>its.getD i Value.none,e,?_,he⟩,rfl,q _ _ (I.hok.fresh (Nat.le_succ _)) hpm hpw⟩
    rw [eo]
    have:=Jk ((p.toList.map fun i=>ts.getD i ((0,0,[],V.non):Prt)).map fun t=>t.1)
    simpa [List.map_map,Function.comp_def]using this
end L2
namespace L2
open PySem PySem.Spec PyProof.Rows
section
variable {prog:Program}{w:World}{A:Around}{E:Value->Shared->Prop}{s:Shared}
theorem Xc {v d:Addr}{o:Obj}{es:Array DictEntry}{ep:Nat}{Q:Value->Shared->Prop} (hv:s.heap.IsItemsView v d) (ho:s.heap.get? d=some o) (hdat:o.data= .dict es ep)
    (hQ:Q (.ref s.heap.objs.size) { s with heap:=s.heap.push { cls:= .type "dict_itemiterator",data:= .fields #[.none,.bool false,.ref d,.int 0 0,.int es.size 0,.int ep 0,.none,.none]}}):wpAny (model prog w) A (pyIter (.ref v)) Q E s:=by
  obtain⟨ov,hov,hcv,hdv⟩:=id hv
  refine wpAny_pyIter_slot hv.typeIs F.slot_dict_items_iter (wpAny_call_entry F.slot_dict_items_iter hv.typeIs F.entry_dict_items_iter ?_ (F.args_dict_items_iter_1 _))
  unfold Builtin.«dict_items.__iter__»
  refine wpAny_bind (wpAny_pure (wpAny_bind ?_))
  unfold Builtin.Dict_items.dictOf
  refine wpAny_bind (wpAny_field hov hdv (x:= .ref d) rfl (wpAny_pure (wpAny_bind ?_)))
  unfold Builtin.Dict_items.newIterator
  refine wpAny_bind (wpAny_dictEntries ho hdat (wpAny_bind (wpAny_dictEpoch ho hdat ?_)))
  have hown:Builtin.Dict_items.ownsTuple "dict_itemiterator"=true:=by decide
  simp only [hown,if_true]
  refine wpAny_newObj_type (wpAny_pure ⟨_,rfl,"dict_itemiterator",_,⟨_,Heap.get?_push_size _ rfl,rfl⟩,F.slot_dict_itemiterator_next.lookup,?_⟩)
    (by simp only [sizeOk,Builtin.Dict_items.ownedTupleFields,List.size_toArray,List.length_append,List.length_cons,List.length_nil,sizeLine_eq];omega)
  simpa [rawInt,Builtin.Dict_items.ownedTupleFields]using hQ
theorem W5 {it d:Addr}{i ep:Nat}{od:Obj}{es:Array DictEntry}{e:DictEntry}{ok ov:Value}{Q:Option Value->Shared->Prop} (hit:IsItemIter s.heap it d i es.size ep ok ov) (hod:s.heap.get? d=some od) (hdd:od.data= .dict es ep) (he:es[i]? =some e)
    (hQ:∀h',IsItemIterOut h' it d (i+1) es.size ep e.key e.val s.heap.objs.size->h'.get? s.heap.objs.size=some { cls:= .type "tuple",data:= .seq #[e.key,e.val]}->h'.objs.size=s.heap.objs.size+1->
      (∀b o,b≠it->s.heap.get? b=some o->h'.get? b=some o)->Q (some (.ref s.heap.objs.size)) { s with heap:=h'}):wpAny (model prog w) A (pyNext (.ref it)) Q E s:=by
  obtain⟨hp,g,dr,tk,os⟩:=s
  have hT:Shared.TypeIs ⟨hp,g,dr,tk,os⟩ (.ref it) "dict_itemiterator":=⟨_,hit,rfl⟩
  unfold pyNext
  refine wpAny_bind (wpAny_attempt (wpAny_callSpecial?_slot (name:=Str.ofString "__next__") hT F.slot_dict_itemiterator_next
    (wpAny_call_entry F.slot_dict_itemiterator_next hT F.entry_dict_itemiterator_next ?_ (F.args_dict_itemiterator_next_1 _))))
  refine wpAny_bind (wpAny_pure (wpAny_bind (wpAny_bind ?_)))
  first | refine wpAny_bind (wpAny_typeNameOfWhole_itemiter hT (wpAny_pure ?_)) | refine wpAny_bind (wpAny_typeNameOf_itemiter hT (wpAny_pure ?_))
  refine wpAny_bind (wpAny_fieldsOf hit rfl ?_)
  have hown:Builtin.Dict_items.ownsTuple "dict_itemiterator"=true:=by decide
  simp only [hown,if_true]
  show wpAny _ _ (if(Value.ref d==Value.none)=true then _ else _) _ _ _
  rw [if_neg (show ¬((Value.ref d==Value.none)=true)from Bool.false_ne_true)]
  refine wpAny_bind (wpAny_pure (wpAny_bind (wpAny_dictEntries hod hdd ?_)))
  rw [if_neg (by simp)]
  refine wpAny_bind (wpAny_pure (wpAny_bind (wpAny_dictEpoch hod hdd ?_)))
  rw [if_neg (by simp)]
  refine wpAny_pure ?_
  obtain⟨hlt',rfl⟩:=Array.getElem?_eq_some_iff.mp he
  simp only [show ¬((i:Int)<0)from by omega,if_false,Int.toNat_natCast,Array.getElem?_eq_getElem hlt']
  refine wpAny_bind ?_
  first | refine wpAny_bind (wpAny_typeNameOfWhole_itemiter hT (wpAny_pure ?_)) | refine wpAny_bind (wpAny_typeNameOf_itemiter hT (wpAny_pure ?_))
  refine wpAny_bind (wpAny_isOneOf_itemiter hT ?_)
  show wpAny _ _ (setField (.ref it) 3 (rawInt ((i:Int)+1))>>=_) _ _ ⟨hp,g,dr,tk,os⟩
  refine wpAny_bind (wpAny_setField_rec hit (by simp) fun h₁ he₁ hs₁=> ?_)
  replace hs₁:Heap.SameBut it hp h₁:=hs₁
  replace he₁:IsItemIter h₁ it d (i+1) es.size ep ok ov:=by
    have e:((i+1:Nat):Int)=(i:Int)+1:=by omega
    unfold IsItemIter;rw [e];simpa [rawInt]using he₁
  have hT₁:Shared.TypeIs ⟨h₁,g,dr,tk,os⟩ (.ref it) "dict_itemiterator":=⟨_,he₁,rfl⟩
  refine wpAny_bind (wpAny_holding (wpAny_bind (wpAny_isOneOf_itemiter hT₁ (wpAny_bind (wpAny_isOneOf_itemiter hT₁ ?_)))))
  show wpAny _ _ (Builtin.Dict_items.pairFromOwner (.ref it) 6 es[i].key es[i].val) _ _ ⟨h₁,g,dr,tk,os⟩
  unfold Builtin.Dict_items.pairFromOwner
  refine wpAny_bind (wpAny_newTuple ?_)
  have he₂:IsItemIter (h₁.push { cls:= .type "tuple",data:= .seq #[es[i].key,es[i].val]}) it d (i+1) es.size ep ok ov:=Heap.get?_push_of_some _ he₁
  generalize hh₂:h₁.push { cls:= .type "tuple",data:= .seq #[es[i].key,es[i].val]}=h₂ at he₂
  have hz₁:h₁.objs.size=hp.objs.size:=hs₁.1
  have hil:it<hp.objs.size:=Heap.lt_size hit
  have ht₂:h₂.get? hp.objs.size=some { cls:= .type "tuple",data:= .seq #[es[i].key,es[i].val]}:=by rw [<-hh₂,<-hz₁];exact Heap.get?_push_size _ rfl
  have hz₂:h₂.objs.size=hp.objs.size+1:=by rw [<-hh₂,Heap.size_push,hz₁]
  have hk₂:∀b o,b≠it->hp.get? b=some o->h₂.get? b=some o:=fun b o hb e=>by rw [<-hh₂];exact Heap.get?_push_of_some _ (hs₁.extBut b o hb e)
  show wpAny _ _ (Builtin.Dict_items.ownedTupleIsFree (.ref it)>>=_) _ _ ⟨h₂,g,dr,tk,os⟩
  rw [hz₁]
  clear hh₂ he₁ hs₁ hT₁ hz₁ h₁
  refine wpAny_bind ?_
  unfold Builtin.Dict_items.ownedTupleIsFree
  refine wpAny_bind (wpAny_field he₂ rfl (x:= .none) rfl (wpAny_pure ?_))
  simp only [if_true]
  refine wpAny_bind (wpAny_field he₂ rfl (x:=ok) rfl (wpAny_bind (wpAny_field he₂ rfl (x:=ov) rfl ?_)))
  refine wpAny_bind (wpAny_setField_rec he₂ (by simp) fun h₃ he₃ hs₃=> ?_)
  replace hs₃:Heap.SameBut it h₂ h₃:=hs₃
  replace he₃:IsItemIter h₃ it d (i+1) es.size ep es[i].key ov:=he₃
  refine wpAny_bind (wpAny_setField_rec he₃ (by simp) fun h₄ he₄ hs₄=> ?_)
  replace hs₄:Heap.SameBut it h₃ h₄:=hs₄
  replace he₄:IsItemIter h₄ it d (i+1) es.size ep es[i].key es[i].val:=he₄
  refine wpAny_bind (wpAny_setField_rec he₄ (by simp) fun h₅ he₅ hs₅=> ?_)
  replace hs₅:Heap.SameBut it h₄ h₅:=hs₅
  replace he₅:IsItemIterOut h₅ it d (i+1) es.size ep es[i].key es[i].val hp.objs.size:=he₅
  refine wpAny_bind (wpAny_setField_rec he₅ (by simp) fun h₆ he₆ hs₆=> ?_)
  replace hs₆:Heap.SameBut it h₅ h₆:=hs₆
  replace he₆:IsItemIterOut h₆ it d (i+1) es.size ep es[i].key es[i].val hp.objs.size:=he₆
  refine wpAny_bind (wpAny_letGo (wpAny_pure (wpAny_pure ⟨_,rfl,wpAny_pure (hQ h₆ he₆ ?_ ?_ ?_)⟩)))
  . exact hs₆.extBut _ _ (Nat.ne_of_gt hil) (hs₅.extBut _ _ (Nat.ne_of_gt hil) (hs₄.extBut _ _ (Nat.ne_of_gt hil) (hs₃.extBut _ _ (Nat.ne_of_gt hil) ht₂)))
  . show h₆.objs.size=hp.objs.size+1
    rw [hs₆.1,hs₅.1,hs₄.1,hs₃.1,hz₂]
  . exact fun b o hb e=>hs₆.extBut b o hb (hs₅.extBut b o hb (hs₄.extBut b o hb (hs₃.extBut b o hb (hk₂ b o hb e))))
theorem Zm {it d:Addr}{i ep:Nat}{od:Obj}{es:Array DictEntry}{ok ov:Value}{Q:Option Value->Shared->Prop} (hh:A.handled=none) (hit:IsItemIter s.heap it d i es.size ep ok ov) (hod:s.heap.get? d=some od) (hdd:od.data= .dict es ep) (hx:es.size<=i)
    (hQ:∀h',Heap.ExtBut it s.heap h'->Q none { s with heap:=h'}):wpAny (model prog w) A (pyNext (.ref it)) Q E s:=by
  have hT:s.TypeIs (.ref it) "dict_itemiterator":=⟨_,hit,rfl⟩
  unfold pyNext
  refine wpAny_bind (wpAny_attempt (wpAny_callSpecial?_slot (name:=Str.ofString "__next__") hT F.slot_dict_itemiterator_next
    (wpAny_call_entry F.slot_dict_itemiterator_next hT F.entry_dict_itemiterator_next ?_ (F.args_dict_itemiterator_next_1 _))))
  refine wpAny_bind (wpAny_pure (wpAny_bind (wpAny_bind ?_)))
  first | refine wpAny_bind (wpAny_typeNameOfWhole_itemiter hT (wpAny_pure ?_)) | refine wpAny_bind (wpAny_typeNameOf_itemiter hT (wpAny_pure ?_))
  refine wpAny_bind (wpAny_fieldsOf hit rfl ?_)
  have hown:Builtin.Dict_items.ownsTuple "dict_itemiterator"=true:=by decide
  simp only [hown,if_true]
  show wpAny _ _ (if(Value.ref d==Value.none)=true then _ else _) _ _ s
  rw [if_neg (show ¬((Value.ref d==Value.none)=true)from Bool.false_ne_true)]
  refine wpAny_bind (wpAny_pure (wpAny_bind (wpAny_dictEntries hod hdd ?_)))
  rw [if_neg (by simp)]
  refine wpAny_bind (wpAny_pure (wpAny_bind (wpAny_dictEpoch hod hdd ?_)))
  rw [if_neg (by simp)]
  refine wpAny_pure ?_
  simp only [show ¬((i:Int)<0)from by omega,if_false,Int.toNat_natCast,Array.getElem?_eq_none hx]
  refine wpAny_bind ?_
  first | refine wpAny_bind (wpAny_typeNameOfWhole_itemiter hT (wpAny_pure ?_)) | refine wpAny_bind (wpAny_typeNameOf_itemiter hT (wpAny_pure ?_))
  show wpAny _ _ (setField (.ref it) 2 .none>>=_) _ _ s
  refine wpAny_bind (wpAny_setField hit rfl (by simp) ?_)
  show wpAny _ _ (newExc (.type "StopIteration") []>>=_) _ _ _
  refine wpAny_bind ?_
  simp only [newExc,newTuple]
  refine wpAny_bind (wpAny_newObj_type ?_ (by size_fits))
  refine wpAny_bind (m:=firstArgMember _ _) (wpAny_of_eq (a:=Value.none) (by first | rfl | (simp only [firstArgMember];rfl)) ?_)
  refine wpAny_newObj_type ?_ (by size_fits)
  simp only [raiseNew]
  refine wpAny_bind (wpAny_handled ?_)
  rw [show A.in1.handled=none from hh]
  refine wpAny_bind (wpAny_pure (wpAny_throw ?_))
  refine wpAny_bind (wpAny_isInstance (T:="StopIteration") (b:=true) ⟨_,Heap.get?_push_size _ rfl,rfl⟩ isSubtype_stop ?_)
  exact wpAny_pure (hQ _ (((Heap.SameBut.update ..).extBut.push _).push _))
end
def Acv (d:Addr) (od:Obj) (kvs:List (List Key × V)):It:=
  ⟨fun i H=>H d=some (.frz od (.dT kvs))/\i<kvs.length,
   fun i H x H'=>∃p b k v,kvs[i]? =some (k,v)/\H b=some (.tup (k.map kV))/\H p=none/\x= .ref p/\H'=upd H p (.tup [.ref b,v]),
   fun i H=>H d=some (.frz od (.dT kvs))/\kvs.length<=i⟩
theorem Sw {P:Program}{w:World}{K:PySem.W.Frag}{el:List Expr}{x1}{tp:Pos} (d it:Addr) (od:Obj) (es:Array DictEntry) (ep:Nat) (kvs:List (List Key × V)) (hdd:od.data= .dict es ep) (hz:es.size=kvs.length) (hid:it≠d):
    Turn P w K (.Tuple el x1 tp) (Acv d od kvs) [it] it (fun i h=>∃ok ov,IsItemIter h it d i es.size ep ok ov) where
  mem:=by simp
  obj:=fun i h st c hc=>by
    obtain⟨ok,ov,hi⟩:=st
    obtain rfl:c=it:=by simpa using hc
    exact⟨_,hi,fun v z=>by cases(show Data.fields _=Data.cell v from z)⟩
  keep:=fun i h h' st k=>by
    obtain⟨ok,ov,hi⟩:=st
    exact⟨ok,ov,k it (by simp) _ hi⟩
  item:=by
    intro X hP hw hK hc i pins s σ H E I hf st hg
    subst hP hw hK
    obtain⟨hd,hi⟩:=hg
    obtain⟨ok,ov,hit⟩:=st
    obtain⟨e1,z,y,xs,r,o,es',ep',h1,h2,h3,h4,h5⟩:=(show Bs X.prog X.w H s.heap d (.frz od (.dT kvs))from I.hok d _ hd)
    have eo:o=od:=Option.some.inj (h1.symm.trans e1)
    subst eo
    rw [hdd]at h3
    obtain⟨rfl,rfl⟩:es=es'/\ep=ep':=by
      injection h3 with a b
      exact⟨a,b⟩
    have hx:i<xs.length:=by rw [<-Paired.length r];exact hi
    obtain⟨q,hq⟩:∃q,xs[i]? =some q:=⟨_,List.getElem?_eq_getElem hx⟩
    obtain⟨p,hp⟩:∃p,kvs[i]? =some p:=⟨_,List.getElem?_eq_getElem hi⟩
    have rel:p.1=q.1/\H q.2.1=some (.tup (p.1.map kV))/\RelV p.2 q.2.2:=by
      have get:∀ {l:List (List Key × V)}{m:List (List Key × Addr × Value)} (i:Nat),Paired (fun(p:List Key × V) (q:List Key × Addr × Value)=>p.1=q.1/\H q.2.1=some (.tup (p.1.map kV))/\RelV p.2 q.2.2) l m->l[i]? =some p->m[i]? =some q->p.1=q.1/\H q.2.1=some (.tup (p.1.map kV))/\RelV p.2 q.2.2:=by
        intro l m i r
        induction r generalizing i with
        | nil=>intro e;simp at e
        | cons h _ ih=>
          intro a b
          cases i with
          | zero=>
            simp only [List.getElem?_cons_zero,Option.some.injEq]at a b
            subst a b
            exact h
          | succ i=>exact ih i (by simpa using a) (by simpa using b)
      exact get i r hp hq
    have he:es[i]? =some (entryOfKey (tupleKind (Bq X.prog X.w)) q):=by
      rw [<-Array.getElem?_toList,h4,List.getElem?_map,hq]
      rfl
    refine W5 hit h1 hdd he fun h' a1 a2 a3 hk=>⟨_,rfl,?_⟩
    refine wpAny_letOwnedTupleGo_items a1 fun g2 hz2 sb2=> ?_
    replace sb2:Heap.SameBut it h' g2:=sb2
    have lt:it≠s.heap.objs.size:=Nat.ne_of_lt (Heap.lt_size hit)
    have hn:H s.heap.objs.size=none:=I.fresh
    have I1:Inv X pins σ (upd H s.heap.objs.size (.tup [.ref q.2.1,p.2])) { s with heap:=s.heap.push { cls:= .type "tuple",data:= .seq #[.ref q.2.1,q.2.2]},toks:=s.toks}:=
      I.laid (fun b o q=>Heap.get?_push_of_some _ q) (Nat.le_refl _) ⟨by show 2<=sizeLine;decide,[.ref q.2.1,q.2.2],.cons rfl (.cons rel.2.2 .nil),⟨_,Heap.get?_push_size _ rfl,rfl,_,rfl⟩⟩
    have fp':∀b∈ [it],Hs X pins (upd H s.heap.objs.size (.tup [.ref q.2.1,p.2])) b:=fun b hb=>by
      obtain rfl:b=it:=by simpa using hb
      exact⟨by rw [Av lt];exact(hf b (by simp)).1,(hf b (by simp)).2⟩
    have I2:=I1.turnL (h':=g2) (t':=s.toks) (fp:=[it]) (fun b o hb q=>by
      have n1:b≠it:=fun e=>hb (by simp [e])
      refine(sb2.2 b n1).trans ?_
      rcases Heap.get?_push_cases q with⟨rfl,rfl⟩ | q0
      . exact a2
      . exact hk b o n1 q0) fp'
    exact⟨.ref s.heap.objs.size,_,I2,rfl,⟨_,q.2.1,p.1,p.2,hp,rel.2.1,hn,rfl,rfl⟩,⟨_,_,hz2⟩,fun b hb=>(fp' b hb).1⟩
  done:=by
    intro X hP hw hK hc i pins s σ H E I hf st hg
    subst hP hw hK
    obtain⟨hd,hi⟩:=hg
    obtain⟨ok,ov,hit⟩:=st
    obtain⟨e1,_⟩:=(show Bs X.prog X.w H s.heap d (.frz od (.dT kvs))from I.hok d _ hd)
    exact Zm (I.ok.hd hc) hit e1 hdd (by omega) fun g hk=>⟨rfl,I.turnL (t':=s.toks) (fp:=[it]) (fun b o hb q=>hk b o (fun e=>hb (by simp [e])) q) hf⟩
  self:=fun A i s Q E st h=>by
    obtain⟨ok,ov,hi⟩:=st
    exact PySem.W.kcp_self hi h
theorem Xg {prog:Program}{w:World} (d:Addr) (hd:(d==sysModules)=false):
    MeetsIn prog w (Builtin.«dict.items» ⟨[.ref d],[]⟩) (fun _ R s=>s.TypeIs (.ref d) "dict"/\R (.ok (.ret (.ref s.heap.objs.size))) { s with heap:=s.heap.push { cls:= .type "dict_items",data:= .fields #[.ref d]}}):=
  .of_wp fun A R s ⟨ty,h⟩=>by
    unfold Builtin.«dict.items»
    refine wpAny_bind ?_
    unfold Builtin.Dict.noArgs
    refine wpAny_bind (wpAny_notOrdered_dict ty ?_)
    show wpAny _ _ (pure d) _ _ s
    refine wpAny_pure ?_
    show wpAny _ _ (Builtin.Dict.showsAll d>>=_) _ _ s
    unfold Builtin.Dict.showsAll
    rw [if_neg (by rw [hd];exact Bool.false_ne_true)]
    exact wpAny_bind (wpAny_pure (wpAny_bind (wpAny_newObj_type (wpAny_pure ⟨_,rfl,h⟩))))
structure M0 (X:Cx) (o:Expr) (m:Str) (apos cpos:Pos):Prop where
  base:attributeBase o m X.env (eval o X.env)=eval o X.env
  few:((backTo cpos (starEach [] X.env)).all (fun x=> !x.1)&&(backToKw cpos (keywordEach [] X.env)).all (fun x=>x.1.isSome)
    &&decide (([]:List Expr).length+([]:List Keyword).length+(if([]:List Keyword).isEmpty then 0 else 1)<30))=true
  line:(apos.endLine==cpos.line)=true
  trees:backTo cpos (starEach [] X.env)=[]
def V7 (td:TE):TI:=fun σ H R=>td σ H fun x H1=>∃a kvs,x= .ref a/\H1 a=some (.dT kvs)/\∀od,R (Acv a od kvs) (upd H1 a (.frz od (.dT kvs)))
theorem K7 {X:Cx}{o:Expr}{td:TE}{el:List Expr}{x1}{tp apos cpos:Pos} (ho:PE X o td) (m:M0 X o "items" apos cpos):PI X (.Tuple el x1 tp) (.Call (.Attribute o "items" apos) [] [] cpos) (V7 td):=by
  intro pins s σ H R I h
  refine wpAny_Call_method m.base m.few m.line PySem.F.plainAttrs_dict PySem.F.slot_dict_items PySem.F.type_dict_items (thn (ho pins s σ H _ I h) fun u s1 ⟨x,H1,I1,rx,a,kvs,ex,e,q1⟩=> ?_)
  subst ex
  obtain rfl:u=Value.ref a:=rx
  obtain⟨t1,t2,hd⟩:=Ye I1 (.inr ⟨kvs,.inl e⟩)
  refine⟨t1,t2,?_⟩
  rw [m.trees]
  refine Calls.callWith_builtin rfl (PySem.evalArgs_none ?_)
  obtain⟨z,y,xs,r,od,es,ep,h1,h2,h3,h4,h5⟩:=(show Bs X.prog X.w H1 s1.heap a (.dT kvs)from I1.hok a _ e)
  refine call_meetsIn PySem.F.slot_dict_items t1 PySem.F.entry_dict_items (PySem.F.args_dict_items_1 _) (Xg a hd) ⟨t1,?_⟩
  have hz:es.size=kvs.length:=by
    have:=congrArg List.length h4
    rw [Array.length_toList,List.length_map]at this
    rw [this,Paired.length r]
  have g1:(s1.heap.push { cls:= .type "dict_items",data:= .fields #[.ref a]}).get? a=some od:=Heap.get?_push_of_some _ h1
  refine Xc (s:={ s1 with heap:=s1.heap.push { cls:= .type "dict_items",data:= .fields #[.ref a]}}) (d:=a) ⟨_,Heap.get?_push_size _ rfl,rfl,rfl⟩ g1 h3 ?_
  have al:a<s1.heap.objs.size:=Heap.lt_size h1
  have sz:(s1.heap.push { cls:= .type "dict_items",data:= .fields #[.ref a]}).objs.size=s1.heap.objs.size+1:=Heap.size_push ..
  have I2:Inv X pins σ (upd H1 a (.frz od (.dT kvs))) { s1 with heap:=(s1.heap.push { cls:= .type "dict_items",data:= .fields #[.ref a]}).push { cls:= .type "dict_itemiterator",data:= .fields #[.none,.bool false,.ref a,.int 0 0,.int es.size 0,.int ep 0,.none,.none]},toks:=s1.toks}:=
    I1.write (x:=a) (e:=a) (by rw [e];exact True.intro) (.inl rfl) (fun b u _ q=>Heap.get?_push_of_some _ (Heap.get?_push_of_some _ q)) ⟨od,Heap.get?_push_of_some _ g1⟩
      ⟨Heap.get?_push_of_some _ g1,z,y,xs,Paired.mapP r fun p q z=>⟨z.1,by rw [Av (Fi z.2.1 e (fun z=>nomatch z))];exact z.2.1,z.2.2⟩,od,es,ep,Heap.get?_push_of_some _ g1,h2,h3,h4,h5⟩
  refine⟨(s1.heap.push { cls:= .type "dict_items",data:= .fields #[.ref a]}).objs.size,[(s1.heap.push { cls:= .type "dict_items",data:= .fields #[.ref a]}).objs.size],_,_,_,rfl,I2,Sw a _ od es ep kvs h3 hz (by rw [sz];exact Nat.ne_of_gt (Nat.lt_succ_of_lt al)),⟨.none,.none,Heap.get?_push_size _ rfl⟩,fun c hc=> ?_,q1 od⟩
  have ec:c=s1.heap.objs.size+1:=by
    rw [sz]at hc
    simpa using hc
  subst ec
  refine I1.fpOk (Nat.le_succ _) ?_
  rw [Av (Nat.ne_of_gt (Nat.lt_succ_of_lt al))]
  exact I1.hok.fresh (Nat.le_succ _)
theorem K4 {td:TE}{σ:St}{H:Hp}{R:It->Hp->Prop}:V7 td σ H R=td σ H (fun x H1=>∃a kvs,x= .ref a/\H1 a=some (.dT kvs)/\∀od,R (Acv a od kvs) (upd H1 a (.frz od (.dT kvs)))):=rfl
theorem Vk {d:Addr}{od:Obj}{kvs:List (List Key × V)}{H1:Hp}{p:Addr}{cσ:St}{g:TG}{tt:TT}{te:TE}{Q:VK} (pf:List Key × V->Bool) (Rl:List Key × V->V->Hp->Prop)
    (mono:∀e v H H',Rl e v H->Same H H'->Rl e v H') (put:∀e v H ys zs,Rl e v H->H p=some (.lst ys)->Rl e v (upd H p (.lst zs))) (hz:kvs.length<=sizeLine) (hp:H1 p=none) (hd:H1 d=some (.frz od (.dT kvs)))
    (step:∀(e:List Key × V) (H':Hp) (b q:Addr) (R:VK) (RF:Hp->Prop),e∈kvs->Same H1 H'->H' b=some (.tup (e.1.map kV))->H' q=some (.tup [.ref b,e.2])->(pf e=true->∀v H6,Same H' H6->Rl e v H6->R v H6)->(pf e=false->∀H6,Same H' H6->RF H6)->
      g (.ref q) cσ H' fun σ4 H4=>Kp cσ σ4/\tt σ4 H4 fun b H5=>if b=true then te σ4 H5 R else RF H5)
    (done:∀H' (vs:List (V × (List Key × V))),Same H1 H'->H' p=some (.lst (vs.map (·.1)))->vs.map (·.2)=kvs.filter pf->(∀x∈vs,Rl x.2 x.1 H')->Q (.ref p) H'):cIn (Acv d od kvs) cσ g tt te Q H1 p:=by
  have su:∀ {H':Hp}{o:HO},Same H1 H'->Same H1 (upd H' p o):=fun {H' o} s b u e=>by
    rw [Av (Ar e hp)]
    exact s b u e
  refine⟨fun i m acc H'=>∃vs:List (V × (List Key × V)),m=kvs.length-i/\i<=kvs.length/\acc=vs.map (·.1)/\vs.map (·.2)=(kvs.take i).filter pf/\(∀x∈vs,Rl x.2 x.1 H')/\H' p=some (.lst acc)/\Same H1 H',⟨kvs.length,[],by simp,Nat.zero_le _,rfl,by simp,by simp,Ae,su (Same.refl _)⟩,?_⟩
  rintro i m acc H' ⟨vs,rfl,hi,rfl,hv,hr,hH,s⟩
  cases he:kvs[i]? with
  | none=>
    have e:i=kvs.length:=Nat.le_antisymm hi (List.getElem?_eq_none_iff.mp he)
    subst e
    rw [List.take_length]at hv
    exact .inl ⟨⟨s _ _ hd,Nat.le_refl _⟩,done _ vs s hH hv hr⟩
  | some e=>
    obtain⟨hlt,_⟩:=List.getElem?_eq_some_iff.mp he
    refine .inr ⟨⟨s _ _ hd,hlt⟩,fun x H3 y=> ?_⟩
    obtain⟨q,b,k,v,hk,hb,hq,rfl,rfl⟩:=y
    rw [he]at hk
    obtain rfl:e=(k,v):=Option.some.inj hk
    have sq:=Same.upd hq (.tup [.ref b,v])
    have tk:kvs.take (i+1)=kvs.take i++ [(k,v)]:=by rw [List.take_succ,he];rfl
    have fl:vs.length<=i:=by
      have h1:=congrArg List.length hv
      rw [List.length_map]at h1
      rw [h1]
      exact Nat.le_trans (List.length_filter_le _ _) (by rw [List.length_take];omega)
    refine step (k,v) (upd H' q (.tup [.ref b,v])) b q _ _ (List.mem_of_getElem? he) (s.trans sq) (sq _ _ hb) Ae (fun hpf v' H6 s6 r6=>⟨s6 _ _ (sq _ _ hH),by rw [List.length_map];omega,_,by omega,vs++ [(v',(k,v))],rfl,hlt,by rw [List.map_append];rfl,?_,?_,Ae,su ((s.trans sq).trans s6)⟩)
      (fun hpf H6 s6=>⟨_,by omega,vs,rfl,hlt,rfl,?_,fun x hx=>mono _ _ _ _ (hr x hx) (sq.trans s6),s6 _ _ (sq _ _ hH),(s.trans sq).trans s6⟩)
    . rw [tk,List.filter_append,List.map_append,hv]
      simp [hpf]
    . intro x hx
      rcases List.mem_append.mp hx with hx | hx
      . exact put _ _ _ _ _ (mono _ _ _ _ (hr x hx) (sq.trans s6)) (s6 _ _ (sq _ _ hH))
      . have:x=(v',(k,v)):=by simpa using hx
        rw [this]
        exact put _ _ _ _ _ r6 (s6 _ _ (sq _ _ hH))
    . rw [tk,List.filter_append,hv]
      simp [hpf]
theorem O4 {σ:St}{H:Hp}{Q:VK}:Ti σ H Q=∀p,H p=none->Q (.ref p) (upd H p (.dT [])):=rfl
end L2
namespace L2
open PySem PySem.Spec PySem.Calls PyProof.Rows PySem.W
section
variable {prog:Program}{w:World}{A:Around}{E:Value->Shared->Prop}{s:Shared}
theorem Xq {d:Addr}{o:Obj}{es:Array DictEntry}{ep:Nat}{Q:Value->Shared->Prop} (hd:(d==sysModules)=false) (ho:s.heap.get? d=some o) (hx:o.ExactDict) (hdat:o.data= .dict es ep)
    (hQ:Q (.ref s.heap.objs.size) { s with heap:=s.heap.push { cls:= .type "dict_keyiterator",data:= .fields #[.ref d,.int 0 0,.int es.size 0,.int ep 0]}}):wpAny (model prog w) A (pyIter (.ref d)) Q E s:=by
  have hT:s.TypeIs (.ref d) "dict":=⟨o,ho,hx.1⟩
  refine wpAny_pyIter_slot hT F.slot_dict_iter (wpAny_call_entry F.slot_dict_iter hT F.entry_dict_iter ?_ (F.args_dict_iter_1 _))
  unfold Builtin.«dict.__iter__»
  refine wpAny_bind ?_
  unfold Builtin.Dict.dictSlotNone
  refine wpAny_bind (wpAny_notOrdered_dict hT ?_)
  show wpAny _ _ (pure (Value.ref d)) _ _ s
  refine wpAny_pure ?_
  show wpAny _ _ (Builtin.Dict.showsAll d>>=_) _ _ s
  unfold Builtin.Dict.showsAll
  rw [if_neg (by rw [hd];exact Bool.false_ne_true)]
  refine wpAny_bind (wpAny_pure (wpAny_bind (wpAny_dictEntries ho hdat (wpAny_bind (wpAny_dictEpoch ho hdat ?_)))))
  refine wpAny_bind (wpAny_newObj_type (wpAny_pure ⟨_,rfl,"dict_keyiterator",_,⟨_,Heap.get?_push_size _ rfl,rfl⟩,F.slot_dict_keyiterator_next.lookup,?_⟩))
  simpa [rawInt]using hQ
theorem Xm {it d:Addr}{i ep:Nat}{od:Obj}{es:Array DictEntry}{e:DictEntry}{Q:Option Value->Shared->Prop} (hit:s.heap.IsKeyIter it d i es.size ep) (hod:s.heap.get? d=some od) (hdd:od.data= .dict es ep) (he:es[i]? =some e)
    (hQ:∀h',h'.IsKeyIter it d (i+1) es.size ep->Heap.SameBut it s.heap h'->Q (some e.key) { s with heap:=h'}):wpAny (model prog w) A (pyNext (.ref it)) Q E s:=by
  obtain⟨o,ho,hc,hd⟩:=id hit
  unfold pyNext
  refine wpAny_bind (wpAny_attempt (wpAny_callSpecial?_slot (name:=Str.ofString "__next__") hit.typeIs F.slot_dict_keyiterator_next
    (wpAny_call_entry F.slot_dict_keyiterator_next hit.typeIs F.entry_dict_keyiterator_next ?_ (F.args_dict_keyiterator_next_1 _))))
  refine wpAny_bind (wpAny_pure (wpAny_bind (wpAny_bind ?_)))
  first | refine wpAny_bind (wpAny_typeNameOfWhole_keyiter hit.typeIs (wpAny_pure ?_)) | refine wpAny_bind (wpAny_typeNameOf_keyiter hit.typeIs (wpAny_pure ?_))
  refine wpAny_bind (wpAny_fieldsOf ho hd ?_)
  have hown:Builtin.Dict_items.ownsTuple "dict_keyiterator"=false:=by decide
  simp only [hown,Bool.false_eq_true,if_false]
  show wpAny _ _ (if(Value.ref d==Value.none)=true then _ else _) _ _ s
  rw [if_neg (show ¬((Value.ref d==Value.none)=true)from Bool.false_ne_true)]
  refine wpAny_bind (wpAny_pure (wpAny_bind (wpAny_dictEntries hod hdd ?_)))
  rw [if_neg (by simp)]
  refine wpAny_bind (wpAny_pure (wpAny_bind (wpAny_dictEpoch hod hdd ?_)))
  rw [if_neg (by simp)]
  refine wpAny_pure ?_
  obtain⟨hlt',rfl⟩:=Array.getElem?_eq_some_iff.mp he
  simp only [show ¬((i:Int)<0)from by omega,if_false,Int.toNat_natCast,Array.getElem?_eq_getElem hlt']
  refine wpAny_bind ?_
  first | refine wpAny_bind (wpAny_typeNameOfWhole_keyiter hit.typeIs (wpAny_pure ?_)) | refine wpAny_bind (wpAny_typeNameOf_keyiter hit.typeIs (wpAny_pure ?_))
  refine wpAny_bind (wpAny_isOneOf_keyiter hit.typeIs ?_)
  show wpAny _ _ (setField (.ref it) 1 (rawInt ((i:Int)+1))>>=_) _ _ s
  refine wpAny_bind (wpAny_setField ho hd (by simp) ?_)
  have hit':(s.heap.update it (Obj.mapFields (·.setIfInBounds 1 (rawInt ((i:Int)+1))))).IsKeyIter it d (i+1) es.size ep:=
    ⟨_,Heap.get?_update_self _ ho (Obj.isFreed_of_fields (Obj.data_mapFields hd _)),(Obj.cls_mapFields ..).trans hc,by rw [Obj.data_mapFields hd];simp [rawInt]⟩
  refine wpAny_bind (wpAny_holding ?_)
  refine wpAny_bind (wpAny_isOneOf_keyiter (s:={ s with heap:=s.heap.update it (Obj.mapFields (·.setIfInBounds 1 (rawInt ((i:Int)+1))))}) hit'.typeIs ?_)
  show wpAny _ _ (pure es[i].key) _ _ _
  exact wpAny_pure (wpAny_pure ⟨_,rfl,wpAny_pure (hQ _ hit' (Heap.SameBut.update ..))⟩)
theorem Yn {it d:Addr}{i ep:Nat}{od:Obj}{es:Array DictEntry}{Q:Option Value->Shared->Prop} (hh:A.handled=none) (hit:s.heap.IsKeyIter it d i es.size ep) (hod:s.heap.get? d=some od) (hdd:od.data= .dict es ep) (hge:es.size<=i)
    (hQ:∀h',Heap.ExtBut it s.heap h'->Q none { s with heap:=h'}):wpAny (model prog w) A (pyNext (.ref it)) Q E s:=by
  obtain⟨o,ho,hc,hd⟩:=id hit
  unfold pyNext
  refine wpAny_bind (wpAny_attempt (wpAny_callSpecial?_slot (name:=Str.ofString "__next__") hit.typeIs F.slot_dict_keyiterator_next
    (wpAny_call_entry F.slot_dict_keyiterator_next hit.typeIs F.entry_dict_keyiterator_next ?_ (F.args_dict_keyiterator_next_1 _))))
  refine wpAny_bind (wpAny_pure (wpAny_bind (wpAny_bind ?_)))
  first | refine wpAny_bind (wpAny_typeNameOfWhole_keyiter hit.typeIs (wpAny_pure ?_)) | refine wpAny_bind (wpAny_typeNameOf_keyiter hit.typeIs (wpAny_pure ?_))
  refine wpAny_bind (wpAny_fieldsOf ho hd ?_)
  have hown:Builtin.Dict_items.ownsTuple "dict_keyiterator"=false:=by decide
  simp only [hown,Bool.false_eq_true,if_false]
  show wpAny _ _ (if(Value.ref d==Value.none)=true then _ else _) _ _ s
  rw [if_neg (show ¬((Value.ref d==Value.none)=true)from Bool.false_ne_true)]
  refine wpAny_bind (wpAny_pure (wpAny_bind (wpAny_dictEntries hod hdd ?_)))
  rw [if_neg (by simp)]
  refine wpAny_bind (wpAny_pure (wpAny_bind (wpAny_dictEpoch hod hdd ?_)))
  rw [if_neg (by simp)]
  refine wpAny_pure ?_
  simp only [show ¬((i:Int)<0)from by omega,if_false,Int.toNat_natCast,Array.getElem?_eq_none hge]
  refine wpAny_bind ?_
  first | refine wpAny_bind (wpAny_typeNameOfWhole_keyiter hit.typeIs (wpAny_pure ?_)) | refine wpAny_bind (wpAny_typeNameOf_keyiter hit.typeIs (wpAny_pure ?_))
  show wpAny _ _ (setField (.ref it) 0 .none>>=_) _ _ s
  refine wpAny_bind (wpAny_setField ho hd (by simp) ?_)
  show wpAny _ _ (newExc (.type "StopIteration") []>>=_) _ _ _
  refine wpAny_bind ?_
  simp only [newExc,newTuple]
  refine wpAny_bind (wpAny_newObj_type ?_ (by size_fits))
  refine wpAny_bind (m:=firstArgMember _ _) (wpAny_of_eq (a:=Value.none) (by first | rfl | (simp only [firstArgMember];rfl)) ?_)
  refine wpAny_newObj_type ?_ (by size_fits)
  simp only [raiseNew]
  refine wpAny_bind (wpAny_handled ?_)
  rw [show A.in1.handled=none from hh]
  refine wpAny_bind (wpAny_pure (wpAny_throw ?_))
  refine wpAny_bind (wpAny_isInstance (T:="StopIteration") (b:=true) ⟨_,Heap.get?_push_size _ rfl,rfl⟩ isSubtype_stop ?_)
  exact wpAny_pure (hQ _ (((Heap.SameBut.update ..).extBut.push _).push _))
theorem Tf (hh:A.handled=none) (I d:Addr) (hne:d≠I) {od:Obj}{es:Array DictEntry}{ep:Nat} (hdd:od.data= .dict es ep):
    Walks prog w A I [I,d] [I] es.size (fun i v=>∃e,es[i]? =some e/\v=e.key) (fun i h=>h.IsKeyIter I d i es.size ep/\h.get? d=some od) where
  sub:=fun b hb=>by simp at hb;simp [hb]
  frame:=fun _ _ _ st hk=>⟨let ⟨o,e,r⟩:=st.1;⟨o,hk I (by simp) o e,r⟩,hk d (by simp) _ st.2⟩
  item:=fun i s Q E hi st hQ=>by
    refine Xm st.1 st.2 hdd (Array.getElem?_eq_getElem hi) fun h' hit' hs'=> ?_
    exact hQ _ h' s.toks ⟨_,Array.getElem?_eq_getElem hi,rfl⟩ ⟨hit',hs'.extBut _ _ hne st.2⟩ fun b o hb e=>hs'.extBut b o (fun h=>hb (by simp [h])) e
  done:=fun s Q E st hQ=>Yn hh st.1 st.2 hdd (Nat.le_refl _) fun h' he'=>hQ h' s.toks fun b o hb e=>he' b o (fun h=>hb (by simp [h])) e
  self:=fun _ _ _ _ st hQ=>wpAny_pyIter_keyiter st.1 hQ
theorem Aan {d:Addr}{od:Obj}{es:Array DictEntry}{ep:Nat} (lo:(d==sysModules)=false) (hx:od.ExactDict) (hdd:od.data= .dict es ep):
    KdlSrc prog w "dict" d d es.size (fun i v=>∃e,es[i]? =some e/\v=e.key) (fun h=>h.get? d=some od) where
  type:=fun _ hm=>⟨_,hm,hx.1⟩
  there:=fun _ hm=>⟨Heap.lt_size hm,Heap.lt_size hm⟩
  keep:=fun _ _ hm hk=>hk d (.inl rfl) _ hm
  notList:=by decide
  notTuple:=by decide
  hint:=fun _ _ _ _ hm hq=>kdl_hint_dict ⟨_,hm,hx.1⟩ hq
  iter:=fun _ _ hh hm=>⟨_,_,(fun _ _ hq=>Xq lo hm hx hdd hq),Tf hh _ d (Nat.ne_of_lt (Heap.lt_size hm)) hdd,⟨⟨_,Heap.get?_push_size _ rfl,rfl,rfl⟩,Heap.get?_push_of_some _ hm⟩⟩
theorem Qi {Q:Bool->Shared->Prop}:∀ {ns ms:List Int}{vs ws:List Value} (i:Nat),IntsAre vs ns->IntsAre ws ms->ns.length=ms.length->Q (HT.lexLt ns ms) s->KatLex prog w A true false Q (vs.zip ws) i s
  | _,_,_,_,_,.nil,.nil,_,q=>q
  | _,_,_,_,_,.nil,.cons _ _ _,h,_=>by simp at h
  | _,_,_,_,_,.cons _ _ _,.nil,h,_=>by simp at h
  | _,_,_,_,i,.cons a t r,.cons c u r',h,q=>by
    rw [HT.Cd]at q
    refine kat_cons (wpAny_eqBool_int ?_)
    by_cases e:a=c
    . rw [if_pos e]at q
      have eb:(a==c)=true:=by simp [e]
      rw [eb]
      exact kat_yes (Qi (i+1) r r' (by simpa using h) q)
    . rw [if_neg e]at q
      have eb:(a==c)=false:=by simp [e]
      rw [eb]
      refine kat_no ?_
      cases i with
      | zero=>exact oneLt_int q
      | succ i=>
        have:(true&&(i+1==0))=false:=by simp
        rw [this]
        exact kat_one _ _ (lt_int q)
end
abbrev Tpt:=Addr × List Int
structure Yk (h:Heap) (t:Tpt):Prop where
  tu:∃its:List Value,IsTup h t.1 its.toArray/\IntsAre its t.2
theorem Yk.keeps {h h':Heap}{a:Addr}{t:Tpt} (x:Yk h t) (k:∀b o,b≠a->h.get? b=some o->h'.get? b=some o) (h1:t.1≠a):Yk h' t:=by
  obtain⟨its,⟨ot,et,rt⟩,i⟩:=x
  exact⟨its,⟨ot,k _ _ h1 et,rt⟩,i⟩
def toI:Key->Int
  | .inl i=>i
  | .inr _=>0
theorem Gj:∀ks:List Int,(ks.map Sum.inl:List Key).map toI=ks
  | []=>rfl
  | _::r=>by
    show _::_=_
    rw [Gj r]
    rfl
theorem V5 {h:Heap}:∀ts:List Tpt,(∀t∈ts,Yk h t/\t.2≠ [])->∃fs:List Value,KatTups h (ts.map fun t=>Value.ref t.1) fs/\fs.length=ts.length/\∀v∈fs,∃i u,v= .int i u
  | [],_=>⟨[],.nil,rfl,by simp⟩
  | t::r,k=>by
    obtain⟨fs,k1,k2,k3⟩:=V5 r fun t ht=>k t (.tail _ ht)
    obtain⟨⟨its,⟨o,e,c,n,d⟩,ia⟩,ne⟩:=k t (.head _)
    cases ht:t.2 with
    | nil=>exact absurd ht ne
    | cons x xs=>
      rw [ht]at ia
      cases ia with
      | cons _ u ir=>
        refine⟨.int x u::fs,KatTups.cons e c d (by simp) k1,by simp [k2],fun v hv=> ?_⟩
        rcases List.mem_cons.mp hv with rfl | hv
        . exact⟨x,u,rfl⟩
        . exact k3 v hv
theorem Adj {P:Program}{w:World}{A:Around}{E:Value->Shared->Prop}{s:Shared}{x y:Tpt}{Q:Bool->Shared->Prop} (hx:Yk s.heap x) (hy:Yk s.heap y) (hl:x.2.length=y.2.length) (q:Q (HT.lexLt x.2 y.2) s):
    wpAny (model P w) A (keyLt' (tuples' true) (.ref x.1) (.ref y.1)) Q E s:=by
  obtain⟨its,⟨o,e,c,n,d⟩,i1⟩:=hx
  obtain⟨its',⟨o',e',c',n',d'⟩,i2⟩:=hy
  refine kat_lt e d e' d' ?_
  have l1:its.length=x.2.length:=i1.length
  have l2:its'.length=y.2.length:=i2.length
  have ef:decide (its.toArray.size<its'.toArray.size)=false:=by
    rw [List.size_toArray,List.size_toArray,l1,l2,hl]
    simp
  rw [ef]
  exact Qi 0 i1 i2 hl q
theorem Zq {H:Hp}{n:Nat}:∀ {kvs:List (List Key × V)}{ys:List (List Key × Addr × Value)},Paired (fun(p:List Key × V) (q:List Key × Addr × Value)=>p.1=q.1/\H q.2.1=some (.tup (p.1.map kV))/\RelV p.2 q.2.2) kvs ys->(∀e∈kvs,∃ks:List Int,e.1=ks.map Sum.inl/\ks.length=n)->
    ∃ts:List Tpt,(ts.map fun t=>(t.2.map Sum.inl:List Key))=kvs.map (·.1)/\(ts.map fun t=>t.1)=ys.map (fun y=>y.2.1)/\∀t∈ts,H t.1=some (.tup (t.2.map V.int))/\t.2.length=n:=by
  intro kvs ys rel
  induction rel with
  | nil=>exact fun _=>⟨[],rfl,rfl,by simp⟩
  | @cons p q ps qs hq _ ih=>
    intro hks
    obtain⟨ts,e1,e2,e3⟩:=ih (fun e he=>hks e (.tail _ he))
    obtain⟨ks,ek,kl⟩:=hks p (.head _)
    refine⟨(q.2.1,ks)::ts,by rw [List.map_cons,List.map_cons,e1,ek],by rw [List.map_cons,List.map_cons,e2],fun t ht=> ?_⟩
    rcases List.mem_cons.mp ht with rfl | ht
    . refine⟨?_,kl⟩
      have:=hq.2.1
      rw [ek,List.map_map]at this
      exact this
    . exact e3 t ht
theorem Rt {X:Cx} (hc:X.calm=true):Dv X (.builtin "sorted") (fun xs H Q=>∃(d:Addr) (kvs:List (List Key × V)) (n:Nat),xs=[.ref d]/\H d=some (.dT kvs)/\(∀e∈kvs,∃ks:List Int,e.1=ks.map Sum.inl/\ks.length=n)/\0<n/\(kvs.map (·.1)).Nodup/\kvs.length<64/\
    ∀(l:Addr) (us:List Tpt),H l=none->(us.map fun t=>(t.2.map Sum.inl:List Key)).Perm (kvs.map (·.1))->(∀t∈us,H t.1=some (.tup (t.2.map V.int)))->us.Pairwise (fun x y=>HT.lexLt x.2 y.2=true)->Q (.ref l) (upd H l (.lst (us.map fun t=>V.ref t.1)))):=by
  intro pins s σ H xs us Q I r h
  obtain⟨d,kvs,n,rfl,hd,hks,hn0,nd,h64,q⟩:=h
  obtain⟨u,rfl,ru⟩:=vals1 r
  cases ru
  obtain⟨z,lo,ys,rel,od,es,ep,h1,h2,h3,h4,h5⟩:=(show Bs X.prog X.w H s.heap d (.dT kvs)from I.hok d _ hd)
  have lk:kvs.length=ys.length:=Paired.length rel
  have le:es.size=ys.length:=by
    have:=congrArg List.length h4
    rw [Array.length_toList,List.length_map]at this
    exact this
  obtain⟨ts,e1,e2,e3⟩:=Zq rel hks
  have lt:ts.length=kvs.length:=by
    have:=congrArg List.length e1
    simpa using this
  have hz:es.size<=sizeLine:=by rw [le,<-lk,sizeLine_eq];omega
  have hat:∀t∈ts,Yk s.heap t/\t.1<s.heap.objs.size:=fun t ht=>by
    obtain⟨_,its,r,p⟩:=(show Bs X.prog X.w H s.heap t.1 (.tup (t.2.map V.int))from I.hok _ _ (e3 t ht).1)
    exact⟨⟨its,p,intsAre_of r⟩,p.lt⟩
  refine call_function_entry kind_sorted plain_sorted entry_sorted (args_sorted1 _) ?_
  unfold Builtin.«sorted»
  refine wpAny_bind (m:=checkCount "sorted" 1 1 _) (wpAny_pure ?_)
  refine wpAny_bind (kdu_collect (Aan lo h2 h3) (I.ok.hd hc) h1 hz fun h' tk acc hkeep hacc=> ?_)
  have ha:acc.toList=ts.map fun t=>Value.ref t.1:=by
    refine List.ext_getElem? fun j=> ?_
    have la:acc.toList.length=ts.length:=by
      rw [Array.length_toList,lt,lk,<-le]
      exact hacc.1
    by_cases hj:j<ts.length
    . obtain⟨v,hv⟩:∃v,acc.toList[j]? =some v:=⟨_,List.getElem?_eq_getElem (by omega)⟩
      obtain⟨en,he,rfl⟩:=hacc.2 j v (by rw [<-Array.getElem?_toList];exact hv)
      rw [hv,List.getElem?_map,List.getElem?_eq_getElem hj]
      rw [<-Array.getElem?_toList,h4,List.getElem?_map,List.getElem?_eq_getElem (by omega)]at he
      have e5:(ts.map fun t=>t.1)[j]? =(ys.map fun y=>y.2.1)[j]? :=by rw [e2]
      rw [List.getElem?_map,List.getElem?_map,List.getElem?_eq_getElem hj,List.getElem?_eq_getElem (by omega)]at e5
      have e6:=Option.some.inj he
      have e7:ts[j].1=ys[j].2.1:=Option.some.inj e5
      rw [<-e6]
      show some (Value.ref ys[j].2.1)=some (Value.ref ts[j].1)
      rw [e7]
    . rw [List.getElem?_eq_none (by omega),List.getElem?_eq_none (by rw [List.length_map];omega)]
  have hl:acc.toList.length=ts.length:=by rw [ha,List.length_map]
  refine wpAny_bind (wpAny_newList ?_ (by rw [hl,lt,sizeLine_eq];omega))
  generalize hits:acc.toList=its at ha hl
  have hoL:(h'.push (seqObj "list" its.toArray 0)).get? h'.objs.size=some (seqObj "list" its.toArray 0):=Heap.get?_push_size _ rfl
  have hget:∀i (hi:i<its.length),its.getD i Value.none= .ref (ts[i]'(by omega)).1:=fun i hi=>by
    subst ha
    simp only [List.length_map]at hi
    simp [hi]
  have keep:∀b o,s.heap.get? b=some o->(h'.push (seqObj "list" its.toArray 0)).get? b=some o:=fun b o e=>Heap.get?_push_of_some _ (hkeep b o e)
  have lth:∀b o,s.heap.get? b=some o->b≠h'.objs.size:=fun b o e=>Nat.ne_of_lt (Heap.lt_size (hkeep b o e))
  have hatg:∀g:Heap,(∀b o,b≠h'.objs.size->(h'.push (seqObj "list" its.toArray 0)).get? b=some o->g.get? b=some o)->∀t∈ts,Yk g t:=fun g k t ht=>by
    have x:=(hat t ht).1
    obtain⟨_,⟨ot,et,_⟩,_⟩:=id x
    exact(x.keeps (a:=h'.objs.size) (fun b o _ e=>keep b o e) (lth _ _ et)).keeps k (lth _ _ et)
  have kk:∀i (hi:i<its.length),(ts.map fun t=>t.2).getD i []=(ts[i]'(by omega)).2:=fun i hi=>by
    rw [hl]at hi
    simp [hi]
  have ndI:(ts.map fun t=>t.2).Nodup:=by
    rw [<-e1]at nd
    refine List.pairwise_map.mpr ((List.pairwise_map.mp nd).imp fun h z=>h ?_)
    rw [z]
  have L:LO its.length (fun i j=>HT.lexLt ((ts.map fun t=>t.2).getD i []) ((ts.map fun t=>t.2).getD j [])):=by
    refine⟨fun i j hi hj hn=>Lb _ _ fun e=> ?_,fun i j k _ _ _=>lex_trans _ _ _⟩
    have pw:=List.pairwise_iff_getElem.mp ndI
    have hi':i<(ts.map fun t=>t.2).length:=by rw [List.length_map];omega
    have hj':j<(ts.map fun t=>t.2).length:=by rw [List.length_map];omega
    have e3:(ts.map fun t=>t.2)[i]=(ts.map fun t=>t.2)[j]:=by
      rw [List.getD_eq_getElem?_getD,List.getD_eq_getElem?_getD,List.getElem?_eq_getElem hi',List.getElem?_eq_getElem hj']at e
      exact e
    rcases Nat.lt_or_gt_of_ne hn with l | l
    . exact pw i j hi' hj' l e3
    . exact pw j i hj' hi' l e3.symm
  refine wpAny_bind (wpAny_holding (wpAny_call_entry slot_list_sort ⟨_,hoL,rfl⟩ entry_list_sort (Gn (κ:=tuples' true) (n:=0) hoL (by omega) L (fun h2 g k=> ?_) (fun g i j C k hi hj hn hC=> ?_) fun p hP hS=>⟨_,rfl,?_⟩) (args_list_sort _)))
  . obtain⟨fs,k1,k2,k3⟩:=V5 ts fun t ht=>⟨hatg g k t ht,fun z=>by
      have:=(e3 t ht).2
      rw [z]at this
      simp at this
      omega⟩
    rw [ha]
    refine kat_kind (T:= .type "int") k1 (by omega) (fun v hv=> ?_) (by simp) ⟨by simp,rfl⟩
    obtain⟨i,u,rfl⟩:=k3 v hv
    exact Looks.of_pure rfl
  . unfold kas_ask
    rw [hget i hi,hget j hj]
    rw [kk i hi,kk j hj]at hC
    exact Adj (hatg g k _ (List.getElem_mem _)) (hatg g k _ (List.getElem_mem _)) (by rw [(e3 _ (List.getElem_mem _)).2,(e3 _ (List.getElem_mem _)).2]) hC
  . refine wpAny_pure ⟨_,rfl,?_⟩
    have eo:(p.toList.map fun i=>its.getD i Value.none)=(p.toList.map fun i=>ts.getD i ((0,[]):Tpt)).map fun t=>Value.ref t.1:=by
      rw [List.map_map]
      refine List.map_congr_left fun i hi=> ?_
      have hi2:i<its.length:=List.mem_range.mp (hP.pm.mem_iff.mp hi)
      rw [hget i hi2]
      show _=Value.ref (ts.getD i _).1
      rw [hl]at hi2
      simp [hi2]
    have hpm:(p.toList.map fun i=>ts.getD i ((0,[]):Tpt)).Perm ts:=by
      have h1:=hP.pm.map fun i=>ts.getD i ((0,[]):Tpt)
      have h2:(List.range its.length).map (fun i=>ts.getD i ((0,[]):Tpt))=ts:=by
        rw [hl]
        refine List.ext_getElem (by simp) fun i a b=> ?_
        simp only [List.length_map,List.length_range]at a
        simp [a]
      rw [h2]at h1
      exact h1
    have hpw:(p.toList.map fun i=>ts.getD i ((0,[]):Tpt)).Pairwise (fun x y=>HT.lexLt x.2 y.2=true):=by
      refine List.pairwise_iff_getElem.mpr fun i j hi hj hij=> ?_
      have hz2:(p.toList.map fun i=>ts.getD i ((0,[]):Tpt)).length=its.length:=by rw [List.length_map,Array.length_toList,hP.sz]
      have g:∀i (hi:i<(p.toList.map fun i=>ts.getD i ((0,[]):Tpt)).length),((p.toList.map fun i=>ts.getD i ((0,[]):Tpt))[i]).2=(ts.map fun t=>t.2).getD (aT p i) []:=fun i hi=>by
        have hi1:i<p.size:=by rw [hP.sz,<-hz2];exact hi
        have ea:p.toList[i]'(by rw [Array.length_toList];exact hi1)=aT p i:=by simp [aT,hi1]
        have hb:aT p i<ts.length:=by rw [<-hl];exact hP.lt i (by rw [<-hP.sz];exact hi1)
        rw [List.getElem_map,ea]
        simp [hb]
      rw [g i hi,g j hj]
      exact hS i j hij (by rw [<-hz2];exact hj)
    obtain⟨e,he⟩:=sortedHeap_at (out:=List.toArray (p.toList.map fun i=>its.getD i Value.none)) hoL
    have I1:Inv X pins σ H { s with heap:=h',toks:=tk}:=I.kept hkeep
    have kp:∀b o,h'.get? b=some o->(sortedHeap (h'.push (seqObj "list" its.toArray 0)) h'.objs.size its (List.toArray (p.toList.map fun i=>its.getD i Value.none))).get? b=some o:=fun b o e1=>by
      have lt:b<h'.objs.size:=Heap.lt_size e1
      rw [sortedHeap_old (Nat.ne_of_lt lt) (by rw [size_push'];exact Nat.lt_succ_of_lt lt),Heap.get?_push_ne _ _ _ (Nat.ne_of_lt lt)]
      exact e1
    have hlen:(p.toList.map fun i=>ts.getD i ((0,[]):Tpt)).length<=sizeLine:=by rw [hpm.length_eq,lt,sizeLine_eq];omega
    refine⟨.ref h'.objs.size,_,I1.laid (a:=h'.objs.size) (t':=tk) (o:= .lst ((p.toList.map fun i=>ts.getD i ((0,[]):Tpt)).map fun t=>V.ref t.1)) kp (Nat.le_refl _) ⟨by rw [List.length_map];exact hlen,p.toList.map fun i=>its.getD i Value.none,e,?_,he⟩,rfl,q _ _ (I1.hok.fresh (Nat.le_refl _)) ?_ (fun t ht=>(e3 t (hpm.mem_iff.mp ht)).1) hpw⟩
    . rw [eo]
      have:=Jk ((p.toList.map fun i=>ts.getD i ((0,[]):Tpt)).map fun t=>t.1)
      simpa [List.map_map,Function.comp_def]using this
    . rw [<-e1]
      exact hpm.map _
end L2
namespace L2
open PySem PySem.Spec PyProof.Rows
theorem Rw {xs:Array (Int × Tok)}{ns:List Int} (hns:ns=xs.toList.map (·.1)) (hsz:0<xs.size) {v:Value} (hv:(intItems xs)[argBest (fun i j=>decide (numAt xs i>numAt xs j)) (xs.size-1)]? =some v):
    ∃(M:Int) (t:Tok),v= .int M t/\M∈ns/\∀a∈ns,a<=M:=by
  obtain⟨t,rfl⟩:=intItems_at hv
  obtain⟨h1,h2⟩:=argBest_gt (numAt xs) (xs.size-1)
  refine⟨_,t,rfl,?_,fun a ha=> ?_⟩
  . rw [hns,numAt_eq];exact getD_mem (by rw [List.length_map,Array.length_toList];omega)
  . rw [hns]at ha
    obtain⟨j,hj,rfl⟩:=mem_getD ha
    rw [List.length_map,Array.length_toList]at hj
    rw [<-numAt_eq];exact h2 j (by omega)
theorem U9 {X:Cx} (hc:X.calm=true):Dv X (.builtin "max") (fun xs H Q=>∃(a:Addr) (ns:List Int),xs=[.ref a]/\(SqL X.K H a (ns.map V.int)\/SqT X.K H a (ns.map V.int))/\ns≠ []/\∀M,M∈ns->(∀x∈ns,x<=M)->Q (.int M) H):=by
  intro pins s σ H xs us Q I r h
  obtain⟨a,ns,rfl,hS,ne,q⟩:=h
  obtain⟨u,rfl,ru⟩:=vals1 r
  cases ru
  have fin:∀ {its:List Value},Vals (ns.map V.int) its->∃xs:Array (Int × Tok),its.toArray=intItems xs/\ns=xs.toList.map (·.1)/\0<xs.size:=fun {its} rv=>by
    have hi:IntsAre its ns:=intsAre_of rv
    obtain⟨xs,e⟩:=hi.allInts.items
    have hns:ns=xs.toList.map (·.1):=by rw [<-hi.numsOf,<-nums_intItems,<-e]
    refine⟨xs,e,hns,?_⟩
    have h3:0<ns.length:=List.length_pos_iff.mpr ne
    rw [hns,List.length_map,Array.length_toList]at h3
    exact h3
  rcases hS with hS | hS
  . obtain⟨its,rv,p,_⟩:=I.list hS
    obtain⟨xs,e,hns,hsz⟩:=fin rv
    have hl:=p.isList
    rw [e]at hl
    refine max_intList (I.ok.hd hc) hl hsz fun v h' tk hv hk=> ?_
    obtain⟨M,t,rfl,m1,m2⟩:=Rw hns hsz hv
    exact⟨.int M,H,I.kept hk,⟨t,rfl⟩,q M m1 m2⟩
  . obtain⟨its,rv,p,_⟩:=I.tuple hS
    obtain⟨xs,e,hns,hsz⟩:=fin rv
    have hT:s.heap.IsTuple a (intItems xs):=by rw [<-e];exact p
    have al:a<s.heap.objs.size:=p.lt
    refine call_max_walk (wpAny_pyIter_tuple hT ?_)
    refine⟨_,[_,a],[_],_,_,_,_,rfl,Walks.tuple (A:=X.A.in1) (I.ok.hd hc) _ a (Nat.ne_of_lt al) (intItems xs),⟨⟨_,Heap.get?_push_size _ rfl,rfl,rfl⟩,hT.push _⟩,fun c hc=> ?_,by simpa [intItems]using hsz,CmpOf.ints_gt (numAt xs) (fun _ _=>intItems_at),fun v h' tk hP hk=> ?_⟩
    . show c<(s.heap.push _).objs.size
      rw [Heap.size_push]
      rcases List.mem_cons.mp hc with rfl | hc
      . exact Nat.lt_succ_self _
      . rcases List.mem_cons.mp hc with rfl | hc
        . exact Nat.lt_succ_of_lt al
        . cases hc
    . obtain⟨M,t,rfl,m1,m2⟩:=Rw hns hsz (v:=v) (by simpa [intItems]using hP)
      refine⟨.int M,H,I.kept fun c o e=>hk c o (fun hm=> ?_) (Heap.get?_push_of_some _ e),⟨t,rfl⟩,q M m1 m2⟩
      rcases List.mem_cons.mp hm with e1 | hm
      . exact absurd (Heap.lt_size e) (by rw [e1];exact Nat.lt_irrefl _)
      . cases hm
end L2
namespace L2
open PySem PySem.Spec PyProof.Rows PySem.W
section
variable {prog:Program}{w:World}{A:Around}{E:Value->Shared->Prop}{I:Addr}{fp wr:List Addr}{n:Nat}{P:Nat->Value->Prop}{St:Nat->Heap->Prop}{R:Result->Shared->Prop}{kw:List (Str × Value)}
theorem Xo (W:Walks prog w A.in1 I fp wr n P St) (bt:Nat->Nat->Bool) (hcmp:CmpOf prog w A.in1 .Gt P bt) (S:Addr) (hSf:S∉fp):∀(k j:Nat) (s:Shared) (vb:Value) (c:Nat),k=n-(j+1)->j<n->St (j+1) s.heap->P (argBest bt j) vb->
    s.heap.get? S=some { cls:= .type "list",dict:=none,data:= .seq #[vb,vb] c,slots:= #[]}->
    (∀v h' tk,P (argBest bt (n-1)) v->(∀b o,b∉wr->b≠S->s.heap.get? b=some o->h'.get? b=some o)->R (.ok (.ret v)) { s with heap:=h',toks:=tk})->
    codeAny (model prog w) A (.builtin "max.loop" ⟨[.ref I,.none,.ref S],kw⟩) R s:=by
  have hSw:S∉wr:=fun h=>hSf (W.sub _ h)
  have hname:(toString "max"++toString ".loop":String)="max.loop":=by decide
  intro k
  induction k with
  | zero=>
    intro j s vb c hk hj hst hPb hS hR
    have hin:j+1=n:=by omega
    refine codeAny_builtin F.entry_max_loop ?_
    rw [Around.under_plainId F.plain_max_loop _]
    show wpAny _ A.in1 (seqItems? (.ref S)>>=_) _ _ s
    refine wpAny_bind (wpAny_seqItems hS rfl ?_)
    show wpAny _ A.in1 (tryCatch (pyNext (.ref I)) _>>=_) _ _ s
    refine wpAny_bind (wpAny_tryCatch (W.done s _ _ (hin▸hst) fun h' tk hk'=> ?_))
    have hS':=hk' S _ hSw hS
    show wpAny _ A.in1 (updateSeq S (fun _=> #[])>>=_) _ _ _
    refine wpAny_bind ?_
    refine wpAny_updateSeq hS' rfl (wpAny_bind (wpAny_letGo (wpAny_pure ?_)))
    refine hR vb _ tk (by rw [<-hin];exact hPb) fun b o hbw hbS e=>(Heap.get?_update_other _ _ (Ne.symm hbS)).trans (hk' b o hbw e)
  | succ k ih=>
    intro j s vb c hk hj hst hPb hS hR
    have hlt:j+1<n:=by omega
    refine codeAny_builtin F.entry_max_loop ?_
    rw [Around.under_plainId F.plain_max_loop _]
    show wpAny _ A.in1 (seqItems? (.ref S)>>=_) _ _ s
    refine wpAny_bind (wpAny_seqItems hS rfl ?_)
    show wpAny _ A.in1 (tryCatch (pyNext (.ref I)) _>>=_) _ _ s
    refine wpAny_bind (wpAny_tryCatch (W.item (j+1) s _ _ hlt hst fun v h' tk hP hst' hk'=> ?_))
    have hS':=hk' S _ hSw hS
    show wpAny _ A.in1 (tryCatch (holding [v,v] (richCompare .Gt v vb>>=_)) _>>=_) _ _ _
    refine wpAny_bind (wpAny_tryCatch (wpAny_holding (wpAny_bind (hcmp (j+1) (argBest bt j) v vb _ _ _ hP hPb ?_))))
    refine wpAny_bind (wpAny_holding (wpAny_truthy_bool ?_))
    refine wpAny_bind (wpAny_letGo (wpAny_pure ?_))
    cases hb:bt (j+1) (argBest bt j)with
    | true=>
      simp only [if_true]
      refine wpAny_bind ?_
      refine wpAny_updateSeq hS' rfl (wpAny_bind (wpAny_letGo ?_))
      rw [hname]
      refine wpAny_pure ⟨plainId_quiet F.plain_max_loop _,ih (j+1) _ v _ (by omega) hlt (W.frame _ _ _ hst' fun b hbf o e=> ?_) (by simp only [argBest,hb,if_true];exact hP) (Heap.get?_update_self _ hS' rfl)
        fun v' h'' tk'' hP' hk''=> ?_⟩
      . exact(Heap.get?_update_other _ _ (fun h:S=b=>hSf (by rw [h];exact hbf))).trans e
      . exact hR v' h'' tk'' hP' fun b o hbw hbS e=>hk'' b o hbw hbS ((Heap.get?_update_other _ _ (Ne.symm hbS)).trans (hk' b o hbw e))
    | false=>
      simp only [Bool.false_eq_true,if_false]
      refine wpAny_bind (wpAny_letGo ?_)
      rw [hname]
      refine wpAny_pure ⟨plainId_quiet F.plain_max_loop _,ih (j+1) _ vb c (by omega) hlt hst' (by simp only [argBest,hb,Bool.false_eq_true,if_false];exact hPb) hS' fun v' h'' tk'' hP' hk''=> ?_⟩
      exact hR v' h'' tk'' hP' fun b o hbw hbS e=>hk'' b o hbw hbS (hk' b o hbw e)
theorem Uj (W:Walks prog w A.in1 I fp wr n P St) (bt:Nat->Nat->Bool) (hcmp:CmpOf prog w A.in1 .Gt P bt) (S:Addr) (hSf:S∉fp) {d:Value}{s:Shared}{c:Nat} (hst:St 0 s.heap)
    (hS:s.heap.get? S=some { cls:= .type "list",dict:=none,data:= .seq #[] c,slots:= #[]})
    (h0:n=0->∀h' tk,(∀b o,b∉wr->b≠S->s.heap.get? b=some o->h'.get? b=some o)->R (.ok (.ret d)) { s with heap:=h',toks:=tk})
    (hR:0<n->∀v h' tk,P (argBest bt (n-1)) v->(∀b o,b∉wr->b≠S->s.heap.get? b=some o->h'.get? b=some o)->R (.ok (.ret v)) { s with heap:=h',toks:=tk}):
    codeAny (model prog w) A (.builtin "max.loop" ⟨[.ref I,.none,.ref S],[(Str.ofString "default",d)]⟩) R s:=by
  have hSw:S∉wr:=fun h=>hSf (W.sub _ h)
  have hname:(toString "max"++toString ".loop":String)="max.loop":=by decide
  refine codeAny_builtin F.entry_max_loop ?_
  rw [Around.under_plainId F.plain_max_loop _]
  show wpAny _ A.in1 (seqItems? (.ref S)>>=_) _ _ s
  refine wpAny_bind (wpAny_seqItems hS rfl ?_)
  show wpAny _ A.in1 (tryCatch (pyNext (.ref I)) _>>=_) _ _ s
  by_cases hn:0<n
  . refine wpAny_bind (wpAny_tryCatch (W.item 0 s _ _ hn hst fun v h' tk hP hst' hk'=> ?_))
    have hS':=hk' S _ hSw hS
    show wpAny _ A.in1 (updateSeq S (fun _=> #[v,v])>>=_) _ _ _
    refine wpAny_bind ?_
    refine wpAny_updateSeq hS' rfl ?_
    rw [hname]
    refine wpAny_pure ⟨plainId_quiet F.plain_max_loop _,Xo W bt hcmp S hSf _ 0 _ v _ rfl hn (W.frame _ _ _ hst' fun b hbf o e=> ?_) hP (Heap.get?_update_self _ hS' rfl) fun v' h'' tk'' hP' hk''=> ?_⟩
    . exact(Heap.get?_update_other _ _ (fun h:S=b=>hSf (by rw [h];exact hbf))).trans e
    . exact hR hn v' h'' tk'' hP' fun b o hbw hbS e=>hk'' b o hbw hbS ((Heap.get?_update_other _ _ (Ne.symm hbS)).trans (hk' b o hbw e))
  . have z:n=0:=by omega
    refine wpAny_bind (wpAny_tryCatch (W.done s _ _ (z▸hst) fun h' tk hk'=> ?_))
    refine wpAny_bind (wpAny_rule (wpAny_pure ?_))
    exact h0 z h' tk fun b o hbw _ e=>hk' b o hbw e
theorem Wt (a v:Value):argsOk "max" ⟨[a],[(Str.ofString "default",v)]⟩:=by unfold argsOk;kernel_rfl
theorem Wu {x d:Value}{s:Shared}{Q:Value->Shared->Prop}
    (h:wpAny (model prog w) A.in1 (pyIter x) (fun it s₂=>∃I fp wr n P St bt,it= .ref I/\Walks prog w A.in1 I fp wr n P St/\St 0 s₂.heap/\(∀b∈fp,b<s₂.heap.objs.size)/\CmpOf prog w A.in1 .Gt P bt/\
      (n=0->∀h' tk,(∀b o,b∉wr->s₂.heap.get? b=some o->h'.get? b=some o)->Q d { s₂ with heap:=h',toks:=tk})/\
      (0<n->∀v h' tk,P (argBest bt (n-1)) v->(∀b o,b∉wr->s₂.heap.get? b=some o->h'.get? b=some o)->Q v { s₂ with heap:=h',toks:=tk})) E s):
    wpAny (model prog w) A (call (.builtin "max") [x] [(Str.ofString "default",d)]) Q E s:=by
  have hname:(toString "max"++toString ".loop":String)="max.loop":=by decide
  refine kmb_tree PySem.F.kind_max PySem.F.plain_max PySem.F.entry_max (Wt _ _) ?_
  show wpAny _ A.in1 (Builtin.Builtins.bindParams "max" ["key","default"] 0 ⟨[],[(Str.ofString "default",d)]⟩>>=_) _ _ s
  refine wpAny_bind (wpAny_of_eq (show Builtin.Builtins.bindParams "max" ["key","default"] 0 ⟨[],[(Str.ofString "default",d)]⟩=pure [none,some d]from rfl) ?_)
  refine wpAny_bind (wpAny_pure ?_)
  refine wpAny_bind (wpAny_mono h (fun it s₂ h₂=> ?_) fun _ _ e=>e)
  obtain⟨I,fp,wr,n,P,St,bt,rfl,W,hst,hfp,hcmp,hq0,hQ⟩:=h₂
  refine wpAny_bind (wpAny_newObj_type ?_)
  have hSf:s₂.heap.objs.size∉fp:=fun hm=>Nat.lt_irrefl _ (hfp _ hm)
  rw [hname]
  refine wpAny_pure ⟨plainId_quiet F.plain_max_loop _,Uj W bt hcmp s₂.heap.objs.size hSf (W.frame _ _ _ hst fun b _ o e=>Heap.get?_push_of_some _ e) (Heap.get?_push_size _ rfl) (fun z h' tk hk=> ?_) fun z v h' tk hP hk=> ?_⟩
  . exact hq0 z h' tk fun b o hbw e=>hk b o hbw (Nat.ne_of_lt (Heap.lt_size e)) (Heap.get?_push_of_some _ e)
  . exact hQ z v h' tk hP fun b o hbw e=>hk b o hbw (Nat.ne_of_lt (Heap.lt_size e)) (Heap.get?_push_of_some _ e)
end
def Z9 (K:PySem.W.Frag) (t:TA) (td:TE):TE:=fun σ H Q=>t σ H fun vs H1=>td σ H1 fun d H2=>∃(a:Addr) (ns:List Int),vs=[.ref a]/\SqL K H2 a (ns.map V.int)/\(ns=[]->Q d H2)/\(ns≠ []->∀M,M∈ns->(∀x∈ns,x<=M)->Q (.int M) H2)
theorem Um {K:PySem.W.Frag}{t:TA}{td:TE}{σ:St}{H:Hp}{Q:VK}:Z9 K t td σ H Q=t σ H (fun vs H1=>td σ H1 fun d H2=>∃(a:Addr) (ns:List Int),vs=[.ref a]/\SqL K H2 a (ns.map V.int)/\(ns=[]->Q d H2)/\(ns≠ []->∀M,M∈ns->(∀x∈ns,x<=M)->Q (.int M) H2)):=rfl
theorem Js {X:Cx}{e f:Expr}{t:TA}{td:TE}{p kp pos:Pos} (hc:X.calm=true) (hg:Gl X "max") (hm:X.mg "max"=none) (ha:PA X [e] t) (hd:PE X f td) (h1:Br e=true:=by rfl):PE X (.Call (.Name "max" p) [e] [⟨some "default",f,kp⟩] pos) (Z9 X.K t td):=by
  intro pins s σ H Q I h
  refine wpAny_Call_Name_kw (Gs I hg hm PyProof.Rows.boot_max ?_ (by decide) (by decide))
  have se:=Dd (env:=X.env) (e:=e) (es:=[]) h1
  refine PyProof.Rows.callWith_kw (thn (ha pos pins s σ H _ I h) fun us s1 ⟨vs,H1,I1,r1,q1⟩=>PyProof.Rows.kws_cons (thn (hd pins s1 σ H1 _ I1 q1) fun dv s2 ⟨d,H2,I2,rd,q2⟩=>PyProof.Rows.kws_nil ?_)) (by rw [se];rfl) (by rw [se];rfl)
  obtain⟨a,ns,rfl,hS,q0,qM⟩:=q2
  obtain⟨u,rfl,ru⟩:=vals1 r1
  cases ru
  obtain⟨its,rv,pl,_⟩:=I2.list hS
  have hi:IntsAre its ns:=intsAre_of rv
  obtain⟨xs,ex⟩:=hi.allInts.items
  have hns:ns=xs.toList.map (·.1):=by rw [<-hi.numsOf,<-nums_intItems,<-ex]
  have hl:=pl.isList
  rw [ex]at hl
  have ln:ns.length=xs.size:=by rw [hns,List.length_map,Array.length_toList]
  show wpAny (model X.prog X.w) X.A (call (.builtin "max") [.ref a] [(Str.ofString "default",dv)]) _ _ s2
  refine Wu (iter_intList hl fun s₂ e st hfp hlI=> ?_)
  subst e
  refine⟨_,_,_,_,_,_,_,rfl,Walks.list (A:=X.A.in1) (I2.ok.hd hc) _ a hlI (intItems xs),st,hfp,CmpOf.ints_gt (numAt xs) (fun _ _=>intItems_at),fun z h' tk hk=> ?_,fun z v h' tk hP hk=> ?_⟩
  . have z':ns=[]:=List.length_eq_zero_iff.mp (by rw [ln];simpa [intItems]using z)
    exact⟨d,H2,I2.kept (old_kept hk),rd,q0 z'⟩
  . have hsz:0<xs.size:=by simpa [intItems]using z
    obtain⟨M,t,rfl,m1,m2⟩:=Rw hns hsz (v:=v) (by simpa [intItems]using hP)
    exact⟨.int M,H2,I2.kept (old_kept hk),⟨t,rfl⟩,qM (fun e=>by rw [e]at ln;simp at ln;omega) M m1 m2⟩
end L2
namespace L2
open PySem PySem.Spec PyProof.Rows
set_option maxRecDepth 100000
theorem Wo:typeLookup (.type "list_reverseiterator") (Str.ofString "__len__")=pure none:=by rw [typeLookup_type,builtinLookup_eq_fast];kernel_rfl
theorem Aad:typeLookup (.type "list_reverseiterator") (Str.ofString "__length_hint__")=pure (some (.builtin "list_reverseiterator.__length_hint__")):=by rw [typeLookup_type,builtinLookup_eq_fast];kernel_rfl
theorem Abu:isSubtype (.type "list_reverseiterator") (.type "list_reverseiterator")=pure true:=by rw [isSubtype_type];kernel_rfl
section
variable {prog:Program}{w:World}{A:Around}{E:Value->Shared->Prop}{s:Shared}
theorem Uy {r:Addr}{Q:Bool->Shared->Prop} (ht:s.TypeIs (.ref r) "list_reverseiterator") (q:Q false s):wpAny (model prog w) A (Builtin.List.listLengthHint (.ref r)) Q E s:=by
  unfold Builtin.List.listLengthHint
  refine wpAny_bind (wpAny_specialOf ht Wo ?_)
  show wpAny _ _ (specialOf (Value.ref r) (Str.ofString "__length_hint__")>>=_) _ _ _
  refine wpAny_bind (wpAny_specialOf ht Aad ?_)
  generalize hid:("list_reverseiterator.__length_hint__":String)=id0
  wp_delta
  rw [show splitId id0=some ("list_reverseiterator","__length_hint__")from by subst hid;decide+kernel]
  subst hid
  refine wpAny_bind (wpAny_isInstance (T:="list_reverseiterator") (b:=true) ht Abu ?_)
  refine wpAny_ite_split (fun z=>absurd z (by decide)) fun _=> ?_
  refine wpAny_ite_split (fun _=> ?_) fun z=>absurd (by decide+kernel) z
  refine wpAny_ite_split (fun z=>absurd z (by decide)) fun _=> ?_
  exact wpAny_pure q
theorem V9 {R:Result->Shared->Prop}{t l S:Addr}{its:Array Value}{c:Nat} (hh:A.handled=none) (hi:s.heap.IsRevIter t l ((its.size:Int)-1)) (hl:s.heap.IsList l its) (hlt:l≠t) (hz:its.size<=sizeLine)
    (hS:s.heap.get? S=some { cls:= .type "list",data:= .seq #[] c}) (n1:S≠t) (n2:S≠l)
    (k:∀h' tk acc c',(∀b o,b≠S->b≠t->s.heap.get? b=some o->h'.get? b=some o)->h'.get? S=some { cls:= .type "list",dict:=none,data:= .seq acc c',slots:= #[]}->
      ItemsOf (fun i v=>its[its.size-1-i]? =some v) acc its.size->R (.ok (.ret .none)) { s with heap:=h',toks:=tk}):
    wpAny (model prog w) A.in1 (Builtin.List.listExtendWith (.ref S) (.ref t) .none)
      (fun fin s'=>match fin with | .done f=>R (.ok f) s' | .again c'=>c'.quiet=true/\codeAny (model prog w) A c' R s') (fun e s'=>R (.error e) s') s:=by
  have ty:s.TypeIs (.ref t) "list_reverseiterator":=hi.typeIs
  unfold Builtin.List.listExtendWith
  refine wpAny_bind (wpAny_typeOf ty ?_)
  have e1:Builtin.List.listSameRef (.ref S) (.ref t)=false:=by simp [Builtin.List.listSameRef,n1]
  have e2:(Value.type "list_reverseiterator"==Value.type "list")=false:=by decide
  have e3:(Value.type "list_reverseiterator"==Value.type "tuple")=false:=by decide
  simp only [e1,e2,e3,Bool.or_false,Bool.false_eq_true,if_false]
  refine wpAny_bind (wpAny_pyIter_revIter hi ?_)
  refine wpAny_bind (wpAny_holding (Uy ty ?_))
  refine wpAny_ite_split (fun z=>absurd z (by decide+kernel)) fun _=> ?_
  have W:=(Walks.listRev (prog:=prog) (w:=w) (A:=A.in1) hh t l hlt its).toS
  have hf:S∉ [t,l]:=fun m=>by
    rcases List.mem_cons.mp m with e | m
    . exact n1 e
    . exact n2 (List.mem_singleton.mp m)
  have st0:0<=its.size/\s.heap.IsRevIter t l ((its.size:Int)-1-((0:Nat):Int))/\s.heap.IsList l its:=⟨Nat.zero_le _,by simpa using hi,hl⟩
  refine wpAny_pure ⟨plainId_quiet F.plain_extend_loop _,codeAny_extend_loopS W hz S hf .none its.size 0 _ #[] c rfl (Nat.zero_le _) st0 hS (ItemsOf.nil _) fun s' acc c' hm hS' ha=> ?_⟩
  rw [Moved.eq_with hm]
  refine k s'.heap s'.toks acc c' (fun b o h1 h2 e=>hm.heap b o (fun m=> ?_) e) hS' ha
  rcases List.mem_cons.mp m with e | m
  . exact h1 e
  . exact h2 (List.mem_singleton.mp m)
theorem Zc {Q:Value->Shared->Prop}{t l:Addr}{its:Array Value} (hh:A.handled=none) (hi:s.heap.IsRevIter t l ((its.size:Int)-1)) (hl:s.heap.IsList l its) (hlt:l≠t) (hz:its.size<=sizeLine)
    (k:∀h' tk acc c',(∀b o,b≠t->s.heap.get? b=some o->h'.get? b=some o)->h'.get? s.heap.objs.size=some { cls:= .type "list",dict:=none,data:= .seq acc c',slots:= #[]}->
      ItemsOf (fun i v=>its[its.size-1-i]? =some v) acc its.size->Q (.ref s.heap.objs.size) { s with heap:=h',toks:=tk}):
    wpAny (model prog w) A (call (.type "list") [.ref t]) Q E s:=by
  refine callType_codes (Q₁:=fun o s₁=>o= .ref s.heap.objs.size/\s₁={ s with heap:=s.heap.push { cls:= .type "list",data:= .seq #[]}}) F.called_list (F.typeCall_list_1 _) F.entry_list_init (code_list_new _ ⟨rfl,rfl⟩) ?_
  rintro o s₁ ⟨rfl,rfl⟩
  have hS:(s.heap.push { cls:= .type "list",data:= .seq #[]}).get? s.heap.objs.size=some { cls:= .type "list",data:= .seq #[]}:=Heap.get?_push_size _ rfl
  have lt1:t<s.heap.objs.size:=by obtain⟨o,h,_⟩:=hi;exact Heap.lt_size h
  have lt2:l<s.heap.objs.size:=by obtain⟨o,h,_⟩:=hl;exact Heap.lt_size h
  refine⟨⟨_,hS,rfl⟩,F.args_list_init_2 _ _,?_⟩
  show wpAny _ _ (do let old<-Builtin.List.listItems (.ref s.heap.objs.size);Builtin.List.listUpdate (.ref s.heap.objs.size) (fun _=> #[]);letGo old.toList.reverse;Builtin.List.listExtendWith (.ref s.heap.objs.size) (.ref t) .none) _ _ _
  refine wpAny_bind ?_
  unfold Builtin.List.listItems
  refine wpAny_bind (wpAny_seqItems hS rfl (wpAny_pure ?_))
  show wpAny _ _ (updateSeq s.heap.objs.size (fun _=> #[])>>=fun _=>letGo (#[]:Array Value).toList.reverse>>=fun _=>Builtin.List.listExtendWith (.ref s.heap.objs.size) (.ref t) .none) _ _ _
  refine wpAny_bind (wpAny_updateSeq hS rfl ?_)
  have hS2:=Heap.get?_update_self (Obj.mapSeq (fun _=>(#[]:Array Value))) hS rfl
  have kp:∀b x,s.heap.get? b=some x->((s.heap.push { cls:= .type "list",data:= .seq #[]}).update s.heap.objs.size (Obj.mapSeq (fun _=>(#[]:Array Value)))).get? b=some x:=
    fun b x e=>(Heap.get?_update_other _ _ (Ne.symm (Nat.ne_of_lt (Heap.lt_size e)))).trans (Heap.get?_push_of_some _ e)
  refine wpAny_bind (wpAny_letGo ?_)
  refine V9 (A:=A.in1) hh (hi.at fun o e=>kp _ _ e) (hl.at fun o e=>kp _ _ e) hlt hz hS2 (Ne.symm (Nat.ne_of_lt lt1)) (Ne.symm (Nat.ne_of_lt lt2)) fun h' tk acc c' hk hS' ha=> ?_
  exact⟨rfl,k h' tk acc c' (fun b x n e=>hk b x (Nat.ne_of_lt (Heap.lt_size e)) n (kp b x e)) hS' ha⟩
end
section
variable {X:Cx}{e:Expr}{ta:TA}{p p2 pos pos2:Pos}
def Ac6 (K:PySem.W.Frag) (ta:TA):TE:=fun σ H Q=>ta σ H fun vs H1=>∃a xs,vs=[.ref a]/\SqL K H1 a xs/\∀l,H1 l=none->Q (.ref l) (upd H1 l (.lst xs.reverse))
theorem Y7 {K:PySem.W.Frag}{σ:St}{H:Hp}{Q:VK}:Ac6 K ta σ H Q=ta σ H (fun vs H1=>∃a xs,vs=[.ref a]/\SqL K H1 a xs/\∀l,H1 l=none->Q (.ref l) (upd H1 l (.lst xs.reverse))):=rfl
theorem M6 (hc:X.calm=true) (hg:Gl X "list") (hm:X.mg "list"=none) (hg2:Gl X "reversed") (hm2:X.mg "reversed"=none) (ha:PA X [e] ta) (h1:Br e=true:=by rfl):
    PE X (.Call (.Name "list" p) [.Call (.Name "reversed" p2) [e] [] pos2] [] pos) (Ac6 X.K ta):=by
  intro pins s σ H Q I h
  refine wpAny_Call_Name_kw (Gs I hg hm boot_list ?_ (by decide) (by decide))
  refine callWith_type1 ?_ (Dd rfl) rfl
  rw [Dd (es:=[]) rfl]
  show wpAny _ _ (spliced [(false,eval (.Call (.Name "reversed" p2) [e] [] pos2) X.env)]) _ _ s
  refine Calls.spliced_cons ?_
  refine wpAny_Call_Name_kw (Gs I hg2 hm2 boot_reversed ?_ (by decide) (by decide))
  refine callWith_type1 (thn (ha pos2 pins s σ H _ I h) fun us s1 ⟨vs,H1,I1,r1,q1⟩=> ?_) (Dd h1) rfl
  obtain⟨a,xs,rfl,hq,q⟩:=q1
  obtain⟨v,rfl,rv⟩:=vals1 r1
  cases rv
  obtain⟨its,rr,pl,hz⟩:=I1.list hq
  have hlen:=rr.length
  refine call_reversed_list pl.isList ?_
  refine Calls.spliced_nil ?_
  have he:(s1.heap.push (revObj a ((its.toArray.size:Int)-1))).IsRevIter s1.heap.objs.size a ((its.toArray.size:Int)-1):=⟨_,Heap.get?_push_size _ rfl,rfl,rfl⟩
  have hl:=pl.isList
  have la:a<s1.heap.objs.size:=by obtain⟨o,h,_⟩:=hl;exact Heap.lt_size h
  refine Zc (I1.ok.hd hc) he (hl.at fun o e=>Heap.get?_push_of_some _ e) (Nat.ne_of_lt la) (by simp;omega) fun h' tk acc c' hk hS hacc=> ?_
  have kp:∀b o,s1.heap.get? b=some o->h'.get? b=some o:=fun b o e=>hk b o (Nat.ne_of_lt (Heap.lt_size e)) (Heap.get?_push_of_some _ e)
  have al:acc.toList=its.reverse:=by
    have hn:acc.size=its.length:=by have:=hacc.1;simpa using this
    refine List.ext_getElem? fun j=> ?_
    by_cases hj:j<its.length
    . have e1:=hacc.2 j acc[j] (Array.getElem?_eq_getElem (by omega))
      rw [Array.getElem?_toList,Array.getElem?_eq_getElem (by omega),List.getElem?_reverse hj,<-e1]
      simp
    . rw [List.getElem?_eq_none (by simp;omega),List.getElem?_eq_none (by simp;omega)]
  have I2:Inv X pins σ (upd H1 (s1.heap.push (revObj a ((its.toArray.size:Int)-1))).objs.size (.lst xs.reverse)) { s1 with heap:=h',toks:=tk}:=
    I1.laid (t':=tk) kp (by rw [Heap.size_push];exact Nat.le_succ _) (show Bs X.prog X.w _ h' _ (.lst xs.reverse)from⟨by simp;omega,its.reverse,c',rr.reverse,by rw [<-al];exact hS⟩)
  exact⟨.ref _,_,I2,rfl,q _ (I1.hok.fresh (by rw [Heap.size_push];exact Nat.le_succ _))⟩
theorem Tc (hu:X.A.units+1<cLine):OpR X (compareOp .NotIn) (fun x y H Q=>∃a o,y= .ref a/\Km H a x o/\Q (.bl (!o.isSome)) H):=by
  intro pins s σ H x y v u Q I rx ry h
  obtain⟨a,o,rfl,g,q⟩:=h
  cases ry
  exact Aa1 hu I g rx fun s' I'=>⟨.bl (!o.isSome),H,I',rfl,q⟩
end
end L2
namespace L2
open PySem PySem.Spec PyProof.Rows
theorem Og:∀(names:List (Str × NameKind)) (n:Nat) (acc:List (Str × Addr)) (y:Str) (c:Addr),(cellsFrom n names acc).lookup y=some c->acc.lookup y=some c\/(n<=c/\(y,NameKind.cell)∈names)
  | [],_,_,_,_,h=> .inl h
  | (x,k)::r,n,acc,y,c,h=>by
    unfold cellsFrom at h
    by_cases hk:(k==NameKind.cell)=true
    . rw [if_pos hk]at h
      have ek:k= .cell:=by simpa using hk
      subst ek
      rcases Og r (n+1) _ y c h with z | ⟨z,m⟩
      . rw [List.lookup_cons]at z
        cases e:y==x with
        | true=>
          rw [e]at z
          have e1:y=x:=by simpa using e
          subst e1
          exact .inr ⟨Nat.le_of_eq (Option.some.inj z),List.mem_cons_self⟩
        | false=>
          rw [e]at z
          exact .inl z
      . exact .inr ⟨by omega,List.mem_cons_of_mem _ m⟩
    . rw [if_neg hk]at h
      rcases Og r n acc y c h with z | ⟨z,m⟩
      . exact .inl z
      . exact .inr ⟨z,List.mem_cons_of_mem _ m⟩
theorem Vu:∀(names:List (Str × NameKind)) (n:Nat) (acc:List (Str × Addr)) (y:Str),¬(y,NameKind.cell)∈names->(cellsFrom n names acc).lookup y=acc.lookup y
  | [],_,_,_,_=>rfl
  | (x,k)::r,n,acc,y,h=>by
    have hr:¬(y,NameKind.cell)∈r:=fun z=>h (List.mem_cons_of_mem _ z)
    unfold cellsFrom
    by_cases hk:(k==NameKind.cell)=true
    . have ek:k= .cell:=by simpa using hk
      subst ek
      rw [if_pos hk,Vu r _ _ y hr,List.lookup_cons]
      cases e:y==x with
      | true=>
        have e1:y=x:=by simpa using e
        subst e1
        exact absurd List.mem_cons_self h
      | false=>rfl
    . rw [if_neg hk,Vu r _ _ y hr]
theorem V4:∀(names:List (Str × NameKind)) (n:Nat) (acc:List (Str × Addr)) (y:Str),((y,NameKind.cell)∈names\/∃c,acc.lookup y=some c)->∃c,(cellsFrom n names acc).lookup y=some c
  | [],_,_,_,h=>by
    rcases h with h | h
    . cases h
    . exact h
  | (x,k)::r,n,acc,y,h=>by
    unfold cellsFrom
    by_cases hk:(k==NameKind.cell)=true
    . rw [if_pos hk]
      refine V4 r _ _ y ?_
      rw [List.lookup_cons]
      cases e:y==x with
      | true=>exact .inr ⟨n,rfl⟩
      | false=>
        rcases h with h | h
        . rcases List.mem_cons.mp h with z | z
          . cases z
            simp at e
          . exact .inl z
        . exact .inr h
    . rw [if_neg hk]
      refine V4 r _ _ y ?_
      rcases h with h | h
      . rcases List.mem_cons.mp h with z | z
        . cases z
          exact absurd rfl hk
        . exact .inl z
      . exact .inr h
theorem V2:∀(names:List (Str × NameKind)) (n lo:Nat) (acc:List (Str × Addr)) (y:Str) (c:Addr),lo<=n->((y,NameKind.cell)∈names\/∀d,acc.lookup y=some d->lo<=d)->(cellsFrom n names acc).lookup y=some c->lo<=c
  | [],_,_,_,_,_,_,h,e=>by
    rcases h with h | h
    . cases h
    . exact h _ e
  | (x,k)::r,n,lo,acc,y,c,hl,h,e=>by
    unfold cellsFrom at e
    by_cases hk:(k==NameKind.cell)=true
    . rw [if_pos hk]at e
      refine V2 r (n+1) lo _ y c (by omega) ?_ e
      cases ex:y==x with
      | true=>
        refine .inr fun d hd=> ?_
        rw [List.lookup_cons,ex]at hd
        have:n=d:=Option.some.inj hd
        omega
      | false=>
        rcases h with h | h
        . rcases List.mem_cons.mp h with z | z
          . cases z
            simp at ex
          . exact .inl z
        . refine .inr fun d hd=>h d ?_
          rw [List.lookup_cons,ex]at hd
          exact hd
    . rw [if_neg hk]at e
      refine V2 r n lo acc y c hl ?_ e
      rcases h with h | h
      . rcases List.mem_cons.mp h with z | z
        . cases z
          exact absurd rfl hk
        . exact .inl z
      . exact .inr h
theorem Uk:∀(names:List (Str × NameKind)) (n:Nat) (acc:List (Str × Addr)),(∀x y c,acc.lookup x=some c->acc.lookup y=some c->x=y)->(∀x c,acc.lookup x=some c->c<n)->
    ∀x y c,(cellsFrom n names acc).lookup x=some c->(cellsFrom n names acc).lookup y=some c->x=y
  | [],_,_,h,_=>h
  | (z,k)::r,n,acc,h,hb=>by
    unfold cellsFrom
    by_cases hk:(k==NameKind.cell)=true
    . rw [if_pos hk]
      have lk:∀x c,((z,n)::acc).lookup x=some c->(x=z/\c=n)\/(acc.lookup x=some c):=fun x c e=>by
        rw [List.lookup_cons]at e
        cases ex:x==z with
        | true=>
          rw [ex]at e
          exact .inl ⟨by simpa using ex,(Option.some.inj e).symm⟩
        | false=>
          rw [ex]at e
          exact .inr e
      refine Uk r (n+1) _ (fun x y c e1 e2=> ?_) fun x c e=> ?_
      . rcases lk x c e1 with⟨a1,a2⟩ | a1
        . rcases lk y c e2 with⟨b1,_⟩ | b1
          . rw [a1,b1]
          . exact absurd (hb y c b1) (by rw [a2];exact Nat.lt_irrefl _)
        . rcases lk y c e2 with⟨_,b2⟩ | b1
          . exact absurd (hb x c a1) (by rw [b2];exact Nat.lt_irrefl _)
          . exact h x y c a1 b1
      . rcases lk x c e with⟨_,a2⟩ | a1
        . rw [a2]
          exact Nat.lt_succ_self _
        . exact Nat.lt_succ_of_lt (hb x c a1)
    . rw [if_neg hk]
      exact Uk r n acc h hb
theorem Nq:∀(names:List (Str × NameKind)) (h:Heap) (acc:List (Str × Addr)) (y:Str) (c:Addr),(cellsFrom h.objs.size names acc).lookup y=some c->acc.lookup y=some c\/(pushCells h names).IsCell c none
  | [],_,_,_,_,e=> .inl e
  | (x,k)::r,h,acc,y,c,e=>by
    unfold cellsFrom at e
    unfold pushCells
    by_cases hk:(k==NameKind.cell)=true
    . rw [if_pos hk]at e ⊢
      rw [<-Heap.size_push h { cls:= .type "cell",data:= .cell none}]at e
      rcases Nq r _ _ y c e with z | z
      . rw [List.lookup_cons]at z
        cases ex:y==x with
        | true=>
          rw [ex]at z
          have:h.objs.size=c:=Option.some.inj z
          subst this
          exact .inr ⟨_,pushCells_keeps r _ _ _ (Heap.get?_push_size _ rfl),rfl⟩
        | false=>
          rw [ex]at z
          exact .inl z
      . exact .inr z
    . rw [if_neg hk]at e ⊢
      exact Nq r h acc y c e
theorem Acn {M:Model}{A:Around}{E:Value->Shared->Prop}{s:Shared}{scope:Scope}{g:Addr}{cl:List (Str × Addr)}{qual:Str}{env:Env}{Q:Env->Shared->Prop}
    (q:Q { scope:=scope,locals:=s.heap.objs.size,globals:=g,cells:=cellsFrom (s.heap.objs.size+1) scope.names cl,qual:=qual,func:=none,code:=env.code,frame:=env.frame,builtins:=env.builtins} { s with heap:=pushCells (s.heap.push { cls:= .type "dict",data:= .dict #[]}) scope.names}):
    wpAny M A (newFunctionEnv scope g cl [] qual none .none (some env)) Q E s:=by
  simp only [newFunctionEnv,Option.isSome_some,if_true]
  refine wpAny_bind (wpAny_alloc (wpAny_bind (wpAny_layCells _ (fun x k cs=>by cases h:k==NameKind.cell<;>simp [h]) _ _ _ _ ?_)))
  have z:({ s with heap:=s.heap.push { cls:= .type "dict",data:= .dict #[]}}:Shared).heap.objs.size=s.heap.objs.size+1:=Heap.size_push ..
  rw [z]
  refine wpAny_bind ?_
  rw [List.forIn_nil]
  exact wpAny_pure (wpAny_pure q)
def cxD (X:Cx) (N:List Str) (scope:Scope) (ex:List Addr) (s:Shared) (H:Hp):Cx where
  prog:=X.prog
  w:=X.w
  K:=X.K
  mg:=X.mg
  base:=X.base
  A:=X.A
  N:=N
  s₀:=s
  H₀:=H
  env:=compEnvC scope (cellsFrom (s.heap.objs.size+1) scope.names (scope.names.foldl (clF X.env) [])) s.heap.objs.size X.env
  outer:=X.stack
  stack:=X.stack
  ex:=ex
  fn:=fun x=>scope.names.contains (x,NameKind.cell)
  calm:=X.calm
  pn:=[]
  xe:=fun _ _=>False
structure Ge (X:Cx) (ts:List Str) (fs:List (Nat × Str)) (scope:Scope):Prop where
  kind:scope.kind= .function
  names:∀y∈scope.names,y.2= .local ->scope.names.lookup y.1=some .local
  free:∀y∈scope.names,y.2= .free->X.env.kindOf y.1=some .cell\/X.env.kindOf y.1=some .free
  at':∀p∈fs,X.N[p.1]? =some p.2/\(p.2,NameKind.free)∈scope.names/\((relabel scope X.env).names.lookup p.2=some .cell\/(relabel scope X.env).names.lookup p.2=some .free)/\¬(p.2,NameKind.cell)∈scope.names
def rls (sc scope:Scope):Scope:={ scope with names:=rlb sc scope}
def Aed (sc:Scope) (N:List Str) (fs:List (Nat × Str)) (scope:Scope):Bool:=
  (scope.kind== .function)&&(scope.names.all fun y=>y.2 != .local ||scope.names.lookup y.1==some .local)&&
  (scope.names.all fun y=>y.2 != .free||(sc.names.lookup y.1==some .cell||sc.names.lookup y.1==some .free))&&
  fs.all fun p=>N[p.1]? ==some p.2&&(scope.names.contains (p.2,NameKind.free)&&(((rlb sc scope).lookup p.2==some .cell||(rlb sc scope).lookup p.2==some .free)&& !scope.names.contains (p.2,NameKind.cell)))
theorem Ge.of {X:Cx}{ts:List Str}{fs:List (Nat × Str)}{scope sc:Scope}{N:List Str} (e1:X.env.scope=sc) (e2:X.N=N) (h:Aed sc N fs scope=true):Ge X ts fs scope:=by
  unfold Aed at h
  simp only [Bool.and_eq_true,List.all_eq_true,Bool.or_eq_true,bne_iff_ne,beq_iff_eq,List.contains_iff_mem,Bool.not_eq_true']at h
  obtain⟨⟨⟨h1,h3⟩,h4⟩,h5⟩:=h
  refine⟨h1,fun y hy e=> ?_,fun y hy e=> ?_,fun p hp=> ?_⟩
  . rcases h3 y hy with z | z
    . exact absurd e z
    . exact z
  . rcases h4 y hy with z | z
    . exact absurd e z
    . show X.env.scope.names.lookup y.1=_\/X.env.scope.names.lookup y.1=_
      rw [e1]
      exact z
  . obtain⟨a,b,c,d⟩:=h5 p hp
    refine⟨by rw [e2];exact a,b,?_,fun z=> ?_⟩
    . subst e1
      exact c
    . rw [<-List.contains_iff_mem]at z
      rw [z]at d
      cases d
theorem Ay.inD {X:Cx}{N1:List Str}{ex:List Addr}{s:Shared}{H:Hp}{ts:List Str}{fs:List (Nat × Str)}{scope scope1 sc:Scope} (e0:X.env.scope=sc) (h:Ac1 (rls sc scope1) N1 fs scope=true):Ay (cxD X N1 scope1 ex s H) ts fs scope:= .of (by subst e0;rfl) rfl h
section
variable {X:Cx}{elt tg iter:Expr}{ifs:List Expr}{scope:Scope}{pos:Pos}{wi:TI}{g:TG}{tt:TT}{te:TE}{ts:List Str}{fs:List (Nat × Str)}
theorem Ge.clos (S:Ge X ts fs scope) (ok:X.Ok):∀x∈scope.names,x.2= .free->∃c,X.env.cells.lookup x.1=some c:=fun x hx hf=>ok.has x.1 (S.free x hx hf)
theorem Ge.sub0 (S:Ge X ts fs scope) (ok:X.Ok) {y:Str}{c:Addr} (h:(scope.names.foldl (clF X.env) []).lookup y=some c):X.env.cells.lookup y=some c:=by
  rcases K9 scope.names [] y c (S.clos ok) h with z | z
  . simp at z
  . exact z
theorem Ge.sub (S:Ge X ts fs scope) (ok:X.Ok) {n:Nat}{y:Str}{c:Addr} (h:(cellsFrom n scope.names (scope.names.foldl (clF X.env) [])).lookup y=some c):X.env.cells.lookup y=some c\/n<=c:=by
  rcases Og _ _ _ _ _ h with z | ⟨z,_⟩
  . exact .inl (S.sub0 ok z)
  . exact .inr z
theorem Qs {pins:List (Addr × Obj)}{σ:St}{H:Hp}{s3 s4:Shared}{ex:List Addr} (S:Ge X ts fs scope) (I:Inv X pins σ H s3)
    (hex:∀b∈ex,Hs X pins H b/\∃o,s3.heap.get? b=some o) (hos:s4.os=s3.os) (hg:s4.gens=s3.gens) (hk:∀b u,s3.heap.get? b=some u->s4.heap.get? b=some u)
    (hn:s4.heap.Ns s3.heap.objs.size fun _=>none) (hce:∀y c,(cellsFrom (s3.heap.objs.size+1) scope.names (scope.names.foldl (clF X.env) [])).lookup y=some c->(scope.names.foldl (clF X.env) []).lookup y=some c\/s4.heap.IsCell c none):Inv (cxD X (cpN ts fs) scope ex s3 H) [] (cpσ ts.length fs σ) H s4:=by
  have ok:=I.ok
  have cl:∀y c,X.env.cells.lookup y=some c->c<s3.heap.objs.size:=fun y c e=>(I.cell y c e).choose_spec.lt
  have noC:∀b∈ex,b≠s3.heap.objs.size:=fun b hb=>by
    obtain⟨_,o,ho⟩:=hex b hb
    exact Nat.ne_of_lt (Heap.lt_size ho)
  refine⟨⟨ok.mod,S.kind,ok.glob,ok.blt,Nat.le_refl _,Uk _ _ _ (fun y z c h1 h2=>ok.inj y z c (S.sub0 ok h1) (S.sub0 ok h2)) (fun y c h=>Nat.lt_succ_of_lt (cl y c (S.sub0 ok h))),fun y hy=> ?_,fun y c h e=>Nat.le_of_succ_le (V2 _ _ _ _ y c (Nat.le_refl _) (.inl (List.contains_iff_mem.mp h)) e),ok.hd,ok.frames,.inl rfl,fun b hb=>⟨noC b hb,fun x c e=>(S.sub ok e).elim ((hex b hb).1.2.2.2.2.1 x c) fun z z2=> ?_⟩,
    I.bs,Nat.le_trans ok.bsz I.sz,fun b o e hb=> ?_,fun b hb=> ?_,I.stack,I.stkFree⟩,hos,by rw [hg];exact I.bare,Un.kept hk,⟨_,hn,fun i x v h1 h2 h3=> ?_⟩,fun y c e=> ?_,I.hok.fresh (Nat.le_refl _),fun y c e=>(S.sub ok e).elim (I.freeC y c) fun z=>I.hok.fresh (Nat.le_of_succ_le z),
    fun p hp=>absurd (show p∈([]:List (Addr × Obj))from hp) (by simp),I.hok.kept hk,?_⟩
  . have z:∃k',(k'=NameKind.cell\/k'= .free)/\(scope.names.map fun(n,k)=>if(k==NameKind.free&&X.env.scope.kind== .function&&X.env.kindOf n==some .cell)then(n,NameKind.cell)else(n,k)).lookup y=some k':=by
      rcases hy with hy | hy
      . exact⟨_,.inl rfl,hy⟩
      . exact⟨_,.inr rfl,hy⟩
    obtain⟨k',hk',hl⟩:=z
    obtain⟨k,hm,h2⟩:=Du hl
    refine V4 _ _ _ y ?_
    rcases h2 with e | ⟨e,_⟩
    . subst e
      rcases hk' with e | e
      . subst e
        exact .inl hm
      . exact .inr (G8 scope.names [] y (.inl ⟨_,hm,e,rfl⟩))
    . exact .inr (G8 scope.names [] y (.inl ⟨_,hm,e,rfl⟩))
  . subst z2
    obtain⟨_,o,ho⟩:=hex c hb
    have:=Heap.lt_size ho
    exact Nat.lt_irrefl _ (Nat.lt_of_lt_of_le (Nat.lt_succ_of_lt this) z)
  . rcases(hex b hb).1.2.2.2.1 with z | z
    . exact ok.noex b o e z
    . exact absurd (Nat.lt_of_lt_of_le (Heap.lt_size e) (Nat.le_trans ok.bsz z)) (Nat.lt_irrefl _)
  . intro hb2
    rcases List.mem_cons.mp (I.stkSub b hb2)with e | e
    . exact(hex b hb).1.2.1 e
    . exact(hex b hb).1.2.2.1 e
  . unfold cpσ at h2
    by_cases hi:i<ts.length
    . rw [List.getElem?_append_left (by simpa using hi),List.getElem?_replicate]at h2
      split at h2<;>cases h2
    . rw [List.getElem?_append_right (by simpa using hi),List.length_replicate]at h2
      have h1':(cpN ts fs)[i]? =some x:=h1
      unfold cpN at h1'
      rw [List.getElem?_append_right (by omega)]at h1'
      rw [List.getElem?_map]at h1' h2
      cases e:fs[i-ts.length]? with
      | none=>rw [e]at h1';cases h1'
      | some p=>
        rw [e]at h1' h2
        have ex':p.2=x:=Option.some.inj h1'
        have e2:(σ[p.1]?).join=some v:=Option.some.inj h2
        have e3:σ[p.1]? =some (some v):=by
          cases q:σ[p.1]? with
          | none=>rw [q]at e2;cases e2
          | some o=>rw [q]at e2;cases o with | none=>cases e2 | some v'=>cases e2;rfl
        obtain⟨a1,a2,a3,a4⟩:=S.at' p (List.mem_of_getElem? e)
        obtain⟨m,_,hl⟩:=I.loc
        have kd:=S.free _ a2 rfl
        have vis:Vis X.env.scope p.2:=by
          rcases kd with z | z
          . exact .inr (.inl z)
          . exact .inr (.inr z)
        obtain⟨u,r,l⟩:=hl p.1 p.2 v a1 e3 vis
        refine⟨u,r,?_⟩
        rcases l with⟨z,_⟩ | ⟨_,c,hc,hcell⟩
        . rcases kd with q | q
          . rw [q]at z;cases z
          . rw [q]at z;cases z
        . obtain⟨c',hc'⟩:=G8 (env:=X.env) scope.names [] p.2 (.inl ⟨_,a2,rfl,rfl⟩)
          have ec:c'=c:=Option.some.inj ((S.sub0 ok hc').symm.trans hc)
          subst ec
          subst ex'
          refine .inr ⟨?_,c',(Vu _ _ _ _ a4).trans hc',?_⟩
          . exact a3
          . obtain⟨o,ho,hd⟩:=hcell
            exact⟨o,hk _ _ ho,hd⟩
  . rcases hce y c e with z | z
    . obtain⟨v,o,ho,hd⟩:=I.cell y c (S.sub0 ok z)
      exact⟨v,o,hk _ _ ho,hd⟩
    . exact⟨none,z⟩
  . unfold cpσ
    show _=(cpN ts fs).length
    unfold cpN
    simp
theorem W6 {pins:List (Addr × Obj)}{σ σ':St}{H H':Hp}{s3 s5:Shared}{h':Heap}{ex:List Addr} (S:Ge X ts fs scope) (I:Inv X pins σ H s3) (hex:∀b∈ex,Hs X pins H b)
    (J:Inv (cxD X (cpN ts fs) scope ex s3 H) [] σ' H' s5) (sb:Heap.SameBut s3.heap.objs.size s5.heap h'):Inv X pins σ H' { s5 with heap:=h'}:=by
  have nC:H' s3.heap.objs.size=none:=J.free
  have old:∀b o,b≠s3.heap.objs.size->s5.heap.get? b=some o->h'.get? b=some o:=fun b o hb e=>sb.extBut b o hb e
  have lt:∀b o,s3.heap.get? b=some o->b≠s3.heap.objs.size:=fun b o e=>Nat.ne_of_lt (Heap.lt_size e)
  have u:Un (frs X.stack) ex H H' s3.heap s5.heap:=J.base
  have u2:Un (frs X.stack) ex H H' s3.heap h':=
    ⟨fun b o e n hb hx=>old b o (lt b o e) (u.keep b o e n hb hx),fun b o e n hb hx=>by
      obtain⟨sl,q⟩:=u.slot b o e n hb hx
      exact⟨sl,old b _ (lt b o e) q⟩,u.free,fun b o e hx=>by
      obtain⟨o',q⟩:=u.there b o e hx
      exact⟨o',old b o' (lt b o e) q⟩,u.tups,u.frzs,u.tbls⟩
  have hok:HOk X.prog X.w H' h':=fun b o e=>by
    have nb:b≠s3.heap.objs.size:=fun z=>by rw [z,nC]at e;cases e
    refine(J.hok b o e).stay (fun c v hc q=>old c v ?_ q) (fun _ q=>q) fun _ _ q=>q
    rcases hc with z | z
    . rw [z];exact nb
    . intro z2;rw [z2,nC]at z;cases z
  exact I.call' (s':={ s5 with heap:=h'}) (ch:=ex) J.os u2 hok J.bare fun b hb=>⟨(hex b hb).2.2.2.1,(hex b hb).2.1,(hex b hb).2.2.2.2.1,(hex b hb).2.2.2.2.2⟩
theorem Wd {pins:List (Addr × Obj)}{σ:St}{H3:Hp}{s3 s4:Shared}{Q:VK}{R:Result->Shared->Prop}{fp:List Addr}{it p:Addr}{tn:Nat->Heap->Prop}{J:It}{W:Nat->Nat->List V->Hp->Prop}{m0:Nat} (hc:X.calm=true) (S:Ge X ts fs scope)
    (hg:∀ex s H,PG (cxD X (cpN ts fs) scope ex s H) tg g) (ht:∀ex s H,PTs (cxD X (cpN ts fs) scope ex s H) ifs tt) (he:∀ex s H,PE (cxD X (cpN ts fs) scope ex s H) elt te)
    (I3:Inv X pins σ H3 s3) (T:Turn X.prog X.w X.K tg J fp it tn) (hex:∀b∈fp,Hs X pins H3 b) (lt:∀b∈fp,b<s3.heap.objs.size)
    (I4:Inv (cxD X (cpN ts fs) scope fp s3 H3) [] (cpσ ts.length fs σ) H3 s4) (st4:tn 0 s4.heap) (w0:W 0 m0 [] H3)
    (fin:∀H5 s6,Inv (cxD X (cpN ts fs) scope fp s3 H3) [] (cpσ ts.length fs σ) H5 s6->Q (.ref p) H5->R (.ok .next) s6)
    (turn:∀i m acc H2,W i m acc H2->(J.stop i H2/\Q (.ref p) H2)\/(J.go i H2/\∀x H3,J.yld i H2 x H3->g x (cpσ ts.length fs σ) H3 fun σ4 H4=>Kp (cpσ ts.length fs σ) σ4/\tt σ4 H4 fun b H5=>
      if b=true then te σ4 H5 fun y H6=>H6 p=some (.lst acc)/\acc.length<sizeLine/\∃m',m'<m/\W (i+1) m' (acc++ [y]) (upd H6 p (.lst (acc++ [y])))else ∃m',m'<m/\W (i+1) m' acc H5)):
    codeAny (model X.prog X.w) X.A (.compLoop (.ListComp elt [⟨tg,iter,ifs,0⟩] scope pos) 0 (.ref it) (.ref p) (cxD X (cpN ts fs) scope fp s3 H3).env) R s4:=by
  have stat:∀ {H':Hp},(∀b∈fp,H' b=none)->∀b∈fp,Hs (cxD X (cpN ts fs) scope fp s3 H3) [] H' b:=fun hn b hb=>
    ⟨hn b hb,Nat.ne_of_lt (lt b hb),fun z=>(List.mem_cons.mp (I3.stkSub b z)).elim (hex b hb).2.1 (hex b hb).2.2.1,.inl hb,fun x c e=>(S.sub I3.ok e).elim ((hex b hb).2.2.2.2.1 x c) (fun z z2=>Nat.lt_irrefl _ (Nat.lt_of_lt_of_le (Nat.lt_succ_of_lt (lt b hb)) (by rw [<-z2];exact z))),fun q hq=>absurd (show q∈([]:List (Addr × Obj))from hq) (by simp)⟩
  refine Hq (fun n s'=>∃i acc H',Inv (cxD X (cpN ts fs) scope fp s3 H3) [] (cpσ ts.length fs σ) H' s'/\tn i s'.heap/\(∀b∈fp,H' b=none)/\W i n acc H') ?_ m0 ⟨0,[],H3,I4,st4,fun b hb=>(hex b hb).1,w0⟩
  rintro n s5 ⟨i,acc,H5,I5,st5,fr5,w5⟩
  rcases turn i n acc H5 w5 with⟨stop,q⟩ | ⟨go,step⟩
  . refine thn (T.done (cxD X (cpN ts fs) scope fp s3 H3) rfl rfl rfl hc i [] s5 _ H5 _ I5 (stat fr5) st5 stop) fun r s6 ⟨hr,I6⟩=> ?_
    subst hr
    exact fin H5 s6 I6 q
  . refine thn (T.item (cxD X (cpN ts fs) scope fp s3 H3) rfl rfl rfl hc i [] s5 _ H5 _ I5 (stat fr5) st5 go) fun r s6 ⟨u,hr,h6⟩=> ?_
    subst hr
    refine thn h6 fun _ s7 ⟨x,H7,I7,r7,y7,st7,fr7⟩=> ?_
    have I7':=I7.pinned (stat fr7) (T.obj _ _ st7)
    refine thn (hg fp s3 H3 _ s7 _ H7 x u _ I7' r7 (step x H7 y7)) fun _ s8 ⟨σ8,H8,I8,kp,q8⟩=> ?_
    have again:∀ {H9:Hp}{s9:Shared}{acc':List V}{m':Nat},Inv (cxD X (cpN ts fs) scope fp s3 H3) ([]++Ko fp s7.heap) σ8 H9 s9->m'<n->W (i+1) m' acc' H9->
        ∃m,m<n/\∃i acc H',Inv (cxD X (cpN ts fs) scope fp s3 H3) [] (cpσ ts.length fs σ) H' s9/\tn i s9.heap/\(∀b∈fp,H' b=none)/\W i m acc H':=fun {H9 s9 acc' m'} I9 hm w9=>by
      refine⟨m',hm,i+1,acc',H9,(I9.fade kp).unpinned,T.keep _ _ _ st7 fun b hb o e=>(I9.pin (b,o) (List.mem_append_right _ (List.mem_append_right _ (Cr hb e)))).1,fun b hb=> ?_,w9⟩
      obtain⟨o,e,d⟩:=T.obj _ _ st7 b hb
      exact(I9.pin (b,o) (List.mem_append_right _ (List.mem_append_right _ (Cr hb e)))).2.1
    refine thn (ht fp s3 H3 _ s8 σ8 H8 _ I8 q8) fun ok s9 ⟨H9,I9,q9⟩=> ?_
    cases ok with
    | false=>
      rw [if_neg Bool.false_ne_true]at q9 ⊢
      obtain⟨m',hm,w9⟩:=q9
      exact again I9 hm w9
    | true=>
      rw [if_pos rfl]at q9 ⊢
      refine thn (he fp s3 H3 _ s9 σ8 H9 _ I9 q9) fun y s10 ⟨yv,H10,I10,r10,hp10,hlen,m',hm,w10⟩=> ?_
      exact thn (Dq _ s10 σ8 H10 (.ref p) [yv] (.ref p) [y] _ I10 rfl (.cons r10 .nil) ⟨p,acc,yv,rfl,rfl,hp10,hlen,w10⟩) fun _ s11 ⟨_,H11,I11,_,w11⟩=>again I11 hm w11
set_option maxHeartbeats 2000000 in
theorem Ro {pos':Pos}{pins:List (Addr × Obj)}{σ:St}{H:Hp}{s:Shared}{Q:VK}{QQ:Value->Shared->Prop}{use:Option (Value->Sem Unit)} (hc:X.calm=true) (S:Ge X ts fs scope) (hi:PI X tg iter wi) (hg:∀ex s H,PG (cxD X (cpN ts fs) scope ex s H) tg g) (ht:∀ex s H,PTs (cxD X (cpN ts fs) scope ex s H) ifs tt)
    (he:∀ex s H,PE (cxD X (cpN ts fs) scope ex s H) elt te) (hs:∀x,foldedSetIterable iter X.env x=pure x) (I:Inv X pins σ H s) (h:Lz ts.length fs wi g tt te σ H Q)
    (fin:∀(H3:Hp) (s3:Shared) (fp:List Addr) (p:Addr) (H5:Hp) (s6:Shared),Inv X pins σ H3 s3->(∀b∈fp,Hs X pins H3 b)->Inv (cxD X (cpN ts fs) scope fp s3 H3) [] (cpσ ts.length fs σ) H5 s6->Q (.ref p) H5->compPost (model X.prog X.w) X.A X.xe use QQ (.ref p) s3.heap.objs.size (.ok .next) s6):
    wpAny (model X.prog X.w) X.A (comprehension (.ListComp elt [⟨tg,iter,ifs,0⟩] scope pos) scope X.env pos' (newList []) false (eval iter X.env) use) QQ X.xe s:=by
  refine wpAny_comprehension_free (use:=use) rfl hs (J2 (S.clos I.ok)) S.kind S.names (thn (hi pins s σ H _ I h) fun v s1 h1=>thn h1 fun itv s2 h2=> ?_)
  obtain⟨it,fp,tn,J,H2,rfl,I2,T,st2,f2,hw⟩:=h2
  refine wpAny_newObj_type (Acn ?_)
  dsimp only
  have I3:=I2.lnew (its:=[]) (ys:=[]) (t':=s2.toks) .nil (Nat.zero_le _)
  have hD:H2 s2.heap.objs.size=none:=I2.fresh
  obtain⟨W,⟨m0,w0⟩,turn⟩:=hw _ hD
  have up:∀b o,s2.heap.get? b=some o->(s2.heap.push { cls:= .type "list",data:= .seq ([]:List Value).toArray}).get? b=some o:=fun b o e=>Heap.get?_push_of_some _ e
  have hex:∀b∈fp,Hs X pins (upd H2 s2.heap.objs.size (.lst [])) b/\∃o,(s2.heap.push { cls:= .type "list",data:= .seq ([]:List Value).toArray}).get? b=some o:=fun b hb=>by
    obtain⟨o,ho,_⟩:=T.obj _ _ st2 b hb
    have nb:b≠s2.heap.objs.size:=Nat.ne_of_lt (Heap.lt_size ho)
    exact⟨⟨by rw [Av nb];exact(f2 b hb).1,(f2 b hb).2⟩,o,up b o ho⟩
  have hk4:∀b u,(s2.heap.push { cls:= .type "list",data:= .seq ([]:List Value).toArray}).get? b=some u->(pushCells ((s2.heap.push { cls:= .type "list",data:= .seq ([]:List Value).toArray}).push { cls:= .type "dict",data:= .dict #[]}) scope.names).get? b=some u:=fun b u e=>
    pushCells_keeps _ _ _ _ (Heap.get?_push_of_some _ e)
  have I4:=Qs (s4:={ s2 with heap:=pushCells ((s2.heap.push { cls:= .type "list",data:= .seq ([]:List Value).toArray}).push { cls:= .type "dict",data:= .dict #[]}) scope.names,toks:=s2.toks}) S I3 hex rfl rfl hk4 ((Heap.Ns.new _ (.type "dict")).keeps (pushCells_keeps _ _)) (fun y c e=>by
    have z:=Nq scope.names ((s2.heap.push { cls:= .type "list",data:= .seq ([]:List Value).toArray}).push { cls:= .type "dict",data:= .dict #[]}) (scope.names.foldl (clF X.env) []) y c
    rw [Heap.size_push]at z
    exact z e)
  have st4:tn 0 (pushCells ((s2.heap.push { cls:= .type "list",data:= .seq ([]:List Value).toArray}).push { cls:= .type "dict",data:= .dict #[]}) scope.names):=T.keep _ _ _ st2 fun b _ o e=>hk4 b o (up b o e)
  have run:=Wd (elt:=elt) (iter:=iter) (pos:=pos) hc S hg ht he I3 T (fun b hb=>(hex b hb).1) (fun b hb=>Heap.lt_size (hex b hb).2.choose_spec) I4 st4 w0 (fun H5 s6 I6 q=>fin _ _ fp _ H5 s6 I3 (fun b hb=>(hex b hb).1) I6 q) turn
  exact codeAny_compStart_list run (T.self X.A 0 _ _ _ st4 run)
theorem Gp {g':TG}{y:Str}{py spos:Pos} (hc:X.calm=true) (S:Ge X ts fs scope) (hi:PI X tg iter wi) (hg:∀ex s H,PG (cxD X (cpN ts fs) scope ex s H) tg g) (ht:∀ex s H,PTs (cxD X (cpN ts fs) scope ex s H) ifs tt)
    (he:∀ex s H,PE (cxD X (cpN ts fs) scope ex s H) elt te) (hn:PG X (.Name y py) g') (hsw:swapsWith (.ListComp elt [⟨tg,iter,ifs,0⟩] scope pos) (some (.Name y py)) spos.line X.env=pure true:=by rfl) (hs:∀x,foldedSetIterable iter X.env x=pure x:=by intro _;rfl):
    PS X (.Assign [.Name y py] (.ListComp elt [⟨tg,iter,ifs,0⟩] scope pos) spos) (Xu (Lz ts.length fs wi g tt te) g'):=by
  intro pins s σ H D I h
  rw [exec_Assign_Name_used _ _ _ _ hsw]
  refine wpAny_bind (wpAny_standAt (wpAny_bind ?_))
  show wpAny _ X.A (do let _<-comprehension (.ListComp elt [⟨tg,iter,ifs,0⟩] scope pos) scope X.env _ (newList []) false (eval iter X.env) (some (assign (.Name y py) X.env))) _ _ s
  refine wpAny_bind (wpAny_mono (Ro (use:=some (assign (.Name y py) X.env)) (QQ:=fun _ s'=>SP X pins D .next s') hc S hi hg ht he hs I h fun H3 s3 fp p H5 s6 I3 hex I6 q=> ?_) (fun _ s' hq=>wpAny_pure (wpAny_pure hq)) fun _ _ e=>e)
  have J:Inv X pins σ H5 s6:=W6 S I3 hex I6 (Heap.SameBut.refl _ _)
  obtain⟨m,⟨o,es,ep,ho,hd,hsk,hf⟩,_⟩:=I6.loc
  have ho':s6.heap.get? s3.heap.objs.size=some o:=ho
  have fC:Hs X pins H5 s3.heap.objs.size:=I3.fpOk (Nat.le_refl _) I6.free
  have J':=J.pinned (fp:=[s3.heap.objs.size]) (fun b hb=>by
    have e:b=s3.heap.objs.size:=by simpa using hb
    subst e
    exact fC) (fun b hb=>by
    have e:b=s3.heap.objs.size:=by simpa using hb
    subst e
    exact⟨o,ho',fun v z=>by rw [hd]at z;cases z⟩)
  refine thn (hn _ s6 σ H5 (.ref p) (.ref p) _ J' rfl q) fun _ s7 ⟨σ7,H7,I7,q7⟩=> ?_
  have pC:=I7.pin (s3.heap.objs.size,o) (List.mem_append_right _ (List.mem_append_right _ (Cr (by simp) ho')))
  exact⟨m,⟨o,es,ep,pC.1,hd,hsk,hf⟩,fun h' sb=>⟨σ7,H7,I7.unpinned.turned (t':=s7.toks) (fun b o hb e=>sb.extBut b o hb e) pC.2.1 fC.2.1 fC.2.2.2.1 fC.2.2.2.2.1 fC.2.2.2.2.2,q7⟩⟩
theorem N5 (K:PySem.W.Frag) (hK:X.K=K) {l:Expr}{tl:TE} (hl:PE X l tl):PI X tg l (Aci K tl):=by
  subst hK
  exact Dn hl
end
end L2
namespace L2.S
open PySem L2
@[irreducible] def PE (X:Cx) (e:Expr) (t:TE):Prop:=L2.PE X e t
@[irreducible] def PT (X:Cx) (e:Expr) (t:TT):Prop:=L2.PT X e t
@[irreducible] def PW (X:Cx) (e:Expr) (t:TT):Prop:=L2.PW X e t
@[irreducible] def PA (X:Cx) (es:List Expr) (t:TA):Prop:=L2.PA X es t
@[irreducible] def PS (X:Cx) (st:Stmt) (t:TS):Prop:=L2.PS X st t
@[irreducible] def PSs (X:Cx) (st:List Stmt) (t:TS):Prop:=L2.PSs X st t
@[irreducible] def PG (X:Cx) (target:Expr) (t:TG):Prop:=L2.PG X target t
@[irreducible] def PGs (X:Cx) (ts:List Expr) (t:TGs):Prop:=L2.PGs X ts t
@[irreducible] def PI (X:Cx) (tg iter:Expr) (wi:TI):Prop:=L2.PI X tg iter wi
@[irreducible] def PO (X:Cx) (e:Option Expr) (t:TO):Prop:=L2.PO X e t
@[irreducible] def PTs (X:Cx) (ifs:List Expr) (t:TT):Prop:=L2.PTs X ifs t
theorem out {X:Cx}{b:List Stmt}{t:TS} (h:PSs X b t):L2.PSs X b t:=by unfold PSs at h;exact h
theorem pv:∀ {X:Cx} (i:Nat) {x:Str}{pos:Pos},autoParam ((Cx.N X)[i]? =Option.some x) L2.pv._auto_1->autoParam (Vis (Env.scope (Cx.env X)) x) L2.pv._auto_2->autoParam ((x==("__debug__":Str))=Bool.false) L2.pv._auto_3->autoParam ((x==("__classdict__":Str))=Bool.false) L2.pv._auto_4->S.PE X (Expr.Name x pos) (Yd i):=by with_unfolding_all exact @L2.pv
theorem Ds:∀ {X:Cx}{x:Str}{v:V}{u:Value}{pos:Pos},Gl X x->Cx.mg X x=Option.none->bootBuiltins x=Option.some u->RelV v u->autoParam (x≠("__name__":Str)) L2.Ds._auto_1->autoParam ((x==("__debug__":Str))=Bool.false) L2.Ds._auto_2->S.PE X (Expr.Name x pos) (tC v):=by with_unfolding_all exact @L2.Ds
theorem K8:∀ {X:Cx}{x:Str}{v:V}{u:Value}{pos:Pos},Gl X x->Cx.mg X x=Option.some u->RelV v u->autoParam ((x==("__debug__":Str))=Bool.false) L2.K8._auto_1->S.PE X (Expr.Name x pos) (tC v):=by with_unfolding_all exact @L2.K8
theorem Ad:∀ {X:Cx}{i:Int}{j:Nat}{pos:Pos},S.PE X (Expr.Constant (Const.int i) j pos) (tC (V.int i)):=by with_unfolding_all exact @L2.Ad
theorem Hv:∀ {X:Cx}{b:Bool}{j:Nat}{pos:Pos},S.PE X (Expr.Constant (Const.bool b) j pos) (tC (V.bl b)):=by with_unfolding_all exact @L2.Hv
theorem Aj:∀ {X:Cx}{a b:Expr}{ta tb:TE}{pos:Pos}{op:Operator}{r:R2},OpR X (binaryOp op) r->S.PE X a ta->S.PE X b tb->S.PE X (Expr.BinOp a op b pos) (tOp r ta tb):=by with_unfolding_all exact @L2.Aj
theorem Tt:∀ {X:Cx}{a:Expr}{ta:TE}{pos:Pos},S.PE X a ta->S.PE X (Expr.UnaryOp UnaryOp.Not a pos) (Z1 ta):=by with_unfolding_all exact @L2.Tt
theorem Wy:∀ {X:Cx}{a:Expr}{ta:TE}{pos:Pos}{op:UnaryOp}{r:V->Hp->VK->Prop},UnR X (unaryOp op) r->S.PE X a ta->S.PE X (Expr.UnaryOp op a pos) (tUn r ta):=by with_unfolding_all exact @L2.Wy
theorem Gg:∀ {X:Cx}{a b:Expr}{ta tb:TE}{pos:Pos}{op:CmpOp}{r:R2},OpR X (compareOp op) r->S.PE X a ta->S.PE X b tb->behindInMarks op b=Bool.false->S.PE X (Expr.Compare a [op] [b] pos) (tOp r ta tb):=by with_unfolding_all exact @L2.Gg
theorem Kh:∀ {X:Cx}{a b:Expr}{ta tb:TE}{pos:Pos}{rest:List Expr},S.PE X a ta->S.PE X (Expr.BoolOp BoolOp.And (b::rest) pos) tb->S.PE X (Expr.BoolOp BoolOp.And (a::b::rest) pos) (Yv ta tb):=by with_unfolding_all exact @L2.Kh
theorem Mp:∀ {X:Cx}{a:Expr}{pos:Pos}{op:BoolOp}{t:TE},S.PE X a t->S.PE X (Expr.BoolOp op [a] pos) t:=by with_unfolding_all exact @L2.Mp
theorem Bu:∀ {X:Cx}{es:List Expr}{t:TA}{pos:Pos}{x1:Nat},S.PA X es t->S.PE X (Expr.Tuple es x1 pos) (Adu t):=by with_unfolding_all exact @L2.Bu
theorem Em:∀ {X:Cx}{es:List Expr}{t:TA}{pos:Pos},S.PA X es t->S.PE X (Expr.List es pos) (Acx t):=by with_unfolding_all exact @L2.Em
theorem Ig:∀ {X:Cx}{e:Expr}{te:TE}{lo hi:Option Expr}{tl th:TO}{pos p2:Pos}{r:V->Option Int->Option Int->Hp->VK->Prop},SlR X r->S.PE X e te->S.PO X lo tl->S.PO X hi th->S.PE X (Expr.Subscript e (Expr.Slice lo hi Option.none p2) pos) (tSl r te tl th):=by with_unfolding_all exact @L2.Ig
theorem Ly:∀ {X:Cx},S.PO X Option.none Oq:=by with_unfolding_all exact @L2.Ly
theorem Lg:∀ {X:Cx}{e:Expr}{te:TE},S.PE X e te->S.PO X (Option.some e) (Z8 te):=by with_unfolding_all exact @L2.Lg
theorem Bj:∀ {X:Cx}{a b:Expr}{ta tb:TE}{pos:Pos}{r:R2},IxR X r->S.PE X a ta->S.PE X b tb->Ur b->S.PE X (Expr.Subscript a b pos) (tOp r ta tb):=by with_unfolding_all exact @L2.Bj
theorem Ld:∀ {X:Cx}{pos:Pos},S.PE X (Expr.Dict [] [] pos) Yz:=by with_unfolding_all exact @L2.Ld
theorem Eb:∀ {X:Cx}{o i:Expr}{pos:Pos}{td ty:TE},Around.units (Cx.A X)+(1:Nat)<cLine->S.PE X o td->S.PE X i ty->Adl i->S.PE X (Expr.Subscript o i pos) (Z5 td ty):=by with_unfolding_all exact @L2.Eb
theorem Gq:∀ {X:Cx}{o e f:Expr}{apos cpos:Pos}{td ty tx:TE},Around.units (Cx.A X)+(1:Nat)<cLine->S.PE X o td->S.PE X e ty->S.PE X f tx->M2 X o (("get":Str)) apos e f cpos->S.PE X (Expr.Call (Expr.Attribute o (("get":Str)) apos) [e,f] [] cpos) (Ud td ty tx):=by with_unfolding_all exact @L2.Gq
theorem Cj:∀ {X:Cx}{elt tg iter:Expr}{ifs:List Expr}{scope:Scope}{pos:Pos}{wi:TI}{g:TG}{tt:TT}{te:TE}{ts:List Str}{fs:List (Nat × Str)},Cx.calm X=Bool.true->Ay X ts fs scope->S.PI X tg iter wi->(∀(ex:List Addr) (s:Shared) (H:Hp),S.PG (cxC X (cpN ts fs) scope ex s H) tg g)->(∀(ex:List Addr) (s:Shared) (H:Hp),S.PTs (cxC X (cpN ts fs) scope ex s H) ifs tt)->(∀(ex:List Addr) (s:Shared) (H:Hp),S.PE (cxC X (cpN ts fs) scope ex s H) elt te)->autoParam (∀(x:Value),foldedSetIterable iter (Cx.env X) x=Pure.pure x) L2.Cj._auto_1->S.PE X (Expr.ListComp elt [{ target:=tg,iter:=iter,ifs:=ifs,is_async:=(0:Int)}] scope pos) (Lz (List.length ts) fs wi g tt te):=by with_unfolding_all exact @L2.Cj
theorem Bv:∀ {X:Cx}{e:Expr}{es:List Expr}{t:TA}{x:Str}{p pos:Pos}{id:String}{r:List V->Hp->VK->Prop},Dv X (Value.builtin id) r->Gl X x->Cx.mg X x=Option.none->bootBuiltins x=Option.some (Value.builtin id)->S.PA X (e::es) t->autoParam (Br e=Bool.true) L2.Bv._auto_1->autoParam (List.all es Br=Bool.true) L2.Bv._auto_2->autoParam (x≠("__name__":Str)) L2.Bv._auto_3->autoParam ((x==("__debug__":Str))=Bool.false) L2.Bv._auto_4->S.PE X (Expr.Call (Expr.Name x p) (e::es) [] pos) (tCB r t):=by with_unfolding_all exact @L2.Bv
theorem Ej:∀ {X:Cx}{e:Expr}{es:List Expr}{t:TA}{x:Str}{p pos:Pos}{T:String}{r:List V->Hp->VK->Prop},Dv X (Value.type T) r->Gl X x->Cx.mg X x=Option.none->bootBuiltins x=Option.some (Value.type T)->S.PA X (e::es) t->autoParam (Br e=Bool.true) L2.Ej._auto_1->autoParam (List.all es Br=Bool.true) L2.Ej._auto_2->autoParam (x≠("__name__":Str)) L2.Ej._auto_3->autoParam ((x==("__debug__":Str))=Bool.false) L2.Ej._auto_4->S.PE X (Expr.Call (Expr.Name x p) (e::es) [] pos) (tCB r t):=by with_unfolding_all exact @L2.Ej
theorem Am:∀ {X:Cx}{e:Expr}{es:List Expr}{t:TA}{x:Str}{p pos:Pos}{k:Nat}{ps:List Str}{sp:Sp},Cal (Cx.prog X) (Cx.w X) (Cx.K X) (Cx.mg X) (Cx.base X) k x ps sp->Ht k (Cx.A X)->S.PA X (e::es) t->autoParam (Br e=Bool.true) L2.Am._auto_1->autoParam (List.all es Br=Bool.true) L2.Am._auto_2->autoParam (Gl X x) L2.Am._auto_3->autoParam ((x==("__debug__":Str))=Bool.false) L2.Am._auto_4->S.PE X (Expr.Call (Expr.Name x p) (e::es) [] pos) (Sv sp [] E0 t):=by with_unfolding_all exact @L2.Am
theorem Rn:∀ {X:Cx}{i k:Nat}{a:Addr}{x y:Str}{ps:List Str}{sp:Sp}{p pos:Pos}{e:Expr}{es:List Expr}{t:TA},Cal (Cx.prog X) (Cx.w X) (Cx.K X) (Cx.mg X) (Cx.base X) k y ps sp->Cx.mg X y=Option.some (Value.ref a)->Ht k (Cx.A X)->S.PE X (Expr.Name x p) (Yd i)->S.PA X (e::es) t->autoParam (Br e=Bool.true) L2.Rn._auto_1->autoParam (List.all es Br=Bool.true) L2.Rn._auto_2->S.PE X (Expr.Call (Expr.Name x p) (e::es) [] pos) (tCV i a sp E0 t):=by with_unfolding_all exact @L2.Rn
theorem G4:∀ {X:Cx}{o e:Expr}{es:List Expr}{to:TE}{t:TA}{name:Str}{apos cpos:Pos}{T id:String}{r:V->List V->Hp->VK->Prop},PlainAttrs T->Slot T name id->typeOf (Value.builtin id)=Pure.pure (Value.type "method_descriptor")->MtR X id r->S.PE X o to->S.PA X (e::es) t->autoParam (attributeBase o name (Cx.env X) (eval o (Cx.env X))=eval o (Cx.env X)) L2.G4._auto_1->autoParam ((((List.all (backTo cpos (starEach (e::es) (Cx.env X))) fun(x:Bool × Sem Value) ↦ !Prod.fst x)&&List.all (backToKw cpos (keywordEach [] (Cx.env X))) fun(x:Option Str × Sem Value) ↦ Option.isSome (Prod.fst x))&&Decidable.decide ((List.length (e::es)+List.length ([]:List Keyword)+if List.isEmpty ([]:List Keyword)=Bool.true then(0:Nat)else(1:Nat))<(30:Nat)))=Bool.true) L2.G4._auto_2->autoParam ((Pos.endLine apos==Pos.line cpos)=Bool.true) L2.G4._auto_3->autoParam (starEach (e::es) (Cx.env X)=(Bool.false,eval e (Cx.env X))::starEach es (Cx.env X)) L2.G4._auto_4->autoParam ((List.any (backTo cpos (starEach es (Cx.env X))) fun(x:Bool × Sem Value) ↦ Prod.fst x)=Bool.false) L2.G4._auto_5->S.PE X (Expr.Call (Expr.Attribute o name apos) (e::es) [] cpos) (tBM (Cx.K X) T r to t):=by with_unfolding_all exact @L2.G4
theorem Vd:∀ {X:Cx}{a:Expr}{ta:TA}{el:List Expr}{x1:Nat}{tp p pos:Pos},Gl X (("enumerate":Str))->Cx.mg X (("enumerate":Str))=Option.none->S.PA X [a] ta->autoParam (starEach [a] (Cx.env X)=[(Bool.false,eval a (Cx.env X))]) L2.Vd._auto_1->S.PI X (Expr.Tuple el x1 tp) (Expr.Call (Expr.Name (("enumerate":Str)) p) [a] [] pos) (iEn (Cx.K X) ta):=by with_unfolding_all exact @L2.Vd
theorem Iv:∀ {X:Cx}{a b:Expr}{ta:TA}{el:List Expr}{x1:Nat}{tp p pos:Pos} (t1 t2:Bool),Gl X (("zip":Str))->Cx.mg X (("zip":Str))=Option.none->S.PA X [a,b] ta->autoParam (starEach [a,b] (Cx.env X)=[(Bool.false,eval a (Cx.env X)),(Bool.false,eval b (Cx.env X))]) L2.Iv._auto_1->autoParam (starEach [b] (Cx.env X)=[(Bool.false,eval b (Cx.env X))]) L2.Iv._auto_2->S.PI X (Expr.Tuple el x1 tp) (Expr.Call (Expr.Name (("zip":Str)) p) [a,b] [] pos) (Zj t1 t2 (Cx.K X) ta):=by with_unfolding_all exact @L2.Iv
theorem K7:∀ {X:Cx}{o:Expr}{td:TE}{el:List Expr}{x1:Nat}{tp apos cpos:Pos},S.PE X o td->M0 X o (("items":Str)) apos cpos->S.PI X (Expr.Tuple el x1 tp) (Expr.Call (Expr.Attribute o (("items":Str)) apos) [] [] cpos) (V7 td):=by with_unfolding_all exact @L2.K7
theorem Hy:∀ {X:Cx}{pos:Pos},S.PE X (Expr.Dict [] [] pos) Ti:=by with_unfolding_all exact @L2.Hy
theorem Js:∀ {X:Cx}{e f:Expr}{t:TA}{td:TE}{p kp pos:Pos},Cx.calm X=Bool.true->Gl X (("max":Str))->Cx.mg X (("max":Str))=Option.none->S.PA X [e] t->S.PE X f td->autoParam (Br e=Bool.true) L2.Js._auto_1->S.PE X (Expr.Call (Expr.Name (("max":Str)) p) [e] [{ arg:=Option.some (("default":Str)),value:=f,pos:=kp}] pos) (Z9 (Cx.K X) t td):=by with_unfolding_all exact @L2.Js
theorem M6:∀ {X:Cx}{e:Expr}{ta:TA}{p p2 pos pos2:Pos},Cx.calm X=Bool.true->Gl X (("list":Str))->Cx.mg X (("list":Str))=Option.none->Gl X (("reversed":Str))->Cx.mg X (("reversed":Str))=Option.none->S.PA X [e] ta->autoParam (Br e=Bool.true) L2.M6._auto_1->S.PE X (Expr.Call (Expr.Name (("list":Str)) p) [Expr.Call (Expr.Name (("reversed":Str)) p2) [e] [] pos2] [] pos) (Ac6 (Cx.K X) ta):=by with_unfolding_all exact @L2.M6
theorem Bl:∀ {X:Cx}{tg a:Expr}{ta:TA}{p pos:Pos},Gl X (("range":Str))->Cx.mg X (("range":Str))=Option.none->S.PA X [a] ta->autoParam (starEach [a] (Cx.env X)=[(Bool.false,eval a (Cx.env X))]) L2.Bl._auto_1->S.PI X tg (Expr.Call (Expr.Name (("range":Str)) p) [a] [] pos) (Yu ta):=by with_unfolding_all exact @L2.Bl
theorem Eu:∀ {X:Cx}{tg l:Expr}{tl:TE},S.PE X l tl->S.PI X tg l (Zo (Cx.K X) tl):=by with_unfolding_all exact @L2.Eu
theorem Dn:∀ {X:Cx}{tg l:Expr}{tl:TE},S.PE X l tl->S.PI X tg l (Aci (Cx.K X) tl):=by with_unfolding_all exact @L2.Dn
theorem N5:∀ {X:Cx}{tg:Expr} (K:W.Frag),Cx.K X=K->∀ {l:Expr}{tl:TE},S.PE X l tl->S.PI X tg l (Aci K tl):=by with_unfolding_all exact @L2.N5
theorem V1:∀ {X:Cx}{tg l:Expr}{tl:TE},S.PE X l tl->S.PI X tg l (Ad7 (Cx.K X) tl):=by with_unfolding_all exact @L2.V1
theorem Cy:∀ {X:Cx},S.PTs X [] Ms:=by with_unfolding_all exact @L2.Cy
theorem Kz:∀ {X:Cx}{c:Expr}{t:TT},S.PT X c t->S.PTs X [c] t:=by with_unfolding_all exact @L2.Kz
theorem Al:∀ {X:Cx}{a b:Expr}{ta tb:TE}{pos:Pos}{op:CmpOp}{r:R2},OpR X (compareOp op) r->S.PE X a ta->S.PE X b tb->behindInMarks op b=Bool.false->S.PT X (Expr.Compare a [op] [b] pos) (Aah (tOp r ta tb)):=by with_unfolding_all exact @L2.Al
theorem Gx:∀ {X:Cx}{a:Expr}{pos:Pos}{tA:TT},S.PT X a tA->S.PT X (Expr.UnaryOp UnaryOp.Not a pos) (Adx tA):=by with_unfolding_all exact @L2.Gx
theorem Qn:∀ {X:Cx}{a b:Expr}{pos:Pos}{tA tB':TT}{rest:List Expr},S.PT X a tA->S.PW X (Expr.BoolOp BoolOp.And (b::rest) pos) tB'->S.PW X (Expr.BoolOp BoolOp.And (a::b::rest) pos) (Ad6 tA tB'):=by with_unfolding_all exact @L2.Qn
theorem Ga:∀ {X:Cx}{a b:Expr}{pos:Pos}{tA tB':TT}{rest:List Expr},S.PT X a tA->S.PW X (Expr.BoolOp BoolOp.Or (b::rest) pos) tB'->S.PW X (Expr.BoolOp BoolOp.Or (a::b::rest) pos) (tOr tA tB'):=by with_unfolding_all exact @L2.Ga
theorem Oz:∀ {X:Cx}{a:Expr}{pos:Pos}{tA:TT},S.PT X a tA->S.PW X (Expr.BoolOp BoolOp.And [a] pos) tA:=by with_unfolding_all exact @L2.Oz
theorem Fy:∀ {X:Cx}{a:Expr}{pos:Pos}{tA:TT},S.PT X a tA->S.PW X (Expr.BoolOp BoolOp.Or [a] pos) tA:=by with_unfolding_all exact @L2.Fy
theorem K6:∀ {X:Cx}{e:Expr}{t:TT},S.PW X e t->S.PT X e t:=by with_unfolding_all exact @L2.PW.pt
theorem Fx:∀ {X:Cx}{e:Expr}{t:TE},S.PE X e t->autoParam (∀(whole:Sem Value),isTrue e (Cx.env X) whole=do let v<-whole;standAt (Expr.pos e);holding [v] (truthy v)) L2.Fx._auto_1->S.PT X e (tB t):=by with_unfolding_all exact @L2.Fx
theorem Ab:∀ {X:Cx},S.PA X [] Adt:=by with_unfolding_all exact @L2.Ab
theorem Aa:∀ {X:Cx}{e:Expr}{es:List Expr}{te:TE}{t:TA},S.PE X e te->S.PA X es t->autoParam (Br e=Bool.true) L2.Aa._auto_1->S.PA X (e::es) (Xe te t):=by with_unfolding_all exact @L2.Aa
theorem Bd:∀ {X:Cx},S.PSs X [] Z2:=by with_unfolding_all exact @L2.Bd
theorem Af:∀ {X:Cx}{st:Stmt}{t:TS},S.PS X st t->S.PSs X [st] t:=by with_unfolding_all exact @L2.Af
theorem Ac:∀ {X:Cx}{st:Stmt}{rest:List Stmt}{t u:TS},S.PS X st t->S.PSs X rest u->S.PSs X (st::rest) (Acq t u):=by with_unfolding_all exact @L2.Ac
theorem Ah:∀ {X:Cx}{pos:Pos}{i:Nat}{x:Str},List.Nodup (Cx.N X)->(Cx.N X)[i]? =Option.some x->Loc (Env.scope (Cx.env X)) x->∀(hf:autoParam (Cx.fn X x=Bool.true\/List.lookup x (Scope.names (Env.scope (Cx.env X)))=Option.some NameKind.local) L2.Ah._auto_1),S.PG X (Expr.Name x pos) (Nx i):=by with_unfolding_all exact @L2.Ah
theorem Bb:∀ {X:Cx},S.PGs X [] Ade:=by with_unfolding_all exact @L2.Bb
theorem Ai:∀ {X:Cx}{e:Expr}{es:List Expr}{t:TG}{u:TGs},S.PG X e t->S.PGs X es u->autoParam (List.map (fun(x:Bool × (Value->Sem Unit)) ↦ Prod.snd x) (assignEach (e::es) (Cx.env X))=assign e (Cx.env X)::List.map (fun(x:Bool × (Value->Sem Unit)) ↦ Prod.snd x) (assignEach es (Cx.env X))) L2.Ai._auto_1->S.PGs X (e::es) (W0 t u):=by with_unfolding_all exact @L2.Ai
theorem Di:∀ {X:Cx}{es:List Expr}{k:Nat}{pos:Pos}{t:TGs} (K:W.Frag) (n:Nat),Cx.K X=K->Cx.calm X=Bool.true->S.PGs X es t->autoParam (List.length (assignEach es (Cx.env X))=n) L2.Di._auto_1->autoParam (List.findIdx? (fun(x:Bool × (Value->Sem Unit)) ↦ Prod.fst x) (assignEach es (Cx.env X))=Option.none) L2.Di._auto_2->S.PG X (Expr.Tuple es k pos) (Abt K n t):=by with_unfolding_all exact @L2.Di
theorem Cq:∀ {X:Cx}{pos:Pos}{es:List Expr}{k:Nat}{t:TGs}{n:Nat},Cx.calm X=Bool.true->S.PGs X es t->autoParam (List.length (assignEach es (Cx.env X))=n) L2.Cq._auto_1->autoParam (List.findIdx? (fun(x:Bool × (Value->Sem Unit)) ↦ Prod.fst x) (assignEach es (Cx.env X))=Option.none) L2.Cq._auto_2->S.PG X (Expr.Tuple es k pos) (Abt (Cx.K X) n t):=by with_unfolding_all exact @L2.Cq
theorem Pu:∀ {X:Cx}{pos:Pos}{o i:Expr}{to ti:TE}{t:Abn},S.PE X o to->S.PE X i ti->Adz X t->autoParam (∀(v:Value),assign (Expr.Subscript o i pos) (Cx.env X) v=do let ov<-holding [v] (eval o (Cx.env X));let iv<-holding [v,ov] (eval i (Cx.env X));standAt pos;holding [v,ov,iv] (setItem ov iv v);release [v,ov,iv] []) L2.Pu._auto_1->S.PG X (Expr.Subscript o i pos) (Ac8 to ti t):=by with_unfolding_all exact @L2.Pu
theorem Li:∀ {X:Cx}{st:Stmt},S.PS X st Yb:=by with_unfolding_all exact @L2.Li
theorem Io:∀ {X:Cx}{elt tg iter:Expr}{ifs:List Expr}{scope:Scope}{pos:Pos}{wi:TI}{g:TG}{tt:TT}{te:TE}{ts:List Str}{fs:List (Nat × Str)}{g':TG}{y:Str}{py spos:Pos},Cx.calm X=Bool.true->Ay X ts fs scope->S.PI X tg iter wi->(∀(ex:List Addr) (s:Shared) (H:Hp),S.PG (cxC X (cpN ts fs) scope ex s H) tg g)->(∀(ex:List Addr) (s:Shared) (H:Hp),S.PTs (cxC X (cpN ts fs) scope ex s H) ifs tt)->(∀(ex:List Addr) (s:Shared) (H:Hp),S.PE (cxC X (cpN ts fs) scope ex s H) elt te)->S.PG X (Expr.Name y py) g'->autoParam (swapsWith (Expr.ListComp elt [{ target:=tg,iter:=iter,ifs:=ifs,is_async:=(0:Int)}] scope pos) (Option.some (Expr.Name y py)) (Pos.line spos) (Cx.env X)=Pure.pure Bool.true) L2.Io._auto_1->autoParam (∀(x:Value),foldedSetIterable iter (Cx.env X) x=Pure.pure x) L2.Io._auto_2->S.PS X (Stmt.Assign [Expr.Name y py] (Expr.ListComp elt [{ target:=tg,iter:=iter,ifs:=ifs,is_async:=(0:Int)}] scope pos) spos) (Xu (Lz (List.length ts) fs wi g tt te) g'):=by with_unfolding_all exact @L2.Io
theorem Gp:∀ {X:Cx}{elt tg iter:Expr}{ifs:List Expr}{scope:Scope}{pos:Pos}{wi:TI}{g:TG}{tt:TT}{te:TE}{ts:List Str}{fs:List (Nat × Str)}{g':TG}{y:Str}{py spos:Pos},Cx.calm X=Bool.true->Ge X ts fs scope->S.PI X tg iter wi->(∀(ex:List Addr) (s:Shared) (H:Hp),S.PG (cxD X (cpN ts fs) scope ex s H) tg g)->(∀(ex:List Addr) (s:Shared) (H:Hp),S.PTs (cxD X (cpN ts fs) scope ex s H) ifs tt)->(∀(ex:List Addr) (s:Shared) (H:Hp),S.PE (cxD X (cpN ts fs) scope ex s H) elt te)->S.PG X (Expr.Name y py) g'->autoParam (swapsWith (Expr.ListComp elt [{ target:=tg,iter:=iter,ifs:=ifs,is_async:=(0:Int)}] scope pos) (Option.some (Expr.Name y py)) (Pos.line spos) (Cx.env X)=Pure.pure Bool.true) L2.Gp._auto_1->autoParam (∀(x:Value),foldedSetIterable iter (Cx.env X) x=Pure.pure x) L2.Gp._auto_2->S.PS X (Stmt.Assign [Expr.Name y py] (Expr.ListComp elt [{ target:=tg,iter:=iter,ifs:=ifs,is_async:=(0:Int)}] scope pos) spos) (Xu (Lz (List.length ts) fs wi g tt te) g'):=by with_unfolding_all exact @L2.Gp
theorem Ak:∀ {X:Cx}{pos:Pos}{i:Nat}{x:Str}{e:Expr}{te:TE}{pos':Pos},List.Nodup (Cx.N X)->(Cx.N X)[i]? =Option.some x->Loc (Env.scope (Cx.env X)) x->S.PE X e te->autoParam (swapsWith e (Option.some (Expr.Name x pos')) (Pos.line pos) (Cx.env X)=Pure.pure Bool.false) L2.Ak._auto_1->autoParam (Cx.fn X x=Bool.true\/List.lookup x (Scope.names (Env.scope (Cx.env X)))=Option.some NameKind.local) L2.Ak._auto_2->S.PS X (Stmt.Assign [Expr.Name x pos'] e pos) (Xu te (Nx i)):=by with_unfolding_all exact @L2.Ak
theorem G9:∀ {X:Cx}{o i value:Expr}{pos pos':Pos}{td ty tv:TE},Around.units (Cx.A X)+(1:Nat)<cLine->S.PE X o td->S.PE X i ty->S.PE X value tv->swapsWith value (Option.some (Expr.Subscript o i pos')) (Pos.line pos) (Cx.env X)=Pure.pure Bool.false->S.PS X (Stmt.Assign [Expr.Subscript o i pos'] value pos) (Zx td ty tv):=by with_unfolding_all exact @L2.G9
theorem Ho:∀ {X:Cx}{pos:Pos}{i j:Nat}{x y:Str}{a b:Expr}{ta:TA}{px py pt:Pos}{kt k2:Nat}{pt2:Pos},Cx.calm X=Bool.true->List.Nodup (Cx.N X)->(Cx.N X)[i]? =Option.some x->(Cx.N X)[j]? =Option.some y->i≠j->List.lookup x (Scope.names (Env.scope (Cx.env X)))=Option.some NameKind.local->List.lookup y (Scope.names (Env.scope (Cx.env X)))=Option.some NameKind.local->S.PA X [a,b] ta->swappedStores [Expr.Tuple [Expr.Name x px,Expr.Name y py] kt pt] (Expr.Tuple [a,b] k2 pt2) (Cx.env X)=Pure.pure (Option.some [x,y])->autoParam (swapsWithSole [Expr.Tuple [Expr.Name x px,Expr.Name y py] kt pt] (Expr.Tuple [a,b] k2 pt2) (Pos.line pos) (Cx.env X)=Pure.pure Bool.false) L2.Ho._auto_1->S.PS X (Stmt.Assign [Expr.Tuple [Expr.Name x px,Expr.Name y py] kt pt] (Expr.Tuple [a,b] k2 pt2) pos) (Adp i j ta):=by with_unfolding_all exact @L2.Ho
theorem Fw:∀ {X:Cx}{pos:Pos}{tg e:Expr}{te:TE}{g:TG},S.PE X e te->S.PG X tg g->autoParam (swapsWithSole [tg] e (Pos.line pos) (Cx.env X)=Pure.pure Bool.false) L2.Fw._auto_1->autoParam (swappedStores [tg] e (Cx.env X)=Pure.pure Option.none) L2.Fw._auto_2->autoParam (List.map (fun(x:Bool × (Value->Sem Unit)) ↦ Prod.snd x) (assignEach [tg] (Cx.env X))=[assign tg (Cx.env X)]) L2.Fw._auto_3->S.PS X (Stmt.Assign [tg] e pos) (Xu te g):=by with_unfolding_all exact @L2.Fw
theorem Ao:∀ {X:Cx}{e:Expr}{te:TE}{pos:Pos},S.PE X e te->S.PS X (Stmt.Return (Option.some e) pos) (Ac5 te):=by with_unfolding_all exact @L2.Ao
theorem Dp:∀ {X:Cx}{t u:TS}{pos:Pos}{c:Expr}{a b:List Stmt}{tc:TT},S.PT X c tc->S.PSs X a t->S.PSs X b u->S.PS X (Stmt.If c a b pos) (Ac3 tc t u):=by with_unfolding_all exact @L2.Dp
theorem Ec:∀ {X:Cx}{pos:Pos}{c:Expr}{body:List Stmt}{tc:TT}{tb:TS},PassesOwn (model (Cx.prog X) (Cx.w X)) (Cx.A X) (Cx.env X) (Cx.xe X)->S.PT X c tc->S.PSs X body tb->S.PS X (Stmt.While c body [] pos) (Pb tc tb):=by with_unfolding_all exact @L2.Ec
theorem Bt:∀ {X:Cx}{tg iter:Expr}{body:List Stmt}{wi:TI}{g:TG}{tb:TS}{pos:Pos},PassesOwn (model (Cx.prog X) (Cx.w X)) (Cx.A X) (Cx.env X) (Cx.xe X)->Cx.calm X=Bool.true->S.PI X tg iter wi->S.PG X tg g->S.PSs X body tb->autoParam (∀(x:Value),foldedSetIterable iter (Cx.env X) x=Pure.pure x) L2.Bt._auto_1->S.PS X (Stmt.For tg iter body [] pos) (Adf wi g tb):=by with_unfolding_all exact @L2.Bt
theorem Ep:∀ {X:Cx}{e:Expr}{te:TE}{pos:Pos},S.PE X e te->autoParam (swapsWith e Option.none (Pos.line pos) (Cx.env X)=Pure.pure Bool.false) L2.Ep._auto_1->S.PS X (Stmt.Expr e pos) (Zt te):=by with_unfolding_all exact @L2.Ep
theorem Bf {X:Cx}{b:List Stmt}{φ:TS->Prop} (h:∃t,PSs X b t/\φ t):∃t,L2.PSs X b t/\φ t:=by
  obtain⟨t,h1,h2⟩:=h
  exact⟨t,out h1,h2⟩
end L2.S
namespace Z
theorem Lp {a b:Int} (h:0<b):a.fdiv (Int.gcd a b:Int)=(Rat.divInt a b).num/\b.fdiv (Int.gcd a b:Int)=((Rat.divInt a b).den:Int):=by
  have g0:(0:Int)<=(Int.gcd a b:Int):=Int.natCast_nonneg _
  rw [Int.fdiv_eq_ediv_of_nonneg _ g0,Int.fdiv_eq_ediv_of_nonneg _ g0,Rat.num_divInt,Rat.den_divInt]
  rw [if_neg (by omega),Int.sign_eq_one_of_pos h,Int.one_mul,Int.gcd_comm b a]
  refine⟨rfl,?_⟩
  rw [Int.natCast_ediv]
  congr 1
  omega
theorem Ql {a b:Int} (h:b<0):a.fdiv (-(Int.gcd a b:Int))=(Rat.divInt a b).num/\b.fdiv (-(Int.gcd a b:Int))=((Rat.divInt a b).den:Int):=by
  have e:Rat.divInt a b=Rat.divInt (-a) (-b):=(Rat.neg_divInt_neg a b).symm
  have p:=Lp (a:= -a) (b:= -b) (by omega)
  have hg:Int.gcd (-a) (-b)=Int.gcd a b:=by rw [Int.gcd_neg,Int.neg_gcd]
  rw [hg]at p
  rw [e,<-p.1,<-p.2]
  constructor
  . rw [<-Int.neg_fdiv_neg (-a),Int.neg_neg]
  . rw [<-Int.neg_fdiv_neg (-b),Int.neg_neg]
theorem Abm (a b:Int):(Rat.divInt a b).num.natAbs<=a.natAbs:=by
  rw [Rat.num_divInt]
  refine Nat.le_trans (Int.natAbs_ediv_le_natAbs _ _) ?_
  rw [Int.natAbs_mul]
  have:b.sign.natAbs<=1:=by
    rcases Int.lt_trichotomy b 0 with h | h | h
    . rw [Int.sign_eq_neg_one_of_neg h];decide
    . subst h;decide
    . rw [Int.sign_eq_one_of_pos h];decide
  calc b.sign.natAbs*a.natAbs<=1*a.natAbs:=Nat.mul_le_mul_right _ this
    _=a.natAbs:=Nat.one_mul _
theorem Abx {a b:Int} (h:b≠0):(Rat.divInt a b).den<=b.natAbs:=by
  rw [Rat.den_divInt,if_neg h]
  exact Nat.div_le_self _ _
theorem abs_eq (i:Int):(if i<0 then-i else i)=((i.natAbs:Nat):Int):=by
  split<;>omega
theorem K3 (x y:Nat):Nat.gcd y (x%y)=Nat.gcd x y:=by
  rw [Nat.gcd_comm y (x%y),<-Nat.gcd_rec,Nat.gcd_comm]
end Z
namespace Z
open PySem L2
local macro_rules | `(tactic| contradiction)=> `(tactic| simp only [Yw,Tj,Yx,Zw,Uh,Aaw,Oe,Ze,S6,U7,z_c,Acr,Adg,Ac4,Z0,Adn,Z4,Zf,Aag,Zh,Qj,Adw,Aay,Yp,Aaz,Ss,Vl,Zn,Yy,Ac9,V0,Z6,Vt,Adv,Tq,Ym,U4,Ady,Yo,Aak,Nu,Vm,Ve,Ux,O1,T7,Y5,Aas,Aaf,Y6,Ad2,Ln,Tn,Aaq,Ad8,Aa3,Uo,Y8,Zv,V8,Aa2,T9,S7,Sx,Ov,Za,Oi,Vz,Vi,Tv,U6,Oa,Zg,R5,Aab,Ut,Ub,V6,Nr,K4,O4,Um,Y7,Vr,U8,Ni,Tw,Aea,cpσ,List.getElem?_cons_zero,List.getElem?_cons_succ,Option.join_some,List.set_cons_zero,List.set_cons_succ,List.append_nil,decide_eq_true_eq,Bool.not_eq_true',decide_eq_false_iff_not,Bool.not_not,ite_not,Bool.false_eq_true,Bool.true_eq_false,if_false,if_true,if_pos,List.length_cons,List.length_nil,Nat.zero_add,Nat.reduceAdd,R6,T3,true_and,and_true,L2.start,List.map_cons,List.map_nil,Bool.not_true,Bool.not_false,Nat.reduceSub,List.replicate_succ,List.replicate_zero,List.cons_append,List.nil_append])
def top (i:Nat):Stmt:=PySem.Challenge.pw_rootcourt_k33_forms_made.main.body.getD i (.Pass ⟨0,0,0,0⟩)
abbrev G6:Stmt:=top 4
theorem N7:Aq ["thing"] ["thing"] (Ag G6):=⟨rfl,rfl,rfl,by decide+kernel,rfl,by decide+kernel,by decide+kernel⟩
abbrev Jf:Stmt:=top 5
theorem Fq:Aq ["one","other","greater","lesser"] ["one","other"] (Ag Jf):=⟨rfl,rfl,rfl,by decide+kernel,rfl,by decide+kernel,by decide+kernel⟩
abbrev Hh:Stmt:=top 7
theorem Gb:Aq ["top","bottom","shared"] ["top","bottom"] (Ag Hh):=⟨rfl,rfl,rfl,by decide+kernel,rfl,by decide+kernel,by decide+kernel⟩
abbrev Iz:Stmt:=top 9
theorem Dk:Aq ["one","other","weights","place","weight","further","factor"] ["one","other"] (Ag Iz):=⟨rfl,rfl,rfl,by decide+kernel,rfl,by decide+kernel,by decide+kernel⟩
abbrev O6:Stmt:=top 10
theorem Xh:Aq ["one","many"] ["one","many"] (Ag O6):=⟨rfl,rfl,rfl,by decide+kernel,rfl,by decide+kernel,by decide+kernel⟩
abbrev Hg:Stmt:=top 11
theorem Ck:Aq ["start","one","many","product","found","square","left"] ["start","one","many","product"] (Ag Hg):=⟨rfl,rfl,rfl,by decide+kernel,rfl,by decide+kernel,by decide+kernel⟩
abbrev Ef:Stmt:=top 12
theorem Jw:Aq ["number","many"] ["number","many"] (Ag Ef):=⟨rfl,rfl,rfl,by decide+kernel,rfl,by decide+kernel,by decide+kernel⟩
abbrev Er:Stmt:=top 14
theorem Qp:Aq ["thing"] ["thing"] (Ag Er):=⟨rfl,rfl,rfl,by decide+kernel,rfl,by decide+kernel,by decide+kernel⟩
abbrev Gv:Stmt:=top 15
theorem G5:Aq ["thing","powers","weight"] ["thing"] (Ag Gv):=⟨rfl,rfl,rfl,by decide+kernel,rfl,by decide+kernel,by decide+kernel⟩
abbrev Qg:Stmt:=top 16
theorem Ma:Aq ["terms","sums","powers","weight"] ["terms"] (Ag Qg):=⟨rfl,rfl,rfl,by decide+kernel,rfl,by decide+kernel,by decide+kernel⟩
abbrev Lx:Stmt:=top 17
theorem Td:Aq ["f","g"] ["f","g"] (Ag Lx):=⟨rfl,rfl,rfl,by decide+kernel,rfl,by decide+kernel,by decide+kernel⟩
abbrev Ft:Stmt:=top 18
theorem Ob:Aq ["f","number"] ["f","number"] (Ag Ft):=⟨rfl,rfl,rfl,by decide+kernel,rfl,by decide+kernel,by decide+kernel⟩
abbrev Jc:Stmt:=top 19
theorem Cm:Aq ["f","g","base","others","sums","one","weight","other","factor"] ["f","g"] (Ag Jc):=⟨rfl,rfl,rfl,by decide+kernel,rfl,by decide+kernel,by decide+kernel⟩
abbrev Cg:Stmt:=top 20
theorem G3:Aq ["f"] ["f"] (Ag Cg):=⟨rfl,rfl,rfl,by decide+kernel,rfl,by decide+kernel,by decide+kernel⟩
abbrev Ij:Stmt:=top 21
theorem R0:Aq ["f","base"] ["f","base"] (Ag Ij):=⟨rfl,rfl,rfl,by decide+kernel,rfl,by decide+kernel,by decide+kernel⟩
abbrev Hf:Stmt:=top 22
theorem Dl:Aq ["sums","base","found","key","upper","k"] ["sums","base"] (Ag Hf):=⟨rfl,rfl,rfl,by decide+kernel,rfl,by decide+kernel,by decide+kernel⟩
abbrev Gm:Stmt:=top 23
theorem Ca:Aq ["f","at","tables","total","bottom","place","powers","weight"] ["f","at"] (Ag Gm):=⟨rfl,rfl,rfl,by decide+kernel,rfl,by decide+kernel,by decide+kernel⟩
abbrev Dm:Stmt:=top 24
theorem Ba:Aq ["f","place","point","greatest","found","top","bottom","powers","weight","many"] ["f","place","point"] (Ag Dm):=⟨rfl,rfl,rfl,by decide+kernel,rfl,by decide+kernel,by decide+kernel⟩
abbrev Qk:Stmt:=top 25
theorem Aap:Aq ["f","place"] ["f","place"] (Ag Qk):=⟨rfl,rfl,rfl,by decide+kernel,rfl,by decide+kernel,by decide+kernel⟩
abbrev Gi:Stmt:=top 27
theorem M7:Aq ["_law_script","_law_k"] ["_law_script","_law_k"] (Ag Gi):=⟨rfl,rfl,rfl,by decide+kernel,rfl,by decide+kernel,by decide+kernel⟩
abbrev Jd:Stmt:=top 28
theorem Bx:Aq ["_law_cell","_law_many","_law_found","_law_rest","_law_first","_law_mixed","_law_k"] ["_law_cell","_law_many"] (Ag Jd):=⟨rfl,rfl,rfl,by decide+kernel,rfl,by decide+kernel,by decide+kernel⟩
abbrev Lh:Stmt:=top 29
theorem Vx:Aq ["_law_draws_here","_law_most"] ["_law_draws_here","_law_most"] (Ag Lh):=⟨rfl,rfl,rfl,by decide+kernel,rfl,by decide+kernel,by decide+kernel⟩
abbrev Hi:Stmt:=top 30
theorem Ju:Aq ["_law_draws_here","_law_kind"] ["_law_draws_here"] (Ag Hi):=⟨rfl,rfl,rfl,by decide+kernel,rfl,by decide+kernel,by decide+kernel⟩
abbrev Jm:Stmt:=top 31
theorem Fo:Aq ["_law_draws_here","_law_many","_law_most","_law_found","_law_k","_law_powers"] ["_law_draws_here","_law_many","_law_most"] (Ag Jm):=⟨rfl,rfl,rfl,by decide+kernel,rfl,by decide+kernel,by decide+kernel⟩
abbrev La:Stmt:=top 32
theorem Ii:Aq ["_law_terms_here","_law_found","_law_powers","_law_weight_here"] ["_law_terms_here"] (Ag La):=⟨rfl,rfl,rfl,by decide+kernel,rfl,by decide+kernel,by decide+kernel⟩
abbrev Gf:Stmt:=top 33
theorem Cu:Aq ["_law_f","_law_g","_law_found","_law_one","_law_weight_here","_law_two","_law_other"] ["_law_f","_law_g"] (Ag Gf):=⟨rfl,rfl,rfl,by decide+kernel,rfl,by decide+kernel,by decide+kernel⟩
abbrev En:Stmt:=top 34
theorem Cw:Aq ["_law_draws_here","_law_bottom","_law_top","_law_one","_law_two"] ["_law_draws_here"] (Ag En):=⟨rfl,rfl,rfl,by decide+kernel,rfl,by decide+kernel,by decide+kernel⟩
abbrev Fg:Stmt:=top 35
theorem Az:Aq ["_law_f","_law_at","_law_most","_law_top","_law_bottom","_law_k","_law_powers","_law_weight_here","_law_part","_law_turn"] ["_law_f","_law_at"] (Ag Fg):=⟨rfl,rfl,rfl,by decide+kernel,rfl,by decide+kernel,by decide+kernel⟩
abbrev P0:Stmt:=top 36
theorem Ny:Aq ["_law_found","_law_top","_law_bottom","_law_one","_law_two"] ["_law_found","_law_top","_law_bottom"] (Ag P0):=⟨rfl,rfl,rfl,by decide+kernel,rfl,by decide+kernel,by decide+kernel⟩
abbrev Kw:Stmt:=top 37
theorem Ek:Aq ["_law_script","_law_draws_here","_law_one","_law_two","_law_handed","_law_first","_law_second","_law_factor","_law_at","_law_top","_law_bottom"] ["_law_script"] (Ag Kw):=⟨rfl,rfl,rfl,by decide+kernel,rfl,by decide+kernel,by decide+kernel⟩
def Wm (K:PySem.W.Frag):Sp:=fun vs H Q _=>∃(a:Addr) (ns:List Int),vs=[.ref a]/\SqL K H a (ns.map V.int)/\ns.length<=63/\∀H',Q (.bl true) H'
def cell (ns:List Int) (k:Int):Int:=ns.getD k.toNat 0
def Ey (K:PySem.W.Frag):Sp:=fun vs H Q _=>∃(a:Addr) (ns:List Int) (k:Int),vs=[.ref a,.int k]/\SqL K H a (ns.map V.int)/\0<=k/\Q (.int (cell ns k)) H
section
variable {P:Program}{w:World}{K:PySem.W.Frag}{mg:Str->Option Value}{base:Heap}
theorem Mq {f:Addr}{fd:FuncData} (F:Df K mg "_law_cell_at" Gi ["_law_script","_law_k"] f fd) (z_len:mg "len"=none)   :Cal P w K mg base 1 "_law_cell_at" ["_law_script","_law_k"] (Ey K):=by
  refine F.cal (F.fn.ok M7 (fun vs H Q E h=> ?_) (fun cdv A outer s H vs Q E hr h=> ?_))
  . obtain⟨a,ns,k,rfl,_⟩:=h
    rfl
  obtain⟨a,ns,k,rfl,hS,hk,q⟩:=h
  refine S.Bf ⟨_,(S.Ac (S.Dp (S.Al Aau (S.pv 1) (S.Bv Bm rfl z_len PySem.boot_len (S.Aa (S.pv 0) S.Ab)) (Ax _)) (S.Af (S.Ao (S.Bj Ea (S.pv 0) (S.pv 1) (fun _ _=>rfl)))) S.Bd)
      (S.Af (S.Ao S.Ad))),?_⟩
  contradiction
  refine⟨a,_,rfl,.inl hS,?_⟩
  rw [List.length_map]
  split
  . rename_i h
    have hk':k.toNat<ns.length:=by omega
    refine K1 hS (v:= .int (cell ns k)) ?_ q
    have e:=Dc (xs:=ns.map V.int) (j:=k.toNat) (v:= .int (cell ns k)) (by
      rw [List.getElem?_map,List.getElem?_eq_getElem hk']
      unfold cell
      rw [List.getD_eq_getElem?_getD,List.getElem?_eq_getElem hk']
      rfl)
    rw [Int.toNat_of_nonneg hk]at e
    exact e
  . rename_i h
    have e:cell ns k=0:=by
      unfold cell
      rw [List.getD_eq_getElem?_getD,List.getElem?_eq_none (by omega)]
      rfl
    rw [e]at q
    exact q
inductive Wh (K:PySem.W.Frag) (H:Hp):V->Bool->Prop where
  | int (i:Int):Wh K H (.int i) true
  | bl (b:Bool):Wh K H (.bl b) false
  | non:Wh K H .non false
  | str (x:Str):Wh K H (.str x) false
  | tup {a:Addr}{xs:List V} (e:H a=some (.tup xs)):Wh K H (.ref a) false
  | lst {a:Addr}{xs:List V} (e:H a=some (.lst xs)):Wh K H (.ref a) false
def Aep (K:PySem.W.Frag):Sp:=fun vs H Q _=>∃v b,vs=[v]/\Wh K H v b/\Q (.bl b) H
theorem isi {H:Hp}{GB:Bool->Prop}{v:V}{t:Value}{T:String}{b:Bool} (ht:M9 K H v t) (hk:PySem.W.kitOne K t (.type T)=some b) (q:GB b):
    ∃x t' T' b',[v,V.ty T]=[x,V.ty T']/\M9 K H x t'/\PySem.W.kitOne K t' (.type T')=some b'/\GB b':=⟨v,t,T,b,rfl,ht,hk,q⟩
theorem Qc {T U:String}{b:Bool} (h:(if(Value.type T==Value.type U)=true then some true else if PySem.W.kitMeta U=true then PySem.W.subIn [] (.type T) (.type U)else none)=some b):PySem.W.kitOne K (.type T) (.type U)=some b:=h
theorem Yh:PySem.W.kitOne K (.type "int") (.type "int")=some true:=Qc (by decide+kernel)
theorem Acf:PySem.W.kitOne K (.type "int") (.type "bool")=some false:=Qc (by decide+kernel)
theorem Ab5:PySem.W.kitOne K (.type "bool") (.type "int")=some true:=Qc (by decide+kernel)
theorem Abe:PySem.W.kitOne K (.type "bool") (.type "bool")=some true:=Qc (by decide+kernel)
theorem Aco:PySem.W.kitOne K (.type "NoneType") (.type "int")=some false:=Qc (by decide+kernel)
theorem Acd:PySem.W.kitOne K (.type "str") (.type "int")=some false:=Qc (by decide+kernel)
theorem Ack:PySem.W.kitOne K (.type "tuple") (.type "int")=some false:=Qc (by decide+kernel)
theorem Abs:PySem.W.kitOne K (.type "list") (.type "int")=some false:=Qc (by decide+kernel)
def Jh (K:PySem.W.Frag):Sp:=Aep K
theorem Om {f:Addr}{fd:FuncData} (F:Df K mg "is_whole" G6 ["thing"] f fd) (z_isinstance:mg "isinstance"=none) (z_int:mg "int"=none) (z_bool:mg "bool"=none)   :Cal P w K mg base 1 "is_whole" ["thing"] (Jh K):=by
  refine F.cal (F.fn.ok N7 (fun vs H Q E h=> ?_) (fun cdv A outer s H vs Q E hr h=> ?_))
  . obtain⟨v,b,rfl,_⟩:=h
    rfl
  obtain⟨v,b,rfl,hv,q⟩:=h
  refine S.Bf ⟨_,(S.Af (S.Ao (S.Kh (S.Bv Ih rfl z_isinstance PyProof.Rows.boot_isinstance (S.Aa (S.pv 0) (S.Aa (S.Ds (v:= .ty "int") rfl z_int PyProof.Rows.boot_int rfl) S.Ab))) (S.Mp (S.Tt (S.Bv Ih rfl z_isinstance PyProof.Rows.boot_isinstance (S.Aa (S.pv 0) (S.Aa (S.Ds (v:= .ty "bool") rfl z_bool PyProof.Rows.boot_bool rfl) S.Ab)))))))),?_⟩
  contradiction
  cases hv with
  | int i=>
    refine isi (.int i) Yh ?_
    contradiction
    refine isi (.int i) Acf ?_
    contradiction
    exact q
  | bl b=>
    refine isi (.bl b) Ab5 ?_
    contradiction
    refine isi (.bl b) Abe ?_
    contradiction
    exact q
  | non=>
    refine isi .non Aco ?_
    contradiction
    exact q
  | str x=>
    refine isi (.str x) Acd ?_
    contradiction
    exact q
  | tup e=>
    refine isi (.tup e) Ack ?_
    contradiction
    exact q
  | lst e=>
    refine isi (.lst e) Abs ?_
    contradiction
    exact q
theorem Wh.mono {H H':Hp}{v:V}{b:Bool} (h:Wh K H v b) (s:Same H H'):Wh K H' v b:=by
  cases h with
  | int i=>exact .int i
  | bl b=>exact .bl b
  | non=>exact .non
  | str x=>exact .str x
  | tup e=>exact .tup (s _ _ e)
  | lst e=>exact .lst (s _ _ e)
theorem Yg:PySem.W.kitOne K (.type "int") (.type "tuple")=some false:=Qc (by decide+kernel)
theorem Yl:PySem.W.kitOne K (.type "NoneType") (.type "tuple")=some false:=Qc (by decide+kernel)
theorem X5:PySem.W.kitOne K (.type "str") (.type "tuple")=some false:=Qc (by decide+kernel)
theorem Rx:PySem.W.kitOne K (.type "list") (.type "tuple")=some false:=Qc (by decide+kernel)
theorem Ew:PySem.W.kitOne K (.type "tuple") (.type "tuple")=some true:=Qc (by decide+kernel)
inductive TyA (K:PySem.W.Frag) (H:Hp):V->Value->Prop where
  | of {v:V}{t:Value} (h:M9 K H v t):TyA K H v t
  | tup {a:Addr}{xs:List V} (h:SqT K H a xs):TyA K H (.ref a) (.type "tuple")
theorem Lq {X:Cx}:Dv X (.builtin "isinstance") (fun xs H Q=>∃x t T b,xs=[x,.ty T]/\TyA X.K H x t/\PySem.W.kitOne X.K t (.type T)=some b/\Q (.bl b) H):=by
  intro pins s σ H xs us Q I r h
  obtain⟨x,t,T,b,rfl,ht,hk,q⟩:=h
  cases ht with
  | of ht=>exact Ih pins s σ H _ us Q I r ⟨x,t,T,b,rfl,ht,hk,q⟩
  | tup hs=>exact Pq pins s σ H _ us Q I r ⟨_,_,T,b,rfl,hs,hk,q⟩
theorem isa {H:Hp}{GB:Bool->Prop}{v:V}{t:Value}{T:String}{b:Bool} (ht:TyA K H v t) (hk:PySem.W.kitOne K t (.type T)=some b) (q:GB b):
    ∃x t' T' b',[v,V.ty T]=[x,V.ty T']/\TyA K H x t'/\PySem.W.kitOne K t' (.type T')=some b'/\GB b':=⟨v,t,T,b,rfl,ht,hk,q⟩
theorem at0 {α:Type} (x:α) (r:List α):atI (x::r) 0=some x:=Dc (j:=0) rfl
theorem Zb {X:Cx} (K:PySem.W.Frag) (hu:X.A.units+64<cLine) (h:X.K=K:=by rfl):OpR X (compareOp .Lt) (Aef K):=by
  subst h
  exact Abg (by omega)
theorem Abq (xs:List V):Rj xs (some 1) none=xs.drop 1:=by
  unfold Rj
  rw [HT.Wb,show(some (1:Int))=some ((1:Nat):Int)from rfl,HT.Yr]
  cases xs with
  | nil=>rfl
  | cons x r=>
    rw [Nat.min_eq_left (by simp),List.take_of_length_le (by simp)]
inductive Pw (K:PySem.W.Frag) (H:Hp):V->Bool->Prop where
  | int (i:Int):Pw K H (.int i) (decide (0<=i))
  | no {v:V} (h:Wh K H v false):Pw K H v false
theorem Pw.mono {H H':Hp}{v:V}{b:Bool} (h:Pw K H v b) (s:Same H H'):Pw K H' v b:=by
  cases h with
  | int i=>exact .int i
  | no h=>exact .no (h.mono s)
inductive Tm (K:PySem.W.Frag) (H:Hp):V->Bool->Prop where
  | int (i:Int):Tm K H (.int i) false
  | non:Tm K H .non false
  | str (x:Str):Tm K H (.str x) false
  | lst {a:Addr}{xs:List V} (e:H a=some (.lst xs)):Tm K H (.ref a) false
  | long {a:Addr}{xs:List V} (h:SqT K H a xs) (hl:xs.length≠2):Tm K H (.ref a) false
  | notT {a c:Addr}{w:V}{xs:List V} (h:SqT K H a [.ref c,w]) (e:H c=some (.lst xs)):Tm K H (.ref a) false
  | plen {a c:Addr}{w:V}{xs:List V} (h:SqT K H a [.ref c,w]) (hc:SqT K H c xs) (hl:xs.length≠3):Tm K H (.ref a) false
  | notw {a c:Addr}{w:V}{xs:List V} (h:SqT K H a [.ref c,w]) (hc:SqT K H c xs) (hl:xs.length=3) (hw:Wh K H w false):Tm K H (.ref a) false
  | gen {a c:Addr}{w:Int}{es:List (V × Bool)} (h:SqT K H a [.ref c,.int w]) (hc:SqT K H c (es.map (·.1))) (hl:es.length=3) (hp:∀e∈es,Pw K H e.1 e.2):Tm K H (.ref a) (decide (w≠0)&&(es.map (·.2)).all id)
theorem Tm.mono {H H':Hp}{v:V}{b:Bool} (h:Tm K H v b) (s:Same H H'):Tm K H' v b:=by
  cases h with
  | int i=>exact .int i
  | non=>exact .non
  | str x=>exact .str x
  | lst e=>exact .lst (s _ _ e)
  | long h hl=>exact .long (s.tup h) hl
  | notT h e=>exact .notT (s.tup h) (s _ _ e)
  | plen h hc hl=>exact .plen (s.tup h) (s.tup hc) hl
  | notw h hc hl hw=>exact .notw (s.tup h) (s.tup hc) hl (hw.mono s)
  | gen h hc hl hp=>exact .gen (s.tup h) (s.tup hc) hl fun e he=>(hp e he).mono s
def Ka (K:PySem.W.Frag):Sp:=fun vs H Q _=>∃v b,vs=[v]/\Tm K H v b/\∀H',Same H H'->Q (.bl b) H'
theorem Ri {f:Addr}{fd:FuncData} (F:Df K mg "is_term" Gv ["thing"] f fd) (z_all:mg "all"=none) (z_isinstance:mg "isinstance"=none) (z_tuple:mg "tuple"=none) (z_len:mg "len"=none) (xm_power:mg "power"=some (.ref (cA K "power"))) (c_is_whole:Cal P w K mg base 1 "is_whole" ["thing"] (Jh K)):Cal P w K mg base 2 "is_term" ["thing"] (Ka K):=by
  refine F.cal (F.fn.ok G5 (fun vs H Q E h=> ?_) (fun cdv A outer s H vs Q E hr h=> ?_))
  . obtain⟨v,b,rfl,_⟩:=h
    rfl
  obtain⟨v,b,rfl,hv,k⟩:=h
  refine S.Bf ⟨_,(S.Ac (S.Dp (S.K6 (S.Ga (S.Gx (S.Fx (S.Bv Lq rfl z_isinstance PyProof.Rows.boot_isinstance (S.Aa (S.pv 0) (S.Aa (S.Ds (v:= .ty "tuple") rfl z_tuple PyProof.Rows.boot_tuple rfl) S.Ab))))) (S.Fy (S.Al Jy (S.Bv Bm rfl z_len PySem.boot_len (S.Aa (S.pv 0) S.Ab)) S.Ad (Ax _))))) (S.Af (S.Ao S.Hv)) S.Bd)
      (S.Ac (S.Fw (S.pv 0) (S.Cq rfl (S.Ai (S.Ah (i:=1) G5.nd rfl (Or.inl rfl)) (S.Ai (S.Ah (i:=2) G5.nd rfl (Or.inl rfl)) S.Bb))))
      (S.Ac (S.Dp (S.K6 (S.Ga (S.Gx (S.Fx (S.Bv Lq rfl z_isinstance PyProof.Rows.boot_isinstance (S.Aa (S.pv 1) (S.Aa (S.Ds (v:= .ty "tuple") rfl z_tuple PyProof.Rows.boot_tuple rfl) S.Ab))))) (S.Ga (S.Al Jy (S.Bv Bm rfl z_len PySem.boot_len (S.Aa (S.pv 1) S.Ab)) S.Ad (Ax _)) (S.Ga (S.Gx (S.Fx (S.Am c_is_whole (hr.mono (by decide)) (S.Aa (S.pv 2) S.Ab)))) (S.Fy (S.Al M5 (S.pv 2) S.Ad (Ax _))))))) (S.Af (S.Ao S.Hv)) S.Bd)
      (S.Af (S.Ao (S.Bv (Ia rfl) rfl z_all PyProof.Rows.boot_all (S.Aa (S.Cj (ts:=["power"]) (fs:=[]) rfl (Ay.of (sc:=Ag Gv) (N:=["thing","powers","weight"]) rfl rfl (by decide+kernel)) (S.Dn (S.pv 1)) (fun _ _ _=>(S.Ah (i:=0) (show List.Nodup (["power"]:List Str)by decide+kernel) rfl (Or.inl rfl))) (fun _ _ _=>S.Cy) (fun _ _ _=>(S.Kh (S.Am c_is_whole (hr.mono (by decide)) (S.Aa (S.pv 0) S.Ab)) (S.Mp (S.Gg Acz (S.pv 0) S.Ad (Ax _)))))) S.Ab))))))),?_⟩
  contradiction
  have k0:=k _ (Same.refl _)
  cases hv with
  | int i=>
    refine isa (.of (.int i)) Yg ?_
    try contradiction
    exact k0
  | non=>
    refine isa (.of .non) Yl ?_
    try contradiction
    exact k0
  | str x=>
    refine isa (.of (.str x)) X5 ?_
    try contradiction
    exact k0
  | lst e=>
    refine isa (.of (.lst e)) Rx ?_
    try contradiction
    exact k0
  | @long a xs h hl=>
    refine isa (.tup h) Ew ?_
    try contradiction
    refine⟨a,_,rfl,.inr h,?_⟩
    try contradiction
    rw [if_neg (show ¬((xs.length:Nat):Int)=2 by omega)]
    exact k0
  | @notT a c w xs h e=>
    refine isa (.tup h) Ew ?_
    try contradiction
    refine⟨a,_,rfl,.inr h,?_⟩
    try contradiction
    refine Bo h ?_
    try contradiction
    refine isa (.of (.lst e)) Rx ?_
    try contradiction
    exact k0
  | @plen a c w xs h hc hl=>
    refine isa (.tup h) Ew ?_
    try contradiction
    refine⟨a,_,rfl,.inr h,?_⟩
    try contradiction
    refine Bo h ?_
    try contradiction
    refine isa (.tup hc) Ew ?_
    try contradiction
    refine⟨c,_,rfl,.inr hc,?_⟩
    try contradiction
    rw [if_neg (show ¬((xs.length:Nat):Int)=3 by omega)]
    exact k0
  | @notw a c w xs h hc hl hw=>
    refine isa (.tup h) Ew ?_
    try contradiction
    refine⟨a,_,rfl,.inr h,?_⟩
    try contradiction
    refine Bo h ?_
    try contradiction
    refine isa (.tup hc) Ew ?_
    try contradiction
    refine⟨c,_,rfl,.inr hc,?_⟩
    try contradiction
    rw [if_pos (show((xs.length:Nat):Int)=3 by omega)]
    refine⟨_,false,rfl,hw,?_⟩
    try contradiction
    exact k0
  | @gen a c w es h hc hl hp=>
    refine isa (.tup h) Ew ?_
    try contradiction
    refine⟨a,_,rfl,.inr h,?_⟩
    try contradiction
    refine Bo h ?_
    try contradiction
    refine isa (.tup hc) Ew ?_
    try contradiction
    refine⟨c,_,rfl,.inr hc,?_⟩
    try contradiction
    rw [List.length_map,if_pos (show((es.length:Nat):Int)=3 by omega)]
    refine⟨_,true,rfl,.int w,?_⟩
    try contradiction
    by_cases w0:w=0
    . rw [if_pos w0]
      rw [decide_eq_false (fun z=>z w0),Bool.false_and]at k0
      exact k0
    rw [if_neg w0]
    rw [decide_eq_true (show w≠0 from w0),Bool.true_and]at k
    refine⟨⟨_,hc⟩,fun p1 hp1=>Et (es:=es) (inj:=(·.1)) (fun e=> .bl e.2) (by rw [hl];decide) hp1 (Fz hc) ?_ ?_⟩
    . intro e H2 R he s2 hR
      contradiction
      have hw:=(hp e he).mono s2
      obtain⟨v,b⟩:=e
      cases hw with
      | int i=>
        refine⟨_,true,rfl,.int i,?_⟩
        try contradiction
        exact hR _ (Same.refl _)
      | no hw=>
        refine⟨_,false,rfl,hw,?_⟩
        try contradiction
        exact hR _ (Same.refl _)
    intro H2 s2 h2
    have em:es.map (fun e=>V.bl e.2)=(es.map (·.2)).map V.bl:=by rw [List.map_map];rfl
    rw [em]at h2
    refine⟨p1,_,rfl,.of h2,?_⟩
    exact k _ s2
def upT (ks:List (List Int)):Bool:=(List.range (ks.length-1)).all fun i=>HT.lexLt (ks.getD i []) (ks.getD (i+1) [])
structure Aa6 (K:PySem.W.Frag) (H:Hp) (t:Prt):Prop where
  pr:Acu K H t
  tm:Tm K H (.ref t.1) true
theorem Aa6.mono {H H':Hp}{t:Prt} (h:Aa6 K H t) (s:Same H H'):Aa6 K H' t:=⟨⟨s.tup h.pr.pr,s.tup h.pr.tu⟩,h.tm.mono s⟩
inductive Fm (K:PySem.W.Frag) (H:Hp):V->Bool->Prop where
  | int (i:Int):Fm K H (.int i) false
  | bl (b:Bool):Fm K H (.bl b) false
  | non:Fm K H .non false
  | str (x:Str):Fm K H (.str x) false
  | lst {a:Addr}{xs:List V} (e:H a=some (.lst xs)):Fm K H (.ref a) false
  | bad {a:Addr}{es:List (V × Bool)} (h:SqT K H a (es.map (·.1))) (hl:es.length<=30) (hw:∀e∈es,Tm K H e.1 e.2) (hb:(es.map (·.2)).all id=false):Fm K H (.ref a) false
  | good {a:Addr}{ts:List Prt} (h:SqT K H a (ts.map fun t=>V.ref t.1)) (hl:ts.length<=30) (hw:∀t∈ts,Aa6 K H t):Fm K H (.ref a) (upT (ts.map Prt.ks))
theorem Ach:PySem.W.kitOne K (.type "bool") (.type "tuple")=some false:=Qc (by decide+kernel)
def Kq (K:PySem.W.Frag):Sp:=fun vs H Q _=>∃v b,vs=[v]/\Fm K H v b/\∀H',Same H H'->Q (.bl b) H'
theorem Rk {f:Addr}{fd:FuncData} (F:Df K mg "is_form" Er ["thing"] f fd) (z_all:mg "all"=none) (z_isinstance:mg "isinstance"=none) (z_tuple:mg "tuple"=none) (z_zip:mg "zip"=none)  (c_is_term:Cal P w K mg base 2 "is_term" ["thing"] (Ka K)):Cal P w K mg base 3 "is_form" ["thing"] (Kq K):=by
  refine F.cal (F.fn.ok Qp (fun vs H Q E h=> ?_) (fun cdv A outer s H vs Q E hr h=> ?_))
  . obtain⟨v,b,rfl,_⟩:=h
    rfl
  obtain⟨v,b,rfl,hv,k⟩:=h
  refine S.Bf ⟨_,(S.Ac (S.Dp (S.K6 (S.Ga (S.Gx (S.Fx (S.Bv Lq rfl z_isinstance PyProof.Rows.boot_isinstance (S.Aa (S.pv 0) (S.Aa (S.Ds (v:= .ty "tuple") rfl z_tuple PyProof.Rows.boot_tuple rfl) S.Ab))))) (S.Fy (S.Gx (S.Fx (S.Bv (Ia rfl) rfl z_all PyProof.Rows.boot_all (S.Aa (S.Cj (ts:=["term"]) (fs:=[]) rfl (Ay.of (sc:=Ag Er) (N:=["thing"]) rfl rfl (by decide+kernel)) (S.Dn (S.pv 0)) (fun _ _ _=>(S.Ah (i:=0) (show List.Nodup (["term"]:List Str)by decide+kernel) rfl (Or.inl rfl))) (fun _ _ _=>S.Cy) (fun _ _ _=>(S.Am c_is_term (hr.mono (by decide)) (S.Aa (S.pv 0) S.Ab)))) S.Ab))))))) (S.Af (S.Ao S.Hv)) S.Bd)
      (S.Af (S.Ao (S.Bv (Ia rfl) rfl z_all PyProof.Rows.boot_all (S.Aa (S.Cj (ts:=["one","other"]) (fs:=[]) rfl (Ay.of (sc:=Ag Er) (N:=["thing"]) rfl rfl (by decide+kernel)) (S.Iv true true rfl z_zip (S.Aa (S.pv 0) (S.Aa (S.Ig Zy (S.pv 0) (S.Lg S.Ad) S.Ly) S.Ab))) (fun _ _ _=>(S.Di K 2 rfl rfl (S.Ai (S.Ah (i:=0) (show List.Nodup (["one","other"]:List Str)by decide+kernel) rfl (Or.inl rfl) (hf:=Or.inr rfl)) (S.Ai (S.Ah (i:=1) (show List.Nodup (["one","other"]:List Str)by decide+kernel) rfl (Or.inl rfl) (hf:=Or.inr rfl)) S.Bb)))) (fun _ _ _=>S.Cy) (fun _ _ _=>(S.Gg (Zb K hr.units) (S.Bj (Fb K) (S.pv 0) S.Ad (fun _ _=>rfl)) (S.Bj (Fb K) (S.pv 1) S.Ad (fun _ _=>rfl)) (Ax _)))) S.Ab))))),?_⟩
  contradiction
  cases hv with
  | int i=>
    refine isa (.of (.int i)) Yg ?_
    try contradiction
    exact k _ (Same.refl _)
  | bl b=>
    refine isa (.of (.bl b)) Ach ?_
    try contradiction
    exact k _ (Same.refl _)
  | non=>
    refine isa (.of .non) Yl ?_
    try contradiction
    exact k _ (Same.refl _)
  | str x=>
    refine isa (.of (.str x)) X5 ?_
    try contradiction
    exact k _ (Same.refl _)
  | lst e=>
    refine isa (.of (.lst e)) Rx ?_
    try contradiction
    exact k _ (Same.refl _)
  | @bad a es h hl hw hb=>
    refine isa (.tup h) Ew ?_
    try contradiction
    refine⟨⟨_,h⟩,fun p1 hp1=>Et (es:=es) (inj:=(·.1)) (fun e=> .bl e.2) (Nat.le_trans hl (by decide)) hp1 (Fz h) ?_ ?_⟩
    . intro e H2 R he s2 hR
      contradiction
      exact⟨_,_,rfl,(hw e he).mono s2,hR⟩
    intro H2 s2 h2
    have em:es.map (fun e=>V.bl e.2)=(es.map (·.2)).map V.bl:=by rw [List.map_map];rfl
    rw [em]at h2
    refine⟨p1,_,rfl,.of h2,?_⟩
    rw [if_pos hb]
    exact k _ s2
  | @good a ts h hl hw=>
    refine isa (.tup h) Ew ?_
    try contradiction
    refine⟨⟨_,h⟩,fun p1 hp1=>Et (es:=ts) (inj:=fun t=>V.ref t.1) (fun _=> .bl true) (Nat.le_trans hl (by decide)) hp1 (Fz h) ?_ ?_⟩
    . intro e H2 R he s2 hR
      contradiction
      exact⟨_,_,rfl,(hw e he).tm.mono s2,hR⟩
    intro H2 s2 h2
    have em:ts.map (fun _=>V.bl true)=(ts.map fun _=>true).map V.bl:=by rw [List.map_map];rfl
    rw [em]at h2
    refine⟨p1,_,rfl,.of h2,?_⟩
    rw [if_neg (by simp)]
    refine⟨a,_,rfl,s2.tup h,fun z3 H3 s3 h3=> ?_⟩
    rw [Abq,<-List.map_drop]at h3
    have s23:=s2.trans s3
    refine⟨a,z3,rfl,⟨_,s23.tup h⟩,⟨_,h3⟩,fun p4 n4=>Xr (xs:=ts.map fun t=>V.ref t.1) (ys:=(ts.drop 1).map fun t=>V.ref t.1) (ts.length-1) (by rw [List.length_map,List.length_map,List.length_drop];omega) (fun i=> .bl (HT.lexLt ((ts.map Prt.ks).getD i []) ((ts.map Prt.ks).getD (i+1) []))) (Nat.le_trans (show ts.length-1<=30 by omega) (by decide)) n4 (fun H' s'=>(s23.trans s').tup h) (fun H' s'=>s'.tup h3) ?_ ?_⟩
    . intro i H4 q R hi s4 hq hR
      have e1:(ts.map fun t=>V.ref t.1).getD i .non= .ref (ts[i]'(by omega)).1:=by
        rw [List.getD_eq_getElem?_getD,List.getElem?_map,List.getElem?_eq_getElem (by omega)]
        rfl
      have e2:((ts.drop 1).map fun t=>V.ref t.1).getD i .non= .ref (ts[i+1]'(by omega)).1:=by
        rw [List.getD_eq_getElem?_getD,List.getElem?_map,List.getElem?_drop,Nat.add_comm 1 i,List.getElem?_eq_getElem (by omega)]
        rfl
      have e3:(ts.map Prt.ks).getD i []=(ts[i]'(by omega)).ks:=by
        rw [List.getD_eq_getElem?_getD,List.getElem?_map,List.getElem?_eq_getElem (by omega)]
        rfl
      have e4:(ts.map Prt.ks).getD (i+1) []=(ts[i+1]'(by omega)).ks:=by
        rw [List.getD_eq_getElem?_getD,List.getElem?_map,List.getElem?_eq_getElem (by omega)]
        rfl
      rw [e1,e2]at hq
      rw [e3,e4]at hR
      have t1:=((hw _ (List.getElem_mem (show i<ts.length by omega))).mono (s23.trans s4)).pr
      have t2:=((hw _ (List.getElem_mem (show i+1<ts.length by omega))).mono (s23.trans s4)).pr
      refine Bo (.of hq) ?_
      contradiction
      refine Bw t1.pr (at0 _ _) (Bw t2.pr (at0 _ _) ?_)
      try contradiction
      exact⟨_,_,_,_,rfl,rfl,t1.tu,t2.tu,hR _ (Same.refl _)⟩
    intro H4 s4 h4
    have em4:(List.range (ts.length-1)).map (fun i=>V.bl (HT.lexLt ((ts.map Prt.ks).getD i []) ((ts.map Prt.ks).getD (i+1) [])))=((List.range (ts.length-1)).map fun i=>HT.lexLt ((ts.map Prt.ks).getD i []) ((ts.map Prt.ks).getD (i+1) [])).map V.bl:=by rw [List.map_map];rfl
    rw [em4]at h4
    have eu:((List.range (ts.length-1)).map fun i=>HT.lexLt ((ts.map Prt.ks).getD i []) ((ts.map Prt.ks).getD (i+1) [])).all id=upT (ts.map Prt.ks):=by
      unfold upT
      rw [List.all_map,List.length_map]
      rfl
    refine⟨p4,_,rfl,.of h4,?_⟩
    rw [eu]
    exact k _ (s23.trans s4)
def Aw:List (List Int × Int)->List Int->Int
  | [],_=>0
  | e::r,k=>(if e.1=k then e.2 else 0)+Aw r k
theorem Ky (a b:List (List Int × Int)) (k:List Int):Aw (a++b) k=Aw a k+Aw b k:=by
  induction a with
  | nil=>show Aw b k=0+Aw b k;omega
  | cons e r ih=>
    show _+Aw (r++b) k=(_+Aw r k)+Aw b k
    rw [ih]
    omega
theorem Iw {a b:List (List Int × Int)} (h:a.Perm b) (k:List Int):Aw a k=Aw b k:=by
  induction h with
  | nil=>rfl
  | cons e _ ih=>show _+Aw _ k=_+Aw _ k;rw [ih]
  | swap x y l=>show _+(_+_)=_+(_+_);omega
  | trans _ _ i1 i2=>exact i1.trans i2
theorem Eo {a:List (List Int × Int)}{k:List Int} (h:∀e∈a,e.1≠k):Aw a k=0:=by
  induction a with
  | nil=>rfl
  | cons e r ih=>
    show(if e.1=k then e.2 else 0)+Aw r k=0
    rw [if_neg (h e (.head _)),ih fun x hx=>h x (.tail _ hx)]
    rfl
abbrev UpT (fs:List (List Int × Int)):Prop:=fs.Pairwise fun x y=>HT.lexLt x.1 y.1=true
theorem J4 {a b:List Int} (h:HT.lexLt a b=true):a≠b:=fun e=>by
  subst e
  have:∀ks:List Int,HT.lexLt ks ks=false:=fun ks=>by
    induction ks with
    | nil=>rfl
    | cons x r ih=>rw [HT.Cd,if_pos rfl];exact ih
  rw [this]at h
  cases h
theorem Dg {k:List Int}{w:Int}{r:List (List Int × Int)} (h:UpT ((k,w)::r)):Aw ((k,w)::r) k=w:=by
  show(if k=k then w else 0)+Aw r k=w
  rw [if_pos rfl,Eo fun e he z=> ?_]
  . omega
  . exact J4 ((List.pairwise_cons.mp h).1 e he) z.symm
theorem T4:∀fs gs:List (List Int × Int),UpT fs->UpT gs->(∀e∈fs,e.2≠0)->(∀e∈gs,e.2≠0)->(∀k,Aw fs k=Aw gs k)->fs=gs
  | [],[],_,_,_,_,_=>rfl
  | [],(k,w)::r,_,hg,_,ng,h=>by
    have:=h k
    rw [Dg hg]at this
    exact absurd this.symm (ng _ (.head _))
  | (k,w)::r,[],hf,_,nf,_,h=>by
    have:=h k
    rw [Dg hf]at this
    exact absurd this (nf _ (.head _))
  | (k,w)::r,(l,v)::t,hf,hg,nf,ng,h=>by
    have pf:=List.pairwise_cons.mp hf
    have pg:=List.pairwise_cons.mp hg
    by_cases e:k=l
    . subst e
      have e2:=h k
      rw [Dg hf,Dg hg]at e2
      subst e2
      have e3:=T4 r t pf.2 pg.2 (fun x hx=>nf x (.tail _ hx)) (fun x hx=>ng x (.tail _ hx)) fun m=>by
        have hm:(if k=m then w else 0)+Aw r m=(if k=m then w else 0)+Aw t m:=h m
        omega
      rw [e3]
    . exfalso
      cases lt:HT.lexLt k l with
      | true=>
        have:=h k
        rw [Dg hf,Eo fun x hx=> ?_]at this
        . exact nf _ (.head _) this
        . rcases List.mem_cons.mp hx with rfl | hx
          . exact fun z=>e z.symm
          . exact fun z=>J4 (lex_trans _ _ _ lt (pg.1 x hx)) z.symm
      | false=>
        have gt:HT.lexLt l k=true:=by
          have:=Lb k l e
          rw [lt]at this
          cases g:HT.lexLt l k
          . rw [g]at this
            cases this
          . rfl
        have:=h l
        rw [Dg hg,Eo fun x hx=> ?_]at this
        . exact ng _ (.head _) this.symm
        . rcases List.mem_cons.mp hx with rfl | hx
          . exact e
          . exact fun z=>J4 (lex_trans _ _ _ gt (pf.1 x hx)) z.symm
def Xj (a b:List Int):List Int:=List.zipWith (· + ·) a b
def Fv (f g:List (List Int × Int)):List (List Int × Int):=f.flatMap fun x=>g.map fun y=>(Xj x.1 y.1,x.2*y.2)
theorem G7 (c:Int):∀(f:List (List Int × Int)) (k:List Int),Aw (f.map fun e=>(e.1,e.2*c)) k=Aw f k*c
  | [],k=>by show 0=0*c;omega
  | e::r,k=>by
    show(if e.1=k then e.2*c else 0)+Aw (r.map fun e=>(e.1,e.2*c)) k=((if e.1=k then e.2 else 0)+Aw r k)*c
    rw [G7 c r k,Int.add_mul]
    split
    . rfl
    . simp
def pk (b:Int) (ks:List Int):Int:=(ks.getD 0 0*b+ks.getD 1 0)*b+ks.getD 2 0
theorem Abb {b:Int}{i j k l m n:Int} (hj:0<=j/\j<b) (hk:0<=k/\k<b) (hm:0<=m/\m<b) (hn:0<=n/\n<b) (h:pk b [i,j,k]=pk b [l,m,n]):i=l/\j=m/\k=n:=by
  have h':(i*b+j)*b+k=(l*b+m)*b+n:=h
  have b0:b≠0:=by omega
  have e1:k=n:=by
    have:=congrArg (· %b) h'
    simp only [Int.add_comm _ k,Int.add_comm _ n,Int.add_mul_emod_self_right]at this
    rwa [Int.emod_eq_of_lt hk.1 hk.2,Int.emod_eq_of_lt hn.1 hn.2]at this
  subst e1
  have h2:i*b+j=l*b+m:=Int.eq_of_mul_eq_mul_right b0 (by omega)
  have e2:j=m:=by
    have:=congrArg (· %b) h2
    simp only [Int.add_comm _ j,Int.add_comm _ m,Int.add_mul_emod_self_right]at this
    rwa [Int.emod_eq_of_lt hj.1 hj.2,Int.emod_eq_of_lt hm.1 hm.2]at this
  subst e2
  exact⟨Int.eq_of_mul_eq_mul_right b0 (by omega),rfl,rfl⟩
theorem Rr {kvs:List (List Key × V)}{k:List Key}{v w:V} (h:Dt kvs k=some w):(putK kvs k v).map (·.1)=kvs.map (·.1):=by
  unfold putK
  rw [Dj,h,Option.isSome_some,if_pos rfl,List.map_map]
  refine List.map_congr_left fun p _=> ?_
  show(if p.1=k then(p.1,v)else p).1=p.1
  split<;>rfl
theorem Pj (ks:List Int):(ks.map Sum.inl:List Key).map kV=ks.map V.int:=by rw [List.map_map];rfl
structure Te (K:PySem.W.Frag) (H:Hp) (v:V) (e:List Int × Int):Prop where
  at_:∃a b,v= .ref a/\SqT K H a [.ref b,.int e.2]/\H b=some (.tup (e.1.map V.int))
  ln:e.1.length=3
theorem Te.mono {H H':Hp}{v:V}{e:List Int × Int} (h:Te K H v e) (s:Same H H'):Te K H' v e:=by
  obtain⟨⟨a,b,e1,e2,e3⟩,l⟩:=h
  exact⟨⟨a,b,e1,s.tup e2,s _ _ e3⟩,l⟩
theorem Te.put {f:Addr}{H:Hp}{zs ys:List V}{v:V}{e:List Int × Int} (h:Te K H v e) (hf:H f=some (.lst zs)):Te K (upd H f (.lst ys)) v e:=by
  obtain⟨⟨a,b,e1,e2,e3⟩,l⟩:=h
  refine⟨⟨a,b,e1,?_,by rw [Av (Fi e3 hf (fun z=>nomatch z))];exact e3⟩,l⟩
  rcases e2 with(e | ⟨o,e⟩) | h
  . exact .inl (.inl (by rw [Av (Fi e hf (fun z=>nomatch z))];exact e))
  . exact .inl (.inr ⟨o,by rw [Av (Fi e hf (fun z=>nomatch z))];exact e⟩)
  . exact .inr h
structure Sus (H H':Hp) (d:Addr) (kvs:List (List Key × V)) (ts:List (List Int × Int)):Prop where
  sm:Same H H'
  it:H' d=some (.dT kvs)
  le:kvs.length<=ts.length
  nd:(kvs.map (·.1)).Nodup
  ky:∀e∈kvs,∃ks:List Int,e.1=ks.map Sum.inl/\ks.length=3
  vl:∀ks:List Int,Dt kvs (ks.map Sum.inl)=some (.int (Aw ts ks))\/(Dt kvs (ks.map Sum.inl)=none/\Aw ts ks=0)
theorem Od {a b:List Int} (h:(a.map Sum.inl:List Key)=b.map Sum.inl):a=b:=by
  have:=congrArg (List.map toI) h
  rwa [Gj,Gj]at this
theorem Sus.put {H H' H2:Hp}{d:Addr}{kvs:List (List Key × V)}{ts:List (List Int × Int)} (h:Sus H H' d kvs ts) (n:H d=none) {ks:List Int}{w:Int} (hl:ks.length=3) (e2:H2=upd H' d (.dT (putK kvs (ks.map Sum.inl) (.int (Aw ts ks+w))))):Sus H H2 d (putK kvs (ks.map Sum.inl) (.int (Aw ts ks+w))) (ts++ [(ks,w)]):=by
  subst e2
  refine⟨h.sm.put n,Ae,?_,?_,fun e he=> ?_,fun ls=> ?_⟩
  . rw [List.length_append]
    exact Nat.le_trans (Eh _ _ _) (Nat.add_le_add_right h.le 1)
  . cases e:Dt kvs (ks.map Sum.inl)with
    | none=>exact Zz _ h.nd e
    | some v=>
      rw [Rr e]
      exact h.nd
  . have:e∈kvs\/e.1=ks.map Sum.inl:=by
      unfold putK at he
      split at he
      . obtain⟨p,hp,rfl⟩:=List.mem_map.mp he
        split
        . rename_i c
          exact .inr c
        . exact .inl hp
      . rcases List.mem_append.mp he with he | he
        . exact .inl he
        . have:e=(ks.map Sum.inl,.int (Aw ts ks+w)):=by simpa using he
          exact .inr (by rw [this])
    rcases this with he | he
    . exact h.ky e he
    . exact⟨ks,he,hl⟩
  . rw [Ie,Ky]
    by_cases e:ls=ks
    . subst e
      rw [if_pos rfl]
      refine .inl ?_
      show some (V.int (Aw ts ls+w))=some (V.int (Aw ts ls+((if ls=ls then w else 0)+0)))
      rw [if_pos rfl,Int.add_zero]
    . rw [if_neg fun z=>e (Od z)]
      have e0:Aw [(ks,w)] ls=0:=by
        show(if ks=ls then w else 0)+0=0
        rw [if_neg (Ne.symm e)]
        rfl
      rw [e0,Int.add_zero]
      exact h.vl ls
structure Frm (K:PySem.W.Frag) (H:Hp) (a:Addr) (fs:List (V × (List Int × Int))):Prop where
  it:SqT K H a (fs.map (·.1))
  al:∀e∈fs,Te K H e.1 e.2
  up:UpT (fs.map (·.2))
  nn:∀e∈fs,e.2.2≠0
theorem Hz (T:List Int->Int) (k:List Int):∀us:List Tpt,(us.map fun t=>t.2).Nodup->Aw ((us.filter fun t=>decide (T t.2≠0)).map fun t=>(t.2,T t.2)) k=if k∈us.map (fun t=>t.2)then T k else 0
  | [],_=>rfl
  | u::r,h=>by
    have nd:=List.nodup_cons.mp h
    have ih:=Hz T k r nd.2
    by_cases hz:T u.2=0
    . rw [List.filter_cons_of_neg (by simp [hz]),ih]
      by_cases e:k=u.2
      . subst e
        rw [if_neg nd.1,if_pos (by simp),hz]
      . have:(k∈(u::r).map fun t=>t.2)=(k∈r.map fun t=>t.2):=by simp [e]
        simp only [this]
    . rw [List.filter_cons_of_pos (by simp [hz])]
      show(if u.2=k then T u.2 else 0)+Aw ((r.filter fun t=>decide (T t.2≠0)).map fun t=>(t.2,T t.2)) k=_
      rw [ih]
      by_cases e:u.2=k
      . subst e
        rw [if_pos rfl,if_neg nd.1,if_pos (by simp),Int.add_zero]
      . have:(k∈(u::r).map fun t=>t.2)=(k∈r.map fun t=>t.2):=by simp [Ne.symm e]
        rw [if_neg e,Int.zero_add]
        simp only [this]
theorem Qe {kvs:List (List Key × V)}{k:List Key}{v:V} (h:Dt kvs k=some v):k∈kvs.map (·.1):=by
  obtain⟨p,hp,_⟩:=Option.map_eq_some_iff.mp (show(kvs.find? fun kv=>decide (kv.1=k)).map (·.2)=some v from h)
  have:=List.find?_some hp
  exact List.mem_map.mpr ⟨p,List.mem_of_find?_eq_some hp,by simpa using this⟩
def Ot (K:PySem.W.Frag):Sp:=fun vs H Q _=>∃(a:Addr) (es:List (V × (List Int × Int))),vs=[.ref a]/\(SqL K H a (es.map (·.1))\/SqT K H a (es.map (·.1)))/\(∀e∈es,Te K H e.1 e.2)/\es.length<64/\
  ∀z H' fs,Same H H'->Frm K H' z fs->(∀k,Aw (fs.map (·.2)) k=Aw (es.map (·.2)) k)->fs.length<=es.length->Q (.ref z) H'
theorem Adm {α:Type}{H0 H:Hp}{l:Addr}{es:List α}{inj:α->V}{g:TG}{tb:TS}{D:Ends}{σ:St} (h:SqL K H0 l (es.map inj)\/SqT K H0 l (es.map inj)) (s:Same H0 H) (k:∀J,(∀H',Same H0 H'->Aa5 J H' es inj)->FI J g tb D σ H):(∃xs,SqL K H l xs)/\FI (Itl K l) g tb D σ H\/(∃xs,SqT K H l xs)/\FI (Itt K l) g tb D σ H:=
  h.imp (fun h=>⟨⟨_,s.seq h⟩,k _ fun _ s=>Ez (s.seq h)⟩) (fun h=>⟨⟨_,s.tup h⟩,k _ fun _ s=>Fp (s.tup h)⟩)
theorem Z7 {f:Addr}{fd:FuncData} (F:Df K mg "form" Qg ["terms"] f fd) (z_tuple:mg "tuple"=none) (z_sorted:mg "sorted"=none)   :Cal P w K mg base 1 "form" ["terms"] (Ot K):=by
  refine F.cal (F.fn.ok Ma (fun vs H Q E h=> ?_) (fun cdv A outer s H vs Q E hr h=> ?_))
  . obtain⟨a,es,rfl,_⟩:=h
    rfl
  obtain⟨a,es,rfl,hS,hT,h64,k⟩:=h
  refine S.Bf ⟨_,(S.Ac (S.Ak (i:=1) Ma.nd rfl (Or.inr rfl) S.Hy)
      (S.Ac (S.Bt PassesOwn.never rfl (S.V1 (S.pv 0)) (S.Cq rfl (S.Ai (S.Ah (i:=2) Ma.nd rfl (Or.inl rfl)) (S.Ai (S.Ah (i:=3) Ma.nd rfl (Or.inl rfl)) S.Bb))) (S.Af (S.G9 (hu1 hr.units) (S.pv 1) (S.pv 2) (S.Aj Bc (S.Gq (hu1 hr.units) (S.pv 1) (S.pv 2) S.Ad ⟨rfl,rfl,rfl,rfl⟩) (S.pv 3)) rfl)))
      (S.Af (S.Ao (S.Ej Cv rfl z_tuple PyProof.Rows.boot_tuple (S.Aa (S.Cj (ts:=["powers"]) (fs:=[(1,"sums")]) rfl (Ay.of (sc:=Ag Qg) (N:=["terms","sums","powers","weight"]) rfl rfl (by decide+kernel)) (S.Eu (S.Bv (Rt rfl) rfl z_sorted PyProof.Rows.boot_sorted (S.Aa (S.pv 1) S.Ab))) (fun _ _ _=>(S.Ah (i:=0) (show List.Nodup (["powers","sums"]:List Str)by decide+kernel) rfl (Or.inl rfl))) (fun _ _ _=>(S.Kz (S.Al Jy (S.Eb (hu1 hr.units) (S.pv 1) (S.pv 0) (fun _ _=>rfl)) S.Ad (Ax _)))) (fun _ _ _=>(S.Bu (S.Aa (S.pv 0) (S.Aa (S.Eb (hu1 hr.units) (S.pv 1) (S.pv 0) (fun _ _=>rfl)) S.Ab))))) S.Ab)))))),?_⟩
  contradiction
  intro d hd
  have s1:=Same.upd hd (.dT [])
  refine Adm hS s1 fun J hJ=>Jt (es:=es) (inj:=(·.1)) (fun pre σ' H'=>∃(kvs:List (List Key × V)) (o2 o3:Option V),σ'=[some (.ref a),some (.ref d),o2,o3]/\Sus H H' d kvs (pre.map (·.2))) ⟨[],_,_,rfl,⟨s1,Ae,Nat.le_refl _,by simp,by simp,fun _=> .inr ⟨rfl,rfl⟩⟩⟩ ?_ ?_ ?_
  . rintro pre σ' H' ⟨kvs,o2,o3,rfl,si⟩
    exact hJ _ si.sm
  . rintro pre e post σ' H' hE ⟨kvs,o2,o3,rfl,si⟩
    have hm:e∈es:=by rw [hE];simp
    obtain⟨⟨b,c,eb,hb,hc⟩,ln⟩:=(hT e hm).mono si.sm
    rw [eb]
    refine Bo hb ?_
    contradiction
    have ek:H' c=some (.tup ((e.2.1.map Sum.inl:List Key).map kV)):=by rw [Pj];exact hc
    refine⟨.inr ⟨kvs,.inl si.it⟩,_,Km.t si.it ek,?_⟩
    have ev:(Dt kvs (e.2.1.map Sum.inl)).getD (.int 0)= .int (Aw (pre.map (·.2)) e.2.1):=by
      rcases si.vl e.2.1 with h | ⟨h,h0⟩
      . rw [h]
        rfl
      . rw [h,h0]
        rfl
    rw [ev]
    try contradiction
    refine⟨d,_,rfl,Wa.t si.it ek ?_,putK kvs (e.2.1.map Sum.inl) (.int (Aw (pre.map (·.2)) e.2.1+e.2.2)),_,_,rfl,?_⟩
    . have l1:=si.le
      have l2:=congrArg List.length hE
      rw [List.length_append]at l2
      rw [List.length_map]at l1
      exact Nat.lt_of_le_of_lt (show kvs.length<=64 by omega) (by decide)
    . rw [List.map_append]
      exact si.put hd ln rfl
  rintro σ' H' ⟨kvs,o2,o3,rfl,si⟩
  obtain⟨ts,ets⟩:∃ts:List (List Int × Int),es.map (·.2)=ts:=⟨_,rfl⟩
  have lts:ts.length=es.length:=by rw [<-ets,List.length_map]
  rw [ets]at si
  rw [ets]at k
  contradiction
  have l64:kvs.length<64:=by
    have l1:=si.le
    omega
  refine⟨d,kvs,3,rfl,si.it,si.ky,by decide,si.nd,l64,fun l us hl hpm hAt hpw=> ?_⟩
  have sl:=Same.upd hl (.lst (us.map fun t=>V.ref t.1))
  refine⟨⟨_,.of Ae⟩,fun p hp=> ?_⟩
  have ndU:(us.map fun t=>t.2).Nodup:=by
    have h1:(us.map fun t=>(t.2.map Sum.inl:List Key)).Nodup:=hpm.nodup_iff.mpr si.nd
    refine List.pairwise_map.mpr ((List.pairwise_map.mp h1).imp fun h z=>h ?_)
    rw [z]
  have lu:us.length=kvs.length:=by
    have:=hpm.length_eq
    simpa using this
  have ls:us.length<=sizeLine:=by rw [lu];exact Nat.le_trans (Nat.le_of_lt l64) (by decide)
  have vu:∀t∈us,Dt kvs (t.2.map Sum.inl)=some (.int (Aw ts t.2)):=fun t ht=>by
    rcases si.vl t.2 with h | ⟨h,_⟩
    . exact h
    . exact absurd (hpm.mem_iff.mp (List.mem_map.mpr ⟨t,ht,rfl⟩)) (Pr h)
  have l3:∀t∈us,t.2.length=3:=fun t ht=>by
    obtain⟨e,he,e1⟩:=List.mem_map.mp (hpm.mem_iff.mp (List.mem_map.mpr ⟨t,ht,rfl⟩))
    obtain⟨ks,e2,e3⟩:=si.ky e he
    rw [e2]at e1
    rw [<-Od e1]
    exact e3
  refine Ip (es:=us) (inj:=fun t=>V.ref t.1) (fun t=>decide (Aw ts t.2≠0)) (fun t v H=>Te K H v (t.2,Aw ts t.2)) (fun t v H H' h s=>h.mono s) (fun t v H ys zs h hp=>h.put hp) ls hp (N8 (.of Ae)) ?_ ?_
  . intro t H3 R RF ht s3 k1 k2
    have s4:=sl.trans s3
    have ek:H3 t.1=some (.tup ((t.2.map Sum.inl:List Key).map kV)):=by rw [Pj];exact s4 _ _ (hAt t ht)
    have dg:Km H3 d (.ref t.1) (some (.int (Aw ts t.2))):=by
      have:=Km.t (s4 _ _ si.it) ek
      rw [vu t ht]at this
      exact this
    contradiction
    refine⟨d,_,rfl,dg,?_⟩
    try contradiction
    by_cases w0:Aw ts t.2=0
    . rw [if_pos w0]
      exact k2 (by simp [w0]) _ (Same.refl _)
    . rw [if_neg w0]
      refine⟨d,_,rfl,dg,fun p2 hp2=>k1 (by simp [w0]) _ _ (Same.upd hp2 _) ⟨⟨p2,t.1,rfl,.of Ae,?_⟩,l3 t ht⟩⟩
      exact Same.upd hp2 _ _ _ (s4 _ _ (hAt t ht))
  intro H3 vs s3 h3 hv hr3
  have s4:=(si.sm.trans sl).trans s3
  refine⟨p,_,rfl,.inl ⟨.of h3,fun z hz=> ?_⟩⟩
  have sz:=Same.upd hz (.tup (vs.map (·.1)))
  have e1:(vs.map fun x=>(x.1,((x.2.2,Aw ts x.2.2):List Int × Int))).map (·.1)=vs.map (·.1):=by rw [List.map_map];rfl
  have e2:(vs.map fun x=>(x.1,((x.2.2,Aw ts x.2.2):List Int × Int))).map (·.2)=(us.filter fun t=>decide (Aw ts t.2≠0)).map fun t=>(t.2,Aw ts t.2):=by
    rw [<-hv,List.map_map,List.map_map]
    rfl
  refine k z _ (vs.map fun x=>(x.1,(x.2.2,Aw ts x.2.2))) (s4.trans sz) ⟨by rw [e1];exact .of Ae,fun e he=> ?_,?_,fun e he=> ?_⟩ (fun q=> ?_) ?_
  . obtain⟨x,hx,rfl⟩:=List.mem_map.mp he
    exact(hr3 x hx).mono sz
  . rw [e2]
    exact List.pairwise_map.mpr (hpw.sublist List.filter_sublist)
  . obtain⟨x,hx,rfl⟩:=List.mem_map.mp he
    have:x.2∈us.filter fun t=>decide (Aw ts t.2≠0):=by rw [<-hv];exact List.mem_map.mpr ⟨x,hx,rfl⟩
    simpa using(List.mem_filter.mp this).2
  . rw [e2,Hz (Aw ts) q us ndU]
    split
    . rfl
    . rename_i hq
      rcases si.vl q with h | ⟨_,h⟩
      . obtain⟨t,ht,et⟩:=List.mem_map.mp (hpm.mem_iff.mpr (Qe h))
        exact absurd (List.mem_map.mpr ⟨t,ht,Od et⟩) hq
      . exact h.symm
  . have e3:=congrArg List.length hv
    rw [List.length_map]at e3
    rw [List.length_map,e3]
    refine Nat.le_trans (List.length_filter_le _ _) ?_
    rw [lu]
    have:=si.le
    omega
theorem Frm.mono {H H':Hp}{a:Addr}{fs:List (V × (List Int × Int))} (h:Frm K H a fs) (s:Same H H'):Frm K H' a fs:=⟨s.tup h.it,fun e he=>(h.al e he).mono s,h.up,h.nn⟩
theorem Frm.same {H H':Hp}{a b:Addr}{fs gs:List (V × (List Int × Int))} (h:Frm K H a fs) (g:Frm K H' b gs) (e:∀k,Aw (fs.map (·.2)) k=Aw (gs.map (·.2)) k):fs.map (·.2)=gs.map (·.2):=
  T4 _ _ h.up g.up (fun x hx=>by
    obtain⟨y,hy,rfl⟩:=List.mem_map.mp hx
    exact h.nn y hy) (fun x hx=>by
    obtain⟨y,hy,rfl⟩:=List.mem_map.mp hx
    exact g.nn y hy) e
def fD3 (e:List Int × Int):PyData:= .tuple [.tuple (e.1.map .int),.int e.2]
theorem O5:∀us:List (List Int × Int),PyData.canLayAll0 (us.map fD3)=true
  | []=>rfl
  | c::cs=>by simp [fD3,PyData.canLayAll0,PyData.canLay0,PySem.W.ke_canLayAll0,O5 cs]
theorem Ol:∀us:List (List Int × Int),PyData.depthAll (us.map fD3)<=8
  | []=>by simp [PyData.depthAll]
  | c::cs=>by
    have:=Ol cs
    simp only [List.map_cons,PyData.depthAll,PyData.depth,fD3,PySem.W.ke_depthAll]at this ⊢
    exact Nat.max_le.mpr ⟨by simp,this⟩
theorem J1 (us:List (List Int × Int)):SeqAt.shaped (.tuple (us.map fD3))=true:=by
  have h1:=O5 us
  have h2:=Ol us
  simp [SeqAt.shaped,PyData.canLay0,PyData.depth,h1]
  omega
theorem Jr {H:Hp}:∀fs:List (V × (List Int × Int)),(∀e∈fs,Te K H e.1 e.2)->Px K H (fs.map (·.1)) ((fs.map (·.2)).map fD3)
  | [],_=> .nil
  | t::r,h=>by
    obtain⟨⟨a,b,e1,e2,e3⟩,_⟩:=h t (.head _)
    refine .cons ?_ (Jr r fun u hu=>h u (.tail _ hu))
    show RdD K H t.1 (fD3 t.2)
    rw [e1]
    exact .tup e2 (.cons (RdD.ints (.of e3)) (.cons (.int _) .nil))
theorem Np:∀us vs:List (List Int × Int),PyData.eqvAll (us.map fD3) (vs.map fD3)=decide (us=vs)
  | [],[]=>by simp [PyData.eqvAll]
  | [],_::_=>by simp [PyData.eqvAll]
  | _::_,[]=>by simp [PyData.eqvAll]
  | a::r,b::t=>by
    simp only [List.map_cons,PyData.eqvAll,PyData.eqv,fD3,Hw,Bool.and_true]
    rw [Np r t]
    by_cases h':r=t
    . by_cases h1:a.1=b.1<;>by_cases h2:a.2=b.2<;>simp [h1,h2,h',Prod.ext_iff]
    . simp [h']
theorem Acl {H:Hp}{g:Bool->Bool}{Q:VK}{a b:Addr}{fs gs:List (V × (List Int × Int))} (ha:Frm K H a fs) (hb:Frm K H b gs) (q:Q (.bl (g (decide (fs.map (·.2)=gs.map (·.2))))) H):Aa4 K g (.ref a) (.ref b) H Q:=
  ⟨_,_,.tup ha.it (Jr fs ha.al),.tup hb.it (Jr gs hb.al),J1 _,J1 _,by rw [PyData.eqv,Np];exact q⟩
def Mu (K:PySem.W.Frag):Sp:=fun vs H Q _=>∃(a b:Addr) (fs gs:List (V × (List Int × Int))),vs=[.ref a,.ref b]/\Frm K H a fs/\Frm K H b gs/\fs.length+gs.length<64/\
  ∀z H' hs,Same H H'->Frm K H' z hs->(∀k,Aw (hs.map (·.2)) k=Aw (fs.map (·.2)) k+Aw (gs.map (·.2)) k)->hs.length<=fs.length+gs.length->Q (.ref z) H'
theorem Sh {f:Addr}{fd:FuncData} (F:Df K mg "f_plus" Lx ["f","g"] f fd)   (c_form:Cal P w K mg base 1 "form" ["terms"] (Ot K)):Cal P w K mg base 2 "f_plus" ["f","g"] (Mu K):=by
  refine F.cal (F.fn.ok Td (fun vs H Q E h=> ?_) (fun cdv A outer s H vs Q E hr h=> ?_))
  . obtain⟨a,b,fs,gs,rfl,_⟩:=h
    rfl
  obtain⟨a,b,fs,gs,rfl,hf,hg,hl,k⟩:=h
  refine S.Bf ⟨_,(S.Af (S.Ao (S.Am c_form (hr.mono (by decide)) (S.Aa (S.Aj Aaj (S.pv 0) (S.pv 1)) S.Ab)))),?_⟩
  contradiction
  refine⟨a,b,_,_,rfl,rfl,hf.it,hg.it,?_,fun z H1 s1 h1=> ?_⟩
  . rw [List.length_map,List.length_map]
    exact Nat.le_trans (Nat.le_of_lt hl) (by decide)
  rw [<-List.map_append]at h1
  refine⟨z,fs++gs,rfl,.inr h1,fun e he=> ?_,by rw [List.length_append];exact hl,fun z2 H2 hs s2 fr et el=>k z2 H2 hs (s1.trans s2) fr (fun q=> ?_) (by rw [List.length_append]at el;exact el)⟩
  . rcases List.mem_append.mp he with he | he
    . exact(hf.al e he).mono s1
    . exact(hg.al e he).mono s1
  . rw [et q,List.map_append,Ky]
theorem Ik {H1:Hp}{p:Addr}{cσ:St}{g:TG}{te:TE}{Q:VK}{α:Type}{es:List α}{inj:α->V}{J:It} (Rl:α->V->Hp->Prop)
    (mono:∀e v H H',Rl e v H->Same H H'->Rl e v H') (put:∀e v H ys zs,Rl e v H->H p=some (.lst ys)->Rl e v (upd H p (.lst zs))) (hz:es.length<=sizeLine) (hp:H1 p=none) (hJ:Wk J H1 es inj)
    (step:∀(e:α) (H':Hp) (R:VK),e∈es->Same H1 H'->(∀v H6,Same H' H6->Rl e v H6->R v H6)->g (inj e) cσ H' fun σ4 H4=>Kp cσ σ4/\te σ4 H4 R)
    (done:∀H' (vs:List (V × α)),Same H1 H'->H' p=some (.lst (vs.map (·.1)))->vs.map (·.2)=es->(∀x∈vs,Rl x.2 x.1 H')->Q (.ref p) H'):cIn J cσ g Ms te Q H1 p:=
  Ip (fun _=>true) Rl mono put hz hp hJ (fun e H' R RF he s hR _=>step e H' R he s (hR rfl)) (fun H' vs s h ev hr=>done H' vs s h (by rw [ev];exact List.filter_eq_self.mpr fun _ _=>rfl) hr)
def Jg (K:PySem.W.Frag):Sp:=fun vs H Q _=>∃(a:Addr) (fs:List (V × (List Int × Int))) (n:Nat) (c:Int),vs=[.ref a,.int c]/\Frm K H a fs/\fs.length<64/\(∀e∈fs,Sz n e.2.2)/\Sz n c/\n<=1000/\
  ∀z H' hs,Same H H'->Frm K H' z hs->(∀k,Aw (hs.map (·.2)) k=Aw (fs.map (·.2)) k*c)->hs.length<=fs.length->Q (.ref z) H'
theorem O2 {f:Addr}{fd:FuncData} (F:Df K mg "f_scaled" Ft ["f","number"] f fd) (z_tuple:mg "tuple"=none)   :Cal P w K mg base 1 "f_scaled" ["f","number"] (Jg K):=by
  refine F.cal (F.fn.ok Ob (fun vs H Q E h=> ?_) (fun cdv A outer s H vs Q E hr h=> ?_))
  . obtain⟨a,fs,n,c,rfl,_⟩:=h
    rfl
  obtain⟨a,fs,n,c,rfl,hf,hl,hz,hc,hn,k⟩:=h
  refine S.Bf ⟨_,(S.Ac (S.Dp (S.Al M5 (S.pv 1) S.Ad (Ax _)) (S.Af (S.Ao (S.Bu S.Ab))) S.Bd)
      (S.Af (S.Ao (S.Ej Cv rfl z_tuple PyProof.Rows.boot_tuple (S.Aa (S.Cj (ts:=["powers","weight"]) (fs:=[(1,"number")]) rfl (Ay.of (sc:=Ag Ft) (N:=["f","number"]) rfl rfl (by decide+kernel)) (S.Dn (S.pv 0)) (fun _ _ _=>(S.Di K 2 rfl rfl (S.Ai (S.Ah (i:=0) (show List.Nodup (["powers","weight","number"]:List Str)by decide+kernel) rfl (Or.inl rfl) (hf:=Or.inr rfl)) (S.Ai (S.Ah (i:=1) (show List.Nodup (["powers","weight","number"]:List Str)by decide+kernel) rfl (Or.inl rfl) (hf:=Or.inr rfl)) S.Bb)))) (fun _ _ _=>S.Cy) (fun _ _ _=>(S.Bu (S.Aa (S.pv 0) (S.Aa (S.Aj Bh (S.pv 1) (S.pv 2)) S.Ab))))) S.Ab))))),?_⟩
  contradiction
  by_cases c0:c=0
  . rw [if_pos c0]
    refine⟨by decide,fun p hp=>k p _ [] (Same.upd hp _) ⟨.of Ae,by simp,.nil,by simp⟩ (fun q=> ?_) (Nat.zero_le _)⟩
    rw [c0,Int.mul_zero]
    rfl
  rw [if_neg c0]
  refine⟨⟨_,hf.it⟩,fun p hp=>Ik (es:=fs) (inj:=fun e=>e.1) (fun e v H=>Te K H v (e.2.1,e.2.2*c)) (fun e v H H' h s=>h.mono s) (fun e v H ys zs h hp=>h.put hp) (Nat.le_trans (Nat.le_of_lt hl) (by decide)) hp (Fz hf.it) ?_ ?_⟩
  . intro e H2 R he s2 hR
    obtain⟨⟨b,d,eb,hb,hd⟩,ln⟩:=(hf.al e he).mono s2
    rw [eb]
    refine Bo hb ?_
    contradiction
    refine⟨(hz e he).mulOk hc (by omega),fun p2 hp2=>hR _ _ (Same.upd hp2 _) ⟨⟨p2,d,rfl,.of Ae,Same.upd hp2 _ _ _ hd⟩,ln⟩⟩
  intro H2 vs s2 h2 hv hr2
  refine⟨p,_,rfl,.inl ⟨.of h2,fun z hz=> ?_⟩⟩
  have sz:=Same.upd hz (.tup (vs.map (·.1)))
  have e1:(vs.map fun x=>(x.1,((x.2.2.1,x.2.2.2*c):List Int × Int))).map (·.1)=vs.map (·.1):=by rw [List.map_map];rfl
  have e2:(vs.map fun x=>(x.1,((x.2.2.1,x.2.2.2*c):List Int × Int))).map (·.2)=(fs.map (·.2)).map fun e=>(e.1,e.2*c):=by
    rw [<-hv,List.map_map,List.map_map,List.map_map]
    rfl
  refine k z _ (vs.map fun x=>(x.1,(x.2.2.1,x.2.2.2*c))) (s2.trans sz) ⟨by rw [e1];exact .of Ae,fun e he=> ?_,?_,fun e he=> ?_⟩ (fun q=> ?_) ?_
  . obtain⟨x,hx,rfl⟩:=List.mem_map.mp he
    exact(hr2 x hx).mono sz
  . rw [e2]
    exact List.pairwise_map.mpr hf.up
  . obtain⟨x,hx,rfl⟩:=List.mem_map.mp he
    have:x.2∈fs:=by rw [<-hv];exact List.mem_map.mpr ⟨x,hx,rfl⟩
    exact Int.mul_ne_zero (hf.nn _ this) c0
  . rw [e2,G7]
  . rw [List.length_map,<-hv,List.length_map]
    exact Nat.le_refl _
theorem Nk {e:List Key × V}:∀ {kvs:List (List Key × V)},(kvs.map (·.1)).Nodup->e∈kvs->Dt kvs e.1=some e.2
  | [],_,h=>nomatch h
  | p::r,nd,h=>by
    have n:=List.nodup_cons.mp nd
    rcases List.mem_cons.mp h with rfl | h
    . exact Ci rfl
    . rw [Ce fun z=>n.1 (List.mem_map.mpr ⟨e,h,z.symm⟩)]
      exact Nk n.2 h
structure Pn (H:Hp) (t:Prt) (e:List Key × V):Prop where
  pr:H t.1=some (.tup [.ref t.2.1,t.2.2.2])
  tu:H t.2.1=some (.tup (t.ks.map V.int))
  ky:(t.ks.map Sum.inl:List Key)=e.1
  vl:t.2.2.2=e.2
theorem Pn.mono {H H':Hp}{t:Prt}{e:List Key × V} (h:Pn H t e) (s:Same H H'):Pn H' t e:=⟨s _ _ h.pr,s _ _ h.tu,h.ky,h.vl⟩
theorem Pn.put {f:Addr}{H:Hp}{zs ys:List V}{t:Prt}{e:List Key × V} (h:Pn H t e) (hf:H f=some (.lst zs)):Pn (upd H f (.lst ys)) t e:=
  ⟨by rw [Av (Fi h.pr hf (fun z=>nomatch z))];exact h.pr,by rw [Av (Fi h.tu hf (fun z=>nomatch z))];exact h.tu,h.ky,h.vl⟩
theorem Acj {H:Hp}:∀vs:List (V × (List Key × V)),(∀x∈vs,∃t:Prt,x.1= .ref t.1/\Pn H t x.2)->
    ∃ts:List Prt,ts.map (fun t=>V.ref t.1)=vs.map (·.1)/\(∀t∈ts,∃x∈vs,Pn H t x.2)/\ts.map (fun t=>(t.ks.map Sum.inl:List Key))=(vs.map (·.2)).map (·.1)
  | [],_=>⟨[],rfl,by simp,rfl⟩
  | x::r,h=>by
    obtain⟨t,a,b⟩:=h x (.head _)
    obtain⟨ts,e1,e2,e3⟩:=Acj r fun y hy=>h y (.tail _ hy)
    refine⟨t::ts,by rw [List.map_cons,List.map_cons,e1,a],fun u hu=> ?_,by rw [List.map_cons,List.map_cons,List.map_cons,e3,b.ky]⟩
    rcases List.mem_cons.mp hu with rfl | hu
    . exact⟨x,.head _,b⟩
    . obtain⟨y,hy,p⟩:=e2 u hu
      exact⟨y,.tail _ hy,p⟩
def Kv (K:PySem.W.Frag):Sp:=fun vs H Q _=>∃(a:Addr) (es:List (V × (List Int × Int))),vs=[.ref a]/\SqL K H a (es.map (·.1))/\(∀e∈es,Te K H e.1 e.2)/\es.length<64/\
  ∀z H' fs,Same H H'->Frm K H' z fs->(∀k,Aw (fs.map (·.2)) k=Aw (es.map (·.2)) k)->Q (.ref z) H'
theorem Wc {f:Addr}{fd:FuncData} (F:Df K mg "_law_sum" La ["_law_terms_here"] f fd) (z_tuple:mg "tuple"=none) (z_sorted:mg "sorted"=none)   :Cal P w K mg base 1 "_law_sum" ["_law_terms_here"] (Kv K):=by
  refine F.cal (F.fn.ok Ii (fun vs H Q E h=> ?_) (fun cdv A outer s H vs Q E hr h=> ?_))
  . obtain⟨a,es,rfl,_⟩:=h
    rfl
  obtain⟨a,es,rfl,hS,hT,h64,k⟩:=h
  refine S.Bf ⟨_,(S.Ac (S.Ak (i:=1) Ii.nd rfl (Or.inl rfl) S.Hy)
      (S.Ac (S.Bt PassesOwn.never rfl (S.Eu (S.pv 0)) (S.Cq rfl (S.Ai (S.Ah (i:=2) Ii.nd rfl (Or.inl rfl)) (S.Ai (S.Ah (i:=3) Ii.nd rfl (Or.inl rfl)) S.Bb))) (S.Af (S.G9 (hu1 hr.units) (S.pv 1) (S.pv 2) (S.Aj Bc (S.Gq (hu1 hr.units) (S.pv 1) (S.pv 2) S.Ad ⟨rfl,rfl,rfl,rfl⟩) (S.pv 3)) rfl)))
      (S.Af (S.Ao (S.Ej Cv rfl z_tuple PyProof.Rows.boot_tuple (S.Aa (S.Bv (Rv hr.units) rfl z_sorted PyProof.Rows.boot_sorted (S.Aa (S.Cj (ts:=["_law_powers","_law_weight_here"]) (fs:=[]) rfl (Ay.of (sc:=Ag La) (N:=["_law_terms_here","_law_found","_law_powers","_law_weight_here"]) rfl rfl (by decide+kernel)) (S.K7 (S.pv 1) ⟨rfl,rfl,rfl,rfl⟩) (fun _ _ _=>(S.Di K 2 rfl rfl (S.Ai (S.Ah (i:=0) (show List.Nodup (["_law_powers","_law_weight_here"]:List Str)by decide+kernel) rfl (Or.inl rfl) (hf:=Or.inr rfl)) (S.Ai (S.Ah (i:=1) (show List.Nodup (["_law_powers","_law_weight_here"]:List Str)by decide+kernel) rfl (Or.inl rfl) (hf:=Or.inr rfl)) S.Bb)))) (fun _ _ _=>(S.Kz (S.Al Jy (S.pv 1) S.Ad (Ax _)))) (fun _ _ _=>(S.Bu (S.Aa (S.pv 0) (S.Aa (S.pv 1) S.Ab))))) S.Ab)) S.Ab)))))),?_⟩
  contradiction
  intro d hd
  have s1:=Same.upd hd (.dT [])
  refine⟨⟨_,s1.seq hS⟩,Jt (es:=es) (inj:=(·.1)) (fun pre σ' H'=>∃(kvs:List (List Key × V)) (o2 o3:Option V),σ'=[some (.ref a),some (.ref d),o2,o3]/\Sus H H' d kvs (pre.map (·.2))) ⟨[],_,_,rfl,⟨s1,Ae,Nat.le_refl _,by simp,by simp,fun _=> .inr ⟨rfl,rfl⟩⟩⟩ ?_ ?_ ?_⟩
  . rintro pre σ' H' ⟨kvs,o2,o3,rfl,si⟩
    exact Ez (si.sm.seq hS)
  . rintro pre e post σ' H' hE ⟨kvs,o2,o3,rfl,si⟩
    have hm:e∈es:=by rw [hE];simp
    obtain⟨⟨b,c,eb,hb,hc⟩,ln⟩:=(hT e hm).mono si.sm
    rw [eb]
    refine Bo hb ?_
    contradiction
    have ek:H' c=some (.tup ((e.2.1.map Sum.inl:List Key).map kV)):=by rw [Pj];exact hc
    refine⟨.inr ⟨kvs,.inl si.it⟩,_,Km.t si.it ek,?_⟩
    have ev:(Dt kvs (e.2.1.map Sum.inl)).getD (.int 0)= .int (Aw (pre.map (·.2)) e.2.1):=by
      rcases si.vl e.2.1 with h | ⟨h,h0⟩
      . rw [h]
        rfl
      . rw [h,h0]
        rfl
    rw [ev]
    try contradiction
    refine⟨d,_,rfl,Wa.t si.it ek ?_,putK kvs (e.2.1.map Sum.inl) (.int (Aw (pre.map (·.2)) e.2.1+e.2.2)),_,_,rfl,?_⟩
    . have l1:=si.le
      have l2:=congrArg List.length hE
      rw [List.length_append]at l2
      rw [List.length_map]at l1
      exact Nat.lt_of_le_of_lt (show kvs.length<=64 by omega) (by decide)
    . rw [List.map_append]
      exact si.put hd ln rfl
  rintro σ' H' ⟨kvs,o2,o3,rfl,si⟩
  obtain⟨ts,ets⟩:∃ts:List (List Int × Int),es.map (·.2)=ts:=⟨_,rfl⟩
  have lts:ts.length=es.length:=by rw [<-ets,List.length_map]
  rw [ets]at si
  rw [ets]at k
  have l64:kvs.length<64:=by
    have l1:=si.le
    omega
  have vk:∀e∈kvs,e.2= .int (Aw ts (e.1.map toI))/\(e.1.map toI).length=3/\((e.1.map toI).map Sum.inl:List Key)=e.1:=fun e he=>by
    obtain⟨ks,e1,e2⟩:=si.ky e he
    have e3:e.1.map toI=ks:=by rw [e1,Gj]
    rw [e3]
    refine⟨?_,e2,e1.symm⟩
    have v:=Nk si.nd he
    rw [e1]at v
    rcases si.vl ks with h | ⟨h,_⟩
    . rw [h]at v
      exact(Option.some.inj v).symm
    . rw [h]at v
      cases v
  contradiction
  refine⟨d,kvs,rfl,si.it,fun od p hp=> ?_⟩
  have si2:Same H (upd H' d (.frz od (.dT kvs))):=si.sm.put hd
  refine Vk (fun e=>decide (e.2≠ .int 0)) (fun e v H=>∃t:Prt,v= .ref t.1/\Pn H t e) (fun e v H H' ⟨t,a,b⟩ s=>⟨t,a,b.mono s⟩) (fun e v H ys zs ⟨t,a,b⟩ h=>⟨t,a,b.put h⟩) (Nat.le_trans (Nat.le_of_lt l64) (by decide)) hp Ae ?_ ?_
  . intro e H3 b q R RF he s3 hb hq k1 k2
    obtain⟨v1,v2,v3⟩:=vk e he
    rw [v1]at hq
    refine Bo (.of hq) ?_
    contradiction
    by_cases w0:Aw ts (e.1.map toI)=0
    . rw [if_pos w0]
      exact k2 (by rw [v1,w0];rfl) _ (Same.refl _)
    . rw [if_neg w0]
      rw [<-v3,Pj]at hb
      exact fun p2 hp2=>k1 (by rw [v1];exact decide_eq_true fun z=>w0 (V.int.inj z)) _ _ (Same.upd hp2 _) ⟨(p2,b,e.1.map toI,.int (Aw ts (e.1.map toI))),rfl,⟨Ae,Same.upd hp2 _ _ _ hb,v3,v1.symm⟩⟩
  intro H3 vs s3 h3 hv hr3
  obtain⟨ts3,e1,al3,e2⟩:=Acj vs hr3
  rw [hv]at e2
  have nd3:(ts3.map Prt.ks).Nodup:=by
    have h1:((kvs.filter fun e=>decide (e.2≠ .int 0)).map (·.1)).Nodup:=si.nd.sublist (List.filter_sublist.map _)
    rw [<-e2]at h1
    refine List.pairwise_map.mpr ((List.pairwise_map.mp h1).imp fun h z=>h ?_)
    rw [z]
  have l3:ts3.length<64:=by
    have h1:=congrArg List.length e2
    rw [List.length_map,List.length_map]at h1
    rw [h1]
    exact Nat.lt_of_le_of_lt (List.length_filter_le _ _) l64
  have in3:∀t∈ts3,t.2.2.2= .int (Aw ts t.ks)/\Aw ts t.ks≠0/\t.ks.length=3/\H3 t.1=some (.tup [.ref t.2.1,.int (Aw ts t.ks)])/\H3 t.2.1=some (.tup (t.ks.map V.int)):=fun t ht=>by
    obtain⟨x,hx,pn⟩:=al3 t ht
    have hx':x.2∈kvs.filter fun e=>decide (e.2≠ .int 0):=by rw [<-hv];exact List.mem_map.mpr ⟨x,hx,rfl⟩
    obtain⟨hk,hn⟩:=List.mem_filter.mp hx'
    obtain⟨v1,v2,v3⟩:=vk x.2 hk
    have ek:x.2.1.map toI=t.ks:=by rw [<-pn.ky,Gj]
    rw [ek]at v1 v2
    have pr:=pn.pr
    rw [pn.vl,v1]at pr
    refine⟨by rw [pn.vl,v1],fun z=> ?_,v2,pr,pn.tu⟩
    have:=of_decide_eq_true hn
    exact this (by rw [v1,z])
  rw [<-e1]at h3
  refine⟨p,ts3,rfl,.of h3,fun t ht=> ?_,nd3,l3,fun l us hl hpm hpw=>⟨l,_,rfl,.inl ⟨.of Ae,fun z hz=> ?_⟩⟩⟩
  . obtain⟨a1,_,_,a2,a3⟩:=in3 t ht
    exact⟨by rw [a1];exact .of a2,.of a3⟩
  have s4:=(Same.upd hl (.lst (us.map fun t=>V.ref t.1))).trans (Same.upd hz (.tup (us.map fun t=>V.ref t.1)))
  have f1:(us.map fun t=>((V.ref t.1,(t.ks,Aw ts t.ks)):V × (List Int × Int))).map (·.1)=us.map fun t=>V.ref t.1:=by rw [List.map_map];rfl
  have f2:(us.map fun t=>((V.ref t.1,(t.ks,Aw ts t.ks)):V × (List Int × Int))).map (·.2)=us.map fun t=>(t.ks,Aw ts t.ks):=by rw [List.map_map];rfl
  refine k z _ (us.map fun t=>(V.ref t.1,(t.ks,Aw ts t.ks))) ((si2.trans s3).trans s4) ⟨by rw [f1];exact .of Ae,fun e he=> ?_,?_,fun e he=> ?_⟩ (fun q=> ?_)
  . obtain⟨t,ht,rfl⟩:=List.mem_map.mp he
    obtain⟨_,_,a0,a2,a3⟩:=in3 t (hpm.mem_iff.mp ht)
    exact⟨⟨t.1,t.2.1,rfl,.of (s4 _ _ a2),s4 _ _ a3⟩,a0⟩
  . rw [f2]
    exact List.pairwise_map.mpr hpw
  . obtain⟨t,ht,rfl⟩:=List.mem_map.mp he
    exact(in3 t (hpm.mem_iff.mp ht)).2.1
  . rw [f2,Iw (hpm.map fun t=>(t.ks,Aw ts t.ks)) q]
    have g1:ts3.map (fun t=>t.ks)=(kvs.filter fun e=>decide (e.2≠ .int 0)).map fun e=>e.1.map toI:=by
      have:=congrArg (List.map (List.map toI)) e2
      rw [List.map_map,List.map_map]at this
      have h0:ts3.map (List.map toI ∘ fun t=>(t.ks.map Sum.inl:List Key))=ts3.map fun t=>t.ks:=List.map_congr_left fun t _=>Gj t.ks
      rw [h0]at this
      exact this
    have g2:ts3.map (fun t=>(t.ks,Aw ts t.ks))=((kvs.map fun e=>((0,e.1.map toI):Tpt)).filter fun t=>decide (Aw ts t.2≠0)).map fun t=>(t.2,Aw ts t.2):=by
      have h1:ts3.map (fun t=>(t.ks,Aw ts t.ks))=(ts3.map fun t=>t.ks).map fun q=>(q,Aw ts q):=by rw [List.map_map];rfl
      rw [h1,g1,List.map_map,List.filter_map,List.map_map]
      have h2:(kvs.filter fun e=>decide (e.2≠ .int 0))=kvs.filter ((fun t:Tpt=>decide (Aw ts t.2≠0)) ∘ fun e=>((0,e.1.map toI):Tpt)):=by
        refine List.filter_congr fun e he=> ?_
        rw [(vk e he).1]
        show decide (V.int (Aw ts (e.1.map toI))≠ .int 0)=decide (Aw ts (e.1.map toI)≠0)
        simp
      rw [h2]
      rfl
    have ndK:((kvs.map fun e=>((0,e.1.map toI):Tpt)).map fun t=>t.2).Nodup:=by
      rw [List.map_map]
      refine List.pairwise_map.mpr ?_
      have:=List.pairwise_map.mp si.nd
      refine List.Pairwise.imp_of_mem (fun {x y} hx hy h z=>h ?_) this
      rw [<-(vk x hx).2.2,<-(vk y hy).2.2]
      exact congrArg (List.map Sum.inl) z
    rw [g2,Hz (Aw ts) q _ ndK]
    split
    . rfl
    . rename_i hq
      rcases si.vl q with h | ⟨_,h⟩
      . obtain⟨e,he,ee⟩:=List.mem_map.mp (Qe h)
        refine absurd (List.mem_map.mpr ⟨(0,e.1.map toI),List.mem_map.mpr ⟨e,he,rfl⟩,?_⟩) hq
        show e.1.map toI=q
        rw [ee,Gj]
      . exact h.symm
theorem Q0 {x:Int} (h:x.natAbs<2^60):Builtin.Int.intBits x<=64:=Nat.le_trans (PySem.intBits_le_iff.mpr h) (by decide)
structure Dr (l:Addr) (H H':Hp) (ms:List Int):Prop where
  sm:∀b u,b≠l->H b=some u->H' b=some u
  it:H' l=some (.lst (ms.map V.int))
theorem Dr.trans {l:Addr}{H H1 H2:Hp}{ms ns:List Int} (a:Dr l H H1 ms) (b:Dr l H1 H2 ns):Dr l H H2 ns:=⟨fun c u n e=>b.sm c u n (a.sm c u n e),b.it⟩
theorem Dr.same {l:Addr}{H H1 H2:Hp}{ms:List Int} (a:Dr l H H1 ms) (s:Same H1 H2):Dr l H H2 ms:=⟨fun c u n e=>s _ _ (a.sm c u n e),s _ _ a.it⟩
theorem Dr.of {l:Addr}{H H':Hp}{ms:List Int} (e:H l=some (.lst (ms.map V.int))) (s:Same H H'):Dr l H H' ms:=⟨fun c u _ e=>s _ _ e,s _ _ e⟩
def Fl (K:PySem.W.Frag):Sp:=fun vs H Q _=>∃(l:Addr) (m:Int) (ns:List Int),vs=[.ref l,.int m]/\H l=some (.lst (ns.map V.int))/\0<m/\∀r H' ms,0<=r->r<m->Dr l H H' ms->Q (.int r) H'
theorem R3 {f:Addr}{fd:FuncData} (F:Df K mg "_law_next" Lh ["_law_draws_here","_law_most"] f fd)    :Cal P w K mg base 1 "_law_next" ["_law_draws_here","_law_most"] (Fl K):=by
  refine F.cal (F.fn.ok Vx (fun vs H Q E h=> ?_) (fun cdv A outer s H vs Q E hr h=> ?_))
  . obtain⟨l,m,ns,rfl,_⟩:=h
    rfl
  obtain⟨l,m,ns,rfl,hS,m0,k⟩:=h
  refine S.Bf ⟨_,(S.Ac (S.Dp (S.Al (X4 hr.units) (S.pv 0) (S.Em S.Ab) (Ax _)) (S.Af (S.Ao S.Ad)) S.Bd)
      (S.Af (S.Ao (S.Aj Fj (S.G4 PySem.F.plainAttrs_list PySem.F.slot_list_pop PySem.F.type_list_pop Xp (S.pv 0) (S.Aa S.Ad S.Ab)) (S.pv 1))))),?_⟩
  contradiction
  refine⟨by decide,fun p hp=> ?_⟩
  have s1:=Same.upd hp (.lst [])
  have g1:=s1 _ _ hS
  refine Wr (ms:=[]) (.of g1) (.of Ae) ?_
  try contradiction
  cases ns with
  | nil=>
    rw [if_pos rfl]
    exact k 0 _ [] (by omega) m0 (.of hS s1)
  | cons x r=>
    rw [if_neg (by simp)]
    refine⟨.inl ⟨rfl,_,.of g1⟩,l,_,0,0,.int x,rfl,rfl,g1,by decide,by decide,by simp [seqIndex?],rfl,?_⟩
    try contradiction
    refine⟨m0,k _ _ r (Int.emod_nonneg _ (by omega)) (Int.emod_lt_of_pos _ m0) ⟨fun b u n e=> ?_,Ae⟩⟩
    rw [Av n]
    exact s1 _ _ e
theorem Dz {H:Hp}{Q:VK}{E:XK}{l:Addr}{m:Int}{ns:List Int} (h:H l=some (.lst (ns.map V.int))) (m0:0<m) (k:∀r H' ms,0<=r->r<m->Dr l H H' ms->Q (.int r) H'):Fl K [.ref l,.int m] H Q E:=⟨l,m,ns,rfl,h,m0,k⟩
def Gh (K:PySem.W.Frag):Sp:=fun vs H Q _=>∃(l:Addr) (ns:List Int),vs=[.ref l]/\H l=some (.lst (ns.map V.int))/\∀(r:Int) H' ms,r.natAbs<=10^20->Dr l H H' ms->Q (.int r) H'
theorem Ow {f:Addr}{fd:FuncData} (F:Df K mg "_law_weight" Hi ["_law_draws_here"] f fd)   (c_q_next:Cal P w K mg base 1 "_law_next" ["_law_draws_here","_law_most"] (Fl K)):Cal P w K mg base 2 "_law_weight" ["_law_draws_here"] (Gh K):=by
  refine F.cal (F.fn.ok Ju (fun vs H Q E h=> ?_) (fun cdv A outer s H vs Q E hr h=> ?_))
  . obtain⟨l,ns,rfl,_⟩:=h
    rfl
  obtain⟨l,ns,rfl,hS,k⟩:=h
  refine S.Bf ⟨_,(S.Ac (S.Ak (i:=1) Ju.nd rfl (Or.inl rfl) (S.Am c_q_next (hr.mono (by decide)) (S.Aa (S.pv 0) (S.Aa S.Ad S.Ab))))
      (S.Ac (S.Dp (S.Al M5 (S.pv 1) S.Ad (Ax _)) (S.Af (S.Ao (S.Aj Im (S.Am c_q_next (hr.mono (by decide)) (S.Aa (S.pv 0) (S.Aa (S.Aj Bh S.Ad (S.Aj Fe S.Ad S.Ad)) S.Ab))) (S.Aj Fe S.Ad S.Ad)))) S.Bd)
      (S.Af (S.Ao (S.Aj Im (S.Am c_q_next (hr.mono (by decide)) (S.Aa (S.pv 0) (S.Aa S.Ad S.Ab))) S.Ad))))),?_⟩
  contradiction
  refine Dz hS (by decide) fun r H1 ms r0 r1 d1=> ?_
  try contradiction
  split
  . refine⟨⟨by decide,by decide,by decide⟩,.of_left (Q0 (by decide)),Dz d1.it (by decide) fun r2 H2 ms2 x0 x1 d2=> ?_⟩
    try contradiction
    have e20:(10:Int)^Int.toNat 20=100000000000000000000:=by decide
    rw [e20]at x1 ⊢
    exact⟨⟨by decide,by decide,by decide⟩,k _ _ _ (by omega) (d1.trans d2)⟩
  . refine Dz d1.it (by decide) fun r2 H2 ms2 x0 x1 d2=> ?_
    try contradiction
    exact k _ _ _ (by omega) (d1.trans d2)
theorem Dr.tup {l a:Addr}{H H':Hp}{ms:List Int}{zs xs:List V} (d:Dr l H H' ms) (hl:H l=some (.lst zs)) (e:H a=some (.tup xs)):H' a=some (.tup xs):=d.sm _ _ (Fi e hl (fun z=>nomatch z)) e
theorem Dr.sqT {l a:Addr}{H H':Hp}{ms:List Int}{zs xs:List V} (d:Dr l H H' ms) (hl:H l=some (.lst zs)) (h:SqT K H a xs):SqT K H' a xs:=by
  rcases h with(e | ⟨o,e⟩) | h
  . exact .inl (.inl (d.tup hl e))
  . exact .inl (.inr ⟨o,d.sm _ _ (Fi e hl (fun z=>nomatch z)) e⟩)
  . exact .inr h
theorem Dr.back {l:Addr}{H H1 H2:Hp}{ms:List Int} (d:Dr l H1 H2 ms) (n:H l=none) (s:Same H H1):Same H H2:=fun b u e=>d.sm b u (Ar e n) (s _ _ e)
theorem Te.dr {l:Addr}{H H':Hp}{ms:List Int}{zs:List V}{v:V}{e:List Int × Int} (h:Te K H v e) (d:Dr l H H' ms) (hl:H l=some (.lst zs)):Te K H' v e:=by
  obtain⟨⟨a,b,e1,e2,e3⟩,n⟩:=h
  exact⟨⟨a,b,e1,d.sqT hl e2,d.tup hl e3⟩,n⟩
def Lo (e:List Int × Int):Prop:=(∀x∈e.1,0<=x/\x<=3)/\e.2.natAbs<=10^20
structure TmJ (K:PySem.W.Frag) (H H':Hp) (l f:Addr) (ms:List Int) (es:List (V × (List Int × Int))):Prop where
  dr:Dr l H H' ms
  it:H' f=some (.lst (es.map (·.1)))
  al:∀e∈es,Te K H' e.1 e.2
  lo:∀e∈es,Lo e.2
def J5 (K:PySem.W.Frag):Sp:=fun vs H Q _=>∃(l:Addr) (ns:List Int) (m:Nat),vs=[.ref l,.int (m:Nat),.int 3]/\H l=some (.lst (ns.map V.int))/\m<=20/\∀f H' ms es,H f=none->TmJ K H H' l f ms es->es.length<=m->Q (.ref f) H'
theorem Rp {f:Addr}{fd:FuncData} (F:Df K mg "_law_terms" Jm ["_law_draws_here","_law_many","_law_most"] f fd) (z_range:mg "range"=none)  (c_q_next:Cal P w K mg base 1 "_law_next" ["_law_draws_here","_law_most"] (Fl K)) (c_q_weight:Cal P w K mg base 2 "_law_weight" ["_law_draws_here"] (Gh K)):Cal P w K mg base 3 "_law_terms" ["_law_draws_here","_law_many","_law_most"] (J5 K):=by
  refine F.cal (F.fn.ok Fo (fun vs H Q E h=> ?_) (fun cdv A outer s H vs Q E hr h=> ?_))
  . obtain⟨l,ns,m,rfl,_⟩:=h
    rfl
  obtain⟨l,ns,m,rfl,hS,hm,k⟩:=h
  refine S.Bf ⟨_,(S.Ac (S.Ak (i:=3) Fo.nd rfl (Or.inl rfl) (S.Em S.Ab))
      (S.Ac (S.Bt PassesOwn.never rfl (S.Bl rfl z_range (S.Aa (S.Am c_q_next (hr.mono (by decide)) (S.Aa (S.pv 0) (S.Aa (S.Aj Bc (S.pv 1) S.Ad) S.Ab))) S.Ab)) (S.Ah (i:=4) Fo.nd rfl (Or.inl rfl)) (S.Ac (S.Ak (i:=5) Fo.nd rfl (Or.inl rfl) (S.Bu (S.Aa (S.Am c_q_next (hr.mono (by decide)) (S.Aa (S.pv 0) (S.Aa (S.Aj Bc (S.pv 2) S.Ad) S.Ab))) (S.Aa (S.Am c_q_next (hr.mono (by decide)) (S.Aa (S.pv 0) (S.Aa (S.Aj Bc (S.pv 2) S.Ad) S.Ab))) (S.Aa (S.Am c_q_next (hr.mono (by decide)) (S.Aa (S.pv 0) (S.Aa (S.Aj Bc (S.pv 2) S.Ad) S.Ab))) S.Ab)))))
      (S.Af (S.Ep (S.G4 PySem.F.plainAttrs_list PySem.F.slot_list_append PySem.F.type_list_append Dq (S.pv 3) (S.Aa (S.Bu (S.Aa (S.pv 5) (S.Aa (S.Am c_q_weight (hr.mono (by decide)) (S.Aa (S.pv 0) S.Ab)) S.Ab))) S.Ab))))))
      (S.Af (S.Ao (S.pv 3))))),?_⟩
  contradiction
  refine⟨by decide,fun f hf=> ?_⟩
  have s1:=Same.upd hf (.lst [])
  have g1:=s1 _ _ hS
  have nl:l≠f:=Ar hS hf
  refine Dz g1 (by omega) fun c H2 ms c0 c8 d2=> ?_
  try contradiction
  have d2':Dr l H H2 ms:=⟨fun b u n e=>d2.sm b u n (s1 _ _ e),d2.it⟩
  have f2:H2 f=some (.lst []):=d2.sm _ _ (Ne.symm nl) Ae
  refine⟨by omega,by omega,?_⟩
  refine X6 c.toNat (fun i=> .int (0+(i:Nat))) (fun i σ' H'=>∃(ms:List Int) (es:List (V × (List Int × Int))) (o4 o5:Option V),σ'=[some (.ref l),some (.int (m:Nat)),some (.int 3),some (.ref f),o4,o5]/\TmJ K H H' l f ms es/\es.length=i) ⟨ms,[],_,_,rfl,⟨d2',f2,by simp,by simp⟩,rfl⟩ ?_ ?_ ?_
  . rintro i σ' H' _
    exact Cp
  . rintro i σ' H' hi ⟨ms,es,o4,o5,rfl,ti,tl⟩
    contradiction
    refine Dz ti.dr.it (by decide) fun x1 H3 m3 x10 x11 d3=> ?_
    try contradiction
    refine Dz d3.it (by decide) fun x2 H4 m4 x20 x21 d4=> ?_
    try contradiction
    refine Dz d4.it (by decide) fun x3 H5 m5 x30 x31 d5=> ?_
    try contradiction
    have d35:=(d3.trans d4).trans d5
    refine⟨by decide,fun p hp=> ?_⟩
    have sp:=Same.upd hp (.tup [V.int x1,V.int x2,V.int x3])
    have gp:upd H5 p (.tup [V.int x1,V.int x2,V.int x3]) p=some (.tup [V.int x1,V.int x2,V.int x3]):=Ae
    generalize upd H5 p (.tup [V.int x1,V.int x2,V.int x3])=H6 at sp gp
    have d6:=d35.same sp
    refine⟨.inl ⟨rfl,_,.of (d6.sm _ _ (Ne.symm nl) ti.it)⟩,l,m5,rfl,d6.it,fun w H7 m7 wb d7 p1 hp1=> ?_⟩
    have sp1:=Same.upd hp1 (.tup [V.ref p,V.int w])
    have gp1:upd H7 p1 (.tup [V.ref p,V.int w]) p1=some (.tup [V.ref p,V.int w]):=Ae
    generalize upd H7 p1 (.tup [V.ref p,V.int w])=H8 at sp1 gp1
    have dd:Dr l H' H8 m7:=(d6.trans d7).same sp1
    have f8:=dd.sm _ _ (Ne.symm nl) ti.it
    have tn:Te K H8 (.ref p1) ([x1,x2,x3],w):=⟨⟨p1,p,rfl,.of gp1,sp1 _ _ (d7.tup d6.it gp)⟩,rfl⟩
    refine⟨f,_,_,rfl,rfl,f8,?_,m7,es++ [(.ref p1,([x1,x2,x3],w))],_,_,rfl,⟨⟨fun b u n e=> ?_,?_⟩,?_,fun t ht=> ?_,fun t ht=> ?_⟩,?_⟩
    . rw [List.length_map]
      exact Nat.lt_of_lt_of_le (show es.length<30 by omega) (by decide)
    . rw [Av (Ar e hf)]
      exact dd.sm b u n (ti.dr.sm b u n e)
    . rw [Av nl]
      exact dd.it
    . rw [Ae,List.map_append]
      rfl
    . rcases List.mem_append.mp ht with ht | ht
      . exact((ti.al t ht).dr dd ti.dr.it).put f8
      . have e:t=(.ref p1,([x1,x2,x3],w)):=by simpa using ht
        rw [e]
        exact tn.put f8
    . rcases List.mem_append.mp ht with ht | ht
      . exact ti.lo t ht
      . have e:t=(.ref p1,([x1,x2,x3],w)):=by simpa using ht
        rw [e]
        refine⟨fun x hx=> ?_,wb⟩
        have hx':x=x1\/x=x2\/x=x3:=by simpa using hx
        rcases hx' with rfl | rfl | rfl<;>omega
    . rw [List.length_append,tl]
      rfl
  . rintro σ' H' ⟨ms,es,o4,o5,rfl,ti,tl⟩
    contradiction
    exact k f H' ms es hf ti (by omega)
theorem Xf (ns:List Int) (lo hi:Option Int):∃ms:List Int,Rj (ns.map V.int) lo hi=ms.map V.int/\ms.length<=ns.length:=by
  unfold Rj
  refine⟨(ns.drop (HT.sIx (ns.map V.int).length 0 lo)).take (HT.sIx (ns.map V.int).length (ns.map V.int).length hi-HT.sIx (ns.map V.int).length 0 lo),by rw [List.map_take,List.map_drop],?_⟩
  rw [List.length_take,List.length_drop]
  omega
def J8 (K:PySem.W.Frag):Sp:=fun vs H Q _=>∃(c:Int) (m:Nat),vs=[.int c,.int (m:Nat)]/\m<=60/\∀l H' (ns:List Int),H l=none->Same H H'->H' l=some (.lst (ns.map V.int))->Q (.ref l) H'
theorem Rh {f:Addr}{fd:FuncData} (F:Df K mg "_law_draws" Jd ["_law_cell","_law_many"] f fd) (z_range:mg "range"=none) (z_len:mg "len"=none)   :Cal P w K mg base 1 "_law_draws" ["_law_cell","_law_many"] (J8 K):=by
  refine F.cal (F.fn.ok Bx (fun vs H Q E h=> ?_) (fun cdv A outer s H vs Q E hr h=> ?_))
  . obtain⟨c,m,rfl,_⟩:=h
    rfl
  obtain⟨c,mm,rfl,hmm,k⟩:=h
  refine S.Bf ⟨_,(S.Ac (S.Ak (i:=2) Bx.nd rfl (Or.inl rfl) (S.Em S.Ab))
      (S.Ac (S.Ak (i:=3) Bx.nd rfl (Or.inl rfl) (S.Aj Ed (S.pv 0) S.Ad))
      (S.Ac (S.Dp (S.Al M5 (S.Aj Fj (S.pv 0) S.Ad) S.Ad (Ax _)) (S.Af (S.Ak (i:=3) Bx.nd rfl (Or.inl rfl) S.Ad)) S.Bd)
      (S.Ac (S.Ec PassesOwn.never (S.K6 (S.Qn (S.Al Jy (S.pv 3) S.Ad (Ax _)) (S.Qn (S.Al Jy (S.pv 3) (S.Wy Xy S.Ad) (Ax _)) (S.Oz (S.Al Aau (S.Bv Bm rfl z_len PySem.boot_len (S.Aa (S.pv 2) S.Ab)) (S.pv 1) (Ax _)))))) (S.Ac (S.Ep (S.G4 PySem.F.plainAttrs_list PySem.F.slot_list_append PySem.F.type_list_append Dq (S.pv 2) (S.Aa (S.Aj Fj (S.pv 3) (S.Aj Fe S.Ad S.Ad)) S.Ab)))
      (S.Af (S.Ak (i:=3) Bx.nd rfl (Or.inl rfl) (S.Aj Ed (S.pv 3) (S.Aj Fe S.Ad S.Ad))))))
      (S.Ac (S.Ak (i:=4) Bx.nd rfl (Or.inl rfl) (S.Aj Fj (S.Aj Bh (S.Aj Bc (S.Aj Fj (S.pv 0) (S.Aj Bc (S.Aj Fe S.Ad S.Ad) S.Ad)) S.Ad) S.Ad) (S.Aj Bc (S.Aj Fe S.Ad S.Ad) S.Ad)))
      (S.Ac (S.Ak (i:=5) Bx.nd rfl (Or.inl rfl) (S.Em S.Ab))
      (S.Ac (S.Bt PassesOwn.never rfl (S.Bl rfl z_range (S.Aa (S.Aj Bc (S.pv 1) S.Ad) S.Ab)) (S.Ah (i:=6) Bx.nd rfl (Or.inl rfl)) (S.Ac (S.Ak (i:=4) Bx.nd rfl (Or.inl rfl) (S.Aj Fj (S.Aj Bc (S.Aj Bc (S.Aj Bh (S.pv 4) (S.pv 4)) (S.Aj Bh S.Ad (S.pv 4))) (S.pv 6)) (S.Aj Bc (S.Aj Fe S.Ad S.Ad) S.Ad)))
      (S.Af (S.Ep (S.G4 PySem.F.plainAttrs_list PySem.F.slot_list_append PySem.F.type_list_append Dq (S.pv 5) (S.Aa (S.Aj Ed (S.pv 4) (S.Aj Fe S.Ad S.Ad)) S.Ab))))))
      (S.Af (S.Ao (S.Aj R8 (S.pv 2) (S.Ig Zd (S.pv 5) (S.Lg (S.Aj Bc S.Ad (S.Bv Bm rfl z_len PySem.boot_len (S.Aa (S.pv 2) S.Ab)))) S.Ly))))))))))),?_⟩
  refine Je (fun σ' H'=>Same H H'/\∃f,H f=none/\σ'=[some (.int c),some (.int (mm:Nat)),some (.ref f),none,none,none,none]/\H' f=some (.lst [])) (fun M hM=> ?_) ?_
  . contradiction
    exact⟨by decide,fun p hp=>hM _ _ ⟨Same.upd hp _,p,hp,rfl,Ae⟩⟩
  rintro σ H1 ⟨s1,f,nf,rfl,g1⟩
  refine Je (fun σ' H'=>H'=H1/\∃r:Int,σ'=[some (.int c),some (.int (mm:Nat)),some (.ref f),some (.int r),none,none,none]) (fun M hM=> ?_) ?_
  . contradiction
    exact⟨⟨by decide,by decide⟩,hM _ _ ⟨rfl,_,rfl⟩⟩
  rintro σ H2 ⟨e2,r,rfl⟩
  rw [e2]
  clear e2 H2
  refine Je (fun σ' H'=>H'=H1/\∃r:Int,σ'=[some (.int c),some (.int (mm:Nat)),some (.ref f),some (.int r),none,none,none]) (fun M hM=> ?_) ?_
  . contradiction
    refine⟨by decide,?_⟩
    split
    . exact hM _ _ ⟨rfl,_,rfl⟩
    . exact hM _ _ ⟨rfl,_,rfl⟩
  rintro σ H2 ⟨e2,r,rfl⟩
  rw [e2]
  clear e2 H2
  refine Je (fun σ' H'=>Same H H'/\∃(r:Int) (ns:List Int),σ'=[some (.int c),some (.int (mm:Nat)),some (.ref f),some (.int r),none,none,none]/\H' f=some (.lst (ns.map V.int))/\ns.length<=mm) (fun M hM=> ?_) ?_
  . contradiction
    refine Il (fun σ H'=>Same H H'/\∃(r:Int) (ns:List Int),σ=[some (.int c),some (.int (mm:Nat)),some (.ref f),some (.int r),none,none,none]/\H' f=some (.lst (ns.map V.int))/\ns.length<=mm) (fun σ H'=>match H' f with | some (.lst xs)=>mm-xs.length | _=>0) ⟨s1,r,[],rfl,g1,Nat.zero_le _⟩ ?_
    rintro σ H' ⟨s2,r,ns,rfl,g2,ln⟩
    have ex:=hM _ _ ⟨s2,r,ns,rfl,g2,ln⟩
    contradiction
    by_cases r0:r=0
    . rw [if_pos r0]
      exact ex
    rw [if_neg r0]
    by_cases r1:r= -1
    . rw [if_pos r1]
      exact ex
    rw [if_neg r1]
    refine⟨f,_,rfl,.inl (.of g2),?_⟩
    rw [List.length_map]
    by_cases l6:((ns.length:Nat):Int)<(mm:Nat)
    . rw [if_pos l6]
      refine Xv ?_
      contradiction
      refine⟨.inl ⟨rfl,_,.of g2⟩,⟨by decide,by decide,by decide⟩,by decide,f,_,_,rfl,rfl,g2,?_,⟨by decide,by decide,by decide⟩,⟨by decide,by decide⟩,⟨s2.put nf,_,ns++ [r%10^Int.toNat 24],rfl,?_,?_⟩,?_⟩
      . rw [List.length_map]
        exact Nat.lt_of_lt_of_le (show ns.length<61 by omega) (by decide)
      . rw [Ae,List.map_append]
        rfl
      . rw [List.length_append]
        show ns.length+1<=mm
        omega
      . rw [Ae,g2]
        show mm-(ns.map V.int++ [_]).length<mm-(ns.map V.int).length
        rw [List.length_append,List.length_map]
        show mm-(ns.length+1)<_
        omega
    . rw [if_neg l6]
      exact ex
  rintro σ H2 ⟨s2,r,ns,rfl,g2,ln⟩
  refine Je (fun σ' H'=>H'=H2/\∃x:Int,0<=x/\x<10^Int.toNat 40+121/\σ'=[some (.int c),some (.int (mm:Nat)),some (.ref f),some (.int r),some (.int x),none,none]) (fun M hM=> ?_) ?_
  . contradiction
    exact⟨⟨by decide,by decide,by decide⟩,by decide,.of_right (Q0 (by decide)),⟨by decide,by decide,by decide⟩,by decide,hM _ _ ⟨rfl,_,Int.emod_nonneg _ (by decide),Int.emod_lt_of_pos _ (by decide),rfl⟩⟩
  rintro σ H3 ⟨e3,x,x0,x1,rfl⟩
  rw [e3]
  clear e3 H3
  refine Je (fun σ' H'=>Same H2 H'/\∃m,H2 m=none/\σ'=[some (.int c),some (.int (mm:Nat)),some (.ref f),some (.int r),some (.int x),some (.ref m),none]/\H' m=some (.lst [])) (fun M hM=> ?_) ?_
  . contradiction
    exact⟨by decide,fun p hp=>hM _ _ ⟨Same.upd hp _,p,hp,rfl,Ae⟩⟩
  rintro σ H3 ⟨s3,m,nm,rfl,g3⟩
  refine Je (fun σ' H'=>Same H2 H'/\∃(y:Int) (o:Option V) (ms:List Int),σ'=[some (.int c),some (.int (mm:Nat)),some (.ref f),some (.int r),some (.int y),some (.ref m),o]/\H' m=some (.lst (ms.map V.int))/\ms.length=((mm:Int)+4).toNat) (fun M hM=> ?_) ?_
  . contradiction
    refine⟨by omega,by omega,?_⟩
    refine X6 ((mm:Int)+4).toNat (fun i=> .int (0+(i:Nat))) (fun i σ' H'=>Same H2 H'/\∃(y:Int) (o:Option V) (ms:List Int),0<=y/\y<10^Int.toNat 40+121/\σ'=[some (.int c),some (.int (mm:Nat)),some (.ref f),some (.int r),some (.int y),some (.ref m),o]/\H' m=some (.lst (ms.map V.int))/\ms.length=i) ⟨s3,x,_,[],x0,x1,rfl,g3,rfl⟩ ?_ ?_ ?_
    . rintro i σ' H' _
      exact Cp
    . rintro i σ' H' hi ⟨s4,y,o,ms,y0,y1,rfl,g4,lm⟩
      have sy:Sz 140 y:=by
        have:(10:Int)^Int.toNat 40+121<2^140:=by decide
        unfold Sz
        omega
      contradiction
      refine⟨sy.mulOk sy (by decide),.of_left (Q0 (by decide)),⟨by decide,by decide,by decide⟩,by decide,.inl ⟨rfl,_,.of g4⟩,⟨by decide,by decide,by decide⟩,⟨by decide,by decide⟩,m,_,_,rfl,rfl,g4,?_,s4.put nm,_,_,ms++ [(y*y+48271*y+(0+(i:Nat)))%(10^Int.toNat 40+121)/10^Int.toNat 8],Int.emod_nonneg _ (by decide),Int.emod_lt_of_pos _ (by decide),rfl,?_,?_⟩
      . rw [List.length_map]
        exact Nat.lt_of_lt_of_le (show ms.length<65 by omega) (by decide)
      . rw [Ae,List.map_append]
        rfl
      . rw [List.length_append,lm]
        rfl
    . rintro σ' H' ⟨s4,y,o,ms,y0,y1,rfl,g4,lm⟩
      exact hM _ _ ⟨s4,y,o,ms,rfl,g4,lm⟩
  rintro σ H4 ⟨s4,y,o,ms,rfl,g4,lm⟩
  contradiction
  refine⟨f,_,rfl,.inl (.of (s4 _ _ g2)),m,_,rfl,.of g4,fun p hp=> ?_⟩
  obtain⟨qs,eq,lq⟩:=Xf ms (some (4+((ns.map V.int).length:Nat))) none
  rw [eq]
  have sp:=Same.upd hp (.lst (qs.map V.int))
  refine⟨f,p,_,_,rfl,rfl,sp _ _ (s4 _ _ g2),Ae,?_,fun l hl=> ?_⟩
  . rw [List.length_map,List.length_map]
    exact Nat.le_trans (show ns.length+qs.length<=124 by omega) (by decide)
  . rw [<-List.map_append]
    refine k l _ (ns++qs) ?_ (((s2.trans s4).trans sp).trans (Same.upd hl _)) Ae
    cases e:H l with
    | none=>rfl
    | some u=>
      rw [((s2.trans s4).trans sp) _ _ e]at hl
      cases hl
theorem Te.tmin {H:Hp}{v:V}{e:List Int × Int} (h:Te K H v e) (w0:e.2≠0) (nn:∀x∈e.1,0<=x):∃t:Prt,v= .ref t.1/\t.ks=e.1/\Aa6 K H t:=by
  obtain⟨⟨a,b,rfl,e2,e3⟩,ln⟩:=h
  refine⟨(a,b,e.1,.int e.2),rfl,rfl,⟨e2,.of e3⟩,?_⟩
  have em:(e.1.map fun i=>((.int i,decide (0<=i)):V × Bool)).map (·.1)=e.1.map V.int:=by rw [List.map_map];rfl
  have g:=Tm.gen (K:=K) (es:=e.1.map fun i=>((.int i,decide (0<=i)):V × Bool)) e2 (by rw [em];exact .of e3) (by rw [List.length_map];exact ln) fun x hx=>by
    obtain⟨i,_,rfl⟩:=List.mem_map.mp hx
    exact .int i
  have e1:((e.1.map fun i=>((.int i,decide (0<=i)):V × Bool)).map (·.2)).all id=true:=by
    rw [List.all_eq_true]
    intro c hc
    obtain⟨x,hx,rfl⟩:=List.mem_map.mp hc
    obtain⟨i,hi,rfl⟩:=List.mem_map.mp hx
    exact decide_eq_true (nn i hi)
  rw [e1,decide_eq_true w0]at g
  exact g
theorem Ab1 {H:Hp}:∀fs:List (V × (List Int × Int)),(∀e∈fs,Te K H e.1 e.2)->(∀e∈fs,e.2.2≠0)->(∀e∈fs,∀x∈e.2.1,0<=x)->∃ts:List Prt,ts.map (fun t=>V.ref t.1)=fs.map (·.1)/\ts.map Prt.ks=(fs.map (·.2)).map (·.1)/\∀t∈ts,Aa6 K H t
  | [],_,_,_=>⟨[],rfl,rfl,by simp⟩
  | e::r,h,w,n=>by
    obtain⟨t,a,b,c⟩:=(h e (.head _)).tmin (w e (.head _)) (n e (.head _))
    obtain⟨ts,e1,e2,e3⟩:=Ab1 r (fun x hx=>h x (.tail _ hx)) (fun x hx=>w x (.tail _ hx)) (fun x hx=>n x (.tail _ hx))
    refine⟨t::ts,by rw [List.map_cons,List.map_cons,e1,a],by rw [List.map_cons,List.map_cons,List.map_cons,e2,b],fun u hu=> ?_⟩
    rcases List.mem_cons.mp hu with rfl | hu
    . exact c
    . exact e3 u hu
theorem Abd {us:List (List Int)} (h:us.Pairwise fun x y=>HT.lexLt x y=true):upT us=true:=by
  unfold upT
  rw [List.all_eq_true]
  intro i hi
  have hi':=List.mem_range.mp hi
  have e:∀j (hj:j<us.length),us.getD j []=us[j]:=fun j hj=>by
    rw [List.getD_eq_getElem?_getD,List.getElem?_eq_getElem hj]
    rfl
  rw [e i (by omega),e (i+1) (by omega)]
  exact List.pairwise_iff_getElem.mp h i (i+1) (by omega) (by omega) (by omega)
theorem Frm.fm {H:Hp}{a:Addr}{fs:List (V × (List Int × Int))} (h:Frm K H a fs) (hl:fs.length<=30) (nn:∀e∈fs,∀x∈e.2.1,0<=x):Fm K H (.ref a) true:=by
  obtain⟨ts,e1,e2,e3⟩:=Ab1 fs h.al h.nn nn
  have it:=h.it
  rw [<-e1]at it
  have lt:ts.length=fs.length:=by
    have:=congrArg List.length e1
    simpa using this
  have g:=Fm.good it (by omega) e3
  rw [e2,Abd (List.pairwise_map.mpr h.up)]at g
  exact g
theorem Wg {ts:List (List Int × Int)}{k:List Int} (h:Aw ts k≠0):∃e∈ts,e.1=k:=by
  refine Classical.byContradiction fun n=>h (Eo fun e he z=>n ⟨e,he,z⟩)
theorem Frm.keys {H:Hp}{a:Addr}{fs:List (V × (List Int × Int))}{ts:List (List Int × Int)} (h:Frm K H a fs) (e:∀k,Aw (fs.map (·.2)) k=Aw ts k):∀x∈fs,∃y∈ts,y.1=x.2.1:=fun x hx=>by
  refine Wg fun z=> ?_
  have hm:x.2∈fs.map (·.2):=List.mem_map.mpr ⟨x,hx,rfl⟩
  have key:∀(gs:List (List Int × Int)),UpT gs->x.2∈gs->Aw gs x.2.1=x.2.2:=by
    intro gs
    induction gs with
    | nil=>exact fun _ h=>nomatch h
    | cons g r ih=>
      intro u m
      have pu:=List.pairwise_cons.mp u
      rcases List.mem_cons.mp m with rfl | m
      . exact Dg u
      . show(if g.1=x.2.1 then g.2 else 0)+Aw r x.2.1=x.2.2
        rw [if_neg fun z=>J4 (pu.1 _ m) z,ih pu.2 m]
        omega
  rw [<-e,key _ h.up hm]at z
  exact h.nn x hx z
structure Mst (fs:List (V × (List Int × Int))) (j:Nat) (M:Int):Prop where
  le:∀e∈fs,e.2.1.getD j 0<=M
  no:fs=[]->M=0
  is:fs≠ []->∃e∈fs,e.2.1.getD j 0=M
def Nz (K:PySem.W.Frag):Sp:=fun vs H Q _=>∃(a:Addr) (fs:List (V × (List Int × Int))) (j:Nat),vs=[.ref a,.int (j:Nat)]/\Frm K H a fs/\fs.length<64/\j<3/\∀M H',Same H H'->Mst fs j M->Q (.int M) H'
theorem Aai {f:Addr}{fd:FuncData} (F:Df K mg "most" Qk ["f","place"] f fd) (z_max:mg "max"=none)   :Cal P w K mg base 1 "most" ["f","place"] (Nz K):=by
  refine F.cal (F.fn.ok Aap (fun vs H Q E h=> ?_) (fun cdv A outer s H vs Q E hr h=> ?_))
  . obtain⟨a,fs,j,rfl,_⟩:=h
    rfl
  obtain⟨a,fs,j,rfl,hf,hl,hj,k⟩:=h
  refine S.Bf ⟨_,(S.Af (S.Ao (S.Js rfl rfl z_max (S.Aa (S.Cj (ts:=["powers","weight"]) (fs:=[(1,"place")]) rfl (Ay.of (sc:=Ag Qk) (N:=["f","place"]) rfl rfl (by decide+kernel)) (S.Dn (S.pv 0)) (fun _ _ _=>(S.Di K 2 rfl rfl (S.Ai (S.Ah (i:=0) (show List.Nodup (["powers","weight","place"]:List Str)by decide+kernel) rfl (Or.inl rfl) (hf:=Or.inr rfl)) (S.Ai (S.Ah (i:=1) (show List.Nodup (["powers","weight","place"]:List Str)by decide+kernel) rfl (Or.inl rfl) (hf:=Or.inr rfl)) S.Bb)))) (fun _ _ _=>S.Cy) (fun _ _ _=>(S.Bj (Fb K) (S.pv 0) (S.pv 2) (fun _ _=>rfl)))) S.Ab) S.Ad))),?_⟩
  contradiction
  refine⟨⟨_,hf.it⟩,fun p hp=>Et (es:=fs) (inj:=(·.1)) (fun e=> .int (e.2.1.getD j 0)) (Nat.le_trans (Nat.le_of_lt hl) (by decide)) hp (Fz hf.it) ?_ ?_⟩
  . intro e H2 R he s2 hR
    obtain⟨⟨b,d,eb,hb,hd⟩,ln⟩:=(hf.al e he).mono s2
    rw [eb]
    refine Bo hb ?_
    contradiction
    refine Bw (.of hd) (v:= .int (e.2.1.getD j 0)) (Dc ?_) (hR _ (Same.refl _))
    rw [List.getElem?_map,List.getD_eq_getElem?_getD,List.getElem?_eq_getElem (by omega)]
    rfl
  intro H2 s2 h2
  have em:fs.map (fun e=>V.int (e.2.1.getD j 0))=(fs.map fun e=>e.2.1.getD j 0).map V.int:=by rw [List.map_map];rfl
  rw [em]at h2
  try contradiction
  refine⟨p,_,rfl,.of h2,fun z=> ?_,fun z M hM hB=> ?_⟩
  . have z':fs=[]:=List.map_eq_nil_iff.mp z
    exact k 0 H2 s2 ⟨by simp [z'],fun _=>rfl,fun n=>absurd z' n⟩
  . refine k M H2 s2 ⟨fun e he=>hB _ (List.mem_map.mpr ⟨e,he,rfl⟩),fun n=>absurd (by rw [n];rfl) z,fun _=> ?_⟩
    obtain⟨e,he,ee⟩:=List.mem_map.mp hM
    exact⟨e,he,ee⟩
theorem Ks {X:Cx} (K:PySem.W.Frag) (hc:X.calm=true) (h:X.K=K:=by rfl):Dv X (.builtin "max") (fun xs H Q=>∃(a:Addr) (ns:List Int),xs=[.ref a]/\(SqL K H a (ns.map V.int)\/SqT K H a (ns.map V.int))/\ns≠ []/\∀M,M∈ns->(∀x∈ns,x<=M)->Q (.int M) H):=by
  subst h
  exact U9 hc
structure Gst (fs:List (V × (List Int × Int))) (M:Int):Prop where
  le:∀e∈fs,∀x∈e.2.1,x<=M
  no:fs=[]->M=0
  is:fs≠ []->∃e∈fs,M∈e.2.1
def mx:List Int->Int
  | []=>0
  | [x]=>x
  | x::y::r=>max x (mx (y::r))
theorem Le:∀ks:List Int,ks≠ []->mx ks∈ks/\∀x∈ks,x<=mx ks
  | [],h=>absurd rfl h
  | [x],_=>⟨by simp [mx],by simp [mx]⟩
  | x::y::r,_=>by
    obtain⟨a,b⟩:=Le (y::r) (by simp)
    refine⟨?_,fun z hz=> ?_⟩
    . show max x (mx (y::r))∈x::y::r
      by_cases h:x<=mx (y::r)
      . rw [Int.max_eq_right h]
        exact .tail _ a
      . rw [Int.max_eq_left (by omega)]
        exact .head _
    . show z<=max x (mx (y::r))
      rcases List.mem_cons.mp hz with rfl | hz
      . omega
      . have:=b z hz
        omega
def Dy (K:PySem.W.Frag):Sp:=fun vs H Q _=>∃(a:Addr) (fs:List (V × (List Int × Int))),vs=[.ref a]/\Frm K H a fs/\fs.length<64/\∀M H',Same H H'->Gst fs M->Q (.int M) H'
theorem Hj {f:Addr}{fd:FuncData} (F:Df K mg "greatest_power" Cg ["f"] f fd) (z_max:mg "max"=none)   :Cal P w K mg base 1 "greatest_power" ["f"] (Dy K):=by
  refine F.cal (F.fn.ok G3 (fun vs H Q E h=> ?_) (fun cdv A outer s H vs Q E hr h=> ?_))
  . obtain⟨a,fs,rfl,_⟩:=h
    rfl
  obtain⟨a,fs,rfl,hf,hl,k⟩:=h
  refine S.Bf ⟨_,(S.Af (S.Ao (S.Js rfl rfl z_max (S.Aa (S.Cj (ts:=["powers","weight"]) (fs:=[]) rfl (Ay.of (sc:=Ag Cg) (N:=["f"]) rfl rfl (by decide+kernel)) (S.Dn (S.pv 0)) (fun _ _ _=>(S.Di K 2 rfl rfl (S.Ai (S.Ah (i:=0) (show List.Nodup (["powers","weight"]:List Str)by decide+kernel) rfl (Or.inl rfl) (hf:=Or.inr rfl)) (S.Ai (S.Ah (i:=1) (show List.Nodup (["powers","weight"]:List Str)by decide+kernel) rfl (Or.inl rfl) (hf:=Or.inr rfl)) S.Bb)))) (fun _ _ _=>S.Cy) (fun _ _ _=>(S.Bv (Ks K rfl) rfl z_max PyProof.Rows.boot_max (S.Aa (S.pv 0) S.Ab)))) S.Ab) S.Ad))),?_⟩
  contradiction
  refine⟨⟨_,hf.it⟩,fun p hp=>Et (es:=fs) (inj:=(·.1)) (fun e=> .int (mx e.2.1)) (Nat.le_trans (Nat.le_of_lt hl) (by decide)) hp (Fz hf.it) ?_ ?_⟩
  . intro e H2 R he s2 hR
    obtain⟨⟨b,d,eb,hb,hd⟩,ln⟩:=(hf.al e he).mono s2
    rw [eb]
    refine Bo hb ?_
    contradiction
    have ne:e.2.1≠ []:=fun z=>by rw [z]at ln;simp at ln
    refine⟨d,e.2.1,rfl,.inr (.of hd),ne,fun M h1 h2=> ?_⟩
    obtain⟨m1,m2⟩:=Le e.2.1 ne
    have:M=mx e.2.1:=Int.le_antisymm (m2 M h1) (h2 _ m1)
    rw [this]
    exact hR _ (Same.refl _)
  intro H2 s2 h2
  have em:fs.map (fun e=>V.int (mx e.2.1))=(fs.map fun e=>mx e.2.1).map V.int:=by rw [List.map_map];rfl
  rw [em]at h2
  try contradiction
  have nz:∀e∈fs,e.2.1≠ []:=fun e he z=>by
    have:=(hf.al e he).ln
    rw [z]at this
    simp at this
  refine⟨p,_,rfl,.of h2,fun z=> ?_,fun z M hM hB=> ?_⟩
  . have z':fs=[]:=List.map_eq_nil_iff.mp z
    exact k 0 H2 s2 ⟨by simp [z'],fun _=>rfl,fun n=>absurd z' n⟩
  . refine k M H2 s2 ⟨fun e he x hx=>Int.le_trans ((Le _ (nz e he)).2 x hx) (hB _ (List.mem_map.mpr ⟨e,he,rfl⟩)),fun n=>absurd (by rw [n];rfl) z,fun _=> ?_⟩
    obtain⟨e,he,ee⟩:=List.mem_map.mp hM
    exact⟨e,he,by rw [<-ee];exact(Le _ (nz e he)).1⟩
def Pk (K:PySem.W.Frag) (H:Hp) (v:V) (e:Int × Int):Prop:=∃a,v= .ref a/\SqT K H a [.int e.1,.int e.2]
theorem Pk.mono {H H':Hp}{v:V}{e:Int × Int} (h:Pk K H v e) (s:Same H H'):Pk K H' v e:=by
  obtain⟨a,e1,e2⟩:=h
  exact⟨a,e1,s.tup e2⟩
theorem Zk {f a:Addr}{H:Hp}{zs ys xs:List V} (h:SqT K H a xs) (hf:H f=some (.lst zs)):SqT K (upd H f (.lst ys)) a xs:=by
  rcases h with(e | ⟨o,e⟩) | h
  . exact .inl (.inl (by rw [Av (Fi e hf (fun z=>nomatch z))];exact e))
  . exact .inl (.inr ⟨o,by rw [Av (Fi e hf (fun z=>nomatch z))];exact e⟩)
  . exact .inr h
theorem Pk.put {f:Addr}{H:Hp}{zs ys:List V}{v:V}{e:Int × Int} (h:Pk K H v e) (hf:H f=some (.lst zs)):Pk K (upd H f (.lst ys)) v e:=by
  obtain⟨a,e1,e2⟩:=h
  exact⟨a,e1,Zk e2 hf⟩
def M8 (K:PySem.W.Frag):Sp:=fun vs H Q _=>∃(a:Addr) (fs:List (V × (List Int × Int))) (b:Int),vs=[.ref a,.int b]/\Frm K H a fs/\fs.length<64/\0<=b/\b<=100/\(∀e∈fs,∀x∈e.2.1,0<=x/\x<=40)/\
  ∀l H' (gs:List (V × (Int × Int))),Same H H'->H' l=some (.lst (gs.map (·.1)))->(∀e∈gs,Pk K H' e.1 e.2)->gs.map (·.2)=fs.map (fun e=>(pk b e.2.1,e.2.2))->Q (.ref l) H'
theorem Uc {f:Addr}{fd:FuncData} (F:Df K mg "packed" Ij ["f","base"] f fd)    :Cal P w K mg base 1 "packed" ["f","base"] (M8 K):=by
  refine F.cal (F.fn.ok R0 (fun vs H Q E h=> ?_) (fun cdv A outer s H vs Q E hr h=> ?_))
  . obtain⟨a,fs,b,rfl,_⟩:=h
    rfl
  obtain⟨a,fs,b,rfl,hf,hl,b0,b1,hb,k⟩:=h
  refine S.Bf ⟨_,(S.Af (S.Ao (S.Cj (ts:=["powers","weight"]) (fs:=[(1,"base")]) rfl (Ay.of (sc:=Ag Ij) (N:=["f","base"]) rfl rfl (by decide+kernel)) (S.Dn (S.pv 0)) (fun _ _ _=>(S.Di K 2 rfl rfl (S.Ai (S.Ah (i:=0) (show List.Nodup (["powers","weight","base"]:List Str)by decide+kernel) rfl (Or.inl rfl) (hf:=Or.inr rfl)) (S.Ai (S.Ah (i:=1) (show List.Nodup (["powers","weight","base"]:List Str)by decide+kernel) rfl (Or.inl rfl) (hf:=Or.inr rfl)) S.Bb)))) (fun _ _ _=>S.Cy) (fun _ _ _=>(S.Bu (S.Aa (S.Aj Bc (S.Aj Bh (S.Aj Bc (S.Aj Bh (S.Bj (Fb K) (S.pv 0) S.Ad (fun _ _=>rfl)) (S.pv 2)) (S.Bj (Fb K) (S.pv 0) S.Ad (fun _ _=>rfl))) (S.pv 2)) (S.Bj (Fb K) (S.pv 0) S.Ad (fun _ _=>rfl))) (S.Aa (S.pv 1) S.Ab))))))),?_⟩
  contradiction
  refine⟨⟨_,hf.it⟩,fun p hp=>Ik (es:=fs) (inj:=fun e=>e.1) (fun e v H=>Pk K H v (pk b e.2.1,e.2.2)) (fun e v H H' h s=>h.mono s) (fun e v H ys zs h hp=>h.put hp) (Nat.le_trans (Nat.le_of_lt hl) (by decide)) hp (Fz hf.it) ?_ ?_⟩
  . intro e H2 R he s2 hR
    obtain⟨⟨c,d,eb,hc,hd⟩,ln⟩:=(hf.al e he).mono s2
    have lo:=hb e he
    obtain⟨⟨i,j,m,ek⟩⟩:Nonempty (∃i j m,e.2.1=[i,j,m]):=by
      match h:e.2.1,ln with
      | [i,j,m],_=>exact⟨i,j,m,rfl⟩
    rw [ek]at hd hR lo
    have hi:=lo i (by simp)
    rw [eb]
    refine Bo hc ?_
    contradiction
    refine Bw (.of hd) (v:= .int i) rfl ?_
    try contradiction
    refine⟨.of_left (Q0 (by omega)),Bw (.of hd) (v:= .int j) rfl ?_⟩
    try contradiction
    refine⟨.of_right (Q0 (by omega)),Bw (.of hd) (v:= .int m) rfl ?_⟩
    try contradiction
    exact fun p2 hp2=>hR _ _ (Same.upd hp2 _) ⟨p2,rfl,.of Ae⟩
  intro H2 vs s2 h2 hv hr2
  refine k p H2 (vs.map fun x=>(x.1,(pk b x.2.2.1,x.2.2.2))) s2 ?_ (fun e he=> ?_) ?_
  . rw [List.map_map]
    exact h2
  . obtain⟨x,hx,rfl⟩:=List.mem_map.mp he
    exact hr2 x hx
  . rw [<-hv,List.map_map,List.map_map]
    rfl
theorem Vq {b u v k n:Int} (hk:0<=k/\k<b) (hn:0<=n/\n<b):(u*b+k<v*b+n)=(u<v\/(u=v/\k<n)):=by
  refine propext ⟨fun h=> ?_,fun h=> ?_⟩
  . by_cases e:u=v
    . subst e
      exact .inr ⟨rfl,by omega⟩
    . refine .inl (Int.not_le.mp fun z=> ?_)
      have z1:v+1<=u:=by omega
      have:=Int.mul_le_mul_of_nonneg_right z1 (show 0<=b by omega)
      rw [Int.add_mul,Int.one_mul]at this
      omega
  . rcases h with h | ⟨rfl,h⟩
    . have z1:u+1<=v:=by omega
      have:=Int.mul_le_mul_of_nonneg_right z1 (show 0<=b by omega)
      rw [Int.add_mul,Int.one_mul]at this
      omega
    . omega
theorem Abw {b i j k l m n:Int} (hj:0<=j/\j<b) (hk:0<=k/\k<b) (hm:0<=m/\m<b) (hn:0<=n/\n<b):HT.lexLt [i,j,k] [l,m,n]=decide (pk b [i,j,k]<pk b [l,m,n]):=by
  have e:(pk b [i,j,k]<pk b [l,m,n])=(i*b+j<l*b+m\/(i*b+j=l*b+m/\k<n)):=Vq (u:=i*b+j) (v:=l*b+m) hk hn
  have e2:(i*b+j<l*b+m)=(i<l\/(i=l/\j<m)):=Vq hj hm
  rw [HT.Cd,HT.Cd,HT.Cd]
  by_cases h1:i=l
  . subst h1
    rw [if_pos rfl]
    by_cases h2:j=m
    . subst h2
      rw [if_pos rfl]
      by_cases h3:k=n
      . rw [if_pos h3]
        refine(decide_eq_false ?_).symm
        rw [e]
        omega
      . rw [if_neg h3]
        refine decide_eq_decide.mpr ?_
        rw [e]
        omega
    . rw [if_neg h2]
      refine decide_eq_decide.mpr ?_
      rw [e,e2]
      constructor
      . exact fun h=> .inl (.inr ⟨rfl,h⟩)
      . rintro((h | ⟨_,h⟩) | ⟨h,_⟩)
        . omega
        . exact h
        . omega
  . rw [if_neg h1]
    refine decide_eq_decide.mpr ?_
    rw [e,e2]
    constructor
    . exact fun h=> .inl (.inl h)
    . rintro((h | ⟨h,_⟩) | ⟨h,_⟩)
      . exact h
      . exact absurd h h1
      . exfalso
        have:=congrArg (· /b) h
        have b0:b≠0:=by omega
        simp only [Int.add_comm _ j,Int.add_comm _ m,Int.add_mul_ediv_right _ _ b0,Int.ediv_eq_zero_of_lt hj.1 hj.2,Int.ediv_eq_zero_of_lt hm.1 hm.2]at this
        omega
theorem Aa0 {b i j k:Int} (hj:0<=j/\j<b) (hk:0<=k/\k<b):pk b [i,j,k]/b/b=i/\pk b [i,j,k]/b%b=j/\pk b [i,j,k]%b=k:=by
  have b0:b≠0:=by omega
  have e1:pk b [i,j,k]/b=i*b+j:=by
    show((i*b+j)*b+k)/b=_
    rw [Int.add_comm,Int.add_mul_ediv_right _ _ b0,Int.ediv_eq_zero_of_lt hk.1 hk.2,Int.zero_add]
  rw [e1]
  refine⟨?_,?_,?_⟩
  . rw [Int.add_comm,Int.add_mul_ediv_right _ _ b0,Int.ediv_eq_zero_of_lt hj.1 hj.2,Int.zero_add]
  . rw [Int.add_comm,Int.add_mul_emod_self_right,Int.emod_eq_of_lt hj.1 hj.2]
  . show((i*b+j)*b+k)%b=k
    rw [Int.add_comm,Int.add_mul_emod_self_right,Int.emod_eq_of_lt hk.1 hk.2]
def Jv:List (Int × Int)->Int->Int
  | [],_=>0
  | e::r,k=>(if e.1=k then e.2 else 0)+Jv r k
theorem Pg (a b:List (Int × Int)) (k:Int):Jv (a++b) k=Jv a k+Jv b k:=by
  induction a with
  | nil=>show Jv b k=0+Jv b k;omega
  | cons e r ih=>
    show _+Jv (r++b) k=(_+Jv r k)+Jv b k
    rw [ih]
    omega
def Rg (b:Int) (ks:List Int):Prop:=∃i j k,ks=[i,j,k]/\(0<=i/\i<b)/\(0<=j/\j<b)/\0<=k/\k<b
theorem Rg.inj {b:Int}{x y:List Int} (hx:Rg b x) (hy:Rg b y) (h:pk b x=pk b y):x=y:=by
  obtain⟨i,j,k,rfl,_,h1,h2⟩:=hx
  obtain⟨l,m,n,rfl,_,h3,h4⟩:=hy
  obtain⟨rfl,rfl,rfl⟩:=Abb h1 h2 h3 h4 h
  rfl
def R9 (b p:Int):List Int:=[p/b/b,p/b%b,p%b]
theorem Rg.back {b:Int}{x:List Int} (hx:Rg b x):R9 b (pk b x)=x:=by
  obtain⟨i,j,k,rfl,_,h1,h2⟩:=hx
  obtain⟨e1,e2,e3⟩:=Aa0 (i:=i) h1 h2
  unfold R9
  rw [e1,e2,e3]
theorem Rg.lex {b:Int}{x y:List Int} (hx:Rg b x) (hy:Rg b y) (h:pk b x<pk b y):HT.lexLt x y=true:=by
  obtain⟨i,j,k,rfl,_,h1,h2⟩:=hx
  obtain⟨l,m,n,rfl,_,h3,h4⟩:=hy
  rw [Abw h1 h2 h3 h4]
  exact decide_eq_true h
theorem Nj {b:Int}{q:List Int} (hq:Rg b q):∀ {P:List (List Int × Int)},(∀e∈P,Rg b e.1)->Jv (P.map fun e=>(pk b e.1,e.2)) (pk b q)=Aw P q
  | [],_=>rfl
  | e::r,h=>by
    show(if pk b e.1=pk b q then e.2 else 0)+Jv (r.map fun e=>(pk b e.1,e.2)) (pk b q)=(if e.1=q then e.2 else 0)+Aw r q
    rw [Nj hq fun x hx=>h x (.tail _ hx)]
    by_cases z:e.1=q
    . rw [if_pos z,if_pos (by rw [z])]
    . rw [if_neg z,if_neg fun y=>z ((h e (.head _)).inj hq y)]
structure SuN (kvs:List (Key × V)) (ks:List Int) (ts:List (Int × Int)):Prop where
  ky:kvs.map (·.1)=ks.map Sum.inl
  nd:ks.Nodup
  le:ks.length<=ts.length
  mem:∀i∈ks,∃e∈ts,e.1=i
  vl:∀k,Dt kvs (.inl k)=some (.int (Jv ts k))/\k∈ks\/(Dt kvs (.inl k)=none/\Jv ts k=0/\¬k∈ks)
theorem Vy (T:List Int->Int) (k:List Int) (us:List (List Int)) (h:us.Nodup):Aw ((us.filter fun t=>decide (T t≠0)).map fun t=>(t,T t)) k=if k∈us then T k else 0:=by
  have e:=Hz T k (us.map fun u=>((0,u):Tpt)) (by rw [List.map_map];exact(List.map_id us).symm▸h)
  have e1:(us.map fun u=>((0,u):Tpt)).map (fun t=>t.2)=us:=by rw [List.map_map];exact List.map_id us
  rw [e1,List.filter_map,List.map_map]at e
  exact e
theorem Aeo {b:Int} (b0:0<b) (b1:b<=100):b.natAbs.log2<9000:=by
  have:b.natAbs.log2<=b.natAbs:=Nat.log2_le_self _
  omega
def Jq (K:PySem.W.Frag):Sp:=fun vs H Q _=>∃(d:Addr) (b:Int) (kvs:List (Key × V)) (ks:List Int) (P:List (List Int × Int)),vs=[.ref d,.int b]/\H d=some (.dK kvs)/\0<b/\b<=100/\(∀e∈P,Rg b e.1)/\SuN kvs ks (P.map fun e=>(pk b e.1,e.2))/\P.length<64/\
  ∀z H' fs,Same H H'->Frm K H' z fs->(∀q,Aw (fs.map (·.2)) q=Aw P q)->Q (.ref z) H'
structure Unp (K:PySem.W.Frag) (H H':Hp) (f:Addr) (es:List (V × (List Int × Int))) (ts:List (List Int × Int)):Prop where
  sm:Same H H'
  it:H' f=some (.lst (es.map (·.1)))
  al:∀e∈es,Te K H' e.1 e.2
  eq:es.map (·.2)=ts
theorem Oh {f:Addr}{fd:FuncData} (F:Df K mg "unpacked" Hf ["sums","base"] f fd) (z_sorted:mg "sorted"=none) (z_tuple:mg "tuple"=none) (z_divmod:mg "divmod"=none)   :Cal P w K mg base 1 "unpacked" ["sums","base"] (Jq K):=by
  refine F.cal (F.fn.ok Dl (fun vs H Q E h=> ?_) (fun cdv A outer s H vs Q E hr h=> ?_))
  . obtain⟨d,b,kvs,ks,P,rfl,_⟩:=h
    rfl
  obtain⟨d,b,kvs,ks,P,rfl,hd,b0,b1,hP,si,h64,k⟩:=h
  have kl:ks.length<64:=by
    have l1:=si.le
    rw [List.length_map]at l1
    omega
  refine S.Bf ⟨_,(S.Ac (S.Ak (i:=2) Dl.nd rfl (Or.inl rfl) (S.Em S.Ab))
      (S.Ac (S.Bt PassesOwn.never rfl (S.Eu (S.Bv (Q7 rfl) rfl z_sorted PyProof.Rows.boot_sorted (S.Aa (S.pv 0) S.Ab))) (S.Ah (i:=3) Dl.nd rfl (Or.inl rfl)) (S.Af (S.Dp (S.Al Jy (S.Eb (hu1 hr.units) (S.pv 0) (S.pv 3) (fun _ _=>rfl)) S.Ad (Ax _)) (S.Ac (S.Fw (S.Bv Ou rfl z_divmod PyProof.Rows.boot_divmod (S.Aa (S.pv 3) (S.Aa (S.pv 1) S.Ab))) (S.Cq rfl (S.Ai (S.Ah (i:=4) Dl.nd rfl (Or.inl rfl)) (S.Ai (S.Ah (i:=5) Dl.nd rfl (Or.inl rfl)) S.Bb))))
      (S.Af (S.Ep (S.G4 PySem.F.plainAttrs_list PySem.F.slot_list_append PySem.F.type_list_append Dq (S.pv 2) (S.Aa (S.Bu (S.Aa (S.Bu (S.Aa (S.Aj Ed (S.pv 4) (S.pv 1)) (S.Aa (S.Aj Fj (S.pv 4) (S.pv 1)) (S.Aa (S.pv 5) S.Ab)))) (S.Aa (S.Eb (hu1 hr.units) (S.pv 0) (S.pv 3) (fun _ _=>rfl)) S.Ab))) S.Ab))))) S.Bd)))
      (S.Af (S.Ao (S.Ej Cv rfl z_tuple PyProof.Rows.boot_tuple (S.Aa (S.pv 2) S.Ab)))))),?_⟩
  contradiction
  refine⟨by decide,fun f hf=> ?_⟩
  have s1:=Same.upd hf (.lst [])
  refine⟨d,kvs,ks,rfl,s1 _ _ hd,si.ky,kl,fun l ms hl hpm hpw=> ?_⟩
  have s2:=Same.upd hl (.lst (ms.map V.int))
  have g2:upd (upd H f (.lst [])) l (.lst (ms.map V.int)) l=some (.lst (ms.map V.int)):=Ae
  have f2:=s2 _ _ (Ae:upd H f (.lst []) f=some (.lst []))
  have nf:l≠f:=Ne.symm (Ar (Ae:upd H f (.lst []) f=some (.lst [])) hl)
  have s12:=s1.trans s2
  generalize upd (upd H f (.lst [])) l (.lst (ms.map V.int))=H2 at s2 g2 f2 s12
  clear s2 s1 hl
  have rg:∀p∈ms,∃e∈P,pk b e.1=p:=fun p hp=>by
    obtain⟨e,he,ee⟩:=si.mem p (hpm.mem_iff.mp hp)
    obtain⟨e',he',rfl⟩:=List.mem_map.mp he
    exact⟨e',he',ee⟩
  refine⟨⟨_,.of g2⟩,Jt (es:=ms) (inj:=V.int) (fun pre σ' H'=>∃(es:List (V × (List Int × Int))) (o3 o4 o5:Option V),σ'=[some (.ref d),some (.int b),some (.ref f),o3,o4,o5]/\H' l=some (.lst (ms.map V.int))/\Unp K H H' f es (((pre.map (R9 b)).filter fun q=>decide (Aw P q≠0)).map fun q=>(q,Aw P q))) ⟨[],_,_,_,rfl,g2,⟨s12,f2,by simp,rfl⟩⟩ ?_ ?_ ?_⟩
  . rintro pre σ' H' ⟨es,o3,o4,o5,rfl,hl',un⟩
    exact Ez (.of hl')
  . rintro pre p post σ' H' hE ⟨es,o3,o4,o5,rfl,hl',un⟩
    have hm:p∈ms:=by rw [hE];simp
    obtain⟨e,he,ep⟩:=rg p hm
    have re:=hP e he
    have eb:R9 b p=e.1:=by rw [<-ep];exact re.back
    have vp:Dt kvs (.inl p)=some (.int (Aw P e.1)):=by
      rcases si.vl p with⟨h,_⟩ | ⟨_,_,h⟩
      . rw [h,<-ep,Nj re hP]
      . exact absurd (hpm.mem_iff.mp hm) h
    have dg:∀ {H3},Same H H3->Km H3 d (.int p) (some (.int (Aw P e.1))):=fun s=>Xd (s _ _ hd) vp
    have ex:((pre++ [p]).map (R9 b)).filter (fun q=>decide (Aw P q≠0))=(pre.map (R9 b)).filter (fun q=>decide (Aw P q≠0))++(if Aw P e.1=0 then []else [e.1]):=by
      rw [List.map_append,List.filter_append,List.map_cons,List.map_nil,eb]
      by_cases w0:Aw P e.1=0
      . rw [if_pos w0,List.filter_cons_of_neg (by simp [w0])]
        rfl
      . rw [if_neg w0,List.filter_cons_of_pos (by simp [w0])]
        rfl
    rw [ex,List.map_append]
    contradiction
    refine⟨d,_,rfl,dg un.sm,?_⟩
    try contradiction
    by_cases w0:Aw P e.1=0
    . rw [if_pos w0,if_pos w0]
      exact⟨es,_,_,_,rfl,hl',by rw [List.map_nil,List.append_nil];exact un⟩
    . rw [if_neg w0,if_neg w0]
      refine⟨⟨b0,by omega⟩,fun c hc=>Bo (.of Ae) ?_⟩
      have s3:=Same.upd hc (.tup [V.int (p/b),V.int (p%b)])
      generalize upd H' c (.tup [V.int (p/b),V.int (p%b)])=H3 at s3
      contradiction
      refine⟨.inl ⟨rfl,_,.of (s3 _ _ un.it)⟩,⟨b0,Aeo b0 b1⟩,b0,by decide,fun c2 hc2=> ?_⟩
      have s4:=Same.upd hc2 (.tup [V.int (p/b/b),V.int (p/b%b),V.int (p%b)])
      have g4:upd H3 c2 (.tup [V.int (p/b/b),V.int (p/b%b),V.int (p%b)]) c2=some (.tup ((R9 b p).map V.int)):=Ae
      generalize upd H3 c2 (.tup [V.int (p/b/b),V.int (p/b%b),V.int (p%b)])=H4 at s4 g4
      have s14:=(un.sm.trans s3).trans s4
      refine⟨d,_,rfl,dg s14,fun c3 hc3=> ?_⟩
      have s5:=Same.upd hc3 (.tup [V.ref c2,V.int (Aw P e.1)])
      have g5:upd H4 c3 (.tup [V.ref c2,V.int (Aw P e.1)]) c3=some (.tup [V.ref c2,V.int (Aw P e.1)]):=Ae
      generalize upd H4 c3 (.tup [V.ref c2,V.int (Aw P e.1)])=H5 at s5 g5
      have s35:=(s3.trans s4).trans s5
      have f5:=s35 _ _ un.it
      rw [eb]at g4
      have tn:Te K H5 (.ref c3) (e.1,Aw P e.1):=⟨⟨c3,c2,rfl,.of g5,s5 _ _ g4⟩,by obtain⟨i,j,m,e3,_⟩:=re;rw [e3];rfl⟩
      refine⟨f,_,_,rfl,rfl,f5,?_,es++ [(.ref c3,(e.1,Aw P e.1))],_,_,_,rfl,?_,⟨?_,?_,fun t ht=> ?_,?_⟩⟩
      . rw [List.length_map]
        have l1:=congrArg List.length un.eq
        rw [List.length_map,List.length_map]at l1
        have l2:=List.length_filter_le (fun q=>decide (Aw P q≠0)) (pre.map (R9 b))
        rw [List.length_map]at l2
        have l3:=congrArg List.length hE
        rw [List.length_append]at l3
        have l4:=hpm.length_eq
        exact Nat.lt_of_lt_of_le (show es.length<64 by omega) (by decide)
      . rw [Av nf]
        exact s35 _ _ hl'
      . exact(un.sm.trans s35).put hf
      . rw [Ae,List.map_append]
        rfl
      . rcases List.mem_append.mp ht with ht | ht
        . exact((un.al t ht).mono s35).put f5
        . have e:t=(.ref c3,(e.1,Aw P e.1)):=by simpa using ht
          rw [e]
          exact tn.put f5
      . rw [List.map_append,un.eq]
        rfl
  rintro σ' H' ⟨es,o3,o4,o5,rfl,hl',un⟩
  contradiction
  refine⟨f,_,rfl,.inl ⟨.of un.it,fun z hz=> ?_⟩⟩
  have sz:=Same.upd hz (.tup (es.map (·.1)))
  have rm:∀p∈ms,Rg b (R9 b p)/\pk b (R9 b p)=p:=fun p hp=>by
    obtain⟨e,he,rfl⟩:=rg p hp
    rw [(hP e he).back]
    exact⟨hP e he,rfl⟩
  have ndm:ms.Nodup:=hpm.nodup_iff.mpr si.nd
  have ltm:ms.Pairwise (· < ·):=by
    refine(List.pairwise_and_iff.mpr ⟨hpw,ndm⟩).imp fun h=> ?_
    omega
  have upm:(ms.map (R9 b)).Pairwise fun x y=>HT.lexLt x y=true:=by
    refine List.pairwise_map.mpr (List.Pairwise.imp_of_mem (fun {x y} hx hy h=> ?_) ltm)
    refine(rm x hx).1.lex (rm y hy).1 ?_
    rw [(rm x hx).2,(rm y hy).2]
    exact h
  refine k z _ es (un.sm.trans sz) ⟨.of Ae,fun e he=>(un.al e he).mono sz,?_,fun e he=> ?_⟩ (fun q=> ?_)
  . rw [un.eq]
    exact List.pairwise_map.mpr (upm.sublist List.filter_sublist)
  . have hm:e.2∈es.map (·.2):=List.mem_map.mpr ⟨e,he,rfl⟩
    rw [un.eq]at hm
    obtain⟨q,hq,eq⟩:=List.mem_map.mp hm
    rw [<-eq]
    simpa using(List.mem_filter.mp hq).2
  . rw [un.eq,Vy (Aw P) q _ (upm.imp fun h=>J4 h)]
    split
    . rfl
    . rename_i hq
      by_cases rq:Rg b q
      . rcases si.vl (pk b q)with⟨_,h⟩ | ⟨_,h0,_⟩
        . exact absurd (List.mem_map.mpr ⟨pk b q,hpm.mem_iff.mpr h,rq.back⟩) hq
        . rw [Nj rq hP]at h0
          exact h0.symm
      . exact(Eo fun e he ee=>rq (by rw [<-ee];exact hP e he)).symm
theorem Ru {kvs:List (Key × V)}{k:Key}{v w:V} (h:Dt kvs k=some w):(putK kvs k v).map (·.1)=kvs.map (·.1):=by
  unfold putK
  rw [Dj,h,Option.isSome_some,if_pos rfl,List.map_map]
  refine List.map_congr_left fun p _=> ?_
  show(if p.1=k then(p.1,v)else p).1=p.1
  split<;>rfl
theorem SuN.put {kvs:List (Key × V)}{ks:List Int}{ts:List (Int × Int)} (h:SuN kvs ks ts) (k w:Int):∃ks',SuN (putK kvs (.inl k) (.int (Jv ts k+w))) ks' (ts++ [(k,w)]):=by
  have tk:Jv (ts++ [(k,w)]) k=Jv ts k+w:=by
    rw [Pg]
    show Jv ts k+((if k=k then w else 0)+0)=_
    rw [if_pos rfl,Int.add_zero]
  have tn:∀i,i≠k->Jv (ts++ [(k,w)]) i=Jv ts i:=fun i n=>by
    rw [Pg]
    show Jv ts i+((if k=i then w else 0)+0)=_
    rw [if_neg (Ne.symm n),Int.add_zero,Int.add_zero]
  rcases h.vl k with⟨e,m⟩ | ⟨e,z,m⟩
  . refine⟨ks,by rw [Ru e];exact h.ky,h.nd,by rw [List.length_append];exact Nat.le_add_right_of_le h.le,fun i hi=> ?_,fun i=> ?_⟩
    . obtain⟨x,hx,rfl⟩:=h.mem i hi
      exact⟨x,List.mem_append_left _ hx,rfl⟩
    . rw [Ie]
      by_cases hi:i=k
      . subst hi
        rw [if_pos rfl,tk]
        exact .inl ⟨rfl,m⟩
      . rw [if_neg fun z=>hi (Sum.inl.inj z),tn i hi]
        exact h.vl i
  . refine⟨ks++ [k],?_,Ox h.nd m,by rw [List.length_append,List.length_append];exact Nat.add_le_add_right h.le 1,fun i hi=> ?_,fun i=> ?_⟩
    . rw [Ph _ e,List.map_append,List.map_append,h.ky]
      rfl
    . rcases List.mem_append.mp hi with hi | hi
      . obtain⟨x,hx,rfl⟩:=h.mem i hi
        exact⟨x,List.mem_append_left _ hx,rfl⟩
      . have:i=k:=by simpa using hi
        exact⟨(k,w),by simp,this.symm⟩
    . rw [Ie]
      by_cases hi:i=k
      . subst hi
        rw [if_pos rfl,tk]
        exact .inl ⟨rfl,by simp⟩
      . rw [if_neg fun z=>hi (Sum.inl.inj z),tn i hi]
        rcases h.vl i with⟨a,b⟩ | ⟨a,b,c⟩
        . exact .inl ⟨a,List.mem_append_left _ b⟩
        . refine .inr ⟨a,b,fun z=> ?_⟩
          rcases List.mem_append.mp z with z | z
          . exact c z
          . exact hi (by simpa using z)
structure Sud (H H':Hp) (d:Addr) (kvs:List (Key × V)) (ks:List Int) (ts:List (Int × Int)):Prop where
  kp:∀b u,b≠d->H b=some u->H' b=some u
  it:H' d=some (.dK kvs)
  su:SuN kvs ks ts
theorem Sud.put {H H':Hp}{d:Addr}{kvs:List (Key × V)}{ks:List Int}{ts:List (Int × Int)} (h:Sud H H' d kvs ks ts) (k w:Int):∃kvs' ks',Sud H (upd H' d (.dK (putK kvs (.inl k) (.int (Jv ts k+w))))) d kvs' ks' (ts++ [(k,w)]):=by
  obtain⟨ks',s⟩:=h.su.put k w
  exact⟨_,ks',fun b u n e=>by rw [Av n];exact h.kp b u n e,Ae,s⟩
theorem Pk.kd {H H':Hp}{d:Addr}{kv:List (Key × V)}{v:V}{e:Int × Int} (h:Pk K H v e) (kp:∀b u,b≠d->H b=some u->H' b=some u) (hd:H d=some (.dK kv)):Pk K H' v e:=by
  obtain⟨a,e1,e2⟩:=h
  refine⟨a,e1,?_⟩
  rcases e2 with(e | ⟨o,e⟩) | h
  . exact .inl (.inl (kp _ _ (Fi e hd (fun z=>nomatch z)) e))
  . exact .inl (.inr ⟨o,kp _ _ (Fi e hd (fun z=>nomatch z)) e⟩)
  . exact .inr h
def S9 (x:Int × Int) (g:List (Int × Int)):List (Int × Int):=g.map fun y=>(x.1+y.1,x.2*y.2)
def Gu (f g:List (Int × Int)):List (Int × Int):=f.flatMap fun x=>S9 x g
theorem Jl (g:List (Int × Int)):∀f,(Gu f g).length=f.length*g.length
  | []=>by simp [Gu]
  | x::r=>by
    show(S9 x g++Gu r g).length=_
    rw [List.length_append,Jl g r,List.length_cons,Nat.succ_mul,Nat.add_comm]
    simp [S9]
theorem Qw (f g:List (Int × Int)) (x:Int × Int):Gu (f++ [x]) g=Gu f g++S9 x g:=by
  unfold Gu
  rw [List.flatMap_append]
  simp
theorem Aa8 {b:Int}{x y:List Int} (hx:x.length=3) (hy:y.length=3):pk b (Xj x y)=pk b x+pk b y:=by
  match x,hx,y,hy with
  | [i,j,k],_,[l,m,n],_=>
    show((i+l)*b+(j+m))*b+(k+n)=((i*b+j)*b+k)+((l*b+m)*b+n)
    grind
def pkE (b:Int) (e:List Int × Int):Int × Int:=(pk b e.1,e.2)
theorem U3 {b:Int}{G:List (List Int × Int)} (hG:∀e∈G,e.1.length=3):∀ {F:List (List Int × Int)},(∀e∈F,e.1.length=3)->(Fv F G).map (fun e=>(pk b e.1,e.2))=Gu (F.map (pkE b)) (G.map (pkE b))
  | [],_=>rfl
  | x::r,hF=>by
    show((G.map fun y=>(Xj x.1 y.1,x.2*y.2))++Fv r G).map (fun e=>(pk b e.1,e.2))=S9 (pkE b x) (G.map (pkE b))++Gu (r.map (pkE b)) (G.map (pkE b))
    rw [List.map_append,U3 hG fun e he=>hF e (.tail _ he)]
    congr 1
    unfold S9
    rw [List.map_map,List.map_map]
    refine List.map_congr_left fun y hy=> ?_
    show(pk b (Xj x.1 y.1),x.2*y.2)=(pk b x.1+pk b y.1,x.2*y.2)
    rw [Aa8 (hF x (.head _)) (hG y hy)]
def Kr (K:PySem.W.Frag):Sp:=fun vs H Q _=>∃(a c:Addr) (fs gs:List (V × (List Int × Int))) (n:Nat),vs=[.ref a,.ref c]/\Frm K H a fs/\Frm K H c gs/\fs.length<64/\gs.length<64/\fs.length*gs.length<64/\n<=1000/\(∀e∈fs,Sz n e.2.2)/\(∀e∈gs,Sz n e.2.2)/\(∀e∈fs,∀x∈e.2.1,0<=x/\x<=40)/\(∀e∈gs,∀x∈e.2.1,0<=x/\x<=40)/\
  ∀z H' hs,Same H H'->Frm K H' z hs->(∀q,Aw (hs.map (·.2)) q=Aw (Fv (fs.map (·.2)) (gs.map (·.2))) q)->Q (.ref z) H'
theorem Gst.bd {fs:List (V × (List Int × Int))}{M:Int} (h:Gst fs M) (hb:∀e∈fs,∀x∈e.2.1,0<=x/\x<=40):0<=M/\M<=40:=by
  by_cases z:fs=[]
  . have:=h.no z
    omega
  . obtain⟨e,he,m⟩:=h.is z
    exact hb e he M m
theorem Q5 {f:Addr}{fd:FuncData} (F:Df K mg "f_times" Jc ["f","g"] f fd)   (c_packed:Cal P w K mg base 1 "packed" ["f","base"] (M8 K)) (c_unpacked:Cal P w K mg base 1 "unpacked" ["sums","base"] (Jq K)) (c_greatest_power:Cal P w K mg base 1 "greatest_power" ["f"] (Dy K)):Cal P w K mg base 2 "f_times" ["f","g"] (Kr K):=by
  refine F.cal (F.fn.ok Cm (fun vs H Q E h=> ?_) (fun cdv A outer s H vs Q E hr h=> ?_))
  . obtain⟨a,c,fs,gs,n,rfl,_⟩:=h
    rfl
  obtain⟨a,c,fs,gs,n,rfl,hf,hg,lf,lg,lfg,hn,zf,zg,bf,bg,k⟩:=h
  refine S.Bf ⟨_,(S.Ac (S.Ak (i:=2) Cm.nd rfl (Or.inl rfl) (S.Aj Bc (S.Aj Bc (S.Am c_greatest_power (hr.mono (by decide)) (S.Aa (S.pv 0) S.Ab)) (S.Am c_greatest_power (hr.mono (by decide)) (S.Aa (S.pv 1) S.Ab))) S.Ad))
      (S.Ac (S.Ak (i:=3) Cm.nd rfl (Or.inl rfl) (S.Am c_packed (hr.mono (by decide)) (S.Aa (S.pv 1) (S.Aa (S.pv 2) S.Ab))))
      (S.Ac (S.Ak (i:=4) Cm.nd rfl (Or.inl rfl) S.Ld)
      (S.Ac (S.Bt PassesOwn.never rfl (S.Eu (S.Am c_packed (hr.mono (by decide)) (S.Aa (S.pv 0) (S.Aa (S.pv 2) S.Ab)))) (S.Cq rfl (S.Ai (S.Ah (i:=5) Cm.nd rfl (Or.inl rfl)) (S.Ai (S.Ah (i:=6) Cm.nd rfl (Or.inl rfl)) S.Bb))) (S.Af (S.Bt PassesOwn.never rfl (S.Eu (S.pv 3)) (S.Cq rfl (S.Ai (S.Ah (i:=7) Cm.nd rfl (Or.inl rfl)) (S.Ai (S.Ah (i:=8) Cm.nd rfl (Or.inl rfl)) S.Bb))) (S.Af (S.G9 (hu1 hr.units) (S.pv 4) (S.Aj Bc (S.pv 5) (S.pv 7)) (S.Aj Bc (S.Gq (hu1 hr.units) (S.pv 4) (S.Aj Bc (S.pv 5) (S.pv 7)) S.Ad ⟨rfl,rfl,rfl,rfl⟩) (S.Aj Bh (S.pv 6) (S.pv 8))) rfl)))))
      (S.Af (S.Ao (S.Am c_unpacked (hr.mono (by decide)) (S.Aa (S.pv 4) (S.Aa (S.pv 2) S.Ab))))))))),?_⟩
  contradiction
  refine⟨a,fs,rfl,hf,lf,fun M H1 s1 gM=> ?_⟩
  refine⟨c,gs,rfl,hg.mono s1,lg,fun N H2 s2 gN=> ?_⟩
  have bM:=gM.bd bf
  have bN:=gN.bd bg
  try contradiction
  have s12:=s1.trans s2
  obtain⟨b,eb⟩:∃b,b=M+N+1:=⟨_,rfl⟩
  rw [<-eb]
  refine⟨c,gs,b,rfl,hg.mono s12,lg,by omega,by omega,bg,fun o H3 go s3 ho ao eo d hd=> ?_⟩
  have s4:=Same.upd hd (.dK [])
  refine⟨a,fs,b,rfl,hf.mono ((s12.trans s3).trans s4),lf,by omega,by omega,bf,fun l H4 gl s5 hl al el=> ?_⟩
  have d4:=s5 _ _ (Ae:upd H3 d (.dK []) d=some (.dK []))
  have s34:=s4.trans s5
  have o4:=s34 _ _ ho
  have ao4:∀e∈go,Pk K H4 e.1 e.2:=fun e he=>(ao e he).mono s34
  have sH:Same H H3:=s12.trans s3
  have nd:H d=none:=by
    cases e:H d with
    | none=>rfl
    | some u=>rw [sH _ _ e]at hd;cases hd
  generalize upd H3 d (.dK [])=HD at s4 s5 s34
  clear s5 s4 ao ho
  have lgl:gl.length=fs.length:=by simpa using congrArg List.length el
  have lgo:go.length=gs.length:=by simpa using congrArg List.length eo
  refine⟨l,rfl,⟨_,.of hl⟩,Jt (es:=gl) (inj:=(·.1)) (fun pre σ' H'=>∃(kvs:List (Key × V)) (ks:List Int) (o5 o6 o7 o8:Option V),σ'=[some (.ref a),some (.ref c),some (.int b),some (.ref o),some (.ref d),o5,o6,o7,o8]/\Sud H4 H' d kvs ks (Gu (pre.map (·.2)) (go.map (·.2)))) ⟨[],[],_,_,_,_,rfl,⟨fun _ _ _ e=>e,d4,⟨rfl,.nil,Nat.le_refl _,by simp,fun _=> .inr ⟨rfl,rfl,by simp⟩⟩⟩⟩ ?_ ?_ ?_⟩
  . rintro pre σ' H' ⟨kvs,ks,o5,o6,o7,o8,rfl,si⟩
    exact Ez (.of (si.kp _ _ (Fi hl d4 (fun z=>nomatch z)) hl))
  . rintro pre e post σ' H' hE ⟨kvs,ks,o5,o6,o7,o8,rfl,si⟩
    have hm:e∈gl:=by rw [hE];simp
    obtain⟨p,ep,hp⟩:=(al e hm).kd si.kp d4
    rw [ep]
    refine Bo hp ?_
    contradiction
    refine⟨⟨_,.of (si.kp _ _ (Fi o4 d4 (fun z=>nomatch z)) o4)⟩,Jt (es:=go) (inj:=(·.1)) (fun pre2 σ' H'=>∃(kvs:List (Key × V)) (ks:List Int) (o7 o8:Option V),σ'=[some (.ref a),some (.ref c),some (.int b),some (.ref o),some (.ref d),some (.int e.2.1),some (.int e.2.2),o7,o8]/\Sud H4 H' d kvs ks (Gu (pre.map (·.2)) (go.map (·.2))++S9 e.2 (pre2.map (·.2)))) ⟨kvs,ks,_,_,rfl,by
      show Sud _ _ _ _ _ (_++ [])
      rw [List.append_nil]
      exact si⟩ ?_ ?_ ?_⟩
    . rintro pre2 σ' H5 ⟨kvs,ks,o7,o8,rfl,si⟩
      exact Ez (.of (si.kp _ _ (Fi o4 d4 (fun z=>nomatch z)) o4))
    . rintro pre2 x post2 σ' H5 hE2 ⟨kvs,ks,o7,o8,rfl,si⟩
      have hx:x∈go:=by rw [hE2];simp
      obtain⟨q,eq,hq⟩:=(ao4 x hx).kd si.kp d4
      rw [eq]
      refine Bo hq ?_
      contradiction
      obtain⟨ts,ets⟩:∃ts,Gu (pre.map (·.2)) (go.map (·.2))++S9 e.2 (pre2.map (·.2))=ts:=⟨_,rfl⟩
      have ets2:Gu (pre.map (·.2)) (go.map (·.2))++S9 e.2 ((pre2++ [x]).map (·.2))=ts++ [(e.2.1+x.2.1,e.2.2*x.2.2)]:=by
        rw [<-ets,List.append_assoc,List.map_append]
        unfold S9
        rw [List.map_append]
        rfl
      rw [ets2]
      rw [ets]at si
      have lts:ts.length<=gl.length*go.length:=by
        have h1:=congrArg List.length ets
        rw [List.length_append,Jl]at h1
        unfold S9 at h1
        simp only [List.length_map]at h1
        have h2:=congrArg List.length hE
        have h3:=congrArg List.length hE2
        rw [List.length_append,List.length_cons]at h2 h3
        have h4:pre.length*go.length+go.length<=gl.length*go.length:=by
          rw [<-Nat.succ_mul]
          exact Nat.mul_le_mul_right _ (by omega)
        omega
      rw [lgl,lgo]at lts
      have ze:Sz n e.2.2:=by
        have:e.2∈fs.map fun e=>(pk b e.2.1,e.2.2):=by rw [<-el];exact List.mem_map.mpr ⟨e,hm,rfl⟩
        obtain⟨y,hy,ey⟩:=List.mem_map.mp this
        rw [<-ey]
        exact zf y hy
      have zx:Sz n x.2.2:=by
        have:x.2∈gs.map fun e=>(pk b e.2.1,e.2.2):=by rw [<-eo];exact List.mem_map.mpr ⟨x,hx,rfl⟩
        obtain⟨y,hy,ey⟩:=List.mem_map.mp this
        rw [<-ey]
        exact zg y hy
      refine⟨.inl ⟨kvs,.inl si.it⟩,_,Abo si.it,?_⟩
      have ev:(Dt kvs (.inl (e.2.1+x.2.1))).getD (.int 0)= .int (Jv ts (e.2.1+x.2.1)):=by
        rcases si.su.vl (e.2.1+x.2.1)with⟨h,_⟩ | ⟨h,h0,_⟩
        . rw [h]
          rfl
        . rw [h,h0]
          rfl
      rw [ev]
      try contradiction
      obtain⟨kvs',ks',si'⟩:=si.put (e.2.1+x.2.1) (e.2.2*x.2.2)
      refine⟨ze.mulOk zx (by omega),d,_,rfl,Abp si.it ?_,kvs',ks',_,_,rfl,si'⟩
      have h1:=congrArg List.length si.su.ky
      rw [List.length_map,List.length_map]at h1
      have h2:=si.su.le
      exact Nat.lt_of_le_of_lt (show kvs.length<=64 by omega) (by decide)
    . rintro σ' H5 ⟨kvs,ks,o7,o8,rfl,si⟩
      refine⟨kvs,ks,_,_,_,_,rfl,?_⟩
      rw [List.map_append]
      show Sud _ _ _ _ _ (Gu (pre.map (·.2)++ [e.2]) _)
      rw [Qw]
      exact si
  rintro σ' H' ⟨kvs,ks,o5,o6,o7,o8,rfl,si⟩
  have tF:∀e∈fs.map (·.2),e.1.length=3:=fun x hx=>by
    obtain⟨y,hy,rfl⟩:=List.mem_map.mp hx
    exact(hf.al y hy).ln
  have tG:∀e∈gs.map (·.2),e.1.length=3:=fun x hx=>by
    obtain⟨y,hy,rfl⟩:=List.mem_map.mp hx
    exact(hg.al y hy).ln
  have ep:Gu (gl.map (·.2)) (go.map (·.2))=(Fv (fs.map (·.2)) (gs.map (·.2))).map fun e=>(pk b e.1,e.2):=by
    rw [U3 tG tF,el,eo,List.map_map,List.map_map]
    rfl
  have lP:(Fv (fs.map (·.2)) (gs.map (·.2))).length<64:=by
    have h1:=congrArg List.length ep
    rw [List.length_map,Jl,List.length_map,List.length_map,lgl,lgo]at h1
    omega
  have rP:∀e∈Fv (fs.map (·.2)) (gs.map (·.2)),Rg b e.1:=fun e he=>by
    obtain⟨x,hx,he⟩:=List.mem_flatMap.mp he
    obtain⟨y,hy,rfl⟩:=List.mem_map.mp he
    obtain⟨x,hx',rfl⟩:=List.mem_map.mp hx
    obtain⟨y,hy',rfl⟩:=List.mem_map.mp hy
    replace hx:=hx'
    replace hy:=hy'
    have gx:=gM.le x hx
    have gy:=gN.le y hy
    have bx:=bf x hx
    have by':=bg y hy
    have lx:=(hf.al x hx).ln
    have ly:=(hg.al y hy).ln
    match h1:x.2.1,h2:y.2.1,lx,ly with
    | [i,j,m],[i2,j2,m2],_,_=>
      rw [h1]at gx bx
      rw [h2]at gy by'
      have a1:=gx i (by simp)
      have a2:=gx j (by simp)
      have a3:=gx m (by simp)
      have a4:=gy i2 (by simp)
      have a5:=gy j2 (by simp)
      have a6:=gy m2 (by simp)
      have c1:=bx i (by simp)
      have c2:=bx j (by simp)
      have c3:=bx m (by simp)
      have c4:=by' i2 (by simp)
      have c5:=by' j2 (by simp)
      have c6:=by' m2 (by simp)
      refine⟨i+i2,j+j2,m+m2,?_,by omega,by omega,by omega⟩
      rfl
  contradiction
  rw [ep]at si
  refine⟨d,b,kvs,ks,_,rfl,si.it,by omega,by omega,rP,si.su,lP,fun z H6 hs s6 fr et=>k z H6 hs (Same.trans (fun x u e=> ?_) s6) fr et⟩
  exact si.kp _ _ (Ar e nd) (s34 _ _ (sH _ _ e))
def Aar (x:List Int × Int) (g:List (List Int × Int)):List (List Int × Int):=g.map fun y=>(Xj x.1 y.1,x.2*y.2)
theorem Qt (f g:List (List Int × Int)) (x:List Int × Int):Fv (f++ [x]) g=Fv f g++Aar x g:=by
  unfold Fv Aar
  rw [List.flatMap_append]
  simp
theorem Jp (g:List (List Int × Int)):∀f,(Fv f g).length=f.length*g.length
  | []=>by simp [Fv]
  | x::r=>by
    show(Aar x g++Fv r g).length=_
    rw [List.length_append,Jp g r,List.length_cons,Nat.succ_mul,Nat.add_comm]
    simp [Aar]
theorem tri {ks:List Int} (h:ks.length=3):∃i j m,ks=[i,j,m]:=by
  match ks,h with
  | [i,j,m],_=>exact⟨i,j,m,rfl⟩
def Hl (K:PySem.W.Frag):Sp:=fun vs H Q _=>∃(a c:Addr) (fs gs:List (V × (List Int × Int))) (n:Nat),vs=[.ref a,.ref c]/\Frm K H a fs/\Frm K H c gs/\fs.length*gs.length<64/\n<=1000/\(∀e∈fs,Sz n e.2.2)/\(∀e∈gs,Sz n e.2.2)/\
  ∀z H' hs,Same H H'->Frm K H' z hs->(∀q,Aw (hs.map (·.2)) q=Aw (Fv (fs.map (·.2)) (gs.map (·.2))) q)->Q (.ref z) H'
theorem Nf {f:Addr}{fd:FuncData} (F:Df K mg "_law_product" Gf ["_law_f","_law_g"] f fd)   (c_q_sum:Cal P w K mg base 1 "_law_sum" ["_law_terms_here"] (Kv K)):Cal P w K mg base 2 "_law_product" ["_law_f","_law_g"] (Hl K):=by
  refine F.cal (F.fn.ok Cu (fun vs H Q E h=> ?_) (fun cdv A outer s H vs Q E hr h=> ?_))
  . obtain⟨a,c,fs,gs,n,rfl,_⟩:=h
    rfl
  obtain⟨a,c,fs,gs,n,rfl,hf,hg,lfg,hn,zf,zg,k⟩:=h
  refine S.Bf ⟨_,(S.Ac (S.Ak (i:=2) Cu.nd rfl (Or.inl rfl) (S.Em S.Ab))
      (S.Ac (S.Bt PassesOwn.never rfl (S.Dn (S.pv 0)) (S.Cq rfl (S.Ai (S.Ah (i:=3) Cu.nd rfl (Or.inl rfl)) (S.Ai (S.Ah (i:=4) Cu.nd rfl (Or.inl rfl)) S.Bb))) (S.Af (S.Bt PassesOwn.never rfl (S.Dn (S.pv 1)) (S.Cq rfl (S.Ai (S.Ah (i:=5) Cu.nd rfl (Or.inl rfl)) (S.Ai (S.Ah (i:=6) Cu.nd rfl (Or.inl rfl)) S.Bb))) (S.Af (S.Ep (S.G4 PySem.F.plainAttrs_list PySem.F.slot_list_append PySem.F.type_list_append Dq (S.pv 2) (S.Aa (S.Bu (S.Aa (S.Bu (S.Aa (S.Aj Bc (S.Bj Bk (S.pv 3) S.Ad (fun _ _=>rfl)) (S.Bj Bk (S.pv 5) S.Ad (fun _ _=>rfl))) (S.Aa (S.Aj Bc (S.Bj Bk (S.pv 3) S.Ad (fun _ _=>rfl)) (S.Bj Bk (S.pv 5) S.Ad (fun _ _=>rfl))) (S.Aa (S.Aj Bc (S.Bj Bk (S.pv 3) S.Ad (fun _ _=>rfl)) (S.Bj Bk (S.pv 5) S.Ad (fun _ _=>rfl))) S.Ab)))) (S.Aa (S.Aj Bh (S.pv 4) (S.pv 6)) S.Ab))) S.Ab)))))))
      (S.Af (S.Ao (S.Am c_q_sum (hr.mono (by decide)) (S.Aa (S.pv 2) S.Ab)))))),?_⟩
  contradiction
  refine⟨by decide,fun f hF=> ?_⟩
  have s1:=Same.upd hF (.lst [])
  refine⟨⟨_,s1.tup hf.it⟩,Jt (es:=fs) (inj:=(·.1)) (fun pre σ' H'=>∃(es:List (V × (List Int × Int))) (o3 o4 o5 o6:Option V),σ'=[some (.ref a),some (.ref c),some (.ref f),o3,o4,o5,o6]/\Unp K H H' f es (Fv (pre.map (·.2)) (gs.map (·.2)))) ⟨[],_,_,_,_,rfl,⟨s1,Ae,by simp,rfl⟩⟩ ?_ ?_ ?_⟩
  . rintro pre σ' H' ⟨es,o3,o4,o5,o6,rfl,un⟩
    exact Fp (un.sm.tup hf.it)
  . rintro pre e post σ' H' hE ⟨es,o3,o4,o5,o6,rfl,un⟩
    have hm:e∈fs:=by rw [hE];simp
    obtain⟨⟨p,q,ep,hp,hq⟩,ln⟩:=hf.al e hm
    rw [ep]
    refine Bo (un.sm.tup hp) ?_
    contradiction
    refine⟨⟨_,un.sm.tup hg.it⟩,Jt (es:=gs) (inj:=(·.1)) (fun pre2 σ' H'=>∃(es:List (V × (List Int × Int))) (o5 o6:Option V),σ'=[some (.ref a),some (.ref c),some (.ref f),some (.ref q),some (.int e.2.2),o5,o6]/\Unp K H H' f es (Fv (pre.map (·.2)) (gs.map (·.2))++Aar e.2 (pre2.map (·.2)))) ⟨es,_,_,rfl,by
      show Unp _ _ _ _ _ (_++ [])
      rw [List.append_nil]
      exact un⟩ ?_ ?_ ?_⟩
    . rintro pre2 σ' H5 ⟨es,o5,o6,rfl,un⟩
      exact Fp (un.sm.tup hg.it)
    . rintro pre2 x post2 σ' H5 hE2 ⟨es,o5,o6,rfl,un⟩
      have hx:x∈gs:=by rw [hE2];simp
      obtain⟨⟨p2,q2,ep2,hp2,hq2⟩,ln2⟩:=hg.al x hx
      rw [ep2]
      refine Bo (un.sm.tup hp2) ?_
      have lts:es.length<fs.length*gs.length:=by
        have h1:=congrArg List.length un.eq
        rw [List.length_append,Jp]at h1
        unfold Aar at h1
        simp only [List.length_map]at h1
        have h2:=congrArg List.length hE
        have h3:=congrArg List.length hE2
        rw [List.length_append,List.length_cons]at h2 h3
        have h4:pre.length*gs.length+gs.length<=fs.length*gs.length:=by
          rw [<-Nat.succ_mul]
          exact Nat.mul_le_mul_right _ (by omega)
        omega
      have s5:=un.sm
      have gq:=s5 _ _ hq
      have gq2:=s5 _ _ hq2
      obtain⟨i1,i2,i3,ek⟩:=tri ln
      obtain⟨j1,j2,j3,ek2⟩:=tri ln2
      rw [ek]at gq
      rw [ek2]at gq2
      contradiction
      refine⟨.inl ⟨rfl,_,.of un.it⟩,Bw (.of gq) (v:= .int i1) rfl ?_⟩
      try contradiction
      refine Bw (.of gq2) (v:= .int j1) rfl ?_
      try contradiction
      refine Bw (.of gq) (v:= .int i2) rfl ?_
      try contradiction
      refine Bw (.of gq2) (v:= .int j2) rfl ?_
      try contradiction
      refine Bw (.of gq) (v:= .int i3) rfl ?_
      try contradiction
      refine Bw (.of gq2) (v:= .int j3) rfl ?_
      try contradiction
      refine⟨by decide,fun c2 hc2=> ?_⟩
      have s6:=Same.upd hc2 (.tup [V.int (i1+j1),V.int (i2+j2),V.int (i3+j3)])
      have g6:upd H5 c2 (.tup [V.int (i1+j1),V.int (i2+j2),V.int (i3+j3)]) c2=some (.tup ((Xj e.2.1 x.2.1).map V.int)):=by
        rw [ek,ek2]
        exact Ae
      generalize upd H5 c2 (.tup [V.int (i1+j1),V.int (i2+j2),V.int (i3+j3)])=H6 at s6 g6
      refine⟨(zf e hm).mulOk (zg x hx) (by omega),fun c3 hc3=> ?_⟩
      have s7:=Same.upd hc3 (.tup [V.ref c2,V.int (e.2.2*x.2.2)])
      have g7:upd H6 c3 (.tup [V.ref c2,V.int (e.2.2*x.2.2)]) c3=some (.tup [V.ref c2,V.int (e.2.2*x.2.2)]):=Ae
      generalize upd H6 c3 (.tup [V.ref c2,V.int (e.2.2*x.2.2)])=H7 at s7 g7
      have s57:=s6.trans s7
      have f7:=s57 _ _ un.it
      have tn:Te K H7 (.ref c3) (Xj e.2.1 x.2.1,e.2.2*x.2.2):=⟨⟨c3,c2,rfl,.of g7,s7 _ _ g6⟩,by rw [ek,ek2];rfl⟩
      refine⟨f,_,_,rfl,rfl,f7,?_,es++ [(.ref c3,(Xj e.2.1 x.2.1,e.2.2*x.2.2))],_,_,rfl,⟨(un.sm.trans s57).put hF,?_,fun t ht=> ?_,?_⟩⟩
      . rw [List.length_map]
        exact Nat.lt_of_lt_of_le (show es.length<64 by omega) (by decide)
      . rw [Ae,List.map_append]
        rfl
      . rcases List.mem_append.mp ht with ht | ht
        . exact((un.al t ht).mono s57).put f7
        . have e:t=(.ref c3,(Xj e.2.1 x.2.1,e.2.2*x.2.2)):=by simpa using ht
          rw [e]
          exact tn.put f7
      . rw [List.map_append,un.eq,List.map_append,List.append_assoc]
        unfold Aar
        rw [List.map_append]
        rfl
    . rintro σ' H5 ⟨es,o5,o6,rfl,un⟩
      refine⟨es,_,_,_,_,rfl,?_⟩
      rw [List.map_append]
      show Unp _ _ _ _ _ (Fv (pre.map (·.2)++ [e.2]) _)
      rw [Qt]
      exact un
  rintro σ' H' ⟨es,o3,o4,o5,o6,rfl,un⟩
  contradiction
  refine⟨f,es,rfl,.of un.it,un.al,?_,fun z H2 hs s2 fr et=>k z H2 hs (un.sm.trans s2) fr (by rw [<-un.eq];exact et)⟩
  have h1:=congrArg List.length un.eq
  rw [Jp,List.length_map,List.length_map,List.length_map]at h1
  omega
def Kl (K:PySem.W.Frag):Sp:=fun vs H Q _=>∃(x y:Addr) (a b:Int) (n m:Nat),vs=[.ref x,.ref y]/\SqT K H x [.int a]/\SqT K H y [.int b]/\Sz n a/\Sz m b/\n+m<=100000000/\∀z H',Same H H'->SqT K H' z [.int (a*b)]->Q (.ref z) H'
theorem Yc {a e:Int}{pre post:List Int} (h:[a]=pre++e::post):pre=[]/\e=a:=by
  cases pre with
  | nil=>
    rw [List.nil_append]at h
    cases h
    exact⟨rfl,rfl⟩
  | cons x r=>
    have:=congrArg List.length h
    simp at this
theorem Qu {f:Addr}{fd:FuncData} (F:Df K mg "p_times" Iz ["one","other"] f fd) (z_enumerate:mg "enumerate"=none) (z_tuple:mg "tuple"=none) (z_len:mg "len"=none)   :Cal P w K mg base 1 "p_times" ["one","other"] (Kl K):=by
  refine F.cal (F.fn.ok Dk (fun vs H Q E h=> ?_) (fun cdv A outer s H vs Q E hr h=> ?_))
  . obtain⟨x,y,_,_,_,_,rfl,_⟩:=h
    rfl
  obtain⟨x,y,a,b,n,m,rfl,ha,hb,za,zb,hn,k⟩:=h
  refine S.Bf ⟨_,(S.Ac (S.Dp (S.K6 (S.Ga (S.Al (Yi hr.units) (S.pv 0) (S.Bu S.Ab) (Ax _)) (S.Fy (S.Al (Yi hr.units) (S.pv 1) (S.Bu S.Ab) (Ax _))))) (S.Af (S.Ao (S.Bu S.Ab))) S.Bd)
      (S.Ac (S.Ak (i:=2) Dk.nd rfl (Or.inl rfl) (S.Aj Ab3 (S.Em (S.Aa S.Ad S.Ab)) (S.Aj Im (S.Aj Bc (S.Bv Bm rfl z_len PySem.boot_len (S.Aa (S.pv 0) S.Ab)) (S.Bv Bm rfl z_len PySem.boot_len (S.Aa (S.pv 1) S.Ab))) S.Ad)))
      (S.Ac (S.Bt PassesOwn.never rfl (S.Vd rfl z_enumerate (S.Aa (S.pv 0) S.Ab)) (S.Cq rfl (S.Ai (S.Ah (i:=3) Dk.nd rfl (Or.inl rfl)) (S.Ai (S.Ah (i:=4) Dk.nd rfl (Or.inl rfl)) S.Bb))) (S.Af (S.Dp (S.Al Jy (S.pv 4) S.Ad (Ax _)) (S.Af (S.Bt PassesOwn.never rfl (S.Vd rfl z_enumerate (S.Aa (S.pv 1) S.Ab)) (S.Cq rfl (S.Ai (S.Ah (i:=5) Dk.nd rfl (Or.inl rfl)) (S.Ai (S.Ah (i:=6) Dk.nd rfl (Or.inl rfl)) S.Bb))) (S.Af (S.Fw (S.Aj Bc (S.Bj Ea (S.pv 2) (S.Aj Bc (S.pv 3) (S.pv 5)) (fun _ _=>rfl)) (S.Aj Bh (S.pv 4) (S.pv 6))) (S.Pu (S.pv 2) (S.Aj Bc (S.pv 3) (S.pv 5)) set_list))))) S.Bd)))
      (S.Af (S.Ao (S.Ej Cv rfl z_tuple PyProof.Rows.boot_tuple (S.Aa (S.pv 2) S.Ab))))))),?_⟩
  contradiction
  refine⟨by decide,fun p1 hp1=> ?_⟩
  have s1:=Same.upd hp1 (.tup [])
  refine Pa (ns:=[a]) (ms:=[]) (s1.tup ha) (.of Ae) ?_
  try contradiction
  rw [if_neg (by simp)]
  refine⟨by decide,fun p2 hp2=> ?_⟩
  have s2:=s1.trans (Same.upd hp2 (.tup []))
  refine Pa (ns:=[b]) (ms:=[]) (s2.tup hb) (.of Ae) ?_
  try contradiction
  rw [if_neg (by simp)]
  intro p3 hp3
  have s3:=s2.trans (Same.upd hp3 (.lst [V.int 0]))
  refine⟨x,_,rfl,.inr (s3.tup ha),y,_,rfl,.inr (s3.tup hb),?_⟩
  simp only [List.length_cons,List.length_nil]
  refine⟨p3,_,[V.int 0],rfl,rfl,Ae,by decide,by decide,by decide,fun l0 hl0=> ?_⟩
  have hnH:H l0=none:=Same.free s3 hl0
  have s4:=s3.trans (Same.upd hl0 (.lst [V.int 0]))
  refine⟨⟨_,s4.tup ha⟩,Abf (es:=[a]) (inj:=V.int) (fun pre σ H'=>∃(o1 o2 o3 o4:Option V),σ=[some (.ref x),some (.ref y),some (.ref l0),o1,o2,o3,o4]/\Same H H'/\H' l0=some (.lst [.int (if pre=[]then 0 else a*b)])) ⟨_,_,_,_,rfl,s4,Ae⟩ ?_ ?_ ?_⟩
  . rintro pre σ H' ⟨o1,o2,o3,o4,rfl,s5,_⟩
    exact s5.tup ha
  . rintro pre e post σ H' p4 he ⟨o1,o2,o3,o4,rfl,s5,hm⟩ hp4
    obtain⟨rfl,rfl⟩:=Yc he
    rw [if_pos rfl]at hm
    rw [if_neg (by simp)]
    refine Bo (.of Ae) ?_
    have s6:=s5.trans (Same.upd hp4 (.tup [V.int (([]:List Int).length:Nat),V.int e]))
    have hm6:=Same.upd hp4 (.tup [V.int (([]:List Int).length:Nat),V.int e]) _ _ hm
    try contradiction
    by_cases hz:e=0
    . rw [if_pos hz]
      exact⟨_,_,_,_,rfl,s6,by rw [hz,Int.zero_mul];rw [hz]at hm6;exact hm6⟩
    . rw [if_neg hz]
      refine⟨⟨_,s6.tup hb⟩,Abf (es:=[b]) (inj:=V.int) (fun pre2 σ H2=>∃(o3 o4:Option V),σ=[some (.ref x),some (.ref y),some (.ref l0),some (.int 0),some (.int e),o3,o4]/\Same H H2/\H2 l0=some (.lst [.int (if pre2=[]then 0 else e*b)])) ⟨_,_,rfl,s6,hm6⟩ ?_ ?_ ?_⟩
      . rintro pre2 σ H2 ⟨o3,o4,rfl,s7,_⟩
        exact s7.tup hb
      . rintro pre2 f post2 σ H2 p5 he2 ⟨o3,o4,rfl,s7,hm7⟩ hp5
        obtain⟨rfl,rfl⟩:=Yc he2
        rw [if_pos rfl]at hm7
        rw [if_neg (by simp)]
        refine Bo (.of Ae) ?_
        have s8:=Same.upd hp5 (.tup [V.int (([]:List Int).length:Nat),V.int f])
        have hm8:=s8 _ _ hm7
        contradiction
        refine K1 (.of hm8) (v:= .int 0) rfl ?_
        try contradiction
        refine⟨za.mulOk zb (by omega),?_⟩
        refine Adq (j:=0) hm8 (by decide) ?_
        try contradiction
        refine⟨_,_,rfl,?_,?_⟩
        . intro c o hc
          rw [Av (Ar hc hnH)]
          exact s8 _ _ (s7 _ _ hc)
        . rw [Ae,Int.zero_add]
      . rintro σ H2 ⟨o3,o4,rfl,s7,hm7⟩
        try contradiction
        exact⟨_,_,_,_,rfl,s7,by rw [if_neg (by simp)]at hm7;exact hm7⟩
  . rintro σ H' ⟨o1,o2,o3,o4,rfl,s5,hm⟩
    try contradiction
    rw [if_neg (by simp)]at hm
    exact⟨l0,_,rfl,.inl ⟨.of hm,fun z hz=>k z _ (s5.trans (Same.upd hz _)) (.of Ae)⟩⟩
theorem Dh {n:Nat}{b:Int} (h:Sz n b):∀m:Nat,Sz (n*m+1) (b^m)
  | 0=>by
    rw [Int.pow_zero,Nat.mul_zero]
    unfold Sz
    decide
  | m+1=>by
    rw [Int.pow_succ,Nat.mul_succ]
    exact((Dh h m).mul h).mono (by omega)
def Ja (K:PySem.W.Frag):Sp:=fun vs H Q _=>∃(x0 x:Addr) (c:Int) (m n:Nat),vs=[.ref x0,.ref x,.int (m:Nat),.ref (cA K "p_times")]/\SqT K H x0 [.int 1]/\SqT K H x [.int c]/\Sz n c/\n<=20000/\m<=40/\∀z H',Same H H'->SqT K H' z [.int (c^m)]->Q (.ref z) H'
structure Rpt (K:PySem.W.Frag) (H H':Hp) (zp zs:Addr) (c:Int) (m a b t:Nat):Prop where
  sm:Same H H'
  ip:SqT K H' zp [.int (c^a)]
  iq:SqT K H' zs [.int (c^b)]
  ab:a+b*t=m
  lb:b<=40
theorem Nv {f:Addr}{fd:FuncData} (F:Df K mg "repeated" Hg ["start","one","many","product"] f fd)  (xm_p_times:mg "p_times"=some (.ref (cA K "p_times"))) (c_p_times:Cal P w K mg base 1 "p_times" ["one","other"] (Kl K)):Cal P w K mg base 2 "repeated" ["start","one","many","product"] (Ja K):=by
  refine F.cal (F.fn.ok Ck (fun vs H Q E h=> ?_) (fun cdv A outer s H vs Q E hr h=> ?_))
  . obtain⟨x0,x,c,m,n,rfl,_⟩:=h
    rfl
  obtain⟨x0,x,c,m,n,rfl,h0,hx,zc,hn,hm,k⟩:=h
  refine S.Bf ⟨_,(S.Ac (S.Ak (i:=4) Ck.nd rfl (Or.inl rfl) (S.pv 0))
      (S.Ac (S.Ak (i:=5) Ck.nd rfl (Or.inl rfl) (S.pv 1))
      (S.Ac (S.Ak (i:=6) Ck.nd rfl (Or.inl rfl) (S.pv 2))
      (S.Ac (S.Ec PassesOwn.never (S.Al T6 (S.pv 6) S.Ad (Ax _)) (S.Ac (S.Dp (S.Al M5 (S.Aj Fj (S.pv 6) S.Ad) S.Ad (Ax _)) (S.Af (S.Ak (i:=4) Ck.nd rfl (Or.inl rfl) (S.Rn c_p_times xm_p_times (hr.mono (by decide)) (S.pv 3) (S.Aa (S.pv 4) (S.Aa (S.pv 5) S.Ab))))) S.Bd)
      (S.Ac (S.Ak (i:=6) Ck.nd rfl (Or.inl rfl) (S.Aj Ed (S.pv 6) S.Ad))
      (S.Af (S.Dp (S.Al T6 (S.pv 6) S.Ad (Ax _)) (S.Af (S.Ak (i:=5) Ck.nd rfl (Or.inl rfl) (S.Rn c_p_times xm_p_times (hr.mono (by decide)) (S.pv 3) (S.Aa (S.pv 5) (S.Aa (S.pv 5) S.Ab))))) S.Bd)))))
      (S.Af (S.Ao (S.pv 4))))))),?_⟩
  contradiction
  have szp:∀a b:Nat,a<=40->b<=40->(n*a+1)+(n*b+1)<=100000000:=fun a b ha hb=>by
    have h1:n*a<=20000*40:=Nat.mul_le_mul hn ha
    have h2:n*b<=20000*40:=Nat.mul_le_mul hn hb
    omega
  refine Il (fun σ H'=>∃(zp zs:Addr) (a b t:Nat),σ=[some (.ref x0),some (.ref x),some (.int (m:Nat)),some (.ref (cA K "p_times")),some (.ref zp),some (.ref zs),some (.int (t:Nat))]/\Rpt K H H' zp zs c m a b t)
    (fun σ _=>match σ with | [_,_,_,_,_,_,some (.int t)]=>t.toNat | _=>0) ⟨_,_,0,1,m,rfl,⟨Same.refl _,by rw [Int.pow_zero];exact h0,by rw [Int.pow_one];exact hx,by omega,by omega⟩⟩ ?_
  rintro σ H' ⟨yp,ys,a,b,t,rfl,r⟩
  have rab:=r.ab
  have rlb:=r.lb
  have ha:a<=40:=by omega
  contradiction
  by_cases ht:(0:Int)<(t:Nat)
  . rw [if_pos ht]
    refine Xv ?_
    contradiction
    refine⟨by decide,?_⟩
    have d2:((t:Nat):Int)/2=((t/2:Nat):Int):=by omega
    have e3:b*t=2*b*(t/2)+b*(t%2):=by
      have e:=Nat.div_add_mod t 2
      calc b*t=b*(2*(t/2)+t%2):=by rw [e]
        _=2*b*(t/2)+b*(t%2):=by rw [Nat.mul_add,<-Nat.mul_assoc,Nat.mul_comm b 2]
    by_cases ho:((t:Nat):Int)%2=1
    . rw [if_pos ho]
      have o1:t%2=1:=by omega
      rw [o1,Nat.mul_one]at e3
      refine⟨yp,ys,_,_,_,_,rfl,r.ip,r.iq,Dh zc a,Dh zc b,szp a b ha rlb,fun w H2 s2 iw=> ?_⟩
      rw [<-Int.pow_add]at iw
      rw [d2]
      refine⟨⟨by decide,by decide⟩,?_⟩
      by_cases h2:(0:Int)<((t/2:Nat):Int)
      . rw [if_pos h2]
        have hbb:2*b<=2*b*(t/2):=Nat.le_mul_of_pos_right _ (by omega)
        refine⟨ys,ys,_,_,_,_,rfl,s2.tup r.iq,s2.tup r.iq,Dh zc b,Dh zc b,szp b b rlb rlb,fun w2 H3 s3 iw2=> ?_⟩
        rw [<-Int.pow_add]at iw2
        refine⟨⟨w,w2,a+b,b+b,t/2,rfl,⟨(r.sm.trans s2).trans s3,s3.tup iw,iw2,?_,by omega⟩⟩,by omega⟩
        rw [<-Nat.two_mul]
        omega
      . rw [if_neg h2]
        have t0:t/2=0:=by omega
        refine⟨⟨w,ys,a+b,b,t/2,rfl,⟨r.sm.trans s2,iw,s2.tup r.iq,?_,rlb⟩⟩,by omega⟩
        rw [t0]at e3 ⊢
        simp at e3 ⊢
        omega
    . rw [if_neg ho]
      have o1:t%2=0:=by omega
      rw [o1,Nat.mul_zero]at e3
      rw [d2]
      refine⟨⟨by decide,by decide⟩,?_⟩
      have h2:(0:Int)<((t/2:Nat):Int):=by omega
      rw [if_pos h2]
      have hbb:2*b<=2*b*(t/2):=Nat.le_mul_of_pos_right _ (by omega)
      refine⟨ys,ys,_,_,_,_,rfl,r.iq,r.iq,Dh zc b,Dh zc b,szp b b rlb rlb,fun w2 H3 s3 iw2=> ?_⟩
      rw [<-Int.pow_add]at iw2
      refine⟨⟨yp,w2,a,b+b,t/2,rfl,⟨r.sm.trans s3,s3.tup r.ip,iw2,?_,by omega⟩⟩,by omega⟩
      rw [<-Nat.two_mul]
      omega
  . rw [if_neg ht]
    have t0:t=0:=by omega
    subst t0
    have e:a=m:=by simpa using rab
    subst e
    exact k _ _ r.sm r.ip
def O8 (K:PySem.W.Frag):Sp:=fun vs H Q _=>∃(x:Addr) (c:Int) (m n:Nat),vs=[.ref x,.int (m:Nat)]/\SqT K H x [.int c]/\Sz n c/\n<=20000/\m<=40/\∀z H',Same H H'->SqT K H' z [.int (c^m)]->Q (.ref z) H'
theorem Ws {f:Addr}{fd:FuncData} (F:Df K mg "power" O6 ["one","many"] f fd)  (xm_p_times:mg "p_times"=some (.ref (cA K "p_times"))) (c_repeated:Cal P w K mg base 2 "repeated" ["start","one","many","product"] (Ja K)):Cal P w K mg base 3 "power" ["one","many"] (O8 K):=by
  refine F.cal (F.fn.ok Xh (fun vs H Q E h=> ?_) (fun cdv A outer s H vs Q E hr h=> ?_))
  . obtain⟨x,c,m,n,rfl,_⟩:=h
    rfl
  obtain⟨x,c,m,n,rfl,hx,zc,hn,hm,k⟩:=h
  refine S.Bf ⟨_,(S.Af (S.Ao (S.Am c_repeated (hr.mono (by decide)) (S.Aa (S.Bu (S.Aa S.Ad S.Ab)) (S.Aa (S.pv 0) (S.Aa (S.pv 1) (S.Aa (S.K8 (v:= .ref (cA K "p_times")) rfl xm_p_times rfl) S.Ab))))))),?_⟩
  contradiction
  intro p0 hp0
  have s0:=Same.upd hp0 (.tup [V.int 1])
  exact⟨p0,x,c,m,n,rfl,.of Ae,s0.tup hx,zc,hn,hm,fun z H' s1 i1=>k _ _ (s0.trans s1) i1⟩
def Dw (K:PySem.W.Frag):Sp:=fun vs H Q _=>∃(b:Int) (m n:Nat),vs=[.int b,.int (m:Nat)]/\Sz n b/\n<=20000/\m<=40/\∀H',Same H H'->Q (.int (b^m)) H'
theorem J0 {f:Addr}{fd:FuncData} (F:Df K mg "whole_power" Ef ["number","many"] f fd)   (c_power:Cal P w K mg base 3 "power" ["one","many"] (O8 K)):Cal P w K mg base 4 "whole_power" ["number","many"] (Dw K):=by
  refine F.cal (F.fn.ok Jw (fun vs H Q E h=> ?_) (fun cdv A outer s H vs Q E hr h=> ?_))
  . obtain⟨b,m,n,rfl,_⟩:=h
    rfl
  obtain⟨b,m,n,rfl,zb,hn,hm,k⟩:=h
  refine S.Bf ⟨_,(S.Af (S.Ao (S.Bj Bk (S.Am c_power (hr.mono (by decide)) (S.Aa (S.Bu (S.Aa (S.pv 0) S.Ab)) (S.Aa (S.pv 1) S.Ab))) S.Ad (fun _ _=>rfl)))),?_⟩
  contradiction
  intro p0 hp0
  exact⟨p0,b,m,n,rfl,.of Ae,zb,hn,hm,fun z H' s' i=>Bw i (v:= .int (b^m)) rfl (k _ ((Same.upd hp0 _).trans s'))⟩
def mo (fs:List (V × (List Int × Int))) (j:Nat):Int:=mx (fs.map fun e=>e.2.1.getD j 0)
theorem Mst.is_mo {fs:List (V × (List Int × Int))}{j:Nat}{M:Int} (h:Mst fs j M):M=mo fs j:=by
  by_cases z:fs=[]
  . rw [h.no z,z]
    rfl
  . have ne:(fs.map fun e=>e.2.1.getD j 0)≠ []:=fun y=>z (List.map_eq_nil_iff.mp y)
    obtain⟨m1,m2⟩:=Le _ ne
    obtain⟨e,he,ee⟩:=h.is z
    obtain⟨e',he',ee'⟩:=List.mem_map.mp m1
    refine Int.le_antisymm ?_ ?_
    . rw [<-ee]
      exact m2 _ (List.mem_map.mpr ⟨e,he,rfl⟩)
    . unfold mo
      rw [<-ee']
      exact h.le e' he'
theorem Zu {fs:List (V × (List Int × Int))}{j:Nat}{e:V × (List Int × Int)} (he:e∈fs):e.2.1.getD j 0<=mo fs j:=
  (Le _ (fun y=>by rw [List.map_eq_nil_iff.mp y]at he;cases he)).2 _ (List.mem_map.mpr ⟨e,he,rfl⟩)
theorem Wv {fs:List (V × (List Int × Int))}{j:Nat}{B:Int} (hB:0<=B) (h:∀e∈fs,0<=e.2.1.getD j 0/\e.2.1.getD j 0<=B):0<=mo fs j/\mo fs j<=B:=by
  unfold mo
  by_cases z:fs=[]
  . rw [z]
    exact⟨Int.le_refl 0,hB⟩
  . have ne:(fs.map fun e=>e.2.1.getD j 0)≠ []:=fun y=>z (List.map_eq_nil_iff.mp y)
    obtain⟨e',he',ee'⟩:=List.mem_map.mp (Le _ ne).1
    rw [<-ee']
    exact h e' he'
def sc (t b M k:Int):Int:=t^k.toNat*b^(M-k).toNat
def Ei (K:PySem.W.Frag):Sp:=fun vs H Q _=>∃(a p:Addr) (fs:List (V × (List Int × Int))) (j n:Nat) (t b:Int),vs=[.ref a,.int (j:Nat),.ref p]/\Frm K H a fs/\fs.length<64/\j<3/\SqT K H p [.int t,.int b]/\Sz n t/\Sz n b/\n<=10000/\(∀e∈fs,0<=e.2.1.getD j 0/\e.2.1.getD j 0<=40)/\
  ∀d H' kvs,H d=none->Same H H'->H' d=some (.dK kvs)->(∀e∈fs,Dt kvs (.inl (e.2.1.getD j 0))=some (.int (sc t b (mo fs j) (e.2.1.getD j 0))))->Q (.ref d) H'
structure Scp (H H':Hp) (d:Addr) (kvs:List (Key × V)) (g:Int->Int) (ks:List Int):Prop where
  sm:Same H H'
  it:H' d=some (.dK kvs)
  le:kvs.length<=ks.length
  vl:∀k,Dt kvs (.inl k)=if k∈ks then some (.int (g k))else none
theorem Hu {f:Addr}{fd:FuncData} (F:Df K mg "scaled_powers" Dm ["f","place","point"] f fd)   (c_most:Cal P w K mg base 1 "most" ["f","place"] (Nz K)) (c_whole_power:Cal P w K mg base 4 "whole_power" ["number","many"] (Dw K)):Cal P w K mg base 5 "scaled_powers" ["f","place","point"] (Ei K):=by
  refine F.cal (F.fn.ok Ba (fun vs H Q E h=> ?_) (fun cdv A outer s H vs Q E hr h=> ?_))
  . obtain⟨a,p,fs,j,n,t,b,rfl,_⟩:=h
    rfl
  obtain⟨a,p,fs,j,n,t,b,rfl,hf,hl,hj,hp,zt,zb,hn,hb,k⟩:=h
  refine S.Bf ⟨_,(S.Ac (S.Fw (S.pv 2) (S.Cq rfl (S.Ai (S.Ah (i:=5) Ba.nd rfl (Or.inl rfl)) (S.Ai (S.Ah (i:=6) Ba.nd rfl (Or.inl rfl)) S.Bb))))
      (S.Ac (S.Ak (i:=3) Ba.nd rfl (Or.inl rfl) (S.Am c_most (hr.mono (by decide)) (S.Aa (S.pv 0) (S.Aa (S.pv 1) S.Ab))))
      (S.Ac (S.Ak (i:=4) Ba.nd rfl (Or.inl rfl) S.Ld)
      (S.Ac (S.Bt PassesOwn.never rfl (S.Dn (S.pv 0)) (S.Cq rfl (S.Ai (S.Ah (i:=7) Ba.nd rfl (Or.inl rfl)) (S.Ai (S.Ah (i:=8) Ba.nd rfl (Or.inl rfl)) S.Bb))) (S.Ac (S.Ak (i:=9) Ba.nd rfl (Or.inl rfl) (S.Bj Bk (S.pv 7) (S.pv 1) (fun _ _=>rfl)))
      (S.Af (S.Dp (S.Al (Tc (hu1 hr.units)) (S.pv 9) (S.pv 4) rfl) (S.Af (S.G9 (hu1 hr.units) (S.pv 4) (S.pv 9) (S.Aj Bh (S.Am c_whole_power (hr.mono (by decide)) (S.Aa (S.pv 5) (S.Aa (S.pv 9) S.Ab))) (S.Am c_whole_power (hr.mono (by decide)) (S.Aa (S.pv 6) (S.Aa (S.Aj Im (S.pv 3) (S.pv 9)) S.Ab)))) rfl)) S.Bd))))
      (S.Af (S.Ao (S.pv 4))))))),?_⟩
  contradiction
  refine Bo hp ?_
  contradiction
  refine⟨a,fs,j,rfl,hf,hl,hj,fun M H1 s1 hM d hd=> ?_⟩
  rw [hM.is_mo]
  have s2:=s1.trans (Same.upd hd (.dK []))
  have nd:=Same.free s1 hd
  refine⟨⟨_,s2.tup hf.it⟩,Jt (es:=fs) (inj:=(·.1)) (fun pre σ' H'=>∃(kvs:List (Key × V)) (o7 o8 o9:Option V),σ'=[some (.ref a),some (.int (j:Nat)),some (.ref p),some (.int (mo fs j)),some (.ref d),some (.int t),some (.int b),o7,o8,o9]/\Scp H H' d kvs (sc t b (mo fs j)) (pre.map fun e=>e.2.1.getD j 0)) ⟨[],_,_,_,rfl,⟨s2,Ae,Nat.le_refl _,fun _=>rfl⟩⟩ ?_ ?_ ?_⟩
  . rintro pre σ' H' ⟨kvs,o7,o8,o9,rfl,si⟩
    exact Fp (si.sm.tup hf.it)
  . rintro pre e post σ' H' hE ⟨kvs,o7,o8,o9,rfl,si⟩
    have hm:e∈fs:=by rw [hE];simp
    obtain⟨⟨c,q,ec,hc,hq⟩,ln⟩:=(hf.al e hm).mono si.sm
    rw [ec]
    refine Bo hc ?_
    contradiction
    refine Bw (.of hq) (v:= .int (e.2.1.getD j 0)) (Dc ?_) ?_
    . rw [List.getElem?_map,List.getD_eq_getElem?_getD,List.getElem?_eq_getElem (by omega)]
      rfl
    try contradiction
    refine⟨d,_,rfl,Abo si.it,?_⟩
    try contradiction
    have lk:(pre.map fun e=>e.2.1.getD j 0).length<64:=by
      have h1:=congrArg List.length hE
      rw [List.length_append]at h1
      rw [List.length_map]
      omega
    have be:=hb e hm
    have le:=Zu (j:=j) hm
    have bm:=Wv (j:=j) (by decide) hb
    rw [show(pre++ [e]).map (fun e=>e.2.1.getD j 0)=pre.map (fun e=>e.2.1.getD j 0)++ [e.2.1.getD j 0]by rw [List.map_append];rfl]
    generalize pre.map (fun e=>e.2.1.getD j 0)=ks at si lk ⊢
    generalize e.2.1.getD j 0=x at be le ⊢
    generalize mo fs j=M at le bm si ⊢
    rw [si.vl x]
    by_cases hx:x∈ks
    . rw [if_pos hx,if_neg (by simp)]
      refine⟨kvs,_,_,_,rfl,⟨si.sm,si.it,by have:=si.le;rw [List.length_append];omega,fun q=> ?_⟩⟩
      rw [si.vl q]
      by_cases hq:q∈ks
      . rw [if_pos hq,if_pos (List.mem_append_left _ hq)]
      . rw [if_neg hq,if_neg fun z=> ?_]
        rcases List.mem_append.mp z with z | z
        . exact hq z
        . exact hq (by have:q=x:=by simpa using z
                       rw [this];exact hx)
    . rw [if_neg hx,if_pos (by rfl)]
      refine⟨t,x.toNat,n,by rw [Int.toNat_of_nonneg be.1],zt,by omega,by omega,fun H2 s3=> ?_⟩
      refine⟨b,(M-x).toNat,n,by rw [Int.toNat_of_nonneg (by omega)],zb,by omega,by omega,fun H3 s4=> ?_⟩
      have n1:n*x.toNat<=10000*40:=Nat.mul_le_mul hn (by omega)
      have n2:n*(M-x).toNat<=10000*40:=Nat.mul_le_mul hn (by omega)
      try contradiction
      have s34:=s3.trans s4
      have d3:=s34 _ _ si.it
      refine⟨(Dh zt _).mulOk (Dh zb _) (by omega),d,_,rfl,Abp d3 ?_,_,_,_,_,rfl,⟨(si.sm.trans s34).put nd,Ae,?_,fun q=> ?_⟩⟩
      . have:=si.le
        exact Nat.lt_of_le_of_lt (show kvs.length<=64 by omega) (by decide)
      . rw [List.length_append]
        exact Nat.le_trans (Eh _ _ _) (Nat.add_le_add_right si.le 1)
      . rw [Ie]
        by_cases hq:q=x
        . subst hq
          rw [if_pos rfl,if_pos (by simp)]
          rfl
        . rw [if_neg fun z=>hq (Sum.inl.inj z),si.vl q]
          have:(q∈ks++ [x])=(q∈ks):=by simp [hq]
          simp only [this]
  rintro σ' H' ⟨kvs,o7,o8,o9,rfl,si⟩
  contradiction
  refine k d H' kvs nd si.sm si.it fun e he=> ?_
  rw [si.vl,if_pos (List.mem_map.mpr ⟨e,he,rfl⟩)]
def IsQ (K:PySem.W.Frag) (H:Hp) (v:V) (q:Rat):Prop:=∃a,v= .ref a/\SqT K H a [.int q.num,.int (q.den:Int)]
def Ad9:Sp:=fun vs H Q _=>∃a b:Int,vs=[.int a,.int b]/\Q (.int (Int.gcd a b:Int)) H
def J7 (_:PySem.W.Frag):Sp:=Ad9
def Jb (K:PySem.W.Frag):Sp:=fun vs H Q _=>∃a b:Int,vs=[.int a,.int b]/\b≠0/\Sz 8000 b/\∀z H',Same H H'->IsQ K H' z (Rat.divInt a b)->Q z H'
theorem Rm {f:Addr}{fd:FuncData} (F:Df K mg "divisor" Jf ["one","other"] f fd) (z_abs:mg "abs"=none)   :Cal P w K mg base 1 "divisor" ["one","other"] (J7 K):=by
  refine F.cal (F.fn.ok Fq (fun vs H Q E h=> ?_) (fun cdv A outer s H vs Q E hr h=> ?_))
  . obtain⟨a,b,rfl,_⟩:=h
    rfl
  obtain⟨a,b,rfl,q⟩:=h
  refine S.Bf ⟨_,(S.Ac (S.Ak (i:=2) Fq.nd rfl (Or.inl rfl) (S.Bv Hx rfl z_abs PyProof.Rows.boot_abs (S.Aa (S.pv 0) S.Ab)))
      (S.Ac (S.Ak (i:=3) Fq.nd rfl (Or.inl rfl) (S.Bv Hx rfl z_abs PyProof.Rows.boot_abs (S.Aa (S.pv 1) S.Ab)))
      (S.Ac (S.Ec PassesOwn.never (S.Al Jy (S.pv 3) S.Ad (Ax _)) (S.Af (S.Ho (i:=2) (j:=3) rfl Fq.nd rfl rfl (by decide) rfl rfl (S.Aa (S.pv 3) (S.Aa (S.Aj Fj (S.pv 2) (S.pv 3)) S.Ab)) rfl)))
      (S.Af (S.Ao (S.pv 2)))))),?_⟩
  simp only [Yw,Tj,Yx,Zw,Uh,Aaw,Oe,Ze,S6,U7,z_c,Acr,Adg,Ac4,Z0,Adn,Z4,Zf,Aag,Zh,Qj,Adw,Aay,Yp,Aaz,Ss,Vl,Zn,Yy,Ac9,V0,Z6,Vt,Adv,Tq,Ym,U4,Ady,Yo,Aak,Nu,Vm,Ve,Ux,O1,T7,Y5,Aas,Aaf,Y6,Ad2,Ln,Tn,Aaq,Ad8,Aa3,Uo,Y8,Zv,V8,Aa2,T9,S7,Sx,Ov,Za,Oi,Vz,Vi,Tv,U6,Oa,Zg,R5,Aab,Ut,Ub,V6,Nr,K4,O4,Um,Y7,Vr,U8,Ni,Tw,Aea,cpσ,List.getElem?_cons_zero,List.getElem?_cons_succ,Option.join_some,List.set_cons_zero,List.set_cons_succ,List.append_nil,decide_eq_true_eq,Bool.not_eq_true',decide_eq_false_iff_not,Bool.not_not,ite_not,Bool.false_eq_true,Bool.true_eq_false,if_false,if_true,if_pos,List.length_cons,List.length_nil,Nat.zero_add,Nat.reduceAdd,R6,T3,true_and,and_true,L2.start,List.map_cons,List.map_nil,Bool.not_true,Bool.not_false,Nat.reduceSub,List.replicate_succ,List.replicate_zero,List.cons_append,List.nil_append,abs_eq]
  refine W9 (fun σ H'=>H'=H/\∃x y:Nat,σ=[some (.int a),some (.int b),some (.int x),some (.int y)]/\Nat.gcd x y=Nat.gcd a.natAbs b.natAbs)
    (fun σ _=>match σ with | [_,_,_,some (.int y)]=>y.toNat | _=>0) ⟨rfl,_,_,rfl,rfl⟩ ?_ ?_
  . rintro σ H' ⟨rfl,x,y,rfl,e⟩
    contradiction
    by_cases hy:(y:Int)=0
    . rw [if_pos hy]
      have hy':y=0:=by omega
      subst hy'
      rw [Nat.gcd_zero_right]at e
      subst e
      exact q
    . rw [if_neg hy]
      refine⟨by omega,⟨y,x%y,by rw [Int.natCast_emod],by rw [K3];exact e⟩,?_⟩
      show((x:Int)%(y:Int)).toNat<(y:Int).toNat
      rw [<-Int.natCast_emod,Int.toNat_natCast,Int.toNat_natCast]
      exact Nat.mod_lt _ (by omega)
  . intro σ H' Q1 Q2 h12
    simp only [Qj,Acr]
    rintro⟨v,e1,hs⟩
    exact⟨v,e1,by
      obtain⟨s1,k,e2,h3⟩:=hs
      exact⟨s1,k,e2,h12 _ _ h3⟩⟩
theorem N6 {f:Addr}{fd:FuncData} (F:Df K mg "fraction" Hh ["top","bottom"] f fd)   (c_divisor:Cal P w K mg base 1 "divisor" ["one","other"] (J7 K)):Cal P w K mg base 2 "fraction" ["top","bottom"] (Jb K):=by
  refine F.cal (F.fn.ok Gb (fun vs H Q E h=> ?_) (fun cdv A outer s H vs Q E hr h=> ?_))
  . obtain⟨a,b,rfl,_⟩:=h
    rfl
  obtain⟨a,b,rfl,hb,hz,q⟩:=h
  refine S.Bf ⟨_,(S.Ac (S.Dp (S.Al M5 (S.pv 1) S.Ad (Ax _)) (S.Af S.Li) S.Bd)
      (S.Ac (S.Ak (i:=2) Gb.nd rfl (Or.inl rfl) (S.Am c_divisor (hr.mono (by decide)) (S.Aa (S.pv 0) (S.Aa (S.pv 1) S.Ab))))
      (S.Ac (S.Dp (S.Al Aau (S.pv 1) S.Ad (Ax _)) (S.Af (S.Ak (i:=2) Gb.nd rfl (Or.inl rfl) (S.Wy Xy (S.pv 2)))) S.Bd)
      (S.Af (S.Ao (S.Bu (S.Aa (S.Aj Qd (S.pv 0) (S.pv 2)) (S.Aa (S.Aj Qd (S.pv 1) (S.pv 2)) S.Ab)))))))),?_⟩
  simp only [Yw,Tj,Yx,Zw,Uh,Aaw,Oe,Ze,S6,U7,z_c,Acr,Adg,Ac4,Z0,Adn,Z4,Zf,Aag,Zh,Qj,Adw,Aay,Yp,Aaz,Ss,Vl,Zn,Yy,Ac9,V0,Z6,Vt,Adv,Tq,Ym,U4,Ady,Yo,Aak,Nu,Vm,Ve,Ux,O1,T7,Y5,Aas,Aaf,Y6,Ad2,Ln,Tn,Aaq,Ad8,Aa3,Uo,Y8,Zv,V8,Aa2,T9,S7,Sx,Ov,Za,Oi,Vz,Vi,Tv,U6,Oa,Zg,R5,Aab,Ut,Ub,V6,Nr,K4,O4,Um,Y7,Vr,U8,Ni,Tw,Aea,cpσ,List.getElem?_cons_zero,List.getElem?_cons_succ,Option.join_some,List.set_cons_zero,List.set_cons_succ,List.append_nil,decide_eq_true_eq,Bool.not_eq_true',decide_eq_false_iff_not,Bool.not_not,ite_not,Bool.false_eq_true,Bool.true_eq_false,if_false,if_true,if_pos,List.length_cons,List.length_nil,Nat.zero_add,Nat.reduceAdd,R6,T3,true_and,and_true,L2.start,List.map_cons,List.map_nil,Bool.not_true,Bool.not_false,Nat.reduceSub,List.replicate_succ,List.replicate_zero,List.cons_append,List.nil_append]
  rw [if_neg hb]
  refine⟨a,b,rfl,?_⟩
  contradiction
  have hg0:((Int.gcd a b:Nat):Int)≠0:=by
    have:=Int.gcd_pos_of_ne_zero_right a hb
    omega
  have hgz:Sz 8000 ((Int.gcd a b:Nat):Int):=hz.of_abs (by
    have:=Nat.le_of_dvd (by omega) (Int.gcd_dvd_natAbs_right a b)
    omega)
  split
  . rename_i hneg
    have hc:Aac a (-((Int.gcd a b:Nat):Int)):=⟨by omega,hgz.neg.log2 (by omega) (by decide)⟩
    refine⟨hc,hc,fun p hp=> ?_⟩
    rw [(Ql hneg).1,(Ql hneg).2]
    exact q _ _ (Same.upd hp _) ⟨p,rfl,.of Ae⟩
  . rename_i hneg
    have hc:Aac a ((Int.gcd a b:Nat):Int):=⟨hg0,hgz.log2 hg0 (by decide)⟩
    have hpos:0<b:=by omega
    refine⟨hc,hc,fun p hp=> ?_⟩
    rw [(Lp hpos).1,(Lp hpos).2]
    exact q _ _ (Same.upd hp _) ⟨p,rfl,.of Ae⟩
structure At3 (K:PySem.W.Frag) (H:Hp) (a:Addr) (q:Nat->Addr) (t b:Nat->Int) (n:Nat):Prop where
  it:SqT K H a ((List.range 3).map fun j=> .ref (q j))
  pt:∀j,j<3->SqT K H (q j) [.int (t j),.int (b j)]
  bp:∀j,j<3->0<b j
  zt:∀j,j<3->Sz n (t j)
  zb:∀j,j<3->Sz n (b j)
theorem At3.mono {H H':Hp}{a:Addr}{q:Nat->Addr}{t b:Nat->Int}{n:Nat} (h:At3 K H a q t b n) (s:Same H H'):At3 K H' a q t b n:=
  ⟨s.tup h.it,fun j hj=>s.tup (h.pt j hj),h.bp,h.zt,h.zb⟩
def vt (t b M:Nat->Int) (e:List Int × Int):Int:=e.2*sc (t 0) (b 0) (M 0) (e.1.getD 0 0)*sc (t 1) (b 1) (M 1) (e.1.getD 1 0)*sc (t 2) (b 2) (M 2) (e.1.getD 2 0)
def Ke (t b M:Nat->Int):List (List Int × Int)->Int
  | []=>0
  | e::r=>vt t b M e+Ke t b M r
theorem Ir (t b M:Nat->Int) (e:List Int × Int):∀r,Ke t b M (r++ [e])=Ke t b M r+vt t b M e
  | []=>by
    show vt t b M e+0=0+vt t b M e
    omega
  | x::r=>by
    show vt t b M x+Ke t b M (r++ [e])=vt t b M x+Ke t b M r+vt t b M e
    rw [Ir t b M e r]
    omega
def vb (b M:Nat->Int):Nat->Int
  | 0=>1
  | i+1=>vb b M i*b i^(M i).toNat
def Ac0 (b M:Nat->Int):Int:=vb b M 3
theorem Ry {b M:Nat->Int} (h:∀j,j<3->0<b j):∀i,i<=3->0<vb b M i
  | 0,_=>by
    show(0:Int)<1
    decide
  | i+1,hi=>Int.mul_pos (Ry h i (by omega)) (Int.pow_pos (h i (by omega)))
theorem Ue {b M:Nat->Int}{n:Nat} (h:∀j,j<3->Sz n (b j)) (hM:∀j,j<3->M j<=3):∀i,i<=3->Sz ((n*3+1)*i+1) (vb b M i)
  | 0,_=>by
    show Sz _ 1
    unfold Sz
    rw [Nat.mul_zero]
    decide
  | i+1,hi=>by
    have h1:=Ue h hM i (by omega)
    have hm:=hM i (by omega)
    have h2:n*(M i).toNat<=n*3:=Nat.mul_le_mul_left _ (by omega)
    refine(h1.mul (Dh (h i (by omega)) (M i).toNat)).mono ?_
    have:(n*3+1)*(i+1)=(n*3+1)*i+(n*3+1):=Nat.mul_succ _ _
    omega
theorem Wx {n:Nat}{t b M k:Int} (ht:Sz n t) (hb:Sz n b) (k0:0<=k) (k3:k<=3) (m3:M<=3):Sz (n*6+2) (sc t b M k):=by
  have h1:n*k.toNat<=n*3:=Nat.mul_le_mul_left _ (by omega)
  have h2:n*(M-k).toNat<=n*3:=Nat.mul_le_mul_left _ (by omega)
  exact((Dh ht k.toNat).mul (Dh hb (M-k).toNat)).mono (by omega)
theorem Wn {vs:List (V × Nat)} (h:vs.map (·.2)=List.range 3):∃x y z,vs=[(x,0),(y,1),(z,2)]:=by
  match vs,h with
  | [(x,i),(y,j),(z,k)],h=>
    have e:[i,j,k]=[0,1,2]:=h
    cases e
    exact⟨x,y,z,rfl⟩
def Tb (H:Hp) (v:V) (g:Int->Int) (ks:List Int):Prop:=∃d kvs,v= .ref d/\H d=some (.dK kvs)/\∀k∈ks,Dt kvs (.inl k)=some (.int (g k))
theorem Tb.mono {H H':Hp}{v:V}{g:Int->Int}{ks:List Int} (h:Tb H v g ks) (s:Same H H'):Tb H' v g ks:=by
  obtain⟨d,kvs,e1,e2,e3⟩:=h
  exact⟨d,kvs,e1,s _ _ e2,e3⟩
theorem Tb.put {H:Hp}{f:Addr}{xs ys:List V}{v:V}{g:Int->Int}{ks:List Int} (h:Tb H v g ks) (hf:H f=some (.lst xs)):Tb (upd H f (.lst ys)) v g ks:=by
  obtain⟨d,kvs,e1,e2,e3⟩:=h
  exact⟨d,kvs,e1,by rw [Av (Fi e2 hf (fun z=>nomatch z))];exact e2,e3⟩
def Kg (K:PySem.W.Frag):Sp:=fun vs H Q _=>∃(a c:Addr) (fs:List (V × (List Int × Int))) (q:Nat->Addr) (t b:Nat->Int),vs=[.ref a,.ref c]/\Frm K H a fs/\fs.length<64/\At3 K H c q t b 100/\(∀e∈fs,Sz 200 e.2.2)/\(∀e∈fs,∀x∈e.2.1,0<=x/\x<=3)/\
  ∀z H',Same H H'->IsQ K H' z (Rat.divInt (Ke t b (mo fs) (fs.map (·.2))) (Ac0 b (mo fs)))->Q z H'
theorem Ls {ks:List Int} (h3:ks.length=3) {B:Int} (h:∀x∈ks,0<=x/\x<=B) {j:Nat} (hj:j<3):0<=ks.getD j 0/\ks.getD j 0<=B:=by
  rw [List.getD_eq_getElem?_getD,List.getElem?_eq_getElem (by omega)]
  exact h _ (List.getElem_mem _)
theorem Ra {f:Addr}{fd:FuncData} (F:Df K mg "f_value" Gm ["f","at"] f fd) (z_range:mg "range"=none)  (c_fraction:Cal P w K mg base 2 "fraction" ["top","bottom"] (Jb K)) (c_scaled_powers:Cal P w K mg base 5 "scaled_powers" ["f","place","point"] (Ei K)) (c_whole_power:Cal P w K mg base 4 "whole_power" ["number","many"] (Dw K)) (c_most:Cal P w K mg base 1 "most" ["f","place"] (Nz K)):Cal P w K mg base 6 "f_value" ["f","at"] (Kg K):=by
  refine F.cal (F.fn.ok Ca (fun vs H Q E h=> ?_) (fun cdv A outer s H vs Q E hr h=> ?_))
  . obtain⟨a,c,fs,q,t,b,rfl,_⟩:=h
    rfl
  obtain⟨a,c,fs,q,t,b,rfl,hf,hl,hc,hw,hb,k⟩:=h
  refine S.Bf ⟨_,(S.Ac (S.Io (ts:=["place"]) (fs:=[(0,"f"),(1,"at")]) rfl (Ay.of (sc:=Ag Gm) (N:=["f","at","tables","total","bottom","place","powers","weight"]) rfl rfl (by decide+kernel)) (S.Bl rfl z_range (S.Aa S.Ad S.Ab)) (fun _ _ _=>(S.Ah (i:=0) (show List.Nodup (["place","f","at"]:List Str)by decide+kernel) rfl (Or.inl rfl))) (fun _ _ _=>S.Cy) (fun _ _ _=>(S.Am c_scaled_powers (hr.mono (by decide)) (S.Aa (S.pv 1) (S.Aa (S.pv 0) (S.Aa (S.Bj (Fb K) (S.pv 2) (S.pv 0) (fun _ _=>rfl)) S.Ab))))) (S.Ah (i:=2) Ca.nd rfl (Or.inl rfl)))
      (S.Ac (S.Ak (i:=3) Ca.nd rfl (Or.inl rfl) S.Ad)
      (S.Ac (S.Bt PassesOwn.never rfl (S.Dn (S.pv 0)) (S.Cq rfl (S.Ai (S.Ah (i:=6) Ca.nd rfl (Or.inl rfl)) (S.Ai (S.Ah (i:=7) Ca.nd rfl (Or.inl rfl)) S.Bb))) (S.Af (S.Ak (i:=3) Ca.nd rfl (Or.inl rfl) (S.Aj Bc (S.pv 3) (S.Aj Bh (S.Aj Bh (S.Aj Bh (S.pv 7) (S.Eb (hu1 hr.units) (S.Bj Ea (S.pv 2) S.Ad (fun _ _=>rfl)) (S.Bj Bk (S.pv 6) S.Ad (fun _ _=>rfl)) (fun _ _=>rfl))) (S.Eb (hu1 hr.units) (S.Bj Ea (S.pv 2) S.Ad (fun _ _=>rfl)) (S.Bj Bk (S.pv 6) S.Ad (fun _ _=>rfl)) (fun _ _=>rfl))) (S.Eb (hu1 hr.units) (S.Bj Ea (S.pv 2) S.Ad (fun _ _=>rfl)) (S.Bj Bk (S.pv 6) S.Ad (fun _ _=>rfl)) (fun _ _=>rfl)))))))
      (S.Ac (S.Ak (i:=4) Ca.nd rfl (Or.inl rfl) S.Ad)
      (S.Ac (S.Bt PassesOwn.never rfl (S.Bl rfl z_range (S.Aa S.Ad S.Ab)) (S.Ah (i:=5) Ca.nd rfl (Or.inl rfl)) (S.Af (S.Ak (i:=4) Ca.nd rfl (Or.inl rfl) (S.Aj Bh (S.pv 4) (S.Am c_whole_power (hr.mono (by decide)) (S.Aa (S.Bj Bk (S.Bj Bk (S.pv 1) (S.pv 5) (fun _ _=>rfl)) S.Ad (fun _ _=>rfl)) (S.Aa (S.Am c_most (hr.mono (by decide)) (S.Aa (S.pv 0) (S.Aa (S.pv 5) S.Ab))) S.Ab)))))))
      (S.Af (S.Ao (S.Am c_fraction (hr.mono (by decide)) (S.Aa (S.pv 3) (S.Aa (S.pv 4) S.Ab)))))))))),?_⟩
  contradiction
  have b3:∀e∈fs,∀j,j<3->0<=e.2.1.getD j 0/\e.2.1.getD j 0<=3:=fun e he j hj=>Ls (hf.al e he).ln (hb e he) hj
  have m3:∀j,j<3->0<=mo fs j/\mo fs j<=3:=fun j hj=>Wv (by decide) fun e he=>b3 e he j hj
  refine⟨by decide,by decide,fun p hp=>Ik (es:=List.range 3) (inj:=fun i=> .int (0+(i:Nat))) (fun(j:Nat) v H=>Tb H v (sc (t j) (b j) (mo fs j)) (fs.map fun(e:V × (List Int × Int))=>e.2.1.getD j 0)) (fun j v H H' h s=>h.mono s) (fun j v H ys zs h hp=>h.put hp) (by decide) hp Lf ?_ ?_⟩
  . intro j H2 R hj s2 hR
    have hj3:j<3:=List.mem_range.mp hj
    rw [Int.zero_add]
    contradiction
    refine Bw (s2.tup hc.it) (v:= .ref (q j)) (Dc (by rw [List.getElem?_map,List.getElem?_range hj3];rfl)) ?_
    try contradiction
    refine⟨a,q j,fs,j,100,t j,b j,rfl,hf.mono s2,hl,hj3,s2.tup (hc.pt j hj3),hc.zt j hj3,hc.zb j hj3,by decide,fun e he=> ?_,fun d H' kvs _ s' hd hv=>hR _ _ s' ⟨d,kvs,rfl,hd,fun k hk=> ?_⟩⟩
    . have:=b3 e he j hj3
      omega
    . obtain⟨e,he,rfl⟩:=List.mem_map.mp hk
      exact hv e he
  intro H2 vs s2 h2 hv hr2
  obtain⟨x0,x1,x2,rfl⟩:=Wn hv
  obtain⟨d0,k0,e0,g0,v0⟩:=hr2 (x0,0) (by simp)
  obtain⟨d1,k1,e1,g1,v1⟩:=hr2 (x1,1) (by simp)
  obtain⟨d2,k2,e2,g2,v2⟩:=hr2 (x2,2) (by simp)
  have h2':H2 p=some (.lst [.ref d0,.ref d1,.ref d2]):=by rw [<-show x0= .ref d0 from e0,<-show x1= .ref d1 from e1,<-show x2= .ref d2 from e2];exact h2
  clear hr2 hv h2 e0 e1 e2
  refine⟨⟨_,s2.tup hf.it⟩,Jt (es:=fs) (inj:=(·.1)) (fun pre σ' H'=>∃(o4 o5 o6 o7:Option V),H'=H2/\σ'=[some (.ref a),some (.ref c),some (.ref p),some (.int (Ke t b (mo fs) (pre.map (·.2)))),o4,o5,o6,o7]) ⟨_,_,_,_,rfl,rfl⟩ ?_ ?_ ?_⟩
  . rintro pre σ' H' ⟨o4,o5,o6,o7,rfl,rfl⟩
    exact Fp (s2.tup hf.it)
  . rintro pre e post σ' H' hE ⟨o4,o5,o6,o7,rfl,rfl⟩
    have hm:e∈fs:=by rw [hE];simp
    obtain⟨⟨c1,c2,ec,hc1,hc2⟩,ln⟩:=(hf.al e hm).mono s2
    have be:=b3 e hm
    have w0:=v0 _ (List.mem_map.mpr ⟨e,hm,rfl⟩)
    have w1:=v1 _ (List.mem_map.mpr ⟨e,hm,rfl⟩)
    have w2:=v2 _ (List.mem_map.mpr ⟨e,hm,rfl⟩)
    have z0:=Wx (M:=mo fs 0) (hc.zt 0 (by decide)) (hc.zb 0 (by decide)) (be 0 (by decide)).1 (be 0 (by decide)).2 (m3 0 (by decide)).2
    have z1:=Wx (M:=mo fs 1) (hc.zt 1 (by decide)) (hc.zb 1 (by decide)) (be 1 (by decide)).1 (be 1 (by decide)).2 (m3 1 (by decide)).2
    have z2:=Wx (M:=mo fs 2) (hc.zt 2 (by decide)) (hc.zb 2 (by decide)) (be 2 (by decide)).1 (be 2 (by decide)).2 (m3 2 (by decide)).2
    have zw:=hw e hm
    have ix:∀j:Nat,j<3->(e.2.1.map V.int)[j]? =some (.int (e.2.1.getD j 0)):=fun j hj=>by
      rw [List.getElem?_map,List.getD_eq_getElem?_getD,List.getElem?_eq_getElem (by omega)]
      rfl
    rw [ec]
    refine Bo hc1 ?_
    contradiction
    refine K1 (.of h2') (v:= .ref d0) rfl ?_
    try contradiction
    refine Bw (.of hc2) (Dc (j:=0) (ix 0 (by decide))) ?_
    try contradiction
    refine⟨d0,_,rfl,Xd g0 w0,?_⟩
    try contradiction
    refine⟨zw.mulOk z0 (by decide),K1 (.of h2') (v:= .ref d1) rfl ?_⟩
    try contradiction
    refine Bw (.of hc2) (Dc (j:=1) (ix 1 (by decide))) ?_
    try contradiction
    refine⟨d1,_,rfl,Xd g1 w1,?_⟩
    try contradiction
    refine⟨(zw.mul z0).mulOk z1 (by decide),K1 (.of h2') (v:= .ref d2) rfl ?_⟩
    try contradiction
    refine Bw (.of hc2) (Dc (j:=2) (ix 2 (by decide))) ?_
    try contradiction
    refine⟨d2,_,rfl,Xd g2 w2,?_⟩
    try contradiction
    refine⟨((zw.mul z0).mul z1).mulOk z2 (by decide),o4,o5,some (.ref c2),some (.int e.2.2),?_⟩
    have ev:Ke t b (mo fs) ((pre++ [e]).map (·.2))=Ke t b (mo fs) (pre.map (·.2))+vt t b (mo fs) e.2:=by
      rw [List.map_append]
      exact Ir _ _ _ _ _
    rw [ev]
    rfl
  rintro σ' H' ⟨o4,o5,o6,o7,rfl,rfl⟩
  contradiction
  refine⟨by decide,by decide,X6 3 (fun i=> .int (0+(i:Nat))) (fun i σ' H3=>∃o5,σ'=[some (.ref a),some (.ref c),some (.ref p),some (.int (Ke t b (mo fs) (fs.map (·.2)))),some (.int (vb b (mo fs) i)),o5,o6,o7]/\Same H H3) ⟨_,rfl,s2⟩ ?_ ?_ ?_⟩
  . rintro i σ' H3 _
    exact Cp
  . rintro i σ' H3 hi ⟨o5,rfl,s3⟩
    rw [Int.zero_add]
    contradiction
    refine Bw (s3.tup hc.it) (v:= .ref (q i)) (Dc (by rw [List.getElem?_map,List.getElem?_range hi];rfl)) ?_
    try contradiction
    refine Bw (s3.tup (hc.pt i hi)) (v:= .int (b i)) rfl ?_
    try contradiction
    refine⟨a,fs,i,rfl,hf.mono s3,hl,hi,fun M H4 s4 hM=> ?_⟩
    rw [hM.is_mo]
    have mi:=m3 i hi
    refine⟨b i,(mo fs i).toNat,100,by rw [Int.toNat_of_nonneg mi.1],hc.zb i hi,by decide,by omega,fun H5 s5=> ?_⟩
    try contradiction
    refine⟨(Ue hc.zb (fun j hj=>(m3 j hj).2) i (by omega)).mulOk (Dh (hc.zb i hi) _) ?_,_,rfl,(s3.trans s4).trans s5⟩
    have:100*(mo fs i).toNat<=100*3:=Nat.mul_le_mul_left _ (by omega)
    omega
  . rintro σ' H3 ⟨o5,rfl,s3⟩
    contradiction
    have vp:=Ry (M:=mo fs) hc.bp 3 (by decide)
    exact⟨_,_,rfl,by omega,(Ue hc.zb (fun j hj=>(m3 j hj).2) 3 (by decide)).mono (by decide),fun z H4 s4 hq=>k z H4 (s3.trans s4) hq⟩
def Gw (K:PySem.W.Frag):Sp:=fun vs H Q _=>∃(l:Addr) (ns:List Int),vs=[.ref l]/\H l=some (.lst (ns.map V.int))/\∀(p:Addr) (t b:Int) H' ms,Dr l H H' ms->H' p=some (.tup [.int t,.int b])->0<b->Sz 100 t->Sz 100 b->Q (.ref p) H'
theorem S5 {x:Int}{n:Nat} (h:x.natAbs<2^60) (hn:60<=n):Sz n x:=(show Sz 60 x from h).mono hn
theorem ix3 {x y z r:Int} (h0:0<=r) (h3:r<3):∃v,atI [V.int x,V.int y,V.int z] r=some (.int v)/\(v=x\/v=y\/v=z):=by
  have:r=0\/r=1\/r=2:=by omega
  rcases this with rfl | rfl | rfl
  . exact⟨x,rfl,.inl rfl⟩
  . exact⟨y,rfl,.inr (.inl rfl)⟩
  . exact⟨z,rfl,.inr (.inr rfl)⟩
theorem ix2 {x y r:Int} (h0:0<=r) (h2:r<2):∃v,atI [V.int x,V.int y] r=some (.int v)/\(v=x\/v=y):=by
  have:r=0\/r=1:=by omega
  rcases this with rfl | rfl
  . exact⟨x,rfl,.inl rfl⟩
  . exact⟨y,rfl,.inr rfl⟩
theorem Dr.new {l c:Addr}{H H':Hp}{ms:List Int}{zs:List V}{o:HO} (d:Dr l (upd H c o) H' ms) (hl:H l=some (.lst zs)) (hc:H c=none):Dr l H H' ms/\H' c=some o:=
  ⟨⟨fun b u n e=>d.sm b u n (Same.upd hc _ _ _ e),d.it⟩,d.sm _ _ (Ne.symm (Ar hl hc)) Ae⟩
theorem Lr {f:Addr}{fd:FuncData} (F:Df K mg "_law_fraction" En ["_law_draws_here"] f fd) (z_abs:mg "abs"=none)  (c_q_next:Cal P w K mg base 1 "_law_next" ["_law_draws_here","_law_most"] (Fl K)):Cal P w K mg base 2 "_law_fraction" ["_law_draws_here"] (Gw K):=by
  refine F.cal (F.fn.ok Cw (fun vs H Q E h=> ?_) (fun cdv A outer s H vs Q E hr h=> ?_))
  . obtain⟨l,ns,rfl,_⟩:=h
    rfl
  obtain⟨l,ns,rfl,hS,k⟩:=h
  refine S.Bf ⟨_,(S.Ac (S.Ak (i:=1) Cw.nd rfl (Or.inl rfl) (S.Aj Bc S.Ad (S.Bj Ea (S.Em (S.Aa S.Ad (S.Aa (S.Am c_q_next (hr.mono (by decide)) (S.Aa (S.pv 0) (S.Aa S.Ad S.Ab))) (S.Aa (S.Am c_q_next (hr.mono (by decide)) (S.Aa (S.pv 0) (S.Aa (S.Aj Fe S.Ad S.Ad) S.Ab))) S.Ab)))) (S.Am c_q_next (hr.mono (by decide)) (S.Aa (S.pv 0) (S.Aa S.Ad S.Ab))) (fun _ _=>rfl))))
      (S.Ac (S.Ak (i:=2) Cw.nd rfl (Or.inl rfl) (S.Bj Ea (S.Em (S.Aa (S.Aj Im (S.Am c_q_next (hr.mono (by decide)) (S.Aa (S.pv 0) (S.Aa S.Ad S.Ab))) S.Ad) (S.Aa (S.Aj Im (S.Am c_q_next (hr.mono (by decide)) (S.Aa (S.pv 0) (S.Aa (S.Aj Bh S.Ad (S.Aj Fe S.Ad S.Ad)) S.Ab))) (S.Aj Fe S.Ad S.Ad)) S.Ab))) (S.Am c_q_next (hr.mono (by decide)) (S.Aa (S.pv 0) (S.Aa S.Ad S.Ab))) (fun _ _=>rfl)))
      (S.Ac (S.Ho (i:=3) (j:=4) rfl Cw.nd rfl rfl (by decide) rfl rfl (S.Aa (S.Bv Hx rfl z_abs PyProof.Rows.boot_abs (S.Aa (S.pv 2) S.Ab)) (S.Aa (S.pv 1) S.Ab)) rfl)
      (S.Ac (S.Ec PassesOwn.never (S.Al T6 (S.pv 4) S.Ad (Ax _)) (S.Af (S.Ho (i:=3) (j:=4) rfl Cw.nd rfl rfl (by decide) rfl rfl (S.Aa (S.pv 4) (S.Aa (S.Aj Fj (S.pv 3) (S.pv 4)) S.Ab)) rfl)))
      (S.Af (S.Ao (S.Bu (S.Aa (S.Aj Ed (S.pv 2) (S.pv 3)) (S.Aa (S.Aj Ed (S.pv 1) (S.pv 3)) S.Ab))))))))),?_⟩
  contradiction
  refine Dz hS (by decide) fun r1 H1 m1 r10 r11 d1=> ?_
  try contradiction
  refine⟨⟨by decide,by decide,by decide⟩,Dz d1.it (by decide) fun r2 H2 m2 r20 r21 d2=> ?_⟩
  try contradiction
  refine⟨by decide,fun c hc=> ?_⟩
  have s3:=Same.upd hc (.lst [V.int 0,V.int r1,V.int r2])
  refine Dz (s3 _ _ d2.it) (by decide) fun i H3 m3 i0 i3 d3=> ?_
  obtain⟨d3,c3⟩:=d3.new d2.it hc
  obtain⟨v,ev,hv⟩:=ix3 (x:=0) (y:=r1) (z:=r2) i0 i3
  have e12:(10:Int)^Int.toNat 12=1000000000000:=by decide
  rw [e12]at r21
  refine K1 (.of c3) ev ?_
  have vb:0<=v/\v<=1000000000000:=by omega
  have d123:=(d1.trans d2).trans d3
  clear s3 d1 d2 d3 c3 ev hv
  try contradiction
  refine Dz d123.it (by decide) fun r3 H4 m4 r30 r31 d4=> ?_
  try contradiction
  refine⟨⟨by decide,by decide,by decide⟩,.of_left (Q0 (by decide)),Dz d4.it (by decide) fun r5 H5 m5 r50 r51 d5=> ?_⟩
  try contradiction
  refine⟨⟨by decide,by decide,by decide⟩,fun c5 hc5=> ?_⟩
  rw [e12]at r51 ⊢
  have s6:=Same.upd hc5 (.lst [V.int (r3-4),V.int (r5-1000000000000)])
  refine Dz (s6 _ _ d5.it) (by decide) fun i2 H6 m6 i20 i22 d6=> ?_
  obtain⟨d6,c6⟩:=d6.new d5.it hc5
  obtain⟨T,eT,hT⟩:=ix2 (x:=r3-4) (y:=r5-1000000000000) i20 i22
  refine K1 (.of c6) eT ?_
  have tb:T.natAbs<=1000000000000:=by omega
  have d46:=d123.trans ((d4.trans d5).trans d6)
  clear s6 d4 d5 d6 c6 eT hT d123
  try contradiction
  obtain⟨B,eB⟩:∃B,B=1+v:=⟨_,rfl⟩
  rw [<-eB]
  have hB:0<B/\B<=1000000000001:=by omega
  refine Il (fun σ H'=>∃x y:Nat,H'=H6/\σ=[some (.ref l),some (.int B),some (.int T),some (.int (x:Nat)),some (.int (y:Nat))]/\Nat.gcd x y=Nat.gcd T.natAbs B.natAbs) (fun σ _=>match σ with | [_,_,_,_,some (.int y)]=>y.toNat | _=>0) ⟨T.natAbs,B.natAbs,rfl,?_,rfl⟩ ?_
  . have e1:(if T<0 then-T else T)=((T.natAbs:Nat):Int):=by split<;>omega
    have e2:B=((B.natAbs:Nat):Int):=by omega
    rw [e1,<-e2]
  rintro σ H' ⟨x,y,rfl,rfl,e⟩
  contradiction
  by_cases hy:(0:Int)<(y:Nat)
  . rw [if_pos hy]
    refine Xv ?_
    contradiction
    refine⟨by omega,⟨y,x%y,by rw [Int.natCast_emod],by rw [K3];exact e⟩,?_⟩
    show((x:Int)%(y:Int)).toNat<(y:Int).toNat
    rw [<-Int.natCast_emod,Int.toNat_natCast,Int.toNat_natCast]
    exact Nat.mod_lt _ (by omega)
  . rw [if_neg hy]
    have y0:y=0:=by omega
    subst y0
    rw [Nat.gcd_zero_right]at e
    have g0:0<x:=by
      rw [e]
      exact Nat.gcd_pos_of_pos_right _ (by omega)
    have dv:x∣B.natAbs:=by
      rw [e]
      exact Nat.gcd_dvd_right _ _
    have lx:x<=B.natAbs:=Nat.le_of_dvd (by omega) dv
    have hc:Abj T x:=⟨by omega,(S5 (n:=60) (x:=(x:Int)) (by omega) (by decide)).log2 (by omega) (by decide)⟩
    refine⟨hc,hc,fun p hp=> ?_⟩
    have q1:T.natAbs/x<=T.natAbs:=Nat.div_le_self _ _
    have bpos:0<B/(x:Int):=Int.ediv_pos_of_pos_of_dvd hB.1 (by omega) (by
      have:=Int.natCast_dvd_natCast.mpr dv
      rwa [show((B.natAbs:Nat):Int)=B by omega]at this)
    have blt:B/(x:Int)<=B:=Int.ediv_le_self _ (by omega)
    have tl:(T/(x:Int)).natAbs<=1000000000001:=by
      have h1:T/(x:Int)<=1000000000001:=Int.le_trans (Int.ediv_le_ediv (b:=1000000000001) (by omega) (by omega)) (Int.ediv_le_self _ (by decide))
      have h2: -1000000000001<=T/(x:Int):=by
        refine(Int.le_ediv_iff_mul_le (by omega)).mpr ?_
        have:(1:Int)*1000000000001<=(x:Int)*1000000000001:=Int.mul_le_mul_of_nonneg_right (by omega) (by decide)
        omega
      omega
    exact k p _ _ _ m6 (d46.same (Same.upd hp _)) Ae bpos (S5 (by omega) (by decide)) (S5 (by omega) (by decide))
def Rz (K:PySem.W.Frag):Sp:=fun vs H Q _=>∃(v:V) (t b:Int),vs=[v,.int t,.int b]/\b≠0/\Sz 4000 t/\Sz 4000 b/\IsQ K H v (Rat.divInt t b)/\∀H',Q (.bl true) H'
theorem Y9 {f:Addr}{fd:FuncData} (F:Df K mg "_law_is" P0 ["_law_found","_law_top","_law_bottom"] f fd) (z_abs:mg "abs"=none) (z_isinstance:mg "isinstance"=none) (z_tuple:mg "tuple"=none) (z_len:mg "len"=none) (z_all:mg "all"=none) (z_int:mg "int"=none)   :Cal P w K mg base 1 "_law_is" ["_law_found","_law_top","_law_bottom"] (Rz K):=by
  refine F.cal (F.fn.ok Ny (fun vs H Q E h=> ?_) (fun cdv A outer s H vs Q E hr h=> ?_))
  . obtain⟨v,t,b,rfl,_⟩:=h
    rfl
  obtain⟨v,t,b,rfl,hb,zt,zb,⟨a,rfl,ha⟩,k⟩:=h
  have zn:Sz 4000 (Rat.divInt t b).num:=zt.of_abs (Abm t b)
  have zd:Sz 4000 ((Rat.divInt t b).den:Int):=zb.of_abs (by have:=Abx (a:=t) hb;omega)
  have dp:0<(Rat.divInt t b).den:=(Rat.divInt t b).den_pos
  have cop:Nat.gcd (Rat.divInt t b).num.natAbs (Rat.divInt t b).den=1:=(Rat.divInt t b).reduced
  have cr:(Rat.divInt t b).num*b=t*((Rat.divInt t b).den:Int):=by
    have h1:Rat.divInt (Rat.divInt t b).num ((Rat.divInt t b).den:Int)=Rat.divInt t b:=Rat.num_divInt_den _
    exact(Rat.divInt_eq_divInt_iff (by omega) hb).mp h1
  generalize Rat.divInt t b=q at*
  refine S.Bf ⟨_,(S.Ac (S.Dp (S.K6 (S.Ga (S.Gx (S.Fx (S.Bv Pq rfl z_isinstance PyProof.Rows.boot_isinstance (S.Aa (S.pv 0) (S.Aa (S.Ds (v:= .ty "tuple") rfl z_tuple PyProof.Rows.boot_tuple rfl) S.Ab))))) (S.Ga (S.Al Jy (S.Bv Bm rfl z_len PySem.boot_len (S.Aa (S.pv 0) S.Ab)) S.Ad (Ax _)) (S.Fy (S.Gx (S.Fx (S.Bv (Ia rfl) rfl z_all PyProof.Rows.boot_all (S.Aa (S.Cj (ts:=["_law_part"]) (fs:=[]) rfl (Ay.of (sc:=Ag P0) (N:=["_law_found","_law_top","_law_bottom","_law_one","_law_two"]) rfl rfl (by decide+kernel)) (S.Dn (S.pv 0)) (fun _ _ _=>(S.Ah (i:=0) (show List.Nodup (["_law_part"]:List Str)by decide+kernel) rfl (Or.inl rfl))) (fun _ _ _=>S.Cy) (fun _ _ _=>(S.Bv (Tz K) rfl z_isinstance PyProof.Rows.boot_isinstance (S.Aa (S.pv 0) (S.Aa (S.Ds (v:= .ty "int") rfl z_int PyProof.Rows.boot_int rfl) S.Ab))))) S.Ab)))))))) (S.Af (S.Ao S.Hv)) S.Bd)
      (S.Ac (S.Ho (i:=3) (j:=4) rfl Ny.nd rfl rfl (by decide) rfl rfl (S.Aa (S.Bv Hx rfl z_abs PyProof.Rows.boot_abs (S.Aa (S.Bj Bk (S.pv 0) S.Ad (fun _ _=>rfl)) S.Ab)) (S.Aa (S.Bj Bk (S.pv 0) S.Ad (fun _ _=>rfl)) S.Ab)) rfl)
      (S.Ac (S.Ec PassesOwn.never (S.Al T6 (S.pv 4) S.Ad (Ax _)) (S.Af (S.Ho (i:=3) (j:=4) rfl Ny.nd rfl rfl (by decide) rfl rfl (S.Aa (S.pv 4) (S.Aa (S.Aj Fj (S.pv 3) (S.pv 4)) S.Ab)) rfl)))
      (S.Af (S.Ao (S.Kh (S.Gg T6 (S.Bj Bk (S.pv 0) S.Ad (fun _ _=>rfl)) S.Ad (Ax _)) (S.Kh (S.Gg M5 (S.pv 3) S.Ad (Ax _)) (S.Mp (S.Gg M5 (S.Aj Bh (S.Bj Bk (S.pv 0) S.Ad (fun _ _=>rfl)) (S.pv 2)) (S.Aj Bh (S.pv 1) (S.Bj Bk (S.pv 0) S.Ad (fun _ _=>rfl))) (Ax _)))))))))),?_⟩
  contradiction
  refine⟨a,_,_,_,rfl,ha,Ew,?_⟩
  try contradiction
  refine⟨a,_,rfl,.inr ha,?_⟩
  try contradiction
  rw [if_pos (show((2:Nat):Int)=2 from rfl)]
  refine⟨⟨_,ha⟩,fun p1 hp1=>Et (es:=[q.num,(q.den:Int)]) (inj:=V.int) (fun _=> .bl true) (by show 2<=sizeLine;decide) hp1 (Fz ha) ?_ ?_⟩
  . intro e H2 R he s2 hR
    contradiction
    refine isi (.int e) Yh ?_
    try contradiction
    exact hR _ (Same.refl _)
  intro H2 s2 h2
  try contradiction
  refine⟨p1,[true,true],rfl,.of h2,?_⟩
  try contradiction
  have h3:=s2.tup ha
  rw [if_neg (by simp)]
  refine Bw h3 (v:= .int q.num) rfl ?_
  try contradiction
  refine Bw h3 (v:= .int (q.den:Int)) rfl ?_
  refine Il (fun σ H'=>∃x y:Nat,H'=H2/\σ=[some (.ref a),some (.int t),some (.int b),some (.int (x:Nat)),some (.int (y:Nat))]/\Nat.gcd x y=1) (fun σ _=>match σ with | [_,_,_,_,some (.int y)]=>y.toNat | _=>0) ⟨q.num.natAbs,q.den,rfl,?_,cop⟩ ?_
  . have e1:(if q.num<0 then-q.num else q.num)=((q.num.natAbs:Nat):Int):=by split<;>omega
    rw [e1]
  rintro σ H' ⟨x,y,rfl,rfl,e⟩
  contradiction
  by_cases hy:(0:Int)<(y:Nat)
  . rw [if_pos hy]
    refine Xv ?_
    contradiction
    refine⟨by omega,⟨y,x%y,by rw [Int.natCast_emod],by rw [K3];exact e⟩,?_⟩
    show((x:Int)%(y:Int)).toNat<(y:Int).toNat
    rw [<-Int.natCast_emod,Int.toNat_natCast,Int.toNat_natCast]
    exact Nat.mod_lt _ (by omega)
  . rw [if_neg hy]
    have y0:y=0:=by omega
    subst y0
    rw [Nat.gcd_zero_right]at e
    subst e
    refine Bw h3 (v:= .int (q.den:Int)) rfl ?_
    try contradiction
    have d0:(0:Int)<(q.den:Int):=by omega
    rw [if_pos d0]
    rw [if_pos (show((1:Nat):Int)=1 from rfl)]
    refine Bw h3 (v:= .int q.num) rfl ?_
    try contradiction
    refine⟨zn.mulOk zb (by decide),Bw h3 (v:= .int (q.den:Int)) rfl ?_⟩
    try contradiction
    refine⟨zt.mulOk zd (by decide),?_⟩
    rw [decide_eq_true cr]
    exact k _
def J9 (K:PySem.W.Frag):Sp:=fun vs H Q _=>∃(a c:Addr) (fs:List (V × (List Int × Int))) (q:Nat->Addr) (t b:Nat->Int),vs=[.ref a,.ref c]/\Frm K H a fs/\fs.length<64/\At3 K H c q t b 100/\(∀e∈fs,Sz 200 e.2.2)/\(∀e∈fs,∀x∈e.2.1,0<=x/\x<=3)/\
  ∀z H',Same H H'->H' z=some (.tup [.int (Ke t b (mo fs) (fs.map (·.2))),.int (Ac0 b (mo fs))])->Q (.ref z) H'
structure Eqh (H H':Hp):Prop where
  e:H'=H
def vp (t b M:Nat->Int) (e:List Int × Int):Nat->Int
  | 0=>e.2
  | k+1=>vp t b M e k*sc (t k) (b k) (M k) (e.1.getD k 0)
theorem Yt {t b M:Nat->Int}{e:List Int × Int} (hw:Sz 200 e.2) (ht:∀j,j<3->Sz 100 (t j)) (hb:∀j,j<3->Sz 100 (b j)) (hk:∀j,j<3->0<=e.1.getD j 0/\e.1.getD j 0<=3) (hM:∀j,j<3->M j<=3):∀i,i<=3->Sz (200+602*i) (vp t b M e i)
  | 0,_=>hw
  | i+1,hi=>by
    have h1:=Yt hw ht hb hk hM i (by omega)
    exact(h1.mul (Wx (M:=M i) (ht i (by omega)) (hb i (by omega)) (hk i (by omega)).1 (hk i (by omega)).2 (hM i (by omega)))).mono (by omega)
theorem Abi {fs:List (V × (List Int × Int))}{j:Nat}{M:Int} (h:∀e∈fs,0<=e.2.1.getD j 0) (hM:M∈0::fs.map fun e=>e.2.1.getD j 0) (hB:∀x∈0::fs.map (fun e=>e.2.1.getD j 0),x<=M):M=mo fs j:=by
  have a0:=hB 0 (by simp)
  have hi:mo fs j<=M:=by
    unfold mo
    by_cases z:fs=[]
    . rw [z]
      exact a0
    . exact hB _ (.tail _ (Le _ (fun y=>z (List.map_eq_nil_iff.mp y))).1)
  refine Int.le_antisymm ?_ hi
  rcases List.mem_cons.mp hM with e | m
  . rw [e]
    unfold mo
    by_cases z:fs=[]
    . rw [z]
      exact Int.le_refl _
    . obtain⟨e',he',ee'⟩:=List.mem_map.mp (Le (fs.map fun e=>e.2.1.getD j 0) (fun y=>z (List.map_eq_nil_iff.mp y))).1
      rw [<-ee']
      exact h e' he'
  . obtain⟨e',he',ee'⟩:=List.mem_map.mp m
    rw [<-ee']
    exact Zu he'
theorem Qx {f:Addr}{fd:FuncData} (F:Df K mg "_law_value" Fg ["_law_f","_law_at"] f fd) (z_range:mg "range"=none) (z_max:mg "max"=none)   :Cal P w K mg base 1 "_law_value" ["_law_f","_law_at"] (J9 K):=by
  refine F.cal (F.fn.ok Az (fun vs H Q E h=> ?_) (fun cdv A outer s H vs Q E hr h=> ?_))
  . obtain⟨a,c,fs,q,t,b,rfl,_⟩:=h
    rfl
  obtain⟨a,c,fs,q,t,b,rfl,hf,hl,hc,hw,hb,k⟩:=h
  have b3:∀e∈fs,∀j,j<3->0<=e.2.1.getD j 0/\e.2.1.getD j 0<=3:=fun e he j hj=>Ls (hf.al e he).ln (hb e he) hj
  have m3:∀j,j<3->0<=mo fs j/\mo fs j<=3:=fun j hj=>Wv (by decide) fun e he=>b3 e he j hj
  refine S.Bf ⟨_,(S.Ac (S.Gp (ts:=["_law_k"]) (fs:=[(0,"_law_f")]) rfl (Ge.of (sc:=Ag Fg) (N:=["_law_f","_law_at","_law_most","_law_top","_law_bottom","_law_k","_law_powers","_law_weight_here","_law_part","_law_turn"]) rfl rfl (by decide+kernel)) (S.Bl rfl z_range (S.Aa S.Ad S.Ab)) (fun _ _ _=>(S.Ah (i:=0) (show List.Nodup (["_law_k","_law_f"]:List Str)by decide+kernel) rfl (Or.inr rfl))) (fun _ _ _=>S.Cy) (fun _ _ _=>(S.Bv (Ks K rfl) rfl z_max PyProof.Rows.boot_max (S.Aa (S.Aj R8 (S.Em (S.Aa S.Ad S.Ab)) (S.Cj (ts:=["_law_powers","_law_weight_here"]) (fs:=[(0,"_law_k")]) rfl (Ay.inD (sc:=Ag Fg) rfl (by decide+kernel)) (S.N5 K rfl (S.pv 1)) (fun _ _ _=>(S.Di K 2 rfl rfl (S.Ai (S.Ah (i:=0) (show List.Nodup (["_law_powers","_law_weight_here","_law_k"]:List Str)by decide+kernel) rfl (Or.inl rfl) (hf:=Or.inr rfl)) (S.Ai (S.Ah (i:=1) (show List.Nodup (["_law_powers","_law_weight_here","_law_k"]:List Str)by decide+kernel) rfl (Or.inl rfl) (hf:=Or.inr rfl)) S.Bb)))) (fun _ _ _=>S.Cy) (fun _ _ _=>(S.Bj (Fb K) (S.pv 0) (S.pv 2) (fun _ _=>rfl))))) S.Ab))) (S.Ah (i:=2) Az.nd rfl (Or.inl rfl)))
      (S.Ac (S.Ak (i:=3) Az.nd rfl (Or.inl rfl) S.Ad)
      (S.Ac (S.Bt PassesOwn.never rfl (S.Dn (S.pv 0)) (S.Cq rfl (S.Ai (S.Ah (i:=6) Az.nd rfl (Or.inl rfl)) (S.Ai (S.Ah (i:=7) Az.nd rfl (Or.inl rfl)) S.Bb))) (S.Ac (S.Ak (i:=8) Az.nd rfl (Or.inl rfl) (S.pv 7))
      (S.Ac (S.Bt PassesOwn.never rfl (S.Bl rfl z_range (S.Aa S.Ad S.Ab)) (S.Ah (i:=5) Az.nd rfl (Or.inl rfl)) (S.Ac (S.Bt PassesOwn.never rfl (S.Bl rfl z_range (S.Aa (S.Bj Bk (S.pv 6) (S.pv 5) (fun _ _=>rfl)) S.Ab)) (S.Ah (i:=9) Az.nd rfl (Or.inl rfl)) (S.Af (S.Ak (i:=8) Az.nd rfl (Or.inl rfl) (S.Aj Bh (S.pv 8) (S.Bj Bk (S.Bj Bk (S.pv 1) (S.pv 5) (fun _ _=>rfl)) S.Ad (fun _ _=>rfl))))))
      (S.Af (S.Bt PassesOwn.never rfl (S.Bl rfl z_range (S.Aa (S.Aj Im (S.Bj Ea (S.pv 2) (S.pv 5) (fun _ _=>rfl)) (S.Bj Bk (S.pv 6) (S.pv 5) (fun _ _=>rfl))) S.Ab)) (S.Ah (i:=9) Az.nd rfl (Or.inl rfl)) (S.Af (S.Ak (i:=8) Az.nd rfl (Or.inl rfl) (S.Aj Bh (S.pv 8) (S.Bj Bk (S.Bj Bk (S.pv 1) (S.pv 5) (fun _ _=>rfl)) S.Ad (fun _ _=>rfl)))))))))
      (S.Af (S.Ak (i:=3) Az.nd rfl (Or.inl rfl) (S.Aj Bc (S.pv 3) (S.pv 8)))))))
      (S.Ac (S.Ak (i:=4) Az.nd rfl (Or.inl rfl) S.Ad)
      (S.Ac (S.Bt PassesOwn.never rfl (S.Bl rfl z_range (S.Aa S.Ad S.Ab)) (S.Ah (i:=5) Az.nd rfl (Or.inl rfl)) (S.Af (S.Bt PassesOwn.never rfl (S.Bl rfl z_range (S.Aa (S.Bj Ea (S.pv 2) (S.pv 5) (fun _ _=>rfl)) S.Ab)) (S.Ah (i:=9) Az.nd rfl (Or.inl rfl)) (S.Af (S.Ak (i:=4) Az.nd rfl (Or.inl rfl) (S.Aj Bh (S.pv 4) (S.Bj Bk (S.Bj Bk (S.pv 1) (S.pv 5) (fun _ _=>rfl)) S.Ad (fun _ _=>rfl))))))))
      (S.Af (S.Ao (S.Bu (S.Aa (S.pv 3) (S.Aa (S.pv 4) S.Ab)))))))))),?_⟩
  contradiction
  refine⟨by decide,by decide,fun p hp=>Et (es:=List.range 3) (inj:=fun i=> .int (0+(i:Nat))) (fun j=> .int (mo fs j)) (by decide) hp Lf ?_ ?_⟩
  . intro j H2 R hj s2 hR
    have hj3:j<3:=List.mem_range.mp hj
    rw [Int.zero_add]
    contradiction
    intro p1 hp1
    have s3:=s2.trans (Same.upd hp1 (.lst [V.int 0]))
    refine⟨⟨_,s3.tup hf.it⟩,fun p2 hp2=>Et (es:=fs) (inj:=(·.1)) (fun e=> .int (e.2.1.getD j 0)) (Nat.le_trans (Nat.le_of_lt hl) (by decide)) hp2 (Fz (s3.tup hf.it)) ?_ ?_⟩
    . intro e H4 R4 he s4 hR4
      obtain⟨⟨c1,c2,ec,hc1,hc2⟩,ln⟩:=(hf.al e he).mono (s3.trans s4)
      rw [ec]
      refine Bo hc1 ?_
      contradiction
      refine Bw (.of hc2) (v:= .int (e.2.1.getD j 0)) (Dc ?_) (hR4 _ (Same.refl _))
      rw [List.getElem?_map,List.getD_eq_getElem?_getD,List.getElem?_eq_getElem (by omega)]
      rfl
    intro H4 s4 h4
    have em:fs.map (fun e=>V.int (e.2.1.getD j 0))=(fs.map fun e=>e.2.1.getD j 0).map V.int:=by rw [List.map_map];rfl
    rw [em]at h4
    refine⟨p1,p2,[V.int 0],_,rfl,rfl,s4 _ _ Ae,h4,?_,fun p3 hp3=> ?_⟩
    . rw [List.length_map,List.length_map]
      exact Nat.le_trans (show 1+fs.length<=64 by omega) (by decide)
    refine⟨p3,0::fs.map fun e=>e.2.1.getD j 0,rfl,.inl (.of Ae),by simp,fun M hM hB=> ?_⟩
    have eM:M=mo fs j:=Abi (fun e he=>(b3 e he j hj3).1) hM hB
    rw [eM]
    exact hR _ ((Same.trans (Same.upd hp1 _) s4).trans (Same.upd hp3 _))
  intro H2 s2 h2
  have h2':H2 p=some (.lst ((List.range 3).map fun j=>V.int (mo fs j))):=h2
  have ixm:∀j:Nat,j<3->atI ((List.range 3).map fun j=>V.int (mo fs j)) (j:Nat)=some (.int (mo fs j)):=fun j hj=>Dc (by rw [List.getElem?_map,List.getElem?_range hj];rfl)
  have ixa:∀j:Nat,j<3->atI ((List.range 3).map fun j=>V.ref (q j)) (j:Nat)=some (.ref (q j)):=fun j hj=>Dc (by rw [List.getElem?_map,List.getElem?_range hj];rfl)
  have hc2:=hc.mono s2
  have hf2:=hf.mono s2
  refine⟨⟨_,hf2.it⟩,Jt (es:=fs) (inj:=(·.1)) (fun pre σ' H'=>∃(o4 o5 o6 o7 o8 o9:Option V),Eqh H2 H'/\σ'=[some (.ref a),some (.ref c),some (.ref p),some (.int (Ke t b (mo fs) (pre.map (·.2)))),o4,o5,o6,o7,o8,o9]) ⟨_,_,_,_,_,_,⟨rfl⟩,rfl⟩ ?_ ?_ ?_⟩
  . rintro pre σ' H' ⟨o4,o5,o6,o7,o8,o9,⟨rfl⟩,rfl⟩
    exact Fp hf2.it
  . rintro pre e post σ' H' hE ⟨o4,o5,o6,o7,o8,o9,⟨rfl⟩,rfl⟩
    have hm:e∈fs:=by rw [hE];simp
    obtain⟨⟨c1,c2,ec,g1,g2⟩,ln⟩:=hf2.al e hm
    have be:=b3 e hm
    have zv:=Yt (M:=mo fs) (hw e hm) hc.zt hc.zb be fun j hj=>(m3 j hj).2
    have ix:∀j:Nat,j<3->atI (e.2.1.map V.int) (j:Nat)=some (.int (e.2.1.getD j 0)):=fun j hj=>Dc (by
      rw [List.getElem?_map,List.getD_eq_getElem?_getD,List.getElem?_eq_getElem (by omega)]
      rfl)
    rw [ec]
    refine Bo g1 ?_
    contradiction
    refine⟨by decide,by decide,X6 3 (fun i=> .int (0+(i:Nat))) (fun i σ' H3=>∃o5 o9,Eqh H' H3/\σ'=[some (.ref a),some (.ref c),some (.ref p),some (.int (Ke t b (mo fs) (pre.map (·.2)))),o4,o5,some (.ref c2),some (.int e.2.2),some (.int (vp t b (mo fs) e.2 i)),o9]) ⟨_,_,⟨rfl⟩,rfl⟩ ?_ ?_ ?_⟩
    . rintro i σ' H3 _
      exact Cp
    . rintro i σ' H3 hi ⟨o5,o9,⟨rfl⟩,rfl⟩
      rw [Int.zero_add]
      have bi:=be i hi
      have mi:=m3 i hi
      have le:=Zu (j:=i) hm
      have zi:=zv i (by omega)
      contradiction
      refine Bw (.of g2) (ix i hi) ?_
      try contradiction
      refine⟨by omega,by omega,X6 (e.2.1.getD i 0).toNat (fun i=> .int (0+(i:Nat))) (fun r σ' H4=>∃o9,Eqh H3 H4/\σ'=[some (.ref a),some (.ref c),some (.ref p),some (.int (Ke t b (mo fs) (pre.map (·.2)))),o4,some (.int (i:Nat)),some (.ref c2),some (.int e.2.2),some (.int (vp t b (mo fs) e.2 i*t i^r)),o9]) ⟨_,⟨rfl⟩,by rw [Int.pow_zero,Int.mul_one]⟩ ?_ ?_ ?_⟩
      . rintro r σ' H4 _
        exact Cp
      . rintro r σ' H4 hr' ⟨o9,⟨rfl⟩,rfl⟩
        contradiction
        refine Bw hc2.it (ixa i hi) ?_
        try contradiction
        refine Bw (hc2.pt i hi) (v:= .int (t i)) rfl ?_
        try contradiction
        have:100*r<=100*3:=Nat.mul_le_mul_left _ (by omega)
        refine⟨(zi.mul (Dh (hc.zt i hi) r)).mulOk (hc.zt i hi) (by omega),some (.int (0+(r:Nat))),⟨rfl⟩,?_⟩
        rw [Int.mul_assoc,<-Int.pow_succ]
      . rintro σ' H4 ⟨o9,⟨rfl⟩,rfl⟩
        contradiction
        refine K1 (.of h2') (ixm i hi) ?_
        try contradiction
        refine Bw (.of g2) (ix i hi) ?_
        try contradiction
        refine⟨by omega,by omega,X6 (mo fs i-e.2.1.getD i 0).toNat (fun i=> .int (0+(i:Nat))) (fun r σ' H5=>∃o9,Eqh H4 H5/\σ'=[some (.ref a),some (.ref c),some (.ref p),some (.int (Ke t b (mo fs) (pre.map (·.2)))),o4,some (.int (i:Nat)),some (.ref c2),some (.int e.2.2),some (.int (vp t b (mo fs) e.2 i*t i^(e.2.1.getD i 0).toNat*b i^r)),o9]) ⟨_,⟨rfl⟩,by rw [Int.pow_zero,Int.mul_one]⟩ ?_ ?_ ?_⟩
        . rintro r σ' H5 _
          exact Cp
        . rintro r σ' H5 hr' ⟨o9,⟨rfl⟩,rfl⟩
          contradiction
          refine Bw hc2.it (ixa i hi) ?_
          try contradiction
          refine Bw (hc2.pt i hi) (v:= .int (b i)) rfl ?_
          try contradiction
          have:100*r<=100*3:=Nat.mul_le_mul_left _ (by omega)
          have:100*(e.2.1.getD i 0).toNat<=100*3:=Nat.mul_le_mul_left _ (by omega)
          refine⟨((zi.mul (Dh (hc.zt i hi) _)).mul (Dh (hc.zb i hi) r)).mulOk (hc.zb i hi) (by omega),some (.int (0+(r:Nat))),⟨rfl⟩,?_⟩
          rw [Int.mul_assoc,<-Int.pow_succ]
        . rintro σ' H5 ⟨o9,⟨rfl⟩,rfl⟩
          refine⟨some (.int (i:Nat)),o9,⟨rfl⟩,?_⟩
          rw [Int.mul_assoc]
          rfl
    . rintro σ' H3 ⟨o5,o9,⟨rfl⟩,rfl⟩
      contradiction
      refine⟨o4,o5,some (.ref c2),some (.int e.2.2),some (.int (vp t b (mo fs) e.2 3)),o9,⟨rfl⟩,?_⟩
      have ev:Ke t b (mo fs) ((pre++ [e]).map (·.2))=Ke t b (mo fs) (pre.map (·.2))+vt t b (mo fs) e.2:=by
        rw [List.map_append]
        exact Ir _ _ _ _ _
      rw [ev]
      rfl
  rintro σ' H' ⟨o4,o5,o6,o7,o8,o9,⟨rfl⟩,rfl⟩
  contradiction
  refine⟨by decide,by decide,X6 3 (fun i=> .int (0+(i:Nat))) (fun i σ' H3=>∃o5 o9,Eqh H' H3/\σ'=[some (.ref a),some (.ref c),some (.ref p),some (.int (Ke t b (mo fs) (fs.map (·.2)))),some (.int (vb b (mo fs) i)),o5,o6,o7,o8,o9]) ⟨_,_,⟨rfl⟩,rfl⟩ ?_ ?_ ?_⟩
  . rintro i σ' H3 _
    exact Cp
  . rintro i σ' H3 hi ⟨o5,o9,⟨rfl⟩,rfl⟩
    rw [Int.zero_add]
    have mi:=m3 i hi
    have zi:=Ue hc.zb (fun j hj=>(m3 j hj).2) i (by omega)
    contradiction
    refine K1 (.of h2') (ixm i hi) ?_
    try contradiction
    refine⟨by omega,by omega,X6 (mo fs i).toNat (fun i=> .int (0+(i:Nat))) (fun r σ' H4=>∃o9,Eqh H3 H4/\σ'=[some (.ref a),some (.ref c),some (.ref p),some (.int (Ke t b (mo fs) (fs.map (·.2)))),some (.int (vb b (mo fs) i*b i^r)),some (.int (i:Nat)),o6,o7,o8,o9]) ⟨_,⟨rfl⟩,by rw [Int.pow_zero,Int.mul_one]⟩ ?_ ?_ ?_⟩
    . rintro r σ' H4 _
      exact Cp
    . rintro r σ' H4 hr' ⟨o9,⟨rfl⟩,rfl⟩
      contradiction
      refine Bw hc2.it (ixa i hi) ?_
      try contradiction
      refine Bw (hc2.pt i hi) (v:= .int (b i)) rfl ?_
      try contradiction
      have:100*r<=100*3:=Nat.mul_le_mul_left _ (by omega)
      refine⟨(zi.mul (Dh (hc.zb i hi) r)).mulOk (hc.zb i hi) (by omega),some (.int (0+(r:Nat))),⟨rfl⟩,?_⟩
      rw [Int.mul_assoc,<-Int.pow_succ]
    . rintro σ' H4 ⟨o9,⟨rfl⟩,rfl⟩
      exact⟨_,_,⟨rfl⟩,rfl⟩
  . rintro σ' H3 ⟨o5,o9,⟨rfl⟩,rfl⟩
    contradiction
    exact fun z hz=>k z _ (s2.trans (Same.upd hz _)) Ae
theorem O7 {H H1:Hp}{Q:VK}{E:XK}{a:Addr}{ns:List Int}{j:Int} (hS:SqL K H1 a (ns.map V.int)) (s1:Same H1 H) (h0:0<=j) (h:Q (.int (cell ns j)) H):Ey K [.ref a,.int j] H Q E:=⟨a,ns,j,rfl,s1.seq hS,h0,h⟩
theorem Qm {B:Nat} (k:List Int):∀ {ts:List (List Int × Int)},(∀e∈ts,e.2.natAbs<=B)->(Aw ts k).natAbs<=ts.length*B
  | [],_=>Nat.zero_le _
  | e::r,h=>by
    have h1:=Qm k (ts:=r) fun x hx=>h x (.tail _ hx)
    have h2:=h e (.head _)
    show((if e.1=k then e.2 else 0)+Aw r k).natAbs<=(r.length+1)*B
    rw [Nat.succ_mul]
    split<;>omega
theorem Uw {x:List Int × Int}:∀ {gs:List (List Int × Int)},UpT gs->x∈gs->Aw gs x.1=x.2
  | [],_,h=>nomatch h
  | g::r,u,m=>by
    have pu:=List.pairwise_cons.mp u
    rcases List.mem_cons.mp m with rfl | m
    . exact Dg u
    . show(if g.1=x.1 then g.2 else 0)+Aw r x.1=x.2
      rw [if_neg fun z=>J4 (pu.1 _ m) z,Uw pu.2 m]
      omega
theorem Uq {t b M:Nat->Int} (ht:∀j,j<3->Sz 100 (t j)) (hb:∀j,j<3->Sz 100 (b j)) (hM:∀j,j<3->M j<=3):∀(ts:List (List Int × Int)),(∀e∈ts,Sz 200 e.2/\∀j,j<3->0<=e.1.getD j 0/\e.1.getD j 0<=3)->Sz (2006+ts.length) (Ke t b M ts)
  | [],_=>by
    show Sz _ 0
    unfold Sz
    exact Nat.two_pow_pos _
  | e::r,h=>by
    have h1:=Uq ht hb hM r fun x hx=>h x (.tail _ hx)
    have he:=h e (.head _)
    have h2:Sz 2006 (vt t b M e):=Yt (M:=M) he.1 ht hb he.2 hM 3 (by decide)
    exact((h2.mono (show 2006<=2006+r.length by omega)).add h1).mono (by rw [List.length_cons];omega)
structure Gd (K:PySem.W.Frag) (H:Hp) (a:Addr) (fs:List (V × (List Int × Int))) (n:Nat):Prop where
  fm:Frm K H a fs
  le:fs.length<=n
  lo:∀e∈fs,∀x∈e.2.1,0<=x/\x<=3
  sz:∀e∈fs,Sz 100 e.2.2
theorem Gd.mono {H H':Hp}{a:Addr}{fs:List (V × (List Int × Int))}{n:Nat} (h:Gd K H a fs n) (s:Same H H'):Gd K H' a fs n:=⟨h.fm.mono s,h.le,h.lo,h.sz⟩
theorem Gd.of {H:Hp}{a:Addr}{fs es:List (V × (List Int × Int))}{n:Nat} (h:Frm K H a fs) (e:∀k,Aw (fs.map (·.2)) k=Aw (es.map (·.2)) k) (l:fs.length<=n) (le:es.length<=10) (lo:∀e∈es,Lo e.2):Gd K H a fs n:=by
  refine⟨h,l,fun x hx=> ?_,fun x hx=> ?_⟩
  . obtain⟨y,hy,ey⟩:=h.keys e x hx
    obtain⟨y,hy',rfl⟩:=List.mem_map.mp hy
    rw [<-ey]
    exact(lo y hy').1
  . have h1:Aw (es.map (·.2)) x.2.1=x.2.2:=by
      rw [<-e]
      exact Uw h.up (List.mem_map.mpr ⟨x,hx,rfl⟩)
    have h2:=Qm (B:=10^20) x.2.1 (ts:=es.map (·.2)) fun y hy=>by
      obtain⟨z,hz,rfl⟩:=List.mem_map.mp hy
      exact(lo z hz).2
    rw [h1,List.length_map]at h2
    have h3:es.length*10^20<=10*10^20:=Nat.mul_le_mul_right _ le
    exact Nat.lt_of_le_of_lt (Nat.le_trans h2 h3) (by decide)
theorem J6 {H:Hp}{Q:VK}{a b:Addr}{fs gs:List (V × (List Int × Int))} (ha:Frm K H a fs) (hb:Frm K H b gs) (e:∀k,Aw (fs.map (·.2)) k=Aw (gs.map (·.2)) k) (q:Q (.bl false) H):Aa4 K (fun b=> !b) (.ref a) (.ref b) H Q:=
  Acl ha hb (by rw [decide_eq_true (ha.same hb e)];exact q)
theorem Jo (us:List (List Int × Int)):SeqAt.shaped (.list (us.map fD3))=true:=by
  have h1:=O5 us
  have h2:=Ol us
  simp [SeqAt.shaped,PyData.canLay0,PyData.depth,h1]
  omega
theorem ne_self {H:Hp}{Q:VK}{a b:Addr}{fs:List (V × (List Int × Int))} (ha:SqL K H a (fs.map (·.1))) (hb:SqL K H b (fs.map (·.1))) (al:∀e∈fs,Te K H e.1 e.2) (q:Q (.bl false) H):Aa4 K (fun b=> !b) (.ref a) (.ref b) H Q:=by
  refine⟨_,_,.lst ha (Jr fs al),.lst hb (Jr fs al),Jo _,Jo _,?_⟩
  rw [PyData.eqv,Np,decide_eq_true rfl]
  exact q
theorem Ab4 {f:Addr}{fd:FuncData} (F:Df K mg "law" Kw ["_law_script"] f fd) (z_list:mg "list"=none) (z_reversed:mg "reversed"=none)  (c_q_draws:Cal P w K mg base 1 "_law_draws" ["_law_cell","_law_many"] (J8 K)) (c_q_terms:Cal P w K mg base 3 "_law_terms" ["_law_draws_here","_law_many","_law_most"] (J5 K)) (c_form:Cal P w K mg base 1 "form" ["terms"] (Ot K)) (c_q_weight:Cal P w K mg base 2 "_law_weight" ["_law_draws_here"] (Gh K)) (c_q_value:Cal P w K mg base 1 "_law_value" ["_law_f","_law_at"] (J9 K)) (c_q_is:Cal P w K mg base 1 "_law_is" ["_law_found","_law_top","_law_bottom"] (Rz K)) (c_q_cell_at:Cal P w K mg base 1 "_law_cell_at" ["_law_script","_law_k"] (Ey K)) (c_f_scaled:Cal P w K mg base 1 "f_scaled" ["f","number"] (Jg K)) (c_q_sum:Cal P w K mg base 1 "_law_sum" ["_law_terms_here"] (Kv K)) (c_q_fraction:Cal P w K mg base 2 "_law_fraction" ["_law_draws_here"] (Gw K)) (c_f_value:Cal P w K mg base 6 "f_value" ["f","at"] (Kg K)) (c_is_form:Cal P w K mg base 3 "is_form" ["thing"] (Kq K)) (c_f_plus:Cal P w K mg base 2 "f_plus" ["f","g"] (Mu K)) (c_f_times:Cal P w K mg base 2 "f_times" ["f","g"] (Kr K)) (c_q_product:Cal P w K mg base 2 "_law_product" ["_law_f","_law_g"] (Hl K)):Mg P w K mg base CX0 7 f fd ["_law_script"] (Wm K):=by
  refine F.fn.ok Ek (fun vs H Q E h=> ?_) (fun cdv A outer s H vs Q E hr h=> ?_)
  . obtain⟨a,ns,rfl,_⟩:=h
    rfl
  obtain⟨a,ns,rfl,hS,h63,k⟩:=h
  refine S.Bf ⟨_,(S.Ac (S.Ak (i:=1) Ek.nd rfl (Or.inl rfl) (S.Am c_q_draws (hr.mono (by decide)) (S.Aa (S.Am c_q_cell_at (hr.mono (by decide)) (S.Aa (S.pv 0) (S.Aa S.Ad S.Ab))) (S.Aa S.Ad S.Ab))))
      (S.Ac (S.Ak (i:=2) Ek.nd rfl (Or.inl rfl) (S.Am c_q_terms (hr.mono (by decide)) (S.Aa (S.pv 1) (S.Aa S.Ad (S.Aa S.Ad S.Ab)))))
      (S.Ac (S.Ak (i:=3) Ek.nd rfl (Or.inl rfl) (S.Am c_q_terms (hr.mono (by decide)) (S.Aa (S.Am c_q_draws (hr.mono (by decide)) (S.Aa (S.Am c_q_cell_at (hr.mono (by decide)) (S.Aa (S.pv 0) (S.Aa S.Ad S.Ab))) (S.Aa S.Ad S.Ab))) (S.Aa S.Ad (S.Aa S.Ad S.Ab)))))
      (S.Ac (S.Ak (i:=4) Ek.nd rfl (Or.inl rfl) (S.Ej Nh rfl z_list PyProof.Rows.boot_list (S.Aa (S.pv 2) S.Ab)))
      (S.Ac (S.Ak (i:=5) Ek.nd rfl (Or.inl rfl) (S.Am c_form (hr.mono (by decide)) (S.Aa (S.pv 4) S.Ab)))
      (S.Ac (S.Ak (i:=6) Ek.nd rfl (Or.inl rfl) (S.Am c_form (hr.mono (by decide)) (S.Aa (S.M6 rfl rfl z_list rfl z_reversed (S.Aa (S.pv 3) S.Ab)) S.Ab)))
      (S.Ac (S.Dp (S.K6 (S.Ga (S.Al (Ji hr.units) (S.pv 4) (S.pv 2) (Ax _)) (S.Ga (S.Al (Ji hr.units) (S.pv 5) (S.Am c_q_sum (hr.mono (by decide)) (S.Aa (S.pv 2) S.Ab)) (Ax _)) (S.Ga (S.Al (Ji hr.units) (S.pv 6) (S.Am c_q_sum (hr.mono (by decide)) (S.Aa (S.pv 3) S.Ab)) (Ax _)) (S.Fy (S.Al (Ji hr.units) (S.Am c_form (hr.mono (by decide)) (S.Aa (S.M6 rfl rfl z_list rfl z_reversed (S.Aa (S.pv 2) S.Ab)) S.Ab)) (S.pv 5) (Ax _))))))) (S.Af (S.Ao S.Hv)) S.Bd)
      (S.Ac (S.Dp (S.K6 (S.Ga (S.Al Tr (S.Am c_is_form (hr.mono (by decide)) (S.Aa (S.pv 5) S.Ab)) S.Hv (Ax _)) (S.Fy (S.Al Tr (S.Am c_is_form (hr.mono (by decide)) (S.Aa (S.pv 6) S.Ab)) S.Hv (Ax _))))) (S.Af (S.Ao S.Hv)) S.Bd)
      (S.Ac (S.Dp (S.K6 (S.Ga (S.Al (Ji hr.units) (S.Am c_f_plus (hr.mono (by decide)) (S.Aa (S.pv 5) (S.Aa (S.pv 6) S.Ab))) (S.Am c_q_sum (hr.mono (by decide)) (S.Aa (S.Aj R8 (S.pv 2) (S.pv 3)) S.Ab)) (Ax _)) (S.Fy (S.Al (Ji hr.units) (S.Am c_f_times (hr.mono (by decide)) (S.Aa (S.pv 5) (S.Aa (S.pv 6) S.Ab))) (S.Am c_q_product (hr.mono (by decide)) (S.Aa (S.pv 5) (S.Aa (S.pv 6) S.Ab))) (Ax _))))) (S.Af (S.Ao S.Hv)) S.Bd)
      (S.Ac (S.Ak (i:=7) Ek.nd rfl (Or.inr rfl) (S.Am c_q_weight (hr.mono (by decide)) (S.Aa (S.Am c_q_draws (hr.mono (by decide)) (S.Aa (S.Am c_q_cell_at (hr.mono (by decide)) (S.Aa (S.pv 0) (S.Aa S.Ad S.Ab))) (S.Aa S.Ad S.Ab))) S.Ab)))
      (S.Ac (S.Dp (S.Al (Ji hr.units) (S.Am c_f_scaled (hr.mono (by decide)) (S.Aa (S.pv 5) (S.Aa (S.pv 7) S.Ab))) (S.Am c_q_sum (hr.mono (by decide)) (S.Aa (S.Cj (ts:=["_law_powers","_law_weight_here"]) (fs:=[(7,"_law_factor")]) rfl (Ay.of (sc:=Ag Kw) (N:=["_law_script","_law_draws_here","_law_one","_law_two","_law_handed","_law_first","_law_second","_law_factor","_law_at","_law_top","_law_bottom"]) rfl rfl (by decide+kernel)) (S.Eu (S.pv 2)) (fun _ _ _=>(S.Di K 2 rfl rfl (S.Ai (S.Ah (i:=0) (show List.Nodup (["_law_powers","_law_weight_here","_law_factor"]:List Str)by decide+kernel) rfl (Or.inl rfl) (hf:=Or.inr rfl)) (S.Ai (S.Ah (i:=1) (show List.Nodup (["_law_powers","_law_weight_here","_law_factor"]:List Str)by decide+kernel) rfl (Or.inl rfl) (hf:=Or.inr rfl)) S.Bb)))) (fun _ _ _=>S.Cy) (fun _ _ _=>(S.Bu (S.Aa (S.pv 0) (S.Aa (S.Aj Bh (S.pv 1) (S.pv 2)) S.Ab))))) S.Ab)) (Ax _)) (S.Af (S.Ao S.Hv)) S.Bd)
      (S.Ac (S.Ak (i:=1) Ek.nd rfl (Or.inl rfl) (S.Am c_q_draws (hr.mono (by decide)) (S.Aa (S.Am c_q_cell_at (hr.mono (by decide)) (S.Aa (S.pv 0) (S.Aa S.Ad S.Ab))) (S.Aa S.Ad S.Ab))))
      (S.Ac (S.Ak (i:=8) Ek.nd rfl (Or.inl rfl) (S.Bu (S.Aa (S.Am c_q_fraction (hr.mono (by decide)) (S.Aa (S.pv 1) S.Ab)) (S.Aa (S.Am c_q_fraction (hr.mono (by decide)) (S.Aa (S.pv 1) S.Ab)) (S.Aa (S.Am c_q_fraction (hr.mono (by decide)) (S.Aa (S.pv 1) S.Ab)) S.Ab)))))
      (S.Ac (S.Fw (S.Am c_q_value (hr.mono (by decide)) (S.Aa (S.pv 5) (S.Aa (S.pv 8) S.Ab))) (S.Cq rfl (S.Ai (S.Ah (i:=9) Ek.nd rfl (Or.inl rfl)) (S.Ai (S.Ah (i:=10) Ek.nd rfl (Or.inl rfl)) S.Bb))))
      (S.Af (S.Ao (S.Am c_q_is (hr.mono (by decide)) (S.Aa (S.Am c_f_value (hr.mono (by decide)) (S.Aa (S.pv 5) (S.Aa (S.pv 8) S.Ab))) (S.Aa (S.pv 9) (S.Aa (S.pv 10) S.Ab)))))))))))))))))))),?_⟩
  contradiction
  refine O7 hS (Same.refl _) (by decide) ?_
  try contradiction
  refine⟨_,60,rfl,by decide,fun l0 H1 n0 f0 s1 g1=> ?_⟩
  try contradiction
  refine⟨l0,n0,10,rfl,g1,by decide,fun x1 H2 m2 es1 _ ti1 le1=> ?_⟩
  have t2:Same H H2:=ti1.dr.back f0 s1
  try contradiction
  refine O7 hS t2 (by decide) ?_
  try contradiction
  refine⟨_,60,rfl,by decide,fun l1 H3 n3 f3 s3 g3=> ?_⟩
  try contradiction
  refine⟨l1,n3,6,rfl,g3,by decide,fun x2 H4 m4 es2 _ ti2 le2=> ?_⟩
  have t24:Same H2 H4:=ti2.dr.back f3 s3
  have o4:=t24 _ _ ti1.it
  have al1:∀e∈es1,Te K H4 e.1 e.2:=fun e he=>(ti1.al e he).mono t24
  have lo1:=ti1.lo
  have w4:=ti2.it
  have al2:=ti2.al
  have lo2:=ti2.lo
  have t4:=t2.trans t24
  clear ti1 ti2 t24 s3 g3 s1 g1 t2 f3 f0
  try contradiction
  refine⟨x1,_,rfl,.inl (.of o4),fun y hy=> ?_⟩
  have sy:=Same.upd hy (.lst (es1.map (·.1)))
  have gy:upd H4 y (.lst (es1.map (·.1))) y=some (.lst (es1.map (·.1))):=Ae
  generalize upd H4 y (.lst (es1.map (·.1)))=H5 at sy gy
  refine⟨y,es1,rfl,.inl (.of gy),fun e he=>(al1 e he).mono sy,by omega,fun z1 H6 fs s6 fr1 et1 lf1=> ?_⟩
  have gd1:Gd K H6 z1 fs 10:= .of fr1 et1 (by omega) (by omega) lo1
  try contradiction
  refine⟨x2,_,rfl,.of (s6 _ _ (sy _ _ w4)),fun r hr'=> ?_⟩
  have sr:=Same.upd hr' (.lst (es2.map (·.1)).reverse)
  have gr:upd H6 r (.lst (es2.map (·.1)).reverse) r=some (.lst (es2.reverse.map (·.1))):=by rw [Ae,List.map_reverse]
  generalize upd H6 r (.lst (es2.map (·.1)).reverse)=H7 at sr gr
  have t47:=(sy.trans s6).trans sr
  refine⟨r,es2.reverse,rfl,.inl (.of gr),fun e he=>(al2 e (List.mem_reverse.mp he)).mono t47,by rw [List.length_reverse];omega,fun z2 H8 gs s8 fr2 et2 lf2=> ?_⟩
  rw [List.length_reverse]at lf2
  have et2':∀k,Aw (gs.map (·.2)) k=Aw (es2.map (·.2)) k:=fun k=>by
    rw [et2,List.map_reverse]
    exact Iw (List.reverse_perm _) k
  have gd2:Gd K H8 z2 gs 6:= .of fr2 et2' (by omega) (by omega) lo2
  have t48:=t47.trans s8
  have t58:Same H5 H8:=(s6.trans sr).trans s8
  have gd1:=gd1.mono (sr.trans s8)
  clear fr1 fr2 et2 gr sr s8 s6
  try contradiction
  refine ne_self (fs:=es1) (.of (t58 _ _ gy)) (.of (t48 _ _ o4)) (fun e he=>(al1 e he).mono t48) ?_
  try contradiction
  refine⟨x1,es1,rfl,.of (t48 _ _ o4),fun e he=>(al1 e he).mono t48,by omega,fun z3 H9 hs s9 fr3 et3=> ?_⟩
  refine J6 (gd1.mono s9).fm fr3 (fun k=>by rw [et1,et3]) ?_
  try contradiction
  have t49:=t48.trans s9
  refine⟨x2,es2,rfl,.of (t49 _ _ w4),fun e he=>(al2 e he).mono t49,by omega,fun z4 H10 hs4 s10 fr4 et4=> ?_⟩
  refine J6 (gd2.mono (s9.trans s10)).fm fr4 (fun k=>by rw [et2',et4]) ?_
  try contradiction
  have t410:=t49.trans s10
  refine⟨x1,_,rfl,.of (t410 _ _ o4),fun r2 hr2=> ?_⟩
  have sr:=Same.upd hr2 (.lst (es1.map (·.1)).reverse)
  have gr:upd H10 r2 (.lst (es1.map (·.1)).reverse) r2=some (.lst (es1.reverse.map (·.1))):=by rw [Ae,List.map_reverse]
  generalize upd H10 r2 (.lst (es1.map (·.1)).reverse)=H11 at sr gr
  refine⟨r2,es1.reverse,rfl,.inl (.of gr),fun e he=>(al1 e (List.mem_reverse.mp he)).mono (t410.trans sr),by rw [List.length_reverse];omega,fun z5 H12 hs5 s12 fr5 et5 _=> ?_⟩
  have s812:=((s9.trans s10).trans sr).trans s12
  refine J6 fr5 (gd1.mono s812).fm (fun k=>by
    rw [et1,et5,List.map_reverse]
    exact Iw (List.reverse_perm _) k) ?_
  try contradiction
  have gd1:=gd1.mono s812
  have gd2:=gd2.mono s812
  have t12:=t48.trans s812
  clear fr3 fr4 fr5 et3 et4 et5 s812 s9 s10 sr s12 gr
  refine⟨_,true,rfl,gd1.fm.fm (by have:=gd1.le;omega) (fun e he x hx=>(gd1.lo e he x hx).1),fun H13 s13=>⟨true,true,rfl,rfl,?_⟩⟩
  rw [if_neg (by simp)]
  have gd1:=gd1.mono s13
  have gd2:=gd2.mono s13
  refine⟨_,true,rfl,gd2.fm.fm (by have:=gd2.le;omega) (fun e he x hx=>(gd2.lo e he x hx).1),fun H14 s14=>⟨true,true,rfl,rfl,?_⟩⟩
  rw [if_neg (by simp)]
  have gd1:=gd1.mono s14
  have gd2:=gd2.mono s14
  have t14:=(t12.trans s13).trans s14
  have l1:=gd1.le
  have l2:=gd2.le
  refine⟨z1,z2,fs,gs,rfl,gd1.fm,gd2.fm,by omega,fun z6 H15 hs6 s15 fr6 et6 _=> ?_⟩
  try contradiction
  have t15:=t14.trans s15
  refine⟨x1,x2,_,_,rfl,rfl,t15 _ _ o4,t15 _ _ w4,?_,fun y2 hy2=> ?_⟩
  . rw [List.length_map,List.length_map]
    exact Nat.le_trans (show es1.length+es2.length<=64 by omega) (by decide)
  have sy2:=Same.upd hy2 (.lst (es1.map (·.1)++es2.map (·.1)))
  have gy2:upd H15 y2 (.lst (es1.map (·.1)++es2.map (·.1))) y2=some (.lst ((es1++es2).map (·.1))):=by rw [Ae,List.map_append]
  generalize upd H15 y2 (.lst (es1.map (·.1)++es2.map (·.1)))=H16 at sy2 gy2
  have t16:=t15.trans sy2
  refine⟨y2,es1++es2,rfl,.of gy2,fun e he=> ?_,by rw [List.length_append];omega,fun z7 H17 hs7 s17 fr7 et7=> ?_⟩
  . rcases List.mem_append.mp he with he | he
    . exact(al1 e he).mono t16
    . exact(al2 e he).mono t16
  have s1517:=sy2.trans s17
  refine J6 (fr6.mono s1517) fr7 (fun k=>by rw [et6,et7,List.map_append,Ky,et1,et2']) ?_
  try contradiction
  have gd1:=gd1.mono (s15.trans s1517)
  have gd2:=gd2.mono (s15.trans s1517)
  have t17:=t15.trans s1517
  clear fr6 fr7 et6 et7 gy2 sy2 s17 t16
  have lm:fs.length*gs.length<=10*6:=Nat.mul_le_mul l1 l2
  refine⟨z1,z2,fs,gs,100,rfl,gd1.fm,gd2.fm,by omega,by omega,by omega,by decide,gd1.sz,gd2.sz,fun e he x hx=> ?_,fun e he x hx=> ?_,fun z8 H18 hs8 s18 fr8 et8=> ?_⟩
  . have:=gd1.lo e he x hx
    omega
  . have:=gd2.lo e he x hx
    omega
  refine⟨z1,z2,fs,gs,100,rfl,gd1.fm.mono s18,gd2.fm.mono s18,by omega,by decide,gd1.sz,gd2.sz,fun z9 H19 hs9 s19 fr9 et9=> ?_⟩
  refine J6 (fr8.mono s19) fr9 (fun k=>by rw [et8,et9]) ?_
  try contradiction
  have gd1:=gd1.mono (s18.trans s19)
  have t19:=t17.trans (s18.trans s19)
  clear fr8 fr9 et8 et9 gd2 s18 s19 et2'
  refine O7 hS (t4.trans t19) (by decide) ?_
  try contradiction
  refine⟨_,2,rfl,by decide,fun l5 H20 n20 f20 s20 g20=> ?_⟩
  try contradiction
  refine⟨l5,n20,rfl,g20,fun c H21 m21 hc21 d21=> ?_⟩
  have t1921:Same H19 H21:=d21.back f20 s20
  have gd1:=gd1.mono t1921
  have t21:=t19.trans t1921
  try contradiction
  have zc:Sz 100 c:=Nat.lt_of_le_of_lt hc21 (by decide)
  refine⟨z1,fs,100,c,rfl,gd1.fm,by omega,gd1.sz,zc,by decide,fun z10 H22 hs10 s22 fr10 et10 _=> ?_⟩
  have t22:=t21.trans s22
  refine⟨⟨_,.of (t22 _ _ o4)⟩,fun p hp=>Ik (es:=es1) (inj:=fun e=>e.1) (fun e v H=>Te K H v (e.2.1,e.2.2*c)) (fun e v H H' h s=>h.mono s) (fun e v H ys zs h hp=>h.put hp) (Nat.le_trans (show es1.length<=64 by omega) (by decide)) hp (N8 (.of (t22 _ _ o4))) ?_ ?_⟩
  . intro e H23 R he s23 hR
    obtain⟨⟨b1,b2,eb,hb1,hb2⟩,ln⟩:=(al1 e he).mono (t22.trans s23)
    rw [eb]
    refine Bo hb1 ?_
    contradiction
    have ze:Sz 100 e.2.2:=Nat.lt_of_le_of_lt (lo1 e he).2 (by decide)
    exact⟨ze.mulOk zc (by decide),fun p2 hp2=>hR _ _ (Same.upd hp2 _) ⟨⟨p2,b2,rfl,.of Ae,Same.upd hp2 _ _ _ hb2⟩,ln⟩⟩
  intro H23 vs s23 h23 hv hr23
  try contradiction
  have ev1:(vs.map fun x=>(x.1,((x.2.2.1,x.2.2.2*c):List Int × Int))).map (·.1)=vs.map (·.1):=by rw [List.map_map];rfl
  have ev2:(vs.map fun x=>(x.1,((x.2.2.1,x.2.2.2*c):List Int × Int))).map (·.2)=(es1.map (·.2)).map fun e=>(e.1,e.2*c):=by
    rw [<-hv,List.map_map,List.map_map,List.map_map]
    rfl
  have lv:vs.length=es1.length:=by rw [<-hv,List.length_map]
  refine⟨p,vs.map fun x=>(x.1,(x.2.2.1,x.2.2.2*c)),rfl,by rw [ev1];exact .of h23,fun e he=> ?_,by rw [List.length_map];omega,fun z11 H24 hs11 s24 fr11 et11=> ?_⟩
  . obtain⟨x,hx,rfl⟩:=List.mem_map.mp he
    exact hr23 x hx
  have s2224:=s23.trans s24
  refine J6 (fr10.mono s2224) fr11 (fun k=>by rw [et10,et11,ev2,G7,et1]) ?_
  try contradiction
  have gd1:=gd1.mono (s22.trans s2224)
  have t24:=t4.trans (t22.trans s2224)
  clear fr10 fr11 et10 et11 ev1 ev2 hr23 hv h23 s24 s23 s22 al1 al2 lo1 lo2
  refine O7 hS t24 (by decide) ?_
  try contradiction
  refine⟨_,18,rfl,by decide,fun l6 H25 n25 f25 s25 g25=> ?_⟩
  try contradiction
  refine⟨l6,n25,rfl,g25,fun q1 u1 b1 H26 m26 d26 h26 bp1 zu1 zb1=> ?_⟩
  refine⟨l6,m26,rfl,d26.it,fun q2 u2 b2 H27 m27 d27 h27 bp2 zu2 zb2=> ?_⟩
  refine⟨l6,m27,rfl,d27.it,fun q3 u3 b3 H28 m28 d28 h28 bp3 zu3 zb3=> ?_⟩
  have i1:=d28.tup d27.it (d27.tup d26.it h26)
  have i2:=d28.tup d27.it h27
  have s2428:Same H24 H28:=((d26.trans d27).trans d28).back f25 s25
  have gd1:=gd1.mono s2428
  refine⟨by decide,fun ta hta=> ?_⟩
  have sta:=Same.upd hta (.tup [V.ref q1,V.ref q2,V.ref q3])
  have gta:upd H28 ta (.tup [V.ref q1,V.ref q2,V.ref q3]) ta=some (.tup [V.ref q1,V.ref q2,V.ref q3]):=Ae
  generalize upd H28 ta (.tup [V.ref q1,V.ref q2,V.ref q3])=H29 at sta gta
  have gd1:=gd1.mono sta
  have lt3:∀ {P:Nat->Prop},P 0->P 1->P 2->∀j,j<3->P j:=fun h0 h1 h2 j hj=>by
    match j,hj with
    | 0,_=>exact h0
    | 1,_=>exact h1
    | 2,_=>exact h2
  have at3:At3 K H29 ta (fun j=>[q1,q2,q3].getD j 0) (fun j=>[u1,u2,u3].getD j 0) (fun j=>[b1,b2,b3].getD j 0) 100:=
    ⟨.of gta,lt3 (.of (sta _ _ i1)) (.of (sta _ _ i2)) (.of (sta _ _ h28)),lt3 bp1 bp2 bp3,lt3 zu1 zu2 zu3,lt3 zb1 zb2 zb3⟩
  generalize (fun j=>[q1,q2,q3].getD j 0)=q at at3
  generalize (fun j=>[u1,u2,u3].getD j 0)=u at at3
  generalize (fun j=>[b1,b2,b3].getD j 0)=b at at3
  have sz2:∀e∈fs,Sz 200 e.2.2:=fun e he=>(gd1.sz e he).mono (by decide)
  refine⟨z1,ta,fs,q,u,b,rfl,gd1.fm,by omega,at3,sz2,gd1.lo,fun z12 H30 s30 h30=> ?_⟩
  refine Bo (.of h30) ?_
  try contradiction
  refine⟨z1,ta,fs,q,u,b,rfl,gd1.fm.mono s30,by omega,at3.mono s30,sz2,gd1.lo,fun z13 H31 s31 hq=> ?_⟩
  have m3:∀j,j<3->0<=mo fs j/\mo fs j<=3:=fun j hj=>Wv (by decide) fun e he=>Ls (gd1.fm.al e he).ln (gd1.lo e he) hj
  have vp0:=Ry (M:=mo fs) at3.bp 3 (by decide)
  have vz:=(Ue at3.zb (fun j hj=>(m3 j hj).2) 3 (by decide)).mono (show _<=4000 by decide)
  have zt:=Uq (M:=mo fs) at3.zt at3.zb (fun j hj=>(m3 j hj).2) (fs.map (·.2)) (fun x hx=>by
    obtain⟨e,he,rfl⟩:=List.mem_map.mp hx
    exact⟨sz2 e he,fun j hj=>Ls (gd1.fm.al e he).ln (gd1.lo e he) hj⟩)
  rw [List.length_map]at zt
  exact⟨z13,_,_,rfl,by unfold Ac0;omega,zt.mono (by omega),vz,hq,k⟩
end
abbrev Fd (K:PySem.W.Frag) (x:Str) (st:Stmt):Prop:=∃(f:Addr) (od an:Option Addr) (sl:Array (Option Value)) (oc kV dc pm cd ct:Value),PySem.W.nsIn K mainGlobals x=some (some (.ref f))/\K.lookup f=some ⟨oc,od,.func (PySem.W.fnOf x x (Gk st) (Es st) (Ag st) .none kV dc pm an cd ct),sl⟩/\PySem.W.codeIn K cd x=true/\PySem.W.keepIn K (.ref f)=true
theorem Cz {K:PySem.W.Frag}{h:Heap}{mg:Str->Option Value}{x:Str}{st:Stmt} (X:K.In h) (G:h.Ns mainGlobals mg) (d:Fd K x st) (ps:List Str) (hb:∀(kV doc pm:Value) (an:Option Addr) (cdv ct:Value) (us:List Value),us.length=ps.length->bindArgs (PySem.W.fnOf x x (Gk st) (Es st) (Ag st) .none kV doc pm an cdv ct) ⟨us,[]⟩=pure (ps.zip us)):∃f fd,Df K mg x st ps f fd:=by
  obtain⟨f,_,_,_,_,_,_,_,_,_,a,l,c,k⟩:=d
  have F:=X8 (st:=st) l c k
  exact⟨_,_,F,F.binds hb,PySem.W.mg_of X G a⟩
theorem all_mk {l:PySem.W.OpenLaw}{w:World}{K:PySem.W.Frag}{h:Heap}{mg:Str->Option Value}{fa:Addr} (X:K.In h) (G:h.Ns mainGlobals mg) (hfa:mg "law"=some (.ref fa))
    (d1:Fd K "_law_draws" Jd) (d2:Fd K "_law_next" Lh) (d3:Fd K "_law_weight" Hi) (d4:Fd K "_law_terms" Jm) (d5:Fd K "form" Qg) (d6:Fd K "_law_value" Fg) (d7:Fd K "_law_is" P0) (d8:Fd K "_law_cell_at" Gi) (d9:Fd K "f_scaled" Ft) (d10:Fd K "_law_sum" La) (d11:Fd K "_law_fraction" En) (d12:Fd K "divisor" Jf) (d13:Fd K "fraction" Hh) (d14:Fd K "most" Qk) (d15:Fd K "p_times" Iz) (d16:Fd K "repeated" Hg) (d17:Fd K "power" O6) (d18:Fd K "whole_power" Ef) (d19:Fd K "scaled_powers" Dm) (d20:Fd K "f_value" Gm) (d21:Fd K "is_whole" G6) (d22:Fd K "is_term" Gv) (d23:Fd K "is_form" Er) (d24:Fd K "f_plus" Lx) (d25:Fd K "packed" Ij) (d26:Fd K "unpacked" Hf) (d27:Fd K "greatest_power" Cg) (d28:Fd K "f_times" Jc) (d29:Fd K "_law_product" Gf) (d30:Fd K "law" Kw)
    (zrange:PySem.W.nsIn K mainGlobals "range"=some none) (zlen:PySem.W.nsIn K mainGlobals "len"=some none) (ztuple:PySem.W.nsIn K mainGlobals "tuple"=some none) (zsorted:PySem.W.nsIn K mainGlobals "sorted"=some none) (zmax:PySem.W.nsIn K mainGlobals "max"=some none) (zabs:PySem.W.nsIn K mainGlobals "abs"=some none) (zisinstance:PySem.W.nsIn K mainGlobals "isinstance"=some none) (zall:PySem.W.nsIn K mainGlobals "all"=some none) (zint:PySem.W.nsIn K mainGlobals "int"=some none) (zenumerate:PySem.W.nsIn K mainGlobals "enumerate"=some none) (zbool:PySem.W.nsIn K mainGlobals "bool"=some none) (zzip:PySem.W.nsIn K mainGlobals "zip"=some none) (zdivmod:PySem.W.nsIn K mainGlobals "divmod"=some none) (zlist:PySem.W.nsIn K mainGlobals "list"=some none) (zreversed:PySem.W.nsIn K mainGlobals "reversed"=some none):
    ∃fd:FuncData,(∀(s:Shared) (v:Value),BindsTo s fd ⟨[v],[]⟩ [("_law_script",v)])/\∀base:Heap,K.In base->base.Ns mainGlobals mg->Mg l.prog w K mg base CX0 7 fa fd ["_law_script"] (Wm K):=by
  obtain⟨f30,_,an,sl,oc,kV,dc,pm,cd,ct,a30,l30,c30,k30⟩:=d30
  obtain⟨f15,_,_,_,_,_,_,_,_,_,a15,_⟩:=id d15
  obtain⟨f17,_,_,_,_,_,_,_,_,_,a17,_⟩:=id d17
  have e:=hfa.symm.trans (PySem.W.mg_of X G a30)
  cases e
  have z_range:=PySem.W.mg_none_of X G zrange
  have z_len:=PySem.W.mg_none_of X G zlen
  have z_tuple:=PySem.W.mg_none_of X G ztuple
  have z_sorted:=PySem.W.mg_none_of X G zsorted
  have z_max:=PySem.W.mg_none_of X G zmax
  have z_abs:=PySem.W.mg_none_of X G zabs
  have z_isinstance:=PySem.W.mg_none_of X G zisinstance
  have z_all:=PySem.W.mg_none_of X G zall
  have z_int:=PySem.W.mg_none_of X G zint
  have z_enumerate:=PySem.W.mg_none_of X G zenumerate
  have z_bool:=PySem.W.mg_none_of X G zbool
  have z_zip:=PySem.W.mg_none_of X G zzip
  have z_divmod:=PySem.W.mg_none_of X G zdivmod
  have z_list:=PySem.W.mg_none_of X G zlist
  have z_reversed:=PySem.W.mg_none_of X G zreversed
  have ep_times:=Ab2 a15
  have epower:=Ab2 a17
  have xm_p_times:mg "p_times"=some (.ref (cA K "p_times")):=by rw [ep_times];exact PySem.W.mg_of X G a15
  have xm_power:mg "power"=some (.ref (cA K "power")):=by rw [epower];exact PySem.W.mg_of X G a17
  obtain⟨_,_,D1⟩:=Cz X G d1 ["_law_cell","_law_many"] fun _ _ _ _ _ _ us hl=>match us,hl with | [_,_],_=>rfl
  obtain⟨_,_,D2⟩:=Cz X G d2 ["_law_draws_here","_law_most"] fun _ _ _ _ _ _ us hl=>match us,hl with | [_,_],_=>rfl
  obtain⟨_,_,D3⟩:=Cz X G d3 ["_law_draws_here"] fun _ _ _ _ _ _ us hl=>match us,hl with | [_],_=>rfl
  obtain⟨_,_,D4⟩:=Cz X G d4 ["_law_draws_here","_law_many","_law_most"] fun _ _ _ _ _ _ us hl=>match us,hl with | [_,_,_],_=>rfl
  obtain⟨_,_,D5⟩:=Cz X G d5 ["terms"] fun _ _ _ _ _ _ us hl=>match us,hl with | [_],_=>rfl
  obtain⟨_,_,D6⟩:=Cz X G d6 ["_law_f","_law_at"] fun _ _ _ _ _ _ us hl=>match us,hl with | [_,_],_=>rfl
  obtain⟨_,_,D7⟩:=Cz X G d7 ["_law_found","_law_top","_law_bottom"] fun _ _ _ _ _ _ us hl=>match us,hl with | [_,_,_],_=>rfl
  obtain⟨_,_,D8⟩:=Cz X G d8 ["_law_script","_law_k"] fun _ _ _ _ _ _ us hl=>match us,hl with | [_,_],_=>rfl
  obtain⟨_,_,D9⟩:=Cz X G d9 ["f","number"] fun _ _ _ _ _ _ us hl=>match us,hl with | [_,_],_=>rfl
  obtain⟨_,_,D10⟩:=Cz X G d10 ["_law_terms_here"] fun _ _ _ _ _ _ us hl=>match us,hl with | [_],_=>rfl
  obtain⟨_,_,D11⟩:=Cz X G d11 ["_law_draws_here"] fun _ _ _ _ _ _ us hl=>match us,hl with | [_],_=>rfl
  obtain⟨_,_,D12⟩:=Cz X G d12 ["one","other"] fun _ _ _ _ _ _ us hl=>match us,hl with | [_,_],_=>rfl
  obtain⟨_,_,D13⟩:=Cz X G d13 ["top","bottom"] fun _ _ _ _ _ _ us hl=>match us,hl with | [_,_],_=>rfl
  obtain⟨_,_,D14⟩:=Cz X G d14 ["f","place"] fun _ _ _ _ _ _ us hl=>match us,hl with | [_,_],_=>rfl
  obtain⟨_,_,D15⟩:=Cz X G d15 ["one","other"] fun _ _ _ _ _ _ us hl=>match us,hl with | [_,_],_=>rfl
  obtain⟨_,_,D16⟩:=Cz X G d16 ["start","one","many","product"] fun _ _ _ _ _ _ us hl=>match us,hl with | [_,_,_,_],_=>rfl
  obtain⟨_,_,D17⟩:=Cz X G d17 ["one","many"] fun _ _ _ _ _ _ us hl=>match us,hl with | [_,_],_=>rfl
  obtain⟨_,_,D18⟩:=Cz X G d18 ["number","many"] fun _ _ _ _ _ _ us hl=>match us,hl with | [_,_],_=>rfl
  obtain⟨_,_,D19⟩:=Cz X G d19 ["f","place","point"] fun _ _ _ _ _ _ us hl=>match us,hl with | [_,_,_],_=>rfl
  obtain⟨_,_,D20⟩:=Cz X G d20 ["f","at"] fun _ _ _ _ _ _ us hl=>match us,hl with | [_,_],_=>rfl
  obtain⟨_,_,D21⟩:=Cz X G d21 ["thing"] fun _ _ _ _ _ _ us hl=>match us,hl with | [_],_=>rfl
  obtain⟨_,_,D22⟩:=Cz X G d22 ["thing"] fun _ _ _ _ _ _ us hl=>match us,hl with | [_],_=>rfl
  obtain⟨_,_,D23⟩:=Cz X G d23 ["thing"] fun _ _ _ _ _ _ us hl=>match us,hl with | [_],_=>rfl
  obtain⟨_,_,D24⟩:=Cz X G d24 ["f","g"] fun _ _ _ _ _ _ us hl=>match us,hl with | [_,_],_=>rfl
  obtain⟨_,_,D25⟩:=Cz X G d25 ["f","base"] fun _ _ _ _ _ _ us hl=>match us,hl with | [_,_],_=>rfl
  obtain⟨_,_,D26⟩:=Cz X G d26 ["sums","base"] fun _ _ _ _ _ _ us hl=>match us,hl with | [_,_],_=>rfl
  obtain⟨_,_,D27⟩:=Cz X G d27 ["f"] fun _ _ _ _ _ _ us hl=>match us,hl with | [_],_=>rfl
  obtain⟨_,_,D28⟩:=Cz X G d28 ["f","g"] fun _ _ _ _ _ _ us hl=>match us,hl with | [_,_],_=>rfl
  obtain⟨_,_,D29⟩:=Cz X G d29 ["_law_f","_law_g"] fun _ _ _ _ _ _ us hl=>match us,hl with | [_,_],_=>rfl
  have F30:=X8 (st:=Kw) l30 c30 k30
  have D30:Df K mg "law" Kw ["_law_script"] _ _:=⟨F30,F30.binds (ps:=["_law_script"]) fun _ _ _ _ _ _ us hl=>match us,hl with | [_],_=>rfl,PySem.W.mg_of X G a30⟩
  refine⟨PySem.W.fnOf "law" "law" (Gk Kw) (Es Kw) (Ag Kw) .none kV dc pm an cd ct,fun s v=> .of_eq rfl,fun base _ _=> ?_⟩
  have C_q_draws:=Rh (P:=l.prog) (w:=w) (base:=base) D1 z_range z_len
  have C_q_next:=R3 (P:=l.prog) (w:=w) (base:=base) D2
  have C_q_weight:=Ow (P:=l.prog) (w:=w) (base:=base) D3 C_q_next
  have C_q_terms:=Rp (P:=l.prog) (w:=w) (base:=base) D4 z_range C_q_next C_q_weight
  have C_form:=Z7 (P:=l.prog) (w:=w) (base:=base) D5 z_tuple z_sorted
  have C_q_value:=Qx (P:=l.prog) (w:=w) (base:=base) D6 z_range z_max
  have C_q_is:=Y9 (P:=l.prog) (w:=w) (base:=base) D7 z_abs z_isinstance z_tuple z_len z_all z_int
  have C_q_cell_at:=Mq (P:=l.prog) (w:=w) (base:=base) D8 z_len
  have C_f_scaled:=O2 (P:=l.prog) (w:=w) (base:=base) D9 z_tuple
  have C_q_sum:=Wc (P:=l.prog) (w:=w) (base:=base) D10 z_tuple z_sorted
  have C_q_fraction:=Lr (P:=l.prog) (w:=w) (base:=base) D11 z_abs C_q_next
  have C_divisor:=Rm (P:=l.prog) (w:=w) (base:=base) D12 z_abs
  have C_fraction:=N6 (P:=l.prog) (w:=w) (base:=base) D13 C_divisor
  have C_most:=Aai (P:=l.prog) (w:=w) (base:=base) D14 z_max
  have C_p_times:=Qu (P:=l.prog) (w:=w) (base:=base) D15 z_enumerate z_tuple z_len
  have C_repeated:=Nv (P:=l.prog) (w:=w) (base:=base) D16 xm_p_times C_p_times
  have C_power:=Ws (P:=l.prog) (w:=w) (base:=base) D17 xm_p_times C_repeated
  have C_whole_power:=J0 (P:=l.prog) (w:=w) (base:=base) D18 C_power
  have C_scaled_powers:=Hu (P:=l.prog) (w:=w) (base:=base) D19 C_most C_whole_power
  have C_f_value:=Ra (P:=l.prog) (w:=w) (base:=base) D20 z_range C_fraction C_scaled_powers C_whole_power C_most
  have C_is_whole:=Om (P:=l.prog) (w:=w) (base:=base) D21 z_isinstance z_int z_bool
  have C_is_term:=Ri (P:=l.prog) (w:=w) (base:=base) D22 z_all z_isinstance z_tuple z_len xm_power C_is_whole
  have C_is_form:=Rk (P:=l.prog) (w:=w) (base:=base) D23 z_all z_isinstance z_tuple z_zip C_is_term
  have C_f_plus:=Sh (P:=l.prog) (w:=w) (base:=base) D24 C_form
  have C_packed:=Uc (P:=l.prog) (w:=w) (base:=base) D25
  have C_unpacked:=Oh (P:=l.prog) (w:=w) (base:=base) D26 z_sorted z_tuple z_divmod
  have C_greatest_power:=Hj (P:=l.prog) (w:=w) (base:=base) D27 z_max
  have C_f_times:=Q5 (P:=l.prog) (w:=w) (base:=base) D28 C_packed C_unpacked C_greatest_power
  have C_q_product:=Nf (P:=l.prog) (w:=w) (base:=base) D29 C_q_sum
  exact Ab4 (P:=l.prog) (w:=w) (base:=base) D30 z_list z_reversed C_q_draws C_q_terms C_form C_q_weight C_q_value C_q_is C_q_cell_at C_f_scaled C_q_sum C_q_fraction C_f_value C_is_form C_f_plus C_f_times C_q_product
theorem walk {l:PySem.W.OpenLaw}{q:Program}{loose:List Str}{XP:(Str->Option Value)->Heap->Prop}{YP:World->Heap->Prop}{d:DefRec}{K:Params->PySem.W.Frag} (hn:l.most=some 63) (hdf:d.params.defaults=[])
    (hY:∀(w:World) (h:Heap),YP w h->(K w.params).In h)
    (F:∀(w:World) (mg:Str->Option Value) (fa:Addr) (h:Heap),(K w.params).In h->h.Ns mainGlobals mg->mg d.name=some (.ref fa)->
      ∃fd:FuncData,(∀(s:Shared) (u:Value),BindsTo s fd ⟨[u],[]⟩ [("_law_script",u)])/\∀base:Heap,(K w.params).In base->base.Ns mainGlobals mg->Mg l.prog w (K w.params) mg base CX0 7 fa fd ["_law_script"] (Wm (K w.params))):
    PySem.W.WalkO q loose XP YP l.row.toRowW d [] (fun f vs=>PySem.call f vs):=
  L2.Us (n:=63) (k:=7) (x:="_law_script") (CX:=fun _=>CX0) (sp:=fun w=>Wm (K w.params)) hn (by decide) hdf ⟨rfl,by decide,by decide⟩ hY F (fun _ _ a ns hl _ hS=>⟨a,ns,rfl,hS,hl,fun _=>rfl⟩) fun _ _ _ _ _ z=>z
end Z
namespace PySem.W.Fast
def tw10147024182587072048:=()
def tw10151255755413241742:=()
def tw1028353982109672650:=()
def tw10383638543400895455:=()
def tw10462060304000384114:=()
def tw10664029147659892911:=()
def tw10718118616327936891:=()
def tw10738471239870584330:=()
def tw10743042956266339127:=()
def tw10773124589001052249:=()
def tw10882852508171483330:=()
def tw11009184191783352262:=()
def tw11063063013687506860:=()
def tw11137181508986055636:=()
def tw11839572483278178401:=()
def tw11913433872842211906:=()
def tw11917322832916723359:=()
def tw11987160506946834398:=()
def tw1199351954853884232:=()
def tw1203045646668073010:=()
def tw12030810397573034121:=()
def tw12201216255498842878:=()
def tw12230924079255645070:=()
def tw12288922562519081508:=()
def tw12345864564265533929:=()
def tw12374881760928296629:=()
def tw12421908604301911943:=()
def tw12449497801279429366:=()
def tw12534696601049512799:=()
def tw12646484744948646696:=()
def tw12667203873595543374:=()
def tw12720073077862613962:=()
def tw1272874768814921490:=()
def tw12763872018937947104:=()
def tw12916688923866257356:=()
def tw12980994740990265858:=()
def tw1304297405405298482:=()
def tw13110325447912609189:=()
def tw13138224774385966491:=()
def tw13239018149677445437:=()
def tw13313917591635616570:=()
def tw13315139051281880214:=()
def tw13448943924747567234:=()
def tw13651010105736023059:=()
def tw1371157680245440511:=()
def tw13878316763392229722:=()
def tw13910530953522805617:=()
def tw13915125788448691684:=()
def tw13985296138442907867:=()
def tw14037065802800390028:=()
def tw14096003522248108895:=()
def tw14210718832972675087:=()
def tw14219272495066970093:=()
def tw14246721374645155207:=()
def tw14254453950201738236:=()
def tw14425292308402873191:=()
def tw14482474544334681262:=()
def tw14488052311969879003:=()
def tw14566117596462068058:=()
def tw14598484326976965565:=()
def tw14810414437570612243:=()
def tw14882809181992097354:=()
def tw15128838330579790797:=()
def tw15189135638087556396:=()
def tw15277650249244033876:=()
def tw15279627821783624953:=()
def tw15472750249705553515:=()
def tw15513167311858247514:=()
def tw15663256099241308647:=()
def tw15843162652006443682:=()
def tw15872733711203460135:=()
def tw16267536658790615030:=()
def tw16499602057006658845:=()
def tw16533275264911020600:=()
def tw16533505121900916428:=()
def tw1657600431988383521:=()
def tw16579550175343402143:=()
def tw16828147557431105359:=()
def tw16849486556848796996:=()
def tw16927597211555634638:=()
def tw17074225548553933716:=()
def tw1727848797432493422:=()
def tw17320212871736214291:=()
def tw17442836492700976160:=()
def tw17539484163918090846:=()
def tw17578089519823455030:=()
def tw17595077718524763800:=()
def tw17604351242033683218:=()
def tw17715508353871268771:=()
def tw17811272686118511100:=()
def tw17816759525641650905:=()
def tw17981830700375546805:=()
def tw18150145121105664636:=()
def tw18258392230694825682:=()
def tw18302740335819877253:=()
def tw1890251484401979289:=()
def tw203803679255272093:=()
def tw2240250530184889281:=()
def tw22692960340172961:=()
def tw2316448530736924119:=()
def tw2394266905718597895:=()
def tw2424044369722005545:=()
def tw2506249208312461377:=()
def tw2599246610377142195:=()
def tw2606986875143849663:=()
def tw2628775427209890280:=()
def tw2651686664194661499:=()
def tw27261151027621617:=()
def tw2750588208093151779:=()
def tw2930914041415928971:=()
def tw294751378130143833:=()
def tw3092251260792444888:=()
def tw3342057083095252327:=()
def tw334835304375658467:=()
def tw3434842097215643027:=()
def tw3498416026930446176:=()
def tw3523581150646097863:=()
def tw3547944785125418426:=()
def tw3623815884829847279:=()
def tw3642283323671567268:=()
def tw3683345489178865059:=()
def tw3686023555285036053:=()
def tw3757539092801412046:=()
def tw3895641392727279144:=()
def tw3985655198584455634:=()
def tw3994304296863122005:=()
def tw402578018973850617:=()
def tw4136670288839738149:=()
def tw4190589140676644293:=()
def tw4277299112227828147:=()
def tw4314618656377334964:=()
def tw4336319179613789958:=()
def tw4664728066146994672:=()
def tw4840589445595628284:=()
def tw5031606904065397531:=()
def tw5041153473650230461:=()
def tw5047100773936954754:=()
def tw5071093935150724334:=()
def tw5096541751008042984:=()
def tw5182753835161756363:=()
def tw5469110555892922544:=()
def tw5540802556030428617:=()
def tw5541807712374916572:=()
def tw5558296254433966988:=()
def tw5677676527904384216:=()
def tw5708712436262835207:=()
def tw5734695572094893883:=()
def tw5752135679127576642:=()
def tw587208073024465569:=()
def tw5874845002036253995:=()
def tw6136254172308888945:=()
def tw6154677710428662854:=()
def tw6275209037757977532:=()
def tw6400292352179458344:=()
def tw6524611599759612229:=()
def tw6692086957432825505:=()
def tw67606372504351382:=()
def tw696344445252028543:=()
def tw7101833691538178541:=()
def tw711596342147039141:=()
def tw7228908048210382119:=()
def tw742630659320049725:=()
def tw7532871295097083252:=()
def tw75929667237379622:=()
def tw7597725664284278974:=()
def tw7624363718225056225:=()
def tw7629472216207112233:=()
def tw7651575250041121525:=()
def tw7764064781137252229:=()
def tw7780874333381290417:=()
def tw7925543476283580913:=()
def tw7997590733585618389:=()
def tw8170664937639238237:=()
def tw8216946257854951668:=()
def tw8233397298233581730:=()
def tw8303848218498423467:=()
def tw84409756876296247:=()
def tw846149221079383431:=()
def tw8490229005833670313:=()
def tw8551120224027214998:=()
def tw87234917975877897:=()
def tw8764809783113166040:=()
def tw8793169198080867811:=()
def tw893720040984858603:=()
def tw899965390054180206:=()
def tw9046640523188220828:=()
def tw9064569678574996616:=()
def tw9155344401094028319:=()
def tw9236462801039974948:=()
def tw9237040893386692349:=()
def tw9253057991990109890:=()
def tw9284495845517300782:=()
def tw9307737123537247684:=()
def tw9498262569176267272:=()
def tw961385572378350829:=()
def tw965453403859434642:=()
def tw9739947030986097244:=()
def tw9831138555283291074:=()
def tw9864722844621450044:=()
def tw9963814875245635281:=()
def tw9993644185603842485:=()
end PySem.W.Fast
open PySem PySem.W PyProof.Rows
set_option maxRecDepth 100000 in
set_option maxHeartbeats 0 in
theorem PySem.Challenge.cw_rootcourt_k33_forms_made_holds : PySem.Challenge.rw_rootcourt_k33_forms_made.Holds := by
  w_on;o_law;k_head;(case hw=>w_witness2)
  k_fill
  refine Z.walk (l:=PySem.Challenge.rw_rootcourt_k33_forms_made) rfl rfl (fun w h Y=>PySem.W.kIn_of Y) ?F
  case F=>
    intro w mg fa h KX G hmg
    refine' Z.all_mk KX G hmg ?d1 ?d2 ?d3 ?d4 ?d5 ?d6 ?d7 ?d8 ?d9 ?d10 ?d11 ?d12 ?d13 ?d14 ?d15 ?d16 ?d17 ?d18 ?d19 ?d20 ?d21 ?d22 ?d23 ?d24 ?d25 ?d26 ?d27 ?d28 ?d29 ?d30   ?zrange ?zlen ?ztuple ?zsorted ?zmax ?zabs ?zisinstance ?zall ?zint ?zenumerate ?zbool ?zzip ?zdivmod ?zlist ?zreversed
    all_goals first | k_is | exact⟨_,_,_,_,_,_,_,_,_,_,by k_is,by k_is,by k_is,by k_is⟩
