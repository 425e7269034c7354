import PyProof.Rows.All
import Wide.All
import OpenK.AllK
import Wide.FinOn
import Lean
import PyProof.EqAt
import PyProof.EqKinds
import PyProof.TupleCall
import PySem.Challenge.RW_rootcourt_k74_rows_of_no_shape
set_option maxHeartbeats 4000000
set_option Elab.async false
set_option linter.all false
set_option maxRecDepth 100000
namespace L2
open PySem PySem.Spec PyProof.Rows
abbrev Key:=Sum Int Str
def Abw:Key->Value->Bool
  | .inl k,v=>Value.isInt k v
  | .inr x,v=>Value.isStrOf x v
def Adu (w:World):Key->Int
  | .inl k=>hashInt k
  | .inr x=>hashStr w x
theorem Bl:∀ {k:Key}{v:Value},Abw k v=true->(∃i t,k=Sum.inl i/\v=Value.int i t)\/(∃x t,k=Sum.inr x/\v=Value.str x t)
  | .inl i,v,h=>by
    obtain⟨t,e⟩:=Value.isInt_shape (k:=i) (v:=v) h
    exact .inl ⟨i,t,rfl,e⟩
  | .inr x,v,h=>by
    obtain⟨t,e⟩:=Value.isStrOf_shape (x:=x) (v:=v) h
    exact .inr ⟨x,t,rfl,e⟩
theorem Abk (a b:Int):decide ((Sum.inl a:Key)=Sum.inl b)=(a==b):=by
  by_cases e:a=b
  . subst e;simp
  . have h:¬(Sum.inl a:Key)=Sum.inl b:=fun q=>e (Sum.inl.inj q)
    rw [decide_eq_false h]
    exact(beq_eq_false_iff_ne.mpr e).symm
theorem Aa3 (a b:Str):decide ((Sum.inr a:Key)=Sum.inr b)=decide (a=b):=by
  by_cases e:a=b
  . subst e;simp
  . have h:¬(Sum.inr a:Key)=Sum.inr b:=fun q=>e (Sum.inr.inj q)
    rw [decide_eq_false h,decide_eq_false e]
theorem Abu (a:Int) (b:Str):decide ((Sum.inl a:Key)=Sum.inr b)=false:=decide_eq_false (fun q=>nomatch q)
theorem Abe (a:Str) (b:Int):decide ((Sum.inr a:Key)=Sum.inl b)=false:=decide_eq_false (fun q=>nomatch q)
def V8 (prog:Program) (w:World):PySem.KeyKind prog w Key where
  is:=Abw
  hash:=Adu w
  inj:=fun v a b ha hb=>by
    rcases Bl ha with⟨i,t,rfl,rfl⟩ | ⟨x,t,rfl,rfl⟩
    . rcases Bl hb with⟨j,u,rfl,e⟩ | ⟨y,u,rfl,e⟩
      . injection e with e1 _;rw [e1]
      . exact nomatch e
    . rcases Bl hb with⟨j,u,rfl,e⟩ | ⟨y,u,rfl,e⟩
      . exact nomatch e
      . injection e with e1 _;rw [e1]
  byValue:=fun k v h=>by
    rcases Bl h with⟨i,t,rfl,rfl⟩ | ⟨x,t,rfl,rfl⟩<;>rfl
  pyHash:=fun hv h=>by
    rcases Bl hv with⟨i,t,rfl,rfl⟩ | ⟨x,t,rfl,rfl⟩
    . exact wpAny_pyHash_int h
    . exact wpAny_pyHash_str h
  eqBool:=fun hu hv h=>by
    rcases Bl hu with⟨i,t,rfl,rfl⟩ | ⟨x,t,rfl,rfl⟩
    . rcases Bl hv with⟨j,u,rfl,rfl⟩ | ⟨y,u,rfl,rfl⟩
      . rw [Abk]at h;exact wpAny_eqBool_int h
      . rw [Abu]at h;exact SeqAt.EqAt.int_str i t y u _ _ _ _ h
    . rcases Bl hv with⟨j,u,rfl,rfl⟩ | ⟨y,u,rfl,rfl⟩
      . rw [Abe]at h;exact SeqAt.EqAt.str_int x t j u _ _ _ _ h
      . rw [Aa3]at h;exact wpAny_eqBool_str h
  «strs» :=fun k x t v h=>by
    rcases Bl h with⟨i,u,rfl,e⟩ | ⟨y,u,rfl,e⟩
    . exact nomatch e
    . injection e with e1 _
      subst e1
      cases v<;>rfl
end L2
namespace L2
open PySem PySem.Spec PyProof.Rows
inductive V where
  | non | bl (b:Bool) | int (i:Int) | str (x:Str) | byt (b:Array UInt8) | flt (b:UInt64) | ref (a:Addr) | ty (n:String)
  deriving DecidableEq
def RelV:V->Value->Prop
  | .non,u=>u=Value.none
  | .bl b,u=>u=Value.bool b
  | .int i,u=>∃t,u=Value.int i t
  | .str x,u=>∃t,u=Value.str x t
  | .byt b,u=>∃t,u=Value.bytes b t
  | .flt b,u=>∃t,u=Value.float b t
  | .ref a,u=>u=Value.ref a
  | .ty n,u=>u=Value.type n
abbrev Vals:List V->List Value->Prop:=Paired RelV
theorem Vals.length {xs:List V}{us:List Value} (r:Vals xs us):xs.length=us.length:=Paired.length r
theorem Vals.get:∀ {xs:List V}{us:List Value}{i:Nat}{x:V},Vals xs us->xs[i]? =some x->∃u,us[i]? =some u/\RelV x u
  | _,_,_,_,.nil,e=>by simp at e
  | _,_,0,_,.cons r _,e=>by simp at e;subst e;exact⟨_,rfl,r⟩
  | _,_,i+1,x,.cons _ t,e=>by
    obtain⟨u,h1,h2⟩:=Vals.get (i:=i) (x:=x) t (by simpa using e)
    exact⟨u,by simpa using h1,h2⟩
theorem Vals.set {x:V}{u:Value} (r:RelV x u):∀ {xs:List V}{us:List Value} (i:Nat),Vals xs us->Vals (xs.set i x) (us.set i u)
  | _,_,_,.nil=> .nil
  | _,_,0,.cons _ t=> .cons r t
  | _,_,i+1,.cons q t=> .cons q (Vals.set r i t)
theorem Vals.append:∀ {xs ys:List V}{us ws:List Value},Vals xs us->Vals ys ws->Vals (xs++ys) (us++ws)
  | _,_,_,_,.nil,s=>s
  | _,_,_,_,.cons r t,s=> .cons r (Vals.append t s)
theorem Vals.take:∀ {xs:List V}{us:List Value} (n:Nat),Vals xs us->Vals (xs.take n) (us.take n)
  | _,_,0,_=> .nil
  | _,_,_+1,.nil=> .nil
  | _,_,n+1,.cons r t=> .cons r (Vals.take n t)
theorem Vals.drop:∀ {xs:List V}{us:List Value} (n:Nat),Vals xs us->Vals (xs.drop n) (us.drop n)
  | _,_,0,r=>r
  | _,_,_+1,.nil=> .nil
  | _,_,n+1,.cons _ t=>Vals.drop n t
def X3:Option V->Option Value->Prop
  | some v,some u=>RelV v u
  | none,none=>True
  | _,_=>False
def KV {κ:Type}:List (κ × V)->List (κ × Value)->Prop:=Paired fun(p:κ × V) (q:κ × Value)=>p.1=q.1/\RelV p.2 q.2
def kV:Key->V
  | .inl i=> .int i
  | .inr x=> .str x
inductive HO where
  | lst (xs:List V)
  | tup (xs:List V)
  | dK (kvs:List (Key × V)) | dT (kvs:List (List Key × V))
  | set (S:Int->Bool) (n:Nat)
  | ins (C dx:Addr) (fs:List (Str × V))
  | own (x:Addr)
  | xd (fs:List (Str × V))
  | met (f x:Addr)
  | rng (lo hi:Int)
  | frz (o:Obj) (u:HO)
  | tbl (ps:Array Value)
  | ext (φ:Heap->Prop)
abbrev Hp:=Addr->Option HO
def upd (H:Hp) (a:Addr) (o:HO):Hp:=fun b=>if b=a then some o else H b
theorem Ac {H:Hp}{a:Addr}{o:HO}:upd H a o a=some o:=by unfold upd;rw [if_pos rfl]
theorem Al {H:Hp}{a b:Addr}{o:HO} (h:b≠a):upd H a o b=H b:=by unfold upd;rw [if_neg h]
theorem Rx {H:Hp}{a b:Addr}{o u:HO} (h:H a=some o) (h':H b=some u) (d:o≠u):a≠b:=by
  intro e;subst e;rw [h]at h';exact d (Option.some.inj h')
theorem Ai {H:Hp}{a b:Addr}{o:HO} (h:H a=some o) (h':H b=none):a≠b:=by
  intro e;subst e;rw [h]at h';cases h'
section
variable (P:Program) (w:World)
def Dp (H:Hp) (h:Heap) (a:Addr):HO->Prop
  | .lst xs=>xs.length<=sizeLine/\∃(its:List Value) (n:Nat),Vals xs its/\h.get? a=some { cls:= .type "list",data:= .seq its.toArray n}
  | .tup xs=>xs.length<=sizeLine/\∃its:List Value,Vals xs its/\IsTup h a its.toArray
  | .dK kvs=>kvs.length<=sizeLine/\(a==sysModules)=false/\∃vs,KV kvs vs/\h.DictOf (V8 P w) a vs
  | .dT kvs=>kvs.length<=sizeLine/\(a==sysModules)=false/\∃xs:List (List Key × Addr × Value),
      Paired (fun(p:List Key × V) (q:List Key × Addr × Value)=>p.1=q.1/\H q.2.1=some (.tup (p.1.map kV))/\RelV p.2 q.2.2) kvs xs/\
      ∃o es ep,h.get? a=some o/\o.ExactDict/\o.data= .dict es ep/\es.toList=xs.map (entryOfKey (tupleKind (V8 P w)))/\(xs.map (·.1)).Nodup
  | .set S n=>h.SetOf (intKind P w) a S n
  | .ins C dx fs=>H dx=some (.own a)/\fs.length<=1000/\dx≠a/\h.get? a=some (PySem.W.instObj C dx)/\
      ∃mA,h.Ns1 dx mA/\(∀f,X3 (fs.lookup f) (mA f))/\PySem.Within mA (fs.map (·.1))
  | .own _=>∃o,h.get? a=some o
  | .xd fs=>∃mA,h.Ns1 a mA/\∀f,X3 (fs.lookup f) (mA f)
  | .rng lo hi=>∃t u v,h.get? a=some { cls:= .type "range",data:= .fields #[.int lo t,.int hi u,.int 1 v]}
  | .frz o u=>h.get? a=some o/\Dp H h a u
  | .tbl ps=>h.get? a=some { cls:= .none,data:= .fields ps}
  | .met f x=>h.get? a=some (PySem.W.methodObj (.ref f) (.ref x))
  | .ext φ=>φ h/\(∃o,h.get? a=some o)/\∀h1 h2:Heap,φ h1->(∀o,h1.get? a=some o->h2.get? a=some o)->φ h2
def HOk (H:Hp) (h:Heap):Prop:=∀a o,H a=some o->Dp P w H h a o
end
section
variable {P:Program}{w:World}{H H':Hp}{h h':Heap}{a:Addr}{o:HO}
theorem Dp.lt (x:Dp P w H h a o):a<h.objs.size:=by
  cases o with
  | lst xs=>obtain⟨_,_,_,_,e⟩:=x;exact Heap.lt_size e
  | tup xs=>obtain⟨_,_,_,p⟩:=x;exact p.lt
  | dK kvs=>obtain⟨_,_,_,_,o,_,_,e,_⟩:=x;exact Heap.lt_size e
  | dT kvs=>obtain⟨_,_,_,_,o,_,_,e,_⟩:=x;exact Heap.lt_size e
  | set S n=>obtain⟨o,_,_,_,e,_⟩:=x;exact Heap.lt_size e
  | ins C dx fs=>obtain⟨_,_,_,e,_⟩:=x;exact Heap.lt_size e
  | own y=>obtain⟨_,e⟩:=x;exact Heap.lt_size e
  | xd fs=>obtain⟨_,⟨_,_,_,e,_⟩,_⟩:=x;exact Heap.lt_size e
  | rng lo hi=>obtain⟨_,_,_,e⟩:=x;exact Heap.lt_size e
  | frz ob u=>obtain⟨e,_⟩:=x;exact Heap.lt_size e
  | tbl ps=>exact Heap.lt_size (show h.get? a=some _ from x)
  | met f y=>exact Heap.lt_size (show h.get? a=some _ from x)
  | ext φ=>obtain⟨_,⟨_,e⟩,_⟩:=x;exact Heap.lt_size e
theorem Paired.mapP {α β:Type}{F G:α->β->Prop}:∀ {l₁:List α}{l₂:List β},Paired F l₁ l₂->(∀a b,F a b->G a b)->Paired G l₁ l₂
  | _,_,.nil,_=> .nil
  | _,_,.cons r t,f=> .cons (f _ _ r) (Paired.mapP t f)
theorem Dp.stay (x:Dp P w H h a o) (k:∀b u,(b=a\/H b=some (.own a))->h.get? b=some u->h'.get? b=some u)
    (ho:∀b,H b=some (.own a)->H' b=some (.own a)) (ht:∀b xs,H b=some (.tup xs)->H' b=some (.tup xs)):Dp P w H' h' a o:=by
  induction o with
  | lst xs=>obtain⟨z,its,n,r,e⟩:=x;exact⟨z,its,n,r,k _ _ (.inl rfl) e⟩
  | tup xs=>obtain⟨z,its,r,ob,e,c⟩:=x;exact⟨z,its,r,ob,k _ _ (.inl rfl) e,c⟩
  | dK kvs=>obtain⟨z,y,vs,r,ob,es,ep,e,c⟩:=x;exact⟨z,y,vs,r,ob,es,ep,k _ _ (.inl rfl) e,c⟩
  | dT kvs=>
    obtain⟨z,y,xs,r,ob,es,ep,e,c⟩:=x
    exact⟨z,y,xs,Paired.mapP r fun p q z=>⟨z.1,ht _ _ z.2.1,z.2.2⟩,ob,es,ep,k _ _ (.inl rfl) e,c⟩
  | set S n=>obtain⟨ob,es,ep,t,e,c⟩:=x;exact⟨ob,es,ep,t,k _ _ (.inl rfl) e,c⟩
  | ins C dx fs=>
    obtain⟨d,z,ne,e,mA,⟨od,es,ep,e2,c⟩,r⟩:=x
    exact⟨ho _ d,z,ne,k _ _ (.inl rfl) e,mA,⟨od,es,ep,k _ _ (.inr d) e2,c⟩,r⟩
  | own y=>obtain⟨ob,e⟩:=x;exact⟨ob,k _ _ (.inl rfl) e⟩
  | xd fs=>obtain⟨mA,⟨od,es,ep,e,c⟩,r⟩:=x;exact⟨mA,⟨od,es,ep,k _ _ (.inl rfl) e,c⟩,r⟩
  | rng lo hi=>obtain⟨t,u,v,e⟩:=x;exact⟨t,u,v,k _ _ (.inl rfl) e⟩
  | frz ob u ih=>obtain⟨e,q⟩:=x;exact⟨k _ _ (.inl rfl) e,ih q⟩
  | tbl ps=>
    have e:h.get? a=some { cls:= .none,data:= .fields ps}:=x
    show h'.get? a=some { cls:= .none,data:= .fields ps}
    exact k a _ (.inl rfl) e
  | met f y=>
    have e:h.get? a=some (PySem.W.methodObj (.ref f) (.ref y)):=x
    show h'.get? a=some (PySem.W.methodObj (.ref f) (.ref y))
    exact k a _ (.inl rfl) e
  | ext φ=>obtain⟨p,⟨o,e⟩,st⟩:=x;exact⟨st _ _ p fun o q=>k _ _ (.inl rfl) q,⟨o,k _ _ (.inl rfl) e⟩,st⟩
theorem HOk.lt (x:HOk P w H h) (e:H a=some o):a<h.objs.size:=(x a o e).lt
theorem HOk.fresh (x:HOk P w H h) (e:h.objs.size<=a):H a=none:=by
  cases q:H a with
  | none=>rfl
  | some u=>exact absurd (Nat.lt_of_lt_of_le (x.lt q) e) (Nat.lt_irrefl _)
theorem HOk.kept (x:HOk P w H h) (k:∀b u,h.get? b=some u->h'.get? b=some u):HOk P w H h':=fun a o e=>
  (x a o e).stay (fun b u _ q=>k b u q) (fun _ q=>q) fun _ _ q=>q
theorem HOk.laid (x:HOk P w H h) (k:∀b u,h.get? b=some u->h'.get? b=some u) (hp:h.objs.size<=a) (new:Dp P w (upd H a o) h' a o):HOk P w (upd H a o) h':=fun b u e=>by
  have hn:=x.fresh hp
  by_cases hb:b=a
  . subst hb;rw [Ac]at e;cases e;exact new
  . rw [Al hb]at e
    exact(x b u e).stay (fun c v _ q=>k c v q) (fun c q=>by rw [Al (Ai q hn)];exact q) fun c xs q=>by rw [Al (Ai q hn)];exact q
end
def Rd (H:Hp) (a:Addr) (u:HO):Prop:=H a=some u\/∃o,H a=some (.frz o u)
theorem Rd.of {H:Hp}{a:Addr}{u:HO} (h:H a=some u):Rd H a u:= .inl h
theorem Rd.ok {P:Program}{w:World}{H:Hp}{h:Heap}{a:Addr}{u:HO} (r:Rd H a u) (x:HOk P w H h):Dp P w H h a u:=by
  rcases r with r | ⟨o,r⟩
  . exact x a u r
  . obtain⟨_,q⟩:=x a _ r
    exact q
def Mut:Option HO->Prop
  | some (.lst _)=>True
  | some (.dK _)=>True
  | some (.dT _)=>True
  | some (.set _ _)=>True
  | some (.ins _ _ _)=>True
  | some (.ext _)=>True
  | _=>False
section
variable {P:Program}{w:World}{H:Hp}{h h':Heap}{x e:Addr}{o':HO}
theorem HOk.write (ok:HOk P w H h) (mu:Mut (H x)) (he:e=x\/H e=some (.own x)) (k:∀b u,b≠e->h.get? b=some u->h'.get? b=some u) (heo:∃u,h'.get? e=some u)
    (new:Dp P w (upd H x o') h' x o'):HOk P w (upd H x o') h':=fun b u q=>by
  have nown:∀c y,H c=some (.own y)->c≠x:=fun c y r z=>by subst z;rw [r]at mu;exact mu
  have ntup:∀c xs,H c=some (.tup xs)->c≠x:=fun c xs r z=>by subst z;rw [r]at mu;exact mu
  by_cases hb:b=x
  . subst hb;rw [Ac]at q;cases q;exact new
  . rw [Al hb]at q
    by_cases hbe:b=e
    . have q':H b=some (.own x):=by
        rcases he with z | z
        . exact absurd (hbe.trans z) hb
        . rw [hbe];exact z
      rw [q]at q';cases q'
      obtain⟨v,hv⟩:=heo
      exact⟨v,by rw [hbe];exact hv⟩
    . refine(ok b u q).stay (fun c v hc r=>k c v ?_ r) (fun c r=>by rw [Al (nown c b r)];exact r) fun c xs r=>by rw [Al (ntup c xs r)];exact r
      rcases hc with rfl | hc
      . exact hbe
      . rintro rfl
        rcases he with z | z
        . exact nown c b hc z
        . rw [hc]at z;cases z;exact hb rfl
end
structure Un (fs ex:List Addr) (H H':Hp) (h h':Heap):Prop where
  keep:∀b o,h.get? b=some o->H b=none->b∉fs->b∉ex->h'.get? b=some o
  slot:∀b o,h.get? b=some o->H b=none->b∈fs->b∉ex->∃sl,h'.get? b=some { o with slots:=sl}
  free:∀b o,h.get? b=some o->H b=none->b∉ex->H' b=none
  there:∀b o,h.get? b=some o->b∉ex->∃o',h'.get? b=some o'
  tups:∀b xs,H b=some (.tup xs)->H' b=some (.tup xs)
  frzs:∀b o u,H b=some (.frz o u)->H' b=some (.frz o u)
  tbls:∀b ps,H b=some (.tbl ps)->∃more,H' b=some (.tbl (ps++more))
section
variable {fs fs' ex ex':List Addr}{H H1 H2:Hp}{h h1 h2 h':Heap}{a x e:Addr}{o:HO}
theorem Un.any (u:Un fs ex H H1 h h1) {b:Addr}{ob:Obj} (q:h.get? b=some ob) (n:H b=none) (hx:b∉ex):∃sl,h1.get? b=some { ob with slots:=sl}:=by
  by_cases hb:b∈fs
  . exact u.slot b ob q n hb hx
  . exact⟨ob.slots,u.keep b ob q n hb hx⟩
theorem Un.trans (a:Un fs ex H H1 h h1) (b:Un fs ex H1 H2 h1 h2):Un fs ex H H2 h h2 where
  keep:=fun c ob q n hc hx=>b.keep c ob (a.keep c ob q n hc hx) (a.free c ob q n hx) hc hx
  slot:=fun c ob q n hc hx=>by
    obtain⟨sl,e1⟩:=a.slot c ob q n hc hx
    obtain⟨sl',e2⟩:=b.slot c _ e1 (a.free c ob q n hx) hc hx
    exact⟨sl',e2⟩
  free:=fun c ob q n hx=>by
    obtain⟨o',e1⟩:=a.there c ob q hx
    exact b.free c o' e1 (a.free c ob q n hx) hx
  there:=fun c ob q hx=>by
    obtain⟨o',e1⟩:=a.there c ob q hx
    exact b.there c o' e1 hx
  tups:=fun c xs q=>b.tups c xs (a.tups c xs q)
  frzs:=fun c ob xs q=>b.frzs c ob xs (a.frzs c ob xs q)
  tbls:=fun c ps q=>by
    obtain⟨m1,e1⟩:=a.tbls c ps q
    obtain⟨m2,e2⟩:=b.tbls c _ e1
    exact⟨m1++m2,by rw [e2,Array.append_assoc]⟩
theorem Un.kept (k:∀b u,h.get? b=some u->h'.get? b=some u):Un fs ex H H h h':=
  ⟨fun b ob q _ _ _=>k b ob q,fun b ob q _ _ _=>⟨ob.slots,k b ob q⟩,fun _ _ _ n _=>n,fun b ob q _=>⟨ob,k b ob q⟩,fun _ _ q=>q,fun _ _ _ q=>q,fun _ ps q=>⟨#[],by rw [q];simp⟩⟩
theorem Un.refl:Un fs ex H H h h:=Un.kept fun _ _ q=>q
theorem Un.laid (k:∀b u,h.get? b=some u->h'.get? b=some u) (hp:h.objs.size<=a) (hn:H a=none):Un fs ex H (upd H a o) h h' where
  keep:=fun b u q _ _ _=>k b u q
  slot:=fun b u q _ _ _=>⟨u.slots,k b u q⟩
  free:=fun b u q n _=>by rw [Al (Nat.ne_of_lt (Nat.lt_of_lt_of_le (Heap.lt_size q) hp))];exact n
  there:=fun b u q _=>⟨u,k b u q⟩
  tups:=fun b xs q=>by rw [Al (Ai q hn)];exact q
  frzs:=fun b u xs q=>by rw [Al (Ai q hn)];exact q
  tbls:=fun b ps q=>⟨#[],by rw [Al (Ai q hn),q];simp⟩
theorem Un.write (mu:Mut (H x)) (he:e=x\/H e=some (.own x)) (k:∀b u,b≠e->h.get? b=some u->h'.get? b=some u) (heo:∃u,h'.get? e=some u):Un fs ex H (upd H x o) h h':=by
  have hx:∀b,H b=none->b≠x:=fun b n z=>by subst z;rw [n]at mu;exact mu
  have hb:∀b,H b=none->b≠e:=fun b n z=>by
    subst z
    rcases he with r | r
    . exact hx b n r
    . rw [n]at r;cases r
  have hm:∀b u,H b=some u->¬Mut (some u)->b≠x:=fun b u q nm z=>by subst z;rw [q]at mu;exact nm mu
  refine⟨fun b u q n _ _=>k b u (hb b n) q,fun b u q n _ _=>⟨u.slots,k b u (hb b n) q⟩,fun b u q n _=>by rw [Al (hx b n)];exact n,fun b u q _=> ?_,
    fun b xs q=>by rw [Al (hm b _ q fun z=>z)];exact q,fun b u xs q=>by rw [Al (hm b _ q fun z=>z)];exact q,fun b ps q=>⟨#[],by rw [Al (hm b _ q fun z=>z),q];simp⟩⟩
  by_cases hbe:b=e
  . subst hbe;exact heo
  . exact⟨u,k b u hbe q⟩
theorem Un.mono (u:Un fs ex H H1 h h1) (hs:∀b∈fs,b∈fs') (hx:∀b∈ex,b∈ex'):Un fs' ex' H H1 h h1:=
  ⟨fun b ob q n hb he=>u.keep b ob q n (fun z=>hb (hs b z)) fun z=>he (hx b z),fun _ _ q n _ he=>u.any q n fun z=>he (hx _ z),fun b ob q n he=>u.free b ob q n fun z=>he (hx b z),fun b ob q he=>u.there b ob q fun z=>he (hx b z),u.tups,u.frzs,u.tbls⟩
end
def trk (h:Heap) (H:Hp):List Addr:=(List.range h.objs.size).filter fun a=>(H a).isSome
def Uw (h:Heap) (H:Hp):Heap:=PySem.W.hideAll h (trk h H)
theorem Wx (h:Heap) (H:Hp):(Uw h H).objs.size=h.objs.size:=PySem.W.hideAll_size _ _
theorem Sv {h:Heap}{H:Hp}{b:Addr}{o:Obj} (e:h.get? b=some o) (n:H b=none):(Uw h H).get? b=some o:=
  PySem.W.hideAll_get _ e fun hm=>by
    have q:(H b).isSome=true:=(List.mem_filter.mp hm).2
    rw [n]at q;simp at q
theorem Z8 {h:Heap}{H:Hp}{b:Addr}{o:Obj} (e:(Uw h H).get? b=some o):h.get? b=some o/\H b=none:=by
  have e':h.get? b=some o:=PySem.W.of_hideAll (trk h H) e
  refine⟨e',?_⟩
  cases q:H b with
  | none=>rfl
  | some x=>
    have hm:b∈trk h H:=List.mem_filter.mpr ⟨List.mem_range.mpr (Heap.lt_size e'),by simp [q]⟩
    have z:(Uw h H).get? b=none:=PySem.W.hideAll_none (trk h H) hm
    rw [z]at e;cases e
def Aaa (g h:Heap) (L:Addr):List (Addr × Obj):=(List.range h.objs.size).filterMap fun a=>if a=L\/(g.get? a).isSome=true then none else(h.get? a).map fun o=>(a,o)
def rest (g h:Heap) (L d:Addr):List (Addr × Obj):=(Aaa g h L).filter fun p=>decide (p.1≠d)
end L2
namespace L2
open PySem PySem.Spec PyProof.Rows
structure Mod (K:PySem.W.Frag) (mg:Str->Option Value) (base:Heap):Prop where
  kin:K.In base
  glob:base.Ns mainGlobals mg
  blt:∃mb,base.Ns builtinsNs mb/\∀x:Str,x≠"__name__"->mb x=bootBuiltins x
  nolimit:base.NoLimit
structure Cx where
  prog:Program
  w:World
  K:PySem.W.Frag
  mg:Str->Option Value
  base:Heap
  A:Around
  N:List Str
  s₀:Shared
  H₀:Hp
  env:Env
  outer:List Env
  stack:List Env
  ex:List Addr
  fn:Str->Bool
  calm:Bool
  pn:List (Addr × Obj)
  xe:Value->Shared->Prop
def frs (l:List Env):List Addr:=l.filterMap (·.frame)
abbrev Cx.fs (X:Cx):List Addr:=frs X.outer
def Vis (sc:Scope) (x:Str):Prop:=sc.names.lookup x=some .local \/sc.names.lookup x=some .cell\/sc.names.lookup x=some .free
def Loc (sc:Scope) (x:Str):Prop:=sc.names.lookup x=some .local \/sc.names.lookup x=some .cell
def Look (env:Env) (h:Heap) (m:Str->Option Value) (x:Str) (u:Value):Prop:=
  (env.kindOf x=some .local /\m x=some u)\/((env.kindOf x=some .cell\/env.kindOf x=some .free)/\∃c,env.cells.lookup x=some c/\h.IsCell c (some u))
structure Cx.Ok (X:Cx):Prop where
  mod:Mod X.K X.mg X.base
  kind:X.env.scope.kind= .function
  glob:X.env.globals=mainGlobals
  blt:X.env.builtins=builtinsNs
  above:X.s₀.heap.objs.size<=X.env.locals
  inj:∀x y c,X.env.cells.lookup x=some c->X.env.cells.lookup y=some c->x=y
  has:∀x,(X.env.kindOf x=some .cell\/X.env.kindOf x=some .free)->∃c,X.env.cells.lookup x=some c
  cab:∀x c,X.fn x=true->X.env.cells.lookup x=some c->X.s₀.heap.objs.size<=c
  hd:X.calm=true->X.A.handled=none
  frames:X.A.frames=some X.stack
  stk:X.stack=X.outer\/(X.stack=X.env::X.outer/\X.env.frame=some X.env.locals)
  exf:∀b∈X.ex,b≠X.env.locals/\∀x c,X.env.cells.lookup x=some c->c≠b
  bs:∀b o,X.base.get? b=some o->X.s₀.heap.get? b=some o/\X.H₀ b=none
  bsz:X.base.objs.size<=X.s₀.heap.objs.size
  noex:∀b o,X.base.get? b=some o->b∉X.ex
  exfs:∀b∈X.ex,b∉X.fs
  funs:X.s₀.heap.FunFrames X.base X.outer
  frf:∀b∈X.fs,X.H₀ b=none
structure Inv (X:Cx) (pins:List (Addr × Obj)) (σ:List (Option V)) (H:Hp) (s:Shared):Prop where
  ok:X.Ok
  os:s.os=X.s₀.os
  bare:AllBare s.gens
  base:Un X.fs X.ex X.H₀ H X.s₀.heap s.heap
  loc:∃m,s.heap.Ns X.env.locals m/\∀(i:Nat) (x:Str) (v:V),X.N[i]? =some x->σ[i]? =some (some v)->Vis X.env.scope x->∃u,RelV v u/\Look X.env s.heap m x u
  cell:∀x c,X.env.cells.lookup x=some c->∃v,s.heap.IsCell c v
  free:H X.env.locals=none
  freeC:∀x c,X.env.cells.lookup x=some c->H c=none
  pin:∀p∈X.pn++pins,s.heap.get? p.1=some p.2/\H p.1=none/\p.1≠X.env.locals/\p.1∉X.fs/\∀v,p.2.data≠ .cell v
  hok:HOk X.prog X.w H s.heap
  len:σ.length=X.N.length
section
variable {X:Cx}{pins:List (Addr × Obj)}{σ:List (Option V)}{H H':Hp}{s:Shared}{h':Heap}
theorem Cx.Ok.nofr (ok:X.Ok) {b:Addr}{o:Obj} (e:X.base.get? b=some o):b∉X.fs:=fun hb=>by
  have:=(ok.funs.mem hb).1
  rw [e]at this;cases this
theorem Inv.bs (I:Inv X pins σ H s):∀b o,X.base.get? b=some o->s.heap.get? b=some o/\H b=none:=fun b o e=>
  ⟨I.base.keep b o (I.ok.bs b o e).1 (I.ok.bs b o e).2 (I.ok.nofr e) (I.ok.noex b o e),I.base.free b o (I.ok.bs b o e).1 (I.ok.bs b o e).2 (I.ok.noex b o e)⟩
theorem Inv.bk (I:Inv X pins σ H s):∀b o,X.base.get? b=some o->s.heap.get? b=some o:=fun b o e=>(I.bs b o e).1
theorem Inv.mod (I:Inv X pins σ H s):Mod X.K X.mg X.base:=I.ok.mod
theorem Inv.kIn (I:Inv X pins σ H s):X.K.In s.heap:=I.ok.mod.kin.keeps I.bk
theorem Inv.nolimit (I:Inv X pins σ H s):s.heap.NoLimit:=I.ok.mod.nolimit.keeps I.bk
theorem Inv.fr (I:Inv X pins σ H s):∃m,Fr X.base X.env.locals s.heap m:=
  let ⟨m,hn,_⟩:=I.loc
  ⟨m,hn,I.bk,Nat.le_trans I.ok.bsz I.ok.above⟩
theorem Inv.lt (I:Inv X pins σ H s):X.env.locals<s.heap.objs.size:=let ⟨_,hn,_⟩:=I.loc;hn.lt
theorem Inv.sz (I:Inv X pins σ H s):X.s₀.heap.objs.size<=s.heap.objs.size:=Nat.le_trans I.ok.above (Nat.le_of_lt I.lt)
theorem Inv.nofs (I:Inv X pins σ H s) {a:Addr} (h:s.heap.objs.size<=a):a∉X.fs:=fun hb=>by
  obtain⟨_,o,ho,_⟩:=I.ok.funs.mem hb
  exact absurd (Nat.lt_of_lt_of_le (Heap.lt_size ho) (Nat.le_trans I.sz h)) (Nat.lt_irrefl _)
theorem Inv.cne (I:Inv X pins σ H s):∀x c,X.env.cells.lookup x=some c->c≠X.env.locals:=fun x c e z=>by
  obtain⟨v,o,ho,hd⟩:=I.cell x c e
  obtain⟨m,⟨o',es,ep,ho',hd',_⟩,_⟩:=I.loc
  rw [z,ho']at ho;cases ho;rw [hd']at hd;cases hd
theorem Inv.funs (I:Inv X pins σ H s):s.heap.FunFrames X.base X.outer:=by
  have all:∀(l:List Env),(∀b∈frs l,b∈X.fs)->X.s₀.heap.FunFrames X.base l->s.heap.FunFrames X.base l:=by
    intro l
    induction l with
    | nil=>intro _ _;trivial
    | cons env r ih=>
      intro hs hl
      obtain⟨hk,⟨L,o,hf,hn,ho,hd⟩,hr⟩:=hl
      have hL:L∈X.fs:=hs L (by unfold frs;rw [List.filterMap_cons,hf];exact List.mem_cons_self)
      obtain⟨sl,e⟩:=I.base.slot L o ho (I.ok.frf L hL) hL fun z=>I.ok.exfs L z hL
      exact⟨hk,⟨L,_,hf,hn,e,hd⟩,ih (fun b hb=>hs b (by unfold frs;rw [List.filterMap_cons,hf];exact List.mem_cons_of_mem _ hb)) hr⟩
  exact all X.outer (fun _ hb=>hb) I.ok.funs
theorem Inv.stack (I:Inv X pins σ H s):s.heap.FunFrames X.base X.stack:=by
  rcases I.ok.stk with e | ⟨e,hf⟩
  . rw [e];exact I.funs
  . rw [e]
    obtain⟨m,hn,_⟩:=I.loc
    refine .cons (by rw [I.ok.kind];decide) hf hn ?_ I.funs
    exact Heap.get?_none_of_le (Nat.le_trans I.ok.bsz I.ok.above)
theorem Inv.stkSub (I:Inv X pins σ H s):∀b∈frs X.stack,b∈X.env.locals::X.fs:=fun b hb=>by
  rcases I.ok.stk with e | ⟨e,hf⟩
  . rw [e]at hb;exact List.mem_cons_of_mem _ hb
  . rw [e]at hb
    unfold frs at hb
    rw [List.filterMap_cons,hf]at hb
    exact hb
theorem Inv.stkFree (I:Inv X pins σ H s):∀b∈frs X.stack,H b=none:=fun b hb=>by
  rcases List.mem_cons.mp (I.stkSub b hb)with e | hb
  . rw [e];exact I.free
  . obtain⟨_,o,ho,_⟩:=I.ok.funs.mem hb
    exact I.base.free b o ho (I.ok.frf b hb) fun z=>I.ok.exfs b z hb
theorem Inv.step {g':Array GenState}{t':Nat}{d':Drawn}{ch:List Addr} (I:Inv X pins σ H s)
    (hch:∀b∈ch,(b∈X.ex\/X.s₀.heap.objs.size<=b)/\b≠X.env.locals/\(∀x c,X.env.cells.lookup x=some c->c≠b)/\∀p∈X.pn++pins,p.1≠b)
    (keep:∀b o,b≠X.env.locals->b∉X.fs->b∉ch->s.heap.get? b=some o->H b=none->h'.get? b=some o)
    (slot:∀b o,b≠X.env.locals->b∈X.fs->b∉ch->s.heap.get? b=some o->H b=none->∃sl,h'.get? b=some { o with slots:=sl}) (free:∀b o,b∉ch->s.heap.get? b=some o->H b=none->H' b=none)
    (there:∀b o,b∉ch->s.heap.get? b=some o->∃o',h'.get? b=some o')
    (tups:∀b xs,H b=some (.tup xs)->H' b=some (.tup xs)) (frzs:∀b o u,H b=some (.frz o u)->H' b=some (.frz o u)) (tbls:∀b ps,H b=some (.tbl ps)->∃more,H' b=some (.tbl (ps++more)))
    (ns:∀m,s.heap.Ns X.env.locals m->h'.Ns X.env.locals m) (hok:HOk X.prog X.w H' h') (hg:AllBare g'):
    Inv X pins σ H' { s with heap:=h',gens:=g',drawn:=d',toks:=t'}:=by
  have neL:∀b o,X.s₀.heap.get? b=some o->b≠X.env.locals:=fun b o e=>Nat.ne_of_lt (Nat.lt_of_lt_of_le (Heap.lt_size e) I.ok.above)
  have neC:∀b o,X.s₀.heap.get? b=some o->b∉X.ex->b∉ch:=fun b o e hx hb=>by
    rcases(hch b hb).1 with z | z
    . exact hx z
    . exact absurd (Nat.lt_of_lt_of_le (Heap.lt_size e) z) (Nat.lt_irrefl _)
  have cellK:∀x c,X.env.cells.lookup x=some c->∀v,s.heap.IsCell c v->h'.IsCell c v:=fun x c e v ⟨o,ho,hd⟩=>by
    have nch:c∉ch:=fun z=>(hch c z).2.2.1 x c e rfl
    by_cases hc:c∈X.fs
    . obtain⟨sl,q⟩:=slot c o (I.cne x c e) hc nch ho (I.freeC x c e)
      exact⟨_,q,hd⟩
    . exact⟨o,keep c o (I.cne x c e) hc nch ho (I.freeC x c e),hd⟩
  refine⟨I.ok,I.os,hg,⟨fun b o e n hb hx=> ?_,fun b o e n hb hx=> ?_,fun b o e n hx=> ?_,fun b o e hx=> ?_,fun b xs e=>tups b xs (I.base.tups b xs e),fun b o xs e=>frzs b o xs (I.base.frzs b o xs e),fun b ps e=> ?_⟩,?_,fun x c e=> ?_,?_,fun x c e=> ?_,fun p hp=> ?_,hok,I.len⟩
  . exact keep b o (neL b o e) hb (neC b o e hx) (I.base.keep b o e n hb hx) (I.base.free b o e n hx)
  . obtain⟨sl,e1⟩:=I.base.slot b o e n hb hx
    obtain⟨sl',e2⟩:=slot b _ (neL b o e) hb (neC b o e hx) e1 (I.base.free b o e n hx)
    exact⟨sl',e2⟩
  . obtain⟨o',e1⟩:=I.base.there b o e hx
    exact free b o' (neC b o e hx) e1 (I.base.free b o e n hx)
  . obtain⟨o',e1⟩:=I.base.there b o e hx
    exact there b o' (neC b o e hx) e1
  . obtain⟨m1,e1⟩:=I.base.tbls b ps e
    obtain⟨m2,e2⟩:=tbls b _ e1
    exact⟨m1++m2,by rw [e2,Array.append_assoc]⟩
  . obtain⟨m,hn,hl⟩:=I.loc
    refine⟨m,ns m hn,fun i x v e1 e2 e3=> ?_⟩
    obtain⟨u,r,l⟩:=hl i x v e1 e2 e3
    refine⟨u,r,?_⟩
    rcases l with l | ⟨k,c,e,z⟩
    . exact .inl l
    . exact .inr ⟨k,c,e,cellK x c e _ z⟩
  . obtain⟨v,z⟩:=I.cell x c e
    exact⟨v,cellK x c e v z⟩
  . obtain⟨m,⟨o,_,_,ho,_⟩,_⟩:=I.loc
    exact free _ o (fun z=>(hch _ z).2.1 rfl) ho I.free
  . obtain⟨v,o,ho,hd⟩:=I.cell x c e
    exact free c o (fun z=>(hch c z).2.2.1 x c e rfl) ho (I.freeC x c e)
  . obtain⟨e,n,ne,nf,d⟩:=I.pin p hp
    have nch:p.1∉ch:=fun z=>(hch p.1 z).2.2.2 p hp rfl
    exact⟨keep p.1 p.2 ne nf nch e n,free p.1 p.2 nch e n,ne,nf,d⟩
theorem Inv.un {t':Nat} (I:Inv X pins σ H s) (u:Un X.fs [] H H' s.heap h') (hok:HOk X.prog X.w H' h'):Inv X pins σ H' { s with heap:=h',toks:=t'}:=by
  obtain⟨m,⟨o,es,ep,ho,r⟩,_⟩:=id I.loc
  obtain⟨sl,hL⟩:=u.any ho I.free (by simp)
  exact I.step (g':=s.gens) (d':=s.drawn) (ch:=[]) (fun _ z=>nomatch z) (fun b o _ hb _ e n=>u.keep b o e n hb (by simp)) (fun b o _ hb _ e n=>u.slot b o e n hb (by simp)) (fun b o _ e n=>u.free b o e n (by simp)) (fun b o _ e=>u.there b o e (by simp)) u.tups u.frzs u.tbls (fun m' hm=>by
    obtain⟨o',es',ep',ho',r'⟩:=hm
    rw [ho]at ho';cases ho'
    exact⟨_,es',ep',hL,r'⟩) hok I.bare
theorem Inv.call {g':Array GenState}{t':Nat}{d':Drawn}{ch:List Addr} (I:Inv X pins σ H s) (u:Un (frs X.stack) ch H H' s.heap h') (hok:HOk X.prog X.w H' h') (hg:AllBare g')
    (hch:∀b∈ch,(b∈X.ex\/X.s₀.heap.objs.size<=b)/\b≠X.env.locals/\(∀x c,X.env.cells.lookup x=some c->c≠b)/\∀p∈X.pn++pins,p.1≠b):
    Inv X pins σ H' { s with heap:=h',gens:=g',drawn:=d',toks:=t'}:=by
  obtain⟨m,⟨o,es,ep,ho,r⟩,_⟩:=id I.loc
  obtain⟨sl,hL⟩:=u.any ho I.free fun z=>(hch _ z).2.1 rfl
  exact I.step (ch:=ch) hch (fun b o hL hb hc e n=>u.keep b o e n (fun z=>(List.mem_cons.mp (I.stkSub b z)).elim hL hb) hc) (fun b o _ _ hc e n=>u.any e n hc) (fun b o hc e n=>u.free b o e n hc) (fun b o hc e=>u.there b o e hc) u.tups u.frzs u.tbls (fun m' hm=>by
    obtain⟨o',es',ep',ho',r'⟩:=hm
    rw [ho]at ho';cases ho'
    exact⟨_,es',ep',hL,r'⟩) hok hg
theorem Inv.turned {t':Nat}{it:Addr} (I:Inv X pins σ H s) (k:∀b o,b≠it->s.heap.get? b=some o->h'.get? b=some o) (hn:H it=none) (hL:it≠X.env.locals)
    (h1:it∈X.ex\/X.s₀.heap.objs.size<=it) (h2:∀x c,X.env.cells.lookup x=some c->c≠it) (h3:∀p∈X.pn++pins,p.1≠it):Inv X pins σ H { s with heap:=h',toks:=t'}:=by
  have nit:∀b u,H b=some u->b≠it:=fun b u e z=>by rw [z,hn]at e;cases e
  refine I.step (g':=s.gens) (d':=s.drawn) (ch:=[it]) (fun b hb=> ?_) (fun b o _ _ hc e _=>k b o (fun z=>hc (by simp [z])) e) (fun b o _ _ hc e _=>⟨o.slots,k b o (fun z=>hc (by simp [z])) e⟩) (fun _ _ _ _ n=>n)
    (fun b o hc e=>⟨o,k b o (fun z=>hc (by simp [z])) e⟩) (fun _ _ e=>e) (fun _ _ _ e=>e) (fun b ps e=>⟨#[],by rw [e];simp⟩) (fun m hm=> ?_) (fun b u e=> ?_) I.bare
  . have e:b=it:=by simpa using hb
    subst e
    exact⟨h1,hL,h2,h3⟩
  . obtain⟨o,es,ep,ho,r⟩:=hm
    exact⟨o,es,ep,k _ o (Ne.symm hL) ho,r⟩
  . refine(I.hok b u e).stay (fun c v hc q=>k c v ?_ q) (fun _ q=>q) fun _ _ q=>q
    rcases hc with z | z
    . rw [z];exact nit b u e
    . exact nit c _ z
theorem Inv.tok (I:Inv X pins σ H s) (t:Nat):Inv X pins σ H { s with toks:=t}:=I.un (h':=s.heap) (t':=t) Un.refl I.hok
theorem Inv.kept {t':Nat} (I:Inv X pins σ H s) (k:∀b u,s.heap.get? b=some u->h'.get? b=some u):Inv X pins σ H { s with heap:=h',toks:=t'}:=I.un (Un.kept k) (I.hok.kept k)
theorem Inv.laid {a:Addr}{o:HO}{t':Nat} (I:Inv X pins σ H s) (k:∀b u,s.heap.get? b=some u->h'.get? b=some u) (hp:s.heap.objs.size<=a) (new:Dp X.prog X.w (upd H a o) h' a o):
    Inv X pins σ (upd H a o) { s with heap:=h',toks:=t'}:=I.un (Un.laid k hp (I.hok.fresh hp)) (I.hok.laid k hp new)
theorem Inv.write {x e:Addr}{o:HO}{t':Nat} (I:Inv X pins σ H s) (mu:Mut (H x)) (he:e=x\/H e=some (.own x)) (k:∀b u,b≠e->s.heap.get? b=some u->h'.get? b=some u) (heo:∃u,h'.get? e=some u)
    (new:Dp X.prog X.w (upd H x o) h' x o):Inv X pins σ (upd H x o) { s with heap:=h',toks:=t'}:=I.un (Un.write mu he k heo) (I.hok.write mu he k heo new)
theorem Inv.pins_of {pins':List (Addr × Obj)} (I:Inv X pins σ H s) (h:∀p∈pins',s.heap.get? p.1=some p.2/\H p.1=none/\p.1≠X.env.locals/\p.1∉X.fs/\∀v,p.2.data≠ .cell v):Inv X pins' σ H s:=
  ⟨I.ok,I.os,I.bare,I.base,I.loc,I.cell,I.free,I.freeC,fun p hp=>(List.mem_append.mp hp).elim (fun z=>I.pin p (List.mem_append_left _ z)) (h p),I.hok,I.len⟩
theorem Np {N:List Str} (hN:N.Nodup) {i j:Nat}{x:Str} (a:N[i]? =some x) (b:N[j]? =some x):i=j:=by
  obtain⟨h1,e1⟩:=List.getElem?_eq_some_iff.mp a
  obtain⟨h2,e2⟩:=List.getElem?_eq_some_iff.mp b
  exact(List.getElem_inj hN).mp (e1.trans e2.symm)
theorem Uz {M:Model}{A:Around}{E:Value->Shared->Prop}{i:Nat}{x:Str}{v:V}{u:Value}{Q:Unit->Shared->Prop} (I:Inv X pins σ H s) (hN:X.N.Nodup) (hi:X.N[i]? =some x) (hx:Loc X.env.scope x) (r:RelV v u)
    (h:∀s',Inv X pins (σ.set i (some v)) H s'->(∃a,Heap.SameBut a s.heap s'.heap/\(a=X.env.locals\/X.env.cells.lookup x=some a))->Q () s') (hf:X.fn x=true\/X.env.scope.names.lookup x=some .local :=by first | exact .inl rfl | exact .inr rfl | assumption):wpAny M A (storeName X.env x u) Q E s:=by
  obtain⟨m,hn,hl⟩:=id I.loc
  have hcls:(X.env.scope.kind== .class||(X.env.scope.kind== .module&&X.env.locals != X.env.globals))=false:=by rw [I.ok.kind];rfl
  have hiσ:i<σ.length:=by rw [I.len];exact(List.getElem?_eq_some_iff.mp hi).1
  have cne:=I.cne
  have tracked:∀ {a:Addr}{h':Heap},(∃o,s.heap.get? a=some o/\H a=none)->Heap.SameBut a s.heap h'->HOk X.prog X.w H h':=fun {a h'} ha hs b ob e=>by
    obtain⟨_,_,hfree⟩:=ha
    refine(I.hok b ob e).stay (fun c w' hc q=>(hs.2 c ?_).trans q) (fun _ q=>q) fun _ _ q=>q
    rintro rfl
    rcases hc with rfl | hc
    . rw [hfree]at e;cases e
    . rw [hfree]at hc;cases hc
  rcases hx with hk | hk
  . refine wpAny_storeName_local hk hn (fun h' hn' hs=> ?_) hcls
    obtain⟨oL,_,_,hoL,_⟩:=id hn
    refine h _ ⟨I.ok,I.os,I.bare,⟨fun b o e n hb hx=> ?_,fun b o e n hb hx=> ?_,I.base.free,fun b o e hx=> ?_,I.base.tups,I.base.frzs,I.base.tbls⟩,⟨_,hn',fun j y v' e1 e2 e3=> ?_⟩,fun y c e=> ?_,I.free,I.freeC,fun p hp=> ?_,tracked ⟨oL,hoL,I.free⟩ hs,by simpa using I.len⟩ ⟨_,hs,.inl rfl⟩
    . exact(hs.2 b (Nat.ne_of_lt (Nat.lt_of_lt_of_le (Heap.lt_size e) I.ok.above))).trans (I.base.keep b o e n hb hx)
    . obtain⟨sl,e1⟩:=I.base.slot b o e n hb hx
      exact⟨sl,(hs.2 b (Nat.ne_of_lt (Nat.lt_of_lt_of_le (Heap.lt_size e) I.ok.above))).trans e1⟩
    . obtain⟨o',e1⟩:=I.base.there b o e hx
      exact⟨o',(hs.2 b (Nat.ne_of_lt (Nat.lt_of_lt_of_le (Heap.lt_size e) I.ok.above))).trans e1⟩
    . by_cases hj:j=i
      . subst hj
        rw [hi]at e1;cases e1
        rw [List.getElem?_set_self hiσ]at e2
        cases e2
        exact⟨u,r,.inl ⟨hk,by simp⟩⟩
      . rw [List.getElem?_set_ne (Ne.symm hj)]at e2
        obtain⟨u',r',q⟩:=hl j y v' e1 e2 e3
        refine⟨u',r',?_⟩
        rcases q with⟨k,e⟩ | ⟨k,c,e,z⟩
        . refine .inl ⟨k,?_⟩
          have:y≠x:=fun e=>hj (Np hN e1 (e▸hi))
          simp [this,e]
        . exact .inr ⟨k,c,e,z.sameBut hs (cne y c e)⟩
    . obtain⟨w',z⟩:=I.cell y c e
      exact⟨w',z.sameBut hs (cne y c e)⟩
    . obtain⟨e,n,ne,nf,d⟩:=I.pin p hp
      exact⟨(hs.2 p.1 ne).trans e,n,ne,nf,d⟩
  . have hfn:X.fn x=true:=by
      rcases hf with z | z
      . exact z
      . rw [z]at hk;cases hk
    obtain⟨c,hc⟩:=I.ok.has x (.inl hk)
    obtain⟨w',z⟩:=I.cell x c hc
    refine wpAny_storeName_cell I.ok.kind hk hc z (fun h' hc' hs=> ?_)
    obtain⟨oc,hoc,hocd⟩:=id z
    refine h { s with heap:=h'} ⟨I.ok,I.os,I.bare,⟨fun b o e n hb hx=> ?_,fun b o e n hb hx=> ?_,I.base.free,fun b o e hx=> ?_,I.base.tups,I.base.frzs,I.base.tbls⟩,⟨m,hn.sameBut hs (Ne.symm (cne x c hc)),fun j y v' e1 e2 e3=> ?_⟩,fun y c' e=> ?_,I.free,I.freeC,fun p hp=> ?_,tracked ⟨oc,hoc,I.freeC x c hc⟩ hs,by simpa using I.len⟩ ⟨c,hs,.inr hc⟩
    . exact(hs.2 b (Nat.ne_of_lt (Nat.lt_of_lt_of_le (Heap.lt_size e) (I.ok.cab x c hfn hc)))).trans (I.base.keep b o e n hb hx)
    . obtain⟨sl,e1⟩:=I.base.slot b o e n hb hx
      exact⟨sl,(hs.2 b (Nat.ne_of_lt (Nat.lt_of_lt_of_le (Heap.lt_size e) (I.ok.cab x c hfn hc)))).trans e1⟩
    . obtain⟨o',e1⟩:=I.base.there b o e hx
      exact⟨o',(hs.2 b (Nat.ne_of_lt (Nat.lt_of_lt_of_le (Heap.lt_size e) (I.ok.cab x c hfn hc)))).trans e1⟩
    . by_cases hj:j=i
      . subst hj
        rw [hi]at e1;cases e1
        rw [List.getElem?_set_self hiσ]at e2
        cases e2
        exact⟨u,r,.inr ⟨.inl hk,c,hc,hc'⟩⟩
      . rw [List.getElem?_set_ne (Ne.symm hj)]at e2
        obtain⟨u',r',q⟩:=hl j y v' e1 e2 e3
        refine⟨u',r',?_⟩
        rcases q with q | ⟨k,c',e,z'⟩
        . exact .inl q
        . refine .inr ⟨k,c',e,z'.sameBut hs ?_⟩
          rintro rfl
          exact hj (Np hN e1 (I.ok.inj _ _ _ e hc▸hi))
    . by_cases hcc:c'=c
      . subst hcc;exact⟨_,hc'⟩
      . obtain⟨w2,z2⟩:=I.cell y c' e
        exact⟨w2,z2.sameBut hs hcc⟩
    . obtain⟨e,n,ne,nf,d⟩:=I.pin p hp
      refine⟨(hs.2 p.1 ?_).trans e,n,ne,nf,d⟩
      intro q
      rw [q,hoc]at e
      have q':oc=p.2:=Option.some.inj e
      exact d w' (by rw [<-q'];exact hocd)
theorem Ih {M:Model}{A:Around}{E:Value->Shared->Prop}{i:Nat}{x:Str}{v:V}{u:Value}{Q:Unit->Shared->Prop} (I:Inv X pins σ H s) (hN:X.N.Nodup) (hi:X.N[i]? =some x) (hx:Loc X.env.scope x) (r:RelV v u)
    (h:∀s',Inv X pins (σ.set i (some v)) H s'->Q () s') (hf:X.fn x=true\/X.env.scope.names.lookup x=some .local :=by first | exact .inl rfl | exact .inr rfl | assumption):wpAny M A (storeName X.env x u) Q E s:=
  Uz I hN hi hx r (fun s' I' _=>h s' I') hf
theorem Inv.call' {s':Shared}{ch:List Addr} (I:Inv X pins σ H s) (ho:s'.os=s.os) (u:Un (frs X.stack) ch H H' s.heap s'.heap) (hok:HOk X.prog X.w H' s'.heap) (hg:AllBare s'.gens)
    (hch:∀b∈ch,(b∈X.ex\/X.s₀.heap.objs.size<=b)/\b≠X.env.locals/\(∀x c,X.env.cells.lookup x=some c->c≠b)/\∀p∈X.pn++pins,p.1≠b):Inv X pins σ H' s':=by
  obtain⟨h',g',d',t',o'⟩:=s'
  have e:o'=s.os:=ho
  subst e
  exact I.call (g':=g') (t':=t') (d':=d') u hok hg hch
end
abbrev XK:=Value->Option Addr->Hp->Prop
abbrev St:=List (Option V)
abbrev VK:=V->Hp->Prop
abbrev TE:=St->Hp->VK->Prop
abbrev TT:=St->Hp->(Bool->Hp->Prop)->Prop
abbrev TA:=St->Hp->(List V->Hp->Prop)->Prop
structure Ends where
  nx:St->Hp->Prop
  rt:VK
  bk:St->Hp->Prop:=fun _ _=>False
  ct:St->Hp->Prop:=fun _ _=>False
abbrev TS:=Ends->St->Hp->Prop
def EP (X:Cx) (pins:List (Addr × Obj)) (σ:St) (Q:VK) (u:Value) (s':Shared):Prop:=∃v H',Inv X pins σ H' s'/\RelV v u/\Q v H'
def TP (X:Cx) (pins:List (Addr × Obj)) (σ:St) (Q:Bool->Hp->Prop) (b:Bool) (s':Shared):Prop:=∃H',Inv X pins σ H' s'/\Q b H'
def AP (X:Cx) (pins:List (Addr × Obj)) (σ:St) (Q:List V->Hp->Prop) (us:List Value) (s':Shared):Prop:=∃vs H',Inv X pins σ H' s'/\Vals vs us/\Q vs H'
def SP (X:Cx) (pins:List (Addr × Obj)) (D:Ends) (f:Flow) (s':Shared):Prop:=
  match f with
  | .next=>∃σ' H',Inv X pins σ' H' s'/\D.nx σ' H'
  | .brk=>∃σ' H',Inv X pins σ' H' s'/\D.bk σ' H'
  | .cont=>∃σ' H',Inv X pins σ' H' s'/\D.ct σ' H'
  | .ret u=>∃v σ' H',Inv X pins σ' H' s'/\RelV v u/\D.rt v H'
def PE (X:Cx) (e:Expr) (t:TE):Prop:=
  ∀(pins:List (Addr × Obj)) (s:Shared) (σ:St) (H:Hp) (Q:VK),Inv X pins σ H s->t σ H Q->wpAny (model X.prog X.w) X.A (eval e X.env) (EP X pins σ Q) X.xe s
def PT (X:Cx) (e:Expr) (t:TT):Prop:=
  ∀(pins:List (Addr × Obj)) (s:Shared) (σ:St) (H:Hp) (Q:Bool->Hp->Prop),Inv X pins σ H s->t σ H Q->wpAny (model X.prog X.w) X.A (isTrue e X.env (eval e X.env)) (TP X pins σ Q) X.xe s
def PW (X:Cx) (e:Expr) (t:TT):Prop:=
  ∀(whole:Sem Value) (pins:List (Addr × Obj)) (s:Shared) (σ:St) (H:Hp) (Q:Bool->Hp->Prop),Inv X pins σ H s->t σ H Q->wpAny (model X.prog X.w) X.A (isTrue e X.env whole) (TP X pins σ Q) X.xe s
theorem PW.pt {X:Cx}{e:Expr}{t:TT} (h:PW X e t):PT X e t:=h _
def PA (X:Cx) (es:List Expr) (t:TA):Prop:=
  ∀(pos:Pos) (pins:List (Addr × Obj)) (s:Shared) (σ:St) (H:Hp) (Q:List V->Hp->Prop),Inv X pins σ H s->t σ H Q->wpAny (model X.prog X.w) X.A (spliced (backTo pos (starEach es X.env))) (AP X pins σ Q) X.xe s
def PS (X:Cx) (st:Stmt) (t:TS):Prop:=
  ∀(pins:List (Addr × Obj)) (s:Shared) (σ:St) (H:Hp) (D:Ends),Inv X pins σ H s->t D σ H->wpAny (model X.prog X.w) X.A (exec st X.env) (SP X pins D) X.xe s
def PSs (X:Cx) (st:List Stmt) (t:TS):Prop:=
  ∀(pins:List (Addr × Obj)) (s:Shared) (σ:St) (H:Hp) (D:Ends),Inv X pins σ H s->t D σ H->wpAny (model X.prog X.w) X.A (execs st X.env) (SP X pins D) X.xe s
theorem thn {α:Type}{t:Sem α}{Q Q':α->Shared->Prop}{M:Model}{A:Around}{E:Value->Shared->Prop}{s:Shared} (h:wpAny M A t Q E s) (hQ:∀a s,Q a s->Q' a s):wpAny M A t Q' E s:=wpAny_mono h hQ fun _ _ x=>x
end L2
namespace L2
open PySem PySem.Spec PyProof.Rows
section
variable {X:Cx}
def Ur (i:Nat):TE:=fun σ H Q=>∃v,σ[i]? =some (some v)/\Q v H
def tC (v:V):TE:=fun _ H Q=>Q v H
theorem Aa6 {i:Nat}{x:Str}{pos:Pos} (hN:X.N[i]? =some x) (hv:Vis X.env.scope x) (hd:(x==("__debug__":Str))=false:=by decide) (hcd:(x==("__classdict__":Str))=false:=by decide):PE X (.Name x pos) (Ur i):=by
  intro pins s σ H Q I h
  obtain⟨v,e,h⟩:=h
  obtain⟨m,hn,hl⟩:=I.loc
  obtain⟨u,r,l⟩:=hl i x v hN e hv
  have fin:EP X pins σ Q u s:=⟨v,H,I,r,h⟩
  rcases l with⟨hk,hm⟩ | ⟨hk,c,hc,hcell⟩
  . exact wpAny_Name (wpAny_loadName_local I.ok.kind hk hn hm fin) hd
  . rcases hk with hk | hk
    . exact wpAny_Name (wpAny_loadName_cell I.ok.kind hk hc hcell fin) hd
    . exact wpAny_Name (wpAny_loadName_free I.ok.kind hk hc hcell fin hcd) hd
theorem Ae {i j pos}:PE X (.Constant (.int i) j pos) (tC (.int i)):=fun _ _ _ H _ I h=>wpAny_Constant_int ⟨.int i,H,I.tok _,⟨_,rfl⟩,h⟩
theorem X5 {b j pos}:PE X (.Constant (.bool b) j pos) (tC (.bl b)):=fun _ _ _ H _ I h=>Constant_bool ⟨.bl b,H,I,rfl,h⟩
theorem Ls {j pos}:PE X (.Constant .none j pos) (tC .non):=fun _ _ _ H _ I h=>Constant_none ⟨.non,H,I,rfl,h⟩
theorem Il {x j pos}:PE X (.Constant (.str x) j pos) (tC (.str x)):=fun _ _ _ H _ I h=>Calls.Constant_str ⟨.str x,H,I.tok _,⟨_,rfl⟩,h⟩
def Gl (X:Cx) (x:Str):Prop:=X.env.kindOf x=some .globalImplicit
theorem Kz {E:Value->Shared->Prop}{pins:List (Addr × Obj)}{s:Shared}{σ:St}{H:Hp}{x:Str}{u:Value}{pos:Pos}{Q:Value->Shared->Prop} (I:Inv X pins σ H s) (hg:Gl X x) (hm:X.mg x=some u) (h:Q u s)
    (hd:(x==("__debug__":Str))=false:=by decide):wpAny (model X.prog X.w) X.A (eval (.Name x pos) X.env) Q E s:=
  Calls.Name_function_global I.ok.kind hg (Calls.loadGlobal_global (by rw [I.ok.glob];exact I.mod.glob.keeps I.bk) hm h) hd
theorem Li {E:Value->Shared->Prop}{pins:List (Addr × Obj)}{s:Shared}{σ:St}{H:Hp}{x:Str}{u:Value}{pos:Pos}{Q:Value->Shared->Prop} (I:Inv X pins σ H s) (hg:Gl X x) (hm:X.mg x=none) (hv:bootBuiltins x=some u) (h:Q u s)
    (hn:x≠"__name__":=by decide) (hd:(x==("__debug__":Str))=false:=by decide):wpAny (model X.prog X.w) X.A (eval (.Name x pos) X.env) Q E s:=by
  obtain⟨mb,h1,h2⟩:=I.mod.blt
  exact Calls.Name_function_global I.ok.kind hg (Calls.loadGlobal_builtin (by rw [I.ok.glob];exact I.mod.glob.keeps I.bk) hm (by rw [I.ok.blt];exact h1.keeps I.bk) ((h2 x hn).trans hv) h) hd
theorem Ed {x:Str}{v:V}{u:Value}{pos:Pos} (hg:Gl X x) (hm:X.mg x=some u) (r:RelV v u) (hd:(x==("__debug__":Str))=false:=by decide):PE X (.Name x pos) (tC v):=
  fun _ _ _ H _ I h=>Kz I hg hm ⟨v,H,I,r,h⟩ hd
theorem Lj {x:Str}{v:V}{u:Value}{pos:Pos} (hg:Gl X x) (hm:X.mg x=none) (hv:bootBuiltins x=some u) (r:RelV v u) (hn:x≠"__name__":=by decide) (hd:(x==("__debug__":Str))=false:=by decide):PE X (.Name x pos) (tC v):=
  fun _ _ _ H _ I h=>Li I hg hm hv ⟨v,H,I,r,h⟩ hn hd
variable {a b:Expr}{ta tb:TE}{pos:Pos}
def tB (t:TE):TT:=fun σ H Q=>t σ H fun x H1=>∃c,x= .bl c/\Q c H1
theorem K6 {e:Expr}{t:TE} (h:PE X e t) (he:∀whole,isTrue e X.env whole=(do let v<-whole;standAt e.pos;holding [v] (truthy v)):=by intro _;rfl):PT X e (tB t):=by
  intro pins s σ H Q I hw
  refine isTrue_plain (thn (h pins s σ H _ I hw) fun v s1 ⟨x,H1,I1,r1,q1⟩=> ?_) (he _)
  obtain⟨d,rfl,q⟩:=q1
  cases r1
  exact wpAny_truthy_bool ⟨H1,I1,q⟩
variable {tA tB':TT}{rest:List Expr}
def Adb (t u:TT):TT:=fun σ H Q=>t σ H fun c H1=>if c=true then u σ H1 Q else Q false H1
def tOr (t u:TT):TT:=fun σ H Q=>t σ H fun c H1=>if c=true then Q true H1 else u σ H1 Q
def Acj (t:TT):TT:=fun σ H Q=>t σ H fun c H1=>Q (!c) H1
theorem Nu (ha:PT X a tA):PW X (.BoolOp .And [a] pos) tA:=by
  intro wh pins s σ H Q I h
  refine isTrue_and (thn (ha pins s σ H Q I h) fun c s1 e=> ?_)
  cases c with
  | true=>exact isTrue_and_nil e
  | false=>exact e
theorem V0 (ha:PT X a tA):PW X (.BoolOp .Or [a] pos) tA:=by
  intro wh pins s σ H Q I h
  refine isTrue_or (thn (ha pins s σ H Q I h) fun c s1 e=> ?_)
  cases c with
  | false=>exact isTrue_or_nil e
  | true=>exact e
theorem T6 (ha:PT X a tA) (hb:PW X (.BoolOp .And (b::rest) pos) tB'):PW X (.BoolOp .And (a::b::rest) pos) (Adb tA tB'):=by
  intro wh pins s σ H Q I h
  refine isTrue_and (thn (ha pins s σ H _ I h) fun c s1 ⟨H1,I1,q1⟩=> ?_)
  cases c with
  | true=>exact hb wh pins s1 σ H1 Q I1 q1
  | false=>exact⟨H1,I1,q1⟩
theorem Zg (ha:PT X a tA) (hb:PW X (.BoolOp .Or (b::rest) pos) tB'):PW X (.BoolOp .Or (a::b::rest) pos) (tOr tA tB'):=by
  intro wh pins s σ H Q I h
  refine isTrue_or (thn (ha pins s σ H _ I h) fun c s1 ⟨H1,I1,q1⟩=> ?_)
  cases c with
  | true=>exact⟨H1,I1,q1⟩
  | false=>exact hb wh pins s1 σ H1 Q I1 q1
theorem Mw (ha:PT X a tA):PT X (.UnaryOp .Not a pos) (Acj tA):=by
  intro pins s σ H Q I h
  exact isTrue_not (ha pins s σ H (fun c H1=>Q (!c) H1) I h)
def Zo (ta tb:TE):TE:=fun σ H Q=>ta σ H fun x H1=>∃c,x= .bl c/\if c=true then tb σ H1 Q else Q (.bl false) H1
def Ad4 (ta tb:TE):TE:=fun σ H Q=>ta σ H fun x H1=>∃c,x= .bl c/\if c=true then Q (.bl true) H1 else tb σ H1 Q
def Aac (ta:TE):TE:=fun σ H Q=>ta σ H fun x H1=>∃c,x= .bl c/\Q (.bl (!c)) H1
theorem Om {op}{t:TE} (h:PE X a t):PE X (.BoolOp op [a] pos) t:=fun pins s σ H Q I hw=>BoolOp_one (h pins s σ H Q I hw)
theorem Lw (ha:PE X a ta) (hb:PE X (.BoolOp .And (b::rest) pos) tb):PE X (.BoolOp .And (a::b::rest) pos) (Zo ta tb):=by
  intro pins s σ H Q I h
  refine BoolOp_and (thn (ha pins s σ H _ I h) fun v s1 ⟨x,H1,I1,r1,q1⟩=> ?_)
  obtain⟨c,rfl,q1⟩:=q1
  cases r1
  refine wpAny_truthy_bool ?_
  cases c with
  | true=>exact hb pins s1 σ H1 Q I1 q1
  | false=>exact⟨.bl false,H1,I1,rfl,q1⟩
theorem Tz (ha:PE X a ta):PE X (.UnaryOp .Not a pos) (Aac ta):=by
  intro pins s σ H Q I h
  refine UnaryOp_ (thn (ha pins s σ H _ I h) fun v s1 ⟨x,H1,I1,r1,q1⟩=> ?_)
  obtain⟨c,rfl,q1⟩:=q1
  cases r1
  exact not_of (wpAny_truthy_bool ⟨.bl (!c),H1,I1,rfl,q1⟩)
def tIf (t:TT) (ta tb:TE):TE:=fun σ H Q=>t σ H fun c H1=>if c=true then ta σ H1 Q else tb σ H1 Q
theorem Ks {c:Expr} (hc:PT X c tA) (ha:PE X a ta) (hb:PE X b tb):PE X (.IfExp c a b pos) (tIf tA ta tb):=by
  intro pins s σ H Q I h
  refine wpAny_IfExp (thn (hc pins s σ H _ I h) fun d s1 ⟨H1,I1,q1⟩=> ?_)
  cases d with
  | true=>exact ha pins s1 σ H1 Q I1 q1
  | false=>exact hb pins s1 σ H1 Q I1 q1
end
end L2
namespace L2
open PySem PySem.Spec PyProof.Rows
def SqL (K:PySem.W.Frag) (H:Hp) (a:Addr) (xs:List V):Prop:=
  Rd H a (.lst xs)\/
    ∃(o:Obj) (its:Array Value) (n:Nat),K.lookup a=some o/\o.cls= .type "list"/\o.dict=none/\o.data= .seq its n/\its.size<=sizeLine/\Vals xs its.toList
def SqT (K:PySem.W.Frag) (H:Hp) (a:Addr) (xs:List V):Prop:=
  Rd H a (.tup xs)\/
    ∃(o:Obj) (its:Array Value) (n:Nat),K.lookup a=some o/\o.cls= .type "tuple"/\o.data= .seq its n/\its.size<=sizeLine/\Vals xs its.toList
def Adz:Value->Option V
  | .none=>some .non
  | .bool b=>some (.bl b)
  | .int i _=>some (.int i)
  | .str x _=>some (.str x)
  | .bytes b _=>some (.byt b)
  | .float b _=>some (.flt b)
  | .ref a=>some (.ref a)
  | .type n=>some (.ty n)
  | _=>none
theorem RelV.abs {x:V}{u:Value} (r:RelV x u):Adz u=some x:=by
  cases x with
  | non=>cases r;rfl
  | bl _=>cases r;rfl
  | int _=>obtain⟨t,rfl⟩:=r;rfl
  | str _=>obtain⟨t,rfl⟩:=r;rfl
  | byt _=>obtain⟨t,rfl⟩:=r;rfl
  | flt _=>obtain⟨t,rfl⟩:=r;rfl
  | ref _=>cases r;rfl
  | ty _=>cases r;rfl
theorem RelV.inj {x y:V}{u:Value} (r:RelV x u) (q:RelV y u):x=y:=Option.some.inj (r.abs.symm.trans q.abs)
theorem Vals.inj:∀ {xs ys:List V}{us:List Value},Vals xs us->Vals ys us->xs=ys
  | _,_,_,.nil,.nil=>rfl
  | _,_,_,.cons r t,.cons r' t'=>by rw [r.inj r',Vals.inj t t']
section
variable {X:Cx}{pins:List (Addr × Obj)}{σ:St}{H:Hp}{s:Shared}{a:Addr}{xs ys:List V}
theorem SqL.of {K:PySem.W.Frag} (h:H a=some (.lst xs)):SqL K H a xs:= .inl (.inl h)
theorem SqT.of {K:PySem.W.Frag} (h:H a=some (.tup xs)):SqT K H a xs:= .inl (.inl h)
theorem Inv.list (I:Inv X pins σ H s) (h:SqL X.K H a xs):∃its:List Value,Vals xs its/\PlainL s.heap a its.toArray/\xs.length<=sizeLine:=by
  rcases h with h | ⟨o,its,n,hk,hc,hd,hs,hz,r⟩
  . obtain⟨z,its,n,r,e⟩:=h.ok I.hok
    exact⟨its,r,⟨_,n,e,rfl,rfl,rfl⟩,z⟩
  . refine⟨its.toList,r,⟨o,n,I.kIn a o hk,hc,hd,by simpa using hs⟩,?_⟩
    have e:=r.length
    simp only [Array.length_toList]at e
    omega
theorem Inv.tuple (I:Inv X pins σ H s) (h:SqT X.K H a xs):∃its:List Value,Vals xs its/\IsTup s.heap a its.toArray/\xs.length<=sizeLine:=by
  rcases h with h | ⟨o,its,n,hk,hc,hs,hz,r⟩
  . obtain⟨z,its,r,p⟩:=h.ok I.hok
    exact⟨its,r,p,z⟩
  . refine⟨its.toList,r,⟨o,I.kIn a o hk,hc,n,by simpa using hs⟩,?_⟩
    have e:=r.length
    simp only [Array.length_toList]at e
    omega
theorem Inv.list_inj (I:Inv X pins σ H s) (h:SqL X.K H a xs) (h':SqL X.K H a ys):xs=ys:=by
  obtain⟨its,r,⟨o,n,e,_,_,d⟩,_⟩:=I.list h
  obtain⟨its',r',⟨o',n',e',_,_,d'⟩,_⟩:=I.list h'
  rw [e]at e';cases e'
  rw [d]at d'
  injection d' with d1 _
  have:its=its':=by simpa using congrArg Array.toList d1
  subst this
  exact r.inj r'
theorem Inv.tuple_inj (I:Inv X pins σ H s) (h:SqT X.K H a xs) (h':SqT X.K H a ys):xs=ys:=by
  obtain⟨its,r,⟨o,e,_,n,d⟩,_⟩:=I.tuple h
  obtain⟨its',r',⟨o',e',_,n',d'⟩,_⟩:=I.tuple h'
  rw [e]at e';cases e'
  rw [d]at d'
  injection d' with d1 _
  have:its=its':=by simpa using congrArg Array.toList d1
  subst this
  exact r.inj r'
end
abbrev Cx.wish (X:Cx) (E:Value->Shared->Prop):Cx:={ X with xe:=E}
abbrev Cx.nox (X:Cx):Cx:=X.wish fun _ _=>False
theorem Cx.Ok.wish {X:Cx} (ok:X.Ok) (E:Value->Shared->Prop):(X.wish E).Ok:=
  ⟨ok.mod,ok.kind,ok.glob,ok.blt,ok.above,ok.inj,ok.has,ok.cab,ok.hd,ok.frames,ok.stk,ok.exf,ok.bs,ok.bsz,ok.noex,ok.exfs,ok.funs,ok.frf⟩
theorem Cx.Ok.unwish {X:Cx}{E:Value->Shared->Prop} (ok:(X.wish E).Ok):X.Ok:=
  ⟨ok.mod,ok.kind,ok.glob,ok.blt,ok.above,ok.inj,ok.has,ok.cab,ok.hd,ok.frames,ok.stk,ok.exf,ok.bs,ok.bsz,ok.noex,ok.exfs,ok.funs,ok.frf⟩
section
variable {X:Cx}{pins:List (Addr × Obj)}{σ:St}{H:Hp}{s:Shared}{E:Value->Shared->Prop}
theorem Inv.wish (I:Inv X pins σ H s) (E:Value->Shared->Prop):Inv (X.wish E) pins σ H s:=⟨I.ok.wish E,I.os,I.bare,I.base,I.loc,I.cell,I.free,I.freeC,I.pin,I.hok,I.len⟩
theorem Inv.unwish (I:Inv (X.wish E) pins σ H s):Inv X pins σ H s:=⟨I.ok.unwish,I.os,I.bare,I.base,I.loc,I.cell,I.free,I.freeC,I.pin,I.hok,I.len⟩
theorem SP.unwish {D:Ends}{f:Flow}{s':Shared} (h:SP (X.wish E) pins D f s'):SP X pins D f s':=by
  cases f with
  | next=>obtain⟨σ',H',I,q⟩:=h;exact⟨σ',H',I.unwish,q⟩
  | brk=>obtain⟨σ',H',I,q⟩:=h;exact⟨σ',H',I.unwish,q⟩
  | cont=>obtain⟨σ',H',I,q⟩:=h;exact⟨σ',H',I.unwish,q⟩
  | ret u=>obtain⟨v,σ',H',I,r,q⟩:=h;exact⟨v,σ',H',I.unwish,r,q⟩
theorem PE.nox {e:Expr}{t:TE} (h:PE X.nox e t):PE X e t:=fun pins s σ H Q I hw=>
  wpAny_mono (h pins s σ H Q (I.wish _) hw) (fun _ _ ⟨v,H',I',r,q⟩=>⟨v,H',I'.unwish,r,q⟩) fun _ _ z=>False.elim z
theorem PT.nox {e:Expr}{t:TT} (h:PT X.nox e t):PT X e t:=fun pins s σ H Q I hw=>
  wpAny_mono (h pins s σ H Q (I.wish _) hw) (fun _ _ ⟨H',I',q⟩=>⟨H',I'.unwish,q⟩) fun _ _ z=>False.elim z
theorem PSs.nox {st:List Stmt}{t:TS} (h:PSs X.nox st t):PSs X st t:=fun pins s σ H D I hw=>
  wpAny_mono (h pins s σ H D (I.wish _) hw) (fun _ _ q=>q.unwish) fun _ _ z=>False.elim z
end
section
variable {X:Cx}{st:Stmt}{rest:List Stmt}{t u:TS}{e:Expr}{te:TE}{pos:Pos}
def Aab:TS:=fun D σ H=>D.nx σ H
def Ab3 (t u:TS):TS:=fun D σ H=>t { D with nx:=u D} σ H
theorem Bm:PSs X [] Aab:=fun _ _ σ H _ I h=>wpAny_execs_nil ⟨σ,H,I,h⟩
theorem Ad (h1:PS X st t) (h2:PSs X rest u):PSs X (st::rest) (Ab3 t u):=by
  intro pins s σ H D I h
  refine wpAny_execs_cons (thn (h1 pins s σ H { D with nx:=u D} I h) fun f s1 q=> ?_)
  cases f with
  | next=>
    obtain⟨σ',H',I',q⟩:=q
    exact h2 pins s1 σ' H' D I' q
  | ret v=>exact q
  | brk=>exact q
  | cont=>exact q
theorem Ag (h1:PS X st t):PSs X [st] t:=by
  intro pins s σ H D I h
  refine wpAny_execs_cons (thn (h1 pins s σ H D I h) fun f s1 q=> ?_)
  cases f with
  | next=>exact wpAny_execs_nil q
  | ret v=>exact q
  | brk=>exact q
  | cont=>exact q
theorem Inv.quiet {pins:List (Addr × Obj)}{σ:St}{H:Hp}{s:Shared} (I:Inv X pins σ H s):interactive X.env=false:=by simp [interactive,I.ok.kind]
def Zk (te:TE):TS:=fun D σ H=>te σ H fun _ H1=>D.nx σ H1
theorem Dh (he:PE X e te) (hs:swapsWith e none pos.line X.env=pure false:=by rfl):PS X (.Expr e pos) (Zk te):=by
  intro pins s σ H D I h
  exact wpAny_Expr_any (thn (he pins s σ H _ I h) fun v s1 ⟨x,H1,I1,r1,q1⟩=>⟨σ,H1,I1,q1⟩) I.quiet hs
def Acv (te:TE):TS:=fun D σ H=>te σ H D.rt
theorem Ay (he:PE X e te):PS X (.Return (some e) pos) (Acv te):=by
  intro pins s σ H D I h
  exact wpAny_Return_some (thn (he pins s σ H _ I h) fun v s1 ⟨x,H1,I1,r1,q1⟩=>⟨x,σ,H1,I1,r1,q1⟩)
def Ace (c:TT) (t u:TS):TS:=fun D σ H=>c σ H fun b H1=>if b=true then t D σ H1 else u D σ H1
theorem Ei {c:Expr}{a b:List Stmt}{tc:TT} (hc:PT X c tc) (ha:PSs X a t) (hb:PSs X b u):PS X (.If c a b pos) (Ace tc t u):=by
  intro pins s σ H D I h
  refine wpAny_If (thn (hc pins s σ H _ I h) fun d s1 ⟨H1,I1,q1⟩=> ?_)
  cases d with
  | true=>exact ha pins s1 σ H1 D I1 q1
  | false=>exact hb pins s1 σ H1 D I1 q1
def Za:TS:=fun _ _ _=>False
theorem Hi:PS X st Za:=fun _ _ _ _ _ _ h=>h.elim
end
abbrev TG:=V->St->Hp->(St->Hp->Prop)->Prop
abbrev TGs:=List V->St->Hp->(St->Hp->Prop)->Prop
def PG (X:Cx) (target:Expr) (t:TG):Prop:=
  ∀(pins:List (Addr × Obj)) (s:Shared) (σ:St) (H:Hp) (v:V) (u:Value) (Q:St->Hp->Prop),Inv X pins σ H s->RelV v u->t v σ H Q->
    wpAny (model X.prog X.w) X.A (assign target X.env u) (fun _ s'=>∃σ' H',Inv X pins σ' H' s'/\Q σ' H') X.xe s
def PGs (X:Cx) (ts:List Expr) (t:TGs):Prop:=
  ∀(pins:List (Addr × Obj)) (s:Shared) (σ:St) (H:Hp) (vs:List V) (us:List Value) (Q:St->Hp->Prop),Inv X pins σ H s->Vals vs us->t vs σ H Q->
    wpAny (model X.prog X.w) X.A (assignInOrder ((assignEach ts X.env).map (·.2)) us) (fun _ s'=>∃σ' H',Inv X pins σ' H' s'/\Q σ' H') X.xe s
abbrev Abi:=V->V->V->Hp->(Hp->Prop)->Prop
def Ach (X:Cx) (t:Abi):Prop:=
  ∀(pins:List (Addr × Obj)) (s:Shared) (σ:St) (H:Hp) (o i v:V) (ov iv u:Value) (Q:Hp->Prop),Inv X pins σ H s->RelV o ov->RelV i iv->RelV v u->t o i v H Q->
    wpAny (model X.prog X.w) X.A (setItem ov iv u) (fun _ s'=>∃H',Inv X pins σ H' s'/\Q H') X.xe s
section
variable {X:Cx}{pos:Pos}
def Gy (i:Nat):TG:=fun v σ H Q=>Q (σ.set i (some v)) H
theorem Ah {i:Nat}{x:Str} (hN:X.N.Nodup) (hi:X.N[i]? =some x) (hx:Loc X.env.scope x) (hf:X.fn x=true\/X.env.scope.names.lookup x=some .local :=by first | exact .inl rfl | exact .inr rfl | assumption):PG X (.Name x pos) (Gy i):=by
  intro pins s σ H v u Q I r h
  exact wpAny_assign_Name (Ih I hN hi hx r (fun s' I'=>⟨_,H,I',h⟩) hf)
def Abg:TGs:=fun vs σ H Q=>vs=[]/\Q σ H
def M8 (t:TG) (u:TGs):TGs:=fun vs σ H Q=>∃v r,vs=v::r/\t v σ H fun σ' H'=>u r σ' H' Q
theorem Cu:PGs X [] Abg:=by
  intro pins s σ H vs us Q I r h
  obtain⟨e,h⟩:=h
  subst e
  cases r
  exact assignInOrder_nil ⟨σ,H,I,h⟩
theorem Ar {e:Expr}{es:List Expr}{t:TG}{u:TGs} (h1:PG X e t) (h2:PGs X es u)
    (hs:(assignEach (e::es) X.env).map (·.2)=assign e X.env::(assignEach es X.env).map (·.2):=by rfl):PGs X (e::es) (M8 t u):=by
  intro pins s σ H vs us Q I r h
  obtain⟨v,vr,e1,h⟩:=h
  subst e1
  cases r with
  | cons r rr=>
    rw [hs]
    refine assignInOrder_cons (thn (h1 pins s σ H _ _ _ I r h) fun _ s1 ⟨σ1,H1,I1,q1⟩=> ?_)
    exact h2 pins s1 σ1 H1 _ _ Q I1 rr q1
def Zf (K:PySem.W.Frag) (n:Nat) (t:TGs):TG:=fun v σ H Q=>∃a xs,v= .ref a/\SqT K H a xs/\xs.length=n/\t xs σ H Q
theorem Ds {es:List Expr}{k:Nat}{t:TGs}{n:Nat} (hc:X.calm=true) (h:PGs X es t)
    (hn:(assignEach es X.env).length=n:=by rfl) (hst:(assignEach es X.env).findIdx? (·.1)=none:=by rfl):PG X (.Tuple es k pos) (Zf X.K n t):=by
  intro pins s σ H v u Q I r hw
  obtain⟨a,xs,e1,hq,hl,hw⟩:=hw
  subst e1
  cases r
  obtain⟨its,rv,ht,hz⟩:=I.tuple hq
  refine assign_Tuple_tuple (I.ok.hd hc) ht (by simp [hn,<-hl,rv.length]) hst fun h' hx=> ?_
  have I1:Inv X pins σ H { s with heap:=h'}:=I.kept (t':=s.toks) fun b o e=>hx b o (Nat.ne_of_lt (Heap.lt_size e)) e
  exact h pins _ σ H xs _ Q I1 (by simpa using rv) hw
def Ada (to ti:TE) (t:Abi):TG:=fun v σ H Q=>to σ H fun o H1=>ti σ H1 fun i H2=>t o i v H2 fun H3=>Q σ H3
theorem Gs {o i:Expr}{to ti:TE}{t:Abi} (ho:PE X o to) (hi:PE X i ti) (hs:Ach X t)
    (ha:∀v,assign (.Subscript o i pos) X.env v=(do
      let ov<-holding [v] (eval o X.env)
      let iv<-holding [v,ov] (eval i X.env)
      standAt pos
      holding [v,ov,iv] (setItem ov iv v)
      release [v,ov,iv] []):=by intro _;rfl):PG X (.Subscript o i pos) (Ada to ti t):=by
  intro pins s σ H v u Q I r h
  rw [ha]
  refine wpAny_bind (wpAny_holding (thn (ho pins s σ H _ I h) fun ov s1 ⟨x,H1,I1,r1,q1⟩=> ?_))
  refine wpAny_bind (wpAny_holding (thn (hi pins s1 σ H1 _ I1 q1) fun iv s2 ⟨y,H2,I2,r2,q2⟩=> ?_))
  refine wpAny_bind (wpAny_standAt (wpAny_bind (wpAny_holding (thn (hs pins s2 σ H2 x y v ov iv u _ I2 r1 r2 r q2) fun _ s3 ⟨H3,I3,q3⟩=> ?_))))
  exact wpAny_release ⟨σ,H3,I3,q3⟩
def Xq (te:TE) (g:TG):TS:=fun D σ H=>te σ H fun x H1=>g x σ H1 D.nx
theorem Dj {tg e:Expr}{te:TE}{g:TG} (he:PE X e te) (hg:PG X tg g) (hs:swapsWithSole [tg] e pos.line X.env=pure false:=by rfl) (hw:swappedStores [tg] e X.env=pure none:=by rfl)
    (h1:(assignEach [tg] X.env).map (·.2)=[assign tg X.env]:=by rfl):PS X (.Assign [tg] e pos) (Xq te g):=by
  intro pins s σ H D I h
  refine wpAny_Assign_stores (thn (he pins s σ H _ I h) fun v s1 ⟨x,H1,I1,r1,q1⟩=> ?_) hs hw
  rw [h1]
  exact thn (hg pins s1 σ H1 x v _ I1 r1 q1) fun _ s2 q=>q
theorem Ao {i:Nat}{x:Str}{e:Expr}{te:TE}{pos':Pos} (hN:X.N.Nodup) (hi:X.N[i]? =some x) (hx:Loc X.env.scope x) (he:PE X e te) (hs:swapsWith e (some (.Name x pos')) pos.line X.env=pure false:=by rfl) (hf:X.fn x=true\/X.env.scope.names.lookup x=some .local :=by first | exact .inl rfl | exact .inr rfl | assumption):
    PS X (.Assign [.Name x pos'] e pos) (Xq te (Gy i)):=by
  intro pins s σ H D I h
  refine wpAny_Assign_Name (thn (he pins s σ H _ I h) fun v s1 ⟨y,H1,I1,r1,q1⟩=> ?_) hs
  exact Ih I1 hN hi hx r1 (fun s2 I2=>⟨_,H1,I2,q1⟩) hf
def Ac0 (i j:Nat) (ta:TA):TS:=fun D σ H=>ta σ H fun vs H1=>∃v w,vs=[v,w]/\D.nx ((σ.set i (some v)).set j (some w)) H1
theorem O1 {i j:Nat}{x y:Str}{a b:Expr}{ta:TA}{px py pt:Pos}{kt k2 pt2} (hc:X.calm=true) (hN:X.N.Nodup) (hi:X.N[i]? =some x) (hj:X.N[j]? =some y) (hij:i≠j)
    (hx:X.env.scope.names.lookup x=some .local) (hy:X.env.scope.names.lookup y=some .local) (ha:PA X [a,b] ta)
    (hw:swappedStores [.Tuple [.Name x px,.Name y py] kt pt] (.Tuple [a,b] k2 pt2) X.env=pure (some [x,y]))
    (hs:swapsWithSole [.Tuple [.Name x px,.Name y py] kt pt] (.Tuple [a,b] k2 pt2) pos.line X.env=pure false:=by rfl):
    PS X (.Assign [.Tuple [.Name x px,.Name y py] kt pt] (.Tuple [a,b] k2 pt2) pos) (Ac0 i j ta):=by
  intro pins s σ H D I h
  rw [exec_Assign_arm]
  refine wpAny_bind (wpAny_standAt ?_)
  rw [hs]
  refine wpAny_bind (wpAny_pure ?_)
  rw [if_neg (by decide)]
  refine wpAny_bind (Tuple_ (thn (ha _ pins s σ H _ I h) fun us s1 ⟨vs,H1,I1,r1,q1⟩=> ?_))
  obtain⟨v,w,e1,q1⟩:=q1
  subst e1
  obtain⟨u1,u2,rfl,rv,rw'⟩:∃u1 u2,us=[u1,u2]/\RelV v u1/\RelV w u2:=by
    cases r1 with
    | cons p q=>
      cases q with
      | cons p' q'=>
        cases q'
        exact⟨_,_,rfl,p,p'⟩
  refine wpAny_newObj_type ?_ (by show 2<=sizeLine;decide)
  have I2:Inv X pins σ H1 { s1 with heap:=s1.heap.push { cls:= .type "tuple",data:= .seq [u1,u2].toArray}}:=I1.kept (t':=s1.toks) fun b o e=>Heap.get?_push_of_some _ e
  rw [hw]
  refine wpAny_bind (wpAny_pure ?_)
  show wpAny (model X.prog X.w) X.A (do rule "assign.swapped-stores";let items<-unpackItems (.ref s1.heap.objs.size) 2 none;assignInOrder [fun v=>bindName X.env y v,fun v=>bindName X.env x v] items.reverse;pure Flow.next) _ _ _
  refine wpAny_bind (wpAny_rule (wpAny_bind (unpackItems_tuple (items:= #[u1,u2]) (I.ok.hd hc) (IsTup.new s1.heap _) fun h' hx'=> ?_)))
  have I3:=I2.kept (h':=h') (t':=s1.toks) fun b o e=>hx' b o (Nat.ne_of_lt (Heap.lt_size e)) e
  show wpAny _ _ (assignInOrder [fun v=>bindName X.env y v,fun v=>bindName X.env x v] [u2,u1]>>=fun _=>pure Flow.next) _ _ _
  refine wpAny_bind (assignInOrder_cons (wpAny_bindName (Ih I3 hN hj (.inl hy) rw' (fun s2 I4=> ?_) (.inr hy))))
  refine assignInOrder_cons (wpAny_bindName (Ih I4 hN hi (.inl hx) rv (fun s3 I5=>assignInOrder_nil (wpAny_pure ?_)) (.inr hx)))
  rw [List.set_comm _ _ (Ne.symm hij)]at I5
  exact⟨_,H1,I5,q1⟩
end
section
variable {X:Cx}{pos:Pos}
def Ve (c:TT) (tb:TS):TS:=fun D σ H=>∃W:Nat->St->Hp->Prop,(∃m,W m σ H)/\∀m σ H,W m σ H->
  c σ H fun b H1=>if b=true then ∃N:St->Hp->Prop,(∀σ' H',N σ' H'->∃m',m'<m/\W m' σ' H')/\tb { D with nx:=N,ct:=N,bk:=D.nx} σ H1 else D.nx σ H1
theorem Kr {c:Expr}{body:List Stmt}{tc:TT}{tb:TS} (hp:PassesOwn (model X.prog X.w) X.A X.env X.xe) (hc:PT X c tc) (hb:PSs X body tb):PS X (.While c body [] pos) (Ve tc tb):=by
  intro pins s σ H D I h
  obtain⟨W,⟨m0,w0⟩,turn⟩:=h
  refine wpAny_While (codeAny_whileLoop (fun n s'=>∃σ' H',Inv X pins σ' H' s'/\W n σ' H') ?_ m0 ⟨σ,H,I,w0⟩)
  rintro n s1 ⟨σ1,H1,I1,w1⟩
  refine wpAny_passesOwn hp (thn (hc pins s1 σ1 H1 _ I1 (turn n σ1 H1 w1)) fun b s2 ⟨H2,I2,q2⟩=> ?_)
  cases b with
  | true=>
    obtain⟨N,hN,q2⟩:=q2
    rw [if_pos rfl]
    refine wpAny_passesOwn hp (thn (hb pins s2 σ1 H2 _ I2 q2) fun f s3 q3=> ?_)
    cases f with
    | next=>
      obtain⟨σ3,H3,I3,n3⟩:=q3
      obtain⟨m',hm,w3⟩:=hN σ3 H3 n3
      exact⟨m',hm,σ3,H3,I3,w3⟩
    | cont=>
      obtain⟨σ3,H3,I3,n3⟩:=q3
      obtain⟨m',hm,w3⟩:=hN σ3 H3 n3
      exact⟨m',hm,σ3,H3,I3,w3⟩
    | brk=>exact q3
    | ret v=>exact q3
  | false=>
    rw [if_neg Bool.false_ne_true]
    exact wpAny_execs_nil ⟨σ1,H2,I2,q2⟩
end
structure It where
  go:Nat->Hp->Prop
  yld:Nat->Hp->V->Hp->Prop
  stop:Nat->Hp->Prop
def Ma (X:Cx) (pins:List (Addr × Obj)) (H:Hp) (b:Addr):Prop:=
  H b=none/\b≠X.env.locals/\b∉X.fs/\(b∈X.ex\/X.s₀.heap.objs.size<=b)/\(∀x c,X.env.cells.lookup x=some c->c≠b)/\∀p∈X.pn++pins,p.1≠b
theorem Inv.fpOk {X:Cx}{pins:List (Addr × Obj)}{σ:St}{H H':Hp}{s:Shared}{b:Addr} (I:Inv X pins σ H s) (hb:s.heap.objs.size<=b) (hn:H' b=none):Ma X pins H' b:=by
  refine⟨hn,Nat.ne_of_gt (Nat.lt_of_lt_of_le I.lt hb),I.nofs hb,.inr (Nat.le_trans I.sz hb),fun x c e z=> ?_,fun p hp z=> ?_⟩
  . obtain⟨v,q⟩:=I.cell x c e
    exact absurd (Nat.lt_of_lt_of_le q.lt (by rw [z];exact hb)) (Nat.lt_irrefl _)
  . exact absurd (Nat.lt_of_lt_of_le (Heap.lt_size (I.pin p hp).1) (by rw [z];exact hb)) (Nat.lt_irrefl _)
structure Turn (P:Program) (w:World) (K:PySem.W.Frag) (tg:Expr) (J:It) (fp:List Addr) (it:Addr) (tn:Nat->Heap->Prop):Prop where
  mem:it∈fp
  obj:∀i h,tn i h->∀b∈fp,∃o,h.get? b=some o/\∀v,o.data≠ .cell v
  keep:∀i h h',tn i h->(∀b∈fp,∀o,h.get? b=some o->h'.get? b=some o)->tn i h'
  item:∀(X:Cx),X.prog=P->X.w=w->X.K=K->X.calm=true->∀(i:Nat) (pins:List (Addr × Obj)) (s:Shared) (σ:St) (H:Hp) (E:Value->Shared->Prop),Inv X pins σ H s->(∀b∈fp,Ma X pins H b)->tn i s.heap->J.go i H->
    wpAny (model P w) X.A (pyNext (.ref it)) (fun r s1=>∃u,r=some u/\
      wpAny (model P w) X.A (letOwnedTupleGo tg (.ref it) u) (fun _ s2=>∃x H',Inv X pins σ H' s2/\RelV x u/\J.yld i H x H'/\tn (i+1) s2.heap/\∀b∈fp,H' b=none) E s1) E s
  done:∀(X:Cx),X.prog=P->X.w=w->X.K=K->X.calm=true->∀(i:Nat) (pins:List (Addr × Obj)) (s:Shared) (σ:St) (H:Hp) (E:Value->Shared->Prop),Inv X pins σ H s->(∀b∈fp,Ma X pins H b)->tn i s.heap->J.stop i H->
    wpAny (model P w) X.A (pyNext (.ref it)) (fun r s1=>r=none/\Inv X pins σ H s1) E s
  self:∀(A:Around) (i:Nat) (s:Shared) (Q:Value->Shared->Prop) (E:Value->Shared->Prop),tn i s.heap->Q (.ref it) s->wpAny (model P w) A (pyIter (.ref it)) Q E s
abbrev TI:=St->Hp->(It->Hp->Prop)->Prop
def PIE (X:Cx) (pins:List (Addr × Obj)) (σ:St) (tg:Expr) (R:It->Hp->Prop) (itv:Value) (s2:Shared):Prop:=
  ∃(it:Addr) (fp:List Addr) (tn:Nat->Heap->Prop) (J:It) (H':Hp),itv= .ref it/\Inv X pins σ H' s2/\Turn X.prog X.w X.K tg J fp it tn/\tn 0 s2.heap/\(∀b∈fp,Ma X pins H' b)/\R J H'
def PI (X:Cx) (tg iter:Expr) (wi:TI):Prop:=
  ∀(pins:List (Addr × Obj)) (s:Shared) (σ:St) (H:Hp) (R:It->Hp->Prop),Inv X pins σ H s->wi σ H R->
    wpAny (model X.prog X.w) X.A (eval iter X.env) (fun v s1=>wpAny (model X.prog X.w) X.A (pyIter v) (PIE X pins σ tg R) X.xe s1) X.xe s
theorem Aaw {M:Model}{A:Around}{E:Value->Shared->Prop}{s:Shared}{tg:Expr}{it:Addr}{u:Value}{o:Obj}{n:String}{vs:Array Value}{Q:Unit->Shared->Prop} (ho:s.heap.get? it=some o) (hc:o.cls= .type n) (hd:o.data= .fields vs)
    (hn:["enumerate","zip","dict_itemiterator","dict_reverseitemiterator","odict_iterator","itertools.zip_longest","itertools.pairwise"].contains n=false) (hQ:Q () s):wpAny M A (letOwnedTupleGo tg (.ref it) u) Q E s:=by
  unfold letOwnedTupleGo
  cases tg<;>first
    | exact wpAny_pure hQ
    | (cases u<;>first
        | exact wpAny_pure hQ
        | (refine wpAny_bind (wpAny_load ho ?_)
           rw [hc,hd]
           show wpAny M A (if(["enumerate","zip","dict_itemiterator","dict_reverseitemiterator","odict_iterator","itertools.zip_longest","itertools.pairwise"].contains n&&vs[0]? ==some (rawInt _))=true then _ else _) Q E s
           rw [if_neg (by intro h;rw [hn,Bool.false_and]at h;cases h)]
           exact wpAny_pure hQ))
def Itl (K:PySem.W.Frag) (a:Addr):It:=
  ⟨fun i H=>∃xs x,SqL K H a xs/\xs[i]? =some x,fun i H x H'=>H'=H/\∀xs,SqL K H a xs->xs[i]? =some x,fun i H=>∃xs,SqL K H a xs/\xs.length<=i⟩
def Itt (K:PySem.W.Frag) (a:Addr):It:=
  ⟨fun i H=>∃xs x,SqT K H a xs/\xs[i]? =some x,fun i H x H'=>H'=H/\∀xs,SqT K H a xs->xs[i]? =some x,fun i H=>∃xs,SqT K H a xs/\xs.length<=i⟩
def Itr (lo:Int) (n:Nat):It:=⟨fun i _=>i<n,fun i H x H'=>H'=H/\x= .int (lo+i),fun i _=>n<=i⟩
theorem Vv {P:Program}{w:World}{K:PySem.W.Frag}{tg:Expr} (a it:Addr):Turn P w K tg (Itl K a) [it] it (fun i h=>h.IsListIter it a i) where
  mem:=by simp
  obj:=fun i h st b hb=>by
    have e:b=it:=by simpa using hb
    subst e
    obtain⟨o,e,c,d⟩:=st
    exact⟨o,e,fun v z=>by rw [d]at z;cases z⟩
  keep:=fun i h h' st k=>st.at fun o e=>k it (by simp) o e
  item:=by
    intro X hP hw hK hc i pins s σ H E I hf st hg
    subst hP hw hK
    obtain⟨xs,x,hq,hx⟩:=hg
    obtain⟨its,rv,p,hz⟩:=I.list hq
    obtain⟨u,hu,ru⟩:=rv.get hx
    obtain⟨f0,f1,f2,f3,f4,f5⟩:=hf it (by simp)
    refine wpAny_pyNext_list_item st p.isList (x:=u) (by simpa using hu) fun h' st' sb=> ?_
    have I1:Inv X pins σ H { s with heap:=h'}:=I.turned (t':=s.toks) (fun b o hb e=>(sb.2 b hb).trans e) f0 f1 f3 f4 f5
    obtain⟨o,e,c,d⟩:=id st'
    exact⟨u,rfl,Aaw (s:={ s with heap:=h'}) e c d (by decide) ⟨x,H,I1,ru,⟨rfl,fun ys hy=>by rw [I.list_inj hy hq];exact hx⟩,st',fun b hb=>(hf b hb).1⟩⟩
  done:=by
    intro X hP hw hK hc i pins s σ H E I hf st hg
    subst hP hw hK
    obtain⟨xs,hq,hx⟩:=hg
    obtain⟨its,rv,p,hz⟩:=I.list hq
    obtain⟨f0,f1,f2,f3,f4,f5⟩:=hf it (by simp)
    have hl:=rv.length
    exact wpAny_pyNext_list_end (I.ok.hd hc) st p.isList (by simp;omega) fun h' eb=>⟨rfl,I.turned (t':=s.toks) (fun b o hb e=>eb b o hb e) f0 f1 f3 f4 f5⟩
  self:=fun _ _ _ _ _ st h=>wpAny_pyIter_listiter st h
theorem Ud {P:Program}{w:World}{K:PySem.W.Frag}{tg:Expr} (it:Addr) (lo:Int) (n:Nat):Turn P w K tg (Itr lo n) [it] it (fun i h=>IsRangeIter h it (lo+(i:Nat)*1) ((n:Int)-(i:Nat)) 1) where
  mem:=by simp
  obj:=fun i h st b hb=>by
    have e:b=it:=by simpa using hb
    subst e
    exact⟨_,st,fun v z=>by
      have z':Data.fields _=Data.cell v:=z
      cases z'⟩
  keep:=fun i h h' st k=>k it (by simp) _ st
  item:=by
    intro X hP hw hK hc i pins s σ H E I hf st hg
    subst hP hw hK
    obtain⟨f0,f1,f2,f3,f4,f5⟩:=hf it (by simp)
    have W:=Walks.range (prog:=X.prog) (w:=X.w) (I.ok.hd hc) it lo 1 n
    refine W.item i s _ _ hg st fun v h' tk hv st' kk=> ?_
    obtain⟨t,rfl⟩:=hv
    have I1:Inv X pins σ H { s with heap:=h',toks:=tk}:=I.turned (fun b o hb e=>kk b o (by simpa using hb) e) f0 f1 f3 f4 f5
    refine⟨_,rfl,Aaw (s:={ s with heap:=h',toks:=tk}) (n:="range_iterator") st' rfl rfl (by decide) ⟨.int (lo+i),H,I1,⟨t,?_⟩,⟨rfl,rfl⟩,st',fun b hb=>(hf b hb).1⟩⟩
    rw [Int.mul_one]
  done:=by
    intro X hP hw hK hc i pins s σ H E I hf st hg
    subst hP hw hK
    obtain⟨f0,f1,f2,f3,f4,f5⟩:=hf it (by simp)
    exact wpAny_pyNext_range_end (I.ok.hd hc) st (by have:n<=i:=hg;omega) fun h' eb=>⟨rfl,I.turned (t':=s.toks) (fun b o hb e=>eb b o hb e) f0 f1 f3 f4 f5⟩
  self:=fun _ _ _ _ _ st h=>wpAny_pyIter_rangeiter st h
end L2
namespace L2
open PySem PySem.Spec PyProof.Rows
section
variable {X:Cx}{tg:Expr}
def Zh (K:PySem.W.Frag) (tl:TE):TI:=fun σ H R=>tl σ H fun x H1=>∃a,x= .ref a/\(∃xs,SqL K H1 a xs)/\R (Itl K a) H1
def Ad6 (K:PySem.W.Frag) (tl:TE):TI:=fun σ H R=>tl σ H fun x H1=>∃a,x= .ref a/\(∃xs,SqT K H1 a xs)/\R (Itt K a) H1
theorem Bv {l:Expr}{tl:TE} (hl:PE X l tl):PI X tg l (Zh X.K tl):=by
  intro pins s σ H R I h
  refine thn (hl pins s σ H _ I h) fun v s1 ⟨x,H1,I1,r1,q1⟩=> ?_
  obtain⟨a,e,⟨xs,hq⟩,q⟩:=q1
  subst e
  cases r1
  obtain⟨its,rv,p,hz⟩:=I1.list hq
  refine wpAny_pyIter_list p.isList ?_
  refine⟨s1.heap.objs.size,[s1.heap.objs.size],_,_,H1,rfl,I1.kept (t':=s1.toks) fun b o e=>Heap.get?_push_of_some _ e,Vv a _,⟨_,Heap.get?_push_size _ rfl,rfl,rfl⟩,fun b hb=> ?_,q⟩
  have e:b=s1.heap.objs.size:=by simpa using hb
  subst e
  exact I1.fpOk (Nat.le_refl _) (I1.hok.fresh (Nat.le_refl _))
theorem S8 {pins:List (Addr × Obj)}{σ:St}{H:Hp}{s:Shared}{R:It->Hp->Prop}{E:Value->Shared->Prop}{lo hi:Int}{t u v:Tok}{tk:Nat} (I:Inv X pins σ H s) (h1: -(2^62)<=lo) (h2:lo<2^62) (h3: -(2^62)<=hi) (h4:hi<2^62)
    (q:R (Itr lo (hi-lo).toNat) H):wpAny (model X.prog X.w) X.A (pyIter (.ref s.heap.objs.size)) (PIE X pins σ tg R) E { s with heap:=s.heap.push { cls:= .type "range",data:= .fields #[.int lo t,.int hi u,.int 1 v]},toks:=tk}:=by
  refine wpAny_pyIter_range (IsRange.new ..) (small_one h1 h2 h3 h4) ?_
  have I1:Inv X pins σ H { s with heap:=s.heap.push { cls:= .type "range",data:= .fields #[.int lo t,.int hi u,.int 1 v]},toks:=tk}:=I.kept fun b o e=>Heap.get?_push_of_some _ e
  refine⟨(s.heap.push { cls:= .type "range",data:= .fields #[.int lo t,.int hi u,.int 1 v]}).objs.size,[(s.heap.push { cls:= .type "range",data:= .fields #[.int lo t,.int hi u,.int 1 v]}).objs.size],_,_,H,rfl,
    I1.kept (t':=tk) fun b o e=>Heap.get?_push_of_some _ e,Ud _ lo (hi-lo).toNat,?_,fun b hb=> ?_,q⟩
  . have e1:lo+((0:Nat):Int)*1=lo:=by simp
    have e2:(((hi-lo).toNat:Nat):Int)-((0:Nat):Int)=Builtin.Range.rangeSize lo hi 1:=by rw [rangeSize_one];split<;>omega
    show IsRangeIter _ _ (lo+((0:Nat):Int)*1) ((((hi-lo).toNat:Nat):Int)-((0:Nat):Int)) 1
    rw [e1,e2]
    exact Heap.get?_push_size _ rfl
  . have e:b=(s.heap.push { cls:= .type "range",data:= .fields #[.int lo t,.int hi u,.int 1 v]}).objs.size:=by simpa using hb
    subst e
    exact I1.fpOk (Nat.le_refl _) (I1.hok.fresh (Nat.le_refl _))
def Z2 (ta:TA):TI:=fun σ H R=>ta σ H fun vs H1=>∃j:Int,vs=[.int j]/\ -(2^62)<=j/\j<2^62/\R (Itr 0 j.toNat) H1
def Zm (ta:TA):TI:=fun σ H R=>ta σ H fun vs H1=>∃i j:Int,vs=[.int i,.int j]/\(-(2^62)<=i/\i<2^62/\ -(2^62)<=j/\j<2^62)/\R (Itr i (j-i).toNat) H1
theorem Bj {a:Expr}{ta:TA}{p pos:Pos} (hg:Gl X "range") (hm:X.mg "range"=none) (ha:PA X [a] ta) (hs:starEach [a] X.env=[(false,eval a X.env)]:=by rfl):PI X tg (.Call (.Name "range" p) [a] [] pos) (Z2 ta):=by
  intro pins s σ H R I h
  refine Call_ (Li I hg hm boot_range (PyProof.Rows.callWith_type1 (thn (ha pos pins s σ H _ I h) fun us s1 ⟨vs,H1,I1,r1,q1⟩=> ?_) hs rfl))
  obtain⟨j,e,q1,q2,q⟩:=q1
  subst e
  cases r1 with
  | cons r rr=>
    cases rr
    obtain⟨t,rfl⟩:=r
    exact call_range_1 (S8 I1 (by omega) (by omega) q1 q2 (by simpa using q))
theorem Gf {a b:Expr}{ta:TA}{p pos:Pos} (hg:Gl X "range") (hm:X.mg "range"=none) (ha:PA X [a,b] ta) (hs:starEach [a,b] X.env=[(false,eval a X.env),(false,eval b X.env)]:=by rfl) (hs2:starEach [b] X.env=[(false,eval b X.env)]:=by rfl):
    PI X tg (.Call (.Name "range" p) [a,b] [] pos) (Zm ta):=by
  intro pins s σ H R I h
  refine Call_ (Li I hg hm boot_range (PyProof.Rows.callWith_type1 (thn (ha pos pins s σ H _ I h) fun us s1 ⟨vs,H1,I1,r1,q1⟩=> ?_) (by rw [hs,hs2]) (by rw [hs2];rfl)))
  obtain⟨i,j,e,⟨q1,q2,q3,q4⟩,q⟩:=q1
  subst e
  cases r1 with
  | cons r rr=>
    cases rr with
    | cons r' rr=>
      cases rr
      obtain⟨t,rfl⟩:=r
      obtain⟨t',rfl⟩:=r'
      exact call_range_2 (S8 I1 q1 q2 q3 q4 q)
def Acq (wi:TI) (g:TG) (tb:TS):TS:=fun D σ H=>wi σ H fun J H1=>∃W:Nat->Nat->St->Hp->Prop,(∃m,W 0 m σ H1)/\∀i m σ H,W i m σ H->
  (J.stop i H/\D.nx σ H)\/(J.go i H/\∃N:St->Hp->Prop,(∀σ' H',N σ' H'->∃m',m'<m/\W (i+1) m' σ' H')/\∀x H',J.yld i H x H'->g x σ H' fun σ2 H2=>tb { D with nx:=N,ct:=N,bk:=D.nx} σ2 H2)
def Mz (fp:List Addr) (h:Heap):List (Addr × Obj):=fp.filterMap fun b=>(h.get? b).map fun o=>(b,o)
theorem Cg {fp:List Addr}{h:Heap}{b:Addr}{o:Obj} (hb:b∈fp) (e:h.get? b=some o):(b,o)∈Mz fp h:=List.mem_filterMap.mpr ⟨b,hb,by rw [e];rfl⟩
theorem U6 {fp:List Addr}{h:Heap}{p:Addr × Obj} (hp:p∈Mz fp h):p.1∈fp/\h.get? p.1=some p.2:=by
  obtain⟨b,hb,e⟩:=List.mem_filterMap.mp hp
  cases q:h.get? b with
  | none=>rw [q]at e;cases e
  | some o=>
    rw [q]at e
    have e':(b,o)=p:=Option.some.inj e
    subst e'
    exact⟨hb,q⟩
theorem Inv.pinned {pins:List (Addr × Obj)}{σ:St}{H:Hp}{s:Shared}{fp:List Addr} (I:Inv X pins σ H s) (hf:∀b∈fp,Ma X pins H b) (ho:∀b∈fp,∃o,s.heap.get? b=some o/\∀v,o.data≠ .cell v):Inv X (pins++Mz fp s.heap) σ H s:=
  I.pins_of fun p hp=>(List.mem_append.mp hp).elim (fun z=>I.pin p (List.mem_append_right _ z)) fun z=>by
    obtain⟨hb,e⟩:=U6 z
    obtain⟨f0,f1,f2,_⟩:=hf p.1 hb
    obtain⟨o,e',d⟩:=ho p.1 hb
    rw [e]at e';cases e'
    exact⟨e,f0,f1,f2,d⟩
theorem Inv.unpinned {pins pl:List (Addr × Obj)}{σ:St}{H:Hp}{s:Shared} (I:Inv X (pins++pl) σ H s):Inv X pins σ H s:=I.pins_of fun p hp=>I.pin p (List.mem_append_right _ (List.mem_append_left _ hp))
theorem Dk {iter:Expr}{body:List Stmt}{wi:TI}{g:TG}{tb:TS}{pos:Pos} (hp:PassesOwn (model X.prog X.w) X.A X.env X.xe) (hc:X.calm=true) (hi:PI X tg iter wi) (hg:PG X tg g) (hb:PSs X body tb)
    (hs:∀x,foldedSetIterable iter X.env x=pure x:=by intro _;rfl):PS X (.For tg iter body [] pos) (Acq wi g tb):=by
  intro pins s σ H D I h
  refine wpAny_For (thn (hi pins s σ H _ I h) fun v s1 h1=>thn h1 fun itv s2 h2=> ?_) hs
  obtain⟨it,fp,tn,J,H2,e,I2,T,st2,f2,W,⟨m0,w0⟩,turn⟩:=h2
  subst e
  have stat:∀ {H':Hp},(∀b∈fp,H' b=none)->∀b∈fp,Ma X pins H' b:=fun hn b hb=>⟨hn b hb,(f2 b hb).2⟩
  refine codeAny_forLoop_any (fun n s'=>∃i σ' H',Inv X pins σ' H' s'/\tn i s'.heap/\(∀b∈fp,H' b=none)/\W i n σ' H') ?_ m0 ⟨0,σ,H2,I2,st2,fun b hb=>(f2 b hb).1,w0⟩
  rintro n s3 ⟨i,σ3,H3,I3,st3,fr3,w3⟩
  rcases turn i n σ3 H3 w3 with⟨stop,qn⟩ | ⟨go,N,hN,step⟩
  . refine wpAny_passesOwn hp (thn (T.done X rfl rfl rfl hc i pins s3 σ3 H3 X.xe I3 (stat fr3) st3 stop) fun r s4 ⟨hr,I4⟩=> ?_)
    subst hr
    exact wpAny_execs_nil ⟨σ3,H3,I4,qn⟩
  . refine wpAny_passesOwn hp (thn (T.item X rfl rfl rfl hc i pins s3 σ3 H3 X.xe I3 (stat fr3) st3 go) fun r s4 ⟨u,hr,h4⟩=> ?_)
    subst hr
    refine wpAny_passesOwn hp (thn h4 fun _ s5 ⟨x,H5,I5,r5,y5,st5,fr5⟩=> ?_)
    have I5':=I5.pinned (stat fr5) (T.obj _ _ st5)
    refine wpAny_passesOwn hp (thn (hg _ s5 σ3 H5 x u _ I5' r5 (step x H5 y5)) fun _ s6 ⟨σ6,H6,I6,q6⟩=> ?_)
    refine wpAny_passesOwn hp (thn (hb _ s6 σ6 H6 _ I6 q6) fun f s7 q7=> ?_)
    have again:∀ {σ7:St}{H7:Hp},Inv X (pins++Mz fp s5.heap) σ7 H7 s7->N σ7 H7->∃m,m<n/\∃i σ' H',Inv X pins σ' H' s7/\tn i s7.heap/\(∀b∈fp,H' b=none)/\W i m σ' H':=fun {σ7 H7} I7 n7=>by
      obtain⟨m',hm,w7⟩:=hN σ7 H7 n7
      refine⟨m',hm,i+1,σ7,H7,I7.unpinned,T.keep _ _ _ st5 fun b hb o e=>(I7.pin (b,o) (List.mem_append_right _ (List.mem_append_right _ (Cg hb e)))).1,fun b hb=> ?_,w7⟩
      obtain⟨o,e,d⟩:=T.obj _ _ st5 b hb
      exact(I7.pin (b,o) (List.mem_append_right _ (List.mem_append_right _ (Cg hb e)))).2.1
    cases f with
    | next=>obtain⟨σ7,H7,I7,n7⟩:=q7;exact again I7 n7
    | cont=>obtain⟨σ7,H7,I7,n7⟩:=q7;exact again I7 n7
    | brk=>obtain⟨σ7,H7,I7,q7⟩:=q7;exact⟨σ7,H7,I7.unpinned,q7⟩
    | ret v=>obtain⟨x7,σ7,H7,I7,r7,q7⟩:=q7;exact⟨x7,σ7,H7,I7.unpinned,r7,q7⟩
end
theorem Tf {c:TT}{tb:TS}{D:Ends}{σ:St}{H:Hp} (Pv:St->Hp->Prop) (μ:St->Hp->Nat) (h0:Pv σ H)
    (hs:∀σ H,Pv σ H->c σ H fun b H1=>if b=true then tb { D with nx:=fun σ' H'=>Pv σ' H'/\μ σ' H'<μ σ H,ct:=fun σ' H'=>Pv σ' H'/\μ σ' H'<μ σ H,bk:=D.nx} σ H1 else D.nx σ H1)
    (mono:∀σ H Q Q',(∀b H1,Q b H1->Q' b H1)->c σ H Q->c σ H Q'):Ve c tb D σ H:=by
  refine⟨fun m σ H=>m=μ σ H/\Pv σ H,⟨_,rfl,h0⟩,?_⟩
  rintro m σ H ⟨rfl,p⟩
  refine mono σ H _ _ (fun b H1 q=> ?_) (hs σ H p)
  cases b with
  | true=>exact⟨_,fun σ' H' ⟨p',l⟩=>⟨_,l,rfl,p'⟩,q⟩
  | false=>exact q
end L2
namespace L2
open PySem PySem.Spec PyProof.Rows
abbrev R2:=V->V->Hp->VK->Prop
def OpR (X:Cx) (f:Value->Value->Sem Value) (r:R2):Prop:=
  ∀(pins:List (Addr × Obj)) (s:Shared) (σ:St) (H:Hp) (x y:V) (v u:Value) (Q:VK),Inv X pins σ H s->RelV x v->RelV y u->r x y H Q->
    wpAny (model X.prog X.w) X.A (f v u) (EP X pins σ Q) X.xe s
def UnR (X:Cx) (f:Value->Sem Value) (r:V->Hp->VK->Prop):Prop:=
  ∀(pins:List (Addr × Obj)) (s:Shared) (σ:St) (H:Hp) (x:V) (v:Value) (Q:VK),Inv X pins σ H s->RelV x v->r x H Q->
    wpAny (model X.prog X.w) X.A (f v) (EP X pins σ Q) X.xe s
def G9 (X:Cx) (f:Value) (r:List V->Hp->VK->Prop):Prop:=
  ∀(pins:List (Addr × Obj)) (s:Shared) (σ:St) (H:Hp) (xs:List V) (us:List Value) (Q:VK),Inv X pins σ H s->Vals xs us->r xs H Q->
    wpAny (model X.prog X.w) X.A (call f us) (EP X pins σ Q) X.xe s
def tOp (r:R2) (ta tb:TE):TE:=fun σ H Q=>ta σ H fun x H1=>tb σ H1 fun y H2=>r x y H2 Q
def tUn (r:V->Hp->VK->Prop) (ta:TE):TE:=fun σ H Q=>ta σ H fun x H1=>r x H1 Q
def rI (C:Int->Int->Prop) (g:Int->Int->V):R2:=fun x y H Q=>∃i j,x= .int i/\y= .int j/\C i j/\Q (g i j) H
def rI0 (g:Int->Int->V):R2:=fun x y H Q=>∃i j,x= .int i/\y= .int j/\Q (g i j) H
def rU (g:Int->V):V->Hp->VK->Prop:=fun x H Q=>∃i,x= .int i/\Q (g i) H
section
variable {X:Cx}{a b c:Expr}{ta tb tc:TE}{pos:Pos}
theorem Acs (ha:PE X a ta) (hb:PE X b tb) {pins:List (Addr × Obj)}{s:Shared}{σ:St}{H:Hp}{R:V->V->Hp->Prop} (I:Inv X pins σ H s)
    (h:ta σ H fun x H1=>tb σ H1 fun y H2=>R x y H2) {Q:Value->Shared->Prop}{f:Value->Value->Sem Value}
    (hf:∀v u s2 x y H2,Inv X pins σ H2 s2->RelV x v->RelV y u->R x y H2->wpAny (model X.prog X.w) X.A (f v u) Q X.xe s2):
    wpAny (model X.prog X.w) X.A (eval a X.env) (fun v s₁=>wpAny (model X.prog X.w) X.A (eval b X.env) (fun u s₂=>wpAny (model X.prog X.w) X.A (f v u) Q X.xe s₂) X.xe s₁) X.xe s:=by
  refine thn (ha pins s σ H _ I h) fun v s1 ⟨x,H1,I1,r1,q1⟩=> ?_
  refine thn (hb pins s1 σ H1 _ I1 q1) fun u s2 ⟨y,H2,I2,r2,q2⟩=> ?_
  exact hf v u s2 x y H2 I2 r1 r2 q2
theorem Ak {op:Operator}{r:R2} (ho:OpR X (binaryOp op) r) (ha:PE X a ta) (hb:PE X b tb):PE X (.BinOp a op b pos) (tOp r ta tb):=by
  intro pins s σ H Q I h
  exact wpAny_BinOp (Acs ha hb I h fun v u s2 x y H2 I2 rx ry q=>ho pins s2 σ H2 x y v u Q I2 rx ry q)
theorem W4 {op:UnaryOp}{r:V->Hp->VK->Prop} (ho:UnR X (unaryOp op) r) (ha:PE X a ta):PE X (.UnaryOp op a pos) (tUn r ta):=by
  intro pins s σ H Q I h
  exact UnaryOp_ (thn (ha pins s σ H _ I h) fun v s1 ⟨x,H1,I1,r1,q1⟩=>ho pins s1 σ H1 x v Q I1 r1 q1)
theorem opI {f:Value->Value->Sem Value}{C:Int->Int->Prop}{g:Int->Int->Int}
    (rule:∀(i j:Int) (t u:Tok) (s:Shared) (Q:Value->Shared->Prop) (E:Value->Shared->Prop),C i j->Q (.int (g i j) s.toks) { s with toks:=s.toks+1}->wpAny (model X.prog X.w) X.A (f (.int i t) (.int j u)) Q E s):
    OpR X f (rI C fun i j=> .int (g i j)):=by
  intro pins s σ H x y v u Q I rx ry h
  obtain⟨i,j,rfl,rfl,hc,q⟩:=h
  obtain⟨t,rfl⟩:=rx
  obtain⟨t',rfl⟩:=ry
  exact rule i j t t' s _ _ hc ⟨.int (g i j),H,I.tok _,⟨_,rfl⟩,q⟩
theorem Adp {f:Value->Value->Sem Value}{g:Int->Int->Int}
    (rule:∀(i j:Int) (t u:Tok) (s:Shared) (Q:Value->Shared->Prop) (E:Value->Shared->Prop),Q (.int (g i j) s.toks) { s with toks:=s.toks+1}->wpAny (model X.prog X.w) X.A (f (.int i t) (.int j u)) Q E s):
    OpR X f (rI0 fun i j=> .int (g i j)):=by
  intro pins s σ H x y v u Q I rx ry h
  obtain⟨i,j,rfl,rfl,q⟩:=h
  obtain⟨t,rfl⟩:=rx
  obtain⟨t',rfl⟩:=ry
  exact rule i j t t' s _ _ ⟨.int (g i j),H,I.tok _,⟨_,rfl⟩,q⟩
theorem Aby {f:Value->Value->Sem Value}{g:Int->Int->Bool}
    (rule:∀(i j:Int) (t u:Tok) (s:Shared) (Q:Value->Shared->Prop) (E:Value->Shared->Prop),Q (.bool (g i j)) s->wpAny (model X.prog X.w) X.A (f (.int i t) (.int j u)) Q E s):
    OpR X f (rI0 fun i j=> .bl (g i j)):=by
  intro pins s σ H x y v u Q I rx ry h
  obtain⟨i,j,rfl,rfl,q⟩:=h
  obtain⟨t,rfl⟩:=rx
  obtain⟨t',rfl⟩:=ry
  exact rule i j t t' s _ _ ⟨.bl (g i j),H,I,rfl,q⟩
def Adj (i j:Int):Prop:=0<=j/\j<=1000000/\i.natAbs<2^64
def Adl (i j:Int):Prop:=(-(2^64)<i/\i<2^64)\/(-(2^64)<j/\j<2^64)
theorem Adl.ok {i j:Int} (h:Adl i j):IntMulOk i j:=by
  rcases h with⟨h1,h2⟩ | ⟨h1,h2⟩
  . exact .of_left (intBits_le_64 h1 h2)
  . exact .of_right (intBits_le_64 h1 h2)
theorem Dg:OpR X (binaryOp .Add) (rI0 fun i j=> .int (i+j)):=Adp fun _ _ _ _ _ _ _ q=>add_int q
theorem T3:OpR X (binaryOp .Sub) (rI0 fun i j=> .int (i-j)):=Adp fun _ _ _ _ _ _ _ q=>sub_int q
theorem Gn:OpR X (binaryOp .Mod) (rI (fun _ j=>0<j) fun i j=> .int (i%j)):=opI fun i j _ _ _ _ _ hc q=>by
  have h1:(0:Int)<j:=hc
  exact mod_int' (by omega) (by rw [Int.fmod_eq_emod_of_nonneg i (by omega)];exact q)
theorem V3:OpR X (binaryOp .Pow) (rI Adj fun i j=> .int (i^j.toNat)):=opI fun _ _ _ _ _ _ _ hc q=>pow_int_small hc.1 hc.2.1 hc.2.2 q
theorem unI {f:Value->Sem Value}{g:Int->Int}
    (rule:∀(i:Int) (t:Tok) (s:Shared) (Q:Value->Shared->Prop) (E:Value->Shared->Prop),Q (.int (g i) s.toks) { s with toks:=s.toks+1}->wpAny (model X.prog X.w) X.A (f (.int i t)) Q E s):
    UnR X f (rU fun i=> .int (g i)):=by
  intro pins s σ H x v Q I rx h
  obtain⟨i,rfl,q⟩:=h
  obtain⟨t,rfl⟩:=rx
  exact rule i t s _ _ ⟨.int (g i),H,I.tok _,⟨_,rfl⟩,q⟩
theorem U3:UnR X (unaryOp .USub) (rU fun i=> .int (-i)):=unI fun _ _ _ _ _ q=>neg_int q
end
def Aan:V->V->Bool
  | .non,.non=>true | .non,.int _=>true | .int _,.non=>true | .non,.bl _=>true | .bl _,.non=>true | .non,.str _=>true | .str _,.non=>true
  | .int _,.int _=>true | .bl _,.bl _=>true | .str _,.str _=>true | .byt _,.byt _=>true
  | .int _,.str _=>true | .str _,.int _=>true | .bl _,.str _=>true | .str _,.bl _=>true
  | _,_=>false
def rEq:R2:=fun x y H Q=>Aan x y=true/\Q (.bl (decide (x=y))) H
def rNe:R2:=fun x y H Q=>Aan x y=true/\Q (.bl (!decide (x=y))) H
theorem Vn {i j:Int}:decide (V.int i=V.int j)=(i==j):=by
  rw [Bool.eq_iff_iff]
  simp
theorem Yu {i j:Bool}:decide (V.bl i=V.bl j)=(i==j):=by
  rw [Bool.eq_iff_iff]
  simp
theorem Wr {i j:Str}:decide (V.str i=V.str j)=(i==j):=by
  rw [Bool.eq_iff_iff]
  simp
theorem Vf {i j:Array UInt8}:decide (V.byt i=V.byt j)=(i.toList==j.toList):=by
  rw [Bool.eq_iff_iff]
  cases i
  cases j
  simp
section
variable {X:Cx}{a b c:Expr}{ta tb tc:TE}{pos:Pos}
theorem Bd {pins:List (Addr × Obj)}{σ:St}{H:Hp}{s:Shared}{Q:VK}{k k':Bool} (I:Inv X pins σ H s) (q:Q (.bl k) H) (e:k=k'):EP X pins σ Q (.bool k') s:=by
  subst e
  exact⟨.bl k,H,I,rfl,q⟩
theorem Ik:OpR X (compareOp .Eq) rEq:=by
  intro pins s σ H x y v u Q I rx ry h
  obtain⟨hs,q⟩:=h
  cases x with
  | non=>
    cases rx
    cases y with
    | non=>cases ry;exact PySem.EqNone.eq_none_none (Bd I q (by simp))
    | bl j=>cases ry;exact PySem.EqNone.eq_none_bool (Bd I q (by simp))
    | int j=>obtain⟨t',rfl⟩:=ry;exact PySem.EqNone.eq_none_int (Bd I q (by simp))
    | str j=>obtain⟨t',rfl⟩:=ry;exact PySem.EqNone.eq_none_str (Bd I q (by simp))
    | _=>exact absurd (show false=true from hs) Bool.false_ne_true
  | bl i=>
    cases rx
    cases y with
    | non=>cases ry;exact PySem.EqNone.eq_bool_none (Bd I q (by simp))
    | bl j=>cases ry;exact eq_bool (Bd I q Yu)
    | str j=>obtain⟨t',rfl⟩:=ry;exact PySem.EqMixed.eq_bool_str (Bd I q (by simp))
    | _=>exact absurd (show false=true from hs) Bool.false_ne_true
  | int i=>
    obtain⟨t,rfl⟩:=rx
    cases y with
    | non=>cases ry;exact PySem.EqNone.eq_int_none (Bd I q (by simp))
    | int j=>obtain⟨t',rfl⟩:=ry;exact eq_int (Bd I q Vn)
    | str j=>obtain⟨t',rfl⟩:=ry;exact PySem.EqMixed.eq_int_str (Bd I q (by simp))
    | _=>exact absurd (show false=true from hs) Bool.false_ne_true
  | str i=>
    obtain⟨t,rfl⟩:=rx
    cases y with
    | non=>cases ry;exact PySem.EqNone.eq_str_none (Bd I q (by simp))
    | bl j=>cases ry;exact PySem.EqMixed.eq_str_bool (Bd I q (by simp))
    | int j=>obtain⟨t',rfl⟩:=ry;exact PySem.EqMixed.eq_str_int (Bd I q (by simp))
    | str j=>obtain⟨t',rfl⟩:=ry;exact eq_str (Bd I q Wr)
    | _=>exact absurd (show false=true from hs) Bool.false_ne_true
  | byt i=>
    obtain⟨t,rfl⟩:=rx
    cases y with
    | byt j=>obtain⟨t',rfl⟩:=ry;exact PySem.W.eq_bytes (Bd I q Vf)
    | _=>exact absurd (show false=true from hs) Bool.false_ne_true
  | _=>cases y<;>exact absurd (show false=true from hs) Bool.false_ne_true
theorem Xo:OpR X (compareOp .NotEq) rNe:=by
  intro pins s σ H x y v u Q I rx ry h
  obtain⟨hs,q⟩:=h
  cases x with
  | non=>
    cases rx
    cases y with
    | non=>cases ry;exact PySem.EqNone.ne_none_none (Bd I q (by simp))
    | bl j=>cases ry;exact PySem.EqNone.ne_none_bool (Bd I q (by simp))
    | int j=>obtain⟨t',rfl⟩:=ry;exact PySem.EqNone.ne_none_int (Bd I q (by simp))
    | str j=>obtain⟨t',rfl⟩:=ry;exact PySem.EqNone.ne_none_str (Bd I q (by simp))
    | _=>exact absurd (show false=true from hs) Bool.false_ne_true
  | bl i=>
    cases rx
    cases y with
    | non=>cases ry;exact PySem.EqNone.ne_bool_none (Bd I q (by simp))
    | bl j=>cases ry;exact ne_bool (Bd I q (congrArg not Yu))
    | str j=>obtain⟨t',rfl⟩:=ry;exact PySem.EqMixed.ne_bool_str (Bd I q (by simp))
    | _=>exact absurd (show false=true from hs) Bool.false_ne_true
  | int i=>
    obtain⟨t,rfl⟩:=rx
    cases y with
    | non=>cases ry;exact PySem.EqNone.ne_int_none (Bd I q (by simp))
    | int j=>obtain⟨t',rfl⟩:=ry;exact ne_int (Bd I q (congrArg not Vn))
    | str j=>obtain⟨t',rfl⟩:=ry;exact PySem.EqMixed.ne_int_str (Bd I q (by simp))
    | _=>exact absurd (show false=true from hs) Bool.false_ne_true
  | str i=>
    obtain⟨t,rfl⟩:=rx
    cases y with
    | non=>cases ry;exact PySem.EqNone.ne_str_none (Bd I q (by simp))
    | bl j=>cases ry;exact PySem.EqMixed.ne_str_bool (Bd I q (by simp))
    | int j=>obtain⟨t',rfl⟩:=ry;exact PySem.EqMixed.ne_str_int (Bd I q (by simp))
    | str j=>obtain⟨t',rfl⟩:=ry;exact ne_str (Bd I q (congrArg not Wr))
    | _=>exact absurd (show false=true from hs) Bool.false_ne_true
  | byt i=>
    obtain⟨t,rfl⟩:=rx
    cases y with
    | byt j=>obtain⟨t',rfl⟩:=ry;exact PySem.W.ne_bytes (Bd I q (congrArg not Vf))
    | _=>exact absurd (show false=true from hs) Bool.false_ne_true
  | _=>cases y<;>exact absurd (show false=true from hs) Bool.false_ne_true
theorem Aa5:OpR X (compareOp .Lt) (rI0 fun i j=> .bl (decide (i<j))):=Aby fun _ _ _ _ _ _ _ q=>lt_int q
theorem Ac6:OpR X (compareOp .LtE) (rI0 fun i j=> .bl (decide (i<=j))):=Aby fun _ _ _ _ _ _ _ q=>le_int q
theorem Z1:OpR X (compareOp .Gt) (rI0 fun i j=> .bl (decide (j<i))):=Aby fun _ _ _ _ _ _ _ q=>gt_int q
theorem Ac1:OpR X (compareOp .GtE) (rI0 fun i j=> .bl (decide (j<=i))):=Aby fun _ _ _ _ _ _ _ q=>ge_int q
theorem Aap:OpR X (compareOp .Is) (fun x y H Q=>y= .non/\Q (.bl (decide (x= .non))) H):=by
  intro pins s σ H x y v u Q I rx ry h
  obtain⟨rfl,q⟩:=h
  cases ry
  refine is_none_gen (Bd I q ?_)
  cases x<;>first
    | (cases rx;rfl)
    | (obtain⟨t,rfl⟩:=rx;rfl)
theorem Bh (b:Expr) {op:CmpOp} (h:op≠ .In:=by decide) (h2:op≠ .NotIn:=by decide):behindInMarks op b=false:=by
  have e1:(op==CmpOp.In)=false:=by cases op<;>first | rfl | exact absurd rfl h
  have e2:(op==CmpOp.NotIn)=false:=by cases op<;>first | rfl | exact absurd rfl h2
  cases b<;>simp [behindInMarks,e1,e2]
theorem Fz {op:CmpOp}{r:R2} (ho:OpR X (compareOp op) r) (ha:PE X a ta) (hb:PE X b tb) (hm:behindInMarks op b=false):PE X (.Compare a [op] [b] pos) (tOp r ta tb):=by
  intro pins s σ H Q I h
  exact wpAny_Compare1 (Acs ha hb I h fun v u s2 x y H2 I2 rx ry q=>ho pins s2 σ H2 x y v u Q I2 rx ry q) hm
def Z5 (t:TE):TT:=fun σ H Q=>t σ H fun x H'=>∃k,x= .bl k/\Q k H'
theorem Ba {op:CmpOp}{r:R2} (ho:OpR X (compareOp op) r) (ha:PE X a ta) (hb:PE X b tb) (hm:behindInMarks op b=false):PT X (.Compare a [op] [b] pos) (Z5 (tOp r ta tb)):=by
  intro pins s σ H Q I h
  refine wpAny_isTrue_Compare1 (thn (ha pins s σ H _ I h) fun v s1 ⟨x,H1,I1,r1,q1⟩=>thn (hb pins s1 σ H1 _ I1 q1) fun u s2 ⟨y,H2,I2,r2,q2⟩=>
    thn (ho pins s2 σ H2 x y v u _ I2 r1 r2 q2) fun c s3 ⟨z,H3,I3,r3,k,e,q3⟩=> ?_) hm
  subst e
  cases r3
  exact wpAny_truthy_bool ⟨H3,I3,q3⟩
def Aaq (r r':R2) (ta tb tc:TE):TE:=fun σ H Q=>ta σ H fun x H1=>tb σ H1 fun y H2=>r x y H2 fun z H3=>∃k,z= .bl k/\
  (if k=true then tc σ H3 fun w' H4=>r' y w' H4 Q else Q (.bl false) H3)
theorem S6:(sizeLine:Nat)<2^63:=by rw [sizeLine_eq];decide
theorem vals1 {x:V}{us:List Value} (r:Vals [x] us):∃u,us=[u]/\RelV x u:=by
  cases r with
  | cons r1 r2=>cases r2;exact⟨_,rfl,r1⟩
theorem vals2 {x y:V}{us:List Value} (r:Vals [x,y] us):∃u w',us=[u,w']/\RelV x u/\RelV y w':=by
  cases r with
  | cons r1 r2=>
    cases r2 with
    | cons r3 r4=>cases r4;exact⟨_,_,rfl,r1,r3⟩
theorem Nf:G9 X (.builtin "abs") (fun xs H Q=>∃i,xs=[.int i]/\Q (.int (if i<0 then-i else i)) H):=by
  intro pins s σ H xs us Q I r h
  obtain⟨i,rfl,q⟩:=h
  obtain⟨u,rfl,t,rfl⟩:=vals1 r
  exact call_abs_int fun u tk=>⟨.int (if i<0 then-i else i),H,I.tok _,⟨_,rfl⟩,q⟩
theorem Wo:G9 X (.type "int") (fun xs H Q=>(∃i,xs=[.int i]/\Q (.int i) H)\/∃k,xs=[.bl k]/\Q (.int (if k then 1 else 0)) H):=by
  intro pins s σ H xs us Q I r h
  rcases h with⟨i,rfl,q⟩ | ⟨k,rfl,q⟩
  . obtain⟨u,rfl,t,rfl⟩:=vals1 r
    exact call_int_int ⟨.int i,H,I,⟨_,rfl⟩,q⟩
  . obtain⟨u,rfl,r1⟩:=vals1 r
    cases r1
    exact call_int_bool ⟨.int (if k then 1 else 0),H,I.tok _,⟨_,rfl⟩,q⟩
end
end L2
namespace L2
open PySem PySem.Spec PyProof.Rows
structure Ac7 (h:Heap) (x dx C:Addr) (mA:Str->Option Value):Prop where
  obj:h.get? x=some (PySem.W.instObj C dx)
  ns:h.Ns1 dx mA
  ne:dx≠x
theorem Ww {h:Heap}{dx:Addr}{mA:Str->Option Value} (n:h.Ns1 dx mA):∃od,h.get? dx=some od/\∀name,PySem.W.lookIn name od=some (mA name):=by
  obtain⟨o,es,ep,ho,hd,hk,_,hm⟩:=n
  refine⟨o,ho,fun name=> ?_⟩
  have e:=hm name
  unfold nsFind findBy at e
  rw [<-Array.find?_toList]at e
  unfold PySem.W.lookIn
  rw [hd]
  dsimp only
  split
  . rename_i y q
    rw [q]at e
    exact congrArg some e
  . rename_i q
    rw [q]at e
    have a:es.toList.any (·.refKey)=false:=by
      rw [List.any_eq_false]
      intro y hy
      obtain⟨z,t,hkey⟩:=hk y (Array.mem_toList_iff.mp hy)
      simp [DictEntry.refKey,hkey]
    have a':¬es.toList.any (·.refKey)=true:=by rw [a];exact Bool.false_ne_true
    rw [if_neg a']
    exact congrArg some e
theorem Ac7.look {h:Heap}{x dx C:Addr}{mA:Str->Option Value} (I:Ac7 h x dx C mA):∃od,PySem.W.InstAt h x (PySem.W.instObj C dx) C (some od)/\∀name,PySem.W.lookIn name od=some (mA name):=
  let ⟨od,ho,hl⟩:=Ww I.ns
  ⟨od,⟨I.obj,rfl,rfl,ho⟩,hl⟩
section
variable {P:Program}{w:World}{H H':Hp}{h h':Heap}{a C dx:Addr}{fs fs':List (Str × V)}
theorem Aad (hok:HOk P w H h) (e:H a=some (.ins C dx fs)):∃mA,Ac7 h a dx C mA/\(∀f,X3 (fs.lookup f) (mA f))/\PySem.Within mA (fs.map (·.1))/\fs.length<=1000/\H dx=some (.own a):=by
  obtain⟨d,z,ne,ob,mA,n,r,q⟩:=(show Dp P w H h a (.ins C dx fs)from hok a _ e)
  exact⟨mA,⟨ob,n,ne⟩,r,q,z,d⟩
end
structure Cls (K:PySem.W.Frag) (C:Addr):Prop where
  pg:PySem.W.plainGet K C Str.empty=true
  hd:PySem.W.hasDictIn K C=true
  po:PySem.W.plainOver K C=true
  sa:PySem.W.findIn K (.ref C) "__setattr__"=some (some (.builtin "object.__setattr__"))
theorem Cls.get {K:PySem.W.Frag}{C:Addr} (c:Cls K C) (f:Str):PySem.W.plainGet K C f=true:=c.pg
structure Con (K:PySem.W.Frag) (C:Addr) (f:Str) (v:V) (u:Value):Prop where
  at_:PySem.W.findIn K (.ref C) f=some (some u)
  rel:RelV v u
  get:PySem.W.specialIn K u "__get__"=some none
  cp:PySem.W.copiedNames.contains f=false
structure Meth (K:PySem.W.Frag) (C:Addr) (m:Str) (f:Addr):Prop where
  at_:PySem.W.findIn K (.ref C) m=some (some (.ref f))
  fn:PySem.W.isFn K (.ref f)=true
  kp:PySem.W.keepIn K (.ref f)=true
section
variable {X:Cx}{pins:List (Addr × Obj)}{σ:St}{H:Hp}{s:Shared}{A:Around}{E:Value->Shared->Prop}{Q:Value->Shared->Prop}{c:Value}{b:Bool}
inductive Ug (K:PySem.W.Frag) (H:Hp):V->Value->Prop where
  | non:Ug K H .non (.type "NoneType")
  | bl (x:Bool):Ug K H (.bl x) (.type "bool")
  | int (i:Int):Ug K H (.int i) (.type "int")
  | str (x:Str):Ug K H (.str x) (.type "str")
  | flt (x:UInt64):Ug K H (.flt x) (.type "float")
  | lst {a:Addr}{xs:List V} (e:H a=some (.lst xs)):Ug K H (.ref a) (.type "list")
  | frz {a:Addr}{o:Obj}{xs:List V} (e:H a=some (.frz o (.lst xs))):Ug K H (.ref a) (.type "list")
  | tup {a:Addr}{xs:List V} (e:H a=some (.tup xs)):Ug K H (.ref a) (.type "tuple")
  | dK {a:Addr}{kvs:List (Key × V)} (e:H a=some (.dK kvs)):Ug K H (.ref a) (.type "dict")
  | dT {a:Addr}{kvs:List (List Key × V)} (e:H a=some (.dT kvs)):Ug K H (.ref a) (.type "dict")
  | ins {a C dx:Addr}{fs:List (Str × V)} (e:H a=some (.ins C dx fs)) (cl:Cls K C) (ha:PySem.W.findIn K (.ref C) "__class__"=some (some (.builtin "object.__class__")))
      (hn:PySem.W.specialIn K (.builtin "object.__class__") "__get__"=some (some (.builtin "getset_descriptor.__get__"))) (htk:PySem.W.takesIn K (.builtin "object.__class__")=some true)
      (hm:PySem.W.mroIn K C (.type "object")=some true):Ug K H (.ref a) (.ref C)
theorem Ws {x:V}{u t:Value} (I:Inv X pins σ H s) (rx:RelV x u) (ty:Ug X.K H x t) (e:PySem.W.kitOne X.K t c=some b) (h:∀tk,Q (.bool b) { s with toks:=tk}):
    wpAny (model X.prog X.w) A (call (.builtin "isinstance") [u,c]) Q E s:=by
  cases ty with
  | non=>cases(show u=Value.none from rx);exact PySem.W.kia_one PySem.W.kitx_none I.kIn True.intro e (fun z=>nomatch z) h
  | bl y=>cases(show u=Value.bool y from rx);exact PySem.W.kia_one PySem.W.kitx_bool I.kIn True.intro e (fun z=>nomatch z) h
  | int i=>obtain⟨t,q⟩:=(show ∃t,u=Value.int i t from rx);cases q;exact PySem.W.kia_one PySem.W.kitx_int I.kIn True.intro e (fun z=>nomatch z) h
  | str y=>obtain⟨t,q⟩:=(show ∃t,u=Value.str y t from rx);cases q;exact PySem.W.kia_one PySem.W.kitx_str I.kIn True.intro e (fun z=>nomatch z) h
  | flt y=>obtain⟨t,q⟩:=(show ∃t,u=Value.float y t from rx);cases q;exact PySem.W.kia_one PySem.W.kitx_float I.kIn True.intro e (fun z=>nomatch z) h
  | @lst a xs ea=>
    cases(show u=Value.ref a from rx)
    obtain⟨_,_,n,_,h1⟩:=(show Dp X.prog X.w H s.heap a (.lst xs)from I.hok a _ ea)
    exact PySem.W.kia_one PySem.W.kitx_list I.kIn ⟨_,h1,rfl⟩ e (fun z=>nomatch z) h
  | @frz a ob xs ea=>
    cases(show u=Value.ref a from rx)
    obtain⟨_,_,_,n,_,h1⟩:=(show Dp X.prog X.w H s.heap a (.frz ob (.lst xs))from I.hok a _ ea)
    exact PySem.W.kia_one PySem.W.kitx_list I.kIn ⟨_,h1,rfl⟩ e (fun z=>nomatch z) h
  | @tup a xs ea=>
    cases(show u=Value.ref a from rx)
    obtain⟨_,_,_,p⟩:=(show Dp X.prog X.w H s.heap a (.tup xs)from I.hok a _ ea)
    obtain⟨o,h1,h2,_⟩:=p
    exact PySem.W.kia_one PySem.W.kitx_tuple I.kIn ⟨o,h1,h2⟩ e (fun z=>nomatch z) h
  | @dK a kvs ea=>
    cases(show u=Value.ref a from rx)
    obtain⟨_,_,vs,_,p⟩:=(show Dp X.prog X.w H s.heap a (.dK kvs)from I.hok a _ ea)
    obtain⟨o,es,ep,h1,h2,_⟩:=p
    exact PySem.W.kia_one PySem.W.kitx_dict I.kIn ⟨o,h1,h2.1⟩ e (fun z=>nomatch z) h
  | @dT a kvs ea=>
    cases(show u=Value.ref a from rx)
    obtain⟨_,_,xs,_,o,es,ep,h1,h2,_⟩:=(show Dp X.prog X.w H s.heap a (.dT kvs)from I.hok a _ ea)
    exact PySem.W.kia_one PySem.W.kitx_dict I.kIn ⟨o,h1,h2.1⟩ e (fun z=>nomatch z) h
  | @ins a C dx fs ea cl ha hn htk hm=>
    cases(show u=Value.ref a from rx)
    obtain⟨mA,O,_⟩:=Aad I.hok ea
    obtain⟨od,J,_⟩:=O.look
    exact PySem.W.kia_one (PySem.W.kitx_own (cl.get _) cl.hd ha hn htk hm) I.kIn J e (fun z=>nomatch z) h
end
end L2
namespace L2
open PySem PySem.Spec PyProof.Rows
structure G3 (k:Nat) (A:Around):Prop where
  hd:A.handled=none
  dp:A.depth+3*k+5<recursionLimit
  un:A.units+16*k+200<cLine
theorem G3.mono {j k:Nat}{A:Around} (r:G3 k A) (h:j<=k):G3 j A:=⟨r.hd,by have:=r.dp;omega,by have:=r.un;omega⟩
theorem G3.deeper {k:Nat}{A:Around} (r:G3 (k+1) A) (env:Env):G3 k (A.deeper env):=
  ⟨r.hd,by have:=r.dp;show A.depth+1+3*k+5<_;omega,by have:=r.un;show A.units+3+16*k+200<_;omega⟩
theorem G3.in1 {k:Nat}{A:Around} (r:G3 (k+1) A):G3 k A.in1:=
  ⟨r.hd,by have:=r.dp;show A.depth+3*k+5<_;omega,by have:=r.un;show A.units+1+16*k+200<_;omega⟩
theorem G3.depth {k:Nat}{A:Around} (r:G3 k A):A.depth<recursionLimit:=by have:=r.dp;omega
theorem G3.units {k:Nat}{A:Around} (r:G3 k A):A.units+64<cLine:=by have:=r.un;omega
def Y7:TA:=fun _ H Q=>Q [] H
def Ko (ta:TE) (tr:TA):TA:=fun σ H Q=>ta σ H fun x H1=>tr σ H1 fun xs H2=>Q (x::xs) H2
section
variable {X:Cx}{e:Expr}{es:List Expr}{te:TE}{t:TA}{pos:Pos}
theorem Ab:PA X [] Y7:=fun _ _ _ _ H Q I h=>Calls.spliced_nil ⟨[],H,I,.nil,h⟩
theorem Zy (ha:PE X e te) (hr:PA X es t) (hs:starEach (e::es) X.env=(false,eval e X.env)::starEach es X.env:=by rfl):PA X (e::es) (Ko te t):=by
  intro pos pins s σ H Q I h
  rw [hs]
  show wpAny _ _ (spliced ((false,eval e X.env)::backTo pos (starEach es X.env))) _ _ s
  refine Calls.spliced_cons (thn (ha pins s σ H _ I h) fun u s1 ⟨x,H1,I1,r1,q1⟩=> ?_)
  exact thn (hr pos pins s1 σ H1 _ I1 q1) fun us s2 ⟨xs,H2,I2,r2,q2⟩=>⟨x::xs,H2,I2,.cons r1 r2,q2⟩
def Acb (t:TA):TE:=fun σ H Q=>t σ H fun xs H1=>xs.length<=sizeLine/\∀p,H1 p=none->Q (.ref p) (upd H1 p (.tup xs))
def Acu (t:TA):TE:=fun σ H Q=>t σ H fun xs H1=>xs.length<=sizeLine/\∀p,H1 p=none->Q (.ref p) (upd H1 p (.lst xs))
theorem Bb {x1} (h:PA X es t):PE X (.Tuple es x1 pos) (Acb t):=by
  intro pins s σ H Q I hq
  refine wpAny_Tuple_spliced (thn (h pos pins s σ H _ I hq) fun us s1 ⟨xs,H1,I1,r,z,q⟩=>⟨by rw [<-r.length];exact z,?_⟩)
  have hf:H1 s1.heap.objs.size=none:=I1.hok.fresh (Nat.le_refl _)
  refine⟨.ref s1.heap.objs.size,upd H1 s1.heap.objs.size (.tup xs),I1.laid (t':=s1.toks) (fun b u e=>Heap.get?_push_of_some _ e) (Nat.le_refl _) ?_,rfl,q _ hf⟩
  exact⟨z,us,r,⟨_,Heap.get?_push_size _ rfl,rfl,_,rfl⟩⟩
theorem Bg (h:PA X es t):PE X (.List es pos) (Acu t):=by
  intro pins s σ H Q I hq
  refine wpAny_List_spliced (thn (h pos pins s σ H _ I hq) fun us s1 ⟨xs,H1,I1,r,z,q⟩=>⟨by rw [<-r.length];exact z,?_⟩)
  have hf:H1 s1.heap.objs.size=none:=I1.hok.fresh (Nat.le_refl _)
  refine⟨.ref s1.heap.objs.size,upd H1 s1.heap.objs.size (.lst xs),I1.laid (t':=s1.toks) (fun b u e=>Heap.get?_push_of_some _ e) (Nat.le_refl _) ?_,rfl,q _ hf⟩
  exact⟨z,us,0,r,Heap.get?_push_size _ rfl⟩
end
abbrev Sp:=List V->Hp->VK->XK->Prop
abbrev CXT:=List Env->Hp->Shared->XK->Value->Shared->Prop
structure Aag (P:Program) (w:World) (K:PySem.W.Frag) (mg:Str->Option Value) (base:Heap) (A:Around) (outer:List Env) (s:Shared) (H:Hp):Prop where
  frames:A.frames=some outer
  mod:Mod K mg base
  bs:∀b o,base.get? b=some o->s.heap.get? b=some o/\H b=none
  bsz:base.objs.size<=s.heap.objs.size
  funs:s.heap.FunFrames base outer
  frf:∀b∈frs outer,H b=none
  hok:HOk P w H s.heap
  bare:AllBare s.gens
def CE (outer:List Env) (P:Program) (w:World) (H:Hp) (s:Shared) (Q:VK) (u:Value) (s':Shared):Prop:=
  ∃v H',s'.os=s.os/\AllBare s'.gens/\Un (frs outer) [] H H' s.heap s'.heap/\HOk P w H' s'.heap/\RelV v u/\Q v H'
def CR (CX:CXT) (outer:List Env) (P:Program) (w:World) (H:Hp) (s:Shared) (Q:VK) (E:XK) (r:Result) (s':Shared):Prop:=
  match r with
  | .ok (.ret u)=>CE outer P w H s Q u s'
  | .ok _=>False
  | .error e=>CX outer H s E e s'
structure Pa (P:Program) (w:World) (K:PySem.W.Frag) (mg:Str->Option Value) (base:Heap) (CX:CXT) (k:Nat) (f:Addr) (fd:FuncData) (ps:List Str) (sp:Sp):Prop where
  len:∀vs H Q E,sp vs H Q E->vs.length=ps.length
  run:∀(A:Around) (outer:List Env) (s:Shared) (H:Hp) (args:Args) (us:List Value) (vs:List V) (Q:VK) (E:XK),G3 k A->Aag P w K mg base A outer s H->BindsTo s fd args (ps.zip us)->Vals vs us->sp vs H Q E->
    codeAny (model P w) A (.call (.ref f) args) (CR CX outer P w H s Q E) s
theorem Pa.mono {P:Program}{w:World}{K:PySem.W.Frag}{mg:Str->Option Value}{base:Heap}{CX:CXT}{j k:Nat}{f:Addr}{fd:FuncData}{ps:List Str}{sp:Sp} (F:Pa P w K mg base CX j f fd ps sp) (h:j<=k):
    Pa P w K mg base CX k f fd ps sp:=⟨F.len,fun A outer s H args us vs Q E hr=>F.run A outer s H args us vs Q E (hr.mono h)⟩
theorem Aag.in1 {P:Program}{w:World}{K:PySem.W.Frag}{mg:Str->Option Value}{base:Heap}{A:Around}{outer:List Env}{s:Shared}{H:Hp} (e:Aag P w K mg base A outer s H):
    Aag P w K mg base A.in1 outer s H:=⟨e.frames,e.mod,e.bs,e.bsz,e.funs,e.frf,e.hok,e.bare⟩
section
variable {X:Cx}{pins:List (Addr × Obj)}{σ:St}{H:Hp}{s s':Shared}
theorem Inv.env0 (I:Inv X pins σ H s):Aag X.prog X.w X.K X.mg X.base X.A X.stack s H:=
  ⟨I.ok.frames,I.ok.mod,I.bs,Nat.le_trans I.ok.bsz I.sz,I.stack,I.stkFree,I.hok,I.bare⟩
theorem Inv.after {Q:VK}{u:Value} (I:Inv X pins σ H s) (h:CE X.stack X.prog X.w H s Q u s'):EP X pins σ Q u s':=by
  obtain⟨v,H',os,bare,un,hok,r,q⟩:=h
  obtain⟨hh,g,d,t,os'⟩:=s'
  obtain rfl:os'=s.os:=os
  exact⟨v,H',I.call (h':=hh) (g':=g) (d':=d) (t':=t) (ch:=[]) un hok bare (fun b z=>absurd z (by simp)),r,q⟩
end
def Kq (sp:Sp) (dvs:List V) (E:XK) (t:TA):TE:=fun σ H Q=>t σ H fun vs H1=>sp (vs++dvs) H1 Q E
def Binds (K:PySem.W.Frag) (fd:FuncData) (ps:List Str) (ds:List Value):Prop:=
  ∀(s:Shared) (us:List Value),K.In s.heap->(us++ds).length=ps.length->BindsTo s fd ⟨us,[]⟩ (ps.zip (us++ds))
theorem Binds.all {K:PySem.W.Frag}{fd:FuncData}{ps:List Str} (h:∀us:List Value,us.length=ps.length->bindArgs fd ⟨us,[]⟩=pure (ps.zip us)):Binds K fd ps []:=fun s us _ hl=>by
  rw [List.append_nil]at hl ⊢
  exact .of_eq (h us hl)
def Passes (CX:CXT) (X:Cx) (E:XK):Prop:=∀(pins:List (Addr × Obj)) (σ:St) (H:Hp) (s:Shared) (e:Value) (s':Shared),Inv X pins σ H s->CX X.stack H s E e s'->X.xe e s'
section
variable {X:Cx}{CX:CXT}{k:Nat}{f C:Addr}{fd:FuncData}{ps:List Str}{sp:Sp}{dvs:List V}{ds:List Value}{E:XK}{x m:Str}{p pos apos:Pos}{e o:Expr}{es:List Expr}{ta:TE}{t:TA}
theorem Abj {pins:List (Addr × Obj)}{σ:St}{H:Hp}{s:Shared}{Q:VK}{us:List Value}{vs:List V} (F:Pa X.prog X.w X.K X.mg X.base CX k f fd ps sp) (hr:G3 k X.A) (hb:Binds X.K fd ps ds) (hd:Vals dvs ds) (hx:Passes CX X E)
    (I:Inv X pins σ H s) (r:Vals vs us) (h:sp (vs++dvs) H Q E):wpAny (model X.prog X.w) X.A (call (.ref f) us) (EP X pins σ Q) X.xe s:=by
  have r2:Vals (vs++dvs) (us++ds):=r.append hd
  have hl:(us++ds).length=ps.length:=by rw [<-r2.length];exact F.len _ _ _ _ h
  refine wpAny_call (codeAny_mono (F.run X.A X.stack s H ⟨us,[]⟩ (us++ds) (vs++dvs) Q E hr I.env0 (hb s us I.kIn hl) r2 h) fun r s' hq=> ?_)
  cases r with
  | error e=>exact hx pins σ H s e s' I hq
  | ok fl=>
    cases fl with
    | ret u=>exact I.after hq
    | next=>exact False.elim hq
    | brk=>exact False.elim hq
    | cont=>exact False.elim hq
theorem Vb (F:Pa X.prog X.w X.K X.mg X.base CX k f fd ps sp) (hr:G3 k X.A) (hg:Gl X x) (hm:X.mg x=some (.ref f)) (hk:PySem.W.keepIn X.K (.ref f)=true) (hb:Binds X.K fd ps ds) (hd:Vals dvs ds) (hx:Passes CX X E)
    (ha:PA X (e::es) t) (hdb:(x==("__debug__":Str))=false:=by decide) (he:starEach (e::es) X.env=(false,eval e X.env)::starEach es X.env:=by rfl) (hpl:(backTo pos (starEach es X.env)).any (·.1)=false:=by rfl):
    PE X (.Call (.Name x p) (e::es) [] pos) (Kq sp dvs E t):=by
  intro pins s σ H Q I h
  refine wpAny_Call_Name_kw (Kz I hg hm ?_ hdb)
  refine PySem.W.callWith_K (h₀:=X.base) I.ok.mod.kin hk (thn (ha pos pins s σ H _ I h) fun us s1 ⟨vs,H1,I1,r,q⟩=>⟨I1.kIn,?_⟩) he hpl
  exact Abj F hr hb hd hx I1 r q
structure Mk (K:PySem.W.Frag) (C f:Addr):Prop where
  makes:PySem.W.makesIn K C=true
  init:PySem.W.findIn K (.ref C) "__init__"=some (some (.ref f))
  fn:PySem.W.isFn K (.ref f)=true
  kp:PySem.W.keepIn K (.ref C)=true
end
section
variable {X:Cx}{CX:CXT}{k:Nat}{f C:Addr}{fd:FuncData}{ps ks:List Str}{sp:Sp}{E:XK}{x m:Str}{p pos apos kpos:Pos}{e o:Expr}{es:List Expr}{kws:List Keyword}{te ta:TE}{t tk:TA}{nm:Option Str}
structure Ado (K:PySem.W.Frag) (fd:FuncData) (ps ks:List Str) (g:List Value->List Value->List Value) (gV:List V->List V->List V):Prop where
  to:∀(s:Shared) (us ws:List Value),K.In s.heap->(g us ws).length=ps.length->BindsTo s fd ⟨us,ks.zip ws⟩ (ps.zip (g us ws))
  rel:∀ {vs:List V}{us:List Value}{zs:List V}{ws:List Value},Vals vs us->Vals zs ws->Vals (gV vs zs) (g us ws)
variable {g:List Value->List Value->List Value}{gV:List V->List V->List V}
end
structure Aq (N P:List Str) (sc:Scope):Prop where
  kind:sc.kind= .function
  co:sc.isCoroutine=false
  gen:sc.isGenerator=false
  nd:N.Nodup
  pre:N.take P.length=P
  par:∀x∈P,sc.names.lookup x=some .local \/sc.names.lookup x=some .cell
  nofree:∀y∈sc.names,y.2≠ .free
theorem Oj {kindOf:Str->Option NameKind}{x:Str}:∀ {binds:List (Str × Value)}{m:Str->Option Value},(∀v,(x,v)∉binds)->bindL kindOf binds m x=m x
  | [],_,_=>rfl
  | (n,v)::r,m,h=>by
    unfold bindL
    rw [Oj fun w hw=>h w (List.mem_cons_of_mem _ hw)]
    split
    . have:x≠n:=by rintro rfl;exact h v List.mem_cons_self
      simp [this]
    . rfl
theorem Qy {kindOf:Str->Option NameKind}{x:Str}:∀ {binds:List (Str × Value)}{m:Str->Option Value},(∀v,(x,v)∉binds)->bindC kindOf binds m x=m x
  | [],_,_=>rfl
  | (n,v)::r,m,h=>by
    unfold bindC
    rw [Qy fun w hw=>h w (List.mem_cons_of_mem _ hw)]
    split
    . rfl
    . have:x≠n:=by rintro rfl;exact h v List.mem_cons_self
      simp [this]
theorem Pu {kindOf:Str->Option NameKind}{x:Str}{v:Value}:∀ {P:List Str}{vs:List Value}{i:Nat}{m:Str->Option Value},P.Nodup->P[i]? =some x->vs[i]? =some v->kindOf x=some .local ->
    bindL kindOf (P.zip vs) m x=some v
  | [],_,_,_,_,h,_,_=>by simp at h
  | _::_,[],_,_,_,_,h,_=>by simp at h
  | p::P,w::vs,0,m,nd,h1,h2,hk=>by
    simp at h1 h2;subst h1;subst h2
    show bindL kindOf ((p,w)::P.zip vs) m p=_
    unfold bindL
    rw [Oj fun v hv=>(List.nodup_cons.mp nd).1 (List.of_mem_zip hv).1,if_pos hk]
    simp
  | p::P,w::vs,i+1,m,nd,h1,h2,hk=>by
    show bindL kindOf ((p,w)::P.zip vs) m x=_
    unfold bindL
    exact Pu (i:=i) (List.nodup_cons.mp nd).2 (by simpa using h1) (by simpa using h2) hk
theorem Ol {kindOf:Str->Option NameKind}{x:Str}{v:Value}:∀ {P:List Str}{vs:List Value}{i:Nat}{m:Str->Option Value},P.Nodup->P[i]? =some x->vs[i]? =some v->kindOf x≠some .local ->
    bindC kindOf (P.zip vs) m x=some v
  | [],_,_,_,_,h,_,_=>by simp at h
  | _::_,[],_,_,_,_,h,_=>by simp at h
  | p::P,w::vs,0,m,nd,h1,h2,hk=>by
    simp at h1 h2;subst h1;subst h2
    show bindC kindOf ((p,w)::P.zip vs) m p=_
    unfold bindC
    rw [Qy fun v hv=>(List.nodup_cons.mp nd).1 (List.of_mem_zip hv).1,if_neg hk]
    simp
  | p::P,w::vs,i+1,m,nd,h1,h2,hk=>by
    show bindC kindOf ((p,w)::P.zip vs) m x=_
    unfold bindC
    exact Ol (i:=i) (List.nodup_cons.mp nd).2 (by simpa using h1) (by simpa using h2) hk
def start (N:List Str) (vs:List V):St:=vs.map some++List.replicate (N.length-vs.length) none
def Lb (CX:CXT) (P:Program) (w:World) (K:PySem.W.Frag) (mg:Str->Option Value) (base:Heap) (N:List Str) (qual:Str) (scope:Scope) (f:Addr) (cd:Value) (A:Around) (outer:List Env) (s:Shared) (H:Hp) (E:XK):Cx where
  prog:=P
  w:=w
  K:=K
  mg:=mg
  base:=base
  A:=A.deeper (envOfC qual scope s.heap.objs.size f cd)
  N:=N
  s₀:=s
  H₀:=H
  env:=envOfC qual scope s.heap.objs.size f cd
  outer:=outer
  stack:=envOfC qual scope s.heap.objs.size f cd::outer
  ex:=[]
  calm:=true
  fn:=fun _=>true
  pn:=[]
  xe:=fun e s'=>wpAny (model P w) (A.deeper (envOfC qual scope s.heap.objs.size f cd)) (leaving (envOfC qual scope s.heap.objs.size f cd) e) (fun _ s''=>CX outer H s E e s'') (fun e' s''=>CX outer H s E e' s'') s'
theorem S5 {sc:Scope}{n:Nat}{x:Str} (h:sc.names.lookup x=some .cell):∃c,(cellsFrom n sc.names []).lookup x=some c:=by
  have q:=PySem.W.cellsFrom_some sc.names n [] (.inl h)
  exact Option.isSome_iff_exists.mp q
theorem Wt {CX:CXT}{P:Program}{w:World}{K:PySem.W.Frag}{mg:Str->Option Value}{base:Heap}{N ps:List Str}{qual:Str}{scope:Scope}{f:Addr}{cd:Value}{A:Around}{outer:List Env}{s s1:Shared}{H:Hp}{E:XK}{us:List Value}{vs:List V}
    (S:Aq N ps scope) (hd:A.handled=none) (e0:Aag P w K mg base A outer s H) (hl:vs.length=ps.length) (r:Vals vs us)
    (x:InCallC s s.heap.objs.size (bindL (envOfC qual scope s.heap.objs.size f cd).kindOf (ps.zip us) fun _=>none) (cellsFrom (s.heap.objs.size+1) scope.names []) (bindC (envOfC qual scope s.heap.objs.size f cd).kindOf (ps.zip us) fun _=>none) s1):
    Inv (Lb CX P w K mg base N qual scope f cd A outer s H E) [] (start N vs) H s1:=by
  have hpl:ps.length<=N.length:=by have:=congrArg List.length S.pre;rw [List.length_take]at this;omega
  obtain⟨h1,tk,rfl,hk⟩:=x.done
  have noA:∀b:Addr,b∉(Lb CX P w K mg base N qual scope f cd A outer s H E).ex:=fun b z=>absurd (show b∈([]:List Addr)from z) (by simp)
  refine⟨⟨e0.mod,S.kind,rfl,rfl,Nat.le_refl _,fun y z c h1 h2=> ?_,fun y hy=> ?_,fun y c _ h=> ?_,fun _=>hd,Around.frames_deeper e0.frames,.inr ⟨rfl,rfl⟩,fun b z=>absurd z (noA b),e0.bs,e0.bsz,fun b _ _=>noA b,fun b z=>absurd z (noA b),e0.funs,e0.frf⟩,
    rfl,e0.bare,Un.kept hk,⟨_,x.toInCall.ns,fun i y v h1 h2 h3=> ?_⟩,fun y c h=>⟨_,x.cell y c h⟩,e0.hok.fresh (Nat.le_refl _),fun y c h=> ?_,fun p hp=>absurd (show p∈([]:List (Addr × Obj))from hp) (by simp),e0.hok.kept hk,?_⟩
  . exact name_of_addr x.apart (PySem.mem_of_lookup h1) (PySem.mem_of_lookup h2)
  . have hy:scope.names.lookup y=some .cell\/scope.names.lookup y=some .free:=hy
    rcases hy with hy | hy
    . exact S5 hy
    . exact absurd rfl (S.nofree _ (PySem.mem_of_lookup hy))
  . exact Nat.le_of_lt (x.above y c (PySem.mem_of_lookup h))
  . have hi:i<vs.length:=by
      unfold start at h2
      by_cases hi:i<vs.length
      . exact hi
      . rw [List.getElem?_append_right (by simpa using hi)]at h2
        rw [List.getElem?_replicate]at h2
        split at h2<;>cases h2
    have ha:vs[i]? =some v:=by
      unfold start at h2
      rw [List.getElem?_append_left (by simpa using hi),List.getElem?_map]at h2
      cases e:vs[i]? with
      | none=>rw [e]at h2;cases h2
      | some a=>rw [e]at h2;cases h2;rfl
    obtain⟨u,hu,rv⟩:=r.get ha
    have hp:ps[i]? =some y:=by
      rw [<-S.pre,List.getElem?_take_of_lt (by omega)];exact h1
    have ndP:ps.Nodup:=by rw [<-S.pre];exact S.nd.sublist (List.take_sublist _ _)
    refine⟨u,rv,?_⟩
    rcases S.par y (List.mem_of_getElem? hp)with k | k
    . exact .inl ⟨k,Pu ndP hp hu k⟩
    . obtain⟨c,e⟩:=S5 (n:=s.heap.objs.size+1) k
      refine .inr ⟨.inl k,c,e,?_⟩
      have q:=x.cell y c e
      rw [Ol ndP hp hu (by show scope.names.lookup y≠_;rw [k];decide)]at q
      exact q
  . exact e0.hok.fresh (Nat.le_of_lt (x.above y c (PySem.mem_of_lookup h)))
  . unfold start
    show _=N.length
    rw [List.length_append,List.length_map,List.length_replicate]
    omega
theorem Abm {CX:CXT}{P:Program}{w:World}{K:PySem.W.Frag}{mg:Str->Option Value}{base:Heap}{k:Nat}{f:Addr}{name qual:Str}{params:Arguments}{body:List Stmt}{scope:Scope}{dV kV doc pm cdv ct oc:Value}{an od:Option Addr}
    {osl:Array (Option Value)}{N ps:List Str}{sp:Sp} (lk:K.lookup f=some ⟨oc,od,.func (PySem.W.fnOf name qual params body scope dV kV doc pm an cdv ct),osl⟩) (hcd:PySem.W.codeIn K cdv qual=true) (S:Aq N ps scope)
    (len:∀vs H Q E,sp vs H Q E->vs.length=ps.length)
    (hbody:∀(A:Around) (outer:List Env) (s:Shared) (H:Hp) (vs:List V) (Q:VK) (E:XK),G3 k (A.deeper (envOfC qual scope s.heap.objs.size f cdv))->sp vs H Q E->
      ∃t,PSs (Lb CX P w K mg base N qual scope f cdv A outer s H E) body t/\t { nx:=fun _ H'=>Q .non H',rt:=Q} (start N vs) H):
    Pa P w K mg base CX (k+1) f (PySem.W.fnOf name qual params body scope dV kV doc pm an cdv ct) ps sp:=by
  refine⟨len,fun A outer s H args us vs Q E hr e0 hb r hsp=> ?_⟩
  have hl:=len _ _ _ _ hsp
  have KX:K.In s.heap:=e0.mod.kin.keeps fun b o e=>(e0.bs b o e).1
  have lim:s.heap.NoLimit:=e0.mod.nolimit.keeps fun b o e=>(e0.bs b o e).1
  have hkind:∀y∈ps.zip us,scope.names.lookup y.1=some .local \/(scope.names.lookup y.1=some .cell/\((cellsFrom (s.heap.objs.size+1) scope.names []).lookup y.1).isSome=true):=fun⟨n,v⟩ hy=>by
    rcases S.par n (List.of_mem_zip hy).1 with q | q
    . exact .inl q
    . exact .inr ⟨q,PySem.W.cellsFrom_some _ _ _ (.inl q)⟩
  refine codeAny_call_function hr.depth (KX _ _ lk) rfl S.co S.gen rfl (PySem.W.codeRec_of KX hcd) (hb _ _ _ _ ?_)
  refine wpAny_newFunctionEnv_cells S.kind hkind fun env he s1 x=> ?_
  subst he
  refine⟨lim.keeps x.toInCall.keep,codeAny_func ?_⟩
  obtain⟨t,ht,hq⟩:=hbody A outer s H vs Q E (hr.deeper _) hsp
  have I:Inv (Lb CX P w K mg base N qual scope f cdv A outer s H E) [] (start N vs) H s1:=Wt S hr.hd e0 hl r x
  refine wpAny_mono (ht [] s1 (start N vs) H _ I hq) (fun fl s' hs=> ?_) fun e s' hs=>hs
  have fin:∀ {σ':St}{H':Hp}{v:V}{u:Value},Inv (Lb CX P w K mg base N qual scope f cdv A outer s H E) [] σ' H' s'->RelV v u->Q v H'->CE outer P w H s Q u s':=
    fun {σ' H' v u} J rv q=>⟨v,H',J.os,J.bare,J.base,J.hok,rv,q⟩
  cases fl with
  | ret u=>
    obtain⟨v,σ',H',J,rv,q⟩:=hs
    exact fin J rv q
  | next=>
    obtain⟨σ',H',J,q⟩:=hs
    exact fin (v:=V.non) (u:=Value.none) J rfl q
  | brk=>
    obtain⟨_,_,_,q⟩:=hs
    exact False.elim q
  | cont=>
    obtain⟨_,_,_,q⟩:=hs
    exact False.elim q
end L2
namespace L2
open PySem PySem.Spec PyProof.Rows
section
variable {X:Cx}{x:Str}{p pos:Pos}{e:Expr}{es:List Expr}{t:TA}{id T:String}{r:List V->Hp->VK->Prop}
def tCB (r:List V->Hp->VK->Prop) (t:TA):TE:=fun σ H Q=>t σ H fun vs H1=>r vs H1 Q
theorem X7 (hc:G9 X (.builtin id) r) (hg:Gl X x) (hm:X.mg x=none) (hv:bootBuiltins x=some (.builtin id)) (ha:PA X (e::es) t) (hn:x≠"__name__":=by decide) (hdb:(x==("__debug__":Str))=false:=by decide)
    (he:starEach (e::es) X.env=(false,eval e X.env)::starEach es X.env:=by rfl) (hpl:(backTo pos (starEach es X.env)).any (·.1)=false:=by rfl):PE X (.Call (.Name x p) (e::es) [] pos) (tCB r t):=by
  intro pins s σ H Q I h
  refine wpAny_Call_Name_kw (Li I hg hm hv ?_ hn hdb)
  exact PyProof.Rows.callWith_builtin1 (thn (ha pos pins s σ H _ I h) fun us s1 ⟨vs,H1,I1,r1,q1⟩=>hc pins s1 σ H1 vs us Q I1 r1 q1) he hpl
theorem Vx (hc:G9 X (.type T) r) (hg:Gl X x) (hm:X.mg x=none) (hv:bootBuiltins x=some (.type T)) (ha:PA X (e::es) t) (hn:x≠"__name__":=by decide) (hdb:(x==("__debug__":Str))=false:=by decide)
    (he:starEach (e::es) X.env=(false,eval e X.env)::starEach es X.env:=by rfl) (hpl:(backTo pos (starEach es X.env)).any (·.1)=false:=by rfl):PE X (.Call (.Name x p) (e::es) [] pos) (tCB r t):=by
  intro pins s σ H Q I h
  refine wpAny_Call_Name_kw (Li I hg hm hv ?_ hn hdb)
  exact PyProof.Rows.callWith_type1 (thn (ha pos pins s σ H _ I h) fun us s1 ⟨vs,H1,I1,r1,q1⟩=>hc pins s1 σ H1 vs us Q I1 r1 q1) he hpl
end
end L2
namespace HT
open PySem PyProof.Rows
section
variable {prog:Program}{w:World}{A:Around}{E:Value->Shared->Prop}{s:Shared}
def sIx (n d:Nat):Option Int->Nat
  | none=>d
  | some v=>if v<0 then(v+(n:Int)).toNat else min v.toNat n
theorem Tp (n d:Nat):sIx n d none=d:=rfl
theorem W2 (n d k:Nat):sIx n d (some (k:Int))=min k n:=by
  show(if(k:Int)<0 then((k:Int)+(n:Int)).toNat else min (k:Int).toNat n)=min k n
  rw [if_neg (by omega),Int.toNat_natCast]
end
end HT
namespace L2
open PySem PySem.Spec PyProof.Rows
abbrev TO:=St->Hp->(Option Int->Hp->Prop)->Prop
def PO (X:Cx) (e:Option Expr) (t:TO):Prop:=
  ∀(pins:List (Addr × Obj)) (s:Shared) (σ:St) (H:Hp) (Q:Option Int->Hp->Prop),Inv X pins σ H s->t σ H Q->
    wpAny (model X.prog X.w) X.A (evalPart e X.env) (fun u s'=>∃o H',Inv X pins σ H' s'/\IsPart u o/\Q o H') X.xe s
def Rm:TO:=fun _ H Q=>Q none H
def Zx (t:TE):TO:=fun σ H Q=>t σ H fun x H1=>∃i,x= .int i/\Q (some i) H1
theorem intsAre_of {ns:List Int}:∀ {us:List Value},Vals (ns.map V.int) us->IntsAre us ns:=by
  induction ns with
  | nil=>intro us r;rw [List.map_nil]at r;cases r;exact .nil
  | cons n ns ih=>
    intro us r
    rw [List.map_cons]at r
    cases r with
    | cons r1 r2=>
      obtain⟨t,e⟩:=r1
      subst e
      exact .cons n t (ih r2)
section
variable {X:Cx}{e:Expr}{te:TE}{lo hi:Option Expr}{tl th:TO}{pos p2:Pos}
theorem Dn:PO X none Rm:=by
  intro pins s σ H Q I h
  rw [evalPart_none]
  exact wpAny_pure ⟨none,H,I,.none,h⟩
theorem Cr (h:PE X e te):PO X (some e) (Zx te):=by
  intro pins s σ H Q I hw
  rw [evalPart_some]
  refine thn (h pins s σ H _ I hw) fun u s1 ⟨x,H1,I1,r1,q1⟩=> ?_
  obtain⟨i,rfl,q⟩:=q1
  obtain⟨t,rfl⟩:=r1
  exact⟨some i,H1,I1,.int i t,q⟩
def SlR (X:Cx) (r:V->Option Int->Option Int->Hp->VK->Prop):Prop:=
  ∀(pins:List (Addr × Obj)) (s:Shared) (σ:St) (H:Hp) (x:V) (v vl vu:Value) (lo hi:Option Int) (sl:Addr) (Q:VK),Inv X pins σ H s->RelV x v->s.heap.IsSliceOf sl vl vu .none->IsPart vl lo->IsPart vu hi->r x lo hi H Q->
    ∃T id,typeLookup (.type T) "__getitem__"=pure (some (.builtin id))/\s.TypeIs v T/\wpAny (model X.prog X.w) X.A (getItem v (.ref sl)) (EP X pins σ Q) X.xe s
def tSl (r:V->Option Int->Option Int->Hp->VK->Prop) (te:TE) (tl th:TO):TE:=fun σ H Q=>te σ H fun x H1=>tl σ H1 fun l H2=>th σ H2 fun u H3=>r x l u H3 Q
theorem Cd {r:V->Option Int->Option Int->Hp->VK->Prop} (hr:SlR X r) (he:PE X e te) (hl:PO X lo tl) (hu:PO X hi th):PE X (.Subscript e (.Slice lo hi none p2) pos) (tSl r te tl th):=by
  intro pins s σ H Q I h
  refine Subscript_ (thn (he pins s σ H _ I h) fun v s1 ⟨x,H1,I1,r1,q1⟩=> ?_)
  refine wpAny_Slice (thn (hl pins s1 σ H1 _ I1 q1) fun vl s2 ⟨l,H2,I2,pl,q2⟩=>thn (hu pins s2 σ H2 _ I2 q2) fun vu s3 ⟨u,H3,I3,pu,q3⟩=> ?_)
  rw [evalPart_none]
  refine wpAny_pure ?_
  have I4:Inv X pins σ H3 { s3 with heap:=s3.heap.push { cls:= .type "slice",data:= .fields #[vl,vu,.none]}}:=I3.kept (t':=s3.toks) fun b ob q=>Heap.get?_push_of_some _ q
  obtain⟨T,id,hT,ht,hg⟩:=hr pins { s3 with heap:=s3.heap.push { cls:= .type "slice",data:= .fields #[vl,vu,.none]}} σ H3 x v vl vu l u s3.heap.objs.size Q I4 r1 (Heap.IsSliceOf.new ..) pl pu q3
  show wpAny (model X.prog X.w) X.A (subscriptTail e (.Slice lo hi none p2) v (.ref s3.heap.objs.size)) (EP X pins σ Q) X.xe { s3 with heap:=s3.heap.push { cls:= .type "slice",data:= .fields #[vl,vu,.none]}}
  exact tail_any (ops:=[.ref s3.heap.objs.size,v]) ht hT hg (by with_unfolding_all rfl)
def Uq (xs:List V) (lo hi:Option Int):List V:=(xs.drop (HT.sIx xs.length 0 lo)).take (HT.sIx xs.length xs.length hi-HT.sIx xs.length 0 lo)
theorem Rj (xs:List V) (lo hi:Option Int):(Uq xs lo hi).length<=xs.length:=by
  unfold Uq
  rw [List.length_take,List.length_drop]
  omega
end
end L2
namespace L2
open PySem PySem.Spec PyProof.Rows
def ixN (n:Nat) (i:Int):Option Nat:=if 0<=i then(if i<n then some i.toNat else none)else if-(n:Int)<=i then some (i+n).toNat else none
def atI {α:Type} (xs:List α) (i:Int):Option α:=(ixN xs.length i).bind fun j=>xs[j]?
theorem U8 {n:Nat}{i:Int}{j:Nat} (h:ixN n i=some j):seqIndex? i n=some j/\j<n/\ -(n:Int)<=i/\i<n:=by
  unfold ixN at h
  by_cases h0:0<=i
  . rw [if_pos h0]at h
    by_cases h1:i<n
    . rw [if_pos h1]at h
      have e:i.toNat=j:=Option.some.inj h
      exact⟨by rw [seqIndex_of h0 h1,e],by omega,by omega,h1⟩
    . rw [if_neg h1]at h;cases h
  . rw [if_neg h0]at h
    by_cases h1: -(n:Int)<=i
    . rw [if_pos h1]at h
      have e:(i+n).toNat=j:=Option.some.inj h
      exact⟨by rw [seqIndex_neg (by omega) h1,e],by omega,h1,by omega⟩
    . rw [if_neg h1]at h;cases h
theorem Wv {α:Type}{xs:List α}{i:Int}{v:α} (h:atI xs i=some v):∃j,seqIndex? i xs.length=some j/\xs[j]? =some v/\j<xs.length/\ -(xs.length:Int)<=i/\i<xs.length:=by
  unfold atI at h
  cases e:ixN xs.length i with
  | none=>rw [e]at h;cases h
  | some j=>
    rw [e]at h
    obtain⟨h1,h2,h3,h4⟩:=U8 e
    exact⟨j,h1,h,h2,h3,h4⟩
theorem Aw {α:Type}{xs:List α}{j:Nat}{v:α} (h:xs[j]? =some v):atI xs (j:Int)=some v:=by
  have hj:j<xs.length:=(List.getElem?_eq_some_iff.mp h).1
  have e:ixN xs.length (j:Int)=some j:=by
    unfold ixN
    rw [if_pos (by omega),if_pos (by omega)];simp
  unfold atI;rw [e];exact h
def Wu (b:Expr):Prop:=∀o i,subscripted b false o i=operate [o,i] (getItem o i)
def IxR (X:Cx) (r:R2):Prop:=
  ∀(value slice:Expr) (pins:List (Addr × Obj)) (s:Shared) (σ:St) (H:Hp) (x y:V) (v u:Value) (Q:VK),Inv X pins σ H s->RelV x v->RelV y u->r x y H Q->
    subscripted slice false v u=operate [v,u] (getItem v u)->wpAny (model X.prog X.w) X.A (subscriptTail value slice v u) (EP X pins σ Q) X.xe s
def MtR (X:Cx) (id:String) (r:V->List V->Hp->VK->Prop):Prop:=
  ∀(pins:List (Addr × Obj)) (s:Shared) (σ:St) (H:Hp) (x:V) (xs:List V) (v:Value) (us:List Value) (Q:VK),Inv X pins σ H s->RelV x v->Vals xs us->r x xs H Q->
    wpAny (model X.prog X.w) X.A (call (.builtin id) (v::us)) (EP X pins σ Q) X.xe s
section
variable {X:Cx}{a b:Expr}{ta tb:TE}{pos:Pos}
theorem Bc {r:R2} (hr:IxR X r) (ha:PE X a ta) (hb:PE X b tb) (hs:Wu b):PE X (.Subscript a b pos) (tOp r ta tb):=by
  intro pins s σ H Q I h
  exact Subscript_ (Acs ha hb I h fun v u s2 x y H2 I2 rx ry q=>hr a b pins s2 σ H2 x y v u Q I2 rx ry q (hs _ _))
def Aak (K:PySem.W.Frag):R2:=fun x y H Q=>∃p xs i v,x= .ref p/\y= .int i/\SqL K H p xs/\atI xs i=some v/\Q v H
def Ac9 (K:PySem.W.Frag):R2:=fun x y H Q=>∃p xs i v,x= .ref p/\y= .int i/\SqT K H p xs/\atI xs i=some v/\Q v H
theorem Az:IxR X (Aak X.K):=by
  intro value slice pins s σ H x y v u Q I rx ry h hs
  obtain⟨p,xs,i,z,rfl,rfl,hq,he,q⟩:=h
  cases rx
  obtain⟨t,rfl⟩:=ry
  obtain⟨its,r,pl,hz⟩:=I.list hq
  obtain⟨j,h1,h2,h3,h4,h5⟩:=Wv he
  obtain⟨w,ew,rw'⟩:=r.get h2
  have hl:=r.length
  have hn:=S6
  have fin:EP X pins σ Q w s:=⟨z,H,I,rw',q⟩
  by_cases h0:0<=i
  . have hj:i.toNat=j:=by
      rw [seqIndex_of h0 h5]at h1
      exact Option.some.inj h1
    exact item_listR pl.isList h0 (by omega) (by rw [hj];simpa using ew) fin hs
  . have hj:(i+(its.toArray.size:Int)).toNat=j:=by
      rw [seqIndex_neg (by omega) h4]at h1
      rw [List.size_toArray,<-hl]
      exact Option.some.inj h1
    exact subscriptTail_builtinR (x:=w) pl.isList.typeIs slot_list_getitem.lookup
      (wpAny_getItem_list_neg (Q:=fun r s'=>r=w/\EP X pins σ Q r s') pl.isList (by omega) (by rw [List.size_toArray]<;>omega) (by omega) (by rw [hj];simpa using ew) ⟨rfl,fin⟩) hs
theorem Ea:IxR X (Ac9 X.K):=by
  intro value slice pins s σ H x y v u Q I rx ry h hs
  obtain⟨p,xs,i,z,rfl,rfl,hq,he,q⟩:=h
  cases rx
  obtain⟨t,rfl⟩:=ry
  obtain⟨its,r,pl,hz⟩:=I.tuple hq
  obtain⟨j,h1,h2,h3,h4,h5⟩:=Wv he
  obtain⟨w,ew,rw'⟩:=r.get h2
  have hl:=r.length
  have hn:=S6
  have fin:EP X pins σ Q w s:=⟨z,H,I,rw',q⟩
  exact subscriptTail_builtinR (x:=w) pl.typeIs slot_tuple_getitem.lookup
    (getItem_tuple (j:=j) (Q:=fun r s'=>r=w/\EP X pins σ Q r s') pl (by omega) (by omega) (by rw [List.size_toArray,<-hl];exact h1) (by simpa using ew) ⟨rfl,fin⟩) hs
theorem Uj (its:List Value) (n j:Nat) (u:Value):Obj.mapSeq (·.setIfInBounds j u) { cls:= .type "list",data:= .seq its.toArray n}={ cls:= .type "list",data:= .seq (its.set j u).toArray n}:=by
  simp [Obj.mapSeq]
theorem Inv.lst {pins:List (Addr × Obj)}{σ:St}{H:Hp}{s:Shared}{p:Addr}{xs:List V} (I:Inv X pins σ H s) (h:H p=some (.lst xs)):
    ∃(its:List Value) (n:Nat),Vals xs its/\s.heap.get? p=some { cls:= .type "list",data:= .seq its.toArray n}/\xs.length<=sizeLine:=by
  obtain⟨z,its,n,r,e⟩:=I.hok p _ h
  exact⟨its,n,r,e,z⟩
theorem Inv.lstUpd {pins:List (Addr × Obj)}{σ:St}{H:Hp}{s:Shared}{p:Addr}{xs ys:List V}{its its':List Value}{n n':Nat}{f:Obj->Obj} (I:Inv X pins σ H s) (h:H p=some (.lst xs))
    (ho:s.heap.get? p=some { cls:= .type "list",data:= .seq its.toArray n}) (hf:f { cls:= .type "list",data:= .seq its.toArray n}={ cls:= .type "list",data:= .seq its'.toArray n'}) (r:Vals ys its') (hz:ys.length<=sizeLine) (t:Nat):
    Inv X pins σ (upd H p (.lst ys)) { s with heap:=s.heap.update p f,toks:=t}:=by
  have e:(s.heap.update p f).get? p=some { cls:= .type "list",data:= .seq its'.toArray n'}:=by
    rw [Heap.get?_update_self f ho (by rw [hf]<;>rfl),hf]
  refine I.write (x:=p) (e:=p) (by rw [h];trivial) (.inl rfl) (fun b u hb q=>(Heap.get?_update_other _ _ (Ne.symm hb)).trans q) ⟨_,e⟩ ?_
  exact⟨hz,its',n',r,e⟩
def Zr:V->V->V->Hp->(Hp->Prop)->Prop:=fun o i v H Q=>∃p xs k j,o= .ref p/\i= .int k/\H p=some (.lst xs)/\ixN xs.length k=some j/\Q (upd H p (.lst (xs.set j v)))
theorem set_list:Ach X Zr:=by
  intro pins s σ H o i v ov iv u Q I ro ri rv h
  obtain⟨p,xs,k,j,rfl,rfl,hp,hj,q⟩:=h
  cases ro
  obtain⟨t,rfl⟩:=ri
  obtain⟨its,n,r,ho,hz⟩:=I.lst hp
  obtain⟨h1,h2,h3,h4⟩:=U8 hj
  have hl:=r.length
  have hn:=S6
  have I':Inv X pins σ (upd H p (.lst (xs.set j v))) { s with heap:=s.heap.update p (Obj.mapSeq (·.setIfInBounds j u))}:=
    I.lstUpd hp ho (Uj its n j u) (r.set rv j) (by rw [List.length_set];exact hz) s.toks
  by_cases h0:0<=k
  . have hk:k.toNat=j:=by
      rw [seqIndex_of h0 h4]at h1
      exact Option.some.inj h1
    exact PySem.W.ki_setAt ho h0 (by omega) (by rw [List.size_toArray,<-hl];exact h4) (by rw [hk];exact⟨_,I',q⟩)
  . have hk:(k+(its.toArray.size:Int)).toNat=j:=by
      rw [seqIndex_neg (by omega) h3]at h1
      rw [List.size_toArray,<-hl]
      exact Option.some.inj h1
    exact PySem.W.ki_setBack ho (by omega) (by rw [List.size_toArray,<-hl];exact h3) (by omega) (by rw [hk];exact⟨_,I',q⟩)
theorem Oo (lo hi:Option Int) (n:Nat):(sliceBounds lo hi none n).1=((HT.sIx n 0 lo:Nat):Int)/\(sliceBounds lo hi none n).2.1=((HT.sIx n n hi:Nat):Int)/\(sliceBounds lo hi none n).2.2=1:=by
  refine⟨?_,?_,rfl⟩
  . cases lo with
    | none=>simp [sliceBounds,HT.sIx]
    | some i=>
      simp only [sliceBounds,HT.sIx,Option.getD_none,show(1:Int)>0 by decide,if_true]
      by_cases h:i<0
      . simp only [h,if_true]<;>omega
      . simp only [h,if_false]<;>omega
  . cases hi with
    | none=>simp [sliceBounds,HT.sIx]
    | some i=>
      simp only [sliceBounds,HT.sIx,Option.getD_none,show(1:Int)>0 by decide,if_true]
      by_cases h:i<0
      . simp only [h,if_true]<;>omega
      . simp only [h,if_false]<;>omega
theorem Nr (its:List Value) (lo hi:Option Int):slicePick its.toArray lo hi none=((its.drop (HT.sIx its.length 0 lo)).take (HT.sIx its.length its.length hi-HT.sIx its.length 0 lo)).toArray:=by
  obtain⟨h1,h2,h3⟩:=Oo lo hi its.toArray.size
  unfold slicePick
  rw [h1,h2,h3]
  simp only [sliceRange_one,pick_run,List.size_toArray]<;>rfl
def Ab6 (K:PySem.W.Frag):V->Option Int->Option Int->Hp->VK->Prop:=fun x lo hi H Q=>∃a xs,x= .ref a/\SqL K H a xs/\∀p,H p=none->Q (.ref p) (upd H p (.lst (Uq xs lo hi)))
theorem Es:SlR X (Ab6 X.K):=by
  intro pins s σ H x v vl vu lo hi sl Q I rx hs pl pu h
  obtain⟨a,xs,rfl,hx,q⟩:=h
  cases rx
  obtain⟨its,r,ht,hz⟩:=I.list hx
  have hlen:=r.length
  refine⟨"list",_,slot_list_getitem.lookup,ht.isList.typeIs,?_⟩
  refine wpAny_getItem_list_slice ht.isList hs pl pu .none (by simp) ?_ (by rw [List.size_toArray]<;>omega)
  rw [Nr,<-hlen]
  refine⟨.ref s.heap.objs.size,_,I.laid (t':=s.toks) (o:= .lst (Uq xs lo hi)) (fun b ob q=>Heap.get?_push_of_some _ q) (Nat.le_refl _) ?_,rfl,q _ (I.hok.fresh (Nat.le_refl _))⟩
  exact⟨Nat.le_trans (Rj xs lo hi) hz,_,0,(r.drop (HT.sIx xs.length 0 lo)).take (HT.sIx xs.length xs.length hi-HT.sIx xs.length 0 lo),Heap.get?_push_size _ rfl⟩
def Mf:V->Bool
  | .non=>true
  | .bl _=>true
  | .int _=>true
  | .str _=>true
  | _=>false
def eqV:V->V->Bool
  | .non,.non=>true
  | .bl a,.bl b=>a==b
  | .bl a,.int b=>(if a then 1 else 0)==b
  | .int a,.bl b=>a==(if b then 1 else 0)
  | .int a,.int b=>a==b
  | .str a,.str b=>a==b
  | _,_=>false
theorem Abx {A:Around}{s:Shared}{y x:V}{u v:Value} (ry:RelV y u) (rx:RelV x v) (fy:Mf y=true) (fx:Mf x=true):SeqAt.EqAt A s u v (eqV y x):=by
  cases y with
  | non=>
    cases ry
    cases x with
    | non=>cases rx;exact SeqAt.EqAt.same _
    | bl b=>cases rx;exact SeqAt.EqAt.none_bool b
    | int b=>obtain⟨t,rfl⟩:=rx;exact SeqAt.EqAt.none_int b t
    | str b=>obtain⟨t,rfl⟩:=rx;exact SeqAt.EqAt.none_str b t
    | _=>exact absurd (show false=true from fx) Bool.false_ne_true
  | bl a=>
    cases ry
    cases x with
    | non=>cases rx;exact SeqAt.EqAt.bool_none a
    | bl b=>cases rx;exact SeqAt.EqAt.bool_bool a b
    | int b=>obtain⟨t,rfl⟩:=rx;exact SeqAt.EqAt.bool_int a b t
    | str b=>obtain⟨t,rfl⟩:=rx;exact SeqAt.EqAt.bool_str a b t
    | _=>exact absurd (show false=true from fx) Bool.false_ne_true
  | int a=>
    obtain⟨t',rfl⟩:=ry
    cases x with
    | non=>cases rx;exact SeqAt.EqAt.int_none a t'
    | bl b=>cases rx;exact SeqAt.EqAt.int_bool a t' b
    | int b=>obtain⟨t,rfl⟩:=rx;exact SeqAt.EqAt.int_int a t' b t
    | str b=>obtain⟨t,rfl⟩:=rx;exact SeqAt.EqAt.int_str a t' b t
    | _=>exact absurd (show false=true from fx) Bool.false_ne_true
  | str a=>
    obtain⟨t',rfl⟩:=ry
    cases x with
    | non=>cases rx;exact SeqAt.EqAt.str_none a t'
    | bl b=>cases rx;exact SeqAt.EqAt.str_bool a t' b
    | int b=>obtain⟨t,rfl⟩:=rx;exact SeqAt.EqAt.str_int a t' b t
    | str b=>obtain⟨t,rfl⟩:=rx;exact SeqAt.EqAt.str_str a t' b t
    | _=>exact absurd (show false=true from fx) Bool.false_ne_true
  | _=>exact absurd (show false=true from fy) Bool.false_ne_true
def eqU (x:V) (u:Value):Bool:=match u with
  | .none=>eqV .non x
  | .bool b=>eqV (.bl b) x
  | .int i _=>eqV (.int i) x
  | .str z _=>eqV (.str z) x
  | _=>false
theorem Yx {x y:V}{u:Value} (r:RelV y u) (f:Mf y=true):eqU x u=eqV y x:=by
  cases y with
  | non=>cases r;rfl
  | bl b=>cases r;rfl
  | int i=>obtain⟨t,rfl⟩:=r;rfl
  | str z=>obtain⟨t,rfl⟩:=r;rfl
  | _=>exact absurd (show false=true from f) Bool.false_ne_true
theorem R8 {x:V}:∀ {xs:List V}{us:List Value},Vals xs us->xs.all Mf=true->us.any (eqU x)=xs.any fun y=>eqV y x
  | _,_,.nil,_=>rfl
  | y::xs,u::us,.cons r t,f=>by
    rw [List.all_cons,Bool.and_eq_true]at f
    rw [List.any_cons,List.any_cons,Yx r f.1,R8 t f.2]
theorem Nz {A:Around}{s:Shared}{x:V}{v:Value} (rx:RelV x v) (fx:Mf x=true):∀ {xs:List V}{us:List Value},Vals xs us->xs.all Mf=true->∀u∈us,SeqAt.EqAt A s u v (eqU x u)
  | _,_,.nil,_=>fun u hu=>by cases hu
  | y::xs,u::us,.cons r t,f=>fun u' hu=>by
    rw [List.all_cons,Bool.and_eq_true]at f
    rcases List.mem_cons.mp hu with rfl | hu
    . rw [Yx r f.1];exact Abx r rx f.1 fx
    . exact Nz rx fx t f.2 u' hu
def inV (x:V) (xs:List V):Bool:=xs.any fun y=>eqV y x
def rIn (K:PySem.W.Frag) (neg:Bool):R2:=fun x y H Q=>∃p xs,y= .ref p/\(SqL K H p xs\/SqT K H p xs)/\Mf x=true/\xs.all Mf=true/\Q (.bl (if neg then !inV x xs else inV x xs)) H
theorem Ow:OpR X (compareOp .NotIn) (rIn X.K true):=by
  intro pins s σ H x y v u Q I rx ry h
  obtain⟨p,xs,rfl,hq,fx,fs,q⟩:=h
  cases ry
  rcases hq with hq | hq
  . obtain⟨its,r,pl,hz⟩:=I.list hq
    refine SeqAt.notIn_listAt (eqU x) pl.isList (fun w hw=>Nz rx fx r fs w (by simpa using hw)) ⟨.bl _,H,I,rfl,?_⟩
    rw [show its.toArray.any (eqU x)=its.any (eqU x)by simp,R8 r fs]
    exact q
  . obtain⟨its,r,pl,hz⟩:=I.tuple hq
    refine SeqAt.notIn_tupleAt (eqU x) pl (fun w hw=>Nz rx fx r fs w (by simpa using hw)) ⟨.bl _,H,I,rfl,?_⟩
    rw [show its.toArray.any (eqU x)=its.any (eqU x)by simp,R8 r fs]
    exact q
theorem Aj:G9 X (.builtin "len") (fun xs H Q=>∃p ys,xs=[.ref p]/\(SqL X.K H p ys\/SqT X.K H p ys)/\Q (.int ys.length) H):=by
  intro pins s σ H xs us Q I r h
  obtain⟨p,ys,rfl,hq,q⟩:=h
  obtain⟨u,rfl,rx⟩:=vals1 r
  cases rx
  have hn:=S6
  rcases hq with hq | hq
  . obtain⟨its,r',pl,hz⟩:=I.list hq
    have hlen:=r'.length
    exact Calls.call_len_list pl.isList (by simp only [List.size_toArray]<;>omega) ⟨.int ys.length,H,I.tok _,⟨s.toks+1,by rw [List.size_toArray,hlen]⟩,q⟩
  . obtain⟨its,r',pl,hz⟩:=I.tuple hq
    have hlen:=r'.length
    exact len_tuple pl (by simp only [List.size_toArray]<;>omega) ⟨.int ys.length,H,I.tok _,⟨s.toks+1,by rw [List.size_toArray,hlen]⟩,q⟩
theorem Jv:G9 X (.type "list") (fun xs H Q=>∃p ys,xs=[.ref p]/\(SqL X.K H p ys\/SqT X.K H p ys)/\∀l,H l=none->Q (.ref l) (upd H l (.lst ys))):=by
  intro pins s σ H xs us Q I r h
  obtain⟨p,ys,rfl,hq,q⟩:=h
  obtain⟨u,rfl,rx⟩:=vals1 r
  cases rx
  have fin:∀(its:List Value),Vals ys its->ys.length<=sizeLine->∀(h':Heap) (c':Nat),(∀b o',s.heap.get? b=some o'->h'.get? b=some o')->
      h'.get? s.heap.objs.size=some { cls:= .type "list",dict:=none,data:= .seq its.toArray c',slots:= #[]}->EP X pins σ Q (.ref s.heap.objs.size) { s with heap:=h'}:=fun its r' hz h' c' kp e=>
    ⟨.ref s.heap.objs.size,_,I.laid (t':=s.toks) kp (Nat.le_refl _) (show Dp X.prog X.w _ h' _ (.lst ys)from⟨hz,its,c',r',e⟩),rfl,q _ (I.hok.fresh (Nat.le_refl _))⟩
  rcases hq with hq | hq
  . obtain⟨its,r',pl,hz⟩:=I.list hq
    have hlen:=r'.length
    obtain⟨o,ho,hc,n,hd⟩:=pl.isList
    exact call_list_seq p (.inl rfl) ho hc hd (fun h' c' kp e=>fin its r' hz h' c' kp e) (by simp only [List.size_toArray]<;>omega)
  . obtain⟨its,r',pl,hz⟩:=I.tuple hq
    have hlen:=r'.length
    obtain⟨o,ho,hc,n,hd⟩:=pl
    exact call_list_seq p (.inr rfl) ho hc hd (fun h' c' kp e=>fin its r' hz h' c' kp e) (by simp only [List.size_toArray]<;>omega)
theorem Er:G9 X (.type "tuple") (fun xs H Q=>∃p ys,xs=[.ref p]/\((SqL X.K H p ys/\∀l,H l=none->Q (.ref l) (upd H l (.tup ys)))\/(SqT X.K H p ys/\Q (.ref p) H))):=by
  intro pins s σ H xs us Q I r h
  obtain⟨p,ys,rfl,h⟩:=h
  obtain⟨u,rfl,rx⟩:=vals1 r
  cases rx
  rcases h with⟨hq,q⟩ | ⟨hq,q⟩
  . obtain⟨its,r',pl,hz⟩:=I.list hq
    have hlen:=r'.length
    refine call_tuple_list pl.isList (fun h' kp=> ?_) (by simp only [List.size_toArray]<;>omega)
    have I1:Inv X pins σ H { s with heap:=h'}:=I.kept (t':=s.toks) kp
    have I2:Inv X pins σ (upd H h'.objs.size (.tup ys)) { s with heap:=h'.push { cls:= .type "tuple",data:= .seq its.toArray}}:=
      I1.laid (t':=s.toks) (fun b o e=>Heap.get?_push_of_some _ e) (Nat.le_refl _) (show Dp X.prog X.w _ _ _ (.tup ys)from⟨hz,its,r',IsTup.new _ _⟩)
    exact⟨.ref h'.objs.size,_,I2,rfl,q _ (I1.hok.fresh (Nat.le_refl _))⟩
  . obtain⟨its,r',pl,hz⟩:=I.tuple hq
    exact call_tuple_same pl ⟨.ref p,H,I,rfl,q⟩
def tyV (K:PySem.W.Frag) (T:String) (x:V) (H:Hp):Prop:=match x with
  | .str _=>T="str"
  | .int _=>T="int"
  | .ref p=>(T="list"/\∃xs,SqL K H p xs)\/(T="tuple"/\∃o,K.lookup p=some o/\o.cls= .type "tuple"/\o.dict=none)\/
      (T="dict"/\((∃kvs,H p=some (.dK kvs))\/∃kvs,H p=some (.dT kvs)))\/(T="set"/\∃S n,H p=some (.set S n))
  | _=>False
theorem Aat {pins:List (Addr × Obj)}{σ:St}{H:Hp}{s:Shared}{T:String}{x:V}{v:Value} (I:Inv X pins σ H s) (r:RelV x v) (ty:tyV X.K T x H):
    s.TypeIs v T/\∀a,v= .ref a->∃ob,s.heap.get? a=some ob/\ob.dict=none:=by
  cases x with
  | str z=>
    obtain⟨t,rfl⟩:=r
    cases(show T="str" from ty)
    exact⟨typeIs_str s z t,fun _ e=>nomatch e⟩
  | int i=>
    obtain⟨t,rfl⟩:=r
    cases(show T="int" from ty)
    exact⟨typeIs_int s i t,fun _ e=>nomatch e⟩
  | ref p=>
    cases r
    rcases ty with⟨rfl,xs,hq⟩ | ⟨rfl,o,hk,hc,hd⟩ | ⟨rfl,hk⟩ | ⟨rfl,S,n,hk⟩
    . obtain⟨its,_,pl,_⟩:=I.list hq
      refine⟨pl.isList.typeIs,fun a e=> ?_⟩
      cases e
      obtain⟨o,n,e,c,hd,_⟩:=pl
      exact⟨o,e,hd⟩
    . refine⟨⟨o,I.kIn p o hk,hc⟩,fun a e=> ?_⟩
      cases e
      exact⟨o,I.kIn _ o hk,hd⟩
    . have z:∃o,s.heap.get? p=some o/\o.ExactDict:=by
        rcases hk with⟨kvs,hk⟩ | ⟨kvs,hk⟩
        . obtain⟨_,_,_,_,o,_,_,e,ex,_⟩:=I.hok p _ hk
          exact⟨o,e,ex⟩
        . obtain⟨_,_,_,_,o,_,_,e,ex,_⟩:=I.hok p _ hk
          exact⟨o,e,ex⟩
      obtain⟨o,e,ex⟩:=z
      refine⟨⟨o,e,ex.1⟩,fun a e2=> ?_⟩
      cases e2
      exact⟨o,e,ex.2.1⟩
    . obtain⟨o,_,_,_,e,ex,_⟩:=I.hok p _ hk
      refine⟨⟨o,e,ex.1⟩,fun a e2=> ?_⟩
      cases e2
      exact⟨o,e,ex.2.1⟩
  | _=>exact False.elim ty
def Adt (K:PySem.W.Frag) (T:String) (r:V->List V->Hp->VK->Prop) (to:TE):TE:=fun σ H Q=>to σ H fun x H1=>tyV K T x H1/\r x [] H1 Q
def tBM (K:PySem.W.Frag) (T:String) (r:V->List V->Hp->VK->Prop) (to:TE) (t:TA):TE:=fun σ H Q=>to σ H fun x H1=>tyV K T x H1/\t σ H1 fun xs H2=>r x xs H2 Q
variable {o e:Expr}{es:List Expr}{to:TE}{t:TA}{name:Str}{apos cpos:Pos}{T id:String}{r:V->List V->Hp->VK->Prop}
theorem Hj (pa:PlainAttrs T) (slot:Slot T name id) (hty:typeOf (.builtin id)=pure (.type "method_descriptor")) (hm:MtR X id r) (ho:PE X o to) (ha:PA X (e::es) t)
    (hbase:attributeBase o name X.env (eval o X.env)=eval o X.env:=by rfl)
    (hfew:((backTo cpos (starEach (e::es) X.env)).all (fun x=> !x.1)&&(backToKw cpos (keywordEach [] X.env)).all (fun x=>x.1.isSome)
      &&decide ((e::es).length+([]:List Keyword).length+(if([]:List Keyword).isEmpty then 0 else 1)<30))=true:=by rfl)
    (hline:(apos.endLine==cpos.line)=true:=by rfl) (hs:starEach (e::es) X.env=(false,eval e X.env)::starEach es X.env:=by rfl) (hplain:(backTo cpos (starEach es X.env)).any (·.1)=false:=by rfl):
    PE X (.Call (.Attribute o name apos) (e::es) [] cpos) (tBM X.K T r to t):=by
  intro pins s σ H Q I h
  refine wpAny_Call_method_late hbase hfew hline rfl (thn (ho pins s σ H _ I h) fun v s1 ⟨x,H1,I1,r1,ty,q1⟩=> ?_)
  obtain⟨h1,h2⟩:=Aat I1 r1 ty
  refine⟨T,id,pa,slot,hty,h1,h2,?_⟩
  have hA:=ha cpos pins s1 σ H1 _ I1 q1
  rw [hs]at hA ⊢
  refine Calls.callWith_builtin (by show(false||(backTo cpos (starEach es X.env)).any (·.1))=false;rw [hplain]<;>rfl) (Calls.evalArgs_plain ?_)
  exact thn hA fun us s2 ⟨vs,H2,I2,r2,q2⟩=>hm pins s2 σ H2 x vs v us Q I2 r1 r2 q2
/-xs.append(e),list.index on a module's tuple .. are MtR facts of 06m-/
end
end L2
namespace L2
open PySem PySem.Spec PyProof.Rows
def MtM (X:Cx) (id:String) (r:V->List V->Hp->VK->Prop):Prop:=
  ∀(pins:List (Addr × Obj)) (s:Shared) (σ:St) (H:Hp) (x:V) (xs:List V) (v:Value) (us:List Value) (Q:VK),Inv X pins σ H s->RelV x v->Vals xs us->r x xs H Q->
    wpAny (model X.prog X.w) X.A (call (.builtin id) (v::us)) (EP X pins σ Q) X.xe s
theorem Vals.one:∀ {x:V}{us:List Value},Vals [x] us->∃u,us=[u]/\RelV x u
  | _,_,.cons r .nil=>⟨_,rfl,r⟩
theorem Vals.two:∀ {x y:V}{us:List Value},Vals [x,y] us->∃u v,us=[u,v]/\RelV x u/\RelV y v
  | _,_,_,.cons r (.cons q .nil)=>⟨_,_,rfl,r,q⟩
theorem Vals.zero:∀ {us:List Value},Vals [] us->us=[]
  | _,.nil=>rfl
theorem Vals.dropLast {xs:List V}{us:List Value} (h:Vals xs us):Vals xs.dropLast us.dropLast:=by
  induction h with
  | nil=>exact .nil
  | cons r t ih=>
    cases t with
    | nil=>exact .nil
    | cons q t'=>exact .cons r ih
theorem Vals.reverse {xs:List V}{us:List Value} (h:Vals xs us):Vals xs.reverse us.reverse:=by
  induction h with
  | nil=>exact .nil
  | cons r t ih=>rw [List.reverse_cons,List.reverse_cons];exact Vals.append ih (.cons r .nil)
theorem Vals.rep {xs:List V}{us:List Value} (h:Vals xs us):∀k:Nat,Vals (List.replicate k xs).flatten (List.replicate k us).flatten
  | 0=> .nil
  | k+1=>by
    rw [List.replicate_succ,List.replicate_succ,List.flatten_cons,List.flatten_cons]
    exact Vals.append h (Vals.rep h k)
theorem foldl_rep (its:List Value):∀(k:Nat) (acc:List Value),
    List.foldl (fun x1 x2=>x1++x2) acc.toArray (List.replicate k its.toArray)=(acc++(List.replicate k its).flatten).toArray
  | 0,acc=>by simp
  | k+1,acc=>by
    have e:acc.toArray++its.toArray=(acc++its).toArray:=by simp
    have e2:(acc++its)++(List.replicate k its).flatten=acc++(List.replicate (k+1) its).flatten:=by
      rw [List.replicate_succ,List.flatten_cons,List.append_assoc]
    rw [<-e2,<-foldl_rep its k (acc++its),<-e,List.replicate_succ,List.foldl_cons]
section
variable {X:Cx}{pins:List (Addr × Obj)}{σ:St}{H:Hp}{s:Shared}{l b:Addr}{xs ys zs:List V}
theorem Inv.lset {its its':List Value}{n:Nat}{f:Array Value->Array Value}{t':Nat} (I:Inv X pins σ H s) (hH:H l=some (.lst xs))
    (e:s.heap.get? l=some { cls:= .type "list",data:= .seq its.toArray n}) (hf:f its.toArray=its'.toArray) (hv:Vals ys its') (hz:ys.length<=sizeLine):
    Inv X pins σ (upd H l (.lst ys)) { s with heap:=s.heap.update l (Obj.mapSeq f),toks:=t'}:=by
  have q:=PySem.IsL.update e f
  rw [hf]at q
  refine I.write (x:=l) (e:=l) (by rw [hH];exact trivial) (.inl rfl) (fun b' u hb hu=>(Heap.get?_update_other s.heap (Obj.mapSeq f) (Ne.symm hb)).trans hu) ⟨_,q⟩ ?_
  exact⟨hz,its',_,hv,q⟩
theorem Inv.lnew {its:List Value}{t':Nat} (I:Inv X pins σ H s) (hv:Vals ys its) (hz:ys.length<=sizeLine):
    Inv X pins σ (upd H s.heap.objs.size (.lst ys)) { s with heap:=s.heap.push { cls:= .type "list",data:= .seq its.toArray},toks:=t'}:=
  I.laid (fun _ _ q=>Heap.get?_push_of_some _ q) (Nat.le_refl _) ⟨hz,its,0,hv,Heap.get?_push_size _ rfl⟩
theorem Inv.fresh (I:Inv X pins σ H s):H s.heap.objs.size=none:=I.hok.fresh (Nat.le_refl _)
theorem Inv.lstM (I:Inv X pins σ H s) (hH:H l=some (.lst xs)):xs.length<=sizeLine/\∃(its:List Value) (n:Nat),Vals xs its/\xs.length=its.length/\s.heap.get? l=some { cls:= .type "list",data:= .seq its.toArray n}:=by
  obtain⟨z,its,n,r,e⟩:=I.hok l _ hH
  exact⟨z,its,n,r,r.length,e⟩
theorem X4 {n:Nat} (h:n<=sizeLine):Builtin.List.listTooLong n=false:=by
  unfold Builtin.List.listTooLong
  exact decide_eq_false (by omega)
end
section
variable {X:Cx}
def Vl:V->List V->Hp->VK->Prop:=fun x vs H Q=>∃l xs y,x= .ref l/\vs=[y]/\H l=some (.lst xs)/\xs.length<sizeLine/\Q .non (upd H l (.lst (xs++ [y])))
theorem Cq:MtM X "list.append" Vl:=by
  intro pins s σ H x vs v us Q I rx rv h
  obtain⟨l,xs,y,rfl,rfl,hH,hz,q⟩:=h
  cases rx
  obtain⟨u,rfl,ru⟩:=rv.one
  obtain⟨z,its,n,r,hl,e⟩:=I.lstM hH
  refine call_meets F.slot_list_append ⟨_,e,rfl⟩ F.entry_list_append (F.args_list_append_2 _ _) (PySem.list_append l its.toArray n u (by rw [List.size_toArray];omega)) ⟨e,?_⟩
  refine⟨.non,_,I.lset (its':=its++ [u]) hH e (by simp) (r.append (.cons ru .nil)) ?_,rfl,q⟩
  rw [List.length_append,List.length_singleton]
  omega
def Adq:R2:=fun x y H Q=>∃l b xs zs,x= .ref l/\y= .ref b/\H l=some (.lst xs)/\H b=some (.lst zs)/\xs.length+zs.length<=sizeLine/\∀p,H p=none->Q (.ref p) (upd H p (.lst (xs++zs)))
theorem Em:OpR X (binaryOp .Add) Adq:=by
  intro pins s σ H x y v u Q I rx ry h
  obtain⟨l,b,xs,zs,rfl,rfl,hH,hB,hz,q⟩:=h
  cases rx
  cases ry
  obtain⟨z,its,n,r,hl,e⟩:=I.lstM hH
  obtain⟨z2,its2,n2,r2,hl2,e2⟩:=I.lstM hB
  refine PySem.P.add_list e e2 ?_ (by rw [List.size_toArray,List.size_toArray];omega)
  have ea:its.toArray++its2.toArray=(its++its2).toArray:=by simp
  rw [ea]
  exact⟨.ref _,_,I.lnew (t':=s.toks) (r.append r2) (by rw [List.length_append];omega),rfl,q _ I.fresh⟩
def Ad5:R2:=fun x y H Q=>∃l k xs,x= .ref l/\y= .int k/\H l=some (.lst xs)/\ -(2^63)<=k/\k<2^63/\xs.length*k.toNat<=sizeLine/\
  ∀p,H p=none->Q (.ref p) (upd H p (.lst (List.replicate k.toNat xs).flatten))
theorem len_rep {α:Type} (xs:List α) (k:Nat):(List.replicate k xs).flatten.length=k*xs.length:=by
  induction k with
  | zero=>simp
  | succ k ih=>rw [List.replicate_succ,List.flatten_cons,List.length_append,ih,Nat.succ_mul,Nat.add_comm]
theorem Ms:OpR X (binaryOp .Mult) Ad5:=by
  intro pins s σ H x y v u Q I rx ry h
  obtain⟨l,k,xs,rfl,rfl,hH,h1,h2,hz,q⟩:=h
  cases rx
  obtain⟨t,rfl⟩:=ry
  obtain⟨z,its,n,r,hl,e⟩:=I.lstM hH
  have hlen:its.toArray.size*k.toNat<=sizeLine:=by rw [List.size_toArray,<-hl];exact hz
  have hcap:¬its.toArray.size*k.toNat>(2^63-1)/8:=by
    have:(sizeLine:Nat)<=(2^63-1)/8:=by decide
    omega
  have hfit:¬(!Builtin.List.listFitsIndex k)=true:=by
    rw [fitsIndex_both h1 h2]
    exact Bool.false_ne_true
  have hlong:¬Builtin.List.listTooLong (its.toArray.size*k.toNat)=true:=by
    rw [X4 hlen]
    exact Bool.false_ne_true
  have hnew:List.foldl (fun x1 x2=>x1++x2) #[] (List.replicate (if its.toArray.isEmpty=true then 0 else k.toNat) its.toArray)=(List.replicate k.toNat its).flatten.toArray:=by
    have f0:∀m:Nat,List.foldl (fun x1 x2=>x1++x2) #[] (List.replicate m its.toArray)=(List.replicate m its).flatten.toArray:=fun m=>by
      have:=foldl_rep its m []
      rw [List.nil_append]at this
      exact this
    rw [f0]
    cases its with
    | nil=>simp
    | cons a r'=>rw [if_neg (by simp)]
  refine wpAny_binaryOp_repeat_ref (T:="list") (U:="int") (by decide) ⟨_,e,rfl⟩ (fun s'=>typeIs_int s' k t) noFill_list_mul F.fills_int_mul F.slot_int_rmul repeat_list F.slot_int_index.lookup
    (call_meets F.slot_int_rmul (typeIs_int s k t) F.entry_int_rmul (F.args_int_rmul_2 _ _) (int___rmul___int_list k t l its.toArray n)
      ⟨e,rfl,⟨_,e,rfl⟩,call_meets F.slot_list_mul ⟨_,e,rfl⟩ F.entry_list_mul (F.args_list_mul_2 _ _) (AutoListH.list___mul___list_int_3 l its.toArray n k t hfit hcap hlong) ⟨e,?_⟩⟩)
  rw [hnew]
  exact⟨.ref _,_,I.lnew (t':=s.toks) (r.rep k.toNat) (by rw [len_rep,Nat.mul_comm];exact hz),rfl,q _ I.fresh⟩
end
end L2
namespace Att
open PySem PySem.W PySem.Calls PyProof.Rows
theorem K8 {P:Params}{h:Heap}:∀(ns:List Int) (vs:List Value),WellAll P h vs (ns.map WData.int)->IntsAre vs ns:=by
  intro ns
  induction ns with
  | nil=>
    intro vs w
    rw [List.map_nil]at w
    cases w
    exact .nil
  | cons n ns ih=>
    intro vs w
    rw [List.map_cons]at w
    cases w with
    | cons a b=>
      cases a
      exact .cons _ _ (ih _ b)
theorem Wh {l:OpenLaw}{n:Nat} (hn:l.most=some n) {P:Params}{h:Heap}{args:List WData}{vals:List Value}
    (hpre:l.row.toRowW.claim.pre args=true) (hwl:WellAll P h vals args):
    ∃a vs ns,vals=[Value.ref a]/\args=[WData.list (ns.map WData.int)]/\h.get? a=some { cls:= .type "list",data:= .seq vs.toArray}/\IntsAre vs ns/\ns.length<=n:=by
  have hsh:WShape.hasAll [] args [.list .int]=true:=(pre_splitW hpre).1
  have hc:l.pre.holds [] { args:=args}=true:=(pre_splitW hpre).2
  obtain⟨d,r,rfl,h1,h2⟩:=hasAllW_cons hsh
  obtain rfl:=hasAllW_nil h2
  obtain⟨xs,rfl,h3⟩:=hasW_list h1
  obtain⟨ns,rfl⟩:=items_int h3
  have hlen:ns.length<=n:=by
    unfold OpenLaw.pre at hc
    have h4:(WTm.not (.lt (.lit (.int (n:Int))) (.len (.arg 0)))).holds [] { args:=[.list (ns.map .int)]}=true:=by
      have h4:=(holds_andW hc).1
      rw [hn]at h4
      exact h4
    have h5:=condW_of h4 (w_not (w_lt w_lit (w_len_list (w_arg rfl))))
    rw [List.length_map]at h5
    refine Nat.le_of_not_lt fun q=> ?_
    have q':(n:Int)<((ns.length:Nat):Int):=by omega
    first
      | (rw [decide_eq_true q']at h5;exact absurd h5 (by decide))
      | (simp at h5;omega)
  cases hwl with
  | cons w1 w2=>
    cases w2
    cases w1 with
    | list ho hall=>exact⟨_,_,ns,rfl,rfl,ho,K8 ns _ hall,hlen⟩
theorem Vy (l:OpenLaw) (args:List WData):l.row.toRowW.claim.post args (.bool true) args=true:=
  postW_of (r:=l.row.toRowW) (X:=(true==true))
    (show WShape.has [] (.bool true) .bool=true by first | rfl | decide | simp [WShape.has,WShape.arms,WShape.armsAll])
    (show(WTm.eq .res (.lit (.bool true))).value [] { args:=args,res:=some (.bool true),after:=args}=some (.bool (true==true))from w_eq_bool (w_res rfl) w_lit) rfl
theorem Rg {l:OpenLaw}{n:Nat}{q:Program}{loose:List Str}{XP:(Str->Option Value)->Heap->Prop}{YP:World->Heap->Prop}{d:DefRec}
    (hn:l.most=some n) (hdf:d.params.defaults=[])
    (call:∀(w:World) (s₀ s₁:Shared) (mg mb:Str->Option Value) (fa:Addr) (o:Obj) (pm cd doc:Value) (a:Addr) (vs:List Value) (ns:List Int),
      Ground q loose [] XP w s₀ mg mb s₁.heap->YP w s₁.heap->
      s₁.heap.get? fa=some o->o.data= .func (docDef d.name d.params d.body d.scope pm cd doc)->s₁.heap.CodeRec cd d.name->mg d.name=some (.ref fa)->
      s₁.heap.get? a=some { cls:= .type "list",data:= .seq vs.toArray}->IntsAre vs ns->ns.length<=n->s₁.gens= #[]->
      codeAny (model l.prog w) callerA (.call (.ref fa) ⟨[.ref a],[]⟩) (fun r s'=>r= .ok (.ret (.bool true))/\OldK s₁.heap s'.heap/\s'.os=s₁.os/\AllBare s'.gens) s₁):
    WalkO q loose XP YP l.row.toRowW d [] (fun f vs=>PySem.call f vs):=by
  intro w s₀ s₁ mg mb G Y fa o pm cd doc dV kV ho hd hcd hD hmg hg args vals as hpre hlay hrd hwl hlo
  obtain rfl:dV= .none:=Dflts.none hD hdf
  obtain rfl:kV= .none:=Dflts.noKw hD
  obtain⟨a,vs,ns,rfl,rfl,hobj,hints,hlen⟩:=Wh hn hpre hwl
  refine enter_call (codeAny_mono (call w s₀ s₁ mg mb fa o pm cd doc a vs ns G Y ho (fd_plain hd) hcd hmg hobj hints hlen hg) fun r s' hq=> ?_)
  obtain⟨rfl,h2,h3,h4⟩:=hq
  exact⟨.inl ⟨.bool true,.bool true,[],rfl,fun _=>rfl,.bool true,Vy l _,fun _=>⟨List.Pairwise.nil,fun _ hm=>(nomatch hm)⟩⟩,h2,h3,h4⟩
end Att
namespace L2
open PySem PySem.Spec PyProof.Rows
theorem Qi:∀ {vs:List Value}{ns:List Int},IntsAre vs ns->Vals (ns.map V.int) vs
  | _,_,.nil=> .nil
  | _,_,.cons n t h=> .cons ⟨t,rfl⟩ (Qi h)
def Only (H:Hp):Prop:=∀b,H b=none\/∃o xs,H b=some (.frz o (.lst xs))
end L2
/-THE LAST THEOREM (shape;LID,My.*are yours):
   My.Adr:a structure of the addresses that your layer names (classes,functions);My.Txt K t:a structure (Prop) of the equations over K;
   My.txt_mk:{K}{implicit addresses ..} (e1:nsIn K mainGlobals "law"=some (some (.ref f))) (e2:K.lookup f=some ⟨oc,od,.func (fnOf "law" "law" params body scope dV kV doc pm an cdv ct),sl⟩) (e3:codeIn K cdv "law"=true) .. :∃t,My.Txt K t
set_option maxRecDepth 100000 in
set_option maxHeartbeats 0 in
theorem PySem.Challenge.cw_LID_holds : PySem.Challenge.rw_LID.Holds := by
  w_on;o_law;k_head;(case hw=>w_witness2)
  k_fill
  refine L2.walk_of (l:=PySem.Challenge.rw_LID) (n:=63) (k:=40) (x:="script") (CX:=fun w=> ..) (sp:=fun _=>My.sp_law) rfl (by decide) rfl ⟨rfl,by decide,by decide⟩ (fun w h Y=>PySem.W.kIn_of Y) ?F ?S ?C
  case F=>
    intro w mg fa h KX G hmg
    have T:∃t,My.Txt (L2.KOf KX) t:=by
      dsimp only [L2.KOf]                          --K must stand as «<heap const>w.params» for k_is
      refine' My.txt_mk ?e1 ?e2 ?e3 ..
      (case e1=>PySem.W.k_is)                    --in the order:a name->its address->its object->its parts
      (case e2=>PySem.W.k_is)
      ..
    obtain⟨t,T⟩:=T
    have e0:=hmg.symm.trans (PySem.W.mg_of KX G T.law)
    cases e0                                       --fa is the law's own address
    exact⟨_,fun s u=> .of_eq rfl,fun base kb nb=>My.law_fn T kb nb⟩     --if «.of_eq rfl» comes too early:refine' ⟨_,?b,fun base kb nb=>My.law_fn T kb nb⟩;exact fun s u=> .of_eq rfl
  case S=>exact fun w H a ns hl hO hS=> ..
  case C=>exact ..
(the tactic k_is has no namespace:write k_is)-/
namespace L2
open PySem PySem.Spec PyProof.Rows
def Hg (s:Stmt):Arguments:=match s with
  | .FunctionDef _ a _ _ _ _ _ _ _ _=>a
  | _=>{ posonlyargs:=[],args:=[],vararg:=none,kwonlyargs:=[],kw_defaults:=[],kwarg:=none,defaults:=[]}
def En (s:Stmt):List Stmt:=match s with
  | .FunctionDef _ _ b _ _ _ _ _ _ _=>b
  | _=>[]
def Af (s:Stmt):Scope:=match s with
  | .FunctionDef _ _ _ _ _ _ sc _ _ _=>sc
  | _=>{ kind:= .function,names:=[],isGenerator:=false,isCoroutine:=false}
abbrev CX0:CXT:=fun _ _ _ _ _ _=>False
abbrev E0:XK:=fun _ _ _=>False
theorem Acx {X:Cx}:Passes CX0 X E0:=fun _ _ _ _ _ _ _ h=>h.elim
structure Fun (K:PySem.W.Frag) (x qual:Str) (st:Stmt) (f:Addr) (fd:FuncData):Prop where
  ex:∃(oc:Value) (od:Option Addr) (kV doc pm:Value) (an:Option Addr) (cdv ct:Value) (osl:Array (Option Value)),
    fd=PySem.W.fnOf x qual (Hg st) (En st) (Af st) .none kV doc pm an cdv ct/\K.lookup f=some ⟨oc,od,.func fd,osl⟩/\PySem.W.codeIn K cdv qual=true
  kp:PySem.W.keepIn K (.ref f)=true
section
variable {P:Program}{w:World}{K:PySem.W.Frag}{mg:Str->Option Value}{base:Heap}
theorem Fun.ok {x qual:Str}{st:Stmt}{f:Addr}{fd:FuncData}{N ps:List Str}{k:Nat}{sp:Sp} (F:Fun K x qual st f fd) (S:Aq N ps (Af st)) (len:∀vs H Q E,sp vs H Q E->vs.length=ps.length)
    (hbody:∀(cdv:Value) (A:Around) (outer:List Env) (s:Shared) (H:Hp) (vs:List V) (Q:VK) (E:XK),G3 k (A.deeper (envOfC qual (Af st) s.heap.objs.size f cdv))->sp vs H Q E->
      ∃t,PSs (Lb CX0 P w K mg base N qual (Af st) f cdv A outer s H E).nox (En st) t/\t { nx:=fun _ H'=>Q .non H',rt:=Q} (start N vs) H):Pa P w K mg base CX0 (k+1) f fd ps sp:=by
  obtain⟨oc,od,kV,doc,pm,an,cdv,ct,osl,rfl,lk,hcd⟩:=F.ex
  refine Abm lk hcd S len fun A outer s H vs Q E hr hsp=> ?_
  obtain⟨t,h,q⟩:=hbody cdv A outer s H vs Q E hr hsp
  exact⟨t,h.nox,q⟩
theorem Fun.binds {x qual:Str}{st:Stmt}{f:Addr}{fd:FuncData}{ps:List Str} (F:Fun K x qual st f fd)
    (h:∀(kV doc pm:Value) (an:Option Addr) (cdv ct:Value) (us:List Value),us.length=ps.length->bindArgs (PySem.W.fnOf x qual (Hg st) (En st) (Af st) .none kV doc pm an cdv ct) ⟨us,[]⟩=pure (ps.zip us)):Binds K fd ps []:=by
  obtain⟨oc,od,kV,doc,pm,an,cdv,ct,osl,rfl,lk,hcd⟩:=F.ex
  exact .all (h kV doc pm an cdv ct)
theorem Yv {x qual:Str}{st:Stmt}{f:Addr}{oc:Value}{od an:Option Addr}{osl:Array (Option Value)}{kV doc pm cdv ct:Value} (l:K.lookup f=some ⟨oc,od,.func (PySem.W.fnOf x qual (Hg st) (En st) (Af st) .none kV doc pm an cdv ct),osl⟩)
    (c:PySem.W.codeIn K cdv qual=true) (k:PySem.W.keepIn K (.ref f)=true):Fun K x qual st f (PySem.W.fnOf x qual (Hg st) (En st) (Af st) .none kV doc pm an cdv ct):=⟨⟨oc,od,kV,doc,pm,an,cdv,ct,osl,rfl,l,c⟩,k⟩
end
section
variable {X:Cx}
theorem pv (i:Nat) {x:Str}{pos:Pos} (hN:X.N[i]? =some x:=by rfl) (hv:Vis X.env.scope x:=by first | exact Or.inl rfl | exact Or.inr (Or.inl rfl) | exact Or.inr (Or.inr rfl)) (hd:(x==("__debug__":Str))=false:=by decide)
    (hcd:(x==("__classdict__":Str))=false:=by decide):PE X (.Name x pos) (Ur i):=Aa6 hN hv hd hcd
end
def Same (H H':Hp):Prop:=∀b o,H b=some o->H' b=some o
theorem Same.refl (H:Hp):Same H H:=fun _ _ h=>h
theorem Same.trans {H H1 H2:Hp} (a:Same H H1) (b:Same H1 H2):Same H H2:=fun c o h=>b c o (a c o h)
theorem Same.free {H H':Hp} (e:Same H H') {l:Addr} (h:H' l=Option.none):H l=Option.none:=by
  cases q:H l with
  | none=>rfl
  | some o=>
    rw [e l o q]at h
    cases h
theorem Same.seq {K:PySem.W.Frag}{H H':Hp}{a:Addr}{xs:List V} (e:Same H H') (h:SqL K H a xs):SqL K H' a xs:=by
  rcases h with(h | ⟨o,h⟩) | h
  . exact .inl (.inl (e _ _ h))
  . exact .inl (.inr ⟨o,e _ _ h⟩)
  . exact .inr h
end L2
namespace L2
open PySem PySem.Spec PyProof.Rows
def Cal (P:Program) (w:World) (K:PySem.W.Frag) (mg:Str->Option Value) (base:Heap) (k:Nat) (x:Str) (ps:List Str) (sp:Sp):Prop:=
  ∃f fd,Pa P w K mg base CX0 k f fd ps sp/\mg x=some (.ref f)/\PySem.W.keepIn K (.ref f)=true/\Binds K fd ps []
structure Df (K:PySem.W.Frag) (mg:Str->Option Value) (x:Str) (st:Stmt) (ps:List Str) (f:Addr) (fd:FuncData):Prop where
  fn:Fun K x x st f fd
  bd:Binds K fd ps []
  at':mg x=some (.ref f)
theorem Df.cal {P:Program}{w:World}{K:PySem.W.Frag}{mg:Str->Option Value}{base:Heap}{k:Nat}{x:Str}{st:Stmt}{ps:List Str}{f:Addr}{fd:FuncData}{sp:Sp}
    (F:Df K mg x st ps f fd) (G:Pa P w K mg base CX0 k f fd ps sp):Cal P w K mg base k x ps sp:=⟨f,fd,G,F.at',F.fn.kp,F.bd⟩
theorem Xj {X:Cx}{k:Nat}{x:Str}{ps:List Str}{sp:Sp}{p pos:Pos}{e:Expr}{es:List Expr}{t:TA}
    (C:Cal X.prog X.w X.K X.mg X.base k x ps sp) (hr:G3 k X.A) (ha:PA X (e::es) t) (hg:Gl X x:=by rfl) (hdb:(x==("__debug__":Str))=false:=by decide)
    (he:starEach (e::es) X.env=(false,eval e X.env)::starEach es X.env:=by rfl) (hpl:(backTo pos (starEach es X.env)).any (·.1)=false:=by rfl):
    PE X (.Call (.Name x p) (e::es) [] pos) (Kq sp [] E0 t):=by
  obtain⟨f,fd,G,a,b,c⟩:=C
  exact Vb G hr hg a b c .nil Acx ha hdb he hpl
def Sz (n:Nat) (a:Int):Prop:=a.natAbs<2^n
theorem Sz.mono {m n:Nat}{a:Int} (h:Sz m a) (l:m<=n):Sz n a:=Nat.lt_of_lt_of_le h (Nat.pow_le_pow_right (by decide) l)
theorem Sz.mul {m n:Nat}{a b:Int} (h:Sz m a) (g:Sz n b):Sz (m+n) (a*b):=by
  unfold Sz at*
  rw [Int.natAbs_mul,Nat.pow_add]
  exact Nat.mul_lt_mul'' h g
theorem Sz.add {m n:Nat}{a b:Int} (h:Sz m a) (g:Sz n b):Sz (max m n+1) (a+b):=by
  have h1:Sz (max m n) a:=h.mono (Nat.le_max_left _ _)
  have h2:Sz (max m n) b:=g.mono (Nat.le_max_right _ _)
  unfold Sz at*
  have:=Int.natAbs_add_le a b
  rw [Nat.pow_succ]
  omega
theorem Sz.neg {n:Nat}{a:Int} (h:Sz n a):Sz n (-a):=by
  unfold Sz at*
  rw [Int.natAbs_neg]
  exact h
theorem Sz.sub {m n:Nat}{a b:Int} (h:Sz m a) (g:Sz n b):Sz (max m n+1) (a-b):=by
  rw [Int.sub_eq_add_neg]
  exact h.add g.neg
theorem Sz.of_abs {n:Nat}{a b:Int} (h:Sz n b) (l:a.natAbs<=b.natAbs):Sz n a:=Nat.lt_of_le_of_lt l h
theorem Sz.mulOk {m n:Nat}{a b:Int} (h:Sz m a) (g:Sz n b) (l:m+n<=134217728):IntMulOk a b:=
  IntMulOk.of_le (PySem.intBits_le_iff.mpr h) (PySem.intBits_le_iff.mpr g) l
theorem Sz.log2 {n:Nat}{a:Int} (h:Sz n a) (h0:a≠0) (l:n<=9000):a.natAbs.log2<9000:=
  Nat.lt_of_lt_of_le ((Nat.log2_lt (by omega)).mpr h) l
section
variable {X:Cx}{a b:Expr}{ta tb:TE}{pos:Pos}
theorem Ce:OpR X (binaryOp .Mult) (rI IntMulOk fun i j=> .int (i*j)):=opI fun _ _ _ _ _ _ _ hc q=>mul_int q hc
end
mutual
inductive RdD (K:PySem.W.Frag) (H:Hp):V->PyData->Prop where
  | non:RdD K H .non .none
  | bl (b:Bool):RdD K H (.bl b) (.bool b)
  | int (i:Int):RdD K H (.int i) (.int i)
  | str (x:Str):RdD K H (.str x) (.str x)
  | tup {a:Addr}{xs:List V}{ds:List PyData}:SqT K H a xs->R5 K H xs ds->RdD K H (.ref a) (.tuple ds)
  | lst {a:Addr}{xs:List V}{ds:List PyData}:SqL K H a xs->R5 K H xs ds->RdD K H (.ref a) (.list ds)
inductive R5 (K:PySem.W.Frag) (H:Hp):List V->List PyData->Prop where
  | nil:R5 K H [] []
  | cons {x:V}{d:PyData}{xs:List V}{ds:List PyData}:RdD K H x d->R5 K H xs ds->R5 K H (x::xs) (d::ds)
end
section
variable {X:Cx}{pins:List (Addr × Obj)}{σ:St}{H:Hp}{s:Shared}
mutual
theorem RdD.reads (I:Inv X pins σ H s):∀ {x:V}{d:PyData}{u:Value},RdD X.K H x d->RelV x u->∃as,Reads s.heap u d as
  | _,_,_,.non,r=>by cases r;exact⟨_,.none⟩
  | _,_,_,.bl b,r=>by cases r;exact⟨_,.bool b⟩
  | _,_,_,.int i,r=>by obtain⟨t,rfl⟩:=r;exact⟨_,.int i t⟩
  | _,_,_,.str x,r=>by obtain⟨t,rfl⟩:=r;exact⟨_,.str x t⟩
  | _,_,_,.tup hq hr,r=>by
    cases r
    obtain⟨its,rv,pl,hz⟩:=I.tuple hq
    obtain⟨as,q⟩:=R5.reads I hr rv
    obtain⟨o,ho,hc,n,hd⟩:=pl
    exact⟨_,.tuple ho hc hd (by simpa using q)⟩
  | _,_,_,.lst hq hr,r=>by
    cases r
    obtain⟨its,rv,pl,hz⟩:=I.list hq
    obtain⟨as,q⟩:=R5.reads I hr rv
    obtain⟨o,ho,hc,n,hd⟩:=pl.isList
    exact⟨_,.list ho hc hd (by simpa using q)⟩
theorem R5.reads (I:Inv X pins σ H s):∀ {xs:List V}{ds:List PyData}{us:List Value},R5 X.K H xs ds->Vals xs us->∃as,ReadsAll s.heap us ds as
  | _,_,_,.nil,r=>by cases r;exact⟨_,.nil⟩
  | _,_,_,.cons h t,r=>by
    cases r with
    | cons r1 r2=>
      obtain⟨as,q⟩:=RdD.reads I h r1
      obtain⟨bs,p⟩:=R5.reads I t r2
      exact⟨_,.cons q p⟩
end
end
theorem R5.ints {K:PySem.W.Frag}{H:Hp}:∀ns:List Int,R5 K H (ns.map V.int) (ns.map PyData.int)
  | []=> .nil
  | n::r=> .cons (.int n) (R5.ints r)
theorem RdD.ints {K:PySem.W.Frag}{H:Hp}{a:Addr}{ns:List Int} (h:SqT K H a (ns.map V.int)):RdD K H (.ref a) (.tuple (ns.map PyData.int)):= .tup h (.ints ns)
section
variable {X:Cx}
def Ab0 (K:PySem.W.Frag) (f:Bool->Bool):R2:=fun x y H Q=>∃d e,RdD K H x d/\RdD K H y e/\SeqAt.shaped d=true/\SeqAt.shaped e=true/\Q (.bl (f (PyData.eqv d e))) H
theorem Aax (hu:X.A.units+64<cLine):OpR X (compareOp .Eq) (Ab0 X.K fun b=>b):=by
  intro pins s σ H x y v u Q I rx ry h
  obtain⟨d,e,hd,he,s1,s2,q⟩:=h
  obtain⟨as,r1⟩:=RdD.reads I hd rx
  obtain⟨bs,r2⟩:=RdD.reads I he ry
  exact eq_dataH r1 r2 s1 s2 hu ⟨.bl _,H,I,rfl,q⟩
theorem Abs (hu:X.A.units+64<cLine):OpR X (compareOp .NotEq) (Ab0 X.K fun b=> !b):=by
  intro pins s σ H x y v u Q I rx ry h
  obtain⟨d,e,hd,he,s1,s2,q⟩:=h
  obtain⟨as,r1⟩:=RdD.reads I hd rx
  obtain⟨bs,r2⟩:=RdD.reads I he ry
  exact ne_dataH r1 r2 s1 s2 hu ⟨.bl _,H,I,rfl,q⟩
theorem Xz:G9 X (.builtin "isinstance") (fun xs H Q=>∃x t T b,xs=[x,.ty T]/\Ug X.K H x t/\PySem.W.kitOne X.K t (.type T)=some b/\Q (.bl b) H):=by
  intro pins s σ H xs us Q I r h
  obtain⟨x,t,T,b,rfl,ht,hk,q⟩:=h
  obtain⟨u,c,rfl,ru,rc⟩:=vals2 r
  cases rc
  exact Ws I ru ht hk fun tk=>⟨.bl b,H,I.tok tk,rfl,q⟩
end
theorem Same.tup {K:PySem.W.Frag}{H H':Hp}{a:Addr}{xs:List V} (e:Same H H') (h:SqT K H a xs):SqT K H' a xs:=by
  rcases h with(h | ⟨o,h⟩) | h
  . exact .inl (.inl (e _ _ h))
  . exact .inl (.inr ⟨o,e _ _ h⟩)
  . exact .inr h
theorem Same.upd {H:Hp}{p:Addr} (h:H p=none) (o:HO):Same H (upd H p o):=fun b u q=>by
  rw [Al (Ai q h)]
  exact q
end L2
namespace L2
open PySem PySem.Spec PyProof.Rows
section
variable {X:Cx}{K:PySem.W.Frag}{σ:St}{H:Hp}{Q:VK}{D:Ends}{B:Bool->Hp->Prop}
theorem Qo {t u:TS}:Ab3 t u D σ H=t { D with nx:=u D} σ H:=rfl
theorem Ja:Aab D σ H=D.nx σ H:=rfl
theorem Qa {c:TT}{t u:TS}:Ace c t u D σ H=c σ H (fun b H1=>if b=true then t D σ H1 else u D σ H1):=rfl
theorem Og {te:TE}:Acv te D σ H=te σ H D.rt:=rfl
theorem Jc {te:TE}:Zk te D σ H=te σ H (fun _ H1=>D.nx σ H1):=rfl
theorem Qg {te:TE}{g:TG}:Xq te g D σ H=te σ H (fun x H1=>g x σ H1 D.nx):=rfl
theorem Fo {i:Nat}{v:V}{R:St->Hp->Prop}:Gy i v σ H R=R (σ.set i (some v)) H:=rfl
theorem Ou {i j:Nat}{ta:TA}:Ac0 i j ta D σ H=ta σ H (fun vs H1=>∃v w,vs=[v,w]/\D.nx ((σ.set i (some v)).set j (some w)) H1):=rfl
theorem Jo {v:V}{r:St}:Ur 0 (some v::r) H Q=Q v H:=propext ⟨fun⟨_,e,h⟩=>by cases e;exact h,fun h=>⟨v,rfl,h⟩⟩
theorem Jr {i:Nat}{o:Option V}{r:St}:Ur (i+1) (o::r) H Q=Ur i r H Q:=rfl
theorem z_c {v:V}:tC v σ H Q=Q v H:=rfl
theorem W5 {r:R2}{ta tb:TE}:tOp r ta tb σ H Q=ta σ H (fun x H1=>tb σ H1 fun y H2=>r x y H2 Q):=rfl
theorem Yq {r:V->Hp->VK->Prop}{ta:TE}:tUn r ta σ H Q=ta σ H (fun x H1=>r x H1 Q):=rfl
theorem Y8 {C:Int->Int->Prop}{g:Int->Int->V}{i j:Int}:rI C g (.int i) (.int j) H Q=(C i j/\Q (g i j) H):=
  propext ⟨fun⟨_,_,e,f,h⟩=>by cases e;cases f;exact h,fun h=>⟨i,j,rfl,rfl,h⟩⟩
theorem Oh {g:Int->Int->V}{i j:Int}:rI0 g (.int i) (.int j) H Q=Q (g i j) H:=
  propext ⟨fun⟨_,_,e,f,h⟩=>by cases e;cases f;exact h,fun h=>⟨i,j,rfl,rfl,h⟩⟩
theorem Ym {g:Int->V}{i:Int}:rU g (.int i) H Q=Q (g i) H:=propext ⟨fun⟨_,e,h⟩=>by cases e;exact h,fun h=>⟨i,rfl,h⟩⟩
theorem Ph {i j:Int}:rEq (.int i) (.int j) H Q=Q (.bl (decide (i=j))) H:=by
  unfold rEq
  simp only [Aan,V.int.injEq,true_and]
theorem Qv {i j:Int}:rNe (.int i) (.int j) H Q=Q (.bl (!decide (i=j))) H:=by
  unfold rNe
  simp only [Aan,V.int.injEq,true_and]
theorem Px {i j:Bool}:rEq (.bl i) (.bl j) H Q=Q (.bl (decide (i=j))) H:=by
  unfold rEq
  simp only [Aan,V.bl.injEq,true_and]
theorem Q6 {i j:Bool}:rNe (.bl i) (.bl j) H Q=Q (.bl (!decide (i=j))) H:=by
  unfold rNe
  simp only [Aan,V.bl.injEq,true_and]
theorem Gp {t:TE}:Z5 t σ H B=t σ H (fun x H'=>∃k,x= .bl k/\B k H'):=rfl
theorem Yl {t:TE}:tB t σ H B=t σ H (fun x H'=>∃k,x= .bl k/\B k H'):=rfl
theorem Q0 {b:Bool}{p:Bool->Prop}:(∃k,V.bl b= .bl k/\p k)=p b:=propext ⟨fun⟨_,e,h⟩=>by cases e;exact h,fun h=>⟨b,rfl,h⟩⟩
theorem Oq {b:Int}{p:Int->Prop}:(∃k,V.int b= .int k/\p k)=p b:=propext ⟨fun⟨_,e,h⟩=>by cases e;exact h,fun h=>⟨b,rfl,h⟩⟩
theorem O8 {a b:V}{p:V->V->Prop}:(∃v w,[a,b]=[v,w]/\p v w)=p a b:=propext ⟨fun⟨_,_,e,h⟩=>by cases e;exact h,fun h=>⟨a,b,rfl,h⟩⟩
theorem Jt {b:Int}{p:Int->Prop}:(∃k,[V.int b]=[.int k]/\p k)=p b:=propext ⟨fun⟨_,e,h⟩=>by cases e;exact h,fun h=>⟨b,rfl,h⟩⟩
theorem J0 {a b:Int}{p:Int->Int->Prop}:(∃i j,[V.int a,V.int b]=[.int i,.int j]/\p i j)=p a b:=propext ⟨fun⟨_,_,e,h⟩=>by cases e;exact h,fun h=>⟨a,b,rfl,h⟩⟩
theorem Qq {t:TT}:Acj t σ H B=t σ H (fun c H1=>B (!c) H1):=rfl
theorem Qu {t u:TT}:Adb t u σ H B=t σ H (fun c H1=>if c=true then u σ H1 B else B false H1):=rfl
theorem Yt {t u:TT}:tOr t u σ H B=t σ H (fun c H1=>if c=true then B true H1 else u σ H1 B):=rfl
theorem J2 {ta tb:TE}:Zo ta tb σ H Q=ta σ H (fun x H1=>∃c,x= .bl c/\if c=true then tb σ H1 Q else Q (.bl false) H1):=rfl
theorem O5 {ta tb:TE}:Ad4 ta tb σ H Q=ta σ H (fun x H1=>∃c,x= .bl c/\if c=true then Q (.bl true) H1 else tb σ H1 Q):=rfl
theorem Kd {ta:TE}:Aac ta σ H Q=ta σ H (fun x H1=>∃c,x= .bl c/\Q (.bl (!c)) H1):=rfl
theorem Yh {t:TT}{ta tb:TE}:tIf t ta tb σ H Q=t σ H (fun c H1=>if c=true then ta σ H1 Q else tb σ H1 Q):=rfl
theorem Jf {sp:Sp}{dvs:List V}{E:XK}{t:TA}:Kq sp dvs E t σ H Q=t σ H (fun vs H1=>sp (vs++dvs) H1 Q E):=rfl
theorem Pk {R:List V->Hp->Prop}:Y7 σ H R=R [] H:=rfl
theorem Ka {te:TE}{t:TA}{R:List V->Hp->Prop}:Ko te t σ H R=te σ H (fun x H1=>t σ H1 fun xs H2=>R (x::xs) H2):=rfl
theorem Y4 {r:List V->Hp->VK->Prop}{t:TA}:tCB r t σ H Q=t σ H (fun vs H1=>r vs H1 Q):=rfl
theorem Qf {t:TA}:Acb t σ H Q=t σ H (fun xs H1=>xs.length<=sizeLine/\∀p,H1 p=none->Q (.ref p) (upd H1 p (.tup xs))):=rfl
theorem Qk {t:TA}:Acu t σ H Q=t σ H (fun xs H1=>xs.length<=sizeLine/\∀p,H1 p=none->Q (.ref p) (upd H1 p (.lst xs))):=rfl
theorem Gb {r r':R2}{ta tb tc:TE}:Aaq r r' ta tb tc σ H Q=ta σ H (fun x H1=>tb σ H1 fun y H2=>r x y H2 fun z H3=>∃k,z= .bl k/\(if k=true then tc σ H3 fun w' H4=>r' y w' H4 Q else Q (.bl false) H3)):=rfl
theorem Gw {a:Addr}{xs:List V}{i:Int}{v:V} (h:SqT K H a xs) (e:atI xs i=some v) (q:Q v H):Ac9 K (.ref a) (.int i) H Q:=⟨a,xs,i,v,rfl,rfl,h,e,q⟩
theorem Bw {a:Addr}{xs:List V}{i:Int}{v:V} (h:SqL K H a xs) (e:atI xs i=some v) (q:Q v H):Aak K (.ref a) (.int i) H Q:=⟨a,xs,i,v,rfl,rfl,h,e,q⟩
end
def Ab7 (_ j:Int):Prop:=0<j/\j.natAbs.log2<9000
theorem Ku {X:Cx}:OpR X (binaryOp .FloorDiv) (rI Ab7 fun i j=> .int (i/j)):=opI fun i j _ _ _ _ _ hc q=>by
  have h:j≠0:=by have:=hc.1;omega
  refine floordiv_int h ?_ (.inl (PyProof.noPylong_of_log2 hc.2))
  rw [Int.fdiv_eq_ediv_of_nonneg _ (Int.le_of_lt hc.1)]
  exact q
theorem Jz:(1:Nat)<=sizeLine:=by decide
theorem Ke:(2:Nat)<=sizeLine:=by decide
end L2
namespace L2
open PySem PySem.Spec PyProof.Rows
def clF (env:Env) (cs:List (Str × Addr)) (x:Str × NameKind):List (Str × Addr):=if x.2== .free then(x.1,(env.cells.lookup x.1).getD 0)::cs else cs
theorem M5 {scope:Scope}{env:Env} (h:∀x∈scope.names,x.2= .free->∃c,env.cells.lookup x.1=some c):closureFor scope env=pure (scope.names.foldl (clF env) []):=by
  unfold closureFor
  have key:∀(names:List (Str × NameKind)) (init:List (Str × Addr)),(∀x∈names,x.2= .free->∃c,env.cells.lookup x.1=some c)->
      (forIn names init (fun(x:Str × NameKind) (cs:List (Str × Addr))=>(if x.2== .free then(do let c<-cellOf env x.1;pure (ForInStep.yield ((x.1,c)::cs)))else pure (ForInStep.yield cs):Sem (ForInStep (List (Str × Addr))))))=(pure (names.foldl (clF env) init):Sem (List (Str × Addr))):=by
    intro names
    induction names with
    | nil=>intro init _;rfl
    | cons x r ih=>
      intro init hx
      rw [List.forIn_cons,List.foldl_cons]
      by_cases hf:x.2= .free
      . obtain⟨c,hc⟩:=hx x List.mem_cons_self hf
        have e1:cellOf env x.1=pure c:=by unfold cellOf;rw [hc]
        have e2:clF env init x=(x.1,c)::init:=by unfold clF;rw [hf,hc];rfl
        rw [e2,<-ih _ fun y hy=>hx y (List.mem_cons_of_mem _ hy)]
        rw [hf,e1]
        rfl
      . have e0:(x.2==NameKind.free)=false:=by simpa using hf
        have e2:clF env init x=init:=by unfold clF;rw [e0];rfl
        rw [e2,<-ih _ fun y hy=>hx y (List.mem_cons_of_mem _ hy),e0]
        rfl
  exact(congrArg (fun m=>m>>=fun r=>pure r) (key scope.names [] h)).trans (by rfl)
theorem Od {env:Env}:∀(names:List (Str × NameKind)) (init:List (Str × Addr)) (y:Str) (c:Addr),(∀x∈names,x.2= .free->∃c,env.cells.lookup x.1=some c)->(names.foldl (clF env) init).lookup y=some c->init.lookup y=some c\/env.cells.lookup y=some c
  | [],_,_,_,_,h=> .inl h
  | x::r,init,y,c,hx,h=>by
    rw [List.foldl_cons]at h
    rcases Od r _ y c (fun z hz=>hx z (List.mem_cons_of_mem _ hz)) h with h1 | h1
    . unfold clF at h1
      by_cases hf:x.2= .free
      . obtain⟨d,hd⟩:=hx x List.mem_cons_self hf
        rw [hf,hd]at h1
        change List.lookup y ((x.1,d)::init)=some c at h1
        rw [List.lookup_cons]at h1
        cases hy:y==x.1 with
        | true=>
          rw [hy]at h1
          have:y=x.1:=by simpa using hy
          subst this
          exact .inr (hd.trans h1)
        | false=>
          rw [hy]at h1
          exact .inl h1
      . have e0:(x.2==NameKind.free)=false:=by simpa using hf
        rw [e0]at h1
        exact .inl h1
    . exact .inr h1
theorem Iz {env:Env}:∀(names:List (Str × NameKind)) (init:List (Str × Addr)) (y:Str),((∃x∈names,x.2= .free/\x.1=y)\/∃c,init.lookup y=some c)->∃c,(names.foldl (clF env) init).lookup y=some c
  | [],_,_,h=>by
    rcases h with⟨_,h,_⟩ | h
    . cases h
    . exact h
  | x::r,init,y,h=>by
    rw [List.foldl_cons]
    apply Iz r
    rcases h with⟨z,hz,hf,rfl⟩ | ⟨c,hc⟩
    . rcases List.mem_cons.mp hz with rfl | hz
      . refine .inr ⟨(env.cells.lookup z.1).getD 0,?_⟩
        unfold clF
        rw [hf]
        show List.lookup z.1 ((z.1,_)::init)=_
        rw [List.lookup_cons]
        simp
      . exact .inl ⟨z,hz,hf,rfl⟩
    . refine .inr ?_
      unfold clF
      by_cases hf:x.2= .free
      . rw [hf]
        show ∃c,List.lookup y ((x.1,_)::init)=some c
        rw [List.lookup_cons]
        cases y==x.1 with
        | true=>exact⟨_,rfl⟩
        | false=>exact⟨c,hc⟩
      . have e0:(x.2==NameKind.free)=false:=by simpa using hf
        rw [e0]
        exact⟨c,hc⟩
theorem Jm {prog:Program}{w:World}{A:Around}{R:Result->Shared->Prop}{s:Shared}{elt target iter:Expr}{ifs:List Expr}{scope:Scope}{pos:Pos}{it acc:Value}{env:Env} (I:Nat->Shared->Prop)
    (turn:∀n s,I n s->wpAny (model prog w) A (pyNext it) (fun r s₁=>match r with
      | none=>R (.ok .next) s₁
      | some v=>wpAny (model prog w) A (letOwnedTupleGo target it v) (fun _ s₀=>wpAny (model prog w) A (assign target env v) (fun _ s₂=>
          wpAny (model prog w) A (forIn ifs true fun c r=>if r=true then do let ok<-isTrue c env (eval c env);pure (ForInStep.yield ok)else pure (ForInStep.yield r)) (fun ok s₃=>
            if ok=true then wpAny (model prog w) A (eval elt env) (fun x s₄=>
              wpAny (model prog w) A (call (.builtin "list.append") [acc,x]) (fun _ s₅=>∃m,m<n/\I m s₅) (fun _ _=>False) s₄) (fun _ _=>False) s₃
            else ∃m,m<n/\I m s₃) (fun _ _=>False) s₂) (fun _ _=>False) s₀) (fun _ _=>False) s₁) (fun _ _=>False) s)
    (n:Nat) (h:I n s):
    codeAny (model prog w) A (.compLoop (.ListComp elt [⟨target,iter,ifs,0⟩] scope pos) 0 it acc env) R s:=by
  have no:∀(x:Value) (s':Shared),False->notedBy (model prog w) A env (fun e s'=>R (.error e) s') x s':=fun _ _ z=>z.elim
  refine codeAny_loop rfl I (fun n s hI=> ?_) n h
  show wpAny _ A ((compTurn (.ListComp elt [⟨target,iter,ifs,0⟩] scope pos) 0 it acc env).onRaise (fun x=>do noteFrame x env;theTreesLotGoes x)) _ _ s
  refine wpAny_noted ?_
  rw [compTurn_list]
  refine wpAny_bind (wpAny_standAt (wpAny_bind (wpAny_mono (turn n s hI) (fun r s₁ h₁=> ?_) no)))
  cases r with
  | none=>exact wpAny_pure h₁
  | some v=>
    refine wpAny_bind (wpAny_mono h₁ (fun _ s₀ h₀=> ?_) no)
    refine wpAny_bind (wpAny_mono h₀ (fun _ s₂ h₂=>wpAny_bind (wpAny_mono h₂ (fun ok s₃ h₃=> ?_) no)) no)
    cases ok with
    | false=>exact wpAny_pure ⟨rfl,h₃⟩
    | true=>
      exact wpAny_bind (wpAny_bind (wpAny_mono h₃ (fun x s₄ h₄=>wpAny_bind (wpAny_mono h₄ (fun _ s₅ h₅=>wpAny_pure (wpAny_pure ⟨rfl,h₅⟩)) no)) no))
def cxC (X:Cx) (N:List Str) (scope:Scope) (ex:List Addr) (s:Shared) (H:Hp):Cx where
  prog:=X.prog
  w:=X.w
  K:=X.K
  mg:=X.mg
  base:=X.base
  A:=X.A
  N:=N
  s₀:=s
  H₀:=H
  env:=compEnvC scope (scope.names.foldl (clF X.env) []) s.heap.objs.size X.env
  outer:=X.stack
  stack:=X.stack
  ex:=ex
  fn:=fun _=>false
  calm:=X.calm
  pn:=[]
  xe:=fun _ _=>False
structure Am (X:Cx) (ts:List Str) (fs:List (Nat × Str)) (scope:Scope):Prop where
  kind:scope.kind= .function
  cell:∀y∈scope.names,y.2≠ .cell
  names:∀y∈scope.names,y.2= .local ->scope.names.lookup y.1=some .local
  free:∀y∈scope.names,y.2= .free->X.env.kindOf y.1=some .cell\/X.env.kindOf y.1=some .free
  at':∀p∈fs,X.N[p.1]? =some p.2/\(p.2,NameKind.free)∈scope.names/\((relabel scope X.env).names.lookup p.2=some .cell\/(relabel scope X.env).names.lookup p.2=some .free)
def rlb (sc scope:Scope):List (Str × NameKind):=scope.names.map fun(n,k)=>if(k==NameKind.free&&sc.kind== .function&&sc.names.lookup n==some .cell)then(n,NameKind.cell)else(n,k)
def Acd (sc:Scope) (N:List Str) (fs:List (Nat × Str)) (scope:Scope):Bool:=
  (scope.kind== .function)&&(scope.names.all fun y=>y.2 != .cell)&&(scope.names.all fun y=>y.2 != .local ||scope.names.lookup y.1==some .local)&&
  (scope.names.all fun y=>y.2 != .free||(sc.names.lookup y.1==some .cell||sc.names.lookup y.1==some .free))&&
  fs.all fun p=>N[p.1]? ==some p.2&&(scope.names.contains (p.2,NameKind.free)&&((rlb sc scope).lookup p.2==some .cell||(rlb sc scope).lookup p.2==some .free))
theorem Am.of {X:Cx}{ts:List Str}{fs:List (Nat × Str)}{scope sc:Scope}{N:List Str} (e1:X.env.scope=sc) (e2:X.N=N) (h:Acd sc N fs scope=true):Am X ts fs scope:=by
  unfold Acd at h
  simp only [Bool.and_eq_true,List.all_eq_true,Bool.or_eq_true,bne_iff_ne,beq_iff_eq,List.contains_iff_mem]at h
  obtain⟨⟨⟨⟨h1,h2⟩,h3⟩,h4⟩,h5⟩:=h
  refine⟨h1,h2,fun y hy e=> ?_,fun y hy e=> ?_,fun p hp=> ?_⟩
  . rcases h3 y hy with z | z
    . exact absurd e z
    . exact z
  . rcases h4 y hy with z | z
    . exact absurd e z
    . show X.env.scope.names.lookup y.1=_\/X.env.scope.names.lookup y.1=_
      rw [e1]
      exact z
  . obtain⟨a,b,c⟩:=h5 p hp
    refine⟨by rw [e2];exact a,b,?_⟩
    subst e1
    exact c
def cpN (ts:List Str) (fs:List (Nat × Str)):List Str:=ts++fs.map (·.2)
def cpσ (n:Nat) (fs:List (Nat × Str)) (σ:St):St:=List.replicate n none++fs.map fun p=>(σ[p.1]?).join
theorem Dq {env:Env}{x:Str}{k':NameKind}:∀ {names:List (Str × NameKind)},(names.map fun(n,k)=>if(k==NameKind.free&&env.scope.kind== .function&&env.kindOf n==some .cell)then(n,NameKind.cell)else(n,k)).lookup x=some k'->
    ∃k,(x,k)∈names/\(k'=k\/(k= .free/\k'= .cell))
  | [],h=>by simp at h
  | (n,k)::r,h=>by
    rw [List.map_cons]at h
    dsimp only at h
    by_cases hc:(k==NameKind.free&&env.scope.kind== .function&&env.kindOf n==some .cell)=true
    . rw [if_pos hc,List.lookup_cons]at h
      cases hx:x==n with
      | true=>
        rw [hx]at h
        have e:x=n:=by simpa using hx
        subst e
        have hk:k= .free:=by
          rw [Bool.and_eq_true,Bool.and_eq_true]at hc
          simpa using hc.1.1
        exact⟨k,List.mem_cons_self,.inr ⟨hk,(Option.some.inj h).symm⟩⟩
      | false=>
        rw [hx]at h
        obtain⟨k2,h1,h2⟩:=Dq h
        exact⟨k2,List.mem_cons_of_mem _ h1,h2⟩
    . rw [if_neg hc,List.lookup_cons]at h
      cases hx:x==n with
      | true=>
        rw [hx]at h
        have e:x=n:=by simpa using hx
        subst e
        exact⟨k,List.mem_cons_self,.inl (Option.some.inj h).symm⟩
      | false=>
        rw [hx]at h
        obtain⟨k2,h1,h2⟩:=Dq h
        exact⟨k2,List.mem_cons_of_mem _ h1,h2⟩
def PTs (X:Cx) (ifs:List Expr) (t:TT):Prop:=
  ∀(pins:List (Addr × Obj)) (s:Shared) (σ:St) (H:Hp) (B:Bool->Hp->Prop),Inv X pins σ H s->t σ H B->
    wpAny (model X.prog X.w) X.A (forIn ifs true fun c r=>if r=true then do let ok<-isTrue c X.env (eval c X.env);pure (ForInStep.yield ok)else pure (ForInStep.yield r)) (TP X pins σ B) X.xe s
def Fg:TT:=fun _ H B=>B true H
theorem Bk {X:Cx}:PTs X [] Fg:=fun _ _ _ H _ I h=>wpAny_pure ⟨H,I,h⟩
theorem Oe {X:Cx}{c:Expr}{t:TT} (h:PT X c t):PTs X [c] t:=by
  intro pins s σ H B I hw
  rw [List.forIn_cons]
  simp only [if_true]
  refine wpAny_bind (wpAny_bind (thn (h pins s σ H B I hw) fun b s1 q=>wpAny_pure ?_))
  exact wpAny_pure q
def Kp (σ σ':St):Prop:=σ'.length=σ.length/\∀(i:Nat) v,σ[i]? =some (some v)->σ'[i]? =some (some v)
def cIn (J:It) (cσ:St) (g:TG) (tt:TT) (te:TE) (Q:VK) (H1:Hp) (p:Addr):Prop:=∃W:Nat->Nat->List V->Hp->Prop,(∃m,W 0 m [] (upd H1 p (.lst [])))/\∀i m acc H2,W i m acc H2->
  (J.stop i H2/\Q (.ref p) H2)\/(J.go i H2/\∀x H3,J.yld i H2 x H3->g x cσ H3 fun σ4 H4=>Kp cσ σ4/\tt σ4 H4 fun b H5=>
    if b=true then te σ4 H5 fun y H6=>H6 p=some (.lst acc)/\acc.length<sizeLine/\∃m',m'<m/\W (i+1) m' (acc++ [y]) (upd H6 p (.lst (acc++ [y])))else ∃m',m'<m/\W (i+1) m' acc H5)
def N8 (n:Nat) (fs:List (Nat × Str)) (wi:TI) (g:TG) (tt:TT) (te:TE):TE:=fun σ H Q=>wi σ H fun J H1=>∀p,H1 p=none->cIn J (cpσ n fs σ) g tt te Q H1 p
section
variable {X:Cx}{elt tg iter:Expr}{ifs:List Expr}{scope:Scope}{pos:Pos}{wi:TI}{g:TG}{tt:TT}{te:TE}{ts:List Str}{fs:List (Nat × Str)}
theorem Am.clos (S:Am X ts fs scope) (ok:X.Ok):∀x∈scope.names,x.2= .free->∃c,X.env.cells.lookup x.1=some c:=fun x hx hf=>ok.has x.1 (S.free x hx hf)
theorem Am.sub (S:Am X ts fs scope) (ok:X.Ok) {y:Str}{c:Addr} (h:(scope.names.foldl (clF X.env) []).lookup y=some c):X.env.cells.lookup y=some c:=by
  rcases Od scope.names [] y c (S.clos ok) h with z | z
  . simp at z
  . exact z
theorem Uu {pins:List (Addr × Obj)}{σ:St}{H:Hp}{s3 s4:Shared}{ex:List Addr} (S:Am X ts fs scope) (I:Inv X pins σ H s3)
    (hex:∀b∈ex,Ma X pins H b/\∃o,s3.heap.get? b=some o) (hos:s4.os=s3.os) (hg:s4.gens=s3.gens) (hk:∀b u,s3.heap.get? b=some u->s4.heap.get? b=some u)
    (hn:s4.heap.Ns s3.heap.objs.size fun _=>none):Inv (cxC X (cpN ts fs) scope ex s3 H) [] (cpσ ts.length fs σ) H s4:=by
  have ok:=I.ok
  have noC:∀b∈ex,b≠s3.heap.objs.size:=fun b hb=>by
    obtain⟨_,o,ho⟩:=hex b hb
    exact Nat.ne_of_lt (Heap.lt_size ho)
  refine⟨⟨ok.mod,S.kind,ok.glob,ok.blt,Nat.le_refl _,fun y z c h1 h2=>ok.inj y z c (S.sub ok h1) (S.sub ok h2),fun y hy=> ?_,fun y c h _=>absurd h (by intro z;cases z),ok.hd,ok.frames,.inl rfl,fun b hb=>⟨noC b hb,fun x c e=>(hex b hb).1.2.2.2.2.1 x c (S.sub ok e)⟩,
    I.bs,Nat.le_trans ok.bsz I.sz,fun b o e hb=> ?_,fun b hb=> ?_,I.stack,I.stkFree⟩,hos,by rw [hg];exact I.bare,Un.kept hk,⟨_,hn,fun i x v h1 h2 h3=> ?_⟩,fun y c e=> ?_,I.hok.fresh (Nat.le_refl _),fun y c e=>I.freeC y c (S.sub ok e),
    fun p hp=>absurd (show p∈([]:List (Addr × Obj))from hp) (by simp),I.hok.kept hk,?_⟩
  . have z:∃k',(k'=NameKind.cell\/k'= .free)/\(scope.names.map fun(n,k)=>if(k==NameKind.free&&X.env.scope.kind== .function&&X.env.kindOf n==some .cell)then(n,NameKind.cell)else(n,k)).lookup y=some k':=by
      rcases hy with hy | hy
      . exact⟨_,.inl rfl,hy⟩
      . exact⟨_,.inr rfl,hy⟩
    obtain⟨k',hk',hl⟩:=z
    obtain⟨k,hm,h2⟩:=Dq hl
    have hf:k= .free:=by
      rcases h2 with e | ⟨e,_⟩
      . subst e
        rcases hk' with e | e
        . exact absurd e (S.cell _ hm)
        . exact e
      . exact e
    exact Iz scope.names [] y (.inl ⟨_,hm,hf,rfl⟩)
  . rcases(hex b hb).1.2.2.2.1 with z | z
    . exact ok.noex b o e z
    . exact absurd (Nat.lt_of_lt_of_le (Heap.lt_size e) (Nat.le_trans ok.bsz z)) (Nat.lt_irrefl _)
  . intro hb2
    rcases List.mem_cons.mp (I.stkSub b hb2)with e | e
    . exact(hex b hb).1.2.1 e
    . exact(hex b hb).1.2.2.1 e
  . unfold cpσ at h2
    by_cases hi:i<ts.length
    . rw [List.getElem?_append_left (by simpa using hi),List.getElem?_replicate]at h2
      split at h2<;>cases h2
    . rw [List.getElem?_append_right (by simpa using hi),List.length_replicate]at h2
      have h1':(cpN ts fs)[i]? =some x:=h1
      unfold cpN at h1'
      rw [List.getElem?_append_right (by omega)]at h1'
      rw [List.getElem?_map]at h1' h2
      cases e:fs[i-ts.length]? with
      | none=>rw [e]at h1';cases h1'
      | some p=>
        rw [e]at h1' h2
        have ex':p.2=x:=Option.some.inj h1'
        have e2:(σ[p.1]?).join=some v:=Option.some.inj h2
        have e3:σ[p.1]? =some (some v):=by
          cases q:σ[p.1]? with
          | none=>rw [q]at e2;cases e2
          | some o=>rw [q]at e2;cases o with | none=>cases e2 | some v'=>cases e2;rfl
        obtain⟨a1,a2,a3⟩:=S.at' p (List.mem_of_getElem? e)
        obtain⟨m,_,hl⟩:=I.loc
        have kd:=S.free _ a2 rfl
        have vis:Vis X.env.scope p.2:=by
          rcases kd with z | z
          . exact .inr (.inl z)
          . exact .inr (.inr z)
        obtain⟨u,r,l⟩:=hl p.1 p.2 v a1 e3 vis
        refine⟨u,r,?_⟩
        rcases l with⟨z,_⟩ | ⟨_,c,hc,hcell⟩
        . rcases kd with q | q
          . rw [q]at z;cases z
          . rw [q]at z;cases z
        . obtain⟨c',hc'⟩:=Iz (env:=X.env) scope.names [] p.2 (.inl ⟨_,a2,rfl,rfl⟩)
          have ec:c'=c:=Option.some.inj ((S.sub ok hc').symm.trans hc)
          subst ec
          subst ex'
          refine .inr ⟨?_,c',hc',?_⟩
          . exact a3
          . obtain⟨o,ho,hd⟩:=hcell
            exact⟨o,hk _ _ ho,hd⟩
  . obtain⟨v,o,ho,hd⟩:=I.cell y c (S.sub ok e)
    exact⟨v,o,hk _ _ ho,hd⟩
  . unfold cpσ
    show _=(cpN ts fs).length
    unfold cpN
    simp
theorem Tj {pins:List (Addr × Obj)}{σ σ':St}{H H':Hp}{s3 s5:Shared}{h':Heap}{ex:List Addr} (S:Am X ts fs scope) (I:Inv X pins σ H s3) (hex:∀b∈ex,Ma X pins H b)
    (J:Inv (cxC X (cpN ts fs) scope ex s3 H) [] σ' H' s5) (sb:Heap.SameBut s3.heap.objs.size s5.heap h'):Inv X pins σ H' { s5 with heap:=h'}:=by
  have nC:H' s3.heap.objs.size=none:=J.free
  have old:∀b o,b≠s3.heap.objs.size->s5.heap.get? b=some o->h'.get? b=some o:=fun b o hb e=>sb.extBut b o hb e
  have lt:∀b o,s3.heap.get? b=some o->b≠s3.heap.objs.size:=fun b o e=>Nat.ne_of_lt (Heap.lt_size e)
  have u:Un (frs X.stack) ex H H' s3.heap s5.heap:=J.base
  have u2:Un (frs X.stack) ex H H' s3.heap h':=
    ⟨fun b o e n hb hx=>old b o (lt b o e) (u.keep b o e n hb hx),fun b o e n hb hx=>by
      obtain⟨sl,q⟩:=u.slot b o e n hb hx
      exact⟨sl,old b _ (lt b o e) q⟩,u.free,fun b o e hx=>by
      obtain⟨o',q⟩:=u.there b o e hx
      exact⟨o',old b o' (lt b o e) q⟩,u.tups,u.frzs,u.tbls⟩
  have hok:HOk X.prog X.w H' h':=fun b o e=>by
    have nb:b≠s3.heap.objs.size:=fun z=>by rw [z,nC]at e;cases e
    refine(J.hok b o e).stay (fun c v hc q=>old c v ?_ q) (fun _ q=>q) fun _ _ q=>q
    rcases hc with z | z
    . rw [z];exact nb
    . intro z2;rw [z2,nC]at z;cases z
  exact I.call' (s':={ s5 with heap:=h'}) (ch:=ex) J.os u2 hok J.bare fun b hb=>⟨(hex b hb).2.2.2.1,(hex b hb).2.1,(hex b hb).2.2.2.2.1,(hex b hb).2.2.2.2.2⟩
theorem Inv.fade {pins:List (Addr × Obj)}{σ σ':St}{H:Hp}{s:Shared} (I:Inv X pins σ' H s) (k:Kp σ σ'):Inv X pins σ H s:=by
  refine⟨I.ok,I.os,I.bare,I.base,?_,I.cell,I.free,I.freeC,I.pin,I.hok,k.1.symm.trans I.len⟩
  obtain⟨m,hn,hl⟩:=I.loc
  exact⟨m,hn,fun i x v h1 h2 h3=>hl i x v h1 (k.2 i v h2) h3⟩
theorem Xv {pins:List (Addr × Obj)}{σ:St}{H3:Hp}{s3 s4:Shared}{Q:VK}{R:Result->Shared->Prop}{fp:List Addr}{it p:Addr}{tn:Nat->Heap->Prop}{J:It}{W:Nat->Nat->List V->Hp->Prop}{m0:Nat} (hc:X.calm=true) (S:Am X ts fs scope)
    (hg:∀ex s H,PG (cxC X (cpN ts fs) scope ex s H) tg g) (ht:∀ex s H,PTs (cxC X (cpN ts fs) scope ex s H) ifs tt) (he:∀ex s H,PE (cxC X (cpN ts fs) scope ex s H) elt te)
    (I3:Inv X pins σ H3 s3) (T:Turn X.prog X.w X.K tg J fp it tn) (hex:∀b∈fp,Ma X pins H3 b) (lt:∀b∈fp,b<s3.heap.objs.size)
    (I4:Inv (cxC X (cpN ts fs) scope fp s3 H3) [] (cpσ ts.length fs σ) H3 s4) (st4:tn 0 s4.heap) (w0:W 0 m0 [] H3)
    (fin:∀H5 s6,Inv (cxC X (cpN ts fs) scope fp s3 H3) [] (cpσ ts.length fs σ) H5 s6->Q (.ref p) H5->R (.ok .next) s6)
    (turn:∀i m acc H2,W i m acc H2->(J.stop i H2/\Q (.ref p) H2)\/(J.go i H2/\∀x H3,J.yld i H2 x H3->g x (cpσ ts.length fs σ) H3 fun σ4 H4=>Kp (cpσ ts.length fs σ) σ4/\tt σ4 H4 fun b H5=>
      if b=true then te σ4 H5 fun y H6=>H6 p=some (.lst acc)/\acc.length<sizeLine/\∃m',m'<m/\W (i+1) m' (acc++ [y]) (upd H6 p (.lst (acc++ [y])))else ∃m',m'<m/\W (i+1) m' acc H5)):
    codeAny (model X.prog X.w) X.A (.compLoop (.ListComp elt [⟨tg,iter,ifs,0⟩] scope pos) 0 (.ref it) (.ref p) (cxC X (cpN ts fs) scope fp s3 H3).env) R s4:=by
  have stat:∀ {H':Hp},(∀b∈fp,H' b=none)->∀b∈fp,Ma (cxC X (cpN ts fs) scope fp s3 H3) [] H' b:=fun hn b hb=>
    ⟨hn b hb,Nat.ne_of_lt (lt b hb),fun z=>(List.mem_cons.mp (I3.stkSub b z)).elim (hex b hb).2.1 (hex b hb).2.2.1,.inl hb,fun x c e=>(hex b hb).2.2.2.2.1 x c (S.sub I3.ok e),fun q hq=>absurd (show q∈([]:List (Addr × Obj))from hq) (by simp)⟩
  refine Jm (fun n s'=>∃i acc H',Inv (cxC X (cpN ts fs) scope fp s3 H3) [] (cpσ ts.length fs σ) H' s'/\tn i s'.heap/\(∀b∈fp,H' b=none)/\W i n acc H') ?_ m0 ⟨0,[],H3,I4,st4,fun b hb=>(hex b hb).1,w0⟩
  rintro n s5 ⟨i,acc,H5,I5,st5,fr5,w5⟩
  rcases turn i n acc H5 w5 with⟨stop,q⟩ | ⟨go,step⟩
  . refine thn (T.done (cxC X (cpN ts fs) scope fp s3 H3) rfl rfl rfl hc i [] s5 _ H5 _ I5 (stat fr5) st5 stop) fun r s6 ⟨hr,I6⟩=> ?_
    subst hr
    exact fin H5 s6 I6 q
  . refine thn (T.item (cxC X (cpN ts fs) scope fp s3 H3) rfl rfl rfl hc i [] s5 _ H5 _ I5 (stat fr5) st5 go) fun r s6 ⟨u,hr,h6⟩=> ?_
    subst hr
    refine thn h6 fun _ s7 ⟨x,H7,I7,r7,y7,st7,fr7⟩=> ?_
    have I7':=I7.pinned (stat fr7) (T.obj _ _ st7)
    refine thn (hg fp s3 H3 _ s7 _ H7 x u _ I7' r7 (step x H7 y7)) fun _ s8 ⟨σ8,H8,I8,kp,q8⟩=> ?_
    have again:∀ {H9:Hp}{s9:Shared}{acc':List V}{m':Nat},Inv (cxC X (cpN ts fs) scope fp s3 H3) ([]++Mz fp s7.heap) σ8 H9 s9->m'<n->W (i+1) m' acc' H9->
        ∃m,m<n/\∃i acc H',Inv (cxC X (cpN ts fs) scope fp s3 H3) [] (cpσ ts.length fs σ) H' s9/\tn i s9.heap/\(∀b∈fp,H' b=none)/\W i m acc H':=fun {H9 s9 acc' m'} I9 hm w9=>by
      refine⟨m',hm,i+1,acc',H9,(I9.fade kp).unpinned,T.keep _ _ _ st7 fun b hb o e=>(I9.pin (b,o) (List.mem_append_right _ (List.mem_append_right _ (Cg hb e)))).1,fun b hb=> ?_,w9⟩
      obtain⟨o,e,d⟩:=T.obj _ _ st7 b hb
      exact(I9.pin (b,o) (List.mem_append_right _ (List.mem_append_right _ (Cg hb e)))).2.1
    refine thn (ht fp s3 H3 _ s8 σ8 H8 _ I8 q8) fun ok s9 ⟨H9,I9,q9⟩=> ?_
    cases ok with
    | false=>
      rw [if_neg Bool.false_ne_true]at q9 ⊢
      obtain⟨m',hm,w9⟩:=q9
      exact again I9 hm w9
    | true=>
      rw [if_pos rfl]at q9 ⊢
      refine thn (he fp s3 H3 _ s9 σ8 H9 _ I9 q9) fun y s10 ⟨yv,H10,I10,r10,hp10,hlen,m',hm,w10⟩=> ?_
      exact thn (Cq _ s10 σ8 H10 (.ref p) [yv] (.ref p) [y] _ I10 rfl (.cons r10 .nil) ⟨p,acc,yv,rfl,rfl,hp10,hlen,w10⟩) fun _ s11 ⟨_,H11,I11,_,w11⟩=>again I11 hm w11
set_option maxHeartbeats 2000000 in
theorem Mj {pos':Pos}{pins:List (Addr × Obj)}{σ:St}{H:Hp}{s:Shared}{Q:VK}{QQ:Value->Shared->Prop}{use:Option (Value->Sem Unit)} (hc:X.calm=true) (S:Am X ts fs scope) (hi:PI X tg iter wi) (hg:∀ex s H,PG (cxC X (cpN ts fs) scope ex s H) tg g) (ht:∀ex s H,PTs (cxC X (cpN ts fs) scope ex s H) ifs tt)
    (he:∀ex s H,PE (cxC X (cpN ts fs) scope ex s H) elt te) (hs:∀x,foldedSetIterable iter X.env x=pure x) (I:Inv X pins σ H s) (h:N8 ts.length fs wi g tt te σ H Q)
    (fin:∀(H3:Hp) (s3:Shared) (fp:List Addr) (p:Addr) (H5:Hp) (s6:Shared),Inv X pins σ H3 s3->(∀b∈fp,Ma X pins H3 b)->Inv (cxC X (cpN ts fs) scope fp s3 H3) [] (cpσ ts.length fs σ) H5 s6->Q (.ref p) H5->compPost (model X.prog X.w) X.A X.xe use QQ (.ref p) s3.heap.objs.size (.ok .next) s6):
    wpAny (model X.prog X.w) X.A (comprehension (.ListComp elt [⟨tg,iter,ifs,0⟩] scope pos) scope X.env pos' (newList []) false (eval iter X.env) use) QQ X.xe s:=by
  refine wpAny_comprehension_free (use:=use) rfl hs (M5 (S.clos I.ok)) S.kind S.names (thn (hi pins s σ H _ I h) fun v s1 h1=>thn h1 fun itv s2 h2=> ?_)
  obtain⟨it,fp,tn,J,H2,rfl,I2,T,st2,f2,hw⟩:=h2
  refine wpAny_newObj_type (wpAny_newFunctionEnv S.cell (by intro y hy;simp at hy) (fun h₁ hns₁ hsb₁=> ?_) S.kind)
  dsimp only at hns₁ hsb₁ ⊢
  have I3:=I2.lnew (its:=[]) (ys:=[]) (t':=s2.toks) .nil (Nat.zero_le _)
  have hD:H2 s2.heap.objs.size=none:=I2.fresh
  obtain⟨W,⟨m0,w0⟩,turn⟩:=hw _ hD
  have up:∀b o,s2.heap.get? b=some o->(s2.heap.push { cls:= .type "list",data:= .seq ([]:List Value).toArray}).get? b=some o:=fun b o e=>Heap.get?_push_of_some _ e
  have hex:∀b∈fp,Ma X pins (upd H2 s2.heap.objs.size (.lst [])) b/\∃o,(s2.heap.push { cls:= .type "list",data:= .seq ([]:List Value).toArray}).get? b=some o:=fun b hb=>by
    obtain⟨o,ho,_⟩:=T.obj _ _ st2 b hb
    have nb:b≠s2.heap.objs.size:=Nat.ne_of_lt (Heap.lt_size ho)
    exact⟨⟨by rw [Al nb];exact(f2 b hb).1,(f2 b hb).2⟩,o,up b o ho⟩
  have hk4:∀b u,(s2.heap.push { cls:= .type "list",data:= .seq ([]:List Value).toArray}).get? b=some u->h₁.get? b=some u:=fun b u e=>
    hsb₁.extBut b u (Nat.ne_of_lt (Heap.lt_size e)) (Heap.get?_push_of_some _ e)
  have I4:=Uu (s4:={ s2 with heap:=h₁,toks:=s2.toks}) S I3 hex rfl rfl hk4 hns₁
  have st4:tn 0 h₁:=T.keep _ _ _ st2 fun b _ o e=>hk4 b o (up b o e)
  have run:=Xv (elt:=elt) (iter:=iter) (pos:=pos) hc S hg ht he I3 T (fun b hb=>(hex b hb).1) (fun b hb=>Heap.lt_size (hex b hb).2.choose_spec) I4 st4 w0 (fun H5 s6 I6 q=>fin _ _ fp _ H5 s6 I3 (fun b hb=>(hex b hb).1) I6 q) turn
  exact codeAny_compStart_list run (T.self X.A 0 _ _ _ st4 run)
theorem Ck (hc:X.calm=true) (S:Am X ts fs scope) (hi:PI X tg iter wi) (hg:∀ex s H,PG (cxC X (cpN ts fs) scope ex s H) tg g) (ht:∀ex s H,PTs (cxC X (cpN ts fs) scope ex s H) ifs tt)
    (he:∀ex s H,PE (cxC X (cpN ts fs) scope ex s H) elt te) (hs:∀x,foldedSetIterable iter X.env x=pure x:=by intro _;rfl):
    PE X (.ListComp elt [⟨tg,iter,ifs,0⟩] scope pos) (N8 ts.length fs wi g tt te):=by
  intro pins s σ H Q I h
  rw [eval_ListComp]
  refine Mj (use:=none) hc S hi hg ht he hs I h fun H3 s3 fp p H5 s6 I3 hex I6 q=> ?_
  obtain⟨m,hn,_⟩:=I6.loc
  exact⟨m,hn,fun h' sb=>⟨.ref p,H5,Tj S I3 hex I6 sb,rfl,q⟩⟩
theorem Di {g':TG}{y:Str}{py spos:Pos} (hc:X.calm=true) (S:Am X ts fs scope) (hi:PI X tg iter wi) (hg:∀ex s H,PG (cxC X (cpN ts fs) scope ex s H) tg g) (ht:∀ex s H,PTs (cxC X (cpN ts fs) scope ex s H) ifs tt)
    (he:∀ex s H,PE (cxC X (cpN ts fs) scope ex s H) elt te) (hn:PG X (.Name y py) g') (hsw:swapsWith (.ListComp elt [⟨tg,iter,ifs,0⟩] scope pos) (some (.Name y py)) spos.line X.env=pure true:=by rfl) (hs:∀x,foldedSetIterable iter X.env x=pure x:=by intro _;rfl):
    PS X (.Assign [.Name y py] (.ListComp elt [⟨tg,iter,ifs,0⟩] scope pos) spos) (Xq (N8 ts.length fs wi g tt te) g'):=by
  intro pins s σ H D I h
  rw [exec_Assign_Name_used _ _ _ _ hsw]
  refine wpAny_bind (wpAny_standAt (wpAny_bind ?_))
  show wpAny _ X.A (do let _<-comprehension (.ListComp elt [⟨tg,iter,ifs,0⟩] scope pos) scope X.env _ (newList []) false (eval iter X.env) (some (assign (.Name y py) X.env))) _ _ s
  refine wpAny_bind (wpAny_mono (Mj (use:=some (assign (.Name y py) X.env)) (QQ:=fun _ s'=>SP X pins D .next s') hc S hi hg ht he hs I h fun H3 s3 fp p H5 s6 I3 hex I6 q=> ?_) (fun _ s' hq=>wpAny_pure (wpAny_pure hq)) fun _ _ e=>e)
  have J:Inv X pins σ H5 s6:=Tj S I3 hex I6 (Heap.SameBut.refl _ _)
  obtain⟨m,⟨o,es,ep,ho,hd,hsk,hf⟩,_⟩:=I6.loc
  have ho':s6.heap.get? s3.heap.objs.size=some o:=ho
  have fC:Ma X pins H5 s3.heap.objs.size:=I3.fpOk (Nat.le_refl _) I6.free
  have J':=J.pinned (fp:=[s3.heap.objs.size]) (fun b hb=>by
    have e:b=s3.heap.objs.size:=by simpa using hb
    subst e
    exact fC) (fun b hb=>by
    have e:b=s3.heap.objs.size:=by simpa using hb
    subst e
    exact⟨o,ho',fun v z=>by rw [hd]at z;cases z⟩)
  refine thn (hn _ s6 σ H5 (.ref p) (.ref p) _ J' rfl q) fun _ s7 ⟨σ7,H7,I7,q7⟩=> ?_
  have pC:=I7.pin (s3.heap.objs.size,o) (List.mem_append_right _ (List.mem_append_right _ (Cg (by simp) ho')))
  exact⟨m,⟨o,es,ep,pC.1,hd,hsk,hf⟩,fun h' sb=>⟨σ7,H7,I7.unpinned.turned (t':=s7.toks) (fun b o hb e=>sb.extBut b o hb e) pC.2.1 fC.2.1 fC.2.2.2.1 fC.2.2.2.2.1 fC.2.2.2.2.2,q7⟩⟩
end
section
variable {K:PySem.W.Frag}{H1:Hp}{p:Addr}{cσ:St}{g:TG}{te:TE}{Q:VK}{α:Type}{es:List α}{inj:α->V}
def Wk (J:It) (H1:Hp) (es:List α) (inj:α->V):Prop:=∀i H',Same H1 H'->(es[i]? =none->J.stop i H')/\∀e,es[i]? =some e->J.go i H'/\∀x H3,J.yld i H' x H3->H3=H'/\x=inj e
theorem Hh {a:Addr} (h:SqL K H1 a (es.map inj)):Wk (Itl K a) H1 es inj:=fun i H' s=>by
  have h':=s.seq h
  refine⟨fun e=>⟨_,h',?_⟩,fun e he=>⟨⟨_,inj e,h',by rw [List.getElem?_map,he];rfl⟩,fun x H3 ⟨e1,e2⟩=>⟨e1,?_⟩⟩⟩
  . rw [List.length_map]
    exact List.getElem?_eq_none_iff.mp e
  . have z:=e2 _ h'
    rw [List.getElem?_map,he]at z
    exact(Option.some.inj z).symm
theorem Dz {lo:Int}{n:Nat}:Wk (Itr lo n) H1 (List.range n) (fun i=> .int (lo+(i:Nat))):=fun i H' s=>by
  refine⟨fun e=> ?_,fun e he=> ?_⟩
  . have:=List.getElem?_eq_none_iff.mp e
    show n<=i
    simpa using this
  . obtain⟨h,z⟩:=List.getElem?_eq_some_iff.mp he
    have hi:i<n:=by simpa using h
    have z':i=e:=by simpa using z
    subst z'
    exact⟨hi,fun x H3 ⟨e1,e2⟩=>⟨e1,e2⟩⟩
theorem Nk {J:It} (f:α->V) (hz:es.length<=sizeLine) (hp:H1 p=none) (hJ:Wk J H1 es inj)
    (step:∀e H' R,e∈es->Same H1 H'->(∀H6,Same H' H6->R (f e) H6)->g (inj e) cσ H' fun σ4 H4=>Kp cσ σ4/\te σ4 H4 R)
    (done:∀H',Same H1 H'->H' p=some (.lst (es.map f))->Q (.ref p) H'):cIn J cσ g Fg te Q H1 p:=by
  have su:∀ {H':Hp}{o:HO},Same H1 H'->Same H1 (upd H' p o):=fun {H' o} s b u e=>by
    rw [Al (Ai e hp)]
    exact s b u e
  refine⟨fun i m acc H'=>m=es.length-i/\i<=es.length/\acc=(es.take i).map f/\H' p=some (.lst acc)/\Same H1 H',⟨es.length,by simp,Nat.zero_le _,by simp,Ac,su (Same.refl _)⟩,?_⟩
  rintro i m acc H' ⟨rfl,hi,rfl,hH,s⟩
  cases he:es[i]? with
  | none=>
    have hl:=List.getElem?_eq_none_iff.mp he
    have e:i=es.length:=Nat.le_antisymm hi hl
    subst e
    rw [List.take_length]at hH
    exact .inl ⟨(hJ _ _ s).1 he,done _ s hH⟩
  | some e=>
    obtain⟨go,yl⟩:=(hJ _ _ s).2 e he
    refine .inr ⟨go,fun x H3 y=> ?_⟩
    obtain⟨rfl,rfl⟩:=yl x H3 y
    obtain⟨hlt,e'⟩:=List.getElem?_eq_some_iff.mp he
    have tk:es.take (i+1)=es.take i++ [e]:=by rw [List.take_succ,he];rfl
    have q:=step e H3 (fun y H6=>H6 p=some (.lst ((es.take i).map f))/\((es.take i).map f).length<sizeLine/\∃m',m'<es.length-i/\m'=es.length-(i+1)/\i+1<=es.length/\(es.take i).map f++ [y]=(es.take (i+1)).map f/\
        upd H6 p (.lst ((es.take i).map f++ [y])) p=some (.lst ((es.take i).map f++ [y]))/\Same H1 (upd H6 p (.lst ((es.take i).map f++ [y])))) (List.mem_of_getElem? he) s
      (fun H6 s6=>⟨s6 _ _ hH,by rw [List.length_map,List.length_take];omega,_,by omega,rfl,hlt,by rw [tk,List.map_append];rfl,Ac,su (s.trans s6)⟩)
    have eq:∀(R:VK) (B:Hp->Prop),(fun σ4 H4=>Kp cσ σ4/\Fg σ4 H4 fun b H5=>if b=true then te σ4 H5 R else B H5)=(fun σ4 H4=>Kp cσ σ4/\te σ4 H4 R):=fun R B=>by
      funext σ4 H4
      show(Kp cσ σ4/\if true=true then te σ4 H4 R else B H4)=_
      rw [if_pos rfl]
    rw [eq]
    exact q
end
section
variable {X:Cx}{K:PySem.W.Frag}{σ:St}{H:Hp}{Q:VK}{R:It->Hp->Prop}
theorem J6 {n:Nat}{fs:List (Nat × Str)}{wi:TI}{g:TG}{tt:TT}{te:TE}:N8 n fs wi g tt te σ H Q=wi σ H (fun J H1=>∀p,H1 p=none->cIn J (cpσ n fs σ) g tt te Q H1 p):=rfl
theorem Kf {ta:TA}:Z2 ta σ H R=ta σ H (fun vs H1=>∃j:Int,vs=[.int j]/\ -(2^62)<=j/\j<2^62/\R (Itr 0 j.toNat) H1):=rfl
theorem Jl {ta:TA}:Zm ta σ H R=ta σ H (fun vs H1=>∃i j:Int,vs=[.int i,.int j]/\(-(2^62)<=i/\i<2^62/\ -(2^62)<=j/\j<2^62)/\R (Itr i (j-i).toNat) H1):=rfl
theorem Gh {tl:TE}:Zh K tl σ H R=tl σ H (fun x H1=>∃a,x= .ref a/\(∃xs,SqL K H1 a xs)/\R (Itl K a) H1):=rfl
theorem Jp {tl:TE}:Ad6 K tl σ H R=tl σ H (fun x H1=>∃a,x= .ref a/\(∃xs,SqT K H1 a xs)/\R (Itt K a) H1):=rfl
theorem Qs {a:Addr}{p:Addr->Prop}:(∃b,V.ref a= .ref b/\p b)=p a:=propext ⟨fun⟨_,e,h⟩=>by cases e;exact h,fun h=>⟨a,rfl,h⟩⟩
theorem O2 {v:Option V}{r:St}:Kp (none::r) (v::r)=True:=by
  refine eq_true ⟨rfl,fun i u e=> ?_⟩
  cases i with
  | zero=>cases e
  | succ i=>exact e
theorem Qt {v v':Option V}{r:St}:Kp (none::none::r) (v::v'::r)=True:=by
  refine eq_true ⟨rfl,fun i u e=> ?_⟩
  cases i with
  | zero=>cases e
  | succ i=>
    cases i with
    | zero=>cases e
    | succ i=>exact e
theorem J4 {k:Bool}{p:Int->Prop}{q:Bool->Prop}:((∃i,[V.bl k]=[V.int i]/\p i)\/∃k',[V.bl k]=[V.bl k']/\q k')=q k:=
  propext ⟨fun h=>h.elim (fun⟨_,e,_⟩=>by cases e) fun⟨_,e,h⟩=>by cases e;exact h,fun h=> .inr ⟨k,rfl,h⟩⟩
end
end L2
namespace L2
open PySem PySem.Spec PyProof.Rows
def FI (J:It) (g:TG) (tb:TS) (D:Ends) (σ:St) (H:Hp):Prop:=∃W:Nat->Nat->St->Hp->Prop,(∃m,W 0 m σ H)/\∀i m σ H,W i m σ H->
  (J.stop i H/\D.nx σ H)\/(J.go i H/\∃N:St->Hp->Prop,(∀σ' H',N σ' H'->∃m',m'<m/\W (i+1) m' σ' H')/\∀x H',J.yld i H x H'->g x σ H' fun σ2 H2=>tb { D with nx:=N,ct:=N,bk:=D.nx} σ2 H2)
theorem Pj {wi:TI}{g:TG}{tb:TS}{D:Ends}{σ:St}{H:Hp}:Acq wi g tb D σ H=wi σ H (fun J H1=>FI J g tb D σ H1):=rfl
section
variable {K:PySem.W.Frag}{σ:St}{H:Hp}{g:TG}{tb:TS}{D:Ends}{α:Type}{es:List α}{inj:α->V}
def Aaj (J:It) (H:Hp) (es:List α) (inj:α->V):Prop:=∀i,(es[i]? =none->J.stop i H)/\∀e,es[i]? =some e->J.go i H/\∀x H3,J.yld i H x H3->H3=H/\x=inj e
theorem Dd {a:Addr} (h:SqL K H a (es.map inj)):Aaj (Itl K a) H es inj:=fun i=>Hh h i H (Same.refl _)
theorem Ej {lo:Int}{n:Nat}:Aaj (Itr lo n) H (List.range n) (fun i=> .int (lo+(i:Nat))):=fun i=>Dz i H (Same.refl _)
theorem Ul {J:It} (Pv:List α->St->Hp->Prop) (h0:Pv [] σ H) (hw:∀pre σ H,Pv pre σ H->Aaj J H es inj)
    (hs:∀pre e post σ H,es=pre++e::post->Pv pre σ H->g (inj e) σ H fun σ2 H2=>tb { D with nx:=Pv (pre++ [e]),ct:=Pv (pre++ [e]),bk:=D.nx} σ2 H2) (hd:∀σ H,Pv es σ H->D.nx σ H):FI J g tb D σ H:=by
  refine⟨fun i m σ H=>m=es.length-i/\i<=es.length/\Pv (es.take i) σ H,⟨es.length,by simp,Nat.zero_le _,h0⟩,?_⟩
  rintro i m σ H ⟨rfl,hi,p⟩
  have w:=hw _ _ _ p i
  cases he:es[i]? with
  | none=>
    have e:i=es.length:=Nat.le_antisymm hi (List.getElem?_eq_none_iff.mp he)
    subst e
    rw [List.take_length]at p
    exact .inl ⟨w.1 he,hd _ _ p⟩
  | some e=>
    obtain⟨hlt,ee⟩:=List.getElem?_eq_some_iff.mp he
    have tk:es.take (i+1)=es.take i++ [e]:=by rw [List.take_succ,he];rfl
    have sp:es=es.take i++e::es.drop (i+1):=by
      rw [<-ee,<-List.drop_eq_getElem_cons hlt,List.take_append_drop]
    refine .inr ⟨(w.2 e he).1,Pv (es.take i++ [e]),fun σ' H' q=>⟨es.length-(i+1),by omega,rfl,hlt,by rw [tk];exact q⟩,fun x H' y=> ?_⟩
    obtain⟨rfl,rfl⟩:=(w.2 e he).2 x H' y
    exact hs _ e _ σ H' sp p
end
end L2
namespace L2
open PySem PySem.Spec PyProof.Rows
section
variable {K:PySem.W.Frag}{σ:St}{H:Hp}{Q:VK}
theorem Yr {r:V->Option Int->Option Int->Hp->VK->Prop}{te:TE}{tl th:TO}:tSl r te tl th σ H Q=te σ H (fun x H1=>tl σ H1 fun l H2=>th σ H2 fun u H3=>r x l u H3 Q):=rfl
theorem Du {R:Option Int->Hp->Prop}:Rm σ H R=R none H:=rfl
theorem Jx {t:TE}{R:Option Int->Hp->Prop}:Zx t σ H R=t σ H (fun x H1=>∃i,x= .int i/\R (some i) H1):=rfl
theorem Q5 {T:String}{r:V->List V->Hp->VK->Prop}{to:TE}:Adt K T r to σ H Q=to σ H (fun x H1=>tyV K T x H1/\r x [] H1 Q):=rfl
theorem Y5 {T:String}{r:V->List V->Hp->VK->Prop}{to:TE}{t:TA}:tBM K T r to t σ H Q=to σ H (fun x H1=>tyV K T x H1/\t σ H1 fun xs H2=>r x xs H2 Q):=rfl
end
section
variable {CX:CXT}{P:Program}{w:World}{K:PySem.W.Frag}{mg:Str->Option Value}{base:Heap}{N:List Str}{qual:Str}{scope:Scope}{f:Addr}{cd:Value}{A:Around}{outer:List Env}{s:Shared}{H H1 H2:Hp}{E:XK}{Q:VK}{a b:Addr}{ns ms:List Int}{g:Bool->Bool}
theorem Qe:(Lb CX P w K mg base N qual scope f cd A outer s H E).K=K:=rfl
theorem Jh:(Lb CX P w K mg base N qual scope f cd A outer s H E).nox.K=K:=rfl
end
end L2
namespace L2
open PySem PySem.Spec PyProof.Rows
theorem Jw {a:Addr}{p:Addr->Prop}:(∃b,[V.ref a]=[.ref b]/\p b)=p a:=propext ⟨fun⟨_,e,h⟩=>by cases e;exact h,fun h=>⟨a,rfl,h⟩⟩
section
variable {K:PySem.W.Frag}{σ:St}{H:Hp}{Q:St->Hp->Prop}{R:VK}{p a b:Addr}{v w:V}{i j:Nat}{xs:List V}{ns ms:List Int}{f:Bool->Bool}
theorem Gv (h:SqT K H p [v,w]) (q:Q ((σ.set i (some v)).set j (some w)) H):Zf K 2 (M8 (Gy i) (M8 (Gy j) Abg)) (.ref p) σ H Q:=⟨p,_,rfl,h,rfl,v,_,rfl,w,_,rfl,rfl,q⟩
theorem Jg {to ti:TE}{t:Abi}:Ada to ti t v σ H Q=to σ H (fun o H1=>ti σ H1 fun i H2=>t o i v H2 fun H3=>Q σ H3):=rfl
theorem Rf {G:Hp->Prop} (hp:H p=some (.lst xs)) (hj:j<xs.length) (q:G (upd H p (.lst (xs.set j v)))):Zr (.ref p) (.int (j:Nat)) v H G:=by
  refine⟨p,xs,j,j,rfl,rfl,hp,?_,q⟩
  unfold ixN
  rw [if_pos (by omega),if_pos (by omega),Int.toNat_natCast]
end
end L2
namespace L2
open PySem PySem.Spec PyProof.Rows
section
variable {prog:Program}{w:World}{A:Around}{E:Value->Shared->Prop}{s:Shared}{j u:Addr}{i:Nat}{xs:Array Value}
theorem nextT {y:Value}{Q:Value->Shared->Prop} (hj:s.heap.IsTupleIter j u i) (hu:s.heap.IsTuple u xs) (hy:xs[i]? =some y)
    (k:∀g,g.IsTupleIter j u (i+1)->Heap.SameBut j s.heap g->Q y { s with heap:=g}):wpAny (model prog w) A (Builtin.SmallTypes.nextOf (.ref j)) Q E s:=by
  obtain⟨oj,ej,cj,dj⟩:=id hj
  obtain⟨ou,eu,_,nu,du⟩:=hu
  unfold Builtin.SmallTypes.nextOf
  refine wpAny_bind (wpAny_callSpecial?_slot (name:=Str.ofString "__next__") hj.typeIs F.slot_tuple_iterator_next (wpAny_call_entry F.slot_tuple_iterator_next hj.typeIs F.entry_tuple_iterator_next ?_ (F.args_tuple_iterator_next_1 _)))
  show wpAny _ _ (field (.ref j) 0>>=_) _ _ s
  refine wpAny_bind (wpAny_field ej dj (x:= .ref u) rfl ?_)
  show wpAny _ _ (if(Value.ref u==Value.none)=true then _ else _) _ _ s
  rw [if_neg (show ¬((Value.ref u==Value.none)=true)from Bool.false_ne_true)]
  show wpAny _ _ (field (.ref j) 1>>=_) _ _ s
  refine wpAny_bind (wpAny_field ej dj (x:= .int i 0) rfl ?_)
  show wpAny _ _ (seqItems? (.ref u)>>=_) _ _ s
  refine wpAny_bind (wpAny_seqItems eu du ?_)
  simp only [hy,Int.toNat_natCast]
  refine wpAny_bind (wpAny_setField ej dj (by simp) (wpAny_pure ⟨y,rfl,wpAny_pure (k _ ?_ (Heap.SameBut.update ..))⟩))
  exact⟨_,Heap.get?_update_self _ ej (Obj.isFreed_of_fields (Obj.data_mapFields dj _)),(Obj.cls_mapFields ..).trans cj,by rw [Obj.data_mapFields dj];simp [rawInt]⟩
theorem U4 {Q:Value->Shared->Prop} (hh:A.handled=none) (hj:s.heap.IsTupleIter j u i) (hu:s.heap.IsTuple u xs) (hy:xs[i]? =none)
    (k:∀g e,Heap.ExtBut j s.heap g->(∃o,g.get? e=some o/\o.cls= .type "StopIteration")->E (.ref e) { s with heap:=g}):wpAny (model prog w) A (Builtin.SmallTypes.nextOf (.ref j)) Q E s:=by
  obtain⟨oj,ej,cj,dj⟩:=id hj
  obtain⟨ou,eu,_,nu,du⟩:=hu
  unfold Builtin.SmallTypes.nextOf
  refine wpAny_bind (wpAny_callSpecial?_slot (name:=Str.ofString "__next__") hj.typeIs F.slot_tuple_iterator_next (wpAny_call_entry F.slot_tuple_iterator_next hj.typeIs F.entry_tuple_iterator_next ?_ (F.args_tuple_iterator_next_1 _)))
  show wpAny _ _ (field (.ref j) 0>>=_) _ _ s
  refine wpAny_bind (wpAny_field ej dj (x:= .ref u) rfl ?_)
  show wpAny _ _ (if(Value.ref u==Value.none)=true then _ else _) _ _ s
  rw [if_neg (show ¬((Value.ref u==Value.none)=true)from Bool.false_ne_true)]
  show wpAny _ _ (field (.ref j) 1>>=_) _ _ s
  refine wpAny_bind (wpAny_field ej dj (x:= .int i 0) rfl ?_)
  show wpAny _ _ (seqItems? (.ref u)>>=_) _ _ s
  refine wpAny_bind (wpAny_seqItems eu du ?_)
  simp only [hy,Int.toNat_natCast]
  refine wpAny_bind (wpAny_rule (wpAny_bind (wpAny_setField ej dj (by simp) ?_)))
  show wpAny _ A.in1 (newExc (.type "StopIteration") []>>=_) _ _ _
  refine wpAny_bind ?_
  simp only [newTuple,newExc]
  refine wpAny_bind (wpAny_newObj_type ?_ (by size_fits))
  refine wpAny_bind (m:=firstArgMember _ _) (wpAny_of_eq (a:=Value.none) (by first | rfl | (simp only [firstArgMember];rfl)) ?_)
  refine(wpAny_newObj_type ?_ (by size_fits))
  simp only [raiseNew]
  refine wpAny_bind (wpAny_handled ?_)
  first | rw [show A.in1.handled=none from hh] | (rw [hh])
  refine wpAny_bind (wpAny_pure (wpAny_throw ?_))
  exact k _ _ (((Heap.SameBut.update ..).extBut.push _).push _) ⟨_,Heap.get?_push_size _ rfl,rfl⟩
end
open AutoSeq1 (wpAny_loadPart')in
section
variable {X:Cx}{pins:List (Addr × Obj)}{σ:St}{H:Hp}{s:Shared}{h':Heap}
theorem Inv.turnL {t':Nat}{fp:List Addr} (I:Inv X pins σ H s) (k:∀b o,b∉fp->s.heap.get? b=some o->h'.get? b=some o) (hf:∀b∈fp,Ma X pins H b):Inv X pins σ H { s with heap:=h',toks:=t'}:=by
  have nf:∀b u,H b=some u->b∉fp:=fun b u e z=>by
    have:=(hf b z).1
    rw [this]at e
    cases e
  refine I.step (g':=s.gens) (d':=s.drawn) (ch:=fp) (fun b hb=>⟨(hf b hb).2.2.2.1,(hf b hb).2.1,(hf b hb).2.2.2.2.1,(hf b hb).2.2.2.2.2⟩) (fun b o _ _ hc e _=>k b o hc e) (fun b o _ _ hc e _=>⟨o.slots,k b o hc e⟩) (fun _ _ _ _ n=>n)
    (fun b o hc e=>⟨o,k b o hc e⟩) (fun _ _ e=>e) (fun _ _ _ e=>e) (fun b ps e=>⟨#[],by rw [e];simp⟩) (fun m hm=> ?_) (fun b u e=> ?_) I.bare
  . obtain⟨o,es,ep,ho,r⟩:=hm
    exact⟨o,es,ep,k _ o (fun z=>(hf _ z).2.1 rfl) ho,r⟩
  . refine(I.hok b u e).stay (fun c v hc q=>k c v ?_ q) (fun _ q=>q) fun _ _ q=>q
    rcases hc with z | z
    . rw [z]
      exact nf b u e
    . exact nf c _ z
end
def Ite (K:PySem.W.Frag) (a:Addr):It:=
  ⟨fun i H=>∃xs x,SqT K H a xs/\xs[i]? =some x,fun i H x H'=>∃p v,(∀xs,SqT K H a xs->xs[i]? =some v)/\H p=none/\x= .ref p/\H'=upd H p (.tup [.int (i:Nat),v]),fun i H=>∃xs,SqT K H a xs/\xs.length<=i⟩
section
variable {X:Cx}{a:Expr}{ta:TA}{el:List Expr}{x1}{tp p pos:Pos}
def iEn (K:PySem.W.Frag) (ta:TA):TI:=fun σ H R=>ta σ H fun vs H1=>∃a,vs=[.ref a]/\(∃xs,SqT K H1 a xs)/\R (Ite K a) H1
end
theorem Pg {K:PySem.W.Frag}{σ:St}{H:Hp}{ta:TA}{R:It->Hp->Prop}:iEn K ta σ H R=ta σ H (fun vs H1=>∃a,vs=[.ref a]/\(∃xs,SqT K H1 a xs)/\R (Ite K a) H1):=rfl
end L2
namespace L2
open PySem PySem.Spec PyProof.Rows
section
variable {X:Cx}
theorem Te (hc:X.calm=true):G9 X (.builtin "all") (fun xs H Q=>∃(a:Addr) (bs:List Bool),xs=[.ref a]/\SqL X.K H a (bs.map V.bl)/\Q (.bl (bs.all id)) H):=by
  intro pins s σ H xs us Q I r h
  obtain⟨a,bs,rfl,ha,q⟩:=h
  obtain⟨u,rfl,ru⟩:=vals1 r
  cases ru
  obtain⟨its,rv,p,hz⟩:=I.list ha
  have hl:s.heap.IsList a its.toArray:=p.isList
  have lt:a<s.heap.objs.size:=by
    obtain⟨_,e,_⟩:=hl
    exact Heap.lt_size e
  have ln:its.length=bs.length:=by
    have:=rv.length
    rw [List.length_map]at this
    exact this.symm
  refine call_all_walk (wpAny_pyIter_list hl ?_)
  refine⟨s.heap.objs.size,[s.heap.objs.size,a],[s.heap.objs.size],its.toArray.size,_,_,fun i=>(bs[i]?).getD true,rfl,Walks.list (A:=X.A.in1) (I.ok.hd hc) _ a (Nat.ne_of_lt lt) its.toArray,
    ⟨⟨_,Heap.get?_push_size _ rfl,rfl,rfl⟩,hl.push _⟩,fun i v s' Q' E' hP hQ=> ?_,fun g tk hk=> ?_⟩
  . have hv:its[i]? =some v:=by simpa using hP
    have hi:i<its.length:=(List.getElem?_eq_some_iff.mp hv).1
    have hb:bs[i]? =some bs[i]:=List.getElem?_eq_getElem (by omega)
    obtain⟨w',hw,rw'⟩:=rv.get (show(bs.map V.bl)[i]? =some (V.bl bs[i])by rw [List.getElem?_map,hb];rfl)
    rw [hv]at hw
    cases hw
    cases rw'
    simp only [hb,Option.getD_some]at hQ
    exact wpAny_truthy_bool hQ
  . have e:((List.range its.toArray.size).all fun i=>(bs[i]?).getD true)=bs.all id:=by
      rw [List.size_toArray,ln,Bool.eq_iff_iff,List.all_eq_true,List.all_eq_true]
      constructor
      . intro h x hx
        obtain⟨i,hi,ei⟩:=List.getElem_of_mem hx
        have:=h i (List.mem_range.mpr hi)
        rw [List.getElem?_eq_getElem hi,ei]at this
        exact this
      . intro h i hi
        have hi':=List.mem_range.mp hi
        rw [List.getElem?_eq_getElem hi']
        exact h _ (List.getElem_mem hi')
    rw [e]
    exact⟨.bl _,H,I.kept (t':=tk) fun b o q'=>hk b o (fun hm=>by rw [List.mem_singleton.mp hm]at q';exact Nat.lt_irrefl _ (Heap.lt_size q')) (Heap.get?_push_of_some _ q'),rfl,q⟩
end
open AutoSeq1 (wpAny_loadPart')in
open AutoSeq1 (wpAny_loadPart')in
open AutoSeq1 (wpAny_loadPart')in
section
variable {X:Cx}
theorem Ij (K:PySem.W.Frag) (h:X.K=K:=by rfl):IxR X (Aak K):=by subst h;exact Az
theorem Vh (K:PySem.W.Frag) (h:X.K=K:=by rfl):IxR X (Ac9 K):=by subst h;exact Ea
end
end L2
namespace L2
open PySem PySem.Spec PyProof.Rows
section
variable {X:Cx}{e st:Expr}{te tst:TE}{pos p2:Pos}
def Ady (K:PySem.W.Frag) (te tst:TE):TE:=fun σ H Q=>te σ H fun x H1=>tst σ H1 fun y H2=>∃a xs,x= .ref a/\y= .int (-1)/\SqT K H2 a xs/\∀p,H2 p=none->Q (.ref p) (upd H2 p (.tup xs.reverse))
theorem Qz {K:PySem.W.Frag}{σ:St}{H:Hp}{Q:VK}:Ady K te tst σ H Q=te σ H (fun x H1=>tst σ H1 fun y H2=>∃a xs,x= .ref a/\y= .int (-1)/\SqT K H2 a xs/\∀p,H2 p=none->Q (.ref p) (upd H2 p (.tup xs.reverse))):=rfl
end
theorem Mp {H1:Hp}{p:Addr}{cσ:St}{g:TG}{tt:TT}{te:TE}{Q:VK}{α:Type}{es:List α}{inj:α->V}{J:It} (pf:α->Bool) (f:α->V) (hz:es.length<=sizeLine) (hp:H1 p=none) (hJ:Wk J H1 es inj)
    (step:∀(e:α) (H':Hp) (R:VK) (RF:Hp->Prop),e∈es->Same H1 H'->(pf e=true->∀H6,Same H' H6->R (f e) H6)->(pf e=false->∀H6,Same H' H6->RF H6)->g (inj e) cσ H' fun σ4 H4=>Kp cσ σ4/\tt σ4 H4 fun b H5=>if b=true then te σ4 H5 R else RF H5)
    (done:∀H',Same H1 H'->H' p=some (.lst ((es.filter pf).map f))->Q (.ref p) H'):cIn J cσ g tt te Q H1 p:=by
  have su:∀ {H':Hp}{o:HO},Same H1 H'->Same H1 (upd H' p o):=fun {H' o} s b u e=>by
    rw [Al (Ai e hp)]
    exact s b u e
  refine⟨fun i m acc H'=>m=es.length-i/\i<=es.length/\acc=((es.take i).filter pf).map f/\H' p=some (.lst acc)/\Same H1 H',⟨es.length,by simp,Nat.zero_le _,by simp,Ac,su (Same.refl _)⟩,?_⟩
  rintro i m acc H' ⟨rfl,hi,rfl,hH,s⟩
  cases he:es[i]? with
  | none=>
    have e:i=es.length:=Nat.le_antisymm hi (List.getElem?_eq_none_iff.mp he)
    subst e
    rw [List.take_length]at hH
    exact .inl ⟨(hJ _ _ s).1 he,done _ s hH⟩
  | some e=>
    obtain⟨go,yl⟩:=(hJ _ _ s).2 e he
    refine .inr ⟨go,fun x H3 y=> ?_⟩
    obtain⟨rfl,rfl⟩:=yl x H3 y
    obtain⟨hlt,_⟩:=List.getElem?_eq_some_iff.mp he
    have tk:es.take (i+1)=es.take i++ [e]:=by rw [List.take_succ,he];rfl
    have fl:((es.take i).filter pf).length<=i:=Nat.le_trans (List.length_filter_le _ _) (by rw [List.length_take];omega)
    refine step e H3 _ _ (List.mem_of_getElem? he) s (fun hpf H6 s6=>⟨s6 _ _ hH,by rw [List.length_map];omega,_,by omega,rfl,hlt,?_,Ac,su (s.trans s6)⟩) (fun hpf H6 s6=>⟨_,by omega,rfl,hlt,?_,?_,s.trans s6⟩)
    . rw [tk,List.filter_append,List.map_append]
      simp [hpf]
    . rw [tk,List.filter_append,List.map_append]
      simp [hpf]
    . exact s6 _ _ hH
end L2
namespace L2
open PySem PySem.Spec PyProof.Rows
set_option maxRecDepth 100000
open AutoSeq1 (wpAny_loadPart')in
def Itv (K:PySem.W.Frag) (a:Addr) (n:Nat):It:=
  ⟨fun i H=>∃xs x,SqT K H a xs/\xs.length=n/\xs.reverse[i]? =some x,fun i H x H'=>H'=H/\∀xs,SqT K H a xs->xs.reverse[i]? =some x,fun i _=>n<=i⟩
section
variable {X:Cx}{a:Expr}{ta:TA}{tg:Expr}{p pos:Pos}
def iRv (K:PySem.W.Frag) (ta:TA):TI:=fun σ H R=>ta σ H fun vs H1=>∃a,vs=[.ref a]/\∃xs,SqT K H1 a xs/\R (Itv K a xs.length) H1
end
theorem Ox {K:PySem.W.Frag}{σ:St}{H:Hp}{ta:TA}{R:It->Hp->Prop}:iRv K ta σ H R=ta σ H (fun vs H1=>∃a,vs=[.ref a]/\∃xs,SqT K H1 a xs/\R (Itv K a xs.length) H1):=rfl
theorem Iw {X:Cx}{es:List Expr}{k:Nat}{pos:Pos}{t:TGs} (K:PySem.W.Frag) (n:Nat) (hK:X.K=K) (hc:X.calm=true) (h:PGs X es t)
    (hn:(assignEach es X.env).length=n:=by rfl) (hst:(assignEach es X.env).findIdx? (·.1)=none:=by rfl):PG X (.Tuple es k pos) (Zf K n t):=by
  subst hK
  exact Ds hc h hn hst
end L2
namespace L2
open PySem PySem.Spec PyProof.Rows
set_option maxRecDepth 100000
theorem Dp.has {P:Program}{w:World}{H:Hp}{h:Heap}{a:Addr}{o:HO} (x:Dp P w H h a o):∃ob,h.get? a=some ob:=by
  cases o with
  | lst xs=>obtain⟨_,_,_,_,e⟩:=x;exact⟨_,e⟩
  | tup xs=>obtain⟨_,_,_,ob,e,_⟩:=x;exact⟨_,e⟩
  | dK kvs=>obtain⟨_,_,_,_,o,_,_,e,_⟩:=x;exact⟨_,e⟩
  | dT kvs=>obtain⟨_,_,_,_,o,_,_,e,_⟩:=x;exact⟨_,e⟩
  | set S n=>obtain⟨o,_,_,_,e,_⟩:=x;exact⟨_,e⟩
  | ins C dx fs=>obtain⟨_,_,_,e,_⟩:=x;exact⟨_,e⟩
  | own y=>exact x
  | xd fs=>obtain⟨_,⟨_,_,_,e,_⟩,_⟩:=x;exact⟨_,e⟩
  | rng lo hi=>obtain⟨_,_,_,e⟩:=x;exact⟨_,e⟩
  | frz ob u=>obtain⟨e,_⟩:=x;exact⟨_,e⟩
  | tbl ps=>exact⟨_,show h.get? a=some _ from x⟩
  | met f y=>exact⟨_,show h.get? a=some _ from x⟩
  | ext φ=>exact x.2.1
structure FX (P:Program) (w:World) (fr:List Addr) (H:Hp) (h0:Heap) (B:Heap) (H':Hp) (h:Heap):Prop where
  stay:B.StaysIn h
  k1:∀b o,h0.get? b=some o->b∉fr->∃o',B.get? b=some o'/\(H b=none->o'=o)
  k2:∀b u,H' b=some u->∃o,B.get? b=some o
  fr0:∀b∈fr,H b=none/\∃o,h0.get? b=some o/\∀vs,o.data≠ .fields vs
  un:Un fr [] H H' h0 h
  hok:HOk P w H' h
theorem FX.step {P:Program}{w:World}{fr:List Addr}{H H':Hp}{h0 B h h':Heap} (x:FX P w fr H h0 B H' h) (k:B.StaysIn h') (u:h.UpToSlots h'):FX P w fr H h0 B H' h':=by
  have slot:∀b o,h0.get? b=some o->H b=none->b∈fr->∃sl,h'.get? b=some { o with slots:=sl}:=fun b o e n hb=>by
    obtain⟨sl,e1⟩:=x.un.slot b o e n hb (by simp)
    obtain⟨_,o2,e2,hf⟩:=x.fr0 b hb
    rw [e]at e2;cases e2
    obtain⟨sl',e3⟩:=u b _ e1 hf
    exact⟨sl',e3⟩
  refine⟨k,x.k1,x.k2,x.fr0,⟨fun b o e n hb _=> ?_,fun b o e n hb _=>slot b o e n hb,x.un.free,fun b o e _=> ?_,x.un.tups,x.un.frzs,x.un.tbls⟩,fun b v e=>(x.hok b v e).stay (fun c z hc q=> ?_) (fun _ q=>q) fun _ _ q=>q⟩
  . obtain⟨o',e1,e2⟩:=x.k1 b o e hb
    rw [e2 n]at e1
    exact k b o e1
  . by_cases hb:b∈fr
    . obtain⟨sl,e1⟩:=slot b o e (x.fr0 b hb).1 hb
      exact⟨_,e1⟩
    . obtain⟨o',e1,_⟩:=x.k1 b o e hb
      exact⟨o',k b o' e1⟩
  . have t:∃o,B.get? c=some o:=by
      rcases hc with z | z
      . rw [z];exact x.k2 _ _ e
      . exact x.k2 _ _ z
    obtain⟨o,eo⟩:=t
    have:=x.stay c o eo
    rw [q]at this;cases this
    exact k c _ eo
section
variable {X:Cx}{pins:List (Addr × Obj)}{σ:St}{H H':Hp}{s s':Shared}{B:Heap}
theorem Inv.old (I:Inv X pins σ H s) {b:Addr}{o:Obj} (e:X.s₀.heap.get? b=some o) (hb:b∉X.fs):b∉frs X.stack:=fun z=>by
  rcases List.mem_cons.mp (I.stkSub b z)with q | q
  . exact absurd (Nat.lt_of_lt_of_le (Heap.lt_size e) I.ok.above) (by rw [q];exact Nat.lt_irrefl _)
  . exact hb q
theorem Inv.fr0 (I:Inv X pins σ H s):∀b∈X.fs,X.H₀ b=none/\∃o,X.s₀.heap.get? b=some o/\∀vs,o.data≠ .fields vs:=fun b hb=>by
  obtain⟨_,o,ho,hd⟩:=I.ok.funs.mem hb
  exact⟨I.ok.frf b hb,o,ho,hd⟩
theorem Inv.one (I:Inv X pins σ H s) (hex:X.ex=[]) {b:Addr}{o:Obj} (e:X.s₀.heap.get? b=some o) (hb:b∉X.fs):∃o',s.heap.get? b=some o'/\(X.H₀ b=none->o'=o/\H b=none):=by
  by_cases n:X.H₀ b=none
  . exact⟨o,I.base.keep b o e n hb (by rw [hex];simp),fun _=>⟨rfl,I.base.free b o e n (by rw [hex];simp)⟩⟩
  . obtain⟨o',e1⟩:=I.base.there b o e (by rw [hex];simp)
    exact⟨o',e1,fun z=>absurd z n⟩
theorem Inv.fx (I:Inv X pins σ H s) (hex:X.ex=[]):FX X.prog X.w X.fs X.H₀ X.s₀.heap (PySem.W.hideAll s.heap (frs X.stack)) H s.heap:=by
  refine⟨fun b o q=>PySem.W.of_hideAll _ q,fun b o e hb=> ?_,fun b u e=> ?_,I.fr0,hex▸I.base,I.hok⟩
  . obtain⟨o',e1,e2⟩:=I.one hex e hb
    exact⟨o',PySem.W.hideAll_get _ e1 (I.old e hb),fun n=>(e2 n).1⟩
  . obtain⟨o,eo⟩:=(I.hok b u e).has
    exact⟨o,PySem.W.hideAll_get _ eo fun z=>by have:=I.stkFree b z;rw [e]at this;cases this⟩
theorem Inv.fxOn (I:Inv X pins σ H s) (hex:X.ex=[]) (os:s'.os=s.os) (bare:AllBare s'.gens) (x:FX X.prog X.w (frs X.stack) H s.heap B H' s'.heap):FX X.prog X.w X.fs X.H₀ X.s₀.heap B H' s'.heap:=by
  have J:Inv X pins σ H' s':=I.call' (ch:=[]) os x.un x.hok bare fun b z=>absurd z (by simp)
  refine⟨x.stay,fun b o e hb=> ?_,x.k2,I.fr0,hex▸J.base,x.hok⟩
  obtain⟨o1,e1,n1⟩:=I.one hex e hb
  obtain⟨o',e2,n2⟩:=x.k1 b o1 e1 (I.old e hb)
  exact⟨o',e2,fun n=>(n2 (n1 n).2).trans (n1 n).1⟩
end
def CXE (P:Program) (w:World):CXT:=fun outer H s E e s'=>∃(x C:Addr) (a0:Value) (B:Heap) (H':Hp),e= .ref x/\s'.os=s.os/\AllBare s'.gens/\Heap.FlyingW B outer x (.ref C) a0 s'.heap/\FX P w (frs outer) H s.heap B H' s'.heap/\E (.ref C) none H'
abbrev VE:List Value:=[.type "ValueError",.type "Exception",.type "BaseException",.type "object"]
def Q9 (K:PySem.W.Frag) (C:Addr):Prop:=PySem.W.excIn K C VE "ValueError.__new__"=true
def cA (K:PySem.W.Frag) (x:Str):Addr:=match PySem.W.nsIn K mainGlobals x with
  | some (some (.ref C))=>C
  | _=>0
theorem Ua {K:PySem.W.Frag}{x:Str}{C:Addr} (e:PySem.W.nsIn K mainGlobals x=some (some (.ref C))):cA K x=C:=by
  unfold cA
  rw [e]
def Adg (h:Heap) (C:Addr):Prop:=∃bm N nm q bs hdct sn sub ab col dd k0 k1 k2 k3 k5 mN,h.get? C=some (excClassObj nm q C N bs bm hdct sn sub ab col dd k0 k1 k2 k3 k5 "ValueError.__new__")/\h.Ns N mN/\mN "__init__"=none/\OwnTail h VE bm
theorem Q9.obj {K:PySem.W.Frag}{C:Addr}{h:Heap} (q:Q9 K C) (X:K.In h):Adg h C:=by
  unfold Q9 PySem.W.excIn at q
  cases e:K.lookup C with
  | none=>rw [e]at q;cases q
  | some ob=>
    rw [e]at q
    have eX:=X _ _ e
    split at q
    . rename_i dd cd sl z
      cases z
      split at q
      . rename_i C1 bm a0 a1 a2 a3 n a5 hm hs
        rw [Bool.and_eq_true,Bool.and_eq_true,Bool.and_eq_true,Bool.and_eq_true,Bool.and_eq_true]at q
        obtain⟨⟨⟨⟨⟨z1,z2⟩,z3⟩,z4⟩,z5⟩,z6⟩:=q
        have y1:C1=C:=by simpa using z1
        have y2:n="ValueError.__new__":=by simpa using z2
        have y3:cd.hasDel=false:=by simpa using z3
        have y6:PySem.W.nsIn K cd.ns "__init__"=some none:=by simpa using z6
        obtain⟨c1,c2,c3,c4,c5,c6,c7,c8,c9,c10,c11⟩:=cd
        have hl:sl= #[a0,a1,a2,a3,some (.builtin n),a5]:=by
          cases sl
          exact congrArg Array.mk hs
        dsimp only at hm y3 y6 z5
        rw [hl,hm,y1,y2,y3]at eX
        exact⟨bm,c4,c1,c5,c2,c6,c7,c8,c9,c10,dd,a0,a1,a2,a3,a5,_,eX,Heap.Ns.of_isNs (PySem.W.isNs_of_in X z5),PySem.W.nsMap_none_of_in X z5 y6,PySem.W.tail_of_in X z4⟩
      . cases q
    . cases q
section
variable {P:Program}{w:World}{K:PySem.W.Frag}{mg:Str->Option Value}{base:Heap}{N:List Str}{qual:Str}{scope:Scope}{f:Addr}{cd:Value}{A:Around}{outer:List Env}{s0:Shared}{H0:Hp}{E:XK}
theorem Ab8:Passes (CXE P w) (Lb (CXE P w) P w K mg base N qual scope f cd A outer s0 H0 E) E:=by
  intro pins σ H s e s' I h
  obtain⟨x,C,a0,B,H',rfl,os,bare,fl,fx,q⟩:=h
  show wpAny _ _ (leaving _ (.ref x)) _ _ s'
  refine wpAny_leaves_onW I.ok.frames rfl fl fun h' fl' up=> ?_
  exact⟨x,C,a0,B,H',rfl,os.trans I.os,bare,fl',(I.fxOn rfl os bare fx).step fl'.1 up,q⟩
def Vj (C:Addr) (E:XK) (t:TA):TS:=fun _ σ H=>t σ H fun vs H1=>vs.length<=sizeLine/\E (.ref C) none H1
theorem Cy {C:Addr}{x:Str}{np cpos pos:Pos}{e:Expr}{es:List Expr}{t:TA} (hq:Q9 K C) (hm:mg x=some (.ref C))
    (ha:PA (Lb (CXE P w) P w K mg base N qual scope f cd A outer s0 H0 E) (e::es) t) (hg:Gl (Lb (CXE P w) P w K mg base N qual scope f cd A outer s0 H0 E) x:=by rfl) (hdb:(x==("__debug__":Str))=false:=by decide)
    (he:starEach (e::es) (envOfC qual scope s0.heap.objs.size f cd)=(false,eval e (envOfC qual scope s0.heap.objs.size f cd))::starEach es (envOfC qual scope s0.heap.objs.size f cd):=by rfl)
    (hpl:(backTo cpos (starEach es (envOfC qual scope s0.heap.objs.size f cd))).any (·.1)=false:=by rfl):
    PS (Lb (CXE P w) P w K mg base N qual scope f cd A outer s0 H0 E) (.Raise (some (.Call (.Name x np) (e::es) [] cpos)) none pos) (Vj C E t):=by
  intro pins s σ H D I h
  obtain⟨bm,N',nm,q,bs,hdct,sn,sub,ab,col,dd,k0,k1,k2,k3,k5,mN,hC,hN,hni,TL⟩:=hq.obj I.mod.kin
  refine wpAny_Raise_call_subT (nm:=nm) (q:=q) (C:=C) (N:=N') (bs:=bs) (bm:=bm) (hdct:=hdct) (sn:=sn) (sub:=sub) (ab:=ab) (col:=col) (dd:=dd) (k0:=k0) (k1:=k1) (k2:=k2) (k3:=k3) (k5:=k5) PySem.F.excBase_ValueError (TL.hasType (by decide)) (I.ok.hd rfl) (by
    show(backTo cpos (starEach (e::es) (envOfC qual scope s0.heap.objs.size f cd))).any (·.1)=false
    rw [he]
    show(false||(backTo cpos (starEach es _)).any (·.1))=false
    rw [hpl];rfl) hni (Kz I hg hm ⟨rfl,?_⟩ hdb)
  have ha':=ha cpos pins s σ H _ I h
  show wpAny _ _ (evalArgs (.ref C) true (backTo cpos (starEach (e::es) (envOfC qual scope s0.heap.objs.size f cd))) []) _ _ s
  have ha2:wpAny (model P w) (A.deeper (envOfC qual scope s0.heap.objs.size f cd)) (spliced (backTo cpos (starEach (e::es) (envOfC qual scope s0.heap.objs.size f cd)))) _ _ s:=ha'
  rw [he]at ha2 ⊢
  refine Calls.evalArgs_plain (thn ha2 fun us s2 ⟨vs,H2,I2,r,z,q2⟩=>⟨rfl,by rw [<-r.length];exact z,I2.bk _ _ hC,hN.keeps I2.bk,TL.keeps I2.bk,fun h' x' hm'=> ?_⟩)
  show wpAny _ _ (leaving _ (.ref x')) _ _ _
  refine wpAny_leaves_madeW (base:=PySem.W.hideAll s2.heap (frs (envOfC qual scope s0.heap.objs.size f cd::outer))) (h:=s2.heap) I2.ok.frames rfl (fun b o q=>PySem.W.of_hideAll _ q) (PySem.W.funFrames_hide I2.stack fun env he b hb=>List.mem_filterMap.mpr ⟨env,he,hb⟩) hm' fun h'' t' fl _ _ up=> ?_
  exact⟨x',C,.ref t',_,H2,rfl,I2.os,I2.bare,fl,(I2.fx rfl).step fl.1 ((Heap.UpToSlots.of_keeps hm'.keeps).trans up),q2⟩
end
theorem Fj {C:Addr}{E:XK}{t:TA}{D:Ends}{σ:St}{H:Hp}:Vj C E t D σ H=t σ H (fun vs H1=>vs.length<=sizeLine/\E (.ref C) none H1):=rfl
theorem PS.nox {X:Cx}{st:Stmt}{t:TS} (h:PS X.nox st t):PS X st t:=fun pins s σ H D I hw=>
  wpAny_mono (h pins s σ H D (I.wish _) hw) (fun _ _ q=>q.unwish) fun _ _ z=>False.elim z
theorem Fun.okE {P:Program}{w:World}{K:PySem.W.Frag}{mg:Str->Option Value}{base:Heap}{x qual:Str}{st:Stmt}{f:Addr}{fd:FuncData}{N ps:List Str}{k:Nat}{sp:Sp} (F:Fun K x qual st f fd) (S:Aq N ps (Af st)) (len:∀vs H Q E,sp vs H Q E->vs.length=ps.length)
    (hbody:∀(cdv:Value) (A:Around) (outer:List Env) (s:Shared) (H:Hp) (vs:List V) (Q:VK) (E:XK),G3 k (A.deeper (envOfC qual (Af st) s.heap.objs.size f cdv))->sp vs H Q E->
      ∃t,PSs (Lb (CXE P w) P w K mg base N qual (Af st) f cdv A outer s H E) (En st) t/\t { nx:=fun _ H'=>Q .non H',rt:=Q} (start N vs) H):Pa P w K mg base (CXE P w) (k+1) f fd ps sp:=by
  obtain⟨oc,od,kV,doc,pm,an,cdv,ct,osl,rfl,lk,hcd⟩:=F.ex
  exact Abm lk hcd S len fun A outer s H vs Q E hr hsp=>hbody cdv A outer s H vs Q E hr hsp
def Q8 (P:Program) (w:World) (K:PySem.W.Frag) (mg:Str->Option Value) (base:Heap) (k:Nat) (x:Str) (ps:List Str) (sp:Sp):Prop:=
  ∃f fd,Pa P w K mg base (CXE P w) k f fd ps sp/\mg x=some (.ref f)/\PySem.W.keepIn K (.ref f)=true/\Binds K fd ps []
theorem Df.calE {P:Program}{w:World}{K:PySem.W.Frag}{mg:Str->Option Value}{base:Heap}{k:Nat}{x:Str}{st:Stmt}{ps:List Str}{f:Addr}{fd:FuncData}{sp:Sp}
    (F:Df K mg x st ps f fd) (G:Pa P w K mg base (CXE P w) k f fd ps sp):Q8 P w K mg base k x ps sp:=⟨f,fd,G,F.at',F.fn.kp,F.bd⟩
theorem Q8.calm {P:Program}{w:World}{K:PySem.W.Frag}{mg:Str->Option Value}{base:Heap}{k:Nat}{x:Str}{ps:List Str}{sp sp':Sp}
    (C:Q8 P w K mg base k x ps sp) (h:∀vs H Q E,sp' vs H Q E->sp vs H Q E0):Cal P w K mg base k x ps sp':=by
  obtain⟨f,fd,G,a,b,c⟩:=C
  refine⟨f,fd,⟨fun vs H Q E z=>G.len vs H Q E0 (h _ _ _ _ z),fun A outer s H args us vs Q E hr he hb hv hs=> ?_⟩,a,b,c⟩
  refine codeAny_mono (G.run A outer s H args us vs Q E0 hr he hb hv (h _ _ _ _ hs)) fun r s' q=> ?_
  cases r with
  | ok fl=>cases fl<;>exact q
  | error e=>
    obtain⟨_,_,_,_,_,_,_,_,_,_,z⟩:=q
    exact z.elim
section
variable {P:Program}{w:World}{K:PySem.W.Frag}{mg:Str->Option Value}{base:Heap}{N:List Str}{qual:Str}{scope:Scope}{f:Addr}{cd:Value}{A:Around}{outer:List Env}{s0:Shared}{H0:Hp}{E:XK}
theorem Dw {k:Nat}{x:Str}{ps:List Str}{sp:Sp}{p pos:Pos}{e:Expr}{es:List Expr}{t:TA}
    (C:Q8 P w K mg base k x ps sp) (hr:G3 k (A.deeper (envOfC qual scope s0.heap.objs.size f cd))) (ha:PA (Lb (CXE P w) P w K mg base N qual scope f cd A outer s0 H0 E) (e::es) t) (hg:Gl (Lb (CXE P w) P w K mg base N qual scope f cd A outer s0 H0 E) x:=by rfl) (hdb:(x==("__debug__":Str))=false:=by decide)
    (he:starEach (e::es) (envOfC qual scope s0.heap.objs.size f cd)=(false,eval e (envOfC qual scope s0.heap.objs.size f cd))::starEach es (envOfC qual scope s0.heap.objs.size f cd):=by rfl)
    (hpl:(backTo pos (starEach es (envOfC qual scope s0.heap.objs.size f cd))).any (·.1)=false:=by rfl):
    PE (Lb (CXE P w) P w K mg base N qual scope f cd A outer s0 H0 E) (.Call (.Name x p) (e::es) [] pos) (Kq sp [] E t):=by
  obtain⟨f',fd,G,a,b,c⟩:=C
  exact Vb (X:=Lb (CXE P w) P w K mg base N qual scope f cd A outer s0 H0 E) G hr hg a b c .nil Ab8 ha hdb he hpl
end
end L2
namespace L2
open PySem PySem.Spec PyProof.Rows
set_option maxRecDepth 100000
abbrev Cx.caught (X:Cx) (x:Addr) (oe:Obj):Cx:={ X with A:=X.A.mark (some (.ref x)),calm:=false,pn:=(x,oe)::X.pn,xe:=fun _ _=>False}
section
variable {X:Cx}{pins:List (Addr × Obj)}{σ:St}{H:Hp}{s:Shared}{x:Addr}{oe:Obj}
theorem Cx.Ok.caught (ok:X.Ok) (x:Addr) (oe:Obj):(X.caught x oe).Ok:=
  ⟨ok.mod,ok.kind,ok.glob,ok.blt,ok.above,ok.inj,ok.has,ok.cab,(fun z=>nomatch z),ok.frames,ok.stk,ok.exf,ok.bs,ok.bsz,ok.noex,ok.exfs,ok.funs,ok.frf⟩
theorem Inv.caught (I:Inv X pins σ H s) (e:s.heap.get? x=some oe) (n:H x=none) (l:x≠X.env.locals) (f:x∉X.fs) (d:∀v,oe.data≠ .cell v):Inv (X.caught x oe) pins σ H s:=
  ⟨I.ok.caught x oe,I.os,I.bare,I.base,I.loc,I.cell,I.free,I.freeC,fun p hp=>(List.mem_cons.mp hp).elim (fun z=>by rw [z];exact⟨e,n,l,f,d⟩) (I.pin p),I.hok,I.len⟩
theorem Inv.uncaught (ok:X.Ok) (I:Inv (X.caught x oe) pins σ H s):Inv X pins σ H s:=
  ⟨ok,I.os,I.bare,I.base,I.loc,I.cell,I.free,I.freeC,fun p hp=>I.pin p (List.mem_cons_of_mem _ hp),I.hok,I.len⟩
theorem Inv.gone {i:Nat}{n:Str}{m:Str->Option Value}{v:Option Value}{h':Heap}{t':Nat} (I:Inv X pins σ H s) (hN:X.N.Nodup) (hi:X.N[i]? =some n)
    (hl:∀(i:Nat) (x:Str) (v:V),X.N[i]? =some x->σ[i]? =some (some v)->Vis X.env.scope x->∃u,RelV v u/\Look X.env s.heap m x u) (hn:s.heap.Ns X.env.locals m)
    (hn':h'.Ns X.env.locals (fun x=>if x=n then v else m x)) (hs:Heap.SameBut X.env.locals s.heap h'):Inv X pins (σ.set i none) H { s with heap:=h',toks:=t'}:=by
  obtain⟨oL,_,_,hoL,_⟩:=id hn
  have cne:=I.cne
  have up:∀ {b:Addr}{o:Obj},X.s₀.heap.get? b=some o->b≠X.env.locals:=fun e=>Nat.ne_of_lt (Nat.lt_of_lt_of_le (Heap.lt_size e) I.ok.above)
  refine⟨I.ok,I.os,I.bare,⟨fun b o e n hb hx=>(hs.2 b (up e)).trans (I.base.keep b o e n hb hx),fun b o e n hb hx=> ?_,I.base.free,fun b o e hx=> ?_,I.base.tups,I.base.frzs,I.base.tbls⟩,⟨_,hn',fun j y v' e1 e2 e3=> ?_⟩,fun y c e=> ?_,I.free,I.freeC,fun p hp=> ?_,fun b ob e=> ?_,by simpa using I.len⟩
  . obtain⟨sl,e1⟩:=I.base.slot b o e n hb hx
    exact⟨sl,(hs.2 b (up e)).trans e1⟩
  . obtain⟨o',e1⟩:=I.base.there b o e hx
    exact⟨o',(hs.2 b (up e)).trans e1⟩
  . have hj:j≠i:=fun z=>by
      subst z
      rw [List.getElem?_set]at e2
      simp at e2
    rw [List.getElem?_set_ne (Ne.symm hj)]at e2
    obtain⟨u',r',q⟩:=hl j y v' e1 e2 e3
    refine⟨u',r',?_⟩
    rcases q with⟨k,e⟩ | ⟨k,c,e,z⟩
    . refine .inl ⟨k,?_⟩
      have:y≠n:=fun e=>hj (Np hN e1 (e▸hi))
      simp [this,e]
    . exact .inr ⟨k,c,e,z.sameBut hs (cne y c e)⟩
  . obtain⟨w',z⟩:=I.cell y c e
    exact⟨w',z.sameBut hs (cne y c e)⟩
  . obtain⟨e,n,ne,nf,d⟩:=I.pin p hp
    exact⟨(hs.2 p.1 ne).trans e,n,ne,nf,d⟩
  . refine(I.hok b ob e).stay (fun c w' hc q=>(hs.2 c ?_).trans q) (fun _ q=>q) fun _ _ q=>q
    rintro rfl
    rcases hc with rfl | hc
    . rw [I.free]at e;cases e
    . rw [I.free]at hc;cases hc
end
def S7 (X:Cx) (st:Stmt) (e:Expr) (g:V->St->St):Prop:=∀(pins:List (Addr × Obj)) (s:Shared) (σ:St) (H:Hp) (E:Value->Shared->Prop) (Q:VK) (R:Flow->Shared->Prop),Inv X pins σ H s->
  wpAny (model X.prog X.w) X.A (eval e X.env) (EP X pins σ Q) E s->(∀v H1 s1,Q v H1->Inv X pins (g v σ) H1 s1->R .next s1)->wpAny (model X.prog X.w) X.A (exec st X.env) R E s
theorem Ga {X:Cx}{e:Expr}{pos:Pos} (hs:swapsWith e none pos.line X.env=pure false:=by rfl):S7 X (.Expr e pos) e (fun _ σ=>σ):=by
  intro pins s σ H E Q R I h k
  exact wpAny_Expr_any (thn h fun v s1 ⟨y,H1,I1,_,q1⟩=>k y H1 s1 q1 I1) I.quiet hs
def Abh (sp:Sp) (C:Addr) (g:V->St->St) (i:Nat) (ta:TA) (ts:Addr->Obj->TS):TS:=fun D σ H=>ta σ H fun vs H1=>sp vs H1 (fun v H2=>D.nx (g v σ) H2)
  (fun c _ H2=>c= .ref C/\∀x oe,oe.cls= .ref C->ts x oe { nx:=fun σ' H'=>D.nx (σ'.set i none) H',rt:=D.rt,bk:=fun σ' H'=>D.bk (σ'.set i none) H',ct:=fun σ' H'=>D.ct (σ'.set i none) H'} (σ.set i (some (.ref x))) H2)
def Ads (sp:Sp) (C:Addr) (g:V->St->St) (ta:TA) (ts:Addr->Obj->TS):TS:=fun D σ H=>ta σ H fun vs H1=>sp vs H1 (fun v H2=>D.nx (g v σ) H2)
  (fun c _ H2=>c= .ref C/\∀x oe,oe.cls= .ref C->ts x oe D σ H2)
theorem Fy {sp:Sp}{C:Addr}{g:V->St->St}{i:Nat}{ta:TA}{ts:Addr->Obj->TS}{D:Ends}{σ:St}{H:Hp}:Abh sp C g i ta ts D σ H=ta σ H (fun vs H1=>sp vs H1 (fun v H2=>D.nx (g v σ) H2)
  (fun c _ H2=>c= .ref C/\∀x oe,oe.cls= .ref C->ts x oe { nx:=fun σ' H'=>D.nx (σ'.set i none) H',rt:=D.rt,bk:=fun σ' H'=>D.bk (σ'.set i none) H',ct:=fun σ' H'=>D.ct (σ'.set i none) H'} (σ.set i (some (.ref x))) H2)):=rfl
theorem Qn {sp:Sp}{C:Addr}{g:V->St->St}{ta:TA}{ts:Addr->Obj->TS}{D:Ends}{σ:St}{H:Hp}:Ads sp C g ta ts D σ H=ta σ H (fun vs H1=>sp vs H1 (fun v H2=>D.nx (g v σ) H2)
  (fun c _ H2=>c= .ref C/\∀x oe,oe.cls= .ref C->ts x oe D σ H2)):=rfl
section
variable {X:Cx}{pins:List (Addr × Obj)}{σ:St}{H:Hp}{s s':Shared}{C:Addr}{e:Value}{cx n:Str}{np pos hpos:Pos}{b0:Stmt}{suite:List Stmt}{D:Ends}{i:Nat}{ts:Addr->Obj->TS}
theorem SP.uncaught {x:Addr}{oe:Obj} (ok:X.Ok) {f:Flow} (h:SP (X.caught x oe) pins D f s):SP X pins D f s:=by
  cases f with
  | next=>obtain⟨σ',H',I,q⟩:=h;exact⟨σ',H',I.uncaught ok,q⟩
  | brk=>obtain⟨σ',H',I,q⟩:=h;exact⟨σ',H',I.uncaught ok,q⟩
  | cont=>obtain⟨σ',H',I,q⟩:=h;exact⟨σ',H',I.uncaught ok,q⟩
  | ret u=>obtain⟨v,σ',H',I,r,q⟩:=h;exact⟨v,σ',H',I.uncaught ok,r,q⟩
theorem tried {k:Nat}{f:Str}{ps:List Str}{sp:Sp}{a:Expr}{as:List Expr}{ta:TA}{E:XK}{Q:VK}{XE:Value->Shared->Prop}{p cpos:Pos} (Ca:Q8 X.prog X.w X.K X.mg X.base k f ps sp) (hr:G3 k X.A) (ha:PA X.nox (a::as) ta) (I:Inv X pins σ H s)
    (h:ta σ H fun vs H1=>sp vs H1 Q E) (hx:∀s1 H1 e s',Inv X pins σ H1 s1->CXE X.prog X.w X.stack H1 s1 E e s'->XE e s') (hg:Gl X f) (hdb:(f==("__debug__":Str))=false) (he:starEach (a::as) X.env=(false,eval a X.env)::starEach as X.env) (hpl:(backTo cpos (starEach as X.env)).any (·.1)=false):
    wpAny (model X.prog X.w) X.A (eval (.Call (.Name f p) (a::as) [] cpos) X.env) (EP X pins σ Q) XE s:=by
  obtain⟨f',fd,G,hm,hk,hb⟩:=Ca
  refine wpAny_Call_Name_kw (Kz I hg hm ?_ hdb)
  refine PySem.W.callWith_K (h₀:=X.base) I.ok.mod.kin hk (wpAny_mono (ha cpos pins s σ H _ (I.wish _) h) (fun us s1 ⟨vs,H1,I1,r,q⟩=>⟨I1.unwish.kIn,?_⟩) fun _ _ z=>False.elim z) he hpl
  have I1:Inv X pins σ H1 s1:=I1.unwish
  have hl:us.length=ps.length:=by rw [<-r.length];exact G.len _ _ _ _ q
  have hb':=hb s1 us I1.kIn (by rw [List.append_nil];exact hl)
  rw [List.append_nil]at hb'
  refine wpAny_call (codeAny_mono (G.run X.A X.stack s1 H1 ⟨us,[]⟩ us vs Q E hr I1.env0 hb' r q) fun r s' hq=> ?_)
  cases r with
  | error e=>exact hx s1 H1 e s' I1 hq
  | ok fl=>
    cases fl with
    | ret u=>exact I1.after hq
    | next=>exact False.elim hq
    | brk=>exact False.elim hq
    | cont=>exact False.elim hq
end
end L2
namespace L2
open PySem PySem.Spec PyProof.Rows
set_option maxRecDepth 100000
structure Tw (K:PySem.W.Frag) (C:Addr):Prop where
  ga:PySem.W.findIn K (.ref C) "__getattribute__"=some (some (.builtin "BaseException.__getattribute__"))
  gn:PySem.W.findIn K (.ref C) "__getattr__"=some none
  cl:PySem.W.findIn K (.ref C) "__class__"=some (some (.builtin "object.__class__"))
  ob:PySem.W.mroIn K C (.type "object")=some true
  be:PySem.W.mroIn K C (.type "BaseException")=some true
theorem Tw.is {K:PySem.W.Frag}{C:Addr} (Z:Tw K C):(PySem.W.clsIn K C).isSome=true:=by
  obtain⟨cd,a,_⟩:=Option.bind_eq_some_iff.mp Z.ob
  rw [a];rfl
section
variable {prog:Program}{w:World}{A:Around}{E:Value->Shared->Prop}{K:PySem.W.Frag}{x C:Addr}{oe:Obj}{h:Heap}{g:Array GenState}{d:Drawn}{t:Nat}{os:OsState}
theorem Ys {M:Model} (hx:h.get? x=some oe) (hc:oe.cls= .ref C):PySem.W.Looks M h (typeOf (.ref x)) (.ref C):=hc▸(PySem.W.Looks.ld hx).andThen .now
theorem Xw {R:Result->Shared->Prop} (X:K.In h) (Z:Tw K C) (hx:h.get? x=some oe) (hc:oe.cls= .ref C) (q:R (.ok (.ret (.ref C))) ⟨h,g,d,t,os⟩):
    codeAny (model prog w) A (.call (.builtin "getset_descriptor.__get__") ⟨[.builtin "object.__class__",.ref x,.ref C],[]⟩) R ⟨h,g,d,t,os⟩:=by
  have l0:=Ys (M:=model prog w) hx hc
  have l1:=PySem.W.looks_mroIn (M:=model prog w) X Z.ob
  have tg:(⟨h,g,d,t,os⟩:Shared).TypeIs (.builtin "object.__class__") "getset_descriptor":=PySem.W.KF.type_class
  have ow:(".".intercalate ("object.__class__".cutAt '.').dropLast)="object":=by decide+kernel
  refine codeAny_call_builtin PySem.F.slot_gs_get.plain PySem.F.entry_gs_get (PySem.F.slot_gs_get.check _ _ _ _ _ _ _ _ tg (PySem.F.args_gs_get _ _ _) ?_)
  repeat (any_goals (first | assumption | (with_reducible refine wpAny_loadPart_at hx ?_;rw [hc]) | (rw [ow];with_reducible refine l1.at ?_) | wp_step))
  refine⟨Code.quiet_builtin _ (by decide+kernel),codeAny_builtin PySem.W.KF.entry_class ?_⟩
  unfold Builtin.«object.__class__» shownTypeOf
  repeat (any_goals (first | assumption | (with_reducible refine wpAny_loadPart_at hx ?_;rw [hc]) | wp_step))
theorem Xy {tk:Tok}{Q:Fin->Shared->Prop} (X:K.In h) (Z:Tw K C) (hx:h.get? x=some oe) (hc:oe.cls= .ref C) (q:Q (.done (.ret (.ref C))) ⟨h,g,d,t,os⟩):
    wpAny (model prog w) A (Builtin.«object.__getattribute__» ⟨[.ref x,.str "__class__" tk],[]⟩) Q E ⟨h,g,d,t,os⟩:=by
  have tg:(⟨h,g,d,t,os⟩:Shared).TypeIs (.builtin "object.__class__") "getset_descriptor":=PySem.W.KF.type_class
  have l2:=PySem.W.looks_findIn (M:=model prog w) X Z.cl
  have f5:=PySem.W.KF.type_class
  have f6:=PySem.F.slot_gs_get.lookup
  have f7:=PySem.F.slot_gs_set.lookup
  repeat (any_goals (first | assumption | (with_reducible refine wpAny_loadPart_at hx ?_;rw [hc]) | with_reducible refine l2.at ?_ | wp_step))
  refine Xw X Z hx hc ?_
  repeat (any_goals (first | assumption | wp_step))
theorem Xr {M:Model}{nv:Value}{Q:Unit->Shared->Prop} (X:K.In h) (Z:Tw K C) (hx:h.get? x=some oe) (hc:oe.cls= .ref C) (q:Q () ⟨h,g,d,t,os⟩):wpAny M A (checkBuiltinCall "BaseException.__getattribute__" ⟨[.ref x,nv],[]⟩) Q E ⟨h,g,d,t,os⟩:=by
  have k1:builtinKind "BaseException.__getattribute__"=some .slot:=by decide+kernel
  have k2:splitId "BaseException.__getattribute__"=some ("BaseException","__getattribute__"):=by decide+kernel
  have l1:=PySem.W.looks_mroIn (M:=M) X Z.be
  have ar:=PySem.F.args_bexc_ga (.ref x) nv
  simp only [checkBuiltinCall,k1,k2]
  refine wpAny_bind ?_
  unfold isInstance
  repeat (any_goals (first | assumption | (with_reducible refine wpAny_loadPart_at hx ?_;rw [hc]) | with_reducible refine l1.at ?_ | wp_step))
theorem Zn {tk:Tok}{Q:Value->Shared->Prop} (X:K.In h) (Z:Tw K C) (hx:h.get? x=some oe) (hc:oe.cls= .ref C) (q:Q (.ref C) ⟨h,g,d,t,os⟩):
    wpAny (model prog w) A (getAttrBy (.ref x) (.str "__class__" tk) false) Q E ⟨h,g,d,t,os⟩:=by
  have f3:=PySem.F.attr_ValueError.ga.bind (.ref x)
  have y0:(false&&onTheHeap (Value.builtin "BaseException.__getattribute__"))=false:=rfl
  have y1:(onTheHeap (Value.ref C)&&Value.builtin "BaseException.__getattribute__"==Value.builtin "object.__getattribute__")=false:=by
    rw [show(Value.builtin "BaseException.__getattribute__"==Value.builtin "object.__getattribute__")=false by decide+kernel];rfl
  have l2:=PySem.W.looks_findIn (M:=model prog w) X Z.ga
  have l3:=PySem.W.looks_findIn (M:=model prog w) X Z.gn
  repeat (any_goals (first | assumption | (with_reducible refine wpAny_loadPart_at hx ?_;rw [hc]) | with_reducible refine l2.at ?_ | with_reducible refine l3.at ?_ | wp_step))
  refine codeAny_call_builtin PySem.F.attr_ValueError.ga.plain PySem.F.entry_bexc_ga (Xr X Z hx hc (Xy X Z hx hc ?_))
  repeat (any_goals (first | assumption | wp_step))
theorem Vu {Q:Option Value->Shared->Prop} (X:K.In h) (Z:Tw K C) (hx:h.get? x=some oe) (hc:oe.cls= .ref C) (q:Q (some (.ref C)) ⟨h,g,d,t+1,os⟩):
    wpAny (model prog w) A (getAttr? (.ref x) "__class__") Q E ⟨h,g,d,t,os⟩:=by
  unfold getAttr? getAttrBy?
  repeat (any_goals (first | assumption | with_reducible apply Zn X Z hx hc | wp_step))
theorem Td (Z:Tw K C) (hc:oe.cls= .ref C):PySem.W.KitX K (.ref x) (.ref C) (fun h=>h.get? x=some oe) where
  ty:=fun _ _ _ hx=>Ys hx hc
  it:=fun M h X _=>by
    obtain⟨cd,e⟩:=Option.isSome_iff_exists.mp Z.is
    unfold PySem.W.clsIn at e
    split at e
    . rename_i c1 d1 cd1 sl1 ho
      intro A' Q' E' s' k q
      unfold isType loadHead
      exact wpAny_bind (wpAny_loadPart (k _ _ (X _ _ ho)) (wpAny_pure q))
    . cases e
  ne:=fun h tp dd its n sl X htp=>by
    obtain⟨cd,e⟩:=Option.isSome_iff_exists.mp Z.is
    refine Bool.eq_false_iff.mpr fun q=> ?_
    cases Value.ref.inj (beq_iff_eq.mp q)
    unfold PySem.W.clsIn at e
    split at e
    . rename_i c1 d1 cd1 sl1 ho
      cases(X _ _ ho).symm.trans htp
    . cases e
  ca:=fun {_ _ _ _ _ s} X hx q=>by
    obtain⟨h,g,d,t,os⟩:=s
    exact Vu X Z hx hc q
end
theorem Lx {X:Cx}{x C:Addr}{oe:Obj} (hp:(x,oe)∈X.pn) (hc:oe.cls= .ref C) (Z:Tw X.K C):G9 X (.builtin "isinstance") (fun xs H Q=>∃b,((∃C2,xs=[.ref x,.ref C2]/\PySem.W.kitOne X.K (.ref C) (.ref C2)=some b)\/∃T,xs=[.ref x,.ty T]/\PySem.W.kitOne X.K (.ref C) (.type T)=some b)/\Q (.bl b) H):=by
  intro pins s σ H xs us Q I r h
  obtain⟨b,h,q⟩:=h
  have hx:=(I.pin (x,oe) (List.mem_append_left _ hp)).1
  rcases h with⟨C2,rfl,e⟩ | ⟨T,rfl,e⟩
  . obtain⟨u,c,rfl,ru,rc⟩:=vals2 r
    cases ru;cases rc
    exact PySem.W.kia_one (Td Z hc) I.kIn hx e (fun z=>nomatch z) fun tk=>⟨.bl b,H,I.tok tk,rfl,q⟩
  . obtain⟨u,c,rfl,ru,rc⟩:=vals2 r
    cases ru;cases rc
    exact PySem.W.kia_one (Td Z hc) I.kIn hx e (fun z=>nomatch z) fun tk=>⟨.bl b,H,I.tok tk,rfl,q⟩
theorem nw {H H':Hp}{p:Addr}{o:HO} (hp:H p=none) (e:upd H p o=H'):Same H H'/\H' p=some o:=by
  subst e
  exact⟨Same.upd hp _,Ac⟩
end L2
namespace L2
open PySem PySem.Spec PyProof.Rows
def Dl:Expr->Bool
  | .Starred _ _=>false
  | _=>true
theorem Hr {e:Expr}{es:List Expr}{env:Env} (h:Dl e=true):starEach (e::es) env=(false,eval e env)::starEach es env:=by
  cases e<;>first | rfl | cases h
theorem Kw {env:Env}{pos:Pos}:∀ {es:List Expr},es.all Dl=true->(backTo pos (starEach es env)).any (·.1)=false
  | [],_=>rfl
  | e::es,h=>by
    rw [List.all_cons,Bool.and_eq_true]at h
    rw [Hr h.1]
    have ih:=Kw (env:=env) (pos:=pos) h.2
    unfold backTo at ih ⊢
    rw [List.map_cons,List.any_cons,ih]
    rfl
section
variable {X:Cx}{e:Expr}{es:List Expr}{te:TE}{t:TA}{x:Str}{p pos:Pos}{id T:String}{r:List V->Hp->VK->Prop}{k:Nat}{ps:List Str}{sp:Sp}
theorem Aa (ha:PE X e te) (hr:PA X es t) (h:Dl e=true:=by rfl):PA X (e::es) (Ko te t):=Zy ha hr (Hr h)
theorem Br (hc:G9 X (.builtin id) r) (hg:Gl X x) (hm:X.mg x=none) (hv:bootBuiltins x=some (.builtin id)) (ha:PA X (e::es) t) (h1:Dl e=true:=by rfl) (h2:es.all Dl=true:=by rfl) (hn:x≠"__name__":=by decide) (hdb:(x==("__debug__":Str))=false:=by decide):
    PE X (.Call (.Name x p) (e::es) [] pos) (tCB r t):=X7 hc hg hm hv ha hn hdb (Hr h1) (Kw h2)
theorem Fe (hc:G9 X (.type T) r) (hg:Gl X x) (hm:X.mg x=none) (hv:bootBuiltins x=some (.type T)) (ha:PA X (e::es) t) (h1:Dl e=true:=by rfl) (h2:es.all Dl=true:=by rfl) (hn:x≠"__name__":=by decide) (hdb:(x==("__debug__":Str))=false:=by decide):
    PE X (.Call (.Name x p) (e::es) [] pos) (tCB r t):=Vx hc hg hm hv ha hn hdb (Hr h1) (Kw h2)
theorem Ax (C:Cal X.prog X.w X.K X.mg X.base k x ps sp) (hr:G3 k X.A) (ha:PA X (e::es) t) (h1:Dl e=true:=by rfl) (h2:es.all Dl=true:=by rfl) (hg:Gl X x:=by rfl) (hdb:(x==("__debug__":Str))=false:=by decide):
    PE X (.Call (.Name x p) (e::es) [] pos) (Kq sp [] E0 t):=Xj C hr ha hg hdb (Hr h1) (Kw h2)
end
end L2
namespace L2
open PySem PySem.Spec PyProof.Rows
def Itd (lo:Int) (n:Nat):It:=⟨fun i _=>i<n,fun i H x H'=>H'=H/\x= .int (lo-i),fun i _=>n<=i⟩
section
variable {X:Cx}{tg:Expr}
def Acy (ta:TA):TI:=fun σ H R=>ta σ H fun vs H1=>∃i j:Int,vs=[.int i,.int j,.int (-1)]/\(-(2^62)<=i/\i<2^62/\ -(2^62)<=j/\j<2^62)/\R (Itd i (i-j).toNat) H1
theorem Jy {ta:TA}{σ:St}{H:Hp}{R:It->Hp->Prop}:Acy ta σ H R=ta σ H (fun vs H1=>∃i j:Int,vs=[.int i,.int j,.int (-1)]/\(-(2^62)<=i/\i<2^62/\ -(2^62)<=j/\j<2^62)/\R (Itd i (i-j).toNat) H1):=rfl
theorem Qc {i j:Int}{G:Int->Int->Prop}:(∃i' j':Int,[V.int i,.int j,.int (-1)]=[.int i',.int j',.int (-1)]/\G i' j')=G i j:=propext ⟨fun⟨_,_,e,h⟩=>by cases e;exact h,fun h=>⟨i,j,rfl,h⟩⟩
end
end L2
namespace L2
open PySem PySem.Spec PyProof.Rows
section
variable {X:Cx}{e st:Expr}{te tst:TE}{pos p2:Pos}
def Aco (K:PySem.W.Frag) (te tst:TE):TE:=fun σ H Q=>te σ H fun x H1=>tst σ H1 fun y H2=>∃a xs,x= .ref a/\y= .int (-1)/\SqL K H2 a xs/\∀p,H2 p=none->Q (.ref p) (upd H2 p (.lst xs.reverse))
theorem Ji {K:PySem.W.Frag}{σ:St}{H:Hp}{Q:VK}:Aco K te tst σ H Q=te σ H (fun x H1=>tst σ H1 fun y H2=>∃a xs,x= .ref a/\y= .int (-1)/\SqL K H2 a xs/\∀p,H2 p=none->Q (.ref p) (upd H2 p (.lst xs.reverse))):=rfl
end
end L2
namespace L2
open PySem PySem.Spec PyProof.Rows
theorem Acm {σ:St}{H:Hp}{g:TG}{tb:TS}{D:Ends}{J:It} (n:Nat) (inj:Nat->V) (Pv:Nat->St->Hp->Prop) (h0:Pv 0 σ H) (hw:∀i σ H,Pv i σ H->Aaj J H (List.range n) inj)
    (hs:∀i σ H,i<n->Pv i σ H->g (inj i) σ H fun σ2 H2=>tb { D with nx:=Pv (i+1),ct:=Pv (i+1),bk:=D.nx} σ2 H2) (hd:∀σ H,Pv n σ H->D.nx σ H):FI J g tb D σ H:=by
  refine Ul (es:=List.range n) (inj:=inj) (fun pre=>Pv pre.length) h0 (fun pre σ H p=>hw pre.length σ H p) (fun pre e post σ H he p=> ?_) (fun σ H p=>hd σ H (by rw [List.length_range]at p;exact p))
  have hl:=congrArg List.length he
  rw [List.length_range,List.length_append,List.length_cons]at hl
  have ee:e=pre.length:=by
    have:=congrArg (fun l=>l[pre.length]?) he
    simp only [List.getElem?_append_right (Nat.le_refl _),Nat.sub_self,List.getElem?_cons_zero]at this
    rw [List.getElem?_range (by omega)]at this
    exact(Option.some.inj this).symm
  subst ee
  have:=hs pre.length σ H (by omega) p
  rw [List.length_append,List.length_singleton]
  exact this
theorem Same.put {H H':Hp}{p:Addr}{o:HO} (s:Same H H') (hp:H p=none):Same H (L2.upd H' p o):=fun b u e=>by
  rw [Al (Ai e hp)]
  exact s b u e
end L2
namespace L2
open PySem PySem.Spec PyProof.Rows
def Ad3 (K:PySem.W.Frag) (tl:TE):TI:=fun σ H R=>tl σ H fun x H1=>∃a,x= .ref a/\(((∃xs,SqL K H1 a xs)/\R (Itl K a) H1)\/((∃xs,SqT K H1 a xs)/\R (Itt K a) H1))
theorem J8 {K:PySem.W.Frag}{tl:TE}{σ:St}{H:Hp}{R:It->Hp->Prop}:Ad3 K tl σ H R=tl σ H (fun x H1=>∃a,x= .ref a/\(((∃xs,SqL K H1 a xs)/\R (Itl K a) H1)\/((∃xs,SqT K H1 a xs)/\R (Itt K a) H1))):=rfl
end L2
namespace L2
theorem Gu {t u:TS}{D:Ends}{σ:St}{H:Hp} (P:St->Hp->Prop) (h1:∀N:St->Hp->Prop,(∀σ' H',P σ' H'->N σ' H')->t { D with nx:=N} σ H) (h2:∀σ' H',P σ' H'->u D σ' H'):Ab3 t u D σ H:=h1 (u D) h2
end L2
namespace L2
open PySem PySem.Spec PyProof.Rows
theorem G8 {K:PySem.W.Frag}{H:Hp}{p a:Addr}{acc xs:List V}{o:HO} (h:SqT K H a xs) (hp:H p=some (.lst acc)):SqT K (upd H p o) a xs:=by
  rcases h with(h | ⟨o',h⟩) | h
  . exact .inl (.inl (by rw [Al (Rx h hp (by intro z;cases z))];exact h))
  . exact .inl (.inr ⟨o',by rw [Al (Rx h hp (by intro z;cases z))];exact h⟩)
  . exact .inr h
section
variable {K:PySem.W.Frag}{H1:Hp}{p:Addr}{cσ:St}{g:TG}{te:TE}{Q:VK}{α:Type}{es:List α}{inj:α->V}
theorem G6 {J:It} (Pn:α->V->Hp->Prop) (hz:es.length<=sizeLine) (hp:H1 p=none) (hJ:Wk J H1 es inj)
    (hm:∀e v H H',Pn e v H->Same H H'->Pn e v H') (hu:∀e v H acc o,Pn e v H->H p=some (.lst acc)->Pn e v (upd H p o))
    (step:∀e H' R,e∈es->Same H1 H'->(∀v H6,Same H' H6->Pn e v H6->R v H6)->g (inj e) cσ H' fun σ4 H4=>Kp cσ σ4/\te σ4 H4 R)
    (done:∀(ns:List V) H',ns.length=es.length->(∀(i:Nat) e n,es[i]? =some e->ns[i]? =some n->Pn e n H')->Same H1 H'->H' p=some (.lst ns)->Q (.ref p) H'):cIn J cσ g Fg te Q H1 p:=by
  have su:∀ {H':Hp}{o:HO},Same H1 H'->Same H1 (upd H' p o):=fun {H' o} s b u e=>by
    rw [Al (Ai e hp)]
    exact s b u e
  refine⟨fun i m acc H'=>m=es.length-i/\i<=es.length/\(acc.length=i/\∀(j:Nat) e n,es[j]? =some e->acc[j]? =some n->Pn e n H')/\H' p=some (.lst acc)/\Same H1 H',⟨es.length,by simp,Nat.zero_le _,⟨rfl,fun j e n _ h=>by simp at h⟩,Ac,su (Same.refl _)⟩,?_⟩
  rintro i m ns H' ⟨rfl,hi,⟨hl,hn⟩,hH,s⟩
  cases he:es[i]? with
  | none=>
    have e:i=es.length:=Nat.le_antisymm hi (List.getElem?_eq_none_iff.mp he)
    exact .inl ⟨(hJ _ _ s).1 he,done ns _ (hl.trans e) hn s hH⟩
  | some e=>
    obtain⟨go,yl⟩:=(hJ _ _ s).2 e he
    refine .inr ⟨go,fun x H3 y=> ?_⟩
    obtain⟨rfl,rfl⟩:=yl x H3 y
    obtain⟨hlt,_⟩:=List.getElem?_eq_some_iff.mp he
    have q:=step e H3 (fun y H6=>H6 p=some (.lst ns)/\ns.length<sizeLine/\∃m',m'<es.length-i/\m'=es.length-(i+1)/\i+1<=es.length/\((ns++ [y]).length=i+1/\∀(j:Nat) e n,es[j]? =some e->(ns++ [y])[j]? =some n->Pn e n (upd H6 p (.lst (ns++ [y]))))/\
        upd H6 p (.lst (ns++ [y])) p=some (.lst (ns++ [y]))/\Same H1 (upd H6 p (.lst (ns++ [y])))) (List.mem_of_getElem? he) s
      (fun n H6 s6 pn=>⟨s6 _ _ hH,by omega,_,by omega,rfl,hlt,⟨by rw [List.length_append,hl];rfl,fun j e' n' h1 h2=>by
        refine hu _ _ _ _ _ ?_ (s6 _ _ hH)
        by_cases hj:j<ns.length
        . rw [List.getElem?_append_left hj]at h2
          exact hm _ _ _ _ (hn j e' n' h1 h2) s6
        . rw [List.getElem?_append_right (by omega)]at h2
          have hj0:j-ns.length=0:=by
            have:=(List.getElem?_eq_some_iff.mp h2).1
            simp at this
            omega
          rw [hj0]at h2
          have hji:j=i:=by omega
          subst hji
          rw [he]at h1
          cases h1
          cases h2
          exact pn⟩,Ac,su (s.trans s6)⟩)
    exact q
end
end L2
namespace L2
open PySem PySem.Spec PyProof.Rows
def Itz (K:PySem.W.Frag) (a b:Addr):It:=
  ⟨fun i H=>∃xs ys x y,SqL K H a xs/\SqL K H b ys/\xs[i]? =some x/\ys[i]? =some y,
   fun i H x H'=>∃p u v,(∀xs,SqL K H a xs->xs[i]? =some u)/\(∀ys,SqL K H b ys->ys[i]? =some v)/\H p=none/\x= .ref p/\H'=upd H p (.tup [u,v]),
   fun i H=>∃xs ys,SqL K H a xs/\SqL K H b ys/\(xs.length<=i\/ys.length<=i)⟩
section
variable {X:Cx}{a b:Expr}{ta:TA}{el:List Expr}{x1}{tp p pos:Pos}
def Adw (K:PySem.W.Frag) (ta:TA):TI:=fun σ H R=>ta σ H fun vs H1=>∃a b,vs=[.ref a,.ref b]/\(∃xs,SqL K H1 a xs)/\(∃ys,SqL K H1 b ys)/\R (Itz K a b) H1
end
theorem Kh {K:PySem.W.Frag}{ta:TA}{σ:St}{H:Hp}{R:It->Hp->Prop}:Adw K ta σ H R=ta σ H (fun vs H1=>∃a b,vs=[.ref a,.ref b]/\(∃xs,SqL K H1 a xs)/\(∃ys,SqL K H1 b ys)/\R (Itz K a b) H1):=rfl
end L2
namespace L2
open PySem PySem.SeqAt PySem.Spec PyProof.Rows
section
variable {X:Cx}
theorem Zi:OpR X (compareOp .IsNot) (fun x y H Q=>∃a b:Bool,x= .bl a/\y= .bl b/\Q (.bl (a != b)) H):=by
  intro pins s σ H x y v u Q I rx ry h
  obtain⟨a,b,rfl,rfl,q⟩:=h
  cases rx
  cases ry
  exact isnot_bool ⟨.bl _,H,I,rfl,q⟩
open Classical in
def Acr:TE:=fun _ H Q=>∀p,H p=none->Q (.ref p) (upd H p (.dK []))
theorem Jb {σ:St}{H:Hp}{Q:VK}:Acr σ H Q=∀p,H p=none->Q (.ref p) (upd H p (.dK [])):=rfl
end
end L2
namespace L2
open PySem PySem.Spec PyProof.Rows
def tCV (i:Nat) (a:Addr) (sp:Sp) (E:XK) (t:TA):TE:=fun σ H Q=>σ[i]? =some (some (.ref a))/\t σ H fun vs H1=>sp vs H1 Q E
theorem Zc {i:Nat}{a:Addr}{sp:Sp}{E:XK}{t:TA}{σ:St}{H:Hp}{Q:VK}:tCV i a sp E t σ H Q=(σ[i]? =some (some (.ref a))/\t σ H fun vs H1=>sp vs H1 Q E):=rfl
theorem Ht {X:Cx}{x:Str}{v:V}{pos:Pos} (hg:Gl X x) (h:∃u,X.mg x=some u/\RelV v u) (hd:(x==("__debug__":Str))=false:=by decide):PE X (.Name x pos) (tC v):=by
  obtain⟨u,a,b⟩:=h
  exact Ed hg a b hd
end L2
namespace L2
open PySem PySem.Spec PyProof.Rows
def Ab2 (K:PySem.W.Frag) (a:Addr):It:=
  ⟨fun i H=>∃xs x,SqL K H a xs/\xs[i]? =some x,fun i H x H'=>∃p v,(∀xs,SqL K H a xs->xs[i]? =some v)/\H p=none/\x= .ref p/\H'=upd H p (.tup [.int (i:Nat),v]),fun i H=>∃xs,SqL K H a xs/\xs.length<=i⟩
theorem Lg {h:Heap}{a:Addr}{its:Array Value} (p:PlainL h a its):h.IsList a its:=by
  obtain⟨o,n,e,c,_,d⟩:=p
  exact⟨o,e,c,n,d⟩
theorem Xk {P:Program}{w:World}{K:PySem.W.Frag}{el:List Expr}{x1}{tp:Pos} (a e j:Addr) (ne:e≠j):Turn P w K (.Tuple el x1 tp) (Ab2 K a) [e,j] e (fun i h=>(∃old,IsEnum h e j i old)/\h.IsListIter j a i) where
  mem:=by simp
  obj:=fun i h st b hb=>by
    obtain⟨⟨old,he⟩,oj,ej,cj,dj⟩:=st
    rcases List.mem_cons.mp hb with rfl | hb
    . exact⟨_,he,fun v z=>by cases(show Data.fields _=Data.cell v from z)⟩
    . have z:b=j:=by simpa using hb
      subst z
      exact⟨oj,ej,fun v z=>by rw [dj]at z;cases z⟩
  keep:=fun i h h' st k=>by
    obtain⟨⟨old,he⟩,oj,ej,r⟩:=st
    exact⟨⟨old,k e (by simp) _ he⟩,oj,k j (by simp) _ ej,r⟩
  item:=by
    intro X hP hw hK hc i pins s σ H E I hf st hg
    subst hP hw hK
    obtain⟨xs,x,hq,hx⟩:=hg
    obtain⟨its,rv,p,hz⟩:=I.list hq
    obtain⟨u,hu,ru⟩:=rv.get hx
    obtain⟨⟨old,he⟩,hj⟩:=st
    refine wpAny_pyNext_enum_item he hj (Lg p) (x:=u) (by simpa using hu) ne fun g hout hj' hT hsz kk=>⟨_,rfl,?_⟩
    refine wpAny_letOwnedTupleGo_enum hout fun g2 he2 sb2=> ?_
    replace sb2:Heap.SameBut e g g2:=sb2
    have lte:e<s.heap.objs.size:=Heap.lt_size he
    have ltj:j<s.heap.objs.size:=by
      obtain⟨_,ej,_⟩:=hj
      exact Heap.lt_size ej
    have hn:H s.heap.objs.size=none:=I.fresh
    have I1:Inv X pins σ (upd H s.heap.objs.size (.tup [.int (i:Nat),x])) { s with heap:=s.heap.push { cls:= .type "tuple",data:= .seq #[.int i s.toks,u]},toks:=s.toks+1}:=
      I.laid (fun b o q=>Heap.get?_push_of_some _ q) (Nat.le_refl _) ⟨by show 2<=sizeLine;decide,[.int i s.toks,u],.cons ⟨_,rfl⟩ (.cons ru .nil),⟨_,Heap.get?_push_size _ rfl,rfl,_,rfl⟩⟩
    have fp':∀b∈ [e,j],Ma X pins (upd H s.heap.objs.size (.tup [.int (i:Nat),x])) b:=fun b hb=>by
      have nb:b≠s.heap.objs.size:=by
        rcases List.mem_cons.mp hb with rfl | hb'
        . exact Nat.ne_of_lt lte
        . have z:b=j:=by simpa using hb'
          subst z
          exact Nat.ne_of_lt ltj
      exact⟨by rw [Al nb];exact(hf b hb).1,(hf b hb).2⟩
    have I2:=I1.turnL (h':=g2) (t':=s.toks+1) (fp:=[e,j]) (fun b o hb q=>by
      have n1:b≠e:=fun z=>hb (by simp [z])
      have n2:b≠j:=fun z=>hb (by simp [z])
      refine(sb2.2 b n1).trans ?_
      rcases Heap.get?_push_cases q with⟨rfl,rfl⟩ | q0
      . exact hT
      . exact kk b o n1 n2 q0) fp'
    refine⟨.ref s.heap.objs.size,_,I2,rfl,⟨_,x,fun ys hy=>by rw [I.list_inj hy hq];exact hx,hn,rfl,rfl⟩,⟨⟨_,by simpa using he2⟩,?_⟩,fun b hb=>(fp' b hb).1⟩
    exact hj'.extBut sb2.extBut (Ne.symm ne)
  done:=by
    intro X hP hw hK hc i pins s σ H E I hf st hg
    subst hP hw hK
    obtain⟨xs,hq,hx⟩:=hg
    obtain⟨its,rv,p,hz⟩:=I.list hq
    obtain⟨⟨old,he⟩,hj⟩:=st
    have hl:=rv.length
    exact wpAny_pyNext_enum_end (I.ok.hd hc) he hj (Lg p) (by simp;omega) fun g eb=>⟨rfl,I.turnL (t':=s.toks) (fp:=[e,j]) (fun b o hb q=>eb b o (fun z=>hb (by simp [z])) q) hf⟩
  self:=fun _ _ _ _ _ st h=>by
    obtain⟨⟨old,he⟩,_⟩:=st
    exact wpAny_pyIter_enum he h
section
variable {X:Cx}{a:Expr}{ta:TA}{el:List Expr}{x1}{tp p pos:Pos}
def Acz (K:PySem.W.Frag) (ta:TA):TI:=fun σ H R=>ta σ H fun vs H1=>∃a,vs=[.ref a]/\(∃xs,SqL K H1 a xs)/\R (Ab2 K a) H1
theorem O4 (hg:Gl X "enumerate") (hm:X.mg "enumerate"=none) (ha:PA X [a] ta) (hs:starEach [a] X.env=[(false,eval a X.env)]:=by rfl):PI X (.Tuple el x1 tp) (.Call (.Name "enumerate" p) [a] [] pos) (Acz X.K ta):=by
  intro pins s σ H R I h
  refine Call_ (Li I hg hm boot_enumerate (PyProof.Rows.callWith_type1 (thn (ha pos pins s σ H _ I h) fun us s1 ⟨vs,H1,I1,r1,q1⟩=> ?_) hs rfl))
  obtain⟨b,rfl,⟨xs,hq⟩,q⟩:=q1
  obtain⟨v,rfl,rv⟩:=vals1 r1
  cases rv
  obtain⟨its,rr,pl,hz⟩:=I1.list hq
  refine call_enumerate_list (Lg pl) fun h' he hj hsz hk=> ?_
  have I2:Inv X pins σ H1 { s1 with heap:=h'}:=I1.kept (t':=s1.toks) hk
  refine wpAny_pyIter_enum he ⟨s1.heap.objs.size+1,[s1.heap.objs.size+1,s1.heap.objs.size],_,_,H1,rfl,I2,Xk b _ _ (Nat.ne_of_gt (Nat.lt_succ_self _)),⟨⟨_,he⟩,hj⟩,fun c hcm=> ?_,q⟩
  have hge:s1.heap.objs.size<=c:=by
    rcases List.mem_cons.mp hcm with rfl | hcm
    . exact Nat.le_succ _
    . have z:c=s1.heap.objs.size:=by simpa using hcm
      exact Nat.le_of_eq z.symm
  exact I1.fpOk hge (I1.hok.fresh hge)
end
theorem Je {K:PySem.W.Frag}{σ:St}{H:Hp}{ta:TA}{R:It->Hp->Prop}:Acz K ta σ H R=ta σ H (fun vs H1=>∃a,vs=[.ref a]/\(∃xs,SqL K H1 a xs)/\R (Ab2 K a) H1):=rfl
theorem Y6 {K:PySem.W.Frag}{σ:St}{H:Hp}{g:TG}{tb:TS}{D:Ends}{α:Type}{es:List α}{inj:α->V}{a:Addr} (Pv:List α->St->Hp->Prop) (h0:Pv [] σ H) (hw:∀pre σ H,Pv pre σ H->SqL K H a (es.map inj))
    (hs:∀pre e post σ H p,es=pre++e::post->Pv pre σ H->H p=none->g (.ref p) σ (upd H p (.tup [.int (pre.length:Nat),inj e])) fun σ2 H2=>tb { D with nx:=Pv (pre++ [e]),ct:=Pv (pre++ [e]),bk:=D.nx} σ2 H2) (hd:∀σ H,Pv es σ H->D.nx σ H):FI (Ab2 K a) g tb D σ H:=by
  refine⟨fun i m σ H=>m=es.length-i/\i<=es.length/\Pv (es.take i) σ H,⟨es.length,by simp,Nat.zero_le _,h0⟩,?_⟩
  rintro i m σ H ⟨rfl,hi,p⟩
  have w:=hw _ _ _ p
  cases he:es[i]? with
  | none=>
    have e:i=es.length:=Nat.le_antisymm hi (List.getElem?_eq_none_iff.mp he)
    subst e
    rw [List.take_length]at p
    exact .inl ⟨⟨_,w,by rw [List.length_map];exact Nat.le_refl _⟩,hd _ _ p⟩
  | some e=>
    obtain⟨hlt,ee⟩:=List.getElem?_eq_some_iff.mp he
    have tk:es.take (i+1)=es.take i++ [e]:=by rw [List.take_succ,he];rfl
    have sp:es=es.take i++e::es.drop (i+1):=by
      rw [<-ee,<-List.drop_eq_getElem_cons hlt,List.take_append_drop]
    refine .inr ⟨⟨_,inj e,w,by rw [List.getElem?_map,he];rfl⟩,Pv (es.take i++ [e]),fun σ' H' q=>⟨es.length-(i+1),by omega,rfl,hlt,by rw [tk];exact q⟩,fun x H' y=> ?_⟩
    obtain⟨b,v,y1,y2,rfl,rfl⟩:=y
    have y3:=y1 _ w
    rw [List.getElem?_map,he]at y3
    obtain rfl:inj e=v:=Option.some.inj y3
    have hl:(es.take i).length=i:=by rw [List.length_take];omega
    have z:=hs _ e _ σ H b sp p y2
    rw [hl]at z
    exact z
end L2
namespace L2
open PySem PySem.Spec PyProof.Rows
section
variable {M:Model}{A:Around}{E:Value->Shared->Prop}{K:PySem.W.Frag}{h:Heap}{g:Array GenState}{d:Drawn}{t:Nat}{os:OsState}{e C Dc:Addr}{oe:Obj}{Q:Bool->Shared->Prop}
theorem Wa (X:K.In h) (hD:Adg h Dc) (hs:PySem.W.mroIn K C (.ref Dc)=some true) (he:h.get? e=some oe) (hcls:oe.cls= .ref C) (hq:Q true ⟨h,g,d,t,os⟩):wpAny M A (excMatches (.ref e) (.ref Dc)) Q E ⟨h,g,d,t,os⟩:=by
  obtain⟨bm,N,nm,q,bs,hdct,sn,sub,ab,col,dd,k0,k1,k2,k3,k5,mN,hC,hN,hni,TL⟩:=hD
  have hB:bm.contains (.type "BaseException")=true:=TL.hasType (by decide)
  have hcB:(Value.ref Dc::bm).contains (.type "BaseException")=true:=by rw [List.contains_cons,hB,Bool.or_true]
  have f:=tc_notTuple
  unfold excMatches
  repeat (first | (with_reducible refine wpAny_loadPart_at he ?_;rw [hcls]) | with_reducible refine wpAny_loadPart_at hC ?_ | (with_reducible refine wpAny_isSubtype_exc hC ?_;rw [hcB]) | (with_reducible refine PySem.W.Looks.at (PySem.W.looks_mroIn X hs) ?_) | wp_step)
  exact hq
end
def Above (K:PySem.W.Frag) (Dc C:Addr):Prop:=Q9 K C/\Tw K C/\PySem.W.mroIn K C (.ref Dc)=some true
theorem Ad1 {α:Type}{p:α->Prop}:∀a∈([]:List α),p a:=fun _ h=>nomatch h
theorem Ad0 {α:Type}{p:α->Prop}{a:α}{as:List α} (h:p a) (r:∀b∈as,p b):∀b∈a::as,p b:=fun b hb=>by
  rcases List.mem_cons.mp hb with rfl | hb
  . exact h
  . exact r b hb
def Acg (sp:Sp) (Cs:List Addr) (g:V->St->St) (i:Nat) (ta:TA) (ts:Addr->Addr->Obj->TS):TS:=fun D σ H=>ta σ H fun vs H1=>sp vs H1 (fun v H2=>D.nx (g v σ) H2)
  (fun c _ H2=>∃C,c= .ref C/\C∈Cs/\∀x oe,oe.cls= .ref C->ts C x oe { nx:=fun σ' H'=>D.nx (σ'.set i none) H',rt:=D.rt,bk:=fun σ' H'=>D.bk (σ'.set i none) H',ct:=fun σ' H'=>D.ct (σ'.set i none) H'} (σ.set i (some (.ref x))) H2)
theorem J1 {sp:Sp}{Cs:List Addr}{g:V->St->St}{i:Nat}{ta:TA}{ts:Addr->Addr->Obj->TS}{D:Ends}{σ:St}{H:Hp}:Acg sp Cs g i ta ts D σ H=ta σ H (fun vs H1=>sp vs H1 (fun v H2=>D.nx (g v σ) H2)
  (fun c _ H2=>∃C,c= .ref C/\C∈Cs/\∀x oe,oe.cls= .ref C->ts C x oe { nx:=fun σ' H'=>D.nx (σ'.set i none) H',rt:=D.rt,bk:=fun σ' H'=>D.bk (σ'.set i none) H',ct:=fun σ' H'=>D.ct (σ'.set i none) H'} (σ.set i (some (.ref x))) H2)):=rfl
def Ac3 (sp:Sp) (Cs:List Addr) (g:V->St->St) (ta:TA) (ts:Addr->Addr->Obj->TS):TS:=fun D σ H=>ta σ H fun vs H1=>sp vs H1 (fun v H2=>D.nx (g v σ) H2)
  (fun c _ H2=>∃C,c= .ref C/\C∈Cs/\∀x oe,oe.cls= .ref C->ts C x oe D σ H2)
theorem Kc {sp:Sp}{Cs:List Addr}{g:V->St->St}{ta:TA}{ts:Addr->Addr->Obj->TS}{D:Ends}{σ:St}{H:Hp}:Ac3 sp Cs g ta ts D σ H=ta σ H (fun vs H1=>sp vs H1 (fun v H2=>D.nx (g v σ) H2)
  (fun c _ H2=>∃C,c= .ref C/\C∈Cs/\∀x oe,oe.cls= .ref C->ts C x oe D σ H2)):=rfl
section
variable {X:Cx}{pins:List (Addr × Obj)}{σ:St}{H:Hp}{s s':Shared}{Dc:Addr}{Cs:List Addr}{e:Value}{cx n:Str}{np pos hpos:Pos}{b0:Stmt}{suite:List Stmt}{D:Ends}{i:Nat}
theorem Zq {R:Flow->Shared->Prop}{E2:Addr->Hp->Prop}{nm:Option Str}{body:List Stmt} (I:Inv X pins σ H s) (h:CXE X.prog X.w X.stack H s (fun c _ H2=>∃C,c= .ref C/\C∈Cs/\E2 C H2) e s') (hq:Q9 X.K Dc) (hm:X.mg cx=some (.ref Dc)) (hA:∀C∈Cs,Above X.K Dc C) (hst:X.stack=X.env::X.outer) (hf:X.env.frame=some X.env.locals) (hg:Gl X cx) (hdb:(cx==("__debug__":Str))=false)
    (k:∀C x oe H' h6 (g':Array GenState) d' t' o',C∈Cs->oe.cls= .ref C->E2 C H'->Inv (X.caught x oe) pins σ H' ⟨h6,g',d',t',o'⟩->∀B a0 h5,Heap.FlyingW B X.stack x (.ref C) a0 h5->(∀h7,Heap.FlyingW B X.stack x (.ref C) a0 h7->h5.UpToSlots h7->∃oe',oe'.cls= .ref C/\Inv (X.caught x oe') pins σ H' ⟨h7,g',d',t',o'⟩)->
      codeAny (model X.prog X.w) (X.A.mark (some (.ref x))) (.handlers (.ref x) [.ExceptHandler none nm body hpos] X.env) (fun r s₂=>match r with
          | .ok f=>(match nm with
            | none=>R f s₂
            | some n=>wpAny (model X.prog X.w) X.A (do bindName X.env n .none;unbindBehindTheSuite X.env n hpos) (fun _ s₃=>R f s₃) X.xe s₂)
          | .error y=>cameBackBy (model X.prog X.w) X.A X.env X.xe y s₂) ⟨h5,g',d',t',o'⟩):
    wpAny (model X.prog X.w) X.A (noteFrame e X.env) (fun _ s₂=>wpAny (model X.prog X.w) X.A (setFlight e none) (fun _ s₃=>wpAny (model X.prog X.w) X.A (handleBy e X.env [.ExceptHandler (some (.Name cx np)) nm body hpos]) R X.xe s₃) X.xe s₂) X.xe s':=by
  obtain⟨x,C,a0,B,H',rfl,os,bare,fl,fx,⟨C2,eC,hCs,q⟩⟩:=h
  obtain rfl:C=C2:=by cases eC;rfl
  obtain⟨hh,gg,dd,tt,oo⟩:=s'
  have cau:∀h7,Heap.FlyingW B X.stack x (.ref C) a0 h7->FX X.prog X.w (frs X.stack) H s.heap B H' h7->∃oe',oe'.cls= .ref C/\Inv (X.caught x oe') pins σ H' ⟨h7,gg,dd,tt,oo⟩:=fun h7 fl7 fx7=>by
    have J:Inv X pins σ H' ⟨h7,gg,dd,tt,oo⟩:=I.call' (s':=⟨h7,gg,dd,tt,oo⟩) (ch:=[]) os fx7.un fx7.hok bare fun b z=>absurd z (by simp)
    obtain⟨oe,vs,hoe,hc,hd,_⟩:=fl7.first
    have hx:x∉frs X.stack:=fun z=>by
      obtain⟨_,o,ho,hnf⟩:=fl7.2.2.1.mem z
      rw [hoe]at ho;cases ho
      exact hnf vs hd
    refine⟨oe,hc,J.caught hoe ?_ ?_ ?_ fun v z=>by rw [hd]at z;cases z⟩
    . cases z:H' x with
      | none=>rfl
      | some u=>
        obtain⟨o,eo⟩:=fx7.k2 x u z
        rw [fl7.2.1]at eo;cases eo
    . intro z
      exact hx (by rw [hst,z];unfold frs;rw [List.filterMap_cons,hf];exact List.mem_cons_self)
    . intro z
      exact hx (by rw [hst];unfold frs;rw [List.filterMap_cons,hf];exact List.mem_cons_of_mem _ z)
  have fl0:=fl
  rw [hst]at fl0
  refine wpAny_looks_onW (hst▸I.ok.frames) hf fl0 fun h4 held4 up4=> ?_
  refine wpAny_landsW held4 fun h5 fl5 up5=> ?_
  have fx5:=(fx.step held4.1 up4).step fl5.1 up5
  rw [<-hst]at fl5
  obtain⟨oe5,hc5,J5⟩:=cau h5 fl5 fx5
  refine wpAny_handleBy_cons (codeAny_handlers_test (Kz J5 hg hm ?_ hdb)) (by intro q;cases q)
  obtain⟨ob,hob,hobc⟩:=fl5.there
  refine Wa J5.kIn (hq.obj J5.kIn) (hA C hCs).2.2 hob hobc ?_
  exact k C x oe5 H' h5 gg dd tt oo hCs hc5 q J5 B a0 h5 fl5 fun h7 fl7 up7=>cau h7 fl7 (fx5.step fl7.1 up7)
end
end L2
namespace L2
open PySem PySem.Spec PyProof.Rows
def It1 (t:Bool) (h:Heap) (j u:Addr) (k:Nat):Prop:=if t=true then h.IsTupleIter j u k else h.IsListIter j u k
def Sq1 (t:Bool) (h:Heap) (u:Addr) (xs:Array Value):Prop:=if t=true then h.IsTuple u xs else h.IsList u xs
theorem It1.ext {t:Bool}{h g:Heap}{j u b:Addr}{k:Nat} (x:It1 t h j u k) (e:Heap.ExtBut b h g) (n:j≠b):It1 t g j u k:=by
  cases t
  . exact Heap.IsListIter.extBut x e n
  . exact Heap.IsTupleIter.extBut x e n
theorem It1.to {t:Bool}{h g:Heap}{j u:Addr}{k:Nat} (x:It1 t h j u k) (e:∀o,h.get? j=some o->g.get? j=some o):It1 t g j u k:=by
  cases t
  . exact Heap.IsListIter.at x e
  . exact Heap.IsTupleIter.at x e
theorem Sq1.ext {t:Bool}{h g:Heap}{u b:Addr}{xs:Array Value} (x:Sq1 t h u xs) (e:Heap.ExtBut b h g) (n:u≠b):Sq1 t g u xs:=by
  cases t
  . exact Heap.IsList.extBut x e n
  . exact Heap.IsTuple.extBut x e n
theorem It1.there {t:Bool}{h:Heap}{j u:Addr}{k:Nat} (x:It1 t h j u k):∃o,h.get? j=some o/\∀v,o.data≠ .cell v:=by
  cases t
  . obtain⟨o,e,_,d⟩:=(show h.IsListIter j u k from x)
    exact⟨o,e,fun v z=>by rw [d]at z;cases z⟩
  . obtain⟨o,e,_,d⟩:=(show h.IsTupleIter j u k from x)
    exact⟨o,e,fun v z=>by rw [d]at z;cases z⟩
section
variable {prog:Program}{w:World}{A:Around}{E:Value->Shared->Prop}{s:Shared}
theorem Zu {t:Bool}{j u:Addr}{k:Nat}{xs:Array Value}{y:Value}{Q:Value->Shared->Prop} (hj:It1 t s.heap j u k) (hu:Sq1 t s.heap u xs) (hy:xs[k]? =some y)
    (c:∀g,It1 t g j u (k+1)->Heap.SameBut j s.heap g->Q y { s with heap:=g}):wpAny (model prog w) A (Builtin.SmallTypes.nextOf (.ref j)) Q E s:=by
  cases t
  . exact wpAny_nextOf_list_item hj hu hy c
  . exact nextT hj hu hy c
theorem O7 {t:Bool}{j u:Addr}{k:Nat}{xs:Array Value}{Q:Value->Shared->Prop} (hh:A.handled=none) (hj:It1 t s.heap j u k) (hu:Sq1 t s.heap u xs) (hy:xs[k]? =none)
    (c:∀g e,Heap.ExtBut j s.heap g->(∃o,g.get? e=some o/\o.cls= .type "StopIteration")->E (.ref e) { s with heap:=g}):wpAny (model prog w) A (Builtin.SmallTypes.nextOf (.ref j)) Q E s:=by
  cases t
  . exact wpAny_nextOf_list_end hh hj hu hy c
  . exact U4 hh hj hu hy c
theorem V7 {t1 t2:Bool}{zz TI TO i1 i2 u1 u2:Addr}{k1 k2:Nat}{xs ys:Array Value}{x y p q:Value}{Q:Value->Shared->Prop} (D:ZipApart zz TI TO i1 i2 u1 u2)
    (hz:IsZip s.heap zz TI TO .none) (hTI:IsPair s.heap TI (.ref i1) (.ref i2)) (hTO:IsPair s.heap TO p q) (j1:It1 t1 s.heap i1 u1 k1) (j2:It1 t2 s.heap i2 u2 k2) (a1:Sq1 t1 s.heap u1 xs) (a2:Sq1 t2 s.heap u2 ys) (hx:xs[k1]? =some x) (hy:ys[k2]? =some y)
    (c:∀g,IsZip g zz TI TO (rawInt s.heap.objs.size)->IsPair g TO x y->It1 t1 g i1 u1 (k1+1)->It1 t2 g i2 u2 (k2+1)->IsPair g s.heap.objs.size x y->g.objs.size=s.heap.objs.size+1->
      (∀b o,b≠zz->b≠TO->b≠i1->b≠i2->s.heap.get? b=some o->g.get? b=some o)->Q (.ref s.heap.objs.size) { s with heap:=g}):
    wpAny (model prog w) A (Builtin.«zip.__next__» ⟨[.ref zz],[]⟩) (fun fin s'=>∃v,fin= .done (.ret v)/\Q v s') E s:=by
  show wpAny _ _ (field (.ref zz) 2>>=_) _ _ s
  refine wpAny_bind (wpAny_field hz rfl (x:= .bool false) rfl ?z1)
  case z1=>
  show wpAny _ _ (field (.ref zz) 3>>=_) _ _ s
  refine wpAny_bind (wpAny_field hz rfl (x:= .ref TI) rfl (wpAny_bind (wpAny_seqItems hTI rfl ?z2)))
  case z2=>
  show wpAny _ _ (Builtin.SmallTypes.ownedTupleIsFree (.ref zz)>>=_) _ _ s
  refine wpAny_bind (m:=Builtin.SmallTypes.ownedTupleIsFree (.ref zz)) ?z3
  case z3=>
  unfold Builtin.SmallTypes.ownedTupleIsFree;refine wpAny_bind (wpAny_field hz rfl (x:= .none) rfl (wpAny_pure ?z4))
  case z4=>
  simp only [if_true];refine wpAny_bind (wpAny_rule (wpAny_bind (wpAny_field hz rfl (x:= .ref TO) rfl (wpAny_bind (wpAny_setField_rec hz (by simp) fun g1 (z1:IsZip g1 zz TI TO .ellipsis) b1=> ?z5)))))
  case z5=>
  refine wpAny_bind ?z6
  case z6=>
  simp only [List.forIn_cons,List.forIn_nil,List.zipIdx_cons,List.zipIdx_nil]
  refine wpAny_bind (wpAny_bind (wpAny_onRaise ?z7))
  case z7=>
  show wpAny _ _ (Builtin.SmallTypes.nextOf (.ref i1)>>=_) _ _ { s with heap:=g1}
  refine wpAny_bind (Zu (j1.ext b1.extBut D.i1z) (a1.ext b1.extBut D.l1z) hx fun g2 n1 b2=>wpAny_pure ?z8)
  case z8=>
  have o2:IsPair g2 TO p q:=b2.extBut _ _ D.TOi1 (b1.extBut _ _ D.TOz hTO)
  refine wpAny_bind (wpAny_seqItems o2 rfl (wpAny_bind (wpAny_updateSeq_pair o2 fun g3 (o3:IsPair g3 TO x q) b3=>wpAny_bind (wpAny_letGo (wpAny_pure (wpAny_bind (wpAny_bind (wpAny_onRaise ?z9))))))))
  case z9=>
  show wpAny _ _ (Builtin.SmallTypes.nextOf (.ref i2)>>=_) _ _ { s with heap:=g3}
  refine wpAny_bind (Zu (((j2.ext b1.extBut D.i2z).ext b2.extBut D.i12.symm).ext b3.extBut D.TOi2.symm) (((a2.ext b1.extBut D.l2z).ext b2.extBut D.l2i1).ext b3.extBut D.l2TO) hy fun g4 n2 b4=>wpAny_pure ?z10)
  case z10=>
  have o4:IsPair g4 TO x q:=b4.extBut _ _ D.TOi2 o3
  refine wpAny_bind (wpAny_seqItems o4 rfl (wpAny_bind (wpAny_updateSeq_pair o4 fun g5 (o5:IsPair g5 TO x y) b5=>wpAny_bind (wpAny_letGo (wpAny_pure (wpAny_pure (wpAny_bind (wpAny_seqItems o5 rfl (wpAny_bind (wpAny_newTuple ?z11))))))))))
  case z11=>
  have sz:g5.objs.size=s.heap.objs.size:=by rw [b5.1,b4.1,b3.1,b2.1,b1.1]
  have z5:IsZip g5 zz TI TO .ellipsis:=b5.extBut _ _ D.TOz.symm (b4.extBut _ _ D.i2z.symm (b3.extBut _ _ D.TOz.symm (b2.extBut _ _ D.i1z.symm z1)))
  have k5:∀b o,b≠zz->b≠TO->b≠i1->b≠i2->s.heap.get? b=some o->g5.get? b=some o:=fun b o c1 c2 c3 c4 e=>b5.extBut _ _ c2 (b4.extBut _ _ c4 (b3.extBut _ _ c2 (b2.extBut _ _ c3 (b1.extBut _ _ c1 e))))
  have m1:It1 t1 g5 i1 u1 (k1+1):=((n1.ext b3.extBut D.TOi1.symm).ext b4.extBut D.i12).ext b5.extBut D.TOi1.symm
  have m2:It1 t2 g5 i2 u2 (k2+1):=n2.ext b5.extBut D.TOi2.symm
  have zlt:zz<g5.objs.size:=Heap.lt_size z5
  show wpAny _ _ (Builtin.SmallTypes.ownedTupleHandOut (.ref zz) (.ref g5.objs.size)>>=_) _ _ _
  refine wpAny_bind (m:=Builtin.SmallTypes.ownedTupleHandOut (.ref zz) (.ref g5.objs.size)) ?z12
  case z12=>
  unfold Builtin.SmallTypes.ownedTupleHandOut
  have z6:IsZip (g5.push { cls:= .type "tuple",data:= .seq #[x,y]}) zz TI TO .ellipsis:=Heap.get?_push_of_some _ z5
  refine wpAny_bind (wpAny_setField_rec z6 (by simp) fun g7 (z7:IsZip g7 zz TI TO (rawInt g5.objs.size)) b7=>wpAny_setField_rec z7 (by simp) fun g8 (z8:IsZip g8 zz TI TO (rawInt g5.objs.size)) b8=> ?z13)
  case z13=>
  have up:∀b o,b≠zz->g5.get? b=some o->g8.get? b=some o:=fun b o c1 e=>b8.extBut _ _ c1 (b7.extBut _ _ c1 (Heap.get?_push_of_some _ e))
  have t8:IsPair g8 g5.objs.size x y:=b8.extBut _ _ (Nat.ne_of_gt zlt) (b7.extBut _ _ (Nat.ne_of_gt zlt) (Heap.get?_push_size _ rfl))
  have w8:g8.objs.size=g5.objs.size+1:=by rw [b8.1,b7.1,Heap.size_push]
  rw [sz]at z8 t8 w8
  refine wpAny_pure ⟨_,rfl,?z14⟩
  case z14=>
  show Q (.ref g5.objs.size) _
  rw [sz]
  exact c g8 z8 (up _ _ D.TOz o5) (m1.to fun o e=>up _ o D.i1z e) (m2.to fun o e=>up _ o D.i2z e) t8 w8 fun b o c1 c2 c3 c4 e=>up b o c1 (k5 b o c1 c2 c3 c4 e)
theorem Xn {t1 t2:Bool}{zz TI TO i1 i2 u1 u2:Addr}{k1 k2:Nat}{xs ys:Array Value}{p q:Value}{Q:Fin->Shared->Prop} (hh:A.handled=none) (D:ZipApart zz TI TO i1 i2 u1 u2)
    (hz:IsZip s.heap zz TI TO .none) (hTI:IsPair s.heap TI (.ref i1) (.ref i2)) (hTO:IsPair s.heap TO p q) (j1:It1 t1 s.heap i1 u1 k1) (j2:It1 t2 s.heap i2 u2 k2) (a1:Sq1 t1 s.heap u1 xs) (a2:Sq1 t2 s.heap u2 ys) (he:xs[k1]? =none\/ys[k2]? =none)
    (c:∀g e,(∀b o,b≠zz->b≠TO->b≠i1->b≠i2->s.heap.get? b=some o->g.get? b=some o)->(∃o,g.get? e=some o/\o.cls= .type "StopIteration")->E (.ref e) { s with heap:=g}):
    wpAny (model prog w) A (Builtin.«zip.__next__» ⟨[.ref zz],[]⟩) Q E s:=by
  show wpAny _ _ (field (.ref zz) 2>>=_) _ _ s
  refine wpAny_bind (wpAny_field hz rfl (x:= .bool false) rfl ?z1)
  case z1=>
  show wpAny _ _ (field (.ref zz) 3>>=_) _ _ s
  refine wpAny_bind (wpAny_field hz rfl (x:= .ref TI) rfl (wpAny_bind (wpAny_seqItems hTI rfl ?z2)))
  case z2=>
  show wpAny _ _ (Builtin.SmallTypes.ownedTupleIsFree (.ref zz)>>=_) _ _ s
  refine wpAny_bind (m:=Builtin.SmallTypes.ownedTupleIsFree (.ref zz)) ?z3
  case z3=>
  unfold Builtin.SmallTypes.ownedTupleIsFree;refine wpAny_bind (wpAny_field hz rfl (x:= .none) rfl (wpAny_pure ?z4))
  case z4=>
  simp only [if_true];refine wpAny_bind (wpAny_rule (wpAny_bind (wpAny_field hz rfl (x:= .ref TO) rfl (wpAny_bind (wpAny_setField_rec hz (by simp) fun g1 (z1:IsZip g1 zz TI TO .ellipsis) b1=> ?z5)))))
  case z5=>
  refine wpAny_bind ?z6
  case z6=>
  simp only [List.forIn_cons,List.forIn_nil,List.zipIdx_cons,List.zipIdx_nil]
  refine wpAny_bind (wpAny_bind (wpAny_onRaise ?z7))
  case z7=>
  show wpAny _ _ (Builtin.SmallTypes.nextOf (.ref i1)>>=_) _ _ { s with heap:=g1}
  cases hx:xs[k1]? with
  | none=>
    refine wpAny_bind (O7 hh (j1.ext b1.extBut D.i1z) (a1.ext b1.extBut D.l1z) hx fun g2 e b2 ⟨oe,hoe,hce⟩=> ?_)
    have z2:IsZip g2 zz TI TO .ellipsis:=b2 _ _ D.i1z.symm z1
    have ne:e≠zz:=fun y=>by subst y;rw [z2]at hoe;cases hoe;simp at hce
    exact wpAny_setField_rec z2 (by simp) fun g3 _ b3=>c g3 e (fun b o c1 _ c3 _ y=>b3.extBut _ _ c1 (b2 _ _ c3 (b1.extBut _ _ c1 y))) ⟨oe,b3.extBut _ _ ne hoe,hce⟩
  | some x=>
    have hy:ys[k2]? =none:=by
      rcases he with h | h
      . rw [hx]at h;cases h
      . exact h
    refine wpAny_bind (Zu (j1.ext b1.extBut D.i1z) (a1.ext b1.extBut D.l1z) hx fun g2 n1 b2=>wpAny_pure ?_)
    have o2:IsPair g2 TO p q:=b2.extBut _ _ D.TOi1 (b1.extBut _ _ D.TOz hTO)
    refine wpAny_bind (wpAny_seqItems o2 rfl (wpAny_bind (wpAny_updateSeq_pair o2 fun g3 o3 b3=>wpAny_bind (wpAny_letGo (wpAny_pure (wpAny_bind (wpAny_bind (wpAny_onRaise ?z9))))))))
    case z9=>
    show wpAny _ _ (Builtin.SmallTypes.nextOf (.ref i2)>>=_) _ _ { s with heap:=g3}
    refine wpAny_bind (O7 hh (((j2.ext b1.extBut D.i2z).ext b2.extBut D.i12.symm).ext b3.extBut D.TOi2.symm) (((a2.ext b1.extBut D.l2z).ext b2.extBut D.l2i1).ext b3.extBut D.l2TO) hy fun g4 e b4 ⟨oe,hoe,hce⟩=> ?_)
    have z4:IsZip g4 zz TI TO .ellipsis:=b4 _ _ D.i2z.symm (b3.extBut _ _ D.TOz.symm (b2.extBut _ _ D.i1z.symm z1))
    have ne:e≠zz:=fun y=>by subst y;rw [z4]at hoe;cases hoe;simp at hce
    exact wpAny_setField_rec z4 (by simp) fun g5 _ b5=>c g5 e (fun b o c1 c2 c3 c4 y=>b5.extBut _ _ c1 (b4 _ _ c4 (b3.extBut _ _ c2 (b2.extBut _ _ c3 (b1.extBut _ _ c1 y))))) ⟨oe,b5.extBut _ _ ne hoe,hce⟩
theorem Wj {t1 t2:Bool}{zz TI TO i1 i2 u1 u2:Addr}{k1 k2:Nat}{xs ys:Array Value}{x y p q:Value}{Q:Option Value->Shared->Prop} (D:ZipApart zz TI TO i1 i2 u1 u2)
    (hz:IsZip s.heap zz TI TO .none) (hTI:IsPair s.heap TI (.ref i1) (.ref i2)) (hTO:IsPair s.heap TO p q) (j1:It1 t1 s.heap i1 u1 k1) (j2:It1 t2 s.heap i2 u2 k2) (a1:Sq1 t1 s.heap u1 xs) (a2:Sq1 t2 s.heap u2 ys) (hx:xs[k1]? =some x) (hy:ys[k2]? =some y)
    (c:∀g,IsZip g zz TI TO (rawInt s.heap.objs.size)->IsPair g TO x y->It1 t1 g i1 u1 (k1+1)->It1 t2 g i2 u2 (k2+1)->IsPair g s.heap.objs.size x y->g.objs.size=s.heap.objs.size+1->
      (∀b o,b≠zz->b≠TO->b≠i1->b≠i2->s.heap.get? b=some o->g.get? b=some o)->Q (some (.ref s.heap.objs.size)) { s with heap:=g}):wpAny (model prog w) A (pyNext (.ref zz)) Q E s:=by
  have ty:s.TypeIs (.ref zz) "zip":=⟨_,hz,rfl⟩
  unfold pyNext
  exact wpAny_bind (wpAny_attempt (wpAny_callSpecial?_slot (name:=Str.ofString "__next__") ty F.slot_zip_next (wpAny_call_entry F.slot_zip_next ty F.entry_zip_next
    (V7 D hz hTI hTO j1 j2 a1 a2 hx hy fun g b1 b2 b3 b4 b5 b6 b7=>wpAny_pure (c g b1 b2 b3 b4 b5 b6 b7)) (F.args_zip_next_1 _))))
theorem Vp {t1 t2:Bool}{zz TI TO i1 i2 u1 u2:Addr}{k1 k2:Nat}{xs ys:Array Value}{p q:Value}{Q:Option Value->Shared->Prop} (hh:A.handled=none) (D:ZipApart zz TI TO i1 i2 u1 u2)
    (hz:IsZip s.heap zz TI TO .none) (hTI:IsPair s.heap TI (.ref i1) (.ref i2)) (hTO:IsPair s.heap TO p q) (j1:It1 t1 s.heap i1 u1 k1) (j2:It1 t2 s.heap i2 u2 k2) (a1:Sq1 t1 s.heap u1 xs) (a2:Sq1 t2 s.heap u2 ys) (he:xs[k1]? =none\/ys[k2]? =none)
    (c:∀g,(∀b o,b≠zz->b≠TO->b≠i1->b≠i2->s.heap.get? b=some o->g.get? b=some o)->Q none { s with heap:=g}):wpAny (model prog w) A (pyNext (.ref zz)) Q E s:=by
  have ty:s.TypeIs (.ref zz) "zip":=⟨_,hz,rfl⟩
  unfold pyNext
  refine wpAny_bind (wpAny_attempt (wpAny_callSpecial?_slot (name:=Str.ofString "__next__") ty F.slot_zip_next (wpAny_call_entry F.slot_zip_next ty F.entry_zip_next (Xn hh D hz hTI hTO j1 j2 a1 a2 he fun g e hk ⟨o,ho,hc⟩=> ?_) (F.args_zip_next_1 _))))
  exact wpAny_bind (wpAny_isInstance (T:="StopIteration") (b:=true) ⟨o,ho,hc⟩ isSubtype_stop (wpAny_pure (c _ hk)))
end
def Aa7 (t:Bool):String:=if t=true then "tuple_iterator" else "list_iterator"
abbrev Rr (t:Bool) (u:Addr):Obj:={ cls:= .type (Aa7 t),data:= .fields #[.ref u,.int 0 0]}
theorem iter1 {prog:Program}{w:World}{A:Around}{E:Value->Shared->Prop}{s:Shared}{t:Bool}{u:Addr}{xs:Array Value}{Q:Value->Shared->Prop} (h:Sq1 t s.heap u xs) (q:Q (.ref s.heap.objs.size) { s with heap:=s.heap.push (Rr t u)}):wpAny (model prog w) A (pyIter (.ref u)) Q E s:=by
  cases t
  . exact wpAny_pyIter_list h q
  . exact wpAny_pyIter_tuple h q
theorem U0 {t:Bool}{u j:Addr}{g:Heap} (e:g.get? j=some (Rr t u)):It1 t g j u 0:=by
  cases t
  . exact⟨_,e,rfl,rfl⟩
  . exact⟨_,e,rfl,rfl⟩
theorem Sq1.push {t:Bool}{h:Heap}{u:Addr}{xs:Array Value} (x:Sq1 t h u xs) (o:Obj):Sq1 t (h.push o) u xs:=by
  cases t
  . exact Heap.IsList.push x _
  . obtain⟨ob,e,r⟩:=(show h.IsTuple u xs from x)
    exact⟨ob,Heap.get?_push_of_some _ e,r⟩
abbrev zA1 (t1:Bool) (h:Heap) (u1:Addr):Heap:=h.push (Rr t1 u1)
abbrev zA2 (t1 t2:Bool) (h:Heap) (u1 u2:Addr):Heap:=(zA1 t1 h u1).push (Rr t2 u2)
abbrev zA3 (t1 t2:Bool) (h:Heap) (u1 u2:Addr):Heap:=(zA2 t1 t2 h u1 u2).push { cls:= .type "tuple",data:= .seq #[.ref h.objs.size,.ref (zA1 t1 h u1).objs.size]}
abbrev zA4 (t1 t2:Bool) (h:Heap) (u1 u2:Addr):Heap:=(zA3 t1 t2 h u1 u2).push { cls:= .type "tuple",data:= .seq #[.none,.none]}
abbrev zA5 (t1 t2:Bool) (h:Heap) (u1 u2:Addr):Heap:=(zA4 t1 t2 h u1 u2).push { cls:= .type "zip",data:= .fields #[.none,.bool false,.bool false,.ref (zA2 t1 t2 h u1 u2).objs.size,.ref (zA3 t1 t2 h u1 u2).objs.size]}
theorem T9 (t1 t2:Bool) (u1 u2:Addr) (xs ys:Array Value):
    Meets (Builtin.«zip.__new__» ⟨[.type "zip",.ref u1,.ref u2],[]⟩) (fun _ R s=>Sq1 t1 s.heap u1 xs/\Sq1 t2 s.heap u2 ys/\R (.ok (.ret (.ref (zA4 t1 t2 s.heap u1 u2).objs.size))) { s with heap:=zA5 t1 t2 s.heap u1 u2}):=
  .of_wp fun prog w A R s h=>by
    obtain⟨hp,g,d,tk,os⟩:=s;obtain⟨b1,b2,h⟩:=h
    have su:=sub_zip
    have L1:Sq1 t1 (Shared.heap ⟨hp,g,d,tk,os⟩) u1 xs:=b1
    have L2:Sq1 t2 (Shared.heap ⟨hp.push (Rr t1 u1),g,d,tk,os⟩) u2 ys:=b2.push _
    wp_walk using iter1 L1,iter1 L2
    exact⟨_,rfl,h⟩
theorem Vw {prog:Program}{w:World}{A:Around}{E:Value->Shared->Prop}{s:Shared}{t1 t2:Bool}{u1 u2:Addr}{xs ys:Array Value}{Q:Value->Shared->Prop} (b1:Sq1 t1 s.heap u1 xs) (b2:Sq1 t2 s.heap u2 ys)
    (c:∀g,IsZip g (s.heap.objs.size+4) (s.heap.objs.size+2) (s.heap.objs.size+3) .none->IsPair g (s.heap.objs.size+2) (.ref s.heap.objs.size) (.ref (s.heap.objs.size+1))->IsPair g (s.heap.objs.size+3) .none .none->
      It1 t1 g s.heap.objs.size u1 0->It1 t2 g (s.heap.objs.size+1) u2 0->(∀b o,s.heap.get? b=some o->g.get? b=some o)->Q (.ref (s.heap.objs.size+4)) { s with heap:=g}):wpAny (model prog w) A (call (.type "zip") [.ref u1,.ref u2]) Q E s:=by
  refine callType_new F.called_zip (by decide) (F.typeCall_zip_2 _ _) (F.newCall_zip_2 _ _) (fun obj=>F.args_object_init_3 obj _ _) F.entry_zip_new (T9 t1 t2 u1 u2 xs ys) ⟨b1,b2,?_⟩
  have w1:(zA1 t1 s.heap u1).objs.size=s.heap.objs.size+1:=Heap.size_push ..
  have w2:(zA2 t1 t2 s.heap u1 u2).objs.size=s.heap.objs.size+2:=by rw [Heap.size_push,w1]
  have w3:(zA3 t1 t2 s.heap u1 u2).objs.size=s.heap.objs.size+3:=by rw [Heap.size_push,w2]
  have w4:(zA4 t1 t2 s.heap u1 u2).objs.size=s.heap.objs.size+4:=by rw [Heap.size_push,w3]
  have e5:(zA5 t1 t2 s.heap u1 u2).get? (zA4 t1 t2 s.heap u1 u2).objs.size=some _:=Heap.get?_push_size _ rfl
  have e4:(zA5 t1 t2 s.heap u1 u2).get? (zA3 t1 t2 s.heap u1 u2).objs.size=some _:=Heap.get?_push_of_some _ (Heap.get?_push_size _ rfl)
  have e3:(zA5 t1 t2 s.heap u1 u2).get? (zA2 t1 t2 s.heap u1 u2).objs.size=some _:=Heap.get?_push_of_some _ (Heap.get?_push_of_some _ (Heap.get?_push_size _ rfl))
  have e2:(zA5 t1 t2 s.heap u1 u2).get? (zA1 t1 s.heap u1).objs.size=some (Rr t2 u2):=Heap.get?_push_of_some _ (Heap.get?_push_of_some _ (Heap.get?_push_of_some _ (Heap.get?_push_size _ rfl)))
  have e1:(zA5 t1 t2 s.heap u1 u2).get? s.heap.objs.size=some (Rr t1 u1):=Heap.get?_push_of_some _ (Heap.get?_push_of_some _ (Heap.get?_push_of_some _ (Heap.get?_push_of_some _ (Heap.get?_push_size _ rfl))))
  show _/\_
  rw [w2,w3,w4]at e5
  rw [w1,w2]at e3
  rw [w3]at e4
  rw [w1]at e2
  rw [w4]
  exact⟨⟨_,e5,rfl⟩,c _ e5 e3 e4 (U0 e1) (U0 e2) fun b o x=>Heap.get?_push_of_some _ (Heap.get?_push_of_some _ (Heap.get?_push_of_some _ (Heap.get?_push_of_some _ (Heap.get?_push_of_some _ x))))⟩
def SqB (t:Bool) (K:PySem.W.Frag) (H:Hp) (a:Addr) (xs:List V):Prop:=if t=true then SqT K H a xs else SqL K H a xs
theorem Inv.sqB {X:Cx}{pins:List (Addr × Obj)}{σ:St}{H:Hp}{s:Shared}{t:Bool}{a:Addr}{xs:List V} (I:Inv X pins σ H s) (h:SqB t X.K H a xs):∃its:List Value,Vals xs its/\Sq1 t s.heap a its.toArray:=by
  cases t
  . obtain⟨its,r,p,_⟩:=I.list h
    exact⟨its,r,p.isList⟩
  . obtain⟨its,r,p,_⟩:=I.tuple h
    exact⟨its,r,p⟩
theorem Inv.sqB_inj {X:Cx}{pins:List (Addr × Obj)}{σ:St}{H:Hp}{s:Shared}{t:Bool}{a:Addr}{xs ys:List V} (I:Inv X pins σ H s) (h:SqB t X.K H a xs) (h':SqB t X.K H a ys):xs=ys:=by
  cases t
  . exact I.list_inj h h'
  . exact I.tuple_inj h h'
def Zt (t1 t2:Bool) (K:PySem.W.Frag) (a b:Addr):It:=
  ⟨fun i H=>∃xs ys x y,SqB t1 K H a xs/\SqB t2 K H b ys/\xs[i]? =some x/\ys[i]? =some y,
   fun i H x H'=>∃p u v,(∀xs,SqB t1 K H a xs->xs[i]? =some u)/\(∀ys,SqB t2 K H b ys->ys[i]? =some v)/\H p=none/\x= .ref p/\H'=upd H p (.tup [u,v]),
   fun i H=>∃xs ys,SqB t1 K H a xs/\SqB t2 K H b ys/\(xs.length<=i\/ys.length<=i)⟩
theorem Vt {P:Program}{w:World}{K:PySem.W.Frag}{el:List Expr}{x1}{tp:Pos} (t1 t2:Bool) (a b z TI TO i1 i2:Addr) (D:ZipApart z TI TO i1 i2 a b):
    Turn P w K (.Tuple el x1 tp) (Zt t1 t2 K a b) [z,TI,TO,i1,i2] z (fun i h=>IsZip h z TI TO .none/\IsPair h TI (.ref i1) (.ref i2)/\(∃c d,IsPair h TO c d)/\It1 t1 h i1 a i/\It1 t2 h i2 b i) where
  mem:=by simp
  obj:=fun i h st c hc=>by
    obtain⟨hz,hTI,⟨u,v,hTO⟩,h1,h2⟩:=st
    simp only [List.mem_cons,List.not_mem_nil,or_false]at hc
    rcases hc with rfl | rfl | rfl | rfl | rfl
    . exact⟨_,hz,fun v z=>by cases(show Data.fields _=Data.cell v from z)⟩
    . exact⟨_,hTI,fun v z=>by cases(show Data.seq _ _=Data.cell v from z)⟩
    . exact⟨_,hTO,fun v z=>by cases(show Data.seq _ _=Data.cell v from z)⟩
    . exact h1.there
    . exact h2.there
  keep:=fun i h h' st k=>by
    obtain⟨hz,hTI,⟨u,v,hTO⟩,h1,h2⟩:=st
    exact⟨k z (by simp) _ hz,k TI (by simp) _ hTI,⟨u,v,k TO (by simp) _ hTO⟩,h1.to fun o e=>k i1 (by simp) _ e,h2.to fun o e=>k i2 (by simp) _ e⟩
  item:=by
    intro X hP hw hK hc i pins s σ H E I hf st hg
    subst hP hw hK
    obtain⟨xs,ys,x,y,hqx,hqy,hx,hy⟩:=hg
    obtain⟨its,rv,p⟩:=I.sqB hqx
    obtain⟨its2,rv2,p2⟩:=I.sqB hqy
    obtain⟨u,hu,ru⟩:=rv.get hx
    obtain⟨v,hv,rv'⟩:=rv2.get hy
    obtain⟨hz,hTI,⟨c,d,hTO⟩,h1,h2⟩:=st
    refine Wj D hz hTI hTO h1 h2 p p2 (x:=u) (y:=v) (by simpa using hu) (by simpa using hv) fun g a1 a2 a3 a4 a5 a6 hk=>⟨_,rfl,?_⟩
    refine wpAny_letOwnedTupleGo_zip a1 fun g2 hz2 sb2=> ?_
    replace sb2:Heap.SameBut z g g2:=sb2
    have lt:∀b∈ [z,TI,TO,i1,i2],b≠s.heap.objs.size:=fun b hb=>by
      obtain⟨o1,e1,_⟩:=h1.there
      obtain⟨o2,e2,_⟩:=h2.there
      simp only [List.mem_cons,List.not_mem_nil,or_false]at hb
      rcases hb with rfl | rfl | rfl | rfl | rfl
      . exact Nat.ne_of_lt (Heap.lt_size hz)
      . exact Nat.ne_of_lt (Heap.lt_size hTI)
      . exact Nat.ne_of_lt (Heap.lt_size hTO)
      . exact Nat.ne_of_lt (Heap.lt_size e1)
      . exact Nat.ne_of_lt (Heap.lt_size e2)
    have hn:H s.heap.objs.size=none:=I.fresh
    have I1:Inv X pins σ (upd H s.heap.objs.size (.tup [x,y])) { s with heap:=s.heap.push { cls:= .type "tuple",data:= .seq #[u,v]},toks:=s.toks}:=
      I.laid (fun b o q=>Heap.get?_push_of_some _ q) (Nat.le_refl _) ⟨by show 2<=sizeLine;decide,[u,v],.cons ru (.cons rv' .nil),⟨_,Heap.get?_push_size _ rfl,rfl,_,rfl⟩⟩
    have fp':∀b∈ [z,TI,TO,i1,i2],Ma X pins (upd H s.heap.objs.size (.tup [x,y])) b:=fun b hb=>
      ⟨by rw [Al (lt b hb)];exact(hf b hb).1,(hf b hb).2⟩
    have I2:=I1.turnL (h':=g2) (t':=s.toks) (fp:=[z,TI,TO,i1,i2]) (fun b o hb q=>by
      have n1:b≠z:=fun e=>hb (by simp [e])
      refine(sb2.2 b n1).trans ?_
      rcases Heap.get?_push_cases q with⟨rfl,rfl⟩ | q0
      . exact a5
      . exact hk b o n1 (fun e=>hb (by simp [e])) (fun e=>hb (by simp [e])) (fun e=>hb (by simp [e])) q0) fp'
    refine⟨.ref s.heap.objs.size,_,I2,rfl,⟨_,x,y,fun zs hz=>by rw [I.sqB_inj hz hqx];exact hx,fun zs hz=>by rw [I.sqB_inj hz hqy];exact hy,hn,rfl,rfl⟩,⟨hz2,?_,⟨u,v,sb2.extBut _ _ D.TOz a2⟩,a3.ext sb2.extBut D.i1z,a4.ext sb2.extBut D.i2z⟩,fun b hb=>(fp' b hb).1⟩
    exact sb2.extBut _ _ D.TIz (hk _ _ D.TIz D.TITO D.TIi1 D.TIi2 hTI)
  done:=by
    intro X hP hw hK hc i pins s σ H E I hf st hg
    subst hP hw hK
    obtain⟨xs,ys,hqx,hqy,hxy⟩:=hg
    obtain⟨its,rv,p⟩:=I.sqB hqx
    obtain⟨its2,rv2,p2⟩:=I.sqB hqy
    obtain⟨hz,hTI,⟨c,d,hTO⟩,h1,h2⟩:=st
    have l1:=rv.length
    have l2:=rv2.length
    exact Vp (I.ok.hd hc) D hz hTI hTO h1 h2 p p2 (by
      rcases hxy with h | h
      . exact .inl (by simp;omega)
      . exact .inr (by simp;omega)) fun g hk=>⟨rfl,I.turnL (t':=s.toks) (fp:=[z,TI,TO,i1,i2]) (fun b o hb q=>hk b o (fun e=>hb (by simp [e])) (fun e=>hb (by simp [e])) (fun e=>hb (by simp [e])) (fun e=>hb (by simp [e])) q) hf⟩
  self:=fun _ _ _ _ _ st h=>wpAny_pyIter_zip st.1 h
section
variable {X:Cx}{a b:Expr}{ta:TA}{el:List Expr}{x1}{tp p pos:Pos}
def Z6 (t1 t2:Bool) (K:PySem.W.Frag) (ta:TA):TI:=fun σ H R=>ta σ H fun vs H1=>∃a b,vs=[.ref a,.ref b]/\(∃xs,SqB t1 K H1 a xs)/\(∃ys,SqB t2 K H1 b ys)/\R (Zt t1 t2 K a b) H1
theorem Eo (t1 t2:Bool) (hg:Gl X "zip") (hm:X.mg "zip"=none) (ha:PA X [a,b] ta) (hs:starEach [a,b] X.env=[(false,eval a X.env),(false,eval b X.env)]:=by rfl) (hs2:starEach [b] X.env=[(false,eval b X.env)]:=by rfl):
    PI X (.Tuple el x1 tp) (.Call (.Name "zip" p) [a,b] [] pos) (Z6 t1 t2 X.K ta):=by
  intro pins s σ H R I h
  refine Call_ (Li I hg hm boot_zip (PyProof.Rows.callWith_type1 (thn (ha pos pins s σ H _ I h) fun us s1 ⟨vs,H1,I1,r1,q1⟩=> ?_) (by rw [hs,hs2]) (by rw [hs2];rfl)))
  obtain⟨u,v,rfl,⟨xs,hqx⟩,⟨ys,hqy⟩,q⟩:=q1
  obtain⟨v1,v2,rfl,r1,r2⟩:=vals2 r1
  cases r1
  cases r2
  obtain⟨its,rx,px⟩:=I1.sqB hqx
  obtain⟨its2,ry,py⟩:=I1.sqB hqy
  have lt1:u<s1.heap.objs.size:=by
    cases t1
    . obtain⟨o,e,_⟩:=(show s1.heap.IsList u _ from px)
      exact Heap.lt_size e
    . obtain⟨o,e,_⟩:=(show s1.heap.IsTuple u _ from px)
      exact Heap.lt_size e
  have lt2:v<s1.heap.objs.size:=by
    cases t2
    . obtain⟨o,e,_⟩:=(show s1.heap.IsList v _ from py)
      exact Heap.lt_size e
    . obtain⟨o,e,_⟩:=(show s1.heap.IsTuple v _ from py)
      exact Heap.lt_size e
  refine Vw px py fun h' hz hTI hTO hi1 hi2 hk=> ?_
  have I2:Inv X pins σ H1 { s1 with heap:=h'}:=I1.kept (t':=s1.toks) fun c o' e=>hk c o' e
  refine wpAny_pyIter_zip hz ⟨s1.heap.objs.size+4,[s1.heap.objs.size+4,s1.heap.objs.size+2,s1.heap.objs.size+3,s1.heap.objs.size,s1.heap.objs.size+1],_,_,H1,rfl,I2,Vt t1 t2 u v _ _ _ _ _ (zipApart_new lt1 lt2),⟨hz,hTI,⟨_,_,hTO⟩,hi1,hi2⟩,fun c hcm=> ?_,q⟩
  have hge:s1.heap.objs.size<=c:=by
    simp only [List.mem_cons,List.not_mem_nil,or_false]at hcm
    rcases hcm with rfl | rfl | rfl | rfl | rfl
    . exact Nat.le_add_right _ 4
    . exact Nat.le_add_right _ 2
    . exact Nat.le_add_right _ 3
    . exact Nat.le_refl _
    . exact Nat.le_add_right _ 1
  exact I1.fpOk hge (I1.hok.fresh hge)
end
theorem Gd {t1 t2:Bool}{K:PySem.W.Frag}{ta:TA}{σ:St}{H:Hp}{R:It->Hp->Prop}:Z6 t1 t2 K ta σ H R=ta σ H (fun vs H1=>∃a b,vs=[.ref a,.ref b]/\(∃xs,SqB t1 K H1 a xs)/\(∃ys,SqB t2 K H1 b ys)/\R (Zt t1 t2 K a b) H1):=rfl
theorem Rh {t1 t2:Bool}{K:PySem.W.Frag}{σ:St}{H:Hp}{g:TG}{tb:TS}{D:Ends}{a b:Addr}{xs ys:List V} (n:Nat) (hn:n=min xs.length ys.length) (Pv:Nat->St->Hp->Prop) (h0:Pv 0 σ H)
    (hw:∀i σ H,Pv i σ H->SqB t1 K H a xs/\SqB t2 K H b ys)
    (hs:∀i σ H p,i<n->Pv i σ H->H p=none->g (.ref p) σ (upd H p (.tup [xs.getD i .non,ys.getD i .non])) fun σ2 H2=>tb { D with nx:=Pv (i+1),ct:=Pv (i+1),bk:=D.nx} σ2 H2) (hd:∀σ H,Pv n σ H->D.nx σ H):FI (Zt t1 t2 K a b) g tb D σ H:=by
  refine⟨fun i m σ H=>m=n-i/\i<=n/\Pv i σ H,⟨n,by simp,Nat.zero_le _,h0⟩,?_⟩
  rintro i m σ H ⟨rfl,hi,p⟩
  obtain⟨wx,wy⟩:=hw _ _ _ p
  by_cases he:i=n
  . subst he
    exact .inl ⟨⟨xs,ys,wx,wy,by omega⟩,hd _ _ p⟩
  . have hl:i<n:=by omega
    have ex:xs[i]? =some (xs.getD i .non):=by rw [List.getD_eq_getElem?_getD,List.getElem?_eq_getElem (by omega)];rfl
    have ey:ys[i]? =some (ys.getD i .non):=by rw [List.getD_eq_getElem?_getD,List.getElem?_eq_getElem (by omega)];rfl
    refine .inr ⟨⟨xs,ys,_,_,wx,wy,ex,ey⟩,Pv (i+1),fun σ' H' p'=>⟨n-(i+1),by omega,rfl,hl,p'⟩,fun x H3 y=> ?_⟩
    obtain⟨q,u,v,hu,hv,hq,rfl,rfl⟩:=y
    have eu:=hu _ wx
    have ev:=hv _ wy
    rw [ex]at eu
    rw [ey]at ev
    cases eu
    cases ev
    exact hs i σ H q hl p hq
end L2
namespace L2
open PySem PySem.Spec PyProof.Rows
set_option maxRecDepth 100000
abbrev TB:=St->Hp->(St->Hp->Prop)->XK->Prop
def BT (X:Cx) (st:Stmt) (t:TB):Prop:=∀(pins:List (Addr × Obj)) (s:Shared) (σ:St) (H:Hp) (N:St->Hp->Prop) (E:XK) (XE:Value->Shared->Prop) (R:Flow->Shared->Prop),Inv X pins σ H s->t σ H N E->
  (∀s1 H1 e s',Inv X pins σ H1 s1->CXE X.prog X.w X.stack H1 s1 E e s'->XE e s')->(∀σ' H1 s1,N σ' H1->Inv X pins σ' H1 s1->R .next s1)->wpAny (model X.prog X.w) X.A (exec st X.env) R XE s
def Zw (sp:Sp) (g:V->St->St) (ta:TA):TB:=fun σ H N E=>ta σ H fun vs H1=>sp vs H1 (fun v H2=>N (g v σ) H2) E
def bIf (tc:TT) (t u:TB):TB:=fun σ H N E=>tc σ H fun b H1=>if b=true then t σ H1 N E else u σ H1 N E
def Aca (C:Addr) (i:Nat) (tb:TB) (ts:Addr->Obj->TS):TS:=fun D σ H=>tb σ H (fun σ' H'=>D.nx σ' H')
  (fun c _ H2=>c= .ref C/\∀x oe,oe.cls= .ref C->ts x oe { nx:=fun σ' H'=>D.nx (σ'.set i none) H',rt:=D.rt,bk:=fun σ' H'=>D.bk (σ'.set i none) H',ct:=fun σ' H'=>D.ct (σ'.set i none) H'} (σ.set i (some (.ref x))) H2)
theorem Fp {sp:Sp}{g:V->St->St}{ta:TA}{σ:St}{H:Hp}{N:St->Hp->Prop}{E:XK}:Zw sp g ta σ H N E=ta σ H fun vs H1=>sp vs H1 (fun v H2=>N (g v σ) H2) E:=rfl
theorem Pb {tc:TT}{t u:TB}{σ:St}{H:Hp}{N:St->Hp->Prop}{E:XK}:bIf tc t u σ H N E=tc σ H fun b H1=>if b=true then t σ H1 N E else u σ H1 N E:=rfl
theorem Jd {C:Addr}{i:Nat}{tb:TB}{ts:Addr->Obj->TS}{D:Ends}{σ:St}{H:Hp}:Aca C i tb ts D σ H=tb σ H (fun σ' H'=>D.nx σ' H')
  (fun c _ H2=>c= .ref C/\∀x oe,oe.cls= .ref C->ts x oe { nx:=fun σ' H'=>D.nx (σ'.set i none) H',rt:=D.rt,bk:=fun σ' H'=>D.bk (σ'.set i none) H',ct:=fun σ' H'=>D.ct (σ'.set i none) H'} (σ.set i (some (.ref x))) H2):=rfl
section
variable {X:Cx}{C:Addr}{cx n f:Str}{np p cpos pos hpos:Pos}{b0 st:Stmt}{suite:List Stmt}{i k:Nat}{ts:Addr->Obj->TS}{ps:List Str}{sp:Sp}{a:Expr}{as:List Expr}{ta:TA}{g:V->St->St}{tb:TB}
theorem Gg (Ca:Q8 X.prog X.w X.K X.mg X.base k f ps sp) (hr:G3 k X.A) (ha:PA X.nox (a::as) ta) (hb:S7 X st (.Call (.Name f p) (a::as) [] cpos) g)
    (hg:Gl X f:=by rfl) (hdb:(f==("__debug__":Str))=false:=by decide) (he:starEach (a::as) X.env=(false,eval a X.env)::starEach as X.env:=by rfl) (hpl:(backTo cpos (starEach as X.env)).any (·.1)=false:=by rfl):BT X st (Zw sp g ta):=by
  intro pins s σ H N E XE R I h hx hn
  exact hb pins s σ H XE (fun v H2=>N (g v σ) H2) R I (tried Ca hr ha I h hx hg hdb he hpl) fun v H1 s1 q I1=>hn _ _ _ q I1
theorem Zd {c:Expr}{x y:Stmt}{tc:TT}{t u:TB} (hc:PT X.nox c tc) (hx:BT X x t) (hy:BT X y u):BT X (.If c [x] [y] pos) (bIf tc t u):=by
  intro pins s σ H N E XE R I h hE hn
  refine wpAny_If (wpAny_mono (hc pins s σ H _ (I.wish _) h) (fun d s1 ⟨H1,I1,q1⟩=> ?_) fun _ _ z=>False.elim z)
  have I1:Inv X pins σ H1 s1:=I1.unwish
  cases d with
  | true=>exact wpAny_execs_cons (hx pins s1 σ H1 N E XE _ I1 q1 hE fun σ' H2 s2 n I2=>wpAny_execs_nil (hn σ' H2 s2 n I2))
  | false=>exact wpAny_execs_cons (hy pins s1 σ H1 N E XE _ I1 q1 hE fun σ' H2 s2 n I2=>wpAny_execs_nil (hn σ' H2 s2 n I2))
end
end L2
namespace L2
open PySem PySem.Spec PyProof.Rows
section
variable {κ:Type} [DecidableEq κ]
def Ux (kvs:List (κ × V)) (k:κ):Option V:=(kvs.find? fun kv=>decide (kv.1=k)).map (·.2)
def putK (kvs:List (κ × V)) (k:κ) (v:V):List (κ × V):=
  if(kvs.any fun kv=>decide (kv.1=k))=true then kvs.map (fun kv=>if kv.1=k then(kv.1,v)else kv)else kvs++ [(k,v)]
def Aa2 (kvs:List (κ × V)) (k:κ):List (κ × V):=kvs.filter fun kv=>decide (kv.1≠k)
theorem Ob {p:κ × V}{r:List (κ × V)}{k:κ} (e:p.1=k):Ux (p::r) k=some p.2:=by simp [Ux,List.find?_cons,e]
theorem Oa {p:κ × V}{r:List (κ × V)}{k:κ} (e:¬p.1=k):Ux (p::r) k=Ux r k:=by simp [Ux,List.find?_cons,e]
theorem Ti (k:κ):∀kvs:List (κ × V),(kvs.any fun kv=>decide (kv.1=k))=(Ux kvs k).isSome
  | []=>rfl
  | p::r=>by
    rw [List.any_cons]
    by_cases e:p.1=k
    . simp only [Ob e,decide_eq_true e,Bool.true_or,Option.isSome_some]
    . rw [Oa e,decide_eq_false e,Bool.false_or];exact Ti k r
theorem X3.isSome_eq {o:Option V}{u:Option Value} (r:X3 o u):o.isSome=u.isSome:=by
  cases o with
  | none=>cases u with
    | none=>rfl
    | some _=>exact(show False from r).elim
  | some _=>cases u with
    | none=>exact(show False from r).elim
    | some _=>rfl
theorem X3.getD {o:Option V}{u:Option Value}{d:V}{d':Value} (r:X3 o u) (rd:RelV d d'):RelV (o.getD d) (u.getD d'):=by
  cases o with
  | none=>cases u with
    | none=>exact rd
    | some _=>exact(show False from r).elim
  | some _=>cases u with
    | none=>exact(show False from r).elim
    | some _=>exact r
theorem KV.val {kvs:List (κ × V)}{vs:List (κ × Value)} (r:KV kvs vs) (k:κ):X3 (Ux kvs k) (valueAt vs k):=by
  unfold KV at r
  induction r with
  | nil=>exact True.intro
  | @cons p q ps qs h t ih=>
    obtain⟨h1,h2⟩:=h
    by_cases e:p.1=k
    . have e':q.1=k:=h1.symm.trans e
      have b:valueAt (q::qs) k=some q.2:=by simp [valueAt,List.find?_cons,e']
      rw [Ob e,b];exact h2
    . have e':¬q.1=k:=fun z=>e (h1.trans z)
      have b:valueAt (q::qs) k=valueAt qs k:=by simp [valueAt,List.find?_cons,e']
      rw [Oa e,b];exact ih
theorem KV.any {kvs:List (κ × V)}{vs:List (κ × Value)} (r:KV kvs vs) (k:κ):(kvs.any fun kv=>decide (kv.1=k))=vs.any fun kv=>decide (kv.1=k):=by
  unfold KV at r
  induction r with
  | nil=>rfl
  | cons h t ih=>rw [List.any_cons,List.any_cons,ih,h.1]
theorem KV.repl {kvs:List (κ × V)}{vs:List (κ × Value)} (r:KV kvs vs) (k:κ) {y:V}{u:Value} (ry:RelV y u):
    KV (kvs.map fun kv=>if kv.1=k then(kv.1,y)else kv) (vs.map fun kv=>if kv.1=k then(kv.1,u)else kv):=by
  unfold KV at r ⊢
  induction r with
  | nil=>exact .nil
  | @cons p q ps qs h t ih=>
    rw [List.map_cons,List.map_cons]
    refine .cons ?_ ih
    obtain⟨h1,h2⟩:=h
    by_cases e:p.1=k
    . rw [if_pos e,if_pos (h1.symm.trans e)];exact⟨h1,ry⟩
    . rw [if_neg e,if_neg (fun z=>e (h1.trans z))];exact⟨h1,h2⟩
theorem KV.put {kvs:List (κ × V)}{vs:List (κ × Value)} (r:KV kvs vs) (k:κ) {y:V}{u:Value} (ry:RelV y u):KV (putK kvs k y) (stored vs k u):=by
  unfold putK stored
  rw [r.any k]
  by_cases e:(vs.any fun kv=>decide (kv.1=k))=true
  . rw [if_pos e,if_pos e];exact r.repl k ry
  . rw [if_neg e,if_neg e];exact Paired.snoc r ⟨rfl,ry⟩
theorem KV.drop {kvs:List (κ × V)}{vs:List (κ × Value)} (r:KV kvs vs) (k:κ):KV (Aa2 kvs k) (without vs k):=by
  unfold KV at r ⊢
  unfold Aa2 without
  induction r with
  | nil=>exact .nil
  | @cons p q ps qs h t ih=>
    obtain⟨h1,h2⟩:=h
    rw [List.filter_cons,List.filter_cons]
    by_cases e:p.1=k
    . have a:¬decide (p.1≠k)=true:=by simp [e]
      have b:¬decide (q.1≠k)=true:=by simp [h1.symm.trans e]
      rw [if_neg a,if_neg b];exact ih
    . have e':¬q.1=k:=fun z=>e (h1.trans z)
      have a:decide (p.1≠k)=true:=by simp [e]
      have b:decide (q.1≠k)=true:=by simp [e']
      rw [if_pos a,if_pos b];exact .cons ⟨h1,h2⟩ ih
theorem KV.length {kvs:List (κ × V)}{vs:List (κ × Value)} (r:KV kvs vs):kvs.length=vs.length:=Paired.length r
end
abbrev KT (H:Hp):List (List Key × V)->List (List Key × Addr × Value)->Prop:=Paired fun p q=>p.1=q.1/\H q.2.1=some (.tup (p.1.map kV))/\RelV p.2 q.2.2
theorem KT.val {H:Hp}{kvs:List (List Key × V)}{xs:List (List Key × Addr × Value)} (r:KT H kvs xs) (k:List Key):X3 (Ux kvs k) ((atKey xs k).map (·.2)):=by
  induction r with
  | nil=>exact True.intro
  | @cons p q ps qs h t ih=>
    obtain⟨h1,_,h2⟩:=h
    by_cases e:p.1=k
    . have e':q.1=k:=h1.symm.trans e
      have b:atKey (q::qs) k=some q.2:=by simp [atKey,List.find?_cons,e']
      rw [Ob e,b];exact h2
    . have e':¬q.1=k:=fun z=>e (h1.trans z)
      have b:atKey (q::qs) k=atKey qs k:=by simp [atKey,List.find?_cons,e']
      rw [Oa e,b];exact ih
theorem KT.repl {H:Hp}{kvs:List (List Key × V)}{xs:List (List Key × Addr × Value)} (r:KT H kvs xs) (k:List Key) {y:V}{u:Value} (ry:RelV y u):
    KT H (kvs.map fun kv=>if kv.1=k then(kv.1,y)else kv) (xs.map (putAt k u)):=by
  induction r with
  | nil=>exact .nil
  | @cons p q ps qs h t ih=>
    rw [List.map_cons,List.map_cons]
    refine .cons ?_ ih
    obtain⟨h1,h2,h3⟩:=h
    unfold putAt
    by_cases e:p.1=k
    . rw [if_pos e,if_pos (h1.symm.trans e)];exact⟨h1,h2,ry⟩
    . rw [if_neg e,if_neg (fun z=>e (h1.trans z))];exact⟨h1,h2,h3⟩
theorem KT.put {H:Hp}{kvs:List (List Key × V)}{xs:List (List Key × Addr × Value)} (r:KT H kvs xs) (k:List Key) {b:Addr}{y:V}{u:Value} (hb:H b=some (.tup (k.map kV))) (ry:RelV y u):
    KT H (putK kvs k y) (storedH xs k b u):=by
  have e:(kvs.any fun kv=>decide (kv.1=k))=(atKey xs k).isSome:=by
    rw [Ti,(r.val k).isSome_eq,Option.isSome_map]
  unfold putK storedH
  rw [e]
  by_cases q:(atKey xs k).isSome=true
  . rw [if_pos q,if_pos q];exact r.repl k ry
  . rw [if_neg q,if_neg q];exact Paired.snoc r ⟨rfl,hb,ry⟩
theorem KT.keeps {H H':Hp}{kvs:List (List Key × V)}{xs:List (List Key × Addr × Value)} (r:KT H kvs xs) (ht:∀b ys,H b=some (.tup ys)->H' b=some (.tup ys)):KT H' kvs xs:=
  Paired.mapP r fun _ _ z=>⟨z.1,ht _ _ z.2.1,z.2.2⟩
def Y0 (H:Hp) (a:Addr) (y:V) (r:Option V):Prop:=
  (∃kvs k,Rd H a (.dK kvs)/\y=kV k/\r=Ux kvs k)\/∃kvs k b,Rd H a (.dT kvs)/\y= .ref b/\H b=some (.tup (k.map kV))/\r=Ux kvs k
def Aam (H:Hp) (a:Addr) (y v:V) (H':Hp):Prop:=
  (∃kvs k,H a=some (.dK kvs)/\y=kV k/\kvs.length<sizeLine/\H'=upd H a (.dK (putK kvs k v)))\/
  ∃kvs k b,H a=some (.dT kvs)/\y= .ref b/\H b=some (.tup (k.map kV))/\kvs.length<sizeLine/\H'=upd H a (.dT (putK kvs k v))
theorem Y0.k {H:Hp}{a:Addr}{kvs:List (Key × V)}{k:Key} (e:H a=some (.dK kvs)):Y0 H a (kV k) (Ux kvs k):= .inl ⟨kvs,k,.inl e,rfl,rfl⟩
theorem Y0.t {H:Hp}{a b:Addr}{kvs:List (List Key × V)}{k:List Key} (e:H a=some (.dT kvs)) (eb:H b=some (.tup (k.map kV))):Y0 H a (.ref b) (Ux kvs k):= .inr ⟨kvs,k,b,.inl e,rfl,eb,rfl⟩
theorem Aam.k {H:Hp}{a:Addr}{kvs:List (Key × V)}{k:Key}{v:V} (e:H a=some (.dK kvs)) (hl:kvs.length<sizeLine):Aam H a (kV k) v (upd H a (.dK (putK kvs k v))):= .inl ⟨kvs,k,e,rfl,hl,rfl⟩
theorem Aam.t {H:Hp}{a b:Addr}{kvs:List (List Key × V)}{k:List Key}{v:V} (e:H a=some (.dT kvs)) (eb:H b=some (.tup (k.map kV))) (hl:kvs.length<sizeLine):
    Aam H a (.ref b) v (upd H a (.dT (putK kvs k v))):= .inr ⟨kvs,k,b,e,rfl,eb,hl,rfl⟩
def Acn (td ty:TE):TE:=fun σ H Q=>td σ H fun x H1=>ty σ H1 fun y H2=>∃a v,x= .ref a/\Y0 H2 a y (some v)/\Q v H2
def Ac8 (td ty tv:TE):TS:=fun D σ H=>tv σ H fun v H1=>td σ H1 fun x H2=>ty σ H2 fun y H3=>∃a H4,x= .ref a/\Aam H3 a y v H4/\D.nx σ H4
def Abl:TE:=fun _ H Q=>∀p,H p=none->Q (.ref p) (upd H p (.dT []))
structure M1 (X:Cx) (o:Expr) (m:Str) (apos:Pos) (e:Expr) (cpos:Pos):Prop where
  base:attributeBase o m X.env (eval o X.env)=eval o X.env
  few:((backTo cpos (starEach [e] X.env)).all (fun x=> !x.1)&&(backToKw cpos (keywordEach [] X.env)).all (fun x=>x.1.isSome)
    &&decide (([e]:List Expr).length+([]:List Keyword).length+(if([]:List Keyword).isEmpty then 0 else 1)<30))=true
  line:(apos.endLine==cpos.line)=true
  trees:backTo cpos (starEach [e] X.env)=[(false,eval e X.env)]
structure M2 (X:Cx) (o:Expr) (m:Str) (apos:Pos) (e f:Expr) (cpos:Pos):Prop where
  base:attributeBase o m X.env (eval o X.env)=eval o X.env
  few:((backTo cpos (starEach [e,f] X.env)).all (fun x=> !x.1)&&(backToKw cpos (keywordEach [] X.env)).all (fun x=>x.1.isSome)
    &&decide (([e,f]:List Expr).length+([]:List Keyword).length+(if([]:List Keyword).isEmpty then 0 else 1)<30))=true
  line:(apos.endLine==cpos.line)=true
  trees:backTo cpos (starEach [e,f] X.env)=[(false,eval e X.env),(false,eval f X.env)]
def IsD (H:Hp) (a:Addr):Prop:=(∃kvs,Rd H a (.dK kvs))\/∃kvs,Rd H a (.dT kvs)
def Aa8 (td ty tx:TE):TE:=fun σ H Q=>td σ H fun x H1=>∃a,x= .ref a/\IsD H1 a/\ty σ H1 fun y H2=>tx σ H2 fun z H3=>∃o,Y0 H3 a y o/\Q (o.getD z) H3
end L2
namespace L2
open PySem PySem.Spec PyProof.Rows
section
variable {td ty tx tv:TE}{σ:St}{H:Hp}{Q:VK}{D:Ends}
theorem Jk:Acn td ty σ H Q=td σ H fun x H1=>ty σ H1 fun y H2=>∃a v,x= .ref a/\Y0 H2 a y (some v)/\Q v H2:=rfl
theorem Fl:Aa8 td ty tx σ H Q=td σ H fun x H1=>∃a,x= .ref a/\IsD H1 a/\ty σ H1 fun y H2=>tx σ H2 fun z H3=>∃o,Y0 H3 a y o/\Q (o.getD z) H3:=rfl
theorem Kg:Ac8 td ty tv D σ H=tv σ H fun v H1=>td σ H1 fun x H2=>ty σ H2 fun y H3=>∃a H4,x= .ref a/\Aam H3 a y v H4/\D.nx σ H4:=rfl
end
end L2
namespace L2
open PySem PySem.Spec PyProof.Rows
theorem Xl {t1 t2:Bool}{K:PySem.W.Frag}{a b:Addr}{xs ys:List V}{H1:Hp}{p:Addr}{cσ:St}{g:TG}{te:TE}{Q:VK} (n:Nat) (hn:n=min xs.length ys.length) (f:Nat->V) (hz:n<=sizeLine) (hp:H1 p=none)
    (wx:∀H',Same H1 H'->SqB t1 K H' a xs) (wy:∀H',Same H1 H'->SqB t2 K H' b ys)
    (step:∀(i:Nat) (H':Hp) (q:Addr) (R:VK),i<n->Same H1 H'->H' q=some (.tup [xs.getD i .non,ys.getD i .non])->(∀H6,Same H' H6->R (f i) H6)->g (.ref q) cσ H' fun σ4 H4=>Kp cσ σ4/\te σ4 H4 R)
    (done:∀H',Same H1 H'->H' p=some (.lst ((List.range n).map f))->Q (.ref p) H'):cIn (Zt t1 t2 K a b) cσ g Fg te Q H1 p:=by
  have su:∀ {H':Hp}{o:HO},Same H1 H'->Same H1 (upd H' p o):=fun {H' o} s b u e=>by
    rw [Al (Ai e hp)]
    exact s b u e
  refine⟨fun i m acc H'=>m=n-i/\i<=n/\acc=(List.range i).map f/\H' p=some (.lst acc)/\Same H1 H',⟨n,by simp,Nat.zero_le _,by simp,Ac,su (Same.refl _)⟩,?_⟩
  rintro i m acc H' ⟨rfl,hi,rfl,hH,s⟩
  by_cases he:i=n
  . subst he
    exact .inl ⟨⟨xs,ys,wx _ s,wy _ s,by omega⟩,done _ s hH⟩
  . have hl:i<n:=by omega
    have ex:xs[i]? =some (xs.getD i .non):=by rw [List.getD_eq_getElem?_getD,List.getElem?_eq_getElem (by omega)];rfl
    have ey:ys[i]? =some (ys.getD i .non):=by rw [List.getD_eq_getElem?_getD,List.getElem?_eq_getElem (by omega)];rfl
    refine .inr ⟨⟨xs,ys,_,_,wx _ s,wy _ s,ex,ey⟩,fun x H3 y=> ?_⟩
    obtain⟨q,u,v,hu,hv,hq,rfl,rfl⟩:=y
    have eu:=hu _ (wx _ s)
    have ev:=hv _ (wy _ s)
    rw [ex]at eu
    rw [ey]at ev
    cases eu
    cases ev
    have sq:=Same.upd hq (.tup [xs.getD i .non,ys.getD i .non])
    have q0:=step i (upd H' q (.tup [xs.getD i .non,ys.getD i .non])) q (fun y H6=>H6 p=some (.lst ((List.range i).map f))/\((List.range i).map f).length<sizeLine/\∃m',m'<n-i/\m'=n-(i+1)/\i+1<=n/\(List.range i).map f++ [y]=(List.range (i+1)).map f/\
        upd H6 p (.lst ((List.range i).map f++ [y])) p=some (.lst ((List.range i).map f++ [y]))/\Same H1 (upd H6 p (.lst ((List.range i).map f++ [y])))) hl (s.trans sq) Ac
      (fun H6 s6=>⟨s6 _ _ (sq _ _ hH),by rw [List.length_map,List.length_range];omega,_,by omega,rfl,hl,by rw [List.range_succ,List.map_append];rfl,Ac,su ((s.trans sq).trans s6)⟩)
    have eq:∀(R:VK) (B:Hp->Prop),(fun σ4 H4=>Kp cσ σ4/\Fg σ4 H4 fun b H5=>if b=true then te σ4 H5 R else B H5)=(fun σ4 H4=>Kp cσ σ4/\te σ4 H4 R):=fun R B=>by
      funext σ4 H4
      simp only [Fg,if_pos]
    rw [eq]
    exact q0
end L2
namespace L2
open PySem PySem.Spec PyProof.Rows
def Acl (C:Addr) (tb:TB) (ts:Addr->Obj->TS):TS:=fun D σ H=>tb σ H (fun σ' H'=>D.nx σ' H')
  (fun c _ H2=>c= .ref C/\∀x oe,oe.cls= .ref C->ts x oe D σ H2)
theorem Ju {C:Addr}{tb:TB}{ts:Addr->Obj->TS}{D:Ends}{σ:St}{H:Hp}:Acl C tb ts D σ H=tb σ H (fun σ' H'=>D.nx σ' H')
  (fun c _ H2=>c= .ref C/\∀x oe,oe.cls= .ref C->ts x oe D σ H2):=rfl
end L2
namespace L2
open PySem PySem.W PyProof.Rows
structure LO (n:Nat) (lt:Nat->Nat->Bool):Prop where
  tri:∀i j,i<n->j<n->i≠j->lt i j= !lt j i
  trans:∀i j k,i<n->j<n->k<n->lt i j=true->lt j k=true->lt i k=true
def KOk {α:Type} (lt:Nat->Nat->Bool) (n:Nat):KasT α->(α->Prop)->Prop
  | .ret a,P=>P a
  | .ask i j k,P=>i<n/\j<n/\i≠j/\KOk lt n (k (lt i j)) P
theorem KOk.bind {α β:Type}{lt:Nat->Nat->Bool}{n:Nat}{f:α->KasT β}{P:β->Prop}:∀ {t:KasT α},KOk lt n t (fun a=>KOk lt n (f a) P)->KOk lt n (t.bind f) P
  | .ret _,h=>h
  | .ask _ _ k,h=>⟨h.1,h.2.1,h.2.2.1,KOk.bind (t:=k _) h.2.2.2⟩
theorem KOk.mono {α:Type}{lt:Nat->Nat->Bool}{n:Nat}{P Q:α->Prop} (hq:∀a,P a->Q a):∀ {t:KasT α},KOk lt n t P->KOk lt n t Q
  | .ret a,h=>hq a h
  | .ask _ _ k,h=>⟨h.1,h.2.1,h.2.2.1,KOk.mono hq (t:=k _) h.2.2.2⟩
def aT (p:Array Nat) (i:Nat):Nat:=p.getD i 0
structure PM (n:Nat) (p:Array Nat):Prop where
  sz:p.size=n
  lt:∀i,i<n->aT p i<n
  ne:∀i j,i<n->j<n->i≠j->aT p i≠aT p j
  pm:p.toList.Perm (List.range n)
theorem PM.of {n:Nat}{p:Array Nat} (h:p.toList.Perm (List.range n)):PM n p:=by
  have sz:p.size=n:=by
    have:=h.length_eq
    simpa using this
  have nd:p.toList.Nodup:=h.nodup_iff.mpr List.nodup_range
  refine⟨sz,fun i hi=> ?_,fun i j hi hj hn e=> ?_,h⟩
  . have hi':i<p.size:=by omega
    have e:aT p i=p[i]:=by simp [aT,hi']
    have m:p[i]∈p.toList:=by simp
    rw [e]
    exact List.mem_range.mp (h.mem_iff.mp m)
  . have hi':i<p.toList.length:=by rw [Array.length_toList];omega
    have hj':j<p.toList.length:=by rw [Array.length_toList];omega
    have e1:aT p i=p.toList[i]:=by simp [aT,show i<p.size by omega]
    have e2:aT p j=p.toList[j]:=by simp [aT,show j<p.size by omega]
    have pw:=List.pairwise_iff_getElem.mp nd
    have e3:p.toList[i]=p.toList[j]:=by rw [<-e1,<-e2,e]
    rcases Nat.lt_or_gt_of_ne hn with l | l
    . exact pw i j hi' hj' l e3
    . exact pw j i hj' hi' l e3.symm
theorem PM.start (n:Nat):PM n (List.toArray (List.range n)):=PM.of (by simp)
end L2
namespace L2
open PySem PySem.Spec PySem.Calls PyProof.Rows PySem.W
abbrev Prt:=Addr × Addr × List Int × V
def Prt.ks (t:Prt):List Int:=t.2.2.1
structure Adf (K:PySem.W.Frag) (H:Hp) (t:Prt):Prop where
  pr:SqT K H t.1 [.ref t.2.1,t.2.2.2]
  tu:SqT K H t.2.1 (t.ks.map V.int)
structure Ab4 (P:Program) (w:World) (h:Heap) (t:Prt):Prop where
  pr:∃o xs n u,h.get? t.1=some o/\o.cls= .type "tuple"/\o.data= .seq xs n/\xs.toList=[.ref t.2.1,u]
  tu:∃its:List Value,IsTup h t.2.1 its.toArray/\IntsAre its t.ks
theorem Ab4.keeps {P:Program}{w:World}{h h':Heap}{a:Addr}{t:Prt} (x:Ab4 P w h t) (k:∀b o,b≠a->h.get? b=some o->h'.get? b=some o) (h1:t.1≠a) (h2:t.2.1≠a):Ab4 P w h' t:=by
  obtain⟨⟨o,xs,n,u,e,r⟩,its,⟨ot,et,rt⟩,i⟩:=x
  exact⟨⟨o,xs,n,u,k _ _ h1 e,r⟩,its,⟨ot,k _ _ h2 et,rt⟩,i⟩
theorem Adf.at {X:Cx}{pins:List (Addr × Obj)}{σ:St}{H:Hp}{s:Shared}{t:Prt} (I:Inv X pins σ H s) (x:Adf X.K H t):Ab4 X.prog X.w s.heap t/\t.1<s.heap.objs.size/\t.2.1<s.heap.objs.size:=by
  obtain⟨its,r,⟨o,e,c,n,d⟩,_⟩:=I.tuple x.pr
  obtain⟨its2,r2,p2,_⟩:=I.tuple x.tu
  refine⟨⟨?_,its2,p2,intsAre_of r2⟩,Heap.lt_size e,p2.lt⟩
  cases r with
  | cons r1 r'=>
    cases r1
    cases r' with
    | cons r3 r4=>
      cases r4
      exact⟨o,_,n,_,e,c,d,rfl⟩
end L2
namespace L2
open PySem PySem.Spec PyProof.Rows
def Ade (d:Addr) (od:Obj) (kvs:List (List Key × V)):It:=
  ⟨fun i H=>H d=some (.frz od (.dT kvs))/\i<kvs.length,
   fun i H x H'=>∃p b k v,kvs[i]? =some (k,v)/\H b=some (.tup (k.map kV))/\H p=none/\x= .ref p/\H'=upd H p (.tup [.ref b,v]),
   fun i H=>H d=some (.frz od (.dT kvs))/\kvs.length<=i⟩
structure M0 (X:Cx) (o:Expr) (m:Str) (apos cpos:Pos):Prop where
  base:attributeBase o m X.env (eval o X.env)=eval o X.env
  few:((backTo cpos (starEach [] X.env)).all (fun x=> !x.1)&&(backToKw cpos (keywordEach [] X.env)).all (fun x=>x.1.isSome)
    &&decide (([]:List Expr).length+([]:List Keyword).length+(if([]:List Keyword).isEmpty then 0 else 1)<30))=true
  line:(apos.endLine==cpos.line)=true
  trees:backTo cpos (starEach [] X.env)=[]
def Abf (td:TE):TI:=fun σ H R=>td σ H fun x H1=>∃a kvs,x= .ref a/\H1 a=some (.dT kvs)/\∀od,R (Ade a od kvs) (upd H1 a (.frz od (.dT kvs)))
theorem Ec {td:TE}{σ:St}{H:Hp}{R:It->Hp->Prop}:Abf td σ H R=td σ H (fun x H1=>∃a kvs,x= .ref a/\H1 a=some (.dT kvs)/\∀od,R (Ade a od kvs) (upd H1 a (.frz od (.dT kvs)))):=rfl
theorem Fv {σ:St}{H:Hp}{Q:VK}:Abl σ H Q=∀p,H p=none->Q (.ref p) (upd H p (.dT [])):=rfl
end L2
namespace L2
open PySem PySem.Spec PySem.Calls PyProof.Rows PySem.W
abbrev Tpt:=Addr × List Int
structure Ac2 (h:Heap) (t:Tpt):Prop where
  tu:∃its:List Value,IsTup h t.1 its.toArray/\IntsAre its t.2
theorem Ac2.keeps {h h':Heap}{a:Addr}{t:Tpt} (x:Ac2 h t) (k:∀b o,b≠a->h.get? b=some o->h'.get? b=some o) (h1:t.1≠a):Ac2 h' t:=by
  obtain⟨its,⟨ot,et,rt⟩,i⟩:=x
  exact⟨its,⟨ot,k _ _ h1 et,rt⟩,i⟩
end L2
namespace L2
open PySem PySem.Spec PyProof.Rows PySem.W
def Acw (K:PySem.W.Frag) (t:TA) (td:TE):TE:=fun σ H Q=>t σ H fun vs H1=>td σ H1 fun d H2=>∃(a:Addr) (ns:List Int),vs=[.ref a]/\SqL K H2 a (ns.map V.int)/\(ns=[]->Q d H2)/\(ns≠ []->∀M,M∈ns->(∀x∈ns,x<=M)->Q (.int M) H2)
theorem Jq {K:PySem.W.Frag}{t:TA}{td:TE}{σ:St}{H:Hp}{Q:VK}:Acw K t td σ H Q=t σ H (fun vs H1=>td σ H1 fun d H2=>∃(a:Addr) (ns:List Int),vs=[.ref a]/\SqL K H2 a (ns.map V.int)/\(ns=[]->Q d H2)/\(ns≠ []->∀M,M∈ns->(∀x∈ns,x<=M)->Q (.int M) H2)):=rfl
end L2
namespace L2
open PySem PySem.Spec PyProof.Rows
set_option maxRecDepth 100000
section
variable {X:Cx}{e:Expr}{ta:TA}{p p2 pos pos2:Pos}
def Adv (K:PySem.W.Frag) (ta:TA):TE:=fun σ H Q=>ta σ H fun vs H1=>∃a xs,vs=[.ref a]/\SqL K H1 a xs/\∀l,H1 l=none->Q (.ref l) (upd H1 l (.lst xs.reverse))
theorem Py {K:PySem.W.Frag}{σ:St}{H:Hp}{Q:VK}:Adv K ta σ H Q=ta σ H (fun vs H1=>∃a xs,vs=[.ref a]/\SqL K H1 a xs/\∀l,H1 l=none->Q (.ref l) (upd H1 l (.lst xs.reverse))):=rfl
end
end L2
namespace L2
open PySem PySem.Spec PyProof.Rows
theorem Ri:∀(names:List (Str × NameKind)) (n:Nat) (acc:List (Str × Addr)) (y:Str) (c:Addr),(cellsFrom n names acc).lookup y=some c->acc.lookup y=some c\/(n<=c/\(y,NameKind.cell)∈names)
  | [],_,_,_,_,h=> .inl h
  | (x,k)::r,n,acc,y,c,h=>by
    unfold cellsFrom at h
    by_cases hk:(k==NameKind.cell)=true
    . rw [if_pos hk]at h
      have ek:k= .cell:=by simpa using hk
      subst ek
      rcases Ri r (n+1) _ y c h with z | ⟨z,m⟩
      . rw [List.lookup_cons]at z
        cases e:y==x with
        | true=>
          rw [e]at z
          have e1:y=x:=by simpa using e
          subst e1
          exact .inr ⟨Nat.le_of_eq (Option.some.inj z),List.mem_cons_self⟩
        | false=>
          rw [e]at z
          exact .inl z
      . exact .inr ⟨by omega,List.mem_cons_of_mem _ m⟩
    . rw [if_neg hk]at h
      rcases Ri r n acc y c h with z | ⟨z,m⟩
      . exact .inl z
      . exact .inr ⟨z,List.mem_cons_of_mem _ m⟩
theorem Wg:∀(names:List (Str × NameKind)) (n:Nat) (acc:List (Str × Addr)) (y:Str),¬(y,NameKind.cell)∈names->(cellsFrom n names acc).lookup y=acc.lookup y
  | [],_,_,_,_=>rfl
  | (x,k)::r,n,acc,y,h=>by
    have hr:¬(y,NameKind.cell)∈r:=fun z=>h (List.mem_cons_of_mem _ z)
    unfold cellsFrom
    by_cases hk:(k==NameKind.cell)=true
    . have ek:k= .cell:=by simpa using hk
      subst ek
      rw [if_pos hk,Wg r _ _ y hr,List.lookup_cons]
      cases e:y==x with
      | true=>
        have e1:y=x:=by simpa using e
        subst e1
        exact absurd List.mem_cons_self h
      | false=>rfl
    . rw [if_neg hk,Wg r _ _ y hr]
theorem Vr:∀(names:List (Str × NameKind)) (n:Nat) (acc:List (Str × Addr)) (y:Str),((y,NameKind.cell)∈names\/∃c,acc.lookup y=some c)->∃c,(cellsFrom n names acc).lookup y=some c
  | [],_,_,_,h=>by
    rcases h with h | h
    . cases h
    . exact h
  | (x,k)::r,n,acc,y,h=>by
    unfold cellsFrom
    by_cases hk:(k==NameKind.cell)=true
    . rw [if_pos hk]
      refine Vr r _ _ y ?_
      rw [List.lookup_cons]
      cases e:y==x with
      | true=>exact .inr ⟨n,rfl⟩
      | false=>
        rcases h with h | h
        . rcases List.mem_cons.mp h with z | z
          . cases z
            simp at e
          . exact .inl z
        . exact .inr h
    . rw [if_neg hk]
      refine Vr r _ _ y ?_
      rcases h with h | h
      . rcases List.mem_cons.mp h with z | z
        . cases z
          exact absurd rfl hk
        . exact .inl z
      . exact .inr h
theorem U7:∀(names:List (Str × NameKind)) (n lo:Nat) (acc:List (Str × Addr)) (y:Str) (c:Addr),lo<=n->((y,NameKind.cell)∈names\/∀d,acc.lookup y=some d->lo<=d)->(cellsFrom n names acc).lookup y=some c->lo<=c
  | [],_,_,_,_,_,_,h,e=>by
    rcases h with h | h
    . cases h
    . exact h _ e
  | (x,k)::r,n,lo,acc,y,c,hl,h,e=>by
    unfold cellsFrom at e
    by_cases hk:(k==NameKind.cell)=true
    . rw [if_pos hk]at e
      refine U7 r (n+1) lo _ y c (by omega) ?_ e
      cases ex:y==x with
      | true=>
        refine .inr fun d hd=> ?_
        rw [List.lookup_cons,ex]at hd
        have:n=d:=Option.some.inj hd
        omega
      | false=>
        rcases h with h | h
        . rcases List.mem_cons.mp h with z | z
          . cases z
            simp at ex
          . exact .inl z
        . refine .inr fun d hd=>h d ?_
          rw [List.lookup_cons,ex]at hd
          exact hd
    . rw [if_neg hk]at e
      refine U7 r n lo acc y c hl ?_ e
      rcases h with h | h
      . rcases List.mem_cons.mp h with z | z
        . cases z
          exact absurd rfl hk
        . exact .inl z
      . exact .inr h
theorem W0:∀(names:List (Str × NameKind)) (n:Nat) (acc:List (Str × Addr)),(∀x y c,acc.lookup x=some c->acc.lookup y=some c->x=y)->(∀x c,acc.lookup x=some c->c<n)->
    ∀x y c,(cellsFrom n names acc).lookup x=some c->(cellsFrom n names acc).lookup y=some c->x=y
  | [],_,_,h,_=>h
  | (z,k)::r,n,acc,h,hb=>by
    unfold cellsFrom
    by_cases hk:(k==NameKind.cell)=true
    . rw [if_pos hk]
      have lk:∀x c,((z,n)::acc).lookup x=some c->(x=z/\c=n)\/(acc.lookup x=some c):=fun x c e=>by
        rw [List.lookup_cons]at e
        cases ex:x==z with
        | true=>
          rw [ex]at e
          exact .inl ⟨by simpa using ex,(Option.some.inj e).symm⟩
        | false=>
          rw [ex]at e
          exact .inr e
      refine W0 r (n+1) _ (fun x y c e1 e2=> ?_) fun x c e=> ?_
      . rcases lk x c e1 with⟨a1,a2⟩ | a1
        . rcases lk y c e2 with⟨b1,_⟩ | b1
          . rw [a1,b1]
          . exact absurd (hb y c b1) (by rw [a2];exact Nat.lt_irrefl _)
        . rcases lk y c e2 with⟨_,b2⟩ | b1
          . exact absurd (hb x c a1) (by rw [b2];exact Nat.lt_irrefl _)
          . exact h x y c a1 b1
      . rcases lk x c e with⟨_,a2⟩ | a1
        . rw [a2]
          exact Nat.lt_succ_self _
        . exact Nat.lt_succ_of_lt (hb x c a1)
    . rw [if_neg hk]
      exact W0 r n acc h hb
theorem R6:∀(names:List (Str × NameKind)) (h:Heap) (acc:List (Str × Addr)) (y:Str) (c:Addr),(cellsFrom h.objs.size names acc).lookup y=some c->acc.lookup y=some c\/(pushCells h names).IsCell c none
  | [],_,_,_,_,e=> .inl e
  | (x,k)::r,h,acc,y,c,e=>by
    unfold cellsFrom at e
    unfold pushCells
    by_cases hk:(k==NameKind.cell)=true
    . rw [if_pos hk]at e ⊢
      rw [<-Heap.size_push h { cls:= .type "cell",data:= .cell none}]at e
      rcases R6 r _ _ y c e with z | z
      . rw [List.lookup_cons]at z
        cases ex:y==x with
        | true=>
          rw [ex]at z
          have:h.objs.size=c:=Option.some.inj z
          subst this
          exact .inr ⟨_,pushCells_keeps r _ _ _ (Heap.get?_push_size _ rfl),rfl⟩
        | false=>
          rw [ex]at z
          exact .inl z
      . exact .inr z
    . rw [if_neg hk]at e ⊢
      exact R6 r h acc y c e
theorem Abn {M:Model}{A:Around}{E:Value->Shared->Prop}{s:Shared}{scope:Scope}{g:Addr}{cl:List (Str × Addr)}{qual:Str}{env:Env}{Q:Env->Shared->Prop}
    (q:Q { scope:=scope,locals:=s.heap.objs.size,globals:=g,cells:=cellsFrom (s.heap.objs.size+1) scope.names cl,qual:=qual,func:=none,code:=env.code,frame:=env.frame,builtins:=env.builtins} { s with heap:=pushCells (s.heap.push { cls:= .type "dict",data:= .dict #[]}) scope.names}):
    wpAny M A (newFunctionEnv scope g cl [] qual none .none (some env)) Q E s:=by
  simp only [newFunctionEnv,Option.isSome_some,if_true]
  refine wpAny_bind (wpAny_alloc (wpAny_bind (wpAny_layCells _ (fun x k cs=>by cases h:k==NameKind.cell<;>simp [h]) _ _ _ _ ?_)))
  have z:({ s with heap:=s.heap.push { cls:= .type "dict",data:= .dict #[]}}:Shared).heap.objs.size=s.heap.objs.size+1:=Heap.size_push ..
  rw [z]
  refine wpAny_bind ?_
  rw [List.forIn_nil]
  exact wpAny_pure (wpAny_pure q)
def cxD (X:Cx) (N:List Str) (scope:Scope) (ex:List Addr) (s:Shared) (H:Hp):Cx where
  prog:=X.prog
  w:=X.w
  K:=X.K
  mg:=X.mg
  base:=X.base
  A:=X.A
  N:=N
  s₀:=s
  H₀:=H
  env:=compEnvC scope (cellsFrom (s.heap.objs.size+1) scope.names (scope.names.foldl (clF X.env) [])) s.heap.objs.size X.env
  outer:=X.stack
  stack:=X.stack
  ex:=ex
  fn:=fun x=>scope.names.contains (x,NameKind.cell)
  calm:=X.calm
  pn:=[]
  xe:=fun _ _=>False
structure Gx (X:Cx) (ts:List Str) (fs:List (Nat × Str)) (scope:Scope):Prop where
  kind:scope.kind= .function
  names:∀y∈scope.names,y.2= .local ->scope.names.lookup y.1=some .local
  free:∀y∈scope.names,y.2= .free->X.env.kindOf y.1=some .cell\/X.env.kindOf y.1=some .free
  at':∀p∈fs,X.N[p.1]? =some p.2/\(p.2,NameKind.free)∈scope.names/\((relabel scope X.env).names.lookup p.2=some .cell\/(relabel scope X.env).names.lookup p.2=some .free)/\¬(p.2,NameKind.cell)∈scope.names
def rls (sc scope:Scope):Scope:={ scope with names:=rlb sc scope}
def Adm (sc:Scope) (N:List Str) (fs:List (Nat × Str)) (scope:Scope):Bool:=
  (scope.kind== .function)&&(scope.names.all fun y=>y.2 != .local ||scope.names.lookup y.1==some .local)&&
  (scope.names.all fun y=>y.2 != .free||(sc.names.lookup y.1==some .cell||sc.names.lookup y.1==some .free))&&
  fs.all fun p=>N[p.1]? ==some p.2&&(scope.names.contains (p.2,NameKind.free)&&(((rlb sc scope).lookup p.2==some .cell||(rlb sc scope).lookup p.2==some .free)&& !scope.names.contains (p.2,NameKind.cell)))
theorem Gx.of {X:Cx}{ts:List Str}{fs:List (Nat × Str)}{scope sc:Scope}{N:List Str} (e1:X.env.scope=sc) (e2:X.N=N) (h:Adm sc N fs scope=true):Gx X ts fs scope:=by
  unfold Adm at h
  simp only [Bool.and_eq_true,List.all_eq_true,Bool.or_eq_true,bne_iff_ne,beq_iff_eq,List.contains_iff_mem,Bool.not_eq_true']at h
  obtain⟨⟨⟨h1,h3⟩,h4⟩,h5⟩:=h
  refine⟨h1,fun y hy e=> ?_,fun y hy e=> ?_,fun p hp=> ?_⟩
  . rcases h3 y hy with z | z
    . exact absurd e z
    . exact z
  . rcases h4 y hy with z | z
    . exact absurd e z
    . show X.env.scope.names.lookup y.1=_\/X.env.scope.names.lookup y.1=_
      rw [e1]
      exact z
  . obtain⟨a,b,c,d⟩:=h5 p hp
    refine⟨by rw [e2];exact a,b,?_,fun z=> ?_⟩
    . subst e1
      exact c
    . rw [<-List.contains_iff_mem]at z
      rw [z]at d
      cases d
theorem Am.inD {X:Cx}{N1:List Str}{ex:List Addr}{s:Shared}{H:Hp}{ts:List Str}{fs:List (Nat × Str)}{scope scope1 sc:Scope} (e0:X.env.scope=sc) (h:Acd (rls sc scope1) N1 fs scope=true):Am (cxD X N1 scope1 ex s H) ts fs scope:= .of (by subst e0;rfl) rfl h
section
variable {X:Cx}{elt tg iter:Expr}{ifs:List Expr}{scope:Scope}{pos:Pos}{wi:TI}{g:TG}{tt:TT}{te:TE}{ts:List Str}{fs:List (Nat × Str)}
theorem Gx.clos (S:Gx X ts fs scope) (ok:X.Ok):∀x∈scope.names,x.2= .free->∃c,X.env.cells.lookup x.1=some c:=fun x hx hf=>ok.has x.1 (S.free x hx hf)
theorem Gx.sub0 (S:Gx X ts fs scope) (ok:X.Ok) {y:Str}{c:Addr} (h:(scope.names.foldl (clF X.env) []).lookup y=some c):X.env.cells.lookup y=some c:=by
  rcases Od scope.names [] y c (S.clos ok) h with z | z
  . simp at z
  . exact z
theorem Gx.sub (S:Gx X ts fs scope) (ok:X.Ok) {n:Nat}{y:Str}{c:Addr} (h:(cellsFrom n scope.names (scope.names.foldl (clF X.env) [])).lookup y=some c):X.env.cells.lookup y=some c\/n<=c:=by
  rcases Ri _ _ _ _ _ h with z | ⟨z,_⟩
  . exact .inl (S.sub0 ok z)
  . exact .inr z
theorem Uk {pins:List (Addr × Obj)}{σ:St}{H:Hp}{s3 s4:Shared}{ex:List Addr} (S:Gx X ts fs scope) (I:Inv X pins σ H s3)
    (hex:∀b∈ex,Ma X pins H b/\∃o,s3.heap.get? b=some o) (hos:s4.os=s3.os) (hg:s4.gens=s3.gens) (hk:∀b u,s3.heap.get? b=some u->s4.heap.get? b=some u)
    (hn:s4.heap.Ns s3.heap.objs.size fun _=>none) (hce:∀y c,(cellsFrom (s3.heap.objs.size+1) scope.names (scope.names.foldl (clF X.env) [])).lookup y=some c->(scope.names.foldl (clF X.env) []).lookup y=some c\/s4.heap.IsCell c none):Inv (cxD X (cpN ts fs) scope ex s3 H) [] (cpσ ts.length fs σ) H s4:=by
  have ok:=I.ok
  have cl:∀y c,X.env.cells.lookup y=some c->c<s3.heap.objs.size:=fun y c e=>(I.cell y c e).choose_spec.lt
  have noC:∀b∈ex,b≠s3.heap.objs.size:=fun b hb=>by
    obtain⟨_,o,ho⟩:=hex b hb
    exact Nat.ne_of_lt (Heap.lt_size ho)
  refine⟨⟨ok.mod,S.kind,ok.glob,ok.blt,Nat.le_refl _,W0 _ _ _ (fun y z c h1 h2=>ok.inj y z c (S.sub0 ok h1) (S.sub0 ok h2)) (fun y c h=>Nat.lt_succ_of_lt (cl y c (S.sub0 ok h))),fun y hy=> ?_,fun y c h e=>Nat.le_of_succ_le (U7 _ _ _ _ y c (Nat.le_refl _) (.inl (List.contains_iff_mem.mp h)) e),ok.hd,ok.frames,.inl rfl,fun b hb=>⟨noC b hb,fun x c e=>(S.sub ok e).elim ((hex b hb).1.2.2.2.2.1 x c) fun z z2=> ?_⟩,
    I.bs,Nat.le_trans ok.bsz I.sz,fun b o e hb=> ?_,fun b hb=> ?_,I.stack,I.stkFree⟩,hos,by rw [hg];exact I.bare,Un.kept hk,⟨_,hn,fun i x v h1 h2 h3=> ?_⟩,fun y c e=> ?_,I.hok.fresh (Nat.le_refl _),fun y c e=>(S.sub ok e).elim (I.freeC y c) fun z=>I.hok.fresh (Nat.le_of_succ_le z),
    fun p hp=>absurd (show p∈([]:List (Addr × Obj))from hp) (by simp),I.hok.kept hk,?_⟩
  . have z:∃k',(k'=NameKind.cell\/k'= .free)/\(scope.names.map fun(n,k)=>if(k==NameKind.free&&X.env.scope.kind== .function&&X.env.kindOf n==some .cell)then(n,NameKind.cell)else(n,k)).lookup y=some k':=by
      rcases hy with hy | hy
      . exact⟨_,.inl rfl,hy⟩
      . exact⟨_,.inr rfl,hy⟩
    obtain⟨k',hk',hl⟩:=z
    obtain⟨k,hm,h2⟩:=Dq hl
    refine Vr _ _ _ y ?_
    rcases h2 with e | ⟨e,_⟩
    . subst e
      rcases hk' with e | e
      . subst e
        exact .inl hm
      . exact .inr (Iz scope.names [] y (.inl ⟨_,hm,e,rfl⟩))
    . exact .inr (Iz scope.names [] y (.inl ⟨_,hm,e,rfl⟩))
  . subst z2
    obtain⟨_,o,ho⟩:=hex c hb
    have:=Heap.lt_size ho
    exact Nat.lt_irrefl _ (Nat.lt_of_lt_of_le (Nat.lt_succ_of_lt this) z)
  . rcases(hex b hb).1.2.2.2.1 with z | z
    . exact ok.noex b o e z
    . exact absurd (Nat.lt_of_lt_of_le (Heap.lt_size e) (Nat.le_trans ok.bsz z)) (Nat.lt_irrefl _)
  . intro hb2
    rcases List.mem_cons.mp (I.stkSub b hb2)with e | e
    . exact(hex b hb).1.2.1 e
    . exact(hex b hb).1.2.2.1 e
  . unfold cpσ at h2
    by_cases hi:i<ts.length
    . rw [List.getElem?_append_left (by simpa using hi),List.getElem?_replicate]at h2
      split at h2<;>cases h2
    . rw [List.getElem?_append_right (by simpa using hi),List.length_replicate]at h2
      have h1':(cpN ts fs)[i]? =some x:=h1
      unfold cpN at h1'
      rw [List.getElem?_append_right (by omega)]at h1'
      rw [List.getElem?_map]at h1' h2
      cases e:fs[i-ts.length]? with
      | none=>rw [e]at h1';cases h1'
      | some p=>
        rw [e]at h1' h2
        have ex':p.2=x:=Option.some.inj h1'
        have e2:(σ[p.1]?).join=some v:=Option.some.inj h2
        have e3:σ[p.1]? =some (some v):=by
          cases q:σ[p.1]? with
          | none=>rw [q]at e2;cases e2
          | some o=>rw [q]at e2;cases o with | none=>cases e2 | some v'=>cases e2;rfl
        obtain⟨a1,a2,a3,a4⟩:=S.at' p (List.mem_of_getElem? e)
        obtain⟨m,_,hl⟩:=I.loc
        have kd:=S.free _ a2 rfl
        have vis:Vis X.env.scope p.2:=by
          rcases kd with z | z
          . exact .inr (.inl z)
          . exact .inr (.inr z)
        obtain⟨u,r,l⟩:=hl p.1 p.2 v a1 e3 vis
        refine⟨u,r,?_⟩
        rcases l with⟨z,_⟩ | ⟨_,c,hc,hcell⟩
        . rcases kd with q | q
          . rw [q]at z;cases z
          . rw [q]at z;cases z
        . obtain⟨c',hc'⟩:=Iz (env:=X.env) scope.names [] p.2 (.inl ⟨_,a2,rfl,rfl⟩)
          have ec:c'=c:=Option.some.inj ((S.sub0 ok hc').symm.trans hc)
          subst ec
          subst ex'
          refine .inr ⟨?_,c',(Wg _ _ _ _ a4).trans hc',?_⟩
          . exact a3
          . obtain⟨o,ho,hd⟩:=hcell
            exact⟨o,hk _ _ ho,hd⟩
  . rcases hce y c e with z | z
    . obtain⟨v,o,ho,hd⟩:=I.cell y c (S.sub0 ok z)
      exact⟨v,o,hk _ _ ho,hd⟩
    . exact⟨none,z⟩
  . unfold cpσ
    show _=(cpN ts fs).length
    unfold cpN
    simp
theorem Ye {pins:List (Addr × Obj)}{σ σ':St}{H H':Hp}{s3 s5:Shared}{h':Heap}{ex:List Addr} (S:Gx X ts fs scope) (I:Inv X pins σ H s3) (hex:∀b∈ex,Ma X pins H b)
    (J:Inv (cxD X (cpN ts fs) scope ex s3 H) [] σ' H' s5) (sb:Heap.SameBut s3.heap.objs.size s5.heap h'):Inv X pins σ H' { s5 with heap:=h'}:=by
  have nC:H' s3.heap.objs.size=none:=J.free
  have old:∀b o,b≠s3.heap.objs.size->s5.heap.get? b=some o->h'.get? b=some o:=fun b o hb e=>sb.extBut b o hb e
  have lt:∀b o,s3.heap.get? b=some o->b≠s3.heap.objs.size:=fun b o e=>Nat.ne_of_lt (Heap.lt_size e)
  have u:Un (frs X.stack) ex H H' s3.heap s5.heap:=J.base
  have u2:Un (frs X.stack) ex H H' s3.heap h':=
    ⟨fun b o e n hb hx=>old b o (lt b o e) (u.keep b o e n hb hx),fun b o e n hb hx=>by
      obtain⟨sl,q⟩:=u.slot b o e n hb hx
      exact⟨sl,old b _ (lt b o e) q⟩,u.free,fun b o e hx=>by
      obtain⟨o',q⟩:=u.there b o e hx
      exact⟨o',old b o' (lt b o e) q⟩,u.tups,u.frzs,u.tbls⟩
  have hok:HOk X.prog X.w H' h':=fun b o e=>by
    have nb:b≠s3.heap.objs.size:=fun z=>by rw [z,nC]at e;cases e
    refine(J.hok b o e).stay (fun c v hc q=>old c v ?_ q) (fun _ q=>q) fun _ _ q=>q
    rcases hc with z | z
    . rw [z];exact nb
    . intro z2;rw [z2,nC]at z;cases z
  exact I.call' (s':={ s5 with heap:=h'}) (ch:=ex) J.os u2 hok J.bare fun b hb=>⟨(hex b hb).2.2.2.1,(hex b hb).2.1,(hex b hb).2.2.2.2.1,(hex b hb).2.2.2.2.2⟩
theorem Yg {pins:List (Addr × Obj)}{σ:St}{H3:Hp}{s3 s4:Shared}{Q:VK}{R:Result->Shared->Prop}{fp:List Addr}{it p:Addr}{tn:Nat->Heap->Prop}{J:It}{W:Nat->Nat->List V->Hp->Prop}{m0:Nat} (hc:X.calm=true) (S:Gx X ts fs scope)
    (hg:∀ex s H,PG (cxD X (cpN ts fs) scope ex s H) tg g) (ht:∀ex s H,PTs (cxD X (cpN ts fs) scope ex s H) ifs tt) (he:∀ex s H,PE (cxD X (cpN ts fs) scope ex s H) elt te)
    (I3:Inv X pins σ H3 s3) (T:Turn X.prog X.w X.K tg J fp it tn) (hex:∀b∈fp,Ma X pins H3 b) (lt:∀b∈fp,b<s3.heap.objs.size)
    (I4:Inv (cxD X (cpN ts fs) scope fp s3 H3) [] (cpσ ts.length fs σ) H3 s4) (st4:tn 0 s4.heap) (w0:W 0 m0 [] H3)
    (fin:∀H5 s6,Inv (cxD X (cpN ts fs) scope fp s3 H3) [] (cpσ ts.length fs σ) H5 s6->Q (.ref p) H5->R (.ok .next) s6)
    (turn:∀i m acc H2,W i m acc H2->(J.stop i H2/\Q (.ref p) H2)\/(J.go i H2/\∀x H3,J.yld i H2 x H3->g x (cpσ ts.length fs σ) H3 fun σ4 H4=>Kp (cpσ ts.length fs σ) σ4/\tt σ4 H4 fun b H5=>
      if b=true then te σ4 H5 fun y H6=>H6 p=some (.lst acc)/\acc.length<sizeLine/\∃m',m'<m/\W (i+1) m' (acc++ [y]) (upd H6 p (.lst (acc++ [y])))else ∃m',m'<m/\W (i+1) m' acc H5)):
    codeAny (model X.prog X.w) X.A (.compLoop (.ListComp elt [⟨tg,iter,ifs,0⟩] scope pos) 0 (.ref it) (.ref p) (cxD X (cpN ts fs) scope fp s3 H3).env) R s4:=by
  have stat:∀ {H':Hp},(∀b∈fp,H' b=none)->∀b∈fp,Ma (cxD X (cpN ts fs) scope fp s3 H3) [] H' b:=fun hn b hb=>
    ⟨hn b hb,Nat.ne_of_lt (lt b hb),fun z=>(List.mem_cons.mp (I3.stkSub b z)).elim (hex b hb).2.1 (hex b hb).2.2.1,.inl hb,fun x c e=>(S.sub I3.ok e).elim ((hex b hb).2.2.2.2.1 x c) (fun z z2=>Nat.lt_irrefl _ (Nat.lt_of_lt_of_le (Nat.lt_succ_of_lt (lt b hb)) (by rw [<-z2];exact z))),fun q hq=>absurd (show q∈([]:List (Addr × Obj))from hq) (by simp)⟩
  refine Jm (fun n s'=>∃i acc H',Inv (cxD X (cpN ts fs) scope fp s3 H3) [] (cpσ ts.length fs σ) H' s'/\tn i s'.heap/\(∀b∈fp,H' b=none)/\W i n acc H') ?_ m0 ⟨0,[],H3,I4,st4,fun b hb=>(hex b hb).1,w0⟩
  rintro n s5 ⟨i,acc,H5,I5,st5,fr5,w5⟩
  rcases turn i n acc H5 w5 with⟨stop,q⟩ | ⟨go,step⟩
  . refine thn (T.done (cxD X (cpN ts fs) scope fp s3 H3) rfl rfl rfl hc i [] s5 _ H5 _ I5 (stat fr5) st5 stop) fun r s6 ⟨hr,I6⟩=> ?_
    subst hr
    exact fin H5 s6 I6 q
  . refine thn (T.item (cxD X (cpN ts fs) scope fp s3 H3) rfl rfl rfl hc i [] s5 _ H5 _ I5 (stat fr5) st5 go) fun r s6 ⟨u,hr,h6⟩=> ?_
    subst hr
    refine thn h6 fun _ s7 ⟨x,H7,I7,r7,y7,st7,fr7⟩=> ?_
    have I7':=I7.pinned (stat fr7) (T.obj _ _ st7)
    refine thn (hg fp s3 H3 _ s7 _ H7 x u _ I7' r7 (step x H7 y7)) fun _ s8 ⟨σ8,H8,I8,kp,q8⟩=> ?_
    have again:∀ {H9:Hp}{s9:Shared}{acc':List V}{m':Nat},Inv (cxD X (cpN ts fs) scope fp s3 H3) ([]++Mz fp s7.heap) σ8 H9 s9->m'<n->W (i+1) m' acc' H9->
        ∃m,m<n/\∃i acc H',Inv (cxD X (cpN ts fs) scope fp s3 H3) [] (cpσ ts.length fs σ) H' s9/\tn i s9.heap/\(∀b∈fp,H' b=none)/\W i m acc H':=fun {H9 s9 acc' m'} I9 hm w9=>by
      refine⟨m',hm,i+1,acc',H9,(I9.fade kp).unpinned,T.keep _ _ _ st7 fun b hb o e=>(I9.pin (b,o) (List.mem_append_right _ (List.mem_append_right _ (Cg hb e)))).1,fun b hb=> ?_,w9⟩
      obtain⟨o,e,d⟩:=T.obj _ _ st7 b hb
      exact(I9.pin (b,o) (List.mem_append_right _ (List.mem_append_right _ (Cg hb e)))).2.1
    refine thn (ht fp s3 H3 _ s8 σ8 H8 _ I8 q8) fun ok s9 ⟨H9,I9,q9⟩=> ?_
    cases ok with
    | false=>
      rw [if_neg Bool.false_ne_true]at q9 ⊢
      obtain⟨m',hm,w9⟩:=q9
      exact again I9 hm w9
    | true=>
      rw [if_pos rfl]at q9 ⊢
      refine thn (he fp s3 H3 _ s9 σ8 H9 _ I9 q9) fun y s10 ⟨yv,H10,I10,r10,hp10,hlen,m',hm,w10⟩=> ?_
      exact thn (Cq _ s10 σ8 H10 (.ref p) [yv] (.ref p) [y] _ I10 rfl (.cons r10 .nil) ⟨p,acc,yv,rfl,rfl,hp10,hlen,w10⟩) fun _ s11 ⟨_,H11,I11,_,w11⟩=>again I11 hm w11
set_option maxHeartbeats 2000000 in
theorem Uh {pos':Pos}{pins:List (Addr × Obj)}{σ:St}{H:Hp}{s:Shared}{Q:VK}{QQ:Value->Shared->Prop}{use:Option (Value->Sem Unit)} (hc:X.calm=true) (S:Gx X ts fs scope) (hi:PI X tg iter wi) (hg:∀ex s H,PG (cxD X (cpN ts fs) scope ex s H) tg g) (ht:∀ex s H,PTs (cxD X (cpN ts fs) scope ex s H) ifs tt)
    (he:∀ex s H,PE (cxD X (cpN ts fs) scope ex s H) elt te) (hs:∀x,foldedSetIterable iter X.env x=pure x) (I:Inv X pins σ H s) (h:N8 ts.length fs wi g tt te σ H Q)
    (fin:∀(H3:Hp) (s3:Shared) (fp:List Addr) (p:Addr) (H5:Hp) (s6:Shared),Inv X pins σ H3 s3->(∀b∈fp,Ma X pins H3 b)->Inv (cxD X (cpN ts fs) scope fp s3 H3) [] (cpσ ts.length fs σ) H5 s6->Q (.ref p) H5->compPost (model X.prog X.w) X.A X.xe use QQ (.ref p) s3.heap.objs.size (.ok .next) s6):
    wpAny (model X.prog X.w) X.A (comprehension (.ListComp elt [⟨tg,iter,ifs,0⟩] scope pos) scope X.env pos' (newList []) false (eval iter X.env) use) QQ X.xe s:=by
  refine wpAny_comprehension_free (use:=use) rfl hs (M5 (S.clos I.ok)) S.kind S.names (thn (hi pins s σ H _ I h) fun v s1 h1=>thn h1 fun itv s2 h2=> ?_)
  obtain⟨it,fp,tn,J,H2,rfl,I2,T,st2,f2,hw⟩:=h2
  refine wpAny_newObj_type (Abn ?_)
  dsimp only
  have I3:=I2.lnew (its:=[]) (ys:=[]) (t':=s2.toks) .nil (Nat.zero_le _)
  have hD:H2 s2.heap.objs.size=none:=I2.fresh
  obtain⟨W,⟨m0,w0⟩,turn⟩:=hw _ hD
  have up:∀b o,s2.heap.get? b=some o->(s2.heap.push { cls:= .type "list",data:= .seq ([]:List Value).toArray}).get? b=some o:=fun b o e=>Heap.get?_push_of_some _ e
  have hex:∀b∈fp,Ma X pins (upd H2 s2.heap.objs.size (.lst [])) b/\∃o,(s2.heap.push { cls:= .type "list",data:= .seq ([]:List Value).toArray}).get? b=some o:=fun b hb=>by
    obtain⟨o,ho,_⟩:=T.obj _ _ st2 b hb
    have nb:b≠s2.heap.objs.size:=Nat.ne_of_lt (Heap.lt_size ho)
    exact⟨⟨by rw [Al nb];exact(f2 b hb).1,(f2 b hb).2⟩,o,up b o ho⟩
  have hk4:∀b u,(s2.heap.push { cls:= .type "list",data:= .seq ([]:List Value).toArray}).get? b=some u->(pushCells ((s2.heap.push { cls:= .type "list",data:= .seq ([]:List Value).toArray}).push { cls:= .type "dict",data:= .dict #[]}) scope.names).get? b=some u:=fun b u e=>
    pushCells_keeps _ _ _ _ (Heap.get?_push_of_some _ e)
  have I4:=Uk (s4:={ s2 with heap:=pushCells ((s2.heap.push { cls:= .type "list",data:= .seq ([]:List Value).toArray}).push { cls:= .type "dict",data:= .dict #[]}) scope.names,toks:=s2.toks}) S I3 hex rfl rfl hk4 ((Heap.Ns.new _ (.type "dict")).keeps (pushCells_keeps _ _)) (fun y c e=>by
    have z:=R6 scope.names ((s2.heap.push { cls:= .type "list",data:= .seq ([]:List Value).toArray}).push { cls:= .type "dict",data:= .dict #[]}) (scope.names.foldl (clF X.env) []) y c
    rw [Heap.size_push]at z
    exact z e)
  have st4:tn 0 (pushCells ((s2.heap.push { cls:= .type "list",data:= .seq ([]:List Value).toArray}).push { cls:= .type "dict",data:= .dict #[]}) scope.names):=T.keep _ _ _ st2 fun b _ o e=>hk4 b o (up b o e)
  have run:=Yg (elt:=elt) (iter:=iter) (pos:=pos) hc S hg ht he I3 T (fun b hb=>(hex b hb).1) (fun b hb=>Heap.lt_size (hex b hb).2.choose_spec) I4 st4 w0 (fun H5 s6 I6 q=>fin _ _ fp _ H5 s6 I3 (fun b hb=>(hex b hb).1) I6 q) turn
  exact codeAny_compStart_list run (T.self X.A 0 _ _ _ st4 run)
theorem Ia {g':TG}{y:Str}{py spos:Pos} (hc:X.calm=true) (S:Gx X ts fs scope) (hi:PI X tg iter wi) (hg:∀ex s H,PG (cxD X (cpN ts fs) scope ex s H) tg g) (ht:∀ex s H,PTs (cxD X (cpN ts fs) scope ex s H) ifs tt)
    (he:∀ex s H,PE (cxD X (cpN ts fs) scope ex s H) elt te) (hn:PG X (.Name y py) g') (hsw:swapsWith (.ListComp elt [⟨tg,iter,ifs,0⟩] scope pos) (some (.Name y py)) spos.line X.env=pure true:=by rfl) (hs:∀x,foldedSetIterable iter X.env x=pure x:=by intro _;rfl):
    PS X (.Assign [.Name y py] (.ListComp elt [⟨tg,iter,ifs,0⟩] scope pos) spos) (Xq (N8 ts.length fs wi g tt te) g'):=by
  intro pins s σ H D I h
  rw [exec_Assign_Name_used _ _ _ _ hsw]
  refine wpAny_bind (wpAny_standAt (wpAny_bind ?_))
  show wpAny _ X.A (do let _<-comprehension (.ListComp elt [⟨tg,iter,ifs,0⟩] scope pos) scope X.env _ (newList []) false (eval iter X.env) (some (assign (.Name y py) X.env))) _ _ s
  refine wpAny_bind (wpAny_mono (Uh (use:=some (assign (.Name y py) X.env)) (QQ:=fun _ s'=>SP X pins D .next s') hc S hi hg ht he hs I h fun H3 s3 fp p H5 s6 I3 hex I6 q=> ?_) (fun _ s' hq=>wpAny_pure (wpAny_pure hq)) fun _ _ e=>e)
  have J:Inv X pins σ H5 s6:=Ye S I3 hex I6 (Heap.SameBut.refl _ _)
  obtain⟨m,⟨o,es,ep,ho,hd,hsk,hf⟩,_⟩:=I6.loc
  have ho':s6.heap.get? s3.heap.objs.size=some o:=ho
  have fC:Ma X pins H5 s3.heap.objs.size:=I3.fpOk (Nat.le_refl _) I6.free
  have J':=J.pinned (fp:=[s3.heap.objs.size]) (fun b hb=>by
    have e:b=s3.heap.objs.size:=by simpa using hb
    subst e
    exact fC) (fun b hb=>by
    have e:b=s3.heap.objs.size:=by simpa using hb
    subst e
    exact⟨o,ho',fun v z=>by rw [hd]at z;cases z⟩)
  refine thn (hn _ s6 σ H5 (.ref p) (.ref p) _ J' rfl q) fun _ s7 ⟨σ7,H7,I7,q7⟩=> ?_
  have pC:=I7.pin (s3.heap.objs.size,o) (List.mem_append_right _ (List.mem_append_right _ (Cg (by simp) ho')))
  exact⟨m,⟨o,es,ep,pC.1,hd,hsk,hf⟩,fun h' sb=>⟨σ7,H7,I7.unpinned.turned (t':=s7.toks) (fun b o hb e=>sb.extBut b o hb e) pC.2.1 fC.2.1 fC.2.2.2.1 fC.2.2.2.2.1 fC.2.2.2.2.2,q7⟩⟩
end
end L2
namespace L2
open PySem PySem.Spec PyProof.Rows
structure Pyl (P:Program) (base:Heap):Prop where
  seer:base.NoSeer
  tree:P.given.tree=none
theorem G3.far {k:Nat}{A:Around} (r:G3 k A) (h:32<=k):A.depth+Builtin.pylongFrames<recursionLimit:=by
  have h1:=r.dp
  have h2:Builtin.pylongFrames=100:=rfl
  omega
section
variable {X:Cx}{env:Env}{l:List Env}
theorem W9 {pins:List (Addr × Obj)}{σ:St}{H:Hp}{s:Shared} (hp:Pyl X.prog X.base) (hd:X.A.depth+Builtin.pylongFrames<recursionLimit) (hs:X.stack=env::l) (h1:env.scope.isGenerator=false) (h2:env.scope.isCoroutine=false) (h3:env.builtins=builtinsNs) (h4:env.globals=mainGlobals)
    (I:Inv X pins σ H s):PylongRoom (model X.prog X.w) X.A s:=by
  refine PylongRoom.of I.nolimit hd (SeerAt.of (l:=l) (hp.seer.keeps I.bk) hp.tree ?_ h1 h2 h3 h4)
  rw [I.ok.frames,hs]
theorem Gk (hp:Pyl X.prog X.base) (hd:X.A.depth+Builtin.pylongFrames<recursionLimit) (hs:X.stack=env::l) (h1:env.scope.isGenerator=false) (h2:env.scope.isCoroutine=false) (h3:env.builtins=builtinsNs) (h4:env.globals=mainGlobals):
    OpR X (binaryOp .FloorDiv) (rI (fun _ j=>j≠0) fun i j=> .int (i.fdiv j)):=by
  intro pins s σ H x y v u Q I rx ry h
  obtain⟨i,j,rfl,rfl,hc,q⟩:=h
  obtain⟨t,rfl⟩:=rx
  obtain⟨t',rfl⟩:=ry
  exact floordiv_int hc ⟨.int (i.fdiv j),H,I.tok _,⟨_,rfl⟩,q⟩ (.inr (W9 hp hd hs h1 h2 h3 h4 I))
theorem Yb (hp:Pyl X.prog X.base) (hd:X.A.depth+Builtin.pylongFrames<recursionLimit) (hs:X.stack=env::l) (h1:env.scope.isGenerator=false) (h2:env.scope.isCoroutine=false) (h3:env.builtins=builtinsNs) (h4:env.globals=mainGlobals):
    OpR X (binaryOp .FloorDiv) (rI (fun _ j=>0<j) fun i j=> .int (i/j)):=by
  intro pins s σ H x y v u Q I rx ry h
  obtain⟨i,j,e1,e2,hc,q⟩:=h
  refine Gk hp hd hs h1 h2 h3 h4 pins s σ H x y v u Q I rx ry ⟨i,j,e1,e2,Int.ne_of_gt hc,?_⟩
  show Q (.int (i.fdiv j)) H
  rw [Int.fdiv_eq_ediv_of_nonneg i (Int.le_of_lt hc)]
  exact q
end
theorem Xp {h:Heap}{H:Hp}{a:Addr}{vs:List Value} (hse:h.NoSeer) (ha:h.get? a=some { cls:= .type "list",data:= .seq vs.toArray}) (hA:∀b,H b≠none->b=a):(Uw h H).NoSeer:=by
  have keep:∀ {b o},h.get? b=some o->o.cls≠ .type "list"\/(∃es ep,o.data=Data.dict es ep)->(Uw h H).get? b=some o:=fun {b o} e z=>by
    refine Sv e ?_
    cases q:H b with
    | none=>rfl
    | some u=>
      obtain rfl:b=a:=hA b (by rw [q];simp)
      rw [ha]at e
      cases e
      rcases z with z | ⟨es,ep,z⟩
      . exact absurd rfl z
      . cases(show Data.seq vs.toArray _=Data.dict es ep from z)
  have ns:∀ {b m},h.Ns b m->(Uw h H).Ns b m:=fun {b m} ⟨o,es,ep,e,d,r⟩=>⟨o,es,ep,keep e (.inr ⟨es,ep,d⟩),d,r⟩
  obtain⟨⟨m1,a1,b1⟩,⟨m2,a2,b2⟩,⟨m3,a3,b3⟩,⟨m4,bm,ob,a4,b4,c4,d4,e4⟩⟩:=hse
  exact⟨⟨m1,ns a1,b1⟩,⟨m2,ns a2,b2⟩,⟨m3,ns a3,b3⟩,⟨m4,bm,ob,ns a4,b4,keep c4 (.inl (by rw [d4];decide)),d4,e4⟩⟩
theorem Uy {P:Program}{w:World}{K:PySem.W.Frag}{mg mb:Str->Option Value}{k:Nat}{fa a:Addr}{fd:FuncData}{x:Str}{sp:Sp}{s₁:Shared}{vs:List Value}{ns:List Int}
    (KX:K.In s₁.heap) (hns:s₁.heap.Ns mainGlobals mg) (hb:s₁.heap.Ns builtinsNs mb) (hbb:∀x:Str,x≠"__name__"->mb x=bootBuiltins x) (hlim:s₁.heap.NoLimit) (hse:s₁.heap.NoSeer) (hg:s₁.gens= #[])
    (ha:s₁.heap.get? a=some { cls:= .type "list",data:= .seq vs.toArray}) (hi:IntsAre vs ns) (hl:ns.length<=sizeLine) (hr:G3 k callerA)
    (F:∀base:Heap,K.In base->base.Ns mainGlobals mg->base.NoSeer->Pa P w K mg base CX0 k fa fd [x] sp) (hbind:∀(s:Shared) (u:Value),BindsTo s fd ⟨[u],[]⟩ [(x,u)])
    (hsp:∀H:Hp,SqL K H a (ns.map V.int)->sp [.ref a] H (fun v _=>v= .bl true) fun _ _ _=>False)
    (hCX:∀H e s',CX0 [] H s₁ (fun _ _ _=>False) e s'->False):
    codeAny (model P w) callerA (.call (.ref fa) ⟨[.ref a],[]⟩) (fun r s'=>r= .ok (.ret (.bool true))/\OldK s₁.heap s'.heap/\s'.os=s₁.os/\AllBare s'.gens) s₁:=by
  have rv:=Qi hi
  have ln:=hi.length
  obtain⟨H,hO,hS,hok,hA,hK⟩:∃H:Hp,Only H/\SqL K H a (ns.map V.int)/\HOk P w H s₁.heap/\(∀b,H b≠none->b=a)/\(H a≠none->K.lookup a=none):=by
    cases hk:K.lookup a with
    | some o=>
      have e:=KX a o hk
      rw [ha]at e
      cases e
      exact⟨fun _=>none,fun _=> .inl rfl,.inr ⟨_,vs.toArray,_,hk,rfl,rfl,rfl,by rw [List.size_toArray,ln];exact hl,by simpa using rv⟩,by intro b u z;exact(nomatch (show(none:Option HO)=some u from z)),fun b z=>absurd rfl z,fun z=>absurd rfl z⟩
    | none=>
      refine⟨upd (fun _=>none) a (.frz { cls:= .type "list",data:= .seq vs.toArray} (.lst (ns.map V.int))),fun b=> ?_,.inl (.inr ⟨_,Ac⟩),fun b u z=> ?_,fun b z=> ?_,fun _=>rfl⟩
      . by_cases e:b=a
        . subst e
          exact .inr ⟨_,_,Ac⟩
        . exact .inl (Al e)
      . by_cases e:b=a
        . subst e
          rw [Ac]at z
          cases z
          exact⟨ha,by rw [List.length_map];exact hl,vs,_,rv,ha⟩
        . rw [Al e]at z
          cases z
      . exact Classical.byContradiction fun e=>z (Al e)
  have of_b:∀ {b:Addr}{o:Obj},s₁.heap.get? b=some o->H b=none->(Uw s₁.heap H).get? b=some o:=fun e n=>Sv e n
  have nsK:∀ {b:Addr}{m:Str->Option Value},s₁.heap.Ns b m->(Uw s₁.heap H).Ns b m:=fun {b m} ⟨o,es,ep,e,d,r⟩=>by
    refine⟨o,es,ep,of_b e ?_,d,r⟩
    cases q:H b with
    | none=>rfl
    | some u=>
      obtain rfl:b=a:=hA b (by rw [q];simp)
      rw [ha]at e
      cases e
      cases(show Data.seq vs.toArray _=Data.dict es ep from d)
  have kb:K.In (Uw s₁.heap H):=fun b o e=>of_b (KX b o e) (by
    cases q:H b with
    | none=>rfl
    | some u=>
      obtain rfl:b=a:=hA b (by rw [q];simp)
      rw [hK (by rw [q];simp)]at e
      cases e)
  have hM:Mod K mg (Uw s₁.heap H):=⟨kb,nsK hns,⟨mb,nsK hb,hbb⟩,let ⟨mc,h1,h2⟩:=hlim;⟨mc,nsK h1,h2⟩⟩
  have e0:Aag P w K mg (Uw s₁.heap H) callerA [] s₁ H:=⟨rfl,hM,fun b o e=>Z8 e,Nat.le_of_eq (Wx _ _),trivial,fun b hb=>absurd (show b∈([]:List Addr)from hb) (by simp),hok,.of_eq hg⟩
  refine codeAny_mono ((F _ kb (nsK hns) (Xp hse ha hA)).run callerA [] s₁ H ⟨[.ref a],[]⟩ [.ref a] [.ref a] _ _ hr e0 (hbind s₁ (.ref a)) (.cons rfl .nil) (hsp H hS)) fun r s' h=> ?_
  match r,h with
  | .error e,h=>exact(hCX H e s' h).elim
  | .ok .next,h=>exact False.elim h
  | .ok .brk,h=>exact False.elim h
  | .ok .cont,h=>exact False.elim h
  | .ok (.ret u),h=>
    obtain⟨v,H',os,bare,un,hok',r',q⟩:=h
    obtain rfl:v= .bl true:=q
    obtain rfl:u=Value.bool true:=r'
    refine⟨rfl,OldK.of_keep fun b o e=> ?_,os,bare⟩
    rcases hO b with q | ⟨ob,xs,z⟩
    . exact un.keep b o e q (by intro z;exact absurd (show b∈([]:List Addr)from z) (by simp)) (by simp)
    . obtain⟨e1,_⟩:=hok b _ z
      obtain⟨e2,_⟩:=hok' b _ (un.frzs b ob _ z)
      rw [e]at e1
      cases e1
      exact e2
theorem Xc {l:PySem.W.OpenLaw}{n k:Nat}{q:Program}{loose:List Str}{XP:(Str->Option Value)->Heap->Prop}{YP:World->Heap->Prop}{d:DefRec}{K:Params->PySem.W.Frag}{sp:PySem.W.Frag->Sp}{x:Str}
    (hn:l.most=some n) (hn2:n<=sizeLine) (hdf:d.params.defaults=[]) (hr:G3 k callerA) (him:importsNone q=true) (htr:l.prog.given.tree=none)
    (hY:∀(w:World) (h:Heap),YP w h->(K w.params).In h)
    (F:∀(w:World) (mg:Str->Option Value) (fa:Addr) (h:Heap),(K w.params).In h->h.Ns mainGlobals mg->mg d.name=some (.ref fa)->
      ∃fd:FuncData,(∀(s:Shared) (u:Value),BindsTo s fd ⟨[u],[]⟩ [(x,u)])/\∀base:Heap,Pyl l.prog base->Pa l.prog w (K w.params) mg base CX0 k fa fd [x] (sp (K w.params)))
    (hsp:∀(K:PySem.W.Frag) (H:Hp) (a:Addr) (ns:List Int),ns.length<=n->SqL K H a (ns.map V.int)->sp K [.ref a] H (fun v _=>v= .bl true) fun _ _ _=>False)
    (hCX:∀(H:Hp) (s:Shared) (e:Value) (s':Shared),CX0 [] H s (fun _ _ _=>False) e s'->False):
    PySem.W.WalkO q loose XP YP l.row.toRowW d [] (fun f vs=>PySem.call f vs):=by
  refine Att.Rg hn hdf fun w s₀ s₁ mg mb fa o pm cd doc a vs ns G Y ho hd hcd hmg hobj hints hlen hg=> ?_
  have KX:=hY w _ Y
  obtain⟨fd,hb,hF⟩:=F w mg fa _ KX G.T.g hmg
  exact Uy KX G.T.g G.T.b G.T.builtins G.T.nolimit (G.T.seer him) hg hobj hints (Nat.le_trans hlen hn2) hr (fun base _ _ ns=>hF base ⟨ns,htr⟩) hb (fun H hS=>hsp (K w.params) H a ns hlen hS) fun H e s'=>hCX H s₁ e s'
end L2
namespace L2
open PySem PySem.Spec PyProof.Rows
set_option maxRecDepth 100000
def Vo (Cs:List Addr) (i:Nat) (tb:TB) (ts:Addr->Addr->Obj->TS):TS:=fun D σ H=>tb σ H (fun σ' H'=>D.nx σ' H')
  (fun c _ H2=>∃C,c= .ref C/\C∈Cs/\∀x oe,oe.cls= .ref C->ts C x oe { nx:=fun σ' H'=>D.nx (σ'.set i none) H',rt:=D.rt,bk:=fun σ' H'=>D.bk (σ'.set i none) H',ct:=fun σ' H'=>D.ct (σ'.set i none) H'} (σ.set i (some (.ref x))) H2)
theorem Fq {Cs:List Addr}{i:Nat}{tb:TB}{ts:Addr->Addr->Obj->TS}{D:Ends}{σ:St}{H:Hp}:Vo Cs i tb ts D σ H=tb σ H (fun σ' H'=>D.nx σ' H')
  (fun c _ H2=>∃C,c= .ref C/\C∈Cs/\∀x oe,oe.cls= .ref C->ts C x oe { nx:=fun σ' H'=>D.nx (σ'.set i none) H',rt:=D.rt,bk:=fun σ' H'=>D.bk (σ'.set i none) H',ct:=fun σ' H'=>D.ct (σ'.set i none) H'} (σ.set i (some (.ref x))) H2):=rfl
section
variable {X:Cx}{Dc:Addr}{Cs:List Addr}{cx n:Str}{np pos hpos:Pos}{b0 st:Stmt}{suite:List Stmt}{i:Nat}{ts:Addr->Addr->Obj->TS}{tb:TB}
theorem Cw (hb:BT X st tb) (hq:Q9 X.K Dc) (hm:X.mg cx=some (.ref Dc)) (hA:∀C∈Cs,Above X.K Dc C)
    (hs:∀C,Tw X.K C->∀x oe,oe.cls= .ref C->PSs (X.caught x oe) (b0::suite) (ts C x oe)) (hN:X.N.Nodup) (hi:X.N[i]? =some n) (hst:X.stack=X.env::X.outer:=by rfl) (hf:X.env.frame=some X.env.locals:=by rfl) (hgc:Gl X cx:=by rfl) (hdc:(cx==("__debug__":Str))=false:=by decide)
    (hn:X.env.kindOf n=some .local :=by rfl) (hln:Loc X.env.scope n:=by exact Or.inl rfl) (hfn:X.env.scope.names.lookup n=some .local :=by rfl):
    PS X (.Try [st] [.ExceptHandler (some (.Name cx np)) (some n) (b0::suite) hpos] [] [] pos) (Vo Cs i tb ts):=by
  intro pins s σ H D I h
  refine wpAny_Try_except (wpAny_execs_cons (hb pins s σ H _ _ _ _ I h (fun s1 H1 e s' I1 z=> ?_) fun σ' H1 s1 q I1=>wpAny_execs_nil (wpAny_execs_nil ⟨_,_,I1,q⟩)))
  refine Zq I1 z hq hm hA hst hf hgc hdc fun C x oe H' h6 g' d' t' o' hCs hc q J B a0 h5 fl nxt=> ?_
  refine codeAny_handlers_suite_as ?_
  refine lands_againW fl fun h7 fl7 up7=> ?_
  obtain⟨oe',hc',J7⟩:=nxt h7 fl7 up7
  refine Ih (X:=X.caught x oe') J7 hN hi hln (v:= .ref x) (u:= .ref x) rfl (fun s8 I8=> ?_) (.inr hfn)
  refine wpAny_mono (hs C (hA C hCs).2.1 x oe' hc' pins s8 _ H' _ I8 (q x oe' hc')) (fun fl s9 q9=> ?_) fun _ _ z=>False.elim z
  have go:∀ {σ':St}{H'':Hp}{R:Unit->Shared->Prop},Inv (X.caught x oe') pins σ' H'' s9->(∀s10,Inv X pins (σ'.set i none) H'' s10->R () s10)->wpAny (model X.prog X.w) X.A (do bindName X.env n .none;unbindBehindTheSuite X.env n hpos) R X.xe s9:=fun {σ' H'' R} J k=>by
    have J':=J.uncaught I.ok
    obtain⟨m,hn',hl⟩:=id J'.loc
    refine wpAny_nameGoes_keeps hn hn' (by rw [I.ok.kind];rfl) fun h' v hv hsb=>k _ ?_
    exact J'.gone hN hi hl hn' hv hsb
  cases fl with
  | next=>obtain⟨σ',H'',J9,q⟩:=q9;exact go J9 fun s10 J=>⟨_,_,J,q⟩
  | brk=>obtain⟨σ',H'',J9,q⟩:=q9;exact go J9 fun s10 J=>⟨_,_,J,q⟩
  | cont=>obtain⟨σ',H'',J9,q⟩:=q9;exact go J9 fun s10 J=>⟨_,_,J,q⟩
  | ret u=>obtain⟨v,σ',H'',J9,r,q⟩:=q9;exact go J9 fun s10 J=>⟨v,_,_,J,r,q⟩
end
end L2
namespace L2.S
open PySem L2
@[irreducible] def PE (X:Cx) (e:Expr) (t:TE):Prop:=L2.PE X e t
@[irreducible] def PT (X:Cx) (e:Expr) (t:TT):Prop:=L2.PT X e t
@[irreducible] def PW (X:Cx) (e:Expr) (t:TT):Prop:=L2.PW X e t
@[irreducible] def PA (X:Cx) (es:List Expr) (t:TA):Prop:=L2.PA X es t
@[irreducible] def PS (X:Cx) (st:Stmt) (t:TS):Prop:=L2.PS X st t
@[irreducible] def PSs (X:Cx) (st:List Stmt) (t:TS):Prop:=L2.PSs X st t
@[irreducible] def PG (X:Cx) (target:Expr) (t:TG):Prop:=L2.PG X target t
@[irreducible] def PGs (X:Cx) (ts:List Expr) (t:TGs):Prop:=L2.PGs X ts t
@[irreducible] def PI (X:Cx) (tg iter:Expr) (wi:TI):Prop:=L2.PI X tg iter wi
@[irreducible] def PO (X:Cx) (e:Option Expr) (t:TO):Prop:=L2.PO X e t
@[irreducible] def PTs (X:Cx) (ifs:List Expr) (t:TT):Prop:=L2.PTs X ifs t
theorem out {X:Cx}{b:List Stmt}{t:TS} (h:PSs X b t):L2.PSs X b t:=by unfold PSs at h;exact h
theorem pv:∀ {X:Cx} (i:Nat) {x:Str}{pos:Pos},autoParam ((Cx.N X)[i]? =Option.some x) L2.pv._auto_1->autoParam (Vis (Env.scope (Cx.env X)) x) L2.pv._auto_2->autoParam ((x==("__debug__":Str))=Bool.false) L2.pv._auto_3->autoParam ((x==("__classdict__":Str))=Bool.false) L2.pv._auto_4->S.PE X (Expr.Name x pos) (Ur i):=by with_unfolding_all exact @L2.pv
theorem Lj:∀ {X:Cx}{x:Str}{v:V}{u:Value}{pos:Pos},Gl X x->Cx.mg X x=Option.none->bootBuiltins x=Option.some u->RelV v u->autoParam (x≠("__name__":Str)) L2.Lj._auto_1->autoParam ((x==("__debug__":Str))=Bool.false) L2.Lj._auto_2->S.PE X (Expr.Name x pos) (tC v):=by with_unfolding_all exact @L2.Lj
theorem Ed:∀ {X:Cx}{x:Str}{v:V}{u:Value}{pos:Pos},Gl X x->Cx.mg X x=Option.some u->RelV v u->autoParam ((x==("__debug__":Str))=Bool.false) L2.Ed._auto_1->S.PE X (Expr.Name x pos) (tC v):=by with_unfolding_all exact @L2.Ed
theorem Ae:∀ {X:Cx}{i:Int}{j:Nat}{pos:Pos},S.PE X (Expr.Constant (Const.int i) j pos) (tC (V.int i)):=by with_unfolding_all exact @L2.Ae
theorem X5:∀ {X:Cx}{b:Bool}{j:Nat}{pos:Pos},S.PE X (Expr.Constant (Const.bool b) j pos) (tC (V.bl b)):=by with_unfolding_all exact @L2.X5
theorem Ls:∀ {X:Cx}{j:Nat}{pos:Pos},S.PE X (Expr.Constant Const.none j pos) (tC V.non):=by with_unfolding_all exact @L2.Ls
theorem Il:∀ {X:Cx}{x:Str}{j:Nat}{pos:Pos},S.PE X (Expr.Constant (Const.str x) j pos) (tC (V.str x)):=by with_unfolding_all exact @L2.Il
theorem Ak:∀ {X:Cx}{a b:Expr}{ta tb:TE}{pos:Pos}{op:Operator}{r:R2},OpR X (binaryOp op) r->S.PE X a ta->S.PE X b tb->S.PE X (Expr.BinOp a op b pos) (tOp r ta tb):=by with_unfolding_all exact @L2.Ak
theorem Tz:∀ {X:Cx}{a:Expr}{ta:TE}{pos:Pos},S.PE X a ta->S.PE X (Expr.UnaryOp UnaryOp.Not a pos) (Aac ta):=by with_unfolding_all exact @L2.Tz
theorem W4:∀ {X:Cx}{a:Expr}{ta:TE}{pos:Pos}{op:UnaryOp}{r:V->Hp->VK->Prop},UnR X (unaryOp op) r->S.PE X a ta->S.PE X (Expr.UnaryOp op a pos) (tUn r ta):=by with_unfolding_all exact @L2.W4
theorem Fz:∀ {X:Cx}{a b:Expr}{ta tb:TE}{pos:Pos}{op:CmpOp}{r:R2},OpR X (compareOp op) r->S.PE X a ta->S.PE X b tb->behindInMarks op b=Bool.false->S.PE X (Expr.Compare a [op] [b] pos) (tOp r ta tb):=by with_unfolding_all exact @L2.Fz
theorem Lw:∀ {X:Cx}{a b:Expr}{ta tb:TE}{pos:Pos}{rest:List Expr},S.PE X a ta->S.PE X (Expr.BoolOp BoolOp.And (b::rest) pos) tb->S.PE X (Expr.BoolOp BoolOp.And (a::b::rest) pos) (Zo ta tb):=by with_unfolding_all exact @L2.Lw
theorem Om:∀ {X:Cx}{a:Expr}{pos:Pos}{op:BoolOp}{t:TE},S.PE X a t->S.PE X (Expr.BoolOp op [a] pos) t:=by with_unfolding_all exact @L2.Om
theorem Ks:∀ {X:Cx}{a b:Expr}{ta tb:TE}{pos:Pos}{tA:TT}{c:Expr},S.PT X c tA->S.PE X a ta->S.PE X b tb->S.PE X (Expr.IfExp c a b pos) (tIf tA ta tb):=by with_unfolding_all exact @L2.Ks
theorem Bb:∀ {X:Cx}{es:List Expr}{t:TA}{pos:Pos}{x1:Nat},S.PA X es t->S.PE X (Expr.Tuple es x1 pos) (Acb t):=by with_unfolding_all exact @L2.Bb
theorem Bg:∀ {X:Cx}{es:List Expr}{t:TA}{pos:Pos},S.PA X es t->S.PE X (Expr.List es pos) (Acu t):=by with_unfolding_all exact @L2.Bg
theorem Cd:∀ {X:Cx}{e:Expr}{te:TE}{lo hi:Option Expr}{tl th:TO}{pos p2:Pos}{r:V->Option Int->Option Int->Hp->VK->Prop},SlR X r->S.PE X e te->S.PO X lo tl->S.PO X hi th->S.PE X (Expr.Subscript e (Expr.Slice lo hi Option.none p2) pos) (tSl r te tl th):=by with_unfolding_all exact @L2.Cd
theorem Dn:∀ {X:Cx},S.PO X Option.none Rm:=by with_unfolding_all exact @L2.Dn
theorem Cr:∀ {X:Cx}{e:Expr}{te:TE},S.PE X e te->S.PO X (Option.some e) (Zx te):=by with_unfolding_all exact @L2.Cr
theorem Bc:∀ {X:Cx}{a b:Expr}{ta tb:TE}{pos:Pos}{r:R2},IxR X r->S.PE X a ta->S.PE X b tb->Wu b->S.PE X (Expr.Subscript a b pos) (tOp r ta tb):=by with_unfolding_all exact @L2.Bc
theorem Ck:∀ {X:Cx}{elt tg iter:Expr}{ifs:List Expr}{scope:Scope}{pos:Pos}{wi:TI}{g:TG}{tt:TT}{te:TE}{ts:List Str}{fs:List (Nat × Str)},Cx.calm X=Bool.true->Am X ts fs scope->S.PI X tg iter wi->(∀(ex:List Addr) (s:Shared) (H:Hp),S.PG (cxC X (cpN ts fs) scope ex s H) tg g)->(∀(ex:List Addr) (s:Shared) (H:Hp),S.PTs (cxC X (cpN ts fs) scope ex s H) ifs tt)->(∀(ex:List Addr) (s:Shared) (H:Hp),S.PE (cxC X (cpN ts fs) scope ex s H) elt te)->autoParam (∀(x:Value),foldedSetIterable iter (Cx.env X) x=Pure.pure x) L2.Ck._auto_1->S.PE X (Expr.ListComp elt [{ target:=tg,iter:=iter,ifs:=ifs,is_async:=(0:Int)}] scope pos) (N8 (List.length ts) fs wi g tt te):=by with_unfolding_all exact @L2.Ck
theorem Dw:∀ {P:Program}{w:World}{K:W.Frag}{mg:Str->Option Value}{base:Heap}{N:List Str}{qual:Str}{scope:Scope}{f:Addr}{cd:Value}{A:Around}{outer:List Env}{s0:Shared}{H0:Hp}{E:XK}{k:Nat}{x:Str}{ps:List Str}{sp:Sp}{p pos:Pos}{e:Expr}{es:List Expr}{t:TA},Q8 P w K mg base k x ps sp->G3 k (Around.deeper A (PyProof.Rows.envOfC qual scope (Array.size (Heap.objs (Shared.heap s0))) f cd))->S.PA (Lb (CXE P w) P w K mg base N qual scope f cd A outer s0 H0 E) (e::es) t->autoParam (Gl (Lb (CXE P w) P w K mg base N qual scope f cd A outer s0 H0 E) x) L2.Dw._auto_1->autoParam ((x==("__debug__":Str))=Bool.false) L2.Dw._auto_2->autoParam (starEach (e::es) (PyProof.Rows.envOfC qual scope (Array.size (Heap.objs (Shared.heap s0))) f cd)=(Bool.false,eval e (PyProof.Rows.envOfC qual scope (Array.size (Heap.objs (Shared.heap s0))) f cd))::starEach es (PyProof.Rows.envOfC qual scope (Array.size (Heap.objs (Shared.heap s0))) f cd)) L2.Dw._auto_3->autoParam ((List.any (backTo pos (starEach es (PyProof.Rows.envOfC qual scope (Array.size (Heap.objs (Shared.heap s0))) f cd))) fun(x:Bool × Sem Value) ↦ Prod.fst x)=Bool.false) L2.Dw._auto_4->S.PE (Lb (CXE P w) P w K mg base N qual scope f cd A outer s0 H0 E) (Expr.Call (Expr.Name x p) (e::es) [] pos) (Kq sp [] E t):=by with_unfolding_all exact @L2.Dw
theorem Br:∀ {X:Cx}{e:Expr}{es:List Expr}{t:TA}{x:Str}{p pos:Pos}{id:String}{r:List V->Hp->VK->Prop},G9 X (Value.builtin id) r->Gl X x->Cx.mg X x=Option.none->bootBuiltins x=Option.some (Value.builtin id)->S.PA X (e::es) t->autoParam (Dl e=Bool.true) L2.Br._auto_1->autoParam (List.all es Dl=Bool.true) L2.Br._auto_2->autoParam (x≠("__name__":Str)) L2.Br._auto_3->autoParam ((x==("__debug__":Str))=Bool.false) L2.Br._auto_4->S.PE X (Expr.Call (Expr.Name x p) (e::es) [] pos) (tCB r t):=by with_unfolding_all exact @L2.Br
theorem Fe:∀ {X:Cx}{e:Expr}{es:List Expr}{t:TA}{x:Str}{p pos:Pos}{T:String}{r:List V->Hp->VK->Prop},G9 X (Value.type T) r->Gl X x->Cx.mg X x=Option.none->bootBuiltins x=Option.some (Value.type T)->S.PA X (e::es) t->autoParam (Dl e=Bool.true) L2.Fe._auto_1->autoParam (List.all es Dl=Bool.true) L2.Fe._auto_2->autoParam (x≠("__name__":Str)) L2.Fe._auto_3->autoParam ((x==("__debug__":Str))=Bool.false) L2.Fe._auto_4->S.PE X (Expr.Call (Expr.Name x p) (e::es) [] pos) (tCB r t):=by with_unfolding_all exact @L2.Fe
theorem Ax:∀ {X:Cx}{e:Expr}{es:List Expr}{t:TA}{x:Str}{p pos:Pos}{k:Nat}{ps:List Str}{sp:Sp},Cal (Cx.prog X) (Cx.w X) (Cx.K X) (Cx.mg X) (Cx.base X) k x ps sp->G3 k (Cx.A X)->S.PA X (e::es) t->autoParam (Dl e=Bool.true) L2.Ax._auto_1->autoParam (List.all es Dl=Bool.true) L2.Ax._auto_2->autoParam (Gl X x) L2.Ax._auto_3->autoParam ((x==("__debug__":Str))=Bool.false) L2.Ax._auto_4->S.PE X (Expr.Call (Expr.Name x p) (e::es) [] pos) (Kq sp [] E0 t):=by with_unfolding_all exact @L2.Ax
theorem Ht:∀ {X:Cx}{x:Str}{v:V}{pos:Pos},Gl X x->(∃(u:Value),Cx.mg X x=Option.some u/\RelV v u)->autoParam ((x==("__debug__":Str))=Bool.false) L2.Ht._auto_1->S.PE X (Expr.Name x pos) (tC v):=by with_unfolding_all exact @L2.Ht
theorem Hj:∀ {X:Cx}{o e:Expr}{es:List Expr}{to:TE}{t:TA}{name:Str}{apos cpos:Pos}{T id:String}{r:V->List V->Hp->VK->Prop},PlainAttrs T->Slot T name id->typeOf (Value.builtin id)=Pure.pure (Value.type "method_descriptor")->MtR X id r->S.PE X o to->S.PA X (e::es) t->autoParam (attributeBase o name (Cx.env X) (eval o (Cx.env X))=eval o (Cx.env X)) L2.Hj._auto_1->autoParam ((((List.all (backTo cpos (starEach (e::es) (Cx.env X))) fun(x:Bool × Sem Value) ↦ !Prod.fst x)&&List.all (backToKw cpos (keywordEach [] (Cx.env X))) fun(x:Option Str × Sem Value) ↦ Option.isSome (Prod.fst x))&&Decidable.decide ((List.length (e::es)+List.length ([]:List Keyword)+if List.isEmpty ([]:List Keyword)=Bool.true then(0:Nat)else(1:Nat))<(30:Nat)))=Bool.true) L2.Hj._auto_2->autoParam ((Pos.endLine apos==Pos.line cpos)=Bool.true) L2.Hj._auto_3->autoParam (starEach (e::es) (Cx.env X)=(Bool.false,eval e (Cx.env X))::starEach es (Cx.env X)) L2.Hj._auto_4->autoParam ((List.any (backTo cpos (starEach es (Cx.env X))) fun(x:Bool × Sem Value) ↦ Prod.fst x)=Bool.false) L2.Hj._auto_5->S.PE X (Expr.Call (Expr.Attribute o name apos) (e::es) [] cpos) (tBM (Cx.K X) T r to t):=by with_unfolding_all exact @L2.Hj
theorem O4:∀ {X:Cx}{a:Expr}{ta:TA}{el:List Expr}{x1:Nat}{tp p pos:Pos},Gl X (("enumerate":Str))->Cx.mg X (("enumerate":Str))=Option.none->S.PA X [a] ta->autoParam (starEach [a] (Cx.env X)=[(Bool.false,eval a (Cx.env X))]) L2.O4._auto_1->S.PI X (Expr.Tuple el x1 tp) (Expr.Call (Expr.Name (("enumerate":Str)) p) [a] [] pos) (Acz (Cx.K X) ta):=by with_unfolding_all exact @L2.O4
theorem Eo:∀ {X:Cx}{a b:Expr}{ta:TA}{el:List Expr}{x1:Nat}{tp p pos:Pos} (t1 t2:Bool),Gl X (("zip":Str))->Cx.mg X (("zip":Str))=Option.none->S.PA X [a,b] ta->autoParam (starEach [a,b] (Cx.env X)=[(Bool.false,eval a (Cx.env X)),(Bool.false,eval b (Cx.env X))]) L2.Eo._auto_1->autoParam (starEach [b] (Cx.env X)=[(Bool.false,eval b (Cx.env X))]) L2.Eo._auto_2->S.PI X (Expr.Tuple el x1 tp) (Expr.Call (Expr.Name (("zip":Str)) p) [a,b] [] pos) (Z6 t1 t2 (Cx.K X) ta):=by with_unfolding_all exact @L2.Eo
theorem Bj:∀ {X:Cx}{tg a:Expr}{ta:TA}{p pos:Pos},Gl X (("range":Str))->Cx.mg X (("range":Str))=Option.none->S.PA X [a] ta->autoParam (starEach [a] (Cx.env X)=[(Bool.false,eval a (Cx.env X))]) L2.Bj._auto_1->S.PI X tg (Expr.Call (Expr.Name (("range":Str)) p) [a] [] pos) (Z2 ta):=by with_unfolding_all exact @L2.Bj
theorem Gf:∀ {X:Cx}{tg a b:Expr}{ta:TA}{p pos:Pos},Gl X (("range":Str))->Cx.mg X (("range":Str))=Option.none->S.PA X [a,b] ta->autoParam (starEach [a,b] (Cx.env X)=[(Bool.false,eval a (Cx.env X)),(Bool.false,eval b (Cx.env X))]) L2.Gf._auto_1->autoParam (starEach [b] (Cx.env X)=[(Bool.false,eval b (Cx.env X))]) L2.Gf._auto_2->S.PI X tg (Expr.Call (Expr.Name (("range":Str)) p) [a,b] [] pos) (Zm ta):=by with_unfolding_all exact @L2.Gf
theorem Bv:∀ {X:Cx}{tg l:Expr}{tl:TE},S.PE X l tl->S.PI X tg l (Zh (Cx.K X) tl):=by with_unfolding_all exact @L2.Bv
theorem Bk:∀ {X:Cx},S.PTs X [] Fg:=by with_unfolding_all exact @L2.Bk
theorem Oe:∀ {X:Cx}{c:Expr}{t:TT},S.PT X c t->S.PTs X [c] t:=by with_unfolding_all exact @L2.Oe
theorem Ba:∀ {X:Cx}{a b:Expr}{ta tb:TE}{pos:Pos}{op:CmpOp}{r:R2},OpR X (compareOp op) r->S.PE X a ta->S.PE X b tb->behindInMarks op b=Bool.false->S.PT X (Expr.Compare a [op] [b] pos) (Z5 (tOp r ta tb)):=by with_unfolding_all exact @L2.Ba
theorem Mw:∀ {X:Cx}{a:Expr}{pos:Pos}{tA:TT},S.PT X a tA->S.PT X (Expr.UnaryOp UnaryOp.Not a pos) (Acj tA):=by with_unfolding_all exact @L2.Mw
theorem T6:∀ {X:Cx}{a b:Expr}{pos:Pos}{tA tB':TT}{rest:List Expr},S.PT X a tA->S.PW X (Expr.BoolOp BoolOp.And (b::rest) pos) tB'->S.PW X (Expr.BoolOp BoolOp.And (a::b::rest) pos) (Adb tA tB'):=by with_unfolding_all exact @L2.T6
theorem Zg:∀ {X:Cx}{a b:Expr}{pos:Pos}{tA tB':TT}{rest:List Expr},S.PT X a tA->S.PW X (Expr.BoolOp BoolOp.Or (b::rest) pos) tB'->S.PW X (Expr.BoolOp BoolOp.Or (a::b::rest) pos) (tOr tA tB'):=by with_unfolding_all exact @L2.Zg
theorem Nu:∀ {X:Cx}{a:Expr}{pos:Pos}{tA:TT},S.PT X a tA->S.PW X (Expr.BoolOp BoolOp.And [a] pos) tA:=by with_unfolding_all exact @L2.Nu
theorem V0:∀ {X:Cx}{a:Expr}{pos:Pos}{tA:TT},S.PT X a tA->S.PW X (Expr.BoolOp BoolOp.Or [a] pos) tA:=by with_unfolding_all exact @L2.V0
theorem Aaf:∀ {X:Cx}{e:Expr}{t:TT},S.PW X e t->S.PT X e t:=by with_unfolding_all exact @L2.PW.pt
theorem K6:∀ {X:Cx}{e:Expr}{t:TE},S.PE X e t->autoParam (∀(whole:Sem Value),isTrue e (Cx.env X) whole=do let v<-whole;standAt (Expr.pos e);holding [v] (truthy v)) L2.K6._auto_1->S.PT X e (tB t):=by with_unfolding_all exact @L2.K6
theorem Ab:∀ {X:Cx},S.PA X [] Y7:=by with_unfolding_all exact @L2.Ab
theorem Aa:∀ {X:Cx}{e:Expr}{es:List Expr}{te:TE}{t:TA},S.PE X e te->S.PA X es t->autoParam (Dl e=Bool.true) L2.Aa._auto_1->S.PA X (e::es) (Ko te t):=by with_unfolding_all exact @L2.Aa
theorem Bm:∀ {X:Cx},S.PSs X [] Aab:=by with_unfolding_all exact @L2.Bm
theorem Ag:∀ {X:Cx}{st:Stmt}{t:TS},S.PS X st t->S.PSs X [st] t:=by with_unfolding_all exact @L2.Ag
theorem Ad:∀ {X:Cx}{st:Stmt}{rest:List Stmt}{t u:TS},S.PS X st t->S.PSs X rest u->S.PSs X (st::rest) (Ab3 t u):=by with_unfolding_all exact @L2.Ad
theorem Ah:∀ {X:Cx}{pos:Pos}{i:Nat}{x:Str},List.Nodup (Cx.N X)->(Cx.N X)[i]? =Option.some x->Loc (Env.scope (Cx.env X)) x->∀(hf:autoParam (Cx.fn X x=Bool.true\/List.lookup x (Scope.names (Env.scope (Cx.env X)))=Option.some NameKind.local) L2.Ah._auto_1),S.PG X (Expr.Name x pos) (Gy i):=by with_unfolding_all exact @L2.Ah
theorem Cu:∀ {X:Cx},S.PGs X [] Abg:=by with_unfolding_all exact @L2.Cu
theorem Ar:∀ {X:Cx}{e:Expr}{es:List Expr}{t:TG}{u:TGs},S.PG X e t->S.PGs X es u->autoParam (List.map (fun(x:Bool × (Value->Sem Unit)) ↦ Prod.snd x) (assignEach (e::es) (Cx.env X))=assign e (Cx.env X)::List.map (fun(x:Bool × (Value->Sem Unit)) ↦ Prod.snd x) (assignEach es (Cx.env X))) L2.Ar._auto_1->S.PGs X (e::es) (M8 t u):=by with_unfolding_all exact @L2.Ar
theorem Iw:∀ {X:Cx}{es:List Expr}{k:Nat}{pos:Pos}{t:TGs} (K:W.Frag) (n:Nat),Cx.K X=K->Cx.calm X=Bool.true->S.PGs X es t->autoParam (List.length (assignEach es (Cx.env X))=n) L2.Iw._auto_1->autoParam (List.findIdx? (fun(x:Bool × (Value->Sem Unit)) ↦ Prod.fst x) (assignEach es (Cx.env X))=Option.none) L2.Iw._auto_2->S.PG X (Expr.Tuple es k pos) (Zf K n t):=by with_unfolding_all exact @L2.Iw
theorem Ds:∀ {X:Cx}{pos:Pos}{es:List Expr}{k:Nat}{t:TGs}{n:Nat},Cx.calm X=Bool.true->S.PGs X es t->autoParam (List.length (assignEach es (Cx.env X))=n) L2.Ds._auto_1->autoParam (List.findIdx? (fun(x:Bool × (Value->Sem Unit)) ↦ Prod.fst x) (assignEach es (Cx.env X))=Option.none) L2.Ds._auto_2->S.PG X (Expr.Tuple es k pos) (Zf (Cx.K X) n t):=by with_unfolding_all exact @L2.Ds
theorem Gs:∀ {X:Cx}{pos:Pos}{o i:Expr}{to ti:TE}{t:Abi},S.PE X o to->S.PE X i ti->Ach X t->autoParam (∀(v:Value),assign (Expr.Subscript o i pos) (Cx.env X) v=do let ov<-holding [v] (eval o (Cx.env X));let iv<-holding [v,ov] (eval i (Cx.env X));standAt pos;holding [v,ov,iv] (setItem ov iv v);release [v,ov,iv] []) L2.Gs._auto_1->S.PG X (Expr.Subscript o i pos) (Ada to ti t):=by with_unfolding_all exact @L2.Gs
theorem Hi:∀ {X:Cx}{st:Stmt},S.PS X st Za:=by with_unfolding_all exact @L2.Hi
theorem Di:∀ {X:Cx}{elt tg iter:Expr}{ifs:List Expr}{scope:Scope}{pos:Pos}{wi:TI}{g:TG}{tt:TT}{te:TE}{ts:List Str}{fs:List (Nat × Str)}{g':TG}{y:Str}{py spos:Pos},Cx.calm X=Bool.true->Am X ts fs scope->S.PI X tg iter wi->(∀(ex:List Addr) (s:Shared) (H:Hp),S.PG (cxC X (cpN ts fs) scope ex s H) tg g)->(∀(ex:List Addr) (s:Shared) (H:Hp),S.PTs (cxC X (cpN ts fs) scope ex s H) ifs tt)->(∀(ex:List Addr) (s:Shared) (H:Hp),S.PE (cxC X (cpN ts fs) scope ex s H) elt te)->S.PG X (Expr.Name y py) g'->autoParam (swapsWith (Expr.ListComp elt [{ target:=tg,iter:=iter,ifs:=ifs,is_async:=(0:Int)}] scope pos) (Option.some (Expr.Name y py)) (Pos.line spos) (Cx.env X)=Pure.pure Bool.true) L2.Di._auto_1->autoParam (∀(x:Value),foldedSetIterable iter (Cx.env X) x=Pure.pure x) L2.Di._auto_2->S.PS X (Stmt.Assign [Expr.Name y py] (Expr.ListComp elt [{ target:=tg,iter:=iter,ifs:=ifs,is_async:=(0:Int)}] scope pos) spos) (Xq (N8 (List.length ts) fs wi g tt te) g'):=by with_unfolding_all exact @L2.Di
theorem Ia:∀ {X:Cx}{elt tg iter:Expr}{ifs:List Expr}{scope:Scope}{pos:Pos}{wi:TI}{g:TG}{tt:TT}{te:TE}{ts:List Str}{fs:List (Nat × Str)}{g':TG}{y:Str}{py spos:Pos},Cx.calm X=Bool.true->Gx X ts fs scope->S.PI X tg iter wi->(∀(ex:List Addr) (s:Shared) (H:Hp),S.PG (cxD X (cpN ts fs) scope ex s H) tg g)->(∀(ex:List Addr) (s:Shared) (H:Hp),S.PTs (cxD X (cpN ts fs) scope ex s H) ifs tt)->(∀(ex:List Addr) (s:Shared) (H:Hp),S.PE (cxD X (cpN ts fs) scope ex s H) elt te)->S.PG X (Expr.Name y py) g'->autoParam (swapsWith (Expr.ListComp elt [{ target:=tg,iter:=iter,ifs:=ifs,is_async:=(0:Int)}] scope pos) (Option.some (Expr.Name y py)) (Pos.line spos) (Cx.env X)=Pure.pure Bool.true) L2.Ia._auto_1->autoParam (∀(x:Value),foldedSetIterable iter (Cx.env X) x=Pure.pure x) L2.Ia._auto_2->S.PS X (Stmt.Assign [Expr.Name y py] (Expr.ListComp elt [{ target:=tg,iter:=iter,ifs:=ifs,is_async:=(0:Int)}] scope pos) spos) (Xq (N8 (List.length ts) fs wi g tt te) g'):=by with_unfolding_all exact @L2.Ia
theorem Ao:∀ {X:Cx}{pos:Pos}{i:Nat}{x:Str}{e:Expr}{te:TE}{pos':Pos},List.Nodup (Cx.N X)->(Cx.N X)[i]? =Option.some x->Loc (Env.scope (Cx.env X)) x->S.PE X e te->autoParam (swapsWith e (Option.some (Expr.Name x pos')) (Pos.line pos) (Cx.env X)=Pure.pure Bool.false) L2.Ao._auto_1->autoParam (Cx.fn X x=Bool.true\/List.lookup x (Scope.names (Env.scope (Cx.env X)))=Option.some NameKind.local) L2.Ao._auto_2->S.PS X (Stmt.Assign [Expr.Name x pos'] e pos) (Xq te (Gy i)):=by with_unfolding_all exact @L2.Ao
theorem O1:∀ {X:Cx}{pos:Pos}{i j:Nat}{x y:Str}{a b:Expr}{ta:TA}{px py pt:Pos}{kt k2:Nat}{pt2:Pos},Cx.calm X=Bool.true->List.Nodup (Cx.N X)->(Cx.N X)[i]? =Option.some x->(Cx.N X)[j]? =Option.some y->i≠j->List.lookup x (Scope.names (Env.scope (Cx.env X)))=Option.some NameKind.local->List.lookup y (Scope.names (Env.scope (Cx.env X)))=Option.some NameKind.local->S.PA X [a,b] ta->swappedStores [Expr.Tuple [Expr.Name x px,Expr.Name y py] kt pt] (Expr.Tuple [a,b] k2 pt2) (Cx.env X)=Pure.pure (Option.some [x,y])->autoParam (swapsWithSole [Expr.Tuple [Expr.Name x px,Expr.Name y py] kt pt] (Expr.Tuple [a,b] k2 pt2) (Pos.line pos) (Cx.env X)=Pure.pure Bool.false) L2.O1._auto_1->S.PS X (Stmt.Assign [Expr.Tuple [Expr.Name x px,Expr.Name y py] kt pt] (Expr.Tuple [a,b] k2 pt2) pos) (Ac0 i j ta):=by with_unfolding_all exact @L2.O1
theorem Dj:∀ {X:Cx}{pos:Pos}{tg e:Expr}{te:TE}{g:TG},S.PE X e te->S.PG X tg g->autoParam (swapsWithSole [tg] e (Pos.line pos) (Cx.env X)=Pure.pure Bool.false) L2.Dj._auto_1->autoParam (swappedStores [tg] e (Cx.env X)=Pure.pure Option.none) L2.Dj._auto_2->autoParam (List.map (fun(x:Bool × (Value->Sem Unit)) ↦ Prod.snd x) (assignEach [tg] (Cx.env X))=[assign tg (Cx.env X)]) L2.Dj._auto_3->S.PS X (Stmt.Assign [tg] e pos) (Xq te g):=by with_unfolding_all exact @L2.Dj
theorem Ay:∀ {X:Cx}{e:Expr}{te:TE}{pos:Pos},S.PE X e te->S.PS X (Stmt.Return (Option.some e) pos) (Acv te):=by with_unfolding_all exact @L2.Ay
theorem Ei:∀ {X:Cx}{t u:TS}{pos:Pos}{c:Expr}{a b:List Stmt}{tc:TT},S.PT X c tc->S.PSs X a t->S.PSs X b u->S.PS X (Stmt.If c a b pos) (Ace tc t u):=by with_unfolding_all exact @L2.Ei
theorem Cy:∀ {P:Program}{w:World}{K:W.Frag}{mg:Str->Option Value}{base:Heap}{N:List Str}{qual:Str}{scope:Scope}{f:Addr}{cd:Value}{A:Around}{outer:List Env}{s0:Shared}{H0:Hp}{E:XK}{C:Addr}{x:Str}{np cpos pos:Pos}{e:Expr}{es:List Expr}{t:TA},Q9 K C->mg x=Option.some (Value.ref C)->S.PA (Lb (CXE P w) P w K mg base N qual scope f cd A outer s0 H0 E) (e::es) t->autoParam (Gl (Lb (CXE P w) P w K mg base N qual scope f cd A outer s0 H0 E) x) L2.Cy._auto_1->autoParam ((x==("__debug__":Str))=Bool.false) L2.Cy._auto_2->autoParam (starEach (e::es) (PyProof.Rows.envOfC qual scope (Array.size (Heap.objs (Shared.heap s0))) f cd)=(Bool.false,eval e (PyProof.Rows.envOfC qual scope (Array.size (Heap.objs (Shared.heap s0))) f cd))::starEach es (PyProof.Rows.envOfC qual scope (Array.size (Heap.objs (Shared.heap s0))) f cd)) L2.Cy._auto_3->autoParam ((List.any (backTo cpos (starEach es (PyProof.Rows.envOfC qual scope (Array.size (Heap.objs (Shared.heap s0))) f cd))) fun(x:Bool × Sem Value) ↦ Prod.fst x)=Bool.false) L2.Cy._auto_4->S.PS (Lb (CXE P w) P w K mg base N qual scope f cd A outer s0 H0 E) (Stmt.Raise (Option.some (Expr.Call (Expr.Name x np) (e::es) [] cpos)) Option.none pos) (Vj C E t):=by with_unfolding_all exact @L2.Cy
theorem Cw:∀ {X:Cx}{Dc:Addr}{Cs:List Addr}{cx n:Str}{np pos hpos:Pos}{b0 st:Stmt}{suite:List Stmt}{i:Nat}{ts:Addr->Addr->Obj->TS}{tb:TB},BT X st tb->Q9 (Cx.K X) Dc->Cx.mg X cx=Option.some (Value.ref Dc)->(∀(C:Addr),C∈Cs->Above (Cx.K X) Dc C)->(∀(C:Addr),Tw (Cx.K X) C->∀(x:Addr) (oe:Obj),Obj.cls oe=Value.ref C->S.PSs (Cx.caught X x oe) (b0::suite) (ts C x oe))->List.Nodup (Cx.N X)->(Cx.N X)[i]? =Option.some n->autoParam (Cx.stack X=Cx.env X::Cx.outer X) L2.Cw._auto_1->autoParam (Env.frame (Cx.env X)=Option.some (Env.locals (Cx.env X))) L2.Cw._auto_2->autoParam (Gl X cx) L2.Cw._auto_3->autoParam ((cx==("__debug__":Str))=Bool.false) L2.Cw._auto_4->autoParam (Env.kindOf (Cx.env X) n=Option.some NameKind.local) L2.Cw._auto_5->autoParam (Loc (Env.scope (Cx.env X)) n) L2.Cw._auto_6->autoParam (List.lookup n (Scope.names (Env.scope (Cx.env X)))=Option.some NameKind.local) L2.Cw._auto_7->S.PS X (Stmt.Try [st] [ExceptHandler.ExceptHandler (Option.some (Expr.Name cx np)) (Option.some n) (b0::suite) hpos] [] [] pos) (Vo Cs i tb ts):=by with_unfolding_all exact @L2.Cw
theorem Gg:∀ {X:Cx}{f:Str}{p cpos:Pos}{st:Stmt}{k:Nat}{ps:List Str}{sp:Sp}{a:Expr}{as:List Expr}{ta:TA}{g:V->St->St},Q8 (Cx.prog X) (Cx.w X) (Cx.K X) (Cx.mg X) (Cx.base X) k f ps sp->G3 k (Cx.A X)->S.PA (Cx.nox X) (a::as) ta->S7 X st (Expr.Call (Expr.Name f p) (a::as) [] cpos) g->autoParam (Gl X f) L2.Gg._auto_1->autoParam ((f==("__debug__":Str))=Bool.false) L2.Gg._auto_2->autoParam (starEach (a::as) (Cx.env X)=(Bool.false,eval a (Cx.env X))::starEach as (Cx.env X)) L2.Gg._auto_3->autoParam ((List.any (backTo cpos (starEach as (Cx.env X))) fun(x:Bool × Sem Value) ↦ Prod.fst x)=Bool.false) L2.Gg._auto_4->BT X st (Zw sp g ta):=by with_unfolding_all exact @L2.Gg
theorem Zd:∀ {X:Cx}{pos:Pos}{c:Expr}{x y:Stmt}{tc:TT}{t u:TB},S.PT (Cx.nox X) c tc->BT X x t->BT X y u->BT X (Stmt.If c [x] [y] pos) (bIf tc t u):=by with_unfolding_all exact @L2.Zd
theorem Ga:∀ {X:Cx}{e:Expr}{pos:Pos},autoParam (swapsWith e Option.none (Pos.line pos) (Cx.env X)=Pure.pure Bool.false) L2.Ga._auto_1->S7 X (Stmt.Expr e pos) e fun(x:V) (σ:St) ↦ σ:=by with_unfolding_all exact @L2.Ga
theorem Yp:∀ {X:Cx}{st:Stmt}{t:TS},S.PS (Cx.nox X) st t->S.PS X st t:=by with_unfolding_all exact @L2.PS.nox
theorem Kr:∀ {X:Cx}{pos:Pos}{c:Expr}{body:List Stmt}{tc:TT}{tb:TS},PassesOwn (model (Cx.prog X) (Cx.w X)) (Cx.A X) (Cx.env X) (Cx.xe X)->S.PT X c tc->S.PSs X body tb->S.PS X (Stmt.While c body [] pos) (Ve tc tb):=by with_unfolding_all exact @L2.Kr
theorem Dk:∀ {X:Cx}{tg iter:Expr}{body:List Stmt}{wi:TI}{g:TG}{tb:TS}{pos:Pos},PassesOwn (model (Cx.prog X) (Cx.w X)) (Cx.A X) (Cx.env X) (Cx.xe X)->Cx.calm X=Bool.true->S.PI X tg iter wi->S.PG X tg g->S.PSs X body tb->autoParam (∀(x:Value),foldedSetIterable iter (Cx.env X) x=Pure.pure x) L2.Dk._auto_1->S.PS X (Stmt.For tg iter body [] pos) (Acq wi g tb):=by with_unfolding_all exact @L2.Dk
theorem Dh:∀ {X:Cx}{e:Expr}{te:TE}{pos:Pos},S.PE X e te->autoParam (swapsWith e Option.none (Pos.line pos) (Cx.env X)=Pure.pure Bool.false) L2.Dh._auto_1->S.PS X (Stmt.Expr e pos) (Zk te):=by with_unfolding_all exact @L2.Dh
theorem Bf {X:Cx}{b:List Stmt}{φ:TS->Prop} (h:∃t,PSs X b t/\φ t):∃t,L2.PSs X b t/\φ t:=by
  obtain⟨t,h1,h2⟩:=h
  exact⟨t,out h1,h2⟩
end L2.S
namespace Z
section
variable {C:Type}
def La (r:C->Int) (f:List C->Int):List C->Int
  | []=>0
  | c::cs=>r c*f cs-La r (fun x=>f (c::x)) cs
def Dt:List (C->Int)->List C->Int
  | [],[]=>1
  | [],_::_=>0
  | r::rows,cs=>La r (Dt rows) cs
theorem Ln (r:C->Int):∀cs,La r (fun _=>0) cs=0
  | []=>rfl
  | c::cs=>by rw [La,Ln r cs];simp
theorem V6 (r:C->Int):∀(cs:List C) (f g:List C->Int),La r (fun x=>f x+g x) cs=La r f cs+La r g cs
  | [],f,g=>rfl
  | c::cs,f,g=>by
    rw [La,La,La,V6 r cs]
    grind
theorem Oz (r:C->Int) (k:Int):∀(cs:List C) (f:List C->Int),La r (fun x=>k*f x) cs=k*La r f cs
  | [],f=>by simp [La]
  | c::cs,f=>by
    rw [La,La,Oz r k cs]
    grind
theorem Zb (r:C->Int) (cs:List C) (f g:List C->Int):La r (fun x=>f x-g x) cs=La r f cs-La r g cs:=by
  have h1:=V6 r cs (fun x=>f x-g x) g
  have h2:(fun x=>f x-g x+g x)=f:=by funext x;omega
  rw [h2]at h1
  omega
theorem U9 (r s:C->Int):∀(cs:List C) (f:List C->Int),La (fun c=>r c+s c) f cs=La r f cs+La s f cs
  | [],f=>rfl
  | c::cs,f=>by
    rw [La,La,La,U9 r s cs]
    grind
theorem Wf (r:C->Int) (k:Int):∀(cs:List C) (f:List C->Int),La (fun c=>k*r c) f cs=k*La r f cs
  | [],f=>by simp [La]
  | c::cs,f=>by
    rw [La,La,Wf r k cs]
    grind
theorem Tg:∀(cs:List C) (f:List C->Int),La (fun _=>0) f cs=0
  | [],f=>rfl
  | c::cs,f=>by rw [La,Tg cs];simp
theorem V5 (r s:C->Int):∀(cs:List C) (f:List C->Int),La r (La s f) cs= -La s (La r f) cs
  | [],f=>rfl
  | c::cs,f=>by
    rw [La,La]
    have e1:(fun x=>La s f (c::x))=fun x=>s c*f x-La s (fun y=>f (c::y)) x:=rfl
    have e2:(fun x=>La r f (c::x))=fun x=>r c*f x-La r (fun y=>f (c::y)) x:=rfl
    rw [e1,e2,Zb,Zb,Oz,Oz,V5 r s cs]
    grind
theorem Rp (r s:C->Int) (rows:List (C->Int)) (cs:List C):Dt (r::s::rows) cs= -Dt (s::r::rows) cs:=V5 r s cs (Dt rows)
theorem Vk {b:C->Int}:∀ {post:List (C->Int)},b∈post->∀cs,Dt (b::post) cs=0
  | x::xs,h,cs=>by
    rcases List.mem_cons.mp h with rfl | h
    . have:=Rp b b xs cs
      omega
    . rw [Rp]
      show-La x (Dt (b::xs)) cs=0
      have e:Dt (b::xs)=fun _=>0:=by funext y;exact Vk h y
      rw [e,Ln]
      rfl
theorem R3 {rows:List (C->Int)} (h:∀cs,Dt rows cs=0):∀(pre:List (C->Int)) (cs:List C),Dt (pre++rows) cs=0
  | [],cs=>h cs
  | p::pre,cs=>by
    show La p (Dt (pre++rows)) cs=0
    have e:Dt (pre++rows)=fun _=>0:=by funext y;exact R3 h pre y
    rw [e,Ln]
theorem Vq (r s:C->Int) (post:List (C->Int)):∀(pre:List (C->Int)) (cs:List C),Dt (pre++(fun c=>r c+s c)::post) cs=Dt (pre++r::post) cs+Dt (pre++s::post) cs
  | [],cs=>U9 r s cs _
  | p::pre,cs=>by
    show La p (Dt (pre++(fun c=>r c+s c)::post)) cs=La p (Dt (pre++r::post)) cs+La p (Dt (pre++s::post)) cs
    rw [<-V6]
    congr 1
    funext y
    exact Vq r s post pre y
theorem Tv (r:C->Int) (k:Int) (post:List (C->Int)):∀(pre:List (C->Int)) (cs:List C),Dt (pre++(fun c=>k*r c)::post) cs=k*Dt (pre++r::post) cs
  | [],cs=>Wf r k cs _
  | p::pre,cs=>by
    show La p (Dt (pre++(fun c=>k*r c)::post)) cs=k*La p (Dt (pre++r::post)) cs
    rw [<-Oz]
    congr 1
    funext y
    exact Tv r k post pre y
inductive Sn (B:List (C->Int)):(C->Int)->Prop where
  | zero:Sn B (fun _=>0)
  | add (k:Int) {b v:C->Int} (hb:b∈B) (hv:Sn B v):Sn B (fun c=>k*b c+v c)
theorem Sn.mono {B B':List (C->Int)} (h:∀b∈B,b∈B') {v:C->Int} (s:Sn B v):Sn B' v:=by
  induction s with
  | zero=>exact .zero
  | add k hb _ ih=>exact .add k (h _ hb) ih
theorem Ac5 {B:List (C->Int)}{v:C->Int} (s:Sn B v) (post:List (C->Int)) (hB:∀b∈B,b∈post) (pre:List (C->Int)) (cs:List C):Dt (pre++v::post) cs=0:=by
  induction s with
  | zero=>exact R3 (rows:=(fun _=>0)::post) (fun cs=>Tg cs _) pre cs
  | @add k b v hb _ ih=>
    rw [Vq (fun c=>k*b c) v post pre cs,ih,Tv,R3 (Vk (hB b hb)) pre cs]
    simp
inductive Rel (k:Int) (B:List (C->Int)):List (C->Int)->List (C->Int)->Prop where
  | nil:Rel k B [] []
  | cons {a a' v:C->Int}{A A':List (C->Int)} (hv:Sn B v) (h:∀c,k*a c=a' c+v c) (t:Rel k B A A'):Rel k B (a::A) (a'::A')
theorem Aa0 {k:Int}{B:List (C->Int)}{A A':List (C->Int)} (h:Rel k B A A') (cs:List C):∀pre:List (C->Int),k^A.length*Dt (pre++(A++B)) cs=Dt (pre++(A'++B)) cs:=by
  induction h with
  | nil=>intro pre;simp
  | @cons a a' v A A' hv h t ih=>
    intro pre
    have e:(fun c=>k*a c)=fun c=>a' c+v c:=funext h
    have e1:k*Dt (pre++a::(A++B)) cs=Dt (pre++a'::(A++B)) cs:=by
      rw [<-Tv,e,Vq,Ac5 hv (A++B) (fun b hb=>List.mem_append_right _ hb),Int.add_zero]
    have e2:=ih (pre++ [a'])
    rw [List.append_assoc,List.append_assoc]at e2
    show k^(A.length+1)*Dt (pre++a::(A++B)) cs=Dt (pre++a'::(A'++B)) cs
    rw [Int.pow_succ,Int.mul_assoc,e1]
    exact e2
theorem Xi {k:Int}{R:List (C->Int)} (B:List (C->Int)) (cs:List C):∀pre:List (C->Int),Dt (pre++(R.map (fun r c=>k*r c)++B)) cs=k^R.length*Dt (pre++(R++B)) cs:=by
  induction R with
  | nil=>intro pre;simp
  | cons r R ih=>
    intro pre
    show Dt (pre++(fun c=>k*r c)::(R.map (fun r c=>k*r c)++B)) cs=k^(R.length+1)*Dt (pre++r::(R++B)) cs
    rw [Tv]
    have e2:=ih (pre++ [r])
    rw [List.append_assoc,List.append_assoc]at e2
    have e3:Dt (pre++r::(R.map (fun r c=>k*r c)++B)) cs=k^R.length*Dt (pre++r::(R++B)) cs:=e2
    rw [e3,Int.pow_succ]
    grind
def Sg (e:Int):Prop:=e=1\/e= -1
theorem Sg.mul {a b:Int} (ha:Sg a) (hb:Sg b):Sg (a*b):=by
  rcases ha with rfl | rfl<;>rcases hb with rfl | rfl<;>simp [Sg]
theorem Sg.sq {a:Int} (ha:Sg a):a*a=1:=by rcases ha with rfl | rfl<;>rfl
theorem Ny (a:C->Int) (post:List (C->Int)):∀B:List (C->Int),∃e,Sg e/\∀cs,Dt (a::(B++post)) cs=e*Dt (B++a::post) cs
  | []=>⟨1,.inl rfl,fun cs=>by simp⟩
  | b::B=>by
    obtain⟨e,he,h⟩:=Ny a post B
    refine⟨-e,by rcases he with rfl | rfl<;>simp [Sg],fun cs=> ?_⟩
    show Dt (a::b::(B++post)) cs=_
    rw [Rp]
    show-La b (Dt (a::(B++post))) cs= -e*La b (Dt (B++a::post)) cs
    have e1:Dt (a::(B++post))=fun y=>e*Dt (B++a::post) y:=funext h
    rw [e1,Oz]
    grind
theorem Vd {c:C}:∀ {rows:List (C->Int)},(∀r∈rows,r c=0)->∀ {cs:List C},c∈cs->Dt rows cs=0
  | [],_,c'::cs,_=>rfl
  | r::rows,h,cs,hc=>by
    have hr:=h r List.mem_cons_self
    have ih:∀ds:List C,c∈ds->Dt rows ds=0:=fun ds hd=>Vd (fun x hx=>h x (List.mem_cons_of_mem _ hx)) hd
    show La r (Dt rows) cs=0
    have key:∀(cs:List C) (f:List C->Int),c∈cs->(∀ds,c∈ds->f ds=0)->La r f cs=0:=fun cs=>by
      induction cs with
      | nil=>intro f h;cases h
      | cons d ds ih2=>
        intro f h hf
        rw [La]
        by_cases hd:c∈ds
        . rw [hf ds hd,ih2 (fun x=>f (d::x)) hd (fun e he=>hf _ (List.mem_cons_of_mem _ he))]
          simp
        . have:c=d:=by
            rcases List.mem_cons.mp h with z | z
            . exact z
            . exact absurd z hd
          subst this
          rw [hr]
          have e:(fun x=>f (c::x))=fun _=>0:=by funext x;exact hf _ List.mem_cons_self
          rw [e,Ln]
          simp
    exact key cs (Dt rows) hc ih
theorem Aaz {c:C}{r:C->Int}{rows:List (C->Int)} (h:∀s∈rows,s c=0) (cs:List C):Dt (r::rows) (c::cs)=r c*Dt rows cs:=by
  show La r (Dt rows) (c::cs)=_
  rw [La]
  have e:(fun x=>Dt rows (c::x))=fun _=>0:=by funext x;exact Vd h List.mem_cons_self
  rw [e,Ln]
  simp
end
end Z
namespace Z
section
variable {C:Type}
def Exd (R:List (C->Int)) (d:Int):Prop:=∀(S:List (C->Int)) (cs:List C),(∀s∈S,s∈R)->d^(S.length-1)∣Dt S cs
theorem Exd.start (R:List (C->Int)):Exd R 1:=fun S cs _=>by
  rw [Int.one_pow]
  exact Int.one_dvd _
theorem Exd.sub {R R':List (C->Int)}{d:Int} (h:Exd R d) (hs:∀u∈R',u∈R):Exd R' d:=fun S cs hS=>h S cs fun s hm=>hs s (hS s hm)
theorem Exd.two {R:List (C->Int)}{d:Int} (h:Exd R d) {t s:C->Int} (ht:t∈R) (hs:s∈R) (c j:C):d∣t c*s j-s c*t j:=by
  have e:Dt [t,s] [c,j]=t c*s j-s c*t j:=by
    simp only [Dt,La]
    grind
  rw [<-e]
  have:=h [t,s] [c,j] (by
    intro u hu
    have hu':u=t\/u=s:=by simpa using hu
    rcases hu' with rfl | rfl
    . exact ht
    . exact hs)
  have e1:d^([t,s].length-1)=d:=by show d^1=d;rw [Int.pow_one]
  rwa [e1]at this
theorem V9 {R:List (C->Int)}{d:Int}{t:C->Int}{c:C}:∀ {A':List (C->Int)},(∀u∈A',∃s∈R,∀j,d*u j=t c*s j-s c*t j)->∃A:List (C->Int),A.length=A'.length/\(∀s∈A,s∈R)/\Rel (t c) [t] A (A'.map fun r j=>d*r j)
  | [],_=>⟨[],rfl,by simp,.nil⟩
  | u::A',h=>by
    obtain⟨s,hs,e⟩:=h u (.head _)
    obtain⟨A,e1,e2,e3⟩:=V9 fun v hv=>h v (.tail _ hv)
    refine⟨s::A,by rw [List.length_cons,List.length_cons,e1],fun v hv=> ?_,.cons (v:=fun j=>s c*t j+0) (.add (s c) (by simp) .zero) (fun j=> ?_) e3⟩
    . rcases List.mem_cons.mp hv with rfl | hv
      . exact hs
      . exact e2 v hv
    . have:=e j
      show t c*s j=d*u j+(s c*t j+0)
      omega
theorem T8 {R:List (C->Int)}{d:Int} (h:Exd R d) (d0:d≠0) {t:C->Int}{c:C} (ht:t∈R) {A':List (C->Int)} (hA:∀u∈A',∃s∈R,∀j,d*u j=t c*s j-s c*t j) (cs:List C):t c^A'.length∣Dt (A'++ [t]) cs:=by
  obtain⟨A,e1,e2,e3⟩:=V9 hA
  have h1:=Aa0 e3 cs []
  have h2:=Xi (k:=d) (R:=A') [t] cs []
  rw [List.nil_append,List.nil_append]at h1 h2
  obtain⟨z,hz⟩:=h (A++ [t]) cs (by
    intro u hu
    rcases List.mem_append.mp hu with hu | hu
    . exact e2 u hu
    . have:u=t:=by simpa using hu
      rw [this]
      exact ht)
  rw [List.length_append,List.length_singleton,Nat.add_sub_cancel]at hz
  rw [h2,hz,e1]at h1
  refine⟨z,Int.eq_of_mul_eq_mul_left (Int.pow_ne_zero (m:=A'.length) d0) ?_⟩
  rw [<-h1]
  grind
theorem Exd.step {R R':List (C->Int)}{d:Int} (h:Exd R d) (d0:d≠0) {t:C->Int}{c:C} (p0:t c≠0) (ht:t∈R) (hR:∀u∈R',u=t\/∃s∈R,∀j,d*u j=t c*s j-s c*t j):Exd R' (t c):=fun S cs hS=>by
  by_cases ht':t∈S
  . obtain⟨X,Y,rfl⟩:=List.append_of_mem ht'
    obtain⟨e,he,f⟩:=Ny t Y X
    have f':Dt (X++t::Y) cs=e*Dt (t::(X++Y)) cs:=by
      have:=f cs
      rcases he with rfl | rfl<;>omega
    rw [f']
    by_cases hd:t∈X++Y
    . rw [Vk hd]
      exact⟨0,by simp⟩
    . obtain⟨e2,he2,g⟩:=Ny t [] (X++Y)
      have g':=g cs
      rw [List.append_nil]at g'
      rw [g']
      have k:=T8 h d0 (c:=c) ht (A':=X++Y) (fun u hu=>by
        rcases hR u (hS u (by
          rcases List.mem_append.mp hu with q | q
          . exact List.mem_append_left _ q
          . exact List.mem_append_right _ (.tail _ q)))with z | z
        . rw [z]at hu
          exact absurd hu hd
        . exact z) cs
      have l:(X++t::Y).length-1=(X++Y).length:=by
        simp only [List.length_append,List.length_cons]
        omega
      rw [l]
      exact Int.dvd_trans k ⟨e*e2,by grind⟩
  . have hA:∀u∈S,∃s∈R,∀j,d*u j=t c*s j-s c*t j:=fun u hu=>by
      rcases hR u (hS u hu)with z | z
      . rw [z]at hu
        exact absurd hu ht'
      . exact z
    cases hn:S.length with
    | zero=>exact⟨Dt S cs,by simp⟩
    | succ n=>
      have z0:∀u∈S,u c=0:=fun u hu=>by
        obtain⟨s,_,e⟩:=hA u hu
        have e1:=e c
        have e2:d*u c=0:=by
          rw [e1]
          grind
        exact(Int.mul_eq_zero.mp e2).resolve_left d0
      obtain⟨e2,he2,g⟩:=Ny t [] S
      have g':=g (c::cs)
      rw [List.append_nil,Aaz z0]at g'
      obtain⟨z,hz⟩:=T8 h d0 (c:=c) ht hA (c::cs)
      rw [hz,hn,Int.pow_succ]at g'
      refine⟨e2*z,Int.eq_of_mul_eq_mul_left p0 ?_⟩
      rw [g']
      show _=t c*(t c^(n+1-1)*(e2*z))
      rw [Nat.add_sub_cancel]
      grind
end
end Z
namespace Z
theorem Ib {a b:Int} (h:0<b):a.fdiv (Int.gcd a b:Int)=(Rat.divInt a b).num/\b.fdiv (Int.gcd a b:Int)=((Rat.divInt a b).den:Int):=by
  have g0:(0:Int)<=(Int.gcd a b:Int):=Int.natCast_nonneg _
  rw [Int.fdiv_eq_ediv_of_nonneg _ g0,Int.fdiv_eq_ediv_of_nonneg _ g0,Rat.num_divInt,Rat.den_divInt]
  rw [if_neg (by omega),Int.sign_eq_one_of_pos h,Int.one_mul,Int.gcd_comm b a]
  refine⟨rfl,?_⟩
  rw [Int.natCast_ediv]
  congr 1
  omega
theorem Tq {a b:Int} (h:b<0):a.fdiv (-(Int.gcd a b:Int))=(Rat.divInt a b).num/\b.fdiv (-(Int.gcd a b:Int))=((Rat.divInt a b).den:Int):=by
  have e:Rat.divInt a b=Rat.divInt (-a) (-b):=(Rat.neg_divInt_neg a b).symm
  have p:=Ib (a:= -a) (b:= -b) (by omega)
  have hg:Int.gcd (-a) (-b)=Int.gcd a b:=by rw [Int.gcd_neg,Int.neg_gcd]
  rw [hg]at p
  rw [e,<-p.1,<-p.2]
  constructor
  . rw [<-Int.neg_fdiv_neg (-a),Int.neg_neg]
  . rw [<-Int.neg_fdiv_neg (-b),Int.neg_neg]
theorem Adc (p q:Rat):Rat.divInt (p.num*q.den+q.num*p.den) (p.den*q.den)=p+q:=by
  rw [Rat.add_def',<-Rat.divInt_ofNat];congr 1
theorem Adi (p q:Rat):Rat.divInt (p.num*q.num) (p.den*q.den)=p*q:=by
  rw [Rat.mul_def',<-Rat.divInt_ofNat];congr 1
theorem Abt (a b:Int):(Rat.divInt a b).num.natAbs<=a.natAbs:=by
  rw [Rat.num_divInt]
  refine Nat.le_trans (Int.natAbs_ediv_le_natAbs _ _) ?_
  rw [Int.natAbs_mul]
  have:b.sign.natAbs<=1:=by
    rcases Int.lt_trichotomy b 0 with h | h | h
    . rw [Int.sign_eq_neg_one_of_neg h];decide
    . subst h;decide
    . rw [Int.sign_eq_one_of_pos h];decide
  calc b.sign.natAbs*a.natAbs<=1*a.natAbs:=Nat.mul_le_mul_right _ this
    _=a.natAbs:=Nat.one_mul _
theorem Abd {a b:Int} (h:b≠0):(Rat.divInt a b).den<=b.natAbs:=by
  rw [Rat.den_divInt,if_neg h]
  exact Nat.div_le_self _ _
theorem abs_eq (i:Int):(if i<0 then-i else i)=((i.natAbs:Nat):Int):=by
  split<;>omega
theorem Tn (x y:Nat):Nat.gcd y (x%y)=Nat.gcd x y:=by
  rw [Nat.gcd_comm y (x%y),<-Nat.gcd_rec,Nat.gcd_comm]
end Z
namespace Z
def rf (l:List Int):Nat->Int:=fun j=>l.getD j 0
def Q7 (l:List Int) (z:Nat->Rat):Nat->Rat
  | 0=>0
  | u+1=>Q7 l z u+(rf l u:Rat)*z u
def Sol (M:List (List Int)) (u:Nat) (z:Nat->Rat):Prop:=∀l∈M,Q7 l z u=(rf l u:Rat)
def Lin (d p q:Int) (x s t:List Int):Prop:=∀j,d*rf x j=p*rf s j-q*rf t j
theorem Lin.dot {d p q:Int}{x s t:List Int} (h:Lin d p q x s t) (z:Nat->Rat):∀u,(d:Rat)*Q7 x z u=p*Q7 s z u-q*Q7 t z u
  | 0=>by
    simp only [Q7]
    grind
  | u+1=>by
    have ih:=h.dot z u
    have e:(d:Rat)*(rf x u:Rat)=p*(rf s u:Rat)-q*(rf t u:Rat):=by exact_mod_cast h u
    simp only [Q7]
    grind
theorem W7 {M M':List (List Int)}{u:Nat}{z:Nat->Rat}{t:List Int}{d p:Int} (d0:d≠0) (p0:p≠0) (ht:t∈M) (ht':t∈M') (h1:∀x∈M',x=t\/∃s∈M,∃q,Lin d p q x s t) (h2:∀s∈M,s=t\/∃x∈M',∃q,Lin d p q x s t):Sol M u z↔Sol M' u z:=by
  have dR:(d:Rat)≠0:=by exact_mod_cast d0
  have pR:(p:Rat)≠0:=by exact_mod_cast p0
  constructor
  . intro h x hx
    rcases h1 x hx with rfl | ⟨s,hs,q,l⟩
    . exact h _ ht
    . have e1:=l.dot z u
      have e2:(d:Rat)*(rf x u:Rat)=p*(rf s u:Rat)-q*(rf t u:Rat):=by exact_mod_cast l u
      rw [h s hs,h t ht,<-e2]at e1
      grind
  . intro h s hs
    rcases h2 s hs with rfl | ⟨x,hx,q,l⟩
    . exact h _ ht'
    . have e1:=l.dot z u
      have e2:(d:Rat)*(rf x u:Rat)=p*(rf s u:Rat)-q*(rf t u:Rat):=by exact_mod_cast l u
      rw [h x hx,h t ht']at e1
      grind
end Z
namespace Z
def clr (t:List Int) (c:Nat) (d:Int) (s:List Int):List Int:=List.zipWith (fun w o=>(t.getD c 0*w-s.getD c 0*o).fdiv d) s t
theorem Zj {t s:List Int}{c N:Nat}{d:Int} (ht:t.length=N) (hs:s.length=N):(clr t c d s).length=N:=by
  unfold clr
  rw [List.length_zipWith]
  omega
theorem Aau {t s:List Int}{c N:Nat}{d:Int} (ht:t.length=N) (hs:s.length=N) (j:Nat):rf (clr t c d s) j=(rf t c*rf s j-rf s c*rf t j).fdiv d:=by
  unfold rf clr
  by_cases h:j<N
  . rw [List.getD_eq_getElem?_getD,List.getElem?_zipWith,List.getD_eq_getElem?_getD (l:=s) (i:=j),List.getD_eq_getElem?_getD (l:=t) (i:=j),List.getElem?_eq_getElem (by omega),List.getElem?_eq_getElem (by omega)]
    rfl
  . rw [List.getD_eq_getElem?_getD,List.getElem?_eq_none (by rw [List.length_zipWith];omega),List.getD_eq_getElem?_getD (l:=s) (i:=j),List.getElem?_eq_none (by omega),List.getD_eq_getElem?_getD (l:=t) (i:=j),List.getElem?_eq_none (by omega)]
    simp
theorem Zv {t s:List Int}{c N:Nat}{d:Int} (d0:d≠0) (ht:t.length=N) (hs:s.length=N) (dv:∀j,d∣rf t c*rf s j-rf s c*rf t j):Lin d (rf t c) (rf s c) (clr t c d s) s t:=fun j=>by
  rw [Aau ht hs]
  obtain⟨q,hq⟩:=dv j
  rw [hq,Int.mul_fdiv_cancel_left q d0]
structure Red (M0 L:List (List Int)) (cs:List Nat) (d:Int) (c u N n:Nat):Prop where
  d0:d≠0
  ex:Exd (L.map rf) d
  so:∀z,Sol M0 u z↔Sol L u z
  ln:∀r∈L,r.length=N
  sz:∀r∈L,∀j,(rf r j).natAbs<2^((n+1)*2^cs.length-1)
  kl:cs.length<=L.length
  pv:∀(i j:Nat) r cj,L[i]? =some r->cs[j]? =some cj->rf r cj=if i=j then d else 0
  lo:∀(i:Nat) r,cs.length<=i->L[i]? =some r->∀j,j<c->rf r j=0
  lt:∀x∈cs,x<c
  inc:cs.Pairwise (· < ·)
  ll:L.length=M0.length
theorem Red.start {M:List (List Int)}{u N n:Nat} (ln:∀r∈M,r.length=N) (sz:∀r∈M,∀j,(rf r j).natAbs<2^n):Red M M [] 1 0 u N n:=
  ⟨by decide,Exd.start _,fun _=>Iff.rfl,ln,fun r hr j=>by simpa using sz r hr j,Nat.zero_le _,by simp,fun _ _ _ _ _ h=>absurd h (Nat.not_lt_zero _),by simp,.nil,rfl⟩
theorem Red.skip {M0 L:List (List Int)}{cs:List Nat}{d:Int}{c u N n:Nat} (h:Red M0 L cs d c u N n) (z:∀(i:Nat) r,cs.length<=i->L[i]? =some r->rf r c=0):Red M0 L cs d (c+1) u N n:=
  ⟨h.d0,h.ex,h.so,h.ln,h.sz,h.kl,h.pv,fun i r hi hr j hj=>by
    by_cases e:j=c
    . rw [e]
      exact z i r hi hr
    . exact h.lo i r hi hr j (by omega),fun x hx=>Nat.lt_succ_of_lt (h.lt x hx),h.inc,h.ll⟩
theorem Fx {α:Type}{L:List α}{k f:Nat}{x y:α} (hk:L[k]? =some x) (hf:L[f]? =some y) (i:Nat):((L.set k y).set f x)[i]? =if i=f then some x else if i=k then some y else L[i]? :=by
  have lk:=(List.getElem?_eq_some_iff.mp hk).1
  have lf:=(List.getElem?_eq_some_iff.mp hf).1
  by_cases e:i=f
  . rw [e,if_pos rfl,List.getElem?_set_self (by rw [List.length_set];exact lf)]
  . rw [if_neg e,List.getElem?_set_ne (Ne.symm e)]
    by_cases e2:i=k
    . rw [e2,if_pos rfl,List.getElem?_set_self lk]
    . rw [if_neg e2,List.getElem?_set_ne (Ne.symm e2)]
theorem Z0 {α:Type}{L:List α}{k f:Nat}{x y:α} (hk:L[k]? =some x) (hf:L[f]? =some y) (r:α):r∈(L.set k y).set f x↔r∈L:=by
  constructor
  . intro h
    obtain⟨i,hi⟩:=List.getElem?_of_mem h
    rw [Fx hk hf]at hi
    split at hi
    . cases hi
      exact List.mem_of_getElem? hk
    . split at hi
      . cases hi
        exact List.mem_of_getElem? hf
      . exact List.mem_of_getElem? hi
  . intro h
    obtain⟨i,hi⟩:=List.getElem?_of_mem h
    by_cases e:i=f
    . subst e
      rw [hf]at hi
      cases hi
      by_cases e2:i=k
      . subst e2
        rw [hf]at hk
        cases hk
        exact List.mem_of_getElem? (by rw [Fx hf hf i,if_pos rfl])
      . exact List.mem_of_getElem? (i:=k) (by rw [Fx hk hf,if_neg (Ne.symm e2),if_pos rfl])
    . by_cases e2:i=k
      . subst e2
        rw [hk]at hi
        cases hi
        exact List.mem_of_getElem? (i:=f) (by rw [Fx hk hf,if_pos rfl])
      . exact List.mem_of_getElem? (i:=i) (by rw [Fx hk hf,if_neg e,if_neg e2];exact hi)
theorem Red.swap {M0 L:List (List Int)}{cs:List Nat}{d:Int}{c u N n f:Nat}{x y:List Int} (h:Red M0 L cs d c u N n) (hk:L[cs.length]? =some x) (hf:L[f]? =some y) (kf:cs.length<=f):Red M0 ((L.set cs.length y).set f x) cs d c u N n:=by
  have mm:=Z0 hk hf
  refine⟨h.d0,h.ex.sub fun v hv=> ?_,fun z=>(h.so z).trans ⟨fun g l hl=>g l ((mm l).mp hl),fun g l hl=>g l ((mm l).mpr hl)⟩,fun r hr=>h.ln r ((mm r).mp hr),fun r hr=>h.sz r ((mm r).mp hr),by rw [List.length_set,List.length_set];exact h.kl,fun i j r cj hi hj=> ?_,fun i r hi hr=> ?_,h.lt,h.inc,by rw [List.length_set,List.length_set];exact h.ll⟩
  . obtain⟨r,hr,rfl⟩:=List.mem_map.mp hv
    exact List.mem_map.mpr ⟨r,(mm r).mp hr,rfl⟩
  . have jl:=(List.getElem?_eq_some_iff.mp hj).1
    rw [Fx hk hf]at hi
    split at hi
    . rename_i e
      cases hi
      have:=h.pv cs.length j x cj hk hj
      rw [this,if_neg (by omega),if_neg (by omega)]
    . split at hi
      . rename_i e1 e2
        cases hi
        have:=h.pv f j y cj hf hj
        rw [this,if_neg (by omega),if_neg (by omega)]
      . exact h.pv i j r cj hi hj
  . rw [Fx hk hf]at hr
    split at hr
    . cases hr
      exact h.lo cs.length x (Nat.le_refl _) hk
    . split at hr
      . cases hr
        exact h.lo f y kf hf
      . exact h.lo i r hi hr
theorem Red.clear {M0 L L':List (List Int)}{cs:List Nat}{d:Int}{c u N n:Nat}{t:List Int} (h:Red M0 L cs d c u N n) (hk:L[cs.length]? =some t) (p0:rf t c≠0) (ll:L'.length=L.length) (me:L'[cs.length]? =some t) (ot:∀j r,j≠cs.length->L[j]? =some r->L'[j]? =some (clr t c d r)):Red M0 L' (cs++ [c]) (rf t c) (c+1) u N n:=by
  have tm:=List.mem_of_getElem? hk
  have tm':=List.mem_of_getElem? me
  have tN:=h.ln t tm
  have dv:∀s∈L,∀j,d∣rf t c*rf s j-rf s c*rf t j:=fun s hs j=>h.ex.two (List.mem_map.mpr ⟨t,tm,rfl⟩) (List.mem_map.mpr ⟨s,hs,rfl⟩) c j
  have li:∀s∈L,Lin d (rf t c) (rf s c) (clr t c d s) s t:=fun s hs=>Zv h.d0 tN (h.ln s hs) (dv s hs)
  have inv:∀(i:Nat) x,L'[i]? =some x->i≠cs.length->∃s,L[i]? =some s/\s∈L/\x=clr t c d s:=fun i x hx hi=>by
    have il:=(List.getElem?_eq_some_iff.mp hx).1
    have e:L[i]? =some L[i]:=List.getElem?_eq_getElem (by omega)
    have:=ot i _ hi e
    rw [hx]at this
    exact⟨_,e,List.getElem_mem _,by simpa using this⟩
  have inv2:∀x∈L',x=t\/∃s∈L,x=clr t c d s:=fun x hx=>by
    obtain⟨i,hi⟩:=List.getElem?_of_mem hx
    by_cases e:i=cs.length
    . subst e
      rw [me]at hi
      exact .inl (by simpa using hi.symm)
    . obtain⟨s,_,b,e⟩:=inv i x hi e
      exact .inr ⟨s,b,e⟩
  have lt0:∀(j:Nat) cj,cs[j]? =some cj->rf t cj=0:=fun j cj hj=>by
    have jl:=(List.getElem?_eq_some_iff.mp hj).1
    rw [h.pv _ _ _ _ hk hj,if_neg (by omega)]
  refine⟨p0,h.ex.step h.d0 (t:=rf t) (c:=c) p0 (List.mem_map.mpr ⟨t,tm,rfl⟩) (fun v hv=> ?_),fun z=>(h.so z).trans (W7 h.d0 p0 tm tm' (fun x hx=> ?_) fun s hs=> ?_),fun r hr=> ?_,fun r hr j=> ?_,?_,fun i j r cj hi hj=> ?_,fun i r hi hr j hj=> ?_,fun x hx=> ?_,?_,by rw [ll];exact h.ll⟩
  . obtain⟨x,hx,rfl⟩:=List.mem_map.mp hv
    rcases inv2 x hx with rfl | ⟨s,hs,rfl⟩
    . exact .inl rfl
    . exact .inr ⟨rf s,List.mem_map.mpr ⟨s,hs,rfl⟩,fun j=>li s hs j⟩
  . rcases inv2 x hx with rfl | ⟨s,hs,rfl⟩
    . exact .inl rfl
    . exact .inr ⟨s,hs,_,li s hs⟩
  . obtain⟨i,hi⟩:=List.getElem?_of_mem hs
    by_cases e:i=cs.length
    . subst e
      rw [hk]at hi
      exact .inl (by simpa using hi.symm)
    . exact .inr ⟨_,List.mem_of_getElem? (ot i s e hi),_,li s hs⟩
  . rcases inv2 r hr with rfl | ⟨s,hs,rfl⟩
    . exact tN
    . exact Zj tN (h.ln s hs)
  . have m0:(n+1)*2^cs.length<=(n+1)*2^(cs++ [c]).length:=Nat.mul_le_mul_left _ (Nat.pow_le_pow_right (by decide) (by simp))
    have m1:(n+1)*2^(cs++ [c]).length=(n+1)*2^cs.length*2:=by rw [List.length_append,List.length_singleton,Nat.pow_succ,Nat.mul_assoc]
    have m2:0<(n+1)*2^cs.length:=Nat.mul_pos (Nat.succ_pos _) (Nat.two_pow_pos _)
    rcases inv2 r hr with rfl | ⟨s,hs,rfl⟩
    . exact Nat.lt_of_lt_of_le (h.sz _ tm j) (Nat.pow_le_pow_right (by decide) (by omega))
    . have e:=li s hs j
      rw [m1]
      have z1:=h.sz t tm c
      have z2:=h.sz s hs j
      have z3:=h.sz s hs c
      have z4:=h.sz t tm j
      generalize (n+1)*2^cs.length=m at m2 z1 z2 z3 z4
      have ep:2^(m*2-1)=2^(m-1)*2^(m-1)+2^(m-1)*2^(m-1):=by
        rw [<-Nat.two_mul,<-Nat.pow_add,Nat.mul_comm 2,<-Nat.pow_succ]
        congr 1
        omega
      have a1:(rf t c*rf s j).natAbs<2^(m-1)*2^(m-1):=by
        rw [Int.natAbs_mul]
        exact Nat.mul_lt_mul'' z1 z2
      have a2:(rf s c*rf t j).natAbs<2^(m-1)*2^(m-1):=by
        rw [Int.natAbs_mul]
        exact Nat.mul_lt_mul'' z3 z4
      have a3:(rf (clr t c d s) j).natAbs<=(d*rf (clr t c d s) j).natAbs:=by
        rw [Int.natAbs_mul]
        exact Nat.le_mul_of_pos_left _ (by have:=h.d0;omega)
      rw [e]at a3
      rw [ep]
      omega
  . have:=(List.getElem?_eq_some_iff.mp hk).1
    rw [List.length_append,List.length_singleton,ll]
    exact this
  . by_cases ei:i=cs.length
    . subst ei
      rw [me]at hi
      cases hi
      by_cases ej:j<cs.length
      . rw [List.getElem?_append_left ej]at hj
        rw [lt0 j cj hj,if_neg (by omega)]
      . have jl:=(List.getElem?_eq_some_iff.mp hj).1
        rw [List.length_append,List.length_singleton]at jl
        have ej':j=cs.length:=by omega
        subst ej'
        rw [List.getElem?_append_right (Nat.le_refl _),Nat.sub_self]at hj
        have:c=cj:=by simpa using hj
        rw [if_pos rfl,<-this]
    . obtain⟨s,es,hs,rfl⟩:=inv i r hi ei
      have e:=li s hs cj
      have d0:=h.d0
      by_cases ej:j<cs.length
      . rw [List.getElem?_append_left ej]at hj
        rw [lt0 j cj hj,Int.mul_zero,Int.sub_zero,h.pv i j s cj es hj]at e
        split
        . rename_i eq
          rw [if_pos eq,Int.mul_comm (rf t c)]at e
          exact Int.eq_of_mul_eq_mul_left d0 e
        . rename_i eq
          rw [if_neg eq,Int.mul_zero]at e
          exact(Int.mul_eq_zero.mp e).resolve_left d0
      . have jl:=(List.getElem?_eq_some_iff.mp hj).1
        rw [List.length_append,List.length_singleton]at jl
        have ej':j=cs.length:=by omega
        subst ej'
        rw [List.getElem?_append_right (Nat.le_refl _),Nat.sub_self]at hj
        have:c=cj:=by simpa using hj
        subst this
        rw [if_neg ei]
        rw [Int.mul_comm (rf s c),Int.sub_self]at e
        exact(Int.mul_eq_zero.mp e).resolve_left d0
  . rw [List.length_append,List.length_singleton]at hi
    obtain⟨s,es,hs,rfl⟩:=inv i r hr (by omega)
    have e:=li s hs j
    have d0:=h.d0
    by_cases ej:j=c
    . subst ej
      rw [Int.mul_comm (rf s j),Int.sub_self]at e
      exact(Int.mul_eq_zero.mp e).resolve_left d0
    . rw [h.lo i s (by omega) es j (by omega),h.lo _ t (Nat.le_refl _) hk j (by omega),Int.mul_zero,Int.mul_zero,Int.sub_self]at e
      exact(Int.mul_eq_zero.mp e).resolve_left d0
  . rcases List.mem_append.mp hx with hx | hx
    . exact Nat.lt_succ_of_lt (h.lt x hx)
    . have:x=c:=by simpa using hx
      omega
  . rw [List.pairwise_append]
    refine⟨h.inc,List.pairwise_singleton _ _,fun a ha b hb=> ?_⟩
    have:b=c:=by simpa using hb
    have:=h.lt a ha
    omega
end Z
namespace Z
def Aal (l z:Nat->Rat):Nat->Rat
  | 0=>0
  | u+1=>Aal l z u+l u*z u
def dq:List Rat->List Rat->Rat
  | a::l,b::z=>a*b+dq l z
  | _,_=>0
theorem Rv:∀ {l z:List Rat}{a b:Rat},l.length=z.length->dq (l++ [a]) (z++ [b])=dq l z+a*b
  | [],[],a,b,_=>by simp only [List.nil_append,dq];grind
  | x::l,y::z,a,b,h=>by
    have:=Rv (l:=l) (z:=z) (a:=a) (b:=b) (by simpa using h)
    simp only [List.cons_append,dq,this]
    grind
theorem Tc (f g:Nat->Rat):∀u,dq ((List.range u).map f) ((List.range u).map g)=Aal f g u
  | 0=>rfl
  | u+1=>by
    rw [List.range_succ,List.map_append,List.map_append]
    show dq (_++ [f u]) (_++ [g u])=_
    rw [Rv (by simp),Tc f g u]
    rfl
def qf (l:List Rat):Nat->Rat:=fun j=>l.getD j 0
theorem Hy {l:List Rat}{u:Nat} (h:l.length=u):l=(List.range u).map (qf l):=by
  refine List.ext_getElem? fun j=> ?_
  rw [List.getElem?_map]
  by_cases hj:j<u
  . rw [List.getElem?_range hj,List.getElem?_eq_getElem (by omega)]
    unfold qf
    rw [Option.map_some,List.getD_eq_getElem?_getD,List.getElem?_eq_getElem (by omega)]
    rfl
  . rw [List.getElem?_eq_none (by omega),List.getElem?_eq_none (by simp;omega)]
    rfl
theorem Ac4 {l z:List Rat}{u:Nat} (hl:l.length=u) (hz:z.length=u):dq l z=Aal (qf l) (qf z) u:=by
  rw [<-Tc,<-Hy hl,<-Hy hz]
theorem Mv {m:List Int}{l z:Nat->Rat}{B:Rat}:∀ {u:Nat},(∀j,j<u->(rf m j:Rat)=B*l j)->Q7 m z u=B*Aal l z u
  | 0,_=>by simp only [Q7,Aal];grind
  | u+1,h=>by
    have h1:=Mv (z:=z) fun j (hj:j<u)=>h j (by omega)
    have h2:=h u (by omega)
    simp only [Q7,Aal,h1,h2]
    grind
structure Whl (M:List (List Int)) (R:List (List Rat)) (b:List Rat) (u:Nat):Prop where
  lm:M.length=R.length
  lb:b.length=R.length
  lr:∀r∈R,r.length=u
  ok:∀(i:Nat) m r q,M[i]? =some m->R[i]? =some r->b[i]? =some q->∃B:Rat,B≠0/\(∀j,j<u->(rf m j:Rat)=B*qf r j)/\(rf m u:Rat)=B*q
theorem Whl.sol {M:List (List Int)}{R:List (List Rat)}{b:List Rat}{u:Nat} (h:Whl M R b u) {z:List Rat} (hz:z.length=u):Sol M u (qf z)↔R.map (dq · z)=b:=by
  have key:∀(i:Nat) m r q,M[i]? =some m->R[i]? =some r->b[i]? =some q->(Q7 m (qf z) u=(rf m u:Rat)↔dq r z=q):=fun i m r q hm hr hq=>by
    obtain⟨B,B0,e1,e2⟩:=h.ok i m r q hm hr hq
    rw [Mv e1,e2,Ac4 (h.lr r (List.mem_of_getElem? hr)) hz]
    constructor
    . intro e
      grind
    . intro e
      rw [e]
  constructor
  . intro s
    refine List.ext_getElem? fun i=> ?_
    by_cases hi:i<R.length
    . have er:R[i]? =some R[i]:=List.getElem?_eq_getElem hi
      have em:M[i]? =some (M[i]'(by rw [h.lm];exact hi)):=List.getElem?_eq_getElem _
      have eb:b[i]? =some (b[i]'(by rw [h.lb];exact hi)):=List.getElem?_eq_getElem _
      rw [List.getElem?_map,er,eb,Option.map_some,(key i _ _ _ em er eb).mp (s _ (List.getElem_mem _))]
    . rw [List.getElem?_eq_none (by simp;omega),List.getElem?_eq_none (by rw [h.lb];omega)]
  . intro e m hm
    obtain⟨i,hi⟩:=List.getElem?_of_mem hm
    have il:=(List.getElem?_eq_some_iff.mp hi).1
    have er:R[i]? =some (R[i]'(by rw [<-h.lm];exact il)):=List.getElem?_eq_getElem _
    have eb:b[i]? =some (b[i]'(by rw [h.lb,<-h.lm];exact il)):=List.getElem?_eq_getElem _
    refine(key i m _ _ hi er eb).mpr ?_
    have:=congrArg (·[i]?) e
    simp only [List.getElem?_map,er,eb,Option.map_some,Option.some.injEq]at this
    exact this
def sgm (g:Nat->Rat):List Nat->Rat
  | []=>0
  | a::l=>g a+sgm g l
theorem Ml (g:Nat->Rat):∀l m,sgm g (l++m)=sgm g l+sgm g m
  | [],m=>by simp only [List.nil_append,sgm];grind
  | a::l,m=>by
    simp only [List.cons_append,sgm,Ml g l m]
    grind
def frees (cs:List Nat) (u:Nat):List Nat:=(List.range u).filter fun j=> !(cs.contains j)
theorem Us (cs:List Nat) (u:Nat):frees cs (u+1)=frees cs u++if cs.contains u then []else [u]:=by
  unfold frees
  rw [List.range_succ,List.filter_append]
  congr 1
  by_cases hu:u∈cs<;>simp [hu]
theorem Sq {r:List Int}{cs:List Nat}{ci:Nat}{d:Int}{z:Nat->Rat} (hc:ci∈cs) (h1:rf r ci=d) (h2:∀x∈cs,x≠ci->rf r x=0):∀u,Q7 r z u=sgm (fun f=>(rf r f:Rat)*z f) (frees cs u)+if ci<u then(d:Rat)*z ci else 0
  | 0=>by
    simp only [Q7,frees,List.range_zero,List.filter_nil,sgm]
    rw [if_neg (Nat.not_lt_zero _)]
    grind
  | u+1=>by
    rw [Us,Ml]
    simp only [Q7,Sq hc h1 h2 u]
    by_cases hu:u∈cs
    . have hk:(if cs.contains u then []else [u])=([]:List Nat):=if_pos (by simpa using hu)
      rw [hk]
      by_cases e:u=ci
      . subst e
        rw [if_neg (Nat.lt_irrefl _),if_pos (Nat.lt_succ_self _),h1]
        simp only [sgm]
        try grind
      . rw [h2 u hu e]
        have:(ci<u+1)=(ci<u):=by simp only [eq_iff_iff];omega
        simp only [this,sgm]
        grind
    . have hk:(if cs.contains u then []else [u])=[u]:=if_neg (by simpa using hu)
      rw [hk]
      have e:u≠ci:=fun e=>hu (e▸hc)
      have:(ci<u+1)=(ci<u):=by simp only [eq_iff_iff];omega
      simp only [this,sgm]
      grind
theorem Rn {r:List Int}{z:Nat->Rat}:∀ {u:Nat},(∀j,j<u->rf r j=0)->Q7 r z u=0
  | 0,_=>rfl
  | u+1,h=>by
    simp only [Q7,Rn (z:=z) fun j (hj:j<u)=>h j (by omega),h u (by omega)]
    grind
def smd:List Rat->List (Rat × List Rat)->List Rat
  | x,[]=>x
  | x,(s,g)::r=>smd (List.zipWith (fun a b=>a+s*b) x g) r
theorem Yy {x g:List Rat}{u:Nat}{s:Rat} (hx:x.length=u) (hg:g.length=u) (j:Nat):qf (List.zipWith (fun a b=>a+s*b) x g) j=qf x j+s*qf g j:=by
  unfold qf
  by_cases h:j<u
  . rw [List.getD_eq_getElem?_getD,List.getElem?_zipWith,List.getD_eq_getElem?_getD,List.getD_eq_getElem?_getD,List.getElem?_eq_getElem (by omega),List.getElem?_eq_getElem (by omega)]
    rfl
  . rw [List.getD_eq_getElem?_getD,List.getElem?_eq_none (by rw [List.length_zipWith];omega),List.getD_eq_getElem?_getD,List.getElem?_eq_none (by omega),List.getD_eq_getElem?_getD,List.getElem?_eq_none (by omega)]
    simp only [Option.getD_none]
    grind
theorem V2 {u:Nat}{s:Nat->Rat}{bb:Nat->List Rat}:∀ {fr:List Nat}{x:List Rat},x.length=u->(∀f∈fr,(bb f).length=u)->(smd x (fr.map fun f=>(s f,bb f))).length=u/\∀j,qf (smd x (fr.map fun f=>(s f,bb f))) j=qf x j+sgm (fun f=>s f*qf (bb f) j) fr
  | [],x,hx,_=>⟨hx,fun j=>by simp only [List.map_nil,smd,sgm];grind⟩
  | f::fr,x,hx,hb=>by
    have hf:=hb f (.head _)
    obtain⟨a,b⟩:=V2 (s:=s) (fr:=fr) (x:=List.zipWith (fun a b=>a+s f*b) x (bb f)) (by rw [List.length_zipWith];omega) fun g hg=>hb g (.tail _ hg)
    refine⟨a,fun j=> ?_⟩
    have:=b j
    rw [Yy hx hf]at this
    simp only [List.map_cons,smd,sgm,this]
    grind
theorem Wz {s:Nat->Rat}{g:Nat->Rat}{f0:Nat}:∀ {fr:List Nat},(∀f∈fr,g f=if f0=f then 1 else 0)->f0∉fr->sgm (fun f=>s f*g f) fr=0
  | [],_,_=>rfl
  | f::fr,h,n=>by
    have n':f0≠f/\f0∉fr:=⟨fun e=>n (e▸ .head _),fun e=>n (.tail _ e)⟩
    simp only [sgm,Wz (s:=s) (fun g hg=>h g (.tail _ hg)) n'.2,h f (.head _)]
    rw [if_neg n'.1]
    grind
theorem Sh {s:Nat->Rat}{g:Nat->Rat}{f0:Nat}:∀ {fr:List Nat},(∀f∈fr,g f=if f0=f then 1 else 0)->f0∈fr->fr.Nodup->sgm (fun f=>s f*g f) fr=s f0
  | f::fr,h,m,n=>by
    have hn:=List.nodup_cons.mp n
    have hf:=h f (.head _)
    rcases List.mem_cons.mp m with e | e
    . subst e
      rw [if_pos rfl]at hf
      simp only [sgm,Wz (s:=s) (fun g hg=>h g (.tail _ hg)) hn.1,hf]
      grind
    . rw [if_neg (fun q:f0=f=>hn.1 (q▸e))]at hf
      simp only [sgm,Sh (s:=s) (fun g hg=>h g (.tail _ hg)) e hn.2,hf]
      grind
theorem Wi {α:Type} [Inhabited α]:∀ {fr:List Nat}{s:List α},fr.Nodup->s.length=fr.length->∃g:Nat->α,s=fr.map g
  | [],[],_,_=>⟨fun _=>default,rfl⟩
  | f::fr,a::s,n,h=>by
    have hn:=List.nodup_cons.mp n
    obtain⟨g,e⟩:=Wi (s:=s) hn.2 (by simpa using h)
    refine⟨fun j=>if j=f then a else g j,?_⟩
    rw [List.map_cons,if_pos rfl,e]
    congr 1
    refine List.map_congr_left fun x hx=> ?_
    rw [if_neg (fun q:x=f=>hn.1 (q▸hx))]
theorem N7 {α β γ:Type} (f:α->β) (g:α->γ):∀l:List α,(l.map f).zip (l.map g)=l.map fun x=>(f x,g x)
  | []=>rfl
  | _::l=>by rw [List.map_cons,List.map_cons,List.zip_cons_cons,N7 f g l];rfl
theorem Ss {g:Nat->Rat}{k:Rat}:∀fr,sgm (fun f=>k*g f) fr=k*sgm g fr
  | []=>by simp only [sgm];grind
  | f::fr=>by
    simp only [sgm,Ss (g:=g) (k:=k) fr]
    grind
theorem Lk {g h:Nat->Rat}:∀ {fr:List Nat},(∀f∈fr,g f=h f)->sgm g fr=sgm h fr
  | [],_=>rfl
  | f::fr,e=>by
    simp only [sgm,e f (.head _),Lk (fr:=fr) fun x hx=>e x (.tail _ hx)]
theorem Ii {cs:List Nat}{u j:Nat}:j∈frees cs u↔j<u/\j∉cs:=by
  unfold frees
  rw [List.mem_filter,List.mem_range]
  simp
theorem Ey (cs:List Nat) (u:Nat):(frees cs u).Nodup:=List.Pairwise.filter _ List.nodup_range
structure All (R:List (List Rat)) (b:List Rat) (u:Nat) (x:List Rat) (fr:List Nat) (bs:List (List Rat)):Prop where
  lx:x.length=u
  lb:bs.length=fr.length
  bu:∀g∈bs,g.length=u
  lf:∀f∈fr,f<u
  sl:∀z:List Rat,z.length=u->(R.map (dq · z)=b↔z=smd x ((fr.map (qf z)).zip bs))
  an:∀s:List Rat,s.length=fr.length->(smd x (s.zip bs)).length=u/\fr.map (qf (smd x (s.zip bs)))=s
theorem Red.none {M0 L:List (List Int)}{cs:List Nat}{d:Int}{u N n i:Nat}{r:List Int} (h:Red M0 L cs d u u N n) (hi:cs.length<=i) (hr:L[i]? =some r) (r0:rf r u≠0) (z:Nat->Rat):¬Sol M0 u z:=fun s=>by
  have:=(h.so z).mp s r (List.mem_of_getElem? hr)
  rw [Rn (h.lo i r hi hr)]at this
  exact r0 (by exact_mod_cast this.symm)
theorem Red.led {M0 L:List (List Int)}{cs:List Nat}{d:Int}{c u N n i:Nat}{r:List Int}{ci:Nat} (h:Red M0 L cs d c u N n) (hr:L[i]? =some r) (hc:cs[i]? =some ci):rf r ci=d/\∀x∈cs,x≠ci->rf r x=0:=by
  refine⟨by rw [h.pv i i r ci hr hc,if_pos rfl],fun x hx hn=> ?_⟩
  obtain⟨k,hk⟩:=List.getElem?_of_mem hx
  rw [h.pv i k r x hr hk,if_neg]
  intro e
  subst e
  rw [hc]at hk
  exact hn (by simpa using hk.symm)
theorem Red.sol {M0 L:List (List Int)}{cs:List Nat}{d:Int}{u N n:Nat} (h:Red M0 L cs d u u N n) (lo:∀(i:Nat) r,cs.length<=i->L[i]? =some r->rf r u=0) (z:Nat->Rat):Sol M0 u z↔ ∀(i:Nat) r ci,L[i]? =some r->cs[i]? =some ci->sgm (fun f=>(rf r f:Rat)*z f) (frees cs u)+(d:Rat)*z ci=(rf r u:Rat):=by
  refine(h.so z).trans ⟨fun s i r ci hr hc=> ?_,fun s r hm=> ?_⟩
  . have:=s r (List.mem_of_getElem? hr)
    obtain⟨a,b⟩:=h.led hr hc
    have cm:=List.mem_of_getElem? hc
    rwa [Sq cm a b,if_pos (h.lt ci cm)]at this
  . obtain⟨i,hi⟩:=List.getElem?_of_mem hm
    by_cases hl:i<cs.length
    . have hc:cs[i]? =some cs[i]:=List.getElem?_eq_getElem hl
      obtain⟨a,b⟩:=h.led hi hc
      have cm:=List.mem_of_getElem? hc
      rw [Sq cm a b,if_pos (h.lt _ cm)]
      exact s i r _ hi hc
    . rw [Rn (h.lo i r (by omega) hi),lo i r (by omega) hi]
      rfl
theorem Red.all {M0 L:List (List Int)}{cs:List Nat}{d:Int}{u N n:Nat}{R:List (List Rat)}{b x:List Rat}{bb:Nat->List Rat} (h:Red M0 L cs d u u N n) (w:Whl M0 R b u) (lo:∀(i:Nat) r,cs.length<=i->L[i]? =some r->rf r u=0)
    (lx:x.length=u) (x0:∀j,j∉cs->qf x j=0) (x1:∀(i:Nat) r c,L[i]? =some r->cs[i]? =some c->qf x c=Rat.divInt (rf r u) d)
    (lb:∀f∈frees cs u,(bb f).length=u) (b0:∀f∈frees cs u,∀j,j<u->j∉cs->qf (bb f) j=if j=f then 1 else 0) (b1:∀f∈frees cs u,∀(i:Nat) r c,L[i]? =some r->cs[i]? =some c->qf (bb f) c=Rat.divInt (-rf r f) d):All R b u x (frees cs u) ((frees cs u).map bb):=by
  have dR:(d:Rat)≠0:=by exact_mod_cast h.d0
  have kl:=h.kl
  refine⟨lx,by rw [List.length_map],fun g hg=> ?_,fun f hf=>(Ii.mp hf).1,fun z hz=> ?_,fun s hs=> ?_⟩
  . obtain⟨f,hf,rfl⟩:=List.mem_map.mp hg
    exact lb f hf
  . rw [N7]
    obtain⟨l1,q1⟩:=V2 (s:=qf z) (fr:=frees cs u) lx lb
    refine(w.sol hz).symm.trans ((h.sol lo (qf z)).trans ⟨fun e=> ?_,fun e=> ?_⟩)
    . rw [Hy l1]
      refine(Hy hz).trans (List.map_congr_left fun j hj=> ?_)
      have ju:=List.mem_range.mp hj
      rw [q1]
      by_cases hc:j∈cs
      . obtain⟨i,hi⟩:=List.getElem?_of_mem hc
        have il:=(List.getElem?_eq_some_iff.mp hi).1
        have er:L[i]? =some (L[i]'(by omega)):=List.getElem?_eq_getElem _
        have e1:=e i _ j er hi
        rw [x1 i _ j er hi,Lk (h:=fun f=>(-1/(d:Rat))*((rf (L[i]'(by omega)) f:Rat)*qf z f)) (fun f hf=>by
          rw [b1 f hf i _ j er hi,Rat.divInt_eq_div]
          rw [Rat.intCast_neg]
          grind),Ss,Rat.divInt_eq_div]
        grind
      . rw [x0 j hc,Sh (f0:=j) (g:=fun f=>qf (bb f) j) (fun f hf=>b0 f hf j ju hc) (Ii.mpr ⟨ju,hc⟩) (Ey _ _)]
        grind
    . intro i r ci hr hc
      have cm:=List.mem_of_getElem? hc
      have e1:=q1 ci
      rw [<-e]at e1
      rw [x1 i r ci hr hc,Lk (h:=fun f=>(-1/(d:Rat))*((rf r f:Rat)*qf z f)) (fun f hf=>by
          rw [b1 f hf i _ ci hr hc,Rat.divInt_eq_div]
          rw [Rat.intCast_neg]
          grind),Ss,Rat.divInt_eq_div]at e1
      grind
  . obtain⟨g,rfl⟩:=Wi (Ey cs u) hs
    rw [N7]
    obtain⟨l1,q1⟩:=V2 (s:=g) (fr:=frees cs u) lx lb
    refine⟨l1,List.map_congr_left fun j hj=> ?_⟩
    obtain⟨ju,hc⟩:=Ii.mp hj
    rw [q1,x0 j hc,Sh (f0:=j) (g:=fun f=>qf (bb f) j) (fun f hf=>b0 f hf j ju hc) hj (Ey _ _)]
    grind
structure Sti (x0:List Rat) (w:Nat->Rat) (cs:List Nat) (i:Nat) (q:List Rat):Prop where
  ln:q.length=x0.length
  un:∀j,(∀k,k<i->cs[k]? ≠some j)->qf q j=qf x0 j
  st:∀(k c:Nat),k<i->cs[k]? =some c->qf q c=w k
theorem Sti.start (x0:List Rat) (w:Nat->Rat) (cs:List Nat):Sti x0 w cs 0 x0:=⟨rfl,fun _ _=>rfl,fun k c h=>absurd h (Nat.not_lt_zero _)⟩
theorem Yo {q:List Rat}{c:Nat}{v:Rat} (hc:c<q.length) (j:Nat):qf (q.set c v) j=if j=c then v else qf q j:=by
  unfold qf
  rw [List.getD_eq_getElem?_getD]
  by_cases e:j=c
  . subst e
    rw [if_pos rfl,List.getElem?_set_self hc]
    rfl
  . rw [if_neg e,List.getElem?_set_ne (Ne.symm e),List.getD_eq_getElem?_getD]
theorem Abq {cs:List Nat}{k i c:Nat} (h:cs.Pairwise (· < ·)) (hk:cs[k]? =some c) (hi:cs[i]? =some c):k=i:=by
  obtain⟨a,ea⟩:=List.getElem?_eq_some_iff.mp hk
  obtain⟨b,eb⟩:=List.getElem?_eq_some_iff.mp hi
  have h':=List.pairwise_iff_getElem.mp h
  rcases Nat.lt_trichotomy k i with l | l | l
  . have:=h' k i a b l
    omega
  . exact l
  . have:=h' i k b a l
    omega
theorem Sti.step {x0 q:List Rat}{w:Nat->Rat}{cs:List Nat}{i c:Nat} (h:Sti x0 w cs i q) (inc:cs.Pairwise (· < ·)) (hi:cs[i]? =some c) (hc:c<x0.length):Sti x0 w cs (i+1) (q.set c (w i)):=by
  have hc':c<q.length:=by rw [h.ln];exact hc
  refine⟨by rw [List.length_set];exact h.ln,fun j hj=> ?_,fun k c' hk hc2=> ?_⟩
  . rw [Yo hc',if_neg (fun e=>hj i (Nat.lt_succ_self _) (by rw [hi,e]))]
    exact h.un j fun k hk=>hj k (by omega)
  . rw [Yo hc']
    split
    . rename_i e
      subst e
      rw [Abq inc hc2 hi]
    . rename_i e
      have:k≠i:=by
        rintro rfl
        rw [hi]at hc2
        exact e (by simpa using hc2.symm)
      exact h.st k c' (by omega) hc2
theorem Sti.done {x0 q:List Rat}{w:Nat->Rat}{cs:List Nat}{m:Nat} (h:Sti x0 w cs m q) (hm:m=cs.length):(∀j,j∉cs->qf q j=qf x0 j)/\∀(k c:Nat),cs[k]? =some c->qf q c=w k:=
  ⟨fun j hj=>h.un j fun k _ e=>hj (List.mem_of_getElem? e),fun k c e=>h.st k c (by have:=(List.getElem?_eq_some_iff.mp e).1;omega) e⟩
end Z
namespace Z
open PySem L2
local macro_rules | `(tactic| contradiction)=> `(tactic| simp only [Qo,Ja,Qa,Og,Jc,Qg,Fo,Ou,Jo,Jr,z_c,W5,Yq,Y8,Oh,Ym,Ph,Qv,Px,Q6,Gp,Yl,Q0,Oq,O8,Jt,J0,Qq,Qu,Yt,J2,O5,Kd,Yh,Jf,Pk,Ka,Y4,Qf,Qk,Gb,J6,Kf,Jl,Gh,Jp,Qs,O2,Qt,Pj,Yr,Du,Jx,Q5,Y5,Qe,Jh,Qz,Pg,Je,Ox,Jg,Jw,J4,Fj,Qn,Fy,J1,Kc,Jd,Fq,Ju,Fp,Pb,Jy,Qc,Ji,J8,Kh,Gd,Ec,Fv,Jq,Py,Jb,Jk,Fl,Kg,Zc,cpσ,List.getElem?_cons_zero,List.getElem?_cons_succ,Option.join_some,List.set_cons_zero,List.set_cons_succ,List.append_nil,decide_eq_true_eq,Bool.not_eq_true',decide_eq_false_iff_not,Bool.not_not,ite_not,Bool.false_eq_true,Bool.true_eq_false,if_false,if_true,if_pos,List.length_cons,List.length_nil,Nat.zero_add,Nat.reduceAdd,Jz,Ke,true_and,and_true,L2.start,List.map_cons,List.map_nil,Bool.not_true,Bool.not_false,Nat.reduceSub,List.replicate_succ,List.replicate_zero,List.cons_append,List.nil_append])
def top (i:Nat):Stmt:=PySem.Challenge.pw_rootcourt_k74_rows_of_no_shape.main.body.getD i (.Pass ⟨0,0,0,0⟩)
abbrev Ky:Stmt:=top 7
theorem Gj:Aq ["one","other","greater","lesser"] ["one","other"] (Af Ky):=⟨rfl,rfl,rfl,by decide+kernel,rfl,by decide+kernel,by decide+kernel⟩
abbrev Im:Stmt:=top 10
theorem Hf:Aq ["top","bottom","shared"] ["top","bottom"] (Af Im):=⟨rfl,rfl,rfl,by decide+kernel,rfl,by decide+kernel,by decide+kernel⟩
abbrev Gm:Stmt:=top 16
theorem Bp:Aq ["rows","right","unknowns","row","free","x","base","led","reduced","lead","place"] ["rows","right"] (Af Gm):=⟨rfl,rfl,rfl,by decide+kernel,rfl,by decide+kernel,by decide+kernel⟩
abbrev Bq:Stmt:=top 17
theorem Kl:Aq ["rows","right"] ["rows","right"] (Af Bq):=⟨rfl,rfl,rfl,by decide+kernel,rfl,by decide+kernel,by decide+kernel⟩
abbrev Ft:Stmt:=top 18
theorem Nq:Aq ["thing","fewest","most"] ["thing","fewest","most"] (Af Ft):=⟨rfl,rfl,rfl,by decide+kernel,rfl,by decide+kernel,by decide+kernel⟩
abbrev Dr:Stmt:=top 19
theorem Bs:Aq ["rows","right","found","place","row","tops","bottom"] ["rows","right"] (Af Dr):=⟨rfl,rfl,rfl,by decide+kernel,rfl,by decide+kernel,by decide+kernel⟩
abbrev Bu:Stmt:=top 20
theorem Bo:Aq ["some","bottom","one"] ["some"] (Af Bu):=⟨rfl,rfl,rfl,by decide+kernel,rfl,by decide+kernel,by decide+kernel⟩
abbrev Cz:Stmt:=top 21
theorem Av:Aq ["rows","unknowns","left","led","lead","unknown","turn","fitting"] ["rows","unknowns"] (Af Cz):=⟨rfl,rfl,rfl,by decide+kernel,rfl,by decide+kernel,by decide+kernel⟩
abbrev K9:Stmt:=top 22
theorem Mt:Aq ["rows","one","other","found"] ["rows","one","other"] (Af K9):=⟨rfl,rfl,rfl,by decide+kernel,rfl,by decide+kernel,by decide+kernel⟩
abbrev Hu:Stmt:=top 23
theorem Eh:Aq ["rows","turn","unknown","lead","leader","found","place","row"] ["rows","turn","unknown","lead"] (Af Hu):=⟨rfl,rfl,rfl,by decide+kernel,rfl,by decide+kernel,by decide+kernel⟩
abbrev Et:Stmt:=top 24
theorem Qd:Aq ["tops","bottom"] ["tops","bottom"] (Af Et):=⟨rfl,rfl,rfl,by decide+kernel,rfl,by decide+kernel,by decide+kernel⟩
abbrev K1:Stmt:=top 25
theorem Gi:Aq ["here","led","reduced","lead","unknowns","found","place","row"] ["here","led","reduced","lead","unknowns"] (Af K1):=⟨rfl,rfl,rfl,by decide+kernel,rfl,by decide+kernel,by decide+kernel⟩
abbrev Ep:Stmt:=top 26
theorem Pz:Aq ["length","here"] ["length","here"] (Af Ep):=⟨rfl,rfl,rfl,by decide+kernel,rfl,by decide+kernel,by decide+kernel⟩
abbrev Ef:Stmt:=top 27
theorem Ld:Aq ["rows","right","paper"] ["rows","right","paper"] (Af Ef):=⟨rfl,rfl,rfl,by decide+kernel,rfl,by decide+kernel,by decide+kernel⟩
abbrev Gz:Stmt:=top 38
theorem Qx:Aq ["_law_script","_law_k"] ["_law_script","_law_k"] (Af Gz):=⟨rfl,rfl,rfl,by decide+kernel,rfl,by decide+kernel,by decide+kernel⟩
abbrev K7:Stmt:=top 39
theorem Ip:Aq ["_law_draw","_law_k","_law_mix"] ["_law_draw","_law_k"] (Af K7):=⟨rfl,rfl,rfl,by decide+kernel,rfl,by decide+kernel,by decide+kernel⟩
abbrev N5:Stmt:=top 40
theorem P0:Aq ["_law_source_here","_law_many","_law_found"] ["_law_source_here","_law_many"] (Af N5):=⟨rfl,rfl,rfl,by decide+kernel,rfl,by decide+kernel,by decide+kernel⟩
abbrev Io:Stmt:=top 41
theorem Rb:Aq ["_law_draw"] ["_law_draw"] (Af Io):=⟨rfl,rfl,rfl,by decide+kernel,rfl,by decide+kernel,by decide+kernel⟩
abbrev Iu:Stmt:=top 42
theorem K4:Aq ["_law_one","_law_other"] ["_law_one","_law_other"] (Af Iu):=⟨rfl,rfl,rfl,by decide+kernel,rfl,by decide+kernel,by decide+kernel⟩
abbrev M7:Stmt:=top 43
theorem Qj:Aq ["_law_top","_law_bottom","_law_by"] ["_law_top","_law_bottom"] (Af M7):=⟨rfl,rfl,rfl,by decide+kernel,rfl,by decide+kernel,by decide+kernel⟩
abbrev R9:Stmt:=top 44
theorem W8:Aq ["_law_one","_law_other"] ["_law_one","_law_other"] (Af R9):=⟨rfl,rfl,rfl,by decide+kernel,rfl,by decide+kernel,by decide+kernel⟩
abbrev G4:Stmt:=top 45
theorem O6:Aq ["_law_one","_law_other"] ["_law_one","_law_other"] (Af G4):=⟨rfl,rfl,rfl,by decide+kernel,rfl,by decide+kernel,by decide+kernel⟩
abbrev R4:Stmt:=top 46
theorem Hl:Aq ["_law_some","_law_others","_law_found","_law_one","_law_other"] ["_law_some","_law_others"] (Af R4):=⟨rfl,rfl,rfl,by decide+kernel,rfl,by decide+kernel,by decide+kernel⟩
abbrev Ly:Stmt:=top 47
theorem M4:Aq ["_law_source_here","_law_way"] ["_law_source_here"] (Af Ly):=⟨rfl,rfl,rfl,by decide+kernel,rfl,by decide+kernel,by decide+kernel⟩
abbrev Cp:Stmt:=top 48
theorem Bx:Aq ["_law_source_here","_law_rows_here","_law_many","_law_found","_law_row","_law_by"] ["_law_source_here","_law_rows_here","_law_many"] (Af Cp):=⟨rfl,rfl,rfl,by decide+kernel,rfl,by decide+kernel,by decide+kernel⟩
abbrev Kv:Stmt:=top 49
theorem Hs:Aq ["_law_source_here","_law_many","_law_rows_here","_law_k"] ["_law_source_here"] (Af Kv):=⟨rfl,rfl,rfl,by decide+kernel,rfl,by decide+kernel,by decide+kernel⟩
abbrev Ci:Stmt:=top 50
theorem Bt:Aq ["_law_source_here","_law_rows_here","_law_x","_law_right","_law_way","_law_at"] ["_law_source_here","_law_rows_here"] (Af Ci):=⟨rfl,rfl,rfl,by decide+kernel,rfl,by decide+kernel,by decide+kernel⟩
abbrev Nv:Stmt:=top 51
theorem Qh:Aq ["_law_way","_law_rows_here","_law_right","e"] ["_law_way","_law_rows_here","_law_right"] (Af Nv):=⟨rfl,rfl,rfl,by decide+kernel,rfl,by decide+kernel,by decide+kernel⟩
abbrev R7:Stmt:=top 52
theorem Dv:Aq ["_law_source_here","_law_rows_here","_law_right","_law_at","_law_seven","_law_one_more","_law_some","_law_odd"] ["_law_source_here","_law_rows_here","_law_right"] (Af R7):=⟨rfl,rfl,rfl,by decide+kernel,rfl,by decide+kernel,by decide+kernel⟩
abbrev Le:Stmt:=top 53
theorem Ez:Aq ["_law_script","_law_source_here","_law_rows_here","_law_draw","_law_square","_law_count","_law_right","_law_x","_law_way","_law_bad_here","_law_other"] ["_law_script"] (Af Le):=⟨rfl,rfl,rfl,by decide+kernel,rfl,by decide+kernel,by decide+kernel⟩
def X8 (K:PySem.W.Frag):Sp:=fun vs H Q _=>∃(a:Addr) (ns:List Int),vs=[.ref a]/\SqL K H a (ns.map V.int)/\ns.length<=63/\∀H',Q (.bl true) H'
def cell (ns:List Int) (k:Int):Int:=ns.getD k.toNat 0
def Fi (K:PySem.W.Frag):Sp:=fun vs H Q _=>∃(a:Addr) (ns:List Int) (k:Int),vs=[.ref a,.int k]/\SqL K H a (ns.map V.int)/\0<=k/\Q (.int (cell ns k)) H
section
variable {P:Program}{w:World}{K:PySem.W.Frag}{mg:Str->Option Value}{base:Heap}
theorem Pr {f:Addr}{fd:FuncData} (F:Df K mg "_law_cell_at" Gz ["_law_script","_law_k"] f fd) (z_len:mg "len"=none)   :Cal P w K mg base 33 "_law_cell_at" ["_law_script","_law_k"] (Fi K):=by
  refine F.cal (F.fn.ok Qx (fun vs H Q E h=> ?_) (fun cdv A outer s H vs Q E hr h=> ?_))
  . obtain⟨a,ns,k,rfl,_⟩:=h
    rfl
  obtain⟨a,ns,k,rfl,hS,hk,q⟩:=h
  refine S.Bf ⟨_,(S.Ad (S.Ei (S.Ba Aa5 (S.pv 1) (S.Br Aj rfl z_len PySem.boot_len (S.Aa (S.pv 0) S.Ab)) (Bh _)) (S.Ag (S.Ay (S.Bc Az (S.pv 0) (S.pv 1) (fun _ _=>rfl)))) S.Bm)
      (S.Ag (S.Ay S.Ae))),?_⟩
  contradiction
  refine⟨a,_,rfl,.inl hS,?_⟩
  rw [List.length_map]
  split
  . rename_i h
    have hk':k.toNat<ns.length:=by omega
    refine Bw hS (v:= .int (cell ns k)) ?_ q
    have e:=Aw (xs:=ns.map V.int) (j:=k.toNat) (v:= .int (cell ns k)) (by
      rw [List.getElem?_map,List.getElem?_eq_getElem hk']
      unfold cell
      rw [List.getD_eq_getElem?_getD,List.getElem?_eq_getElem hk']
      rfl)
    rw [Int.toNat_of_nonneg hk]at e
    exact e
  . rename_i h
    have e:cell ns k=0:=by
      unfold cell
      rw [List.getD_eq_getElem?_getD,List.getElem?_eq_none (by omega)]
      rfl
    rw [e]at q
    exact q
def Ab5:Sp:=fun vs H Q _=>∃a b:Int,vs=[.int a,.int b]/\Q (.int (Int.gcd a b:Int)) H
def Mq (_:PySem.W.Frag):Sp:=Ab5
theorem Ui {f:Addr}{fd:FuncData} (F:Df K mg "divisor" Ky ["one","other"] f fd) (z_abs:mg "abs"=none)   :Cal P w K mg base 33 "divisor" ["one","other"] (Mq K):=by
  refine F.cal (F.fn.ok Gj (fun vs H Q E h=> ?_) (fun cdv A outer s H vs Q E hr h=> ?_))
  . obtain⟨a,b,rfl,_⟩:=h
    rfl
  obtain⟨a,b,rfl,q⟩:=h
  refine S.Bf ⟨_,(S.Ad (S.Ao (i:=2) Gj.nd rfl (Or.inl rfl) (S.Br Nf rfl z_abs PyProof.Rows.boot_abs (S.Aa (S.pv 0) S.Ab)))
      (S.Ad (S.Ao (i:=3) Gj.nd rfl (Or.inl rfl) (S.Br Nf rfl z_abs PyProof.Rows.boot_abs (S.Aa (S.pv 1) S.Ab)))
      (S.Ad (S.Kr PassesOwn.never (S.Ba Xo (S.pv 3) S.Ae (Bh _)) (S.Ag (S.O1 (i:=2) (j:=3) rfl Gj.nd rfl rfl (by decide) rfl rfl (S.Aa (S.pv 3) (S.Aa (S.Ak Gn (S.pv 2) (S.pv 3)) S.Ab)) rfl)))
      (S.Ag (S.Ay (S.pv 2)))))),?_⟩
  simp only [Qo,Ja,Qa,Og,Jc,Qg,Fo,Ou,Jo,Jr,z_c,W5,Yq,Y8,Oh,Ym,Ph,Qv,Px,Q6,Gp,Yl,Q0,Oq,O8,Jt,J0,Qq,Qu,Yt,J2,O5,Kd,Yh,Jf,Pk,Ka,Y4,Qf,Qk,Gb,J6,Kf,Jl,Gh,Jp,Qs,O2,Qt,Pj,Yr,Du,Jx,Q5,Y5,Qe,Jh,Qz,Pg,Je,Ox,Jg,Jw,J4,Fj,Qn,Fy,J1,Kc,Jd,Fq,Ju,Fp,Pb,Jy,Qc,Ji,J8,Kh,Gd,Ec,Fv,Jq,Py,Jb,Jk,Fl,Kg,Zc,cpσ,List.getElem?_cons_zero,List.getElem?_cons_succ,Option.join_some,List.set_cons_zero,List.set_cons_succ,List.append_nil,decide_eq_true_eq,Bool.not_eq_true',decide_eq_false_iff_not,Bool.not_not,ite_not,Bool.false_eq_true,Bool.true_eq_false,if_false,if_true,if_pos,List.length_cons,List.length_nil,Nat.zero_add,Nat.reduceAdd,Jz,Ke,true_and,and_true,L2.start,List.map_cons,List.map_nil,Bool.not_true,Bool.not_false,Nat.reduceSub,List.replicate_succ,List.replicate_zero,List.cons_append,List.nil_append,abs_eq]
  refine Tf (fun σ H'=>H'=H/\∃x y:Nat,σ=[some (.int a),some (.int b),some (.int x),some (.int y)]/\Nat.gcd x y=Nat.gcd a.natAbs b.natAbs)
    (fun σ _=>match σ with | [_,_,_,some (.int y)]=>y.toNat | _=>0) ⟨rfl,_,_,rfl,rfl⟩ ?_ ?_
  . rintro σ H' ⟨rfl,x,y,rfl,e⟩
    contradiction
    by_cases hy:(y:Int)=0
    . rw [if_pos hy]
      have hy':y=0:=by omega
      subst hy'
      rw [Nat.gcd_zero_right]at e
      subst e
      exact q
    . rw [if_neg hy]
      refine⟨by omega,⟨y,x%y,by rw [Int.natCast_emod],by rw [Tn];exact e⟩,?_⟩
      show((x:Int)%(y:Int)).toNat<(y:Int).toNat
      rw [<-Int.natCast_emod,Int.toNat_natCast,Int.toNat_natCast]
      exact Nat.mod_lt _ (by omega)
  . intro σ H' Q1 Q2 h12
    simp only [Gp,W5]
    rintro⟨v,e1,hs⟩
    exact⟨v,e1,by
      obtain⟨s1,k,e2,h3⟩:=hs
      exact⟨s1,k,e2,h12 _ _ h3⟩⟩
def IsQ (K:PySem.W.Frag) (H:Hp) (v:V) (q:Rat):Prop:=∃a,v= .ref a/\SqT K H a [.int q.num,.int (q.den:Int)]
def Szq (n:Nat) (q:Rat):Prop:=Sz n q.num/\Sz n (q.den:Int)
theorem IsQ.mono {H H':Hp}{v:V}{q:Rat} (h:IsQ K H v q) (s:Same H H'):IsQ K H' v q:=by
  obtain⟨a,e,t⟩:=h
  exact⟨a,e,s.tup t⟩
theorem Szq.of {n:Nat}{a b:Int} (h:Sz n a) (g:Sz n b) (hb:b≠0):Szq n (Rat.divInt a b):=
  ⟨h.of_abs (Abt a b),g.of_abs (by have:=Abd (a:=a) hb;omega)⟩
theorem Mr (q:Rat):((q.den:Nat):Int)≠0:=by have:=q.den_nz;omega
def J3 (K:PySem.W.Frag):Sp:=fun vs H Q E=>∃a b:Int,vs=[.int a,.int b]/\(b≠0->∀z H',Same H H'->IsQ K H' z (Rat.divInt a b)->Q z H')/\(b=0->E (.ref (cA K "NoPart")) none H)
def Ew (K:PySem.W.Frag):Sp:=fun vs H Q _=>∃a b:Int,vs=[.int a,.int b]/\b≠0/\∀z H',Same H H'->IsQ K H' z (Rat.divInt a b)->Q z H'
theorem Ng (K:PySem.W.Frag):∀vs H Q E,Ew K vs H Q E->J3 K vs H Q E0:=by
  rintro vs H Q E ⟨a,b,rfl,hb,q⟩
  exact⟨a,b,rfl,fun _=>q,fun z=>(hb z).elim⟩
theorem Ra {f:Addr}{fd:FuncData} (F:Df K mg "fraction" Im ["top","bottom"] f fd)  (py:Pyl P base) (xk_NoPart:Q9 K (cA K "NoPart")) (xm_NoPart:mg "NoPart"=some (.ref (cA K "NoPart"))) (c_divisor:Cal P w K mg base 33 "divisor" ["one","other"] (Mq K)):Q8 P w K mg base 34 "fraction" ["top","bottom"] (J3 K):=by
  refine F.calE (F.fn.okE Hf (fun vs H Q E h=> ?_) (fun cdv A outer s H vs Q E hr h=> ?_))
  . obtain⟨a,b,rfl,_⟩:=h
    rfl
  obtain⟨a,b,rfl,q,q0⟩:=h
  refine S.Bf ⟨_,(S.Ad (S.Ei (S.Ba Ik (S.pv 1) S.Ae (Bh _)) (S.Ag (S.Cy xk_NoPart xm_NoPart (S.Aa S.Il S.Ab))) S.Bm)
      (S.Ad (S.Ao (i:=2) Hf.nd rfl (Or.inl rfl) (S.Ax c_divisor (hr.mono (by decide)) (S.Aa (S.pv 0) (S.Aa (S.pv 1) S.Ab))))
      (S.Ad (S.Ei (S.Ba Aa5 (S.pv 1) S.Ae (Bh _)) (S.Ag (S.Ao (i:=2) Hf.nd rfl (Or.inl rfl) (S.W4 U3 (S.pv 2)))) S.Bm)
      (S.Ag (S.Ay (S.Bb (S.Aa (S.Ak (Gk py (hr.far (by decide)) rfl rfl rfl rfl rfl) (S.pv 0) (S.pv 2)) (S.Aa (S.Ak (Gk py (hr.far (by decide)) rfl rfl rfl rfl rfl) (S.pv 1) (S.pv 2)) S.Ab)))))))),?_⟩
  simp only [Qo,Ja,Qa,Og,Jc,Qg,Fo,Ou,Jo,Jr,z_c,W5,Yq,Y8,Oh,Ym,Ph,Qv,Px,Q6,Gp,Yl,Q0,Oq,O8,Jt,J0,Qq,Qu,Yt,J2,O5,Kd,Yh,Jf,Pk,Ka,Y4,Qf,Qk,Gb,J6,Kf,Jl,Gh,Jp,Qs,O2,Qt,Pj,Yr,Du,Jx,Q5,Y5,Qe,Jh,Qz,Pg,Je,Ox,Jg,Jw,J4,Fj,Qn,Fy,J1,Kc,Jd,Fq,Ju,Fp,Pb,Jy,Qc,Ji,J8,Kh,Gd,Ec,Fv,Jq,Py,Jb,Jk,Fl,Kg,Zc,cpσ,List.getElem?_cons_zero,List.getElem?_cons_succ,Option.join_some,List.set_cons_zero,List.set_cons_succ,List.append_nil,decide_eq_true_eq,Bool.not_eq_true',decide_eq_false_iff_not,Bool.not_not,ite_not,Bool.false_eq_true,Bool.true_eq_false,if_false,if_true,if_pos,List.length_cons,List.length_nil,Nat.zero_add,Nat.reduceAdd,Jz,Ke,true_and,and_true,L2.start,List.map_cons,List.map_nil,Bool.not_true,Bool.not_false,Nat.reduceSub,List.replicate_succ,List.replicate_zero,List.cons_append,List.nil_append]
  by_cases hb:b=0
  . rw [if_pos hb]
    exact q0 hb
  rw [if_neg hb]
  replace q:=q hb
  refine⟨a,b,rfl,?_⟩
  contradiction
  have hg0:((Int.gcd a b:Nat):Int)≠0:=by
    have:=Int.gcd_pos_of_ne_zero_right a hb
    omega
  split
  . rename_i hneg
    refine⟨by omega,by omega,fun p hp=> ?_⟩
    rw [(Tq hneg).1,(Tq hneg).2]
    exact q _ _ (Same.upd hp _) ⟨p,rfl,.of Ac⟩
  . rename_i hneg
    have hpos:0<b:=by omega
    refine⟨hg0,hg0,fun p hp=> ?_⟩
    rw [(Ib hpos).1,(Ib hpos).2]
    exact q _ _ (Same.upd hp _) ⟨p,rfl,.of Ac⟩
theorem at0 {α:Type} (x:α) (r:List α):atI (x::r) 0=some x:=Aw (j:=0) rfl
theorem at1 {α:Type} (x y:α) (r:List α):atI (x::y::r) 1=some y:=Aw (j:=1) rfl
structure Eqh (H H':Hp):Prop where
  e:H'=H
def Xb (b:Int) (q:Rat):Int:=q.num*(b/(q.den:Int))
def Eb (K:PySem.W.Frag):Sp:=fun vs H Q _=>∃(a:Addr) (es:List (V × Rat)) (n:Nat),vs=[.ref a]/\H a=some (.lst (es.map (·.1)))/\(∀e∈es,IsQ K H e.1 e.2/\Szq n e.2)/\es.length<=10/\n<=100000/\
  ∀z l b H',Same H H'->H' z=some (.tup [.ref l,.int b])->H' l=some (.lst (es.map fun e=>V.int (Xb b e.2)))->0<b->Sz (n*10+1) b->(∀e∈es,(e.2.den:Int)∣b)->Q (.ref z) H'
structure Oob (es:List Rat) (n:Nat) (b:Int):Prop where
  pos:0<b
  sz:Sz (n*es.length+1) b
  dv:∀q∈es,(q.den:Int)∣b
theorem Hz {f:Addr}{fd:FuncData} (F:Df K mg "over_one_bottom" Bu ["some"] f fd)  (py:Pyl P base)  :Cal P w K mg base 33 "over_one_bottom" ["some"] (Eb K):=by
  refine F.cal (F.fn.ok Bo (fun vs H Q E h=> ?_) (fun cdv A outer s H vs Q E hr h=> ?_))
  . obtain⟨a,es,n,rfl,_⟩:=h
    rfl
  obtain⟨a,es,n,rfl,ha,hq,hl,hn,k⟩:=h
  refine S.Bf ⟨_,(S.Ad (S.Ao (i:=1) Bo.nd rfl (Or.inr rfl) S.Ae)
      (S.Ad (S.Dk PassesOwn.never rfl (S.Bv (S.pv 0)) (S.Ah (i:=2) Bo.nd rfl (Or.inl rfl)) (S.Ag (S.Ei (S.Ba Xo (S.Ak Gn (S.pv 1) (S.Bc Ea (S.pv 2) S.Ae (fun _ _=>rfl))) S.Ae (Bh _)) (S.Ag (S.Ao (i:=1) Bo.nd rfl (Or.inr rfl) (S.Ak Ce (S.pv 1) (S.Bc Ea (S.pv 2) S.Ae (fun _ _=>rfl))))) S.Bm)))
      (S.Ag (S.Ay (S.Bb (S.Aa (S.Ck (ts:=["one"]) (fs:=[(1,"bottom")]) rfl (Am.of (sc:=Af Bu) (N:=["some","bottom","one"]) rfl rfl (by decide+kernel)) (S.Bv (S.pv 0)) (fun _ _ _=>(S.Ah (i:=0) (show List.Nodup (["one","bottom"]:List Str)by decide+kernel) rfl (Or.inl rfl))) (fun _ _ _=>S.Bk) (fun _ _ _=>(S.Ak Ce (S.Bc (Vh K) (S.pv 0) S.Ae (fun _ _=>rfl)) (S.Ak (Yb py (hr.far (by decide)) rfl rfl rfl rfl rfl) (S.pv 1) (S.Bc (Vh K) (S.pv 0) S.Ae (fun _ _=>rfl)))))) (S.Aa (S.pv 1) S.Ab))))))),?_⟩
  contradiction
  refine⟨⟨_,.of ha⟩,Ul (es:=es) (inj:=(·.1)) (fun pre σ' H'=>∃(b:Int) (o:Option V),Eqh H H'/\σ'=[some (.ref a),some (.int b),o]/\Oob (pre.map (·.2)) n b) ⟨1,_,⟨rfl⟩,rfl,⟨by decide,by rw [List.map_nil,List.length_nil,Nat.mul_zero];unfold Sz;decide,by simp⟩⟩ ?_ ?_ ?_⟩
  . rintro pre σ' H' ⟨b,o,⟨rfl⟩,rfl,_⟩
    exact Dd (.of ha)
  . rintro pre e post σ' H' hE ⟨b,o,⟨rfl⟩,rfl,ob⟩
    have hm:e∈es:=by rw [hE];simp
    obtain⟨⟨c,ec,hc⟩,ze⟩:=hq e hm
    have d0:(0:Int)<(e.2.den:Int):=by have:=e.2.den_pos;omega
    have pl:pre.length<=10:=by
      have:=congrArg List.length hE
      rw [List.length_append]at this
      omega
    have nl:n*pre.length<=100000*10:=Nat.mul_le_mul hn pl
    have obs:=ob.sz
    rw [List.length_map]at obs
    have ls:(pre++ [e]).map (·.2)=pre.map (·.2)++ [e.2]:=by rw [List.map_append];rfl
    rw [ls,ec]
    contradiction
    refine Gw hc (at1 _ _ _) ?_
    try contradiction
    refine⟨d0,?_⟩
    by_cases hd:b%(e.2.den:Int)=0
    . rw [if_pos hd]
      refine⟨b,_,⟨rfl⟩,rfl,ob.pos,obs.mono ?_,fun q hq'=> ?_⟩
      . rw [List.length_append,List.length_map,List.length_singleton,Nat.mul_succ]
        omega
      . rcases List.mem_append.mp hq' with h | h
        . exact ob.dv q h
        . have e1:q=e.2:=by simpa using h
          rw [e1]
          exact Int.dvd_of_emod_eq_zero hd
    . rw [if_neg hd]
      refine Gw hc (at1 _ _ _) ?_
      try contradiction
      refine⟨obs.mulOk ze.2 (by omega),b*(e.2.den:Int),_,⟨rfl⟩,rfl,Int.mul_pos ob.pos d0,(obs.mul ze.2).mono ?_,fun q hq'=> ?_⟩
      . rw [List.length_append,List.length_map,List.length_singleton,Nat.mul_succ]
        omega
      . rcases List.mem_append.mp hq' with h | h
        . exact Int.dvd_mul_of_dvd_left (ob.dv q h)
        . have e1:q=e.2:=by simpa using h
          rw [e1]
          exact Int.dvd_mul_left _ _
  rintro σ' H' ⟨b,o,⟨rfl⟩,rfl,ob⟩
  have el:n*es.length<=n*10:=Nat.mul_le_mul_left _ hl
  have obs:=ob.sz
  rw [List.length_map]at obs
  have zb:Sz (n*10+1) b:=obs.mono (by omega)
  contradiction
  refine⟨⟨_,.of ha⟩,fun p hp=>Nk (es:=es) (inj:=(·.1)) (fun e=> .int (Xb b e.2)) (Nat.le_trans hl (by decide)) hp (Hh (.of ha)) ?_ ?_⟩
  . intro e H2 R he s2 hR
    obtain⟨⟨c,ec,hc⟩,ze⟩:=hq e he
    have d0:(0:Int)<(e.2.den:Int):=by have:=e.2.den_pos;omega
    rw [ec]
    contradiction
    refine Gw (s2.tup hc) (at0 _ _) (Gw (s2.tup hc) (at1 _ _ _) ?_)
    try contradiction
    refine⟨d0,?_⟩
    have zq:Sz (n*10+1) (b/(e.2.den:Int)):=zb.of_abs (by
      have h1:b/(e.2.den:Int)<=b:=Int.ediv_le_self _ (by have:=ob.pos;omega)
      have h2:0<=b/(e.2.den:Int):=Int.ediv_nonneg (by have:=ob.pos;omega) (by omega)
      omega)
    exact⟨ze.1.mulOk zq (by omega),hR _ (Same.refl _)⟩
  intro H2 s2 h2
  try contradiction
  exact fun z hz=>k z p b _ (s2.trans (Same.upd hz _)) Ac (Same.upd hz _ _ _ h2) ob.pos zb fun e he=>ob.dv e.2 (List.mem_map.mpr ⟨e,he,rfl⟩)
abbrev Rw:=Addr × List Int
structure Mx (H:Hp) (a:Addr) (rs:List Rw):Prop where
  it:H a=some (.lst (rs.map fun r=>V.ref r.1))
  al:∀r∈rs,H r.1=some (.lst (r.2.map V.int))
theorem Mx.mono {H H':Hp}{a:Addr}{rs:List Rw} (h:Mx H a rs) (s:Same H H'):Mx H' a rs:=⟨s _ _ h.it,fun r hr=>s _ _ (h.al r hr)⟩
def Mi (K:PySem.W.Frag):Sp:=fun vs H Q _=>∃(a:Addr) (rs:List Rw) (i j:Nat) (x y:Rw),vs=[.ref a,.int (i:Nat),.int (j:Nat)]/\Mx H a rs/\rs.length<=20/\rs[i]? =some x/\rs[j]? =some y/\∀z H',Same H H'->Mx H' z ((rs.set i y).set j x)->Q (.ref z) H'
theorem Uc {f:Addr}{fd:FuncData} (F:Df K mg "swapped" K9 ["rows","one","other"] f fd) (z_list:mg "list"=none)   :Cal P w K mg base 33 "swapped" ["rows","one","other"] (Mi K):=by
  refine F.cal (F.fn.ok Mt (fun vs H Q E h=> ?_) (fun cdv A outer s H vs Q E hr h=> ?_))
  . obtain⟨a,rs,i,j,x,y,rfl,_⟩:=h
    rfl
  obtain⟨a,rs,i,j,x,y,rfl,hm,hl,hi,hj,k⟩:=h
  have li:=(List.getElem?_eq_some_iff.mp hi).1
  have lj:=(List.getElem?_eq_some_iff.mp hj).1
  refine S.Bf ⟨_,(S.Ad (S.Ao (i:=3) Mt.nd rfl (Or.inl rfl) (S.Fe Jv rfl z_list PyProof.Rows.boot_list (S.Aa (S.pv 0) S.Ab)))
      (S.Ad (S.Dj (S.Bc Az (S.pv 0) (S.pv 2) (fun _ _=>rfl)) (S.Gs (S.pv 3) (S.pv 1) set_list))
      (S.Ad (S.Dj (S.Bc Az (S.pv 0) (S.pv 1) (fun _ _=>rfl)) (S.Gs (S.pv 3) (S.pv 2) set_list))
      (S.Ag (S.Ay (S.pv 3)))))),?_⟩
  contradiction
  refine⟨a,_,rfl,.inl (.of hm.it),fun z hz=> ?_⟩
  have s1:=Same.upd hz (.lst (rs.map fun r=>V.ref r.1))
  refine Bw (.of (s1 _ _ hm.it)) (v:= .ref y.1) (Aw (by rw [List.getElem?_map,hj];rfl)) ?_
  try contradiction
  refine Rf (j:=i) Ac (by rw [List.length_map];exact li) ?_
  have m2:∀ {b o},H b=some o->upd (upd H z (.lst (rs.map fun r=>V.ref r.1))) z (.lst ((rs.map fun r=>V.ref r.1).set i (.ref y.1))) b=some o:=fun {b o} e=>by
    rw [Al (Ai e hz)]
    exact s1 _ _ e
  refine Bw (.of (m2 hm.it)) (v:= .ref x.1) (Aw (by rw [List.getElem?_map,hi];rfl)) ?_
  try contradiction
  refine Rf (j:=j) Ac (by rw [List.length_set,List.length_map];exact lj) ?_
  have m3:∀ {b o},H b=some o->upd (upd (upd H z (.lst (rs.map fun r=>V.ref r.1))) z (.lst ((rs.map fun r=>V.ref r.1).set i (.ref y.1)))) z (.lst (((rs.map fun r=>V.ref r.1).set i (.ref y.1)).set j (.ref x.1))) b=some o:=fun {b o} e=>by
    rw [Al (Ai e hz)]
    exact m2 e
  try contradiction
  refine k z _ (fun b o e=>m3 e) ⟨?_,fun r hr'=>m3 (hm.al r ?_)⟩
  . rw [Ac,List.map_set,List.map_set]
  . rcases List.mem_or_eq_of_mem_set hr' with h | h
    . rcases List.mem_or_eq_of_mem_set h with h | h
      . exact h
      . rw [h]
        exact List.mem_of_getElem? hj
    . rw [h]
      exact List.mem_of_getElem? hi
structure Clr (rs rs':List Rw) (t:Rw) (i c:Nat) (d:Int):Prop where
  ln:rs'.length=rs.length
  me:rs'[i]? =some t
  ot:∀j r,j≠i->rs[j]? =some r->∃r',rs'[j]? =some r'/\r'.2=clr t.2 c d r.2
structure Cli (H H':Hp) (p:Addr) (qs pre:List Rw) (t:Rw) (i c:Nat) (d:Int):Prop where
  sm:Same H H'
  it:H' p=some (.lst (qs.map fun r=>V.ref r.1))
  al:∀r∈qs,H' r.1=some (.lst (r.2.map V.int))/\r.1≠p
  ln:qs.length=pre.length
  me:i<pre.length->qs[i]? =some t
  ot:∀j r,j≠i->pre[j]? =some r->∃r',qs[j]? =some r'/\r'.2=clr t.2 c d r.2
theorem Cli.snoc {H H1 H2:Hp}{p:Addr}{qs pre:List Rw}{t e x:Rw}{i c:Nat}{d:Int} (h:Cli H H1 p qs pre t i c d) (np:H p=none) (s:Same H1 H2) (hx:H2 x.1=some (.lst (x.2.map V.int))) (nx:x.1≠p) (h1:pre.length=i->x=t) (h2:pre.length≠i->x.2=clr t.2 c d e.2):
    Cli H (upd H2 p (.lst ((qs.map fun r=>V.ref r.1)++ [.ref x.1]))) p (qs++ [x]) (pre++ [e]) t i c d:=by
  refine⟨(h.sm.trans s).put np,by rw [Ac,List.map_append];rfl,fun r hr=> ?_,by rw [List.length_append,List.length_append,h.ln];rfl,fun hi=> ?_,fun j r hj hr=> ?_⟩
  . rcases List.mem_append.mp hr with hr | hr
    . obtain⟨a,b⟩:=h.al r hr
      exact⟨by rw [Al b];exact s _ _ a,b⟩
    . have e1:r=x:=by simpa using hr
      rw [e1]
      exact⟨by rw [Al nx];exact hx,nx⟩
  . rw [List.length_append,List.length_singleton]at hi
    by_cases hl:i<pre.length
    . rw [List.getElem?_append_left (by rw [h.ln];exact hl)]
      exact h.me hl
    . have el:pre.length=i:=by omega
      rw [<-el,<-h.ln,List.getElem?_append_right (Nat.le_refl _),Nat.sub_self,h1 el]
      rfl
  . by_cases hl:j<pre.length
    . rw [List.getElem?_append_left hl]at hr
      obtain⟨r',a,b⟩:=h.ot j r hj hr
      exact⟨r',by rw [List.getElem?_append_left (by rw [h.ln];exact hl)];exact a,b⟩
    . have lj:j<(pre++ [e]).length:=(List.getElem?_eq_some_iff.mp hr).1
      rw [List.length_append,List.length_singleton]at lj
      have el:j=pre.length:=by omega
      subst el
      rw [List.getElem?_append_right (Nat.le_refl _),Nat.sub_self]at hr
      have er:e=r:=by simpa using hr
      refine⟨x,?_,?_⟩
      . rw [<-h.ln,List.getElem?_append_right (Nat.le_refl _),Nat.sub_self]
        rfl
      . rw [<-er]
        exact h2 hj
theorem Xm {l:List Int}{j:Nat} (h:j<l.length):(l.map V.int)[j]? =some (.int (l.getD j 0)):=by
  rw [List.getElem?_map,List.getD_eq_getElem?_getD,List.getElem?_eq_getElem h]
  rfl
theorem Adn {l:List Int}{j:Nat} (h:j<l.length):(l.map V.int).getD j .non= .int (l.getD j 0):=by
  rw [List.getD_eq_getElem?_getD,Xm h]
  rfl
theorem Aa1 {t s:List Int}{c N:Nat}{d:Int} (ht:t.length=N) (hs:s.length=N):(List.range N).map (fun j=>V.int ((t.getD c 0*s.getD j 0-s.getD c 0*t.getD j 0).fdiv d))=(clr t c d s).map V.int:=by
  refine List.ext_getElem? fun j=> ?_
  unfold clr
  rw [List.getElem?_map,List.getElem?_map,List.getElem?_zipWith]
  by_cases h:j<N
  . rw [List.getElem?_range h,List.getElem?_eq_getElem (by omega),List.getElem?_eq_getElem (by omega)]
    simp only [Option.map_some]
    rw [List.getD_eq_getElem?_getD (l:=s) (i:=j),List.getElem?_eq_getElem (by omega),List.getD_eq_getElem?_getD (l:=t) (i:=j),List.getElem?_eq_getElem (by omega)]
    rfl
  . rw [List.getElem?_eq_none (by simp;omega),List.getElem?_eq_none (show s.length<=j by omega)]
    rfl
def Mu (K:PySem.W.Frag):Sp:=fun vs H Q _=>∃(a:Addr) (rs:List Rw) (i c N n:Nat) (d:Int) (t:Rw),vs=[.ref a,.int (i:Nat),.int (c:Nat),.int d]/\Mx H a rs/\rs.length<=20/\rs[i]? =some t/\c<N/\N<=100/\(∀r∈rs,r.2.length=N/\∀x∈r.2,Sz n x)/\n<=10000000/\d≠0/\
  ∀z H' rs',Same H H'->Mx H' z rs'->Clr rs rs' t i c d->Q (.ref z) H'
theorem Ub {f:Addr}{fd:FuncData} (F:Df K mg "cleared" Hu ["rows","turn","unknown","lead"] f fd) (z_enumerate:mg "enumerate"=none) (z_zip:mg "zip"=none) (py:Pyl P base)  :Cal P w K mg base 33 "cleared" ["rows","turn","unknown","lead"] (Mu K):=by
  refine F.cal (F.fn.ok Eh (fun vs H Q E h=> ?_) (fun cdv A outer s H vs Q E hr h=> ?_))
  . obtain⟨a,rs,i,c,N,n,d,t,rfl,_⟩:=h
    rfl
  obtain⟨a,rs,i,c,N,n,d,t,rfl,hm,hl,hi,hc,hN,hr',hn,d0,k⟩:=h
  have tm:=List.mem_of_getElem? hi
  refine S.Bf ⟨_,(S.Ad (S.Ao (i:=4) Eh.nd rfl (Or.inr rfl) (S.Bc Az (S.pv 0) (S.pv 1) (fun _ _=>rfl)))
      (S.Ad (S.Ao (i:=5) Eh.nd rfl (Or.inl rfl) (S.Bg S.Ab))
      (S.Ad (S.Dk PassesOwn.never rfl (S.O4 rfl z_enumerate (S.Aa (S.pv 0) S.Ab)) (S.Ds rfl (S.Ar (S.Ah (i:=6) Eh.nd rfl (Or.inl rfl)) (S.Ar (S.Ah (i:=7) Eh.nd rfl (Or.inr rfl)) S.Cu))) (S.Ag (S.Ei (S.Ba Ik (S.pv 6) (S.pv 1) (Bh _)) (S.Ag (S.Dh (S.Hj PySem.F.plainAttrs_list PySem.F.slot_list_append PySem.F.type_list_append Cq (S.pv 5) (S.Aa (S.pv 4) S.Ab)))) (S.Ag (S.Dh (S.Hj PySem.F.plainAttrs_list PySem.F.slot_list_append PySem.F.type_list_append Cq (S.pv 5) (S.Aa (S.Ck (ts:=["weight","other"]) (fs:=[(3,"lead"),(4,"leader"),(2,"unknown"),(7,"row")]) rfl (Am.of (sc:=Af Hu) (N:=["rows","turn","unknown","lead","leader","found","place","row"]) rfl rfl (by decide+kernel)) (S.Eo false false rfl z_zip (S.Aa (S.pv 7) (S.Aa (S.pv 4) S.Ab))) (fun _ _ _=>(S.Iw K 2 rfl rfl (S.Ar (S.Ah (i:=0) (show List.Nodup (["weight","other","lead","leader","unknown","row"]:List Str)by decide+kernel) rfl (Or.inl rfl) (hf:=Or.inr rfl)) (S.Ar (S.Ah (i:=1) (show List.Nodup (["weight","other","lead","leader","unknown","row"]:List Str)by decide+kernel) rfl (Or.inl rfl) (hf:=Or.inr rfl)) S.Cu)))) (fun _ _ _=>S.Bk) (fun _ _ _=>(S.Ak (Gk py (hr.far (by decide)) rfl rfl rfl rfl rfl) (S.Ak T3 (S.Ak Ce (S.Bc (Ij K) (S.pv 3) (S.pv 4) (fun _ _=>rfl)) (S.pv 0)) (S.Ak Ce (S.Bc (Ij K) (S.pv 5) (S.pv 4) (fun _ _=>rfl)) (S.pv 1))) (S.pv 2)))) S.Ab)))))))
      (S.Ag (S.Ay (S.pv 5)))))),?_⟩
  contradiction
  refine Bw (.of hm.it) (v:= .ref t.1) (Aw (by rw [List.getElem?_map,hi];rfl)) ?_
  try contradiction
  refine⟨by decide,fun p hp=> ?_⟩
  have s1:=Same.upd hp (.lst [])
  have tp:t.1≠p:=Ai (hm.al t tm) hp
  obtain⟨tN,tz⟩:=hr' t tm
  refine⟨⟨_,.of (s1 _ _ hm.it)⟩,Y6 (es:=rs) (inj:=fun r=>V.ref r.1) (fun pre σ' H'=>∃(qs:List Rw) (o6 o7:Option V),σ'=[some (.ref a),some (.int (i:Nat)),some (.int (c:Nat)),some (.int d),some (.ref t.1),some (.ref p),o6,o7]/\Cli H H' p qs pre t i c d) ⟨[],_,_,rfl,⟨s1,Ac,by simp,rfl,fun h=>absurd h (Nat.not_lt_zero _),by simp⟩⟩ ?_ ?_ ?_⟩
  . rintro pre σ' H' ⟨qs,o6,o7,rfl,ci⟩
    exact .of (ci.sm _ _ hm.it)
  . rintro pre e post σ' H1 b hE ⟨qs,o6,o7,rfl,ci⟩ hb
    have sb:=Same.upd hb (.tup [V.int (pre.length:Nat),V.ref e.1])
    refine Gv (.of Ac) ?_
    generalize upd H1 b (.tup [V.int (pre.length:Nat),V.ref e.1])=H2 at sb
    have em:e∈rs:=by rw [hE];simp
    obtain⟨eN,ez⟩:=hr' e em
    have lq:(qs.map fun r=>V.ref r.1).length<sizeLine:=by
      have:=congrArg List.length hE
      rw [List.length_append,List.length_cons]at this
      rw [List.length_map,ci.ln]
      exact Nat.lt_of_lt_of_le (show pre.length<21 by omega) (by decide)
    have g2:=sb _ _ ci.it
    contradiction
    by_cases hpi:((pre.length:Nat):Int)=(i:Nat)
    . rw [if_pos hpi]
      have epi:pre.length=i:=by omega
      exact⟨.inl ⟨rfl,_,.of g2⟩,p,_,_,rfl,rfl,g2,lq,qs++ [t],_,_,rfl,ci.snoc hp sb (sb _ _ (ci.sm _ _ (hm.al t tm))) tp (fun _=>rfl) fun h=>absurd epi h⟩
    . rw [if_neg hpi]
      have npi:pre.length≠i:=by omega
      have s02:=ci.sm.trans sb
      have ge:=s02 _ _ (hm.al e em)
      have gt:=s02 _ _ (hm.al t tm)
      refine⟨.inl ⟨rfl,_,.of g2⟩,e.1,t.1,rfl,⟨_,show SqL K H2 e.1 _ from .of ge⟩,⟨_,show SqL K H2 t.1 _ from .of gt⟩,fun q hq=> ?_⟩
      refine Xl (xs:=e.2.map V.int) (ys:=t.2.map V.int) N (by rw [List.length_map,List.length_map,eN,tN,Nat.min_self]) (fun j=>V.int ((t.2.getD c 0*e.2.getD j 0-e.2.getD c 0*t.2.getD j 0).fdiv d)) (Nat.le_trans hN (by decide)) hq (fun H' s'=>show SqL K H' e.1 _ from .of (s' _ _ ge)) (fun H' s'=>show SqL K H' t.1 _ from .of (s' _ _ gt)) ?_ ?_
      . intro j H3 b3 R hj s3 h3 hR
        rw [Adn (by omega),Adn (by omega)]at h3
        refine Gv (.of h3) ?_
        have sz:∀(l:List Int),(∀x∈l,Sz n x)->l.length=N->∀m,m<N->Sz n (l.getD m 0):=fun l hl' hN' m hm'=>by
          rw [List.getD_eq_getElem?_getD,List.getElem?_eq_getElem (by omega)]
          exact hl' _ (List.getElem_mem _)
        contradiction
        refine Bw (.of (s3 _ _ gt)) (v:= .int (t.2.getD c 0)) (Aw (Xm (by omega))) ?_
        try contradiction
        refine⟨(sz _ tz tN c hc).mulOk (sz _ ez eN j hj) (by omega),Bw (.of (s3 _ _ ge)) (v:= .int (e.2.getD c 0)) (Aw (Xm (by omega))) ?_⟩
        try contradiction
        exact⟨(sz _ ez eN c hc).mulOk (sz _ tz tN j hj) (by omega),d0,hR _ (Same.refl _)⟩
      intro H3 s3 h3
      rw [Aa1 tN eN]at h3
      have nq:q≠p:=Ne.symm (Ai g2 hq)
      exact⟨p,_,_,rfl,rfl,s3 _ _ g2,lq,qs++ [(q,clr t.2 c d e.2)],_,_,rfl,ci.snoc (x:=(q,clr t.2 c d e.2)) (e:=e) hp (sb.trans s3) h3 nq (fun h=>absurd h npi) fun _=>rfl⟩
  . rintro σ' H' ⟨qs,o6,o7,rfl,ci⟩
    contradiction
    have li:=(List.getElem?_eq_some_iff.mp hi).1
    exact k p H' qs ci.sm ⟨ci.it,fun r hr=>(ci.al r hr).1⟩ ⟨ci.ln,ci.me li,ci.ot⟩
def Xh (K:PySem.W.Frag) (a:Addr) (xs:List V):Prop:=∃(o:Obj) (its:Array Value) (n:Nat),K.lookup a=some o/\o.cls= .type "tuple"/\o.data= .seq its n/\its.size<=sizeLine/\Vals xs its.toList
theorem Xh.sq {K:PySem.W.Frag}{H:Hp}{a:Addr}{xs:List V} (h:Xh K a xs):SqT K H a xs:= .inr h
def nats (cs:List Nat):List V:=cs.map fun c:Nat=>V.int (c:Nat)
theorem S9 {cs:List Nat}{j c:Nat} (h:cs[j]? =some c):(nats cs)[j]? =some (.int (c:Nat)):=by
  unfold nats
  rw [List.getElem?_map,h]
  rfl
theorem Acf {l:List Int}{n:Nat} (h:∀x∈l,Sz n x) (j:Nat):(rf l j).natAbs<2^n:=by
  unfold rf
  rw [List.getD_eq_getElem?_getD]
  cases e:l[j]? with
  | none=>exact Nat.two_pow_pos _
  | some x=>exact h x (List.mem_of_getElem? e)
theorem Acp {l:List Int}{n:Nat} (h:∀j,(rf l j).natAbs<2^n):∀x∈l,Sz n x:=fun x hx=>by
  obtain⟨j,hj⟩:=List.getElem?_of_mem hx
  have:=h j
  unfold rf at this
  rw [List.getD_eq_getElem?_getD,hj]at this
  exact this
theorem Mx.keep {H:Hp}{a p:Addr}{rs:List Rw}{o:HO} (h:Mx H a rs) (e1:a≠p) (e2:∀r∈rs,r.1≠p):Mx (upd H p o) a rs:=⟨by rw [Al e1];exact h.it,fun r hr=>by rw [Al (e2 r hr)];exact h.al r hr⟩
theorem Mx.off {H:Hp}{a p:Addr}{rs:List Rw}{cs:List Nat}{N:Nat} (h:Mx H a rs) (hp:H p=some (.lst (nats cs))) (h1:rs≠ []) (hc:cs.length<N) (hN:∀r∈rs,r.2.length=N):a≠p/\∀r∈rs,r.1≠p:=by
  constructor
  . rintro rfl
    have:=h.it.symm.trans hp
    simp only [Option.some.injEq,HO.lst.injEq]at this
    match rs,cs,h1,this with
    | _::_,[],_,q=>cases q
    | _::_,_::_,_,q=>cases q
  . rintro r hr rfl
    have:=(h.al r hr).symm.trans hp
    simp only [Option.some.injEq,HO.lst.injEq]at this
    have e:=congrArg List.length this
    unfold nats at e
    rw [List.length_map,List.length_map,hN r hr]at e
    omega
structure Rdi (H H':Hp) (p la:Addr) (rs L:List Rw) (cs:List Nat) (d:Int) (i u N n:Nat):Prop where
  sm:Same H H'
  it:H' p=some (.lst (nats cs))
  mx:Mx H' la L
  rd:Red (rs.map (·.2)) (L.map (·.2)) cs d i u N n
  ci:cs.length<=i
def rowAt (L:List Rw) (j:Nat):List Int:=(L.map (·.2)).getD j []
theorem Eu {L:List Rw}{j:Nat}{r:Rw} (h:L[j]? =some r):rowAt L j=r.2:=by
  unfold rowAt
  rw [List.getD_eq_getElem?_getD,List.getElem?_map,h]
  rfl
def Fw (K:PySem.W.Frag):Sp:=fun vs H Q _=>∃(a:Addr) (rs:List Rw) (u N n:Nat),vs=[.ref a,.int (u:Nat)]/\Mx H a rs/\1<=rs.length/\rs.length<=20/\u<=6/\u<N/\N<=100/\(∀r∈rs,r.2.length=N/\∀x∈r.2,Sz n x)/\n<=100000/\
  ∀z l m d cs L H',Same H H'->H' z=some (.tup [.ref l,.ref m,.int d])->H' l=some (.lst (nats cs))->Mx H' m L->Red (rs.map (·.2)) (L.map (·.2)) cs d u u N n->cs.length<=u->Q (.ref z) H'
theorem Lf {f:Addr}{fd:FuncData} (F:Df K mg "reduced_rows" Cz ["rows","unknowns"] f fd) (z_range:mg "range"=none) (z_len:mg "len"=none)  (c_swapped:Cal P w K mg base 33 "swapped" ["rows","one","other"] (Mi K)) (c_cleared:Cal P w K mg base 33 "cleared" ["rows","turn","unknown","lead"] (Mu K)):Cal P w K mg base 34 "reduced_rows" ["rows","unknowns"] (Fw K):=by
  refine F.cal (F.fn.ok Av (fun vs H Q E h=> ?_) (fun cdv A outer s H vs Q E hr h=> ?_))
  . obtain⟨a,rs,u,N,n,rfl,_⟩:=h
    rfl
  obtain⟨a,rs,u,N,n,rfl,hm,h1,hl,u6,uN,hN,hs,hn,k⟩:=h
  refine S.Bf ⟨_,(S.Ad (S.Ao (i:=2) Av.nd rfl (Or.inr rfl) (S.pv 0))
      (S.Ad (S.Ao (i:=3) Av.nd rfl (Or.inl rfl) (S.Bg S.Ab))
      (S.Ad (S.Ao (i:=4) Av.nd rfl (Or.inl rfl) S.Ae)
      (S.Ad (S.Dk PassesOwn.never rfl (S.Bj rfl z_range (S.Aa (S.pv 1) S.Ab)) (S.Ah (i:=5) Av.nd rfl (Or.inr rfl)) (S.Ad (S.Ao (i:=6) Av.nd rfl (Or.inl rfl) (S.Br Aj rfl z_len PySem.boot_len (S.Aa (S.pv 3) S.Ab)))
      (S.Ad (S.Di (ts:=["place"]) (fs:=[(5,"unknown"),(2,"left")]) rfl (Am.of (sc:=Af Cz) (N:=["rows","unknowns","left","led","lead","unknown","turn","fitting"]) rfl rfl (by decide+kernel)) (S.Gf rfl z_range (S.Aa (S.pv 6) (S.Aa (S.Br Aj rfl z_len PySem.boot_len (S.Aa (S.pv 2) S.Ab)) S.Ab))) (fun _ _ _=>(S.Ah (i:=0) (show List.Nodup (["place","unknown","left"]:List Str)by decide+kernel) rfl (Or.inl rfl))) (fun _ _ _=>(S.Oe (S.Ba Xo (S.Bc (Ij K) (S.Bc (Ij K) (S.pv 2) (S.pv 0) (fun _ _=>rfl)) (S.pv 1) (fun _ _=>rfl)) S.Ae (Bh _)))) (fun _ _ _=>(S.pv 0)) (S.Ah (i:=7) Av.nd rfl (Or.inl rfl)))
      (S.Ag (S.Ei (S.Ba Z1 (S.Br Aj rfl z_len PySem.boot_len (S.Aa (S.pv 7) S.Ab)) S.Ae (Bh _)) (S.Ad (S.Ao (i:=2) Av.nd rfl (Or.inr rfl) (S.Ax c_swapped (hr.mono (by decide)) (S.Aa (S.pv 2) (S.Aa (S.pv 6) (S.Aa (S.Bc Az (S.pv 7) S.Ae (fun _ _=>rfl)) S.Ab)))))
      (S.Ad (S.Ao (i:=2) Av.nd rfl (Or.inr rfl) (S.Ax c_cleared (hr.mono (by decide)) (S.Aa (S.pv 2) (S.Aa (S.pv 6) (S.Aa (S.pv 5) (S.Aa (S.pv 4) S.Ab))))))
      (S.Ad (S.Ao (i:=4) Av.nd rfl (Or.inl rfl) (S.Bc Az (S.Bc Az (S.pv 2) (S.pv 6) (fun _ _=>rfl)) (S.pv 5) (fun _ _=>rfl)))
      (S.Ag (S.Dh (S.Hj PySem.F.plainAttrs_list PySem.F.slot_list_append PySem.F.type_list_append Cq (S.pv 3) (S.Aa (S.pv 5) S.Ab))))))) S.Bm)))))
      (S.Ag (S.Ay (S.Bb (S.Aa (S.pv 3) (S.Aa (S.pv 2) (S.Aa (S.pv 4) S.Ab)))))))))),?_⟩
  contradiction
  refine⟨by decide,fun p hp=> ?_⟩
  refine⟨by omega,by omega,?_⟩
  rw [Int.toNat_natCast]
  refine Acm u (fun i=> .int (0+(i:Nat))) (fun i σ' H'=>∃(la:Addr) (L:List Rw) (cs:List Nat) (d:Int) (o5 o6 o7:Option V),σ'=[some (.ref a),some (.int (u:Nat)),some (.ref la),some (.ref p),some (.int d),o5,o6,o7]/\Rdi H H' p la rs L cs d i u N n) ⟨a,rs,[],1,_,_,_,rfl,⟨Same.upd hp _,Ac,hm.mono (Same.upd hp _),.start (fun r hr=> ?_) (fun r hr=> ?_),Nat.le_refl _⟩⟩ ?_ ?_ ?_
  . obtain⟨x,hx,rfl⟩:=List.mem_map.mp hr
    exact(hs x hx).1
  . obtain⟨x,hx,rfl⟩:=List.mem_map.mp hr
    exact Acf (hs x hx).2
  . rintro i σ' H' _
    exact Ej
  . rintro i σ' H1 hi ⟨la,L,cs,d,o5,o6,o7,rfl,ri⟩
    have lL:L.length=rs.length:=by simpa using ri.rd.ll
    have kL:cs.length<=L.length:=by simpa using ri.rd.kl
    have LN:∀r∈L,r.2.length=N:=fun r hr=>ri.rd.ln _ (List.mem_map.mpr ⟨r,hr,rfl⟩)
    have gL:∀ {j:Nat}{r:Rw},L[j]? =some r->(L.map (·.2))[j]? =some r.2:=fun {j r} h=>by rw [List.getElem?_map,h];rfl
    have ci:=ri.ci
    have ncs:(nats cs).length=cs.length:=List.length_map _
    contradiction
    rw [Int.zero_add]
    refine⟨p,_,rfl,.inl (.of ri.it),la,_,rfl,.inl (.of ri.mx.it),?_⟩
    rw [List.length_map,ncs]
    refine⟨⟨by omega,by omega,by omega,by omega⟩,fun q hq=> ?_⟩
    rw [show(((L.length:Nat):Int)-((cs.length:Nat):Int)).toNat=L.length-cs.length by omega]
    refine Mp (es:=List.range (L.length-cs.length)) (inj:=fun j=> .int ((cs.length:Nat)+(j:Nat))) (fun j=>decide (rf (rowAt L (cs.length+j)) i≠0)) (fun j=> .int ((cs.length:Nat)+(j:Nat))) (by rw [List.length_range];exact Nat.le_trans (show L.length-cs.length<=20 by omega) (by decide)) hq Dz ?_ ?_
    . intro j H4 R RF hj s4 hR hF
      have hjl:cs.length+j<L.length:=by have:=List.mem_range.mp hj;omega
      obtain⟨r,er⟩:∃r,L[cs.length+j]? =some r:=⟨_,List.getElem?_eq_getElem hjl⟩
      rw [Eu er]at hR hF
      have rm:=List.mem_of_getElem? er
      rw [show((cs.length:Nat):Int)+((j:Nat):Int)=((cs.length+j:Nat):Int)by omega]
      contradiction
      refine Bw (.of (s4 _ _ ri.mx.it)) (v:= .ref r.1) (Aw (by rw [List.getElem?_map,er];rfl)) ?_
      try contradiction
      refine Bw (.of (s4 _ _ (ri.mx.al r rm))) (v:= .int (rf r.2 i)) (Aw (Xm (by rw [LN r rm];omega))) ?_
      try contradiction
      by_cases h0:rf r.2 i=0
      . rw [if_pos h0]
        exact hF (decide_eq_false fun h=>h h0) _ (Same.refl _)
      . rw [if_neg h0]
        refine hR (decide_eq_true h0) _ (Same.refl _)
    intro H2 s2 h2
    have it2:=s2 _ _ ri.it
    have mx2:=ri.mx.mono s2
    refine⟨q,_,rfl,.inl (.of h2),?_⟩
    have fa:∀ {j:Nat}{r:Rw},cs.length<=j->L[j]? =some r->((j-cs.length∈(List.range (L.length-cs.length)).filter fun j=>decide (rf (rowAt L (cs.length+j)) i≠0))↔rf r.2 i≠0):=fun {j r} hj er=>by
      have jl:=(List.getElem?_eq_some_iff.mp er).1
      rw [List.mem_filter,List.mem_range,show cs.length+(j-cs.length)=j by omega,Eu er,decide_eq_true_iff]
      exact⟨fun h=>h.2,fun h=>⟨by omega,h⟩⟩
    have fb:∀j∈(List.range (L.length-cs.length)).filter (fun j=>decide (rf (rowAt L (cs.length+j)) i≠0)),cs.length+j<L.length:=fun j hj=>by
      have:=List.mem_range.mp (List.mem_filter.mp hj).1
      omega
    generalize (List.range (L.length-cs.length)).filter (fun j=>decide (rf (rowAt L (cs.length+j)) i≠0))=fl at h2 fa fb
    cases fl with
    | nil=>
      rw [if_neg (by simp)]
      refine⟨la,L,cs,d,_,_,_,rfl,ri.sm.trans s2,it2,mx2,ri.rd.skip fun j r hj er=> ?_,by omega⟩
      have jl:=(List.getElem?_eq_some_iff.mp er).1
      rw [List.length_map]at jl
      have er':L[j]? =some L[j]:=List.getElem?_eq_getElem jl
      rw [List.getElem?_map,er']at er
      have e:r=L[j].2:=by simpa using er.symm
      rw [e]
      refine Decidable.byContradiction fun h=> ?_
      have:=(fa hj er').mpr h
      cases this
    | cons j0 fl=>
      rw [if_pos (by simp only [List.map_cons,List.length_cons];omega)]
      have jl:=fb j0 (.head _)
      obtain⟨y,ey⟩:∃y,L[cs.length+j0]? =some y:=⟨_,List.getElem?_eq_getElem jl⟩
      obtain⟨x,ex⟩:∃x,L[cs.length]? =some x:=⟨_,List.getElem?_eq_getElem (by omega)⟩
      have y0:rf y.2 i≠0:=(fa (by omega) ey).mp (by rw [show cs.length+j0-cs.length=j0 by omega];exact .head _)
      refine Bw (.of h2) (v:= .int ((cs.length:Nat)+(j0:Nat))) (Aw (j:=0) rfl) ?_
      rw [show((cs.length:Nat):Int)+((j0:Nat):Int)=((cs.length+j0:Nat):Int)by omega]
      refine⟨la,L,cs.length,cs.length+j0,x,y,rfl,mx2,by omega,ex,ey,fun lb H3 s3 mx3=> ?_⟩
      have r3:=ri.rd.swap (gL ex) (gL ey) (by omega)
      rw [<-List.map_set,<-List.map_set]at r3
      have l3:((L.set cs.length y).set (cs.length+j0) x).length=L.length:=by rw [List.length_set,List.length_set]
      have k3:((L.set cs.length y).set (cs.length+j0) x)[cs.length]? =some y:=by
        rw [Fx ex ey]
        split
        . rename_i e
          rw [<-e,ex]at ey
          exact ey
        . rw [if_pos rfl]
      generalize (L.set cs.length y).set (cs.length+j0) x=L3 at r3 l3 k3 mx3
      have m6:(n+1)*2^cs.length<=100001*2^6:=Nat.mul_le_mul (by omega) (Nat.pow_le_pow_right (by decide) (by omega))
      refine⟨lb,L3,cs.length,i,N,(n+1)*2^cs.length-1,d,y,rfl,mx3,by omega,k3,by omega,hN,fun r hr=> ?_,by omega,r3.d0,fun lc H4 L4 s4 mx4 cl=> ?_⟩
      . have rm:r.2∈L3.map (·.2):=List.mem_map.mpr ⟨r,hr,rfl⟩
        exact⟨r3.ln _ rm,Acp (r3.sz _ rm)⟩
      have l4:=cl.ln
      have r4:=r3.clear (L':=L4.map (·.2)) (by rw [List.getElem?_map,k3];rfl) y0 (by rw [List.length_map,List.length_map,l4]) (by rw [List.getElem?_map,cl.me];rfl) (fun j r hj er=>by
        rw [List.getElem?_map]at er
        cases e:L3[j]? with
        | none=>
          rw [e]at er
          cases er
        | some r0=>
          rw [e]at er
          obtain⟨r',e1,e2⟩:=cl.ot j r0 hj e
          have e3:r0.2=r:=by simpa using er
          rw [List.getElem?_map,e1,<-e3,<-e2]
          rfl)
      have N4:∀r∈L4,r.2.length=N:=fun r hr=>r4.ln _ (List.mem_map.mpr ⟨r,hr,rfl⟩)
      have ym:=List.mem_of_getElem? cl.me
      refine Bw (.of mx4.it) (v:= .ref y.1) (Aw (by rw [List.getElem?_map,cl.me];rfl)) ?_
      refine Bw (.of (mx4.al y ym)) (v:= .int (rf y.2 i)) (Aw (Xm (by rw [N4 y ym];omega))) ?_
      have it4:=s4 _ _ (s3 _ _ it2)
      refine⟨.inl ⟨rfl,_,.of it4⟩,p,_,_,rfl,rfl,it4,by rw [ncs];exact Nat.lt_of_le_of_lt (show cs.length<=6 by omega) (by decide),lc,L4,cs++ [i],_,_,_,_,rfl,(ri.sm.trans (s2.trans (s3.trans s4))).put hp,?_,?_,r4,by rw [List.length_append];exact Nat.succ_le_succ ci⟩
      . rw [Ac]
        unfold nats
        rw [List.map_append]
        rfl
      . obtain⟨e1,e2⟩:=mx4.off it4 (by rintro rfl;simp at l4;omega) (by omega) N4
        exact mx4.keep e1 e2
  . rintro σ' H' ⟨la,L,cs,d,o5,o6,o7,rfl,ri⟩
    contradiction
    exact⟨by decide,fun z hz=>k z p la d cs L _ (ri.sm.trans (Same.upd hz _)) Ac (Same.upd hz _ _ _ ri.it) (ri.mx.mono (Same.upd hz _)) ri.rd ri.ci⟩
structure Ql (K:PySem.W.Frag) (H:Hp) (a:Addr) (es:List (V × Rat)):Prop where
  it:H a=some (.lst (es.map (·.1)))
  al:∀e∈es,IsQ K H e.1 e.2
theorem Ql.mono {H H':Hp}{a:Addr}{es:List (V × Rat)} (h:Ql K H a es) (s:Same H H'):Ql K H' a es:=⟨s _ _ h.it,fun e he=>(h.al e he).mono s⟩
abbrev Qr:=Addr × List (V × Rat)
structure Qm (K:PySem.W.Frag) (H:Hp) (a:Addr) (rs:List Qr):Prop where
  it:H a=some (.lst (rs.map fun r=>V.ref r.1))
  al:∀r∈rs,Ql K H r.1 r.2
theorem Qm.mono {H H':Hp}{a:Addr}{rs:List Qr} (h:Qm K H a rs) (s:Same H H'):Qm K H' a rs:=⟨s _ _ h.it,fun e he=>(h.al e he).mono s⟩
abbrev qv (es:List (V × Rat)):List Rat:=es.map (·.2)
theorem Va {b:Int}{q:Rat} (h:(q.den:Int)∣b):((Xb b q:Int):Rat)=(b:Rat)*q:=by
  obtain⟨k,rfl⟩:=h
  unfold Xb
  rw [Int.mul_ediv_cancel_left _ (Mr q),Rat.intCast_mul,Rat.intCast_mul]
  have h1:(((q.den:Nat):Int):Rat)≠0:=by exact_mod_cast Mr q
  have h2:=Rat.divInt_eq_div q.num (q.den:Int)
  rw [Rat.num_divInt_den]at h2
  grind
def Z9 (b:Int) (es:List Rat) (i m:Nat):List Int:=es.map (Xb b)++(List.range m).map fun o=>if i=o then b else 0
theorem U5 {b:Int}{es:List Rat}{i m j:Nat} (h:j<es.length):rf (Z9 b es i m) j=Xb b (es.getD j 0):=by
  unfold rf Z9
  rw [List.getD_eq_getElem?_getD,List.getElem?_append_left (by rw [List.length_map];exact h),List.getElem?_map,List.getD_eq_getElem?_getD,List.getElem?_eq_getElem h]
  rfl
structure Wri (H H':Hp) (p:Addr) (L:List Rw) (pre:List Qr) (qs:List Rat) (u m n:Nat):Prop where
  sm:Same H H'
  it:H' p=some (.lst (L.map fun r=>V.ref r.1))
  al:∀r∈L,H' r.1=some (.lst (r.2.map V.int))/\r.1≠p/\r.2.length=u+1+m/\∀x∈r.2,Sz (n*11+1) x
  ln:L.length=pre.length
  ok:∀(i:Nat) r e q,L[i]? =some r->pre[i]? =some e->qs[i]? =some q->∃B:Rat,B≠0/\(∀j,j<u->(rf r.2 j:Rat)=B*qf (qv e.2) j)/\(rf r.2 u:Rat)=B*q
theorem Wri.snoc {H H1 H2:Hp}{p:Addr}{L:List Rw}{pre:List Qr}{es:List (V × Rat)}{u m n:Nat}{x:Rw}{e:Qr}{q0:V × Rat}{B:Rat} (h:Wri H H1 p L pre (qv es) u m n) (np:H p=none) (s:Same H1 H2) (hx:H2 x.1=some (.lst (x.2.map V.int))) (nx:x.1≠p) (xl:x.2.length=u+1+m) (xz:∀y∈x.2,Sz (n*11+1) y) (eq:es[pre.length]? =some q0) (b0:B≠0) (b1:∀j,j<u->(rf x.2 j:Rat)=B*qf (qv e.2) j) (b2:(rf x.2 u:Rat)=B*q0.2):Wri H (upd H2 p (.lst ((L.map fun r=>V.ref r.1)++ [.ref x.1]))) p (L++ [x]) (pre++ [e]) (qv es) u m n:=by
  refine⟨(h.sm.trans s).put np,by rw [Ac,List.map_append];rfl,fun r hr=> ?_,by rw [List.length_append,List.length_append,h.ln];rfl,fun i r e' q hr he hq=> ?_⟩
  . rcases List.mem_append.mp hr with hr | hr
    . obtain⟨a,b,c⟩:=h.al r hr
      exact⟨by rw [Al b];exact s _ _ a,b,c⟩
    . have e1:r=x:=by simpa using hr
      rw [e1]
      exact⟨by rw [Al nx];exact hx,nx,xl,xz⟩
  . by_cases hl:i<pre.length
    . rw [List.getElem?_append_left (by rw [h.ln];exact hl)]at hr
      rw [List.getElem?_append_left hl]at he
      exact h.ok i r e' q hr he hq
    . have li:=(List.getElem?_eq_some_iff.mp he).1
      rw [List.length_append,List.length_singleton]at li
      have ei:i=pre.length:=by omega
      subst ei
      rw [List.getElem?_append_right (Nat.le_refl _),Nat.sub_self]at he
      rw [<-h.ln,List.getElem?_append_right (Nat.le_refl _),Nat.sub_self]at hr
      have e1:x=r:=by simpa using hr
      have e2:e=e':=by simpa using he
      rw [List.getElem?_map,eq]at hq
      have e3:q0.2=q:=by simpa using hq
      rw [<-e1,<-e2,<-e3]
      exact⟨B,b0,b1,b2⟩
def Hv (K:PySem.W.Frag):Sp:=fun vs H Q _=>∃(a b:Addr) (rs:List Qr) (es:List (V × Rat)) (u n:Nat),vs=[.ref a,.ref b]/\Qm K H a rs/\Ql K H b es/\es.length=rs.length/\rs.length<=6/\u<=6/\(∀r∈rs,r.2.length=u/\∀e∈r.2,Szq n e.2)/\(∀e∈es,Szq n e.2)/\n<=100000/\
  ∀z L H',Same H H'->Mx H' z L->(∀r∈L,r.2.length=u+1+rs.length/\∀x∈r.2,Sz (n*11+1) x)->Whl (L.map (·.2)) (rs.map fun r=>qv r.2) (qv es) u->Q (.ref z) H'
theorem Nh {f:Addr}{fd:FuncData} (F:Df K mg "whole_rows" Dr ["rows","right"] f fd) (z_enumerate:mg "enumerate"=none) (z_range:mg "range"=none) (z_len:mg "len"=none)  (c_over_one_bottom:Cal P w K mg base 33 "over_one_bottom" ["some"] (Eb K)):Cal P w K mg base 34 "whole_rows" ["rows","right"] (Hv K):=by
  refine F.cal (F.fn.ok Bs (fun vs H Q E h=> ?_) (fun cdv A outer s H vs Q E hr h=> ?_))
  . obtain⟨a,b,rs,es,u,n,rfl,_⟩:=h
    rfl
  obtain⟨a,b,rs,es,u,n,rfl,hm,hb,el,rl,u6,hs,hs2,hn,k⟩:=h
  refine S.Bf ⟨_,(S.Ad (S.Ao (i:=2) Bs.nd rfl (Or.inl rfl) (S.Bg S.Ab))
      (S.Ad (S.Dk PassesOwn.never rfl (S.O4 rfl z_enumerate (S.Aa (S.pv 0) S.Ab)) (S.Ds rfl (S.Ar (S.Ah (i:=3) Bs.nd rfl (Or.inr rfl)) (S.Ar (S.Ah (i:=4) Bs.nd rfl (Or.inl rfl)) S.Cu))) (S.Ad (S.Dj (S.Ax c_over_one_bottom (hr.mono (by decide)) (S.Aa (S.Ak Em (S.pv 4) (S.Bg (S.Aa (S.Bc Az (S.pv 1) (S.pv 3) (fun _ _=>rfl)) S.Ab))) S.Ab)) (S.Ds rfl (S.Ar (S.Ah (i:=5) Bs.nd rfl (Or.inl rfl)) (S.Ar (S.Ah (i:=6) Bs.nd rfl (Or.inr rfl)) S.Cu))))
      (S.Ag (S.Dh (S.Hj PySem.F.plainAttrs_list PySem.F.slot_list_append PySem.F.type_list_append Cq (S.pv 2) (S.Aa (S.Ak Em (S.pv 5) (S.Ck (ts:=["other"]) (fs:=[(6,"bottom"),(3,"place")]) rfl (Am.of (sc:=Af Dr) (N:=["rows","right","found","place","row","tops","bottom"]) rfl rfl (by decide+kernel)) (S.Bj rfl z_range (S.Aa (S.Br Aj rfl z_len PySem.boot_len (S.Aa (S.pv 0) S.Ab)) S.Ab)) (fun _ _ _=>(S.Ah (i:=0) (show List.Nodup (["other","bottom","place"]:List Str)by decide+kernel) rfl (Or.inl rfl))) (fun _ _ _=>S.Bk) (fun _ _ _=>(S.Ks (S.Ba Ik (S.pv 2) (S.pv 0) (Bh _)) (S.pv 1) S.Ae)))) S.Ab))))))
      (S.Ag (S.Ay (S.pv 2))))),?_⟩
  contradiction
  refine⟨by decide,fun p hp=> ?_⟩
  have s1:=Same.upd hp (.lst [])
  refine⟨⟨_,.of (s1 _ _ hm.it)⟩,Y6 (es:=rs) (inj:=fun r=>V.ref r.1) (fun pre σ' H'=>∃(L:List Rw) (o3 o4 o5 o6:Option V),σ'=[some (.ref a),some (.ref b),some (.ref p),o3,o4,o5,o6]/\Wri H H' p L pre (qv es) u rs.length n) ⟨[],_,_,_,_,rfl,⟨s1,Ac,by simp,rfl,by simp⟩⟩ ?_ ?_ ?_⟩
  . rintro pre σ' H' ⟨L,o3,o4,o5,o6,rfl,wi⟩
    exact .of (wi.sm _ _ hm.it)
  . rintro pre e post σ' H1 c hE ⟨L,o3,o4,o5,o6,rfl,wi⟩ hc
    have sb:=Same.upd hc (.tup [V.int (pre.length:Nat),V.ref e.1])
    refine Gv (.of Ac) ?_
    generalize upd H1 c (.tup [V.int (pre.length:Nat),V.ref e.1])=H2 at sb
    have em:e∈rs:=by rw [hE];simp
    obtain⟨eN,ez⟩:=hs e em
    have pl:pre.length<rs.length:=by
      have:=congrArg List.length hE
      rw [List.length_append,List.length_cons]at this
      omega
    contradiction
    have sH2:=wi.sm.trans sb
    obtain⟨q0,eq0⟩:∃q0,es[pre.length]? =some q0:=⟨_,List.getElem?_eq_getElem (by omega)⟩
    have qm:=List.mem_of_getElem? eq0
    refine Bw (.of (sH2 _ _ hb.it)) (v:=q0.1) (Aw (by rw [List.getElem?_map,eq0];rfl)) ?_
    try contradiction
    intro l1 hl1
    have t1:=Same.upd hl1 (.lst [q0.1])
    refine⟨e.1,l1,_,_,rfl,rfl,t1 _ _ (sH2 _ _ (hm.al e em).it),Ac,by rw [List.length_map];exact Nat.le_trans (show e.2.length+1<=7 by omega) (by decide),fun l2 hl2=> ?_⟩
    have t2:=Same.upd hl2 (.lst (e.2.map (·.1)++ [q0.1]))
    have s13:=sb.trans (t1.trans t2)
    have it2:upd (upd H2 l1 (.lst [q0.1])) l2 (.lst (e.2.map (·.1)++ [q0.1])) l2=some (.lst ((e.2++ [q0]).map (·.1))):=by rw [Ac,List.map_append];rfl
    generalize upd (upd H2 l1 (.lst [q0.1])) l2 (.lst (e.2.map (·.1)++ [q0.1]))=H3 at s13 it2
    have sl2:=wi.sm.trans s13
    have nl:(e.2++ [q0]).length=u+1:=by rw [List.length_append,eN];rfl
    refine⟨l2,e.2++ [q0],n,rfl,it2,fun x hx=> ?_,by omega,hn,fun z l bt H4 s4 hz hl b0 zb dv=> ?_⟩
    . rcases List.mem_append.mp hx with hx | hx
      . exact⟨((hm.al e em).al x hx).mono sl2,ez x hx⟩
      . have e1:x=q0:=by simpa using hx
        rw [e1]
        exact⟨(hb.al q0 qm).mono sl2,hs2 q0 qm⟩
    refine Gv (.of hz) ?_
    have sH4:=sl2.trans s4
    have s14:=s13.trans s4
    contradiction
    refine⟨.inl ⟨rfl,_,.of (s14 _ _ wi.it)⟩,?_⟩
    refine⟨a,_,rfl,.inl (.of (sH4 _ _ hm.it)),?_⟩
    rw [List.length_map]
    refine⟨by omega,by omega,fun q hq=> ?_⟩
    rw [Int.toNat_natCast]
    refine Nk (es:=List.range rs.length) (inj:=fun i=> .int (0+(i:Nat))) (fun o=> .int (if pre.length=o then bt else 0)) (by rw [List.length_range];exact Nat.le_trans rl (by decide)) hq Dz ?_ ?_
    . intro o H5 R ho s5 hR
      rw [Int.zero_add]
      contradiction
      by_cases ho':pre.length=o
      . rw [if_pos ho']at hR
        rw [if_pos (by rw [ho'])]
        exact hR _ (Same.refl _)
      . rw [if_neg ho']at hR
        rw [if_neg (by omega)]
        exact hR _ (Same.refl _)
    intro H5 s5 h5
    try contradiction
    refine⟨l,q,_,_,rfl,rfl,s5 _ _ hl,h5,by rw [List.length_map,List.length_map,List.length_range,nl];exact Nat.le_trans (show u+1+rs.length<=13 by omega) (by decide),fun r hr'=> ?_⟩
    have t6:=Same.upd hr' (.lst ((e.2++ [q0]).map (fun e=>V.int (Xb bt e.2))++(List.range rs.length).map fun o=>V.int (if pre.length=o then bt else 0)))
    have s16:=(s14.trans s5).trans t6
    have it6:upd H5 r (.lst ((e.2++ [q0]).map (fun e=>V.int (Xb bt e.2))++(List.range rs.length).map fun o=>V.int (if pre.length=o then bt else 0))) r=some (.lst ((Z9 bt (qv (e.2++ [q0])) pre.length rs.length).map V.int)):=by
      rw [Ac]
      unfold Z9
      simp only [List.map_append,List.map_map]
      rfl
    have np:r≠p:=Ne.symm (Ai ((s14.trans s5) _ _ wi.it) hr')
    generalize upd H5 r (.lst ((e.2++ [q0]).map (fun e=>V.int (Xb bt e.2))++(List.range rs.length).map fun o=>V.int (if pre.length=o then bt else 0)))=H6 at s16 it6
    have nq:(qv (e.2++ [q0])).length=u+1:=by rw [List.length_map];exact nl
    have bR:(bt:Rat)≠0:=by
      have:bt≠0:=by omega
      exact_mod_cast this
    refine⟨p,_,_,rfl,rfl,s16 _ _ wi.it,by rw [List.length_map,wi.ln];exact Nat.lt_of_le_of_lt (show pre.length<=6 by omega) (by decide),L++ [(r,Z9 bt (qv (e.2++ [q0])) pre.length rs.length)],_,_,_,_,rfl,wi.snoc (x:=(r,Z9 bt (qv (e.2++ [q0])) pre.length rs.length)) (e:=e) hp s16 it6 np ?_ (fun x hx=> ?_) eq0 bR (fun j hj=> ?_) ?_⟩
    . unfold Z9
      simp only [List.length_append,List.length_map,List.length_range,List.length_singleton,eN]
    . rcases List.mem_append.mp hx with hx | hx
      . obtain⟨y,hy,rfl⟩:=List.mem_map.mp hx
        obtain⟨y',hy',rfl⟩:=List.mem_map.mp hy
        have zy:Szq n y'.2:=by
          rcases List.mem_append.mp hy' with h | h
          . exact ez y' h
          . have e1:y'=q0:=by simpa using h
            rw [e1]
            exact hs2 q0 qm
        have zq:Sz (n*10+1) (bt/(y'.2.den:Int)):=zb.of_abs (by
          have h1:bt/(y'.2.den:Int)<=bt:=Int.ediv_le_self _ (by omega)
          have h2:0<=bt/(y'.2.den:Int):=Int.ediv_nonneg (by omega) (by omega)
          omega)
        exact(zy.1.mul zq).mono (by omega)
      . obtain⟨o,_,rfl⟩:=List.mem_map.mp hx
        split
        . exact zb.mono (by omega)
        . exact Nat.two_pow_pos _
    . rw [U5 (by omega),Va]
      . congr 1
        unfold qf
        rw [List.getD_eq_getElem?_getD,List.getD_eq_getElem?_getD,show qv (e.2++ [q0])=qv e.2++ [q0.2]from List.map_append,List.getElem?_append_left (by rw [List.length_map,eN];exact hj)]
      . obtain⟨y,ey⟩:∃y,(e.2++ [q0])[j]? =some y:=⟨_,List.getElem?_eq_getElem (by omega)⟩
        rw [List.getD_eq_getElem?_getD,List.getElem?_map,ey]
        exact dv y (List.mem_of_getElem? ey)
    . have ey:(e.2++ [q0])[u]? =some q0:=by
        rw [List.getElem?_append_right (by omega),eN,Nat.sub_self]
        rfl
      have e2:(qv (e.2++ [q0])).getD u 0=q0.2:=by
        rw [List.getD_eq_getElem?_getD,List.getElem?_map,ey]
        rfl
      rw [U5 (by omega),e2,Va (dv q0 (List.mem_of_getElem? ey))]
  . rintro σ' H' ⟨L,o3,o4,o5,o6,rfl,wi⟩
    contradiction
    refine k p L H' wi.sm ⟨wi.it,fun r hr=>(wi.al r hr).1⟩ (fun r hr=>(wi.al r hr).2.2) ⟨?_,?_,fun r hr=> ?_,fun i m r q h1 h2 h3=> ?_⟩
    . rw [List.length_map,List.length_map,wi.ln]
    . rw [List.length_map,List.length_map,el]
    . obtain⟨x,hx,rfl⟩:=List.mem_map.mp hr
      rw [List.length_map]
      exact(hs x hx).1
    . rw [List.getElem?_map]at h1 h2
      cases e1:L[i]? with
      | none=>rw [e1]at h1;cases h1
      | some x=>
      cases e2:rs[i]? with
      | none=>rw [e2]at h2;cases h2
      | some y=>
      rw [e1]at h1
      rw [e2]at h2
      cases h1
      cases h2
      exact wi.ok i x y q e1 e2 h3
theorem IsQ.put {H:Hp}{p:Addr}{v:V}{q:Rat}{acc:List V}{o:HO} (h:IsQ K H v q) (hp:H p=some (.lst acc)):IsQ K (upd H p o) v q:=by
  obtain⟨a,e,t⟩:=h
  exact⟨a,e,G8 t hp⟩
theorem Rt {α:Type}{H:Hp}{p:Addr}{ns:List V}{xs:List α}{f:α->Rat} (h:H p=some (.lst ns)) (hl:ns.length=xs.length) (hq:∀(i:Nat) x n,xs[i]? =some x->ns[i]? =some n->IsQ K H n (f x)):Ql K H p (ns.zip (xs.map f))/\qv (ns.zip (xs.map f))=xs.map f:=by
  refine⟨⟨?_,fun e he=> ?_⟩,?_⟩
  . rw [h,show(fun e:V × Rat=>e.1)=Prod.fst from rfl,List.map_fst_zip (by rw [List.length_map,hl];exact Nat.le_refl _)]
  . obtain⟨i,hi⟩:=List.getElem?_of_mem he
    obtain⟨h1,h2⟩:=List.getElem?_zip_eq_some.mp hi
    rw [List.getElem?_map]at h2
    cases ex:xs[i]? with
    | none=>rw [ex]at h2;cases h2
    | some x=>
      rw [ex]at h2
      have e2:f x=e.2:=by simpa using h2
      rw [<-e2]
      exact hq i x e.1 ex h1
  . rw [show qv (ns.zip (xs.map f))=(ns.zip (xs.map f)).map Prod.snd from rfl,List.map_snd_zip (by rw [List.length_map,hl];exact Nat.le_refl _)]
def Jj (K:PySem.W.Frag):Sp:=fun vs H Q _=>∃(a:Addr) (xs:List Int) (b:Int),vs=[.ref a,.int b]/\H a=some (.lst (xs.map V.int))/\xs.length<=100/\b≠0/\∀z es H',H z=none->Same H H'->Ql K H' z es->qv es=xs.map (fun x=>Rat.divInt x b)->Q (.ref z) H'
theorem Oi {f:Addr}{fd:FuncData} (F:Df K mg "fractions" Et ["tops","bottom"] f fd)   (c_fraction:Cal P w K mg base 34 "fraction" ["top","bottom"] (Ew K)):Cal P w K mg base 35 "fractions" ["tops","bottom"] (Jj K):=by
  refine F.cal (F.fn.ok Qd (fun vs H Q E h=> ?_) (fun cdv A outer s H vs Q E hr h=> ?_))
  . obtain⟨a,xs,b,rfl,_⟩:=h
    rfl
  obtain⟨a,xs,b,rfl,ha,hl,b0,k⟩:=h
  refine S.Bf ⟨_,(S.Ag (S.Ay (S.Ck (ts:=["top"]) (fs:=[(1,"bottom")]) rfl (Am.of (sc:=Af Et) (N:=["tops","bottom"]) rfl rfl (by decide+kernel)) (S.Bv (S.pv 0)) (fun _ _ _=>(S.Ah (i:=0) (show List.Nodup (["top","bottom"]:List Str)by decide+kernel) rfl (Or.inl rfl))) (fun _ _ _=>S.Bk) (fun _ _ _=>(S.Ax c_fraction (hr.mono (by decide)) (S.Aa (S.pv 0) (S.Aa (S.pv 1) S.Ab))))))),?_⟩
  contradiction
  refine⟨⟨_,.of ha⟩,fun p hp=>G6 (es:=xs) (inj:=V.int) (fun x v H=>IsQ K H v (Rat.divInt x b)) (Nat.le_trans hl (by decide)) hp (Hh (.of ha)) (fun e v H H' h s=>h.mono s) (fun e v H acc o h hp=>h.put hp) ?_ ?_⟩
  . intro x H2 R hx s2 hR
    contradiction
    exact⟨x,b,rfl,b0,fun z H3 s3 h3=>hR z H3 s3 h3⟩
  intro ns H2 nl hq s2 h2
  try contradiction
  obtain⟨q1,q2⟩:=Rt h2 nl hq
  exact k p _ _ hp s2 q1 q2
theorem Ad2 {H:Hp} (h:Xh K (cA K "ONE") [.int 1,.int 1]):IsQ K H (.ref (cA K "ONE")) 1:=⟨_,rfl,h.sq⟩
theorem Adh {H:Hp} (h:Xh K (cA K "NOUGHT") [.int 0,.int 1]):IsQ K H (.ref (cA K "NOUGHT")) 0:=⟨_,rfl,h.sq⟩
def Js (K:PySem.W.Frag):Sp:=fun vs H Q _=>∃u c:Nat,vs=[.int (u:Nat),.int (c:Nat)]/\u<=100/\∀z es H',H z=none->Same H H'->Ql K H' z es->qv es=(List.range u).map (fun j=>if j=c then 1 else 0)->Q (.ref z) H'
theorem Qw {f:Addr}{fd:FuncData} (F:Df K mg "unit_list" Ep ["length","here"] f fd) (z_range:mg "range"=none) (xm_ONE:mg "ONE"=some (.ref (cA K "ONE"))) (xt_ONE:Xh K (cA K "ONE") [.int 1,.int 1]) (xm_NOUGHT:mg "NOUGHT"=some (.ref (cA K "NOUGHT"))) (xt_NOUGHT:Xh K (cA K "NOUGHT") [.int 0,.int 1])  :Cal P w K mg base 33 "unit_list" ["length","here"] (Js K):=by
  refine F.cal (F.fn.ok Pz (fun vs H Q E h=> ?_) (fun cdv A outer s H vs Q E hr h=> ?_))
  . obtain⟨u,c,rfl,_⟩:=h
    rfl
  obtain⟨u,c,rfl,u1,k⟩:=h
  refine S.Bf ⟨_,(S.Ag (S.Ay (S.Ck (ts:=["place"]) (fs:=[(1,"here")]) rfl (Am.of (sc:=Af Ep) (N:=["length","here"]) rfl rfl (by decide+kernel)) (S.Bj rfl z_range (S.Aa (S.pv 0) S.Ab)) (fun _ _ _=>(S.Ah (i:=0) (show List.Nodup (["place","here"]:List Str)by decide+kernel) rfl (Or.inl rfl))) (fun _ _ _=>S.Bk) (fun _ _ _=>(S.Ks (S.Ba Ik (S.pv 0) (S.pv 1) (Bh _)) (S.Ed (v:= .ref (cA K "ONE")) rfl xm_ONE rfl) (S.Ed (v:= .ref (cA K "NOUGHT")) rfl xm_NOUGHT rfl)))))),?_⟩
  contradiction
  refine⟨by omega,by omega,fun p hp=> ?_⟩
  rw [Int.toNat_natCast]
  refine G6 (es:=List.range u) (inj:=fun i=> .int (0+(i:Nat))) (fun j v H=>IsQ K H v (if j=c then 1 else 0)) (by rw [List.length_range];exact Nat.le_trans u1 (by decide)) hp Dz (fun e v H H' h s=>h.mono s) (fun e v H acc o h hp=>h.put hp) ?_ ?_
  . intro j H2 R hj s2 hR
    rw [Int.zero_add]
    contradiction
    by_cases hjc:j=c
    . rw [if_pos (by rw [hjc])]
      exact hR _ _ (Same.refl _) (by rw [if_pos hjc];exact Ad2 xt_ONE)
    . rw [if_neg (by omega)]
      exact hR _ _ (Same.refl _) (by rw [if_neg hjc];exact Adh xt_NOUGHT)
  intro ns H2 nl hq s2 h2
  try contradiction
  obtain⟨q1,q2⟩:=Rt h2 nl hq
  exact k p _ _ hp s2 q1 q2
structure Bsi (K:PySem.W.Frag) (H H':Hp) (p:Addr) (x0:List Rat) (w:Nat->Rat) (cs:List Nat) (i:Nat):Prop where
  sm:Same H H'
  ex:∃es,Ql K H' p es/\Sti x0 w cs i (qv es)
theorem Ql.put {H:Hp}{p:Addr}{es:List (V × Rat)}{c:Nat}{v:V}{q:Rat} (h:Ql K H p es) (hv:IsQ K H v q):Ql K (upd H p (.lst ((es.map (·.1)).set c v))) p (es.set c (v,q)):=by
  refine⟨by rw [Ac,List.map_set],fun e he=> ?_⟩
  rcases List.mem_or_eq_of_mem_set he with he | he
  . exact(h.al e he).put h.it
  . rw [he]
    exact hv.put h.it
theorem Bsi.step {H H1 H2:Hp}{p:Addr}{x0:List Rat}{w:Nat->Rat}{cs:List Nat}{i c:Nat}{es:List (V × Rat)}{v:V} (sm:Same H H2) (hp:H p=none) (ql:Ql K H2 p es) (st:Sti x0 w cs i (qv es)) (inc:cs.Pairwise (· < ·)) (hi:cs[i]? =some c) (hc:c<x0.length) (hv:IsQ K H2 v (w i)):Bsi K H (upd H2 p (.lst ((es.map (·.1)).set c v))) p x0 w cs (i+1):=
  ⟨sm.put hp,_,ql.put hv,by rw [show qv (es.set c (v,w i))=(qv es).set c (w i)from List.map_set];exact st.step inc hi hc⟩
def M6 (K:PySem.W.Frag):Sp:=fun vs H Q _=>∃(c u N:Nat) (l m:Addr) (cs:List Nat) (L:List Rw) (d:Int),vs=[.int (c:Nat),.ref l,.ref m,.int d,.int (u:Nat)]/\u<=100/\c<N/\H l=some (.lst (nats cs))/\Mx H m L/\(∀r∈L,r.2.length=N)/\cs.length<=L.length/\cs.Pairwise (· < ·)/\(∀x∈cs,x<u)/\d≠0/\
  ∀z es H',H z=none->Same H H'->Ql K H' z es->es.length=u->(∀j,j<u->j∉cs->qf (qv es) j=if j=c then 1 else 0)->(∀(k:Nat) x r,L[k]? =some r->cs[k]? =some x->qf (qv es) x=Rat.divInt (-(rf r.2 c)) d)->Q (.ref z) H'
theorem Uo {f:Addr}{fd:FuncData} (F:Df K mg "base_of" K1 ["here","led","reduced","lead","unknowns"] f fd) (z_zip:mg "zip"=none)  (c_unit_list:Cal P w K mg base 33 "unit_list" ["length","here"] (Js K)) (c_fraction:Cal P w K mg base 34 "fraction" ["top","bottom"] (Ew K)):Cal P w K mg base 35 "base_of" ["here","led","reduced","lead","unknowns"] (M6 K):=by
  refine F.cal (F.fn.ok Gi (fun vs H Q E h=> ?_) (fun cdv A outer s H vs Q E hr h=> ?_))
  . obtain⟨c,u,N,l,m,cs,L,d,rfl,_⟩:=h
    rfl
  obtain⟨c,u,N,l,m,cs,L,d,rfl,u1,cN,hl,hm,hN,cl,inc,lt,d0,k⟩:=h
  refine S.Bf ⟨_,(S.Ad (S.Ao (i:=5) Gi.nd rfl (Or.inl rfl) (S.Ax c_unit_list (hr.mono (by decide)) (S.Aa (S.pv 4) (S.Aa (S.pv 0) S.Ab))))
      (S.Ad (S.Dk PassesOwn.never rfl (S.Eo false false rfl z_zip (S.Aa (S.pv 1) (S.Aa (S.pv 2) S.Ab))) (S.Ds rfl (S.Ar (S.Ah (i:=6) Gi.nd rfl (Or.inl rfl)) (S.Ar (S.Ah (i:=7) Gi.nd rfl (Or.inl rfl)) S.Cu))) (S.Ag (S.Dj (S.Ax c_fraction (hr.mono (by decide)) (S.Aa (S.W4 U3 (S.Bc Az (S.pv 7) (S.pv 0) (fun _ _=>rfl))) (S.Aa (S.pv 3) S.Ab))) (S.Gs (S.pv 5) (S.pv 6) set_list))))
      (S.Ag (S.Ay (S.pv 5))))),?_⟩
  contradiction
  refine⟨u,c,rfl,u1,fun z es0 H1 nz s1 q1 e1=> ?_⟩
  try contradiction
  have gl:=s1 _ _ hl
  have gm:=hm.mono s1
  have x0l:(qv es0).length=u:=by rw [e1,List.length_map,List.length_range]
  refine⟨l,m,rfl,⟨_,show SqL K H1 l _ from .of gl⟩,⟨_,show SqL K H1 m _ from .of gm.it⟩,Rh (xs:=nats cs) (ys:=L.map fun r=>V.ref r.1) cs.length (by unfold nats;rw [List.length_map,List.length_map];omega) (fun i σ' H'=>∃o6 o7:Option V,σ'=[some (.int (c:Nat)),some (.ref l),some (.ref m),some (.int d),some (.int (u:Nat)),some (.ref z),o6,o7]/\Bsi K H H' z (qv es0) (fun k=>Rat.divInt (-(rf (rowAt L k) c)) d) cs i) ⟨_,_,rfl,s1,es0,q1,Sti.start _ _ _⟩ ?_ ?_ ?_⟩
  . rintro i σ' H' ⟨o6,o7,rfl,bi⟩
    exact⟨show SqL K H' l _ from .of (bi.sm _ _ hl),show SqL K H' m _ from .of (bi.sm _ _ hm.it)⟩
  . rintro i σ' H2 b hi ⟨o6,o7,rfl,bi⟩ hb
    obtain⟨es,ql,st⟩:=bi.ex
    have sb:=Same.upd hb (.tup [(nats cs).getD i .non,(L.map fun r=>V.ref r.1).getD i .non])
    obtain⟨x,ex⟩:∃x,cs[i]? =some x:=⟨_,List.getElem?_eq_getElem hi⟩
    obtain⟨r,er⟩:∃r,L[i]? =some r:=⟨_,List.getElem?_eq_getElem (by omega)⟩
    have rm:=List.mem_of_getElem? er
    have v1:(nats cs).getD i .non= .int (x:Nat):=by rw [List.getD_eq_getElem?_getD,S9 ex];rfl
    have v2:(L.map fun r=>V.ref r.1).getD i .non= .ref r.1:=by rw [List.getD_eq_getElem?_getD,List.getElem?_map,er];rfl
    rw [v1,v2]at sb
    rw [v1,v2]
    refine Gv (.of Ac) ?_
    generalize upd H2 b (.tup [V.int (x:Nat),.ref r.1])=H3 at sb
    contradiction
    refine Bw (.of ((bi.sm.trans sb) _ _ (hm.al r rm))) (v:= .int (rf r.2 c)) (Aw (Xm (by rw [hN r rm];exact cN))) ?_
    try contradiction
    refine⟨_,_,rfl,d0,fun v H4 s4 h4=> ?_⟩
    try contradiction
    have ql4:=ql.mono (sb.trans s4)
    have xu:=lt x (List.mem_of_getElem? ex)
    refine Rf (j:=x) ql4.it (by rw [List.length_map];have:=st.ln;rw [List.length_map]at this;omega) ?_
    refine⟨_,_,rfl,Bsi.step (H1:=H) (bi.sm.trans (sb.trans s4)) nz ql4 st inc ex (by omega) ?_⟩
    rw [Eu er]
    exact h4
  . rintro σ' H' ⟨o6,o7,rfl,bi⟩
    contradiction
    obtain⟨es,ql,st⟩:=bi.ex
    obtain⟨a1,a2⟩:=st.done rfl
    refine k z es H' nz bi.sm ql (by have:=st.ln;rw [List.length_map]at this;omega) (fun j hj hc=> ?_) fun i x r er ex=> ?_
    . rw [a1 j hc,e1]
      unfold qf
      rw [List.getD_eq_getElem?_getD,List.getElem?_map,List.getElem?_range hj]
      rfl
    . rw [a2 i x ex,Eu er]
theorem Abz {T U:String}{b:Bool} (h:(if(Value.type T==Value.type U)=true then some true else if PySem.W.kitMeta U=true then PySem.W.subIn [] (.type T) (.type U)else none)=some b):PySem.W.kitOne K (.type T) (.type U)=some b:=h
theorem Aba:PySem.W.kitOne K (.type "list") (.type "list")=some true:=Abz (by decide+kernel)
theorem Aa9:PySem.W.kitOne K (.type "int") (.type "list")=some false:=Abz (by decide+kernel)
theorem Aav:PySem.W.kitOne K (.type "NoneType") (.type "list")=some false:=Abz (by decide+kernel)
theorem Aas:PySem.W.kitOne K (.type "tuple") (.type "list")=some false:=Abz (by decide+kernel)
theorem O9 {X:Cx} (K:PySem.W.Frag) (h:X.K=K:=by rfl):G9 X (.builtin "len") (fun xs H Q=>∃p ys,xs=[.ref p]/\(SqL K H p ys\/SqT K H p ys)/\Q (.int ys.length) H):=by
  subst h
  exact Aj
inductive Lv (l:Addr->Prop) (H:Hp):V->Option (List V)->Prop where
  | lst {a:Addr}{xs:List V} (n:l a) (h:H a=some (.lst xs)):Lv l H (.ref a) (some xs)
  | tup {a:Addr}{xs:List V} (h:H a=some (.tup xs)):Lv l H (.ref a) none
  | int (i:Int):Lv l H (.int i) none
  | non:Lv l H .non none
theorem Lv.mono {l:Addr->Prop}{H H':Hp}{v:V}{o:Option (List V)} (h:Lv l H v o) (s:Same H H'):Lv l H' v o:=by
  cases h with
  | lst n h=>exact .lst n (s _ _ h)
  | tup h=>exact .tup (s _ _ h)
  | int i=>exact .int i
  | non=>exact .non
def lo:Option (List V)->Nat->Nat->Bool
  | none,_,_=>false
  | some xs,f,m=>decide (f<=xs.length)&&decide (xs.length<=m)
theorem Ge (xs:List V) (f m:Nat):lo (some xs) f m=(decide (f<=xs.length)&&decide (xs.length<=m)):=rfl
def Hx (K:PySem.W.Frag):Sp:=fun vs H Q _=>∃(l:Addr->Prop) (v:V) (o:Option (List V)) (f m:Nat),vs=[v,.int (f:Nat),.int (m:Nat)]/\Lv l H v o/\Q (.bl (lo o f m)) H
theorem M9 {f:Addr}{fd:FuncData} (F:Df K mg "is_list_of" Ft ["thing","fewest","most"] f fd) (z_isinstance:mg "isinstance"=none) (z_list:mg "list"=none) (z_len:mg "len"=none)   :Cal P w K mg base 33 "is_list_of" ["thing","fewest","most"] (Hx K):=by
  refine F.cal (F.fn.ok Nq (fun vs H Q E h=> ?_) (fun cdv A outer s H vs Q E hr h=> ?_))
  . obtain⟨l,v,o,f,m,rfl,_⟩:=h
    rfl
  obtain⟨l,v,o,fe,mo,rfl,hv,k⟩:=h
  refine S.Bf ⟨_,(S.Ag (S.Ay (S.Lw (S.Br Xz rfl z_isinstance PyProof.Rows.boot_isinstance (S.Aa (S.pv 0) (S.Aa (S.Lj (v:= .ty "list") rfl z_list PyProof.Rows.boot_list rfl) S.Ab))) (S.Lw (S.Fz Ac1 (S.Br Aj rfl z_len PySem.boot_len (S.Aa (S.pv 0) S.Ab)) (S.pv 1) (Bh _)) (S.Om (S.Fz Ac6 (S.Br Aj rfl z_len PySem.boot_len (S.Aa (S.pv 0) S.Ab)) (S.pv 2) (Bh _))))))),?_⟩
  contradiction
  cases hv with
  | @lst a xs n ha=>
    refine⟨_,_,_,true,rfl,.lst ha,Aba,?_⟩
    rw [if_pos rfl]
    refine⟨a,_,rfl,.inl (.of ha),?_⟩
    by_cases h1:fe<=xs.length
    . rw [if_pos (by omega)]
      refine⟨a,_,rfl,.inl (.of ha),?_⟩
      have e:lo (some xs) fe mo=decide ((xs.length:Int)<=(mo:Int)):=by
        rw [Ge,decide_eq_true h1,Bool.true_and]
        exact decide_eq_decide.mpr (by omega)
      rw [<-e]
      exact k
    . rw [if_neg (by omega)]
      have e:lo (some xs) fe mo=false:=by
        rw [Ge,decide_eq_false h1,Bool.false_and]
      rw [e]at k
      exact k
  | @tup a xs ha=>
    refine⟨_,_,_,false,rfl,.tup ha,Aas,?_⟩
    rw [if_neg (by decide)]
    exact k
  | int i=>
    refine⟨_,_,_,false,rfl,.int _,Aa9,?_⟩
    rw [if_neg (by decide)]
    exact k
  | non=>
    refine⟨_,_,_,false,rfl,.non,Aav,?_⟩
    rw [if_neg (by decide)]
    exact k
abbrev Lr:=V × Option (List V)
inductive Rws (l:Addr->Prop) (H:Hp):V->Option (List Lr)->Prop where
  | lst {a:Addr}{es:List Lr} (n:l a) (h:H a=some (.lst (es.map (·.1)))) (al:∀e∈es,Lv l H e.1 e.2) (le:es.length<=20):Rws l H (.ref a) (some es)
  | no {v:V} (h:Lv l H v none):Rws l H v none
def lnO:Option (List V)->Nat
  | none=>0
  | some xs=>xs.length
def good:Option (List Lr)->Option (List V)->Bool
  | none,_=>false
  | some es,w=>decide (1<=es.length)&&decide (es.length<=6)&&es.all (fun e=>lo e.2 1 6)&&es.all (fun e=>decide (lnO e.2=(es.map fun e=>lnO e.2).getD 0 0))&&lo w es.length es.length
theorem Cj (es:List Lr) (w:Option (List V)):good (some es) w=(decide (1<=es.length)&&decide (es.length<=6)&&es.all (fun e=>lo e.2 1 6)&&es.all (fun e=>decide (lnO e.2=(es.map fun e=>lnO e.2).getD 0 0))&&lo w es.length es.length):=rfl
def Cv (K:PySem.W.Frag):Sp:=fun vs H Q E=>∃(l:Addr->Prop) (v w:V) (o:Option (List Lr)) (u:Option (List V)),vs=[v,w]/\Rws l H v o/\Lv l H w u/\(good o u=true->∀H',Same H H'->Q .non H')/\(good o u=false->∀H',Same H H'->E (.ref (cA K "NoShape")) none H')
theorem Yj {l:Addr->Prop}{H:Hp}{v:V}{xs:List V} (h:Lv l H v (some xs)):∃a,v= .ref a/\H a=some (.lst xs):=by
  cases h with
  | lst n h=>exact⟨_,rfl,h⟩
theorem Km {f:Addr}{fd:FuncData} (F:Df K mg "refuse_shapes" Bq ["rows","right"] f fd) (z_all:mg "all"=none) (z_len:mg "len"=none) (xc_MOST:∃u,mg "MOST"=some u/\RelV (V.int 6) u) (xk_NoShape:Q9 K (cA K "NoShape")) (xm_NoShape:mg "NoShape"=some (.ref (cA K "NoShape"))) (c_is_list_of:Cal P w K mg base 33 "is_list_of" ["thing","fewest","most"] (Hx K)):Q8 P w K mg base 34 "refuse_shapes" ["rows","right"] (Cv K):=by
  refine F.calE (F.fn.okE Kl (fun vs H Q E h=> ?_) (fun cdv A outer s H vs Q E hr h=> ?_))
  . obtain⟨l,v,w,o,u,rfl,_⟩:=h
    rfl
  obtain⟨l,v,w,o,u,rfl,hv,hw,k,kx⟩:=h
  refine S.Bf ⟨_,(S.Ad (S.Ei (S.Aaf (S.Zg (S.Mw (S.K6 (S.Ax c_is_list_of (hr.mono (by decide)) (S.Aa (S.pv 0) (S.Aa S.Ae (S.Aa (S.Ht (v:= .int 6) rfl xc_MOST) S.Ab)))))) (S.V0 (S.Mw (S.K6 (S.Br (Te rfl) rfl z_all PyProof.Rows.boot_all (S.Aa (S.Ck (ts:=["row"]) (fs:=[]) rfl (Am.of (sc:=Af Bq) (N:=["rows","right"]) rfl rfl (by decide+kernel)) (S.Bv (S.pv 0)) (fun _ _ _=>(S.Ah (i:=0) (show List.Nodup (["row"]:List Str)by decide+kernel) rfl (Or.inl rfl))) (fun _ _ _=>S.Bk) (fun _ _ _=>(S.Ax c_is_list_of (hr.mono (by decide)) (S.Aa (S.pv 0) (S.Aa S.Ae (S.Aa (S.Ht (v:= .int 6) rfl xc_MOST) S.Ab)))))) S.Ab))))))) (S.Ag (S.Cy xk_NoShape xm_NoShape (S.Aa S.Il S.Ab))) S.Bm)
      (S.Ad (S.Ei (S.Mw (S.K6 (S.Br (Te rfl) rfl z_all PyProof.Rows.boot_all (S.Aa (S.Ck (ts:=["row"]) (fs:=[(0,"rows")]) rfl (Am.of (sc:=Af Bq) (N:=["rows","right"]) rfl rfl (by decide+kernel)) (S.Bv (S.pv 0)) (fun _ _ _=>(S.Ah (i:=0) (show List.Nodup (["row","rows"]:List Str)by decide+kernel) rfl (Or.inl rfl))) (fun _ _ _=>S.Bk) (fun _ _ _=>(S.Fz Ik (S.Br (O9 K) rfl z_len PySem.boot_len (S.Aa (S.pv 0) S.Ab)) (S.Br (O9 K) rfl z_len PySem.boot_len (S.Aa (S.Bc (Ij K) (S.pv 1) S.Ae (fun _ _=>rfl)) S.Ab)) (Bh _)))) S.Ab)))) (S.Ag (S.Cy xk_NoShape xm_NoShape (S.Aa S.Il S.Ab))) S.Bm)
      (S.Ag (S.Ei (S.Mw (S.K6 (S.Ax c_is_list_of (hr.mono (by decide)) (S.Aa (S.pv 1) (S.Aa (S.Br Aj rfl z_len PySem.boot_len (S.Aa (S.pv 0) S.Ab)) (S.Aa (S.Br Aj rfl z_len PySem.boot_len (S.Aa (S.pv 0) S.Ab)) S.Ab)))))) (S.Ag (S.Cy xk_NoShape xm_NoShape (S.Aa S.Il S.Ab))) S.Bm)))),?_⟩
  simp only [Qo,Ja,Qa,Og,Jc,Qg,Fo,Ou,Jo,Jr,z_c,W5,Yq,Y8,Oh,Ym,Ph,Qv,Px,Q6,Gp,Yl,Q0,Oq,O8,Jt,J0,Qq,Qu,Yt,J2,O5,Kd,Yh,Jf,Pk,Ka,Y4,Qf,Qk,Gb,J6,Kf,Jl,Gh,Jp,Qs,O2,Qt,Pj,Yr,Du,Jx,Q5,Y5,Qe,Jh,Qz,Pg,Je,Ox,Jg,Jw,J4,Fj,Qn,Fy,J1,Kc,Jd,Fq,Ju,Fp,Pb,Jy,Qc,Ji,J8,Kh,Gd,Ec,Fv,Jq,Py,Jb,Jk,Fl,Kg,Zc,cpσ,List.getElem?_cons_zero,List.getElem?_cons_succ,Option.join_some,List.set_cons_zero,List.set_cons_succ,List.append_nil,decide_eq_true_eq,Bool.not_eq_true',decide_eq_false_iff_not,Bool.not_not,ite_not,Bool.false_eq_true,Bool.true_eq_false,if_false,if_true,if_pos,List.length_cons,List.length_nil,Nat.zero_add,Nat.reduceAdd,Jz,Ke,true_and,and_true,L2.start,List.map_cons,List.map_nil,Bool.not_true,Bool.not_false,Nat.reduceSub,List.replicate_succ,List.replicate_zero,List.cons_append,List.nil_append]
  cases hv with
  | no hv=>
    refine⟨l,v,none,1,6,rfl,hv,false,rfl,?_⟩
    rw [if_pos rfl]
    exact kx rfl _ (Same.refl _)
  | @lst a es na ha al le=>
  have lz:es.length<=sizeLine:=Nat.le_trans le (by decide)
  refine⟨l,.ref a,_,1,6,rfl,.lst na ha,_,rfl,?_⟩
  by_cases g0:lo (some (es.map (·.1))) 1 6=false
  . rw [if_pos g0]
    refine kx ?_ _ (Same.refl _)
    rw [Ge,List.length_map]at g0
    rw [Cj,g0]
    simp only [Bool.false_and]
  rw [if_neg g0]
  rw [Bool.not_eq_false]at g0
  have g01:(decide (1<=es.length)&&decide (es.length<=6))=true:=by
    rw [Ge,List.length_map]at g0
    exact g0
  have g1:1<=es.length:=by
    simp only [Bool.and_eq_true,decide_eq_true_eq]at g01
    exact g01.1
  refine⟨a,rfl,⟨_,.of ha⟩,fun p hp=>Nk (es:=es) (inj:=(·.1)) (fun e=> .bl (lo e.2 1 6)) lz hp (Hh (.of ha)) ?_ ?_⟩
  . intro e H2 R he s2 hR
    contradiction
    exact⟨l,e.1,e.2,1,6,rfl,(al e he).mono s2,hR _ (Same.refl _)⟩
  intro H2 s2 h2
  refine⟨p,es.map fun e=>lo e.2 1 6,rfl,.of (by rw [h2,List.map_map];rfl),?_⟩
  have ea:(es.map fun e=>lo e.2 1 6).all id=es.all (fun e=>lo e.2 1 6):=by rw [List.all_map];rfl
  rw [ea]
  cases g2:es.all (fun e=>lo e.2 1 6)with
  | false=>
    rw [if_pos rfl]
    refine kx ?_ _ s2
    rw [Cj,g2]
    simp only [Bool.and_false,Bool.false_and]
  | true=>
  rw [if_neg (by decide)]
  have isl:∀e∈es,∃xs,e.2=some xs:=fun e he=>by
    have:=List.all_eq_true.mp g2 e he
    cases e2:e.2 with
    | none=>rw [e2]at this;cases this
    | some xs=>exact⟨xs,rfl⟩
  have a2:=s2 _ _ ha
  obtain⟨e0,ee0⟩:∃e0,es[0]? =some e0:=⟨_,List.getElem?_eq_getElem (by omega)⟩
  have m0:=List.mem_of_getElem? ee0
  have n0:(es.map fun e=>lnO e.2).getD 0 0=lnO e0.2:=by
    rw [List.getD_eq_getElem?_getD,List.getElem?_map,ee0]
    rfl
  refine⟨a,rfl,⟨_,.of a2⟩,fun q hq=>Nk (es:=es) (inj:=(·.1)) (fun e=> .bl (decide (lnO e.2=(es.map fun e=>lnO e.2).getD 0 0))) lz hq (Hh (.of a2)) ?_ ?_⟩
  . intro e H3 R he s3 hR
    obtain⟨xs,ex⟩:=isl e he
    obtain⟨ys,ey⟩:=isl e0 m0
    have le:=(al e he).mono (s2.trans s3)
    have l0:=(al e0 m0).mono (s2.trans s3)
    rw [ex]at le
    rw [ey]at l0
    obtain⟨b,eb,hb⟩:=Yj le
    obtain⟨c,ec,hc⟩:=Yj l0
    contradiction
    refine⟨b,_,by rw [eb],.inl (.of hb),?_⟩
    refine Bw (.of (s3 _ _ a2)) (v:= .ref c) (Aw (j:=0) (by rw [List.getElem?_map,ee0,<-ec];rfl)) ?_
    try contradiction
    refine⟨c,_,rfl,.inl (.of hc),?_⟩
    rw [n0,ex,ey]at hR
    have e5:decide ((xs.length:Int)=(ys.length:Int))=decide (lnO (some xs)=lnO (some ys)):=decide_eq_decide.mpr (show(xs.length:Int)=(ys.length:Int)↔xs.length=ys.length by omega)
    rw [e5]
    exact hR _ (Same.refl _)
  intro H3 s3 h3
  refine⟨q,es.map fun e=>decide (lnO e.2=(es.map fun e=>lnO e.2).getD 0 0),rfl,.of (by rw [h3,List.map_map];rfl),?_⟩
  have eb:(es.map fun e=>decide (lnO e.2=(es.map fun e=>lnO e.2).getD 0 0)).all id=es.all (fun e=>decide (lnO e.2=(es.map fun e=>lnO e.2).getD 0 0)):=by rw [List.all_map];rfl
  rw [eb]
  have s23:=s2.trans s3
  cases g3:es.all (fun e=>decide (lnO e.2=(es.map fun e=>lnO e.2).getD 0 0))with
  | false=>
    rw [if_pos rfl]
    refine kx ?_ _ s23
    rw [Cj,g3]
    simp only [Bool.and_false,Bool.false_and]
  | true=>
  rw [if_neg (by decide)]
  have a3:=s3 _ _ a2
  refine⟨a,_,rfl,.inl (.of a3),a,_,rfl,.inl (.of a3),l,w,u,_,_,rfl,hw.mono s23,_,rfl,?_⟩
  rw [List.length_map]
  have gg:good (some es) u=lo u es.length es.length:=by
    rw [Cj,g01,g2,g3]
    rfl
  cases g4:lo u es.length es.length with
  | false=>
    rw [if_pos rfl]
    exact kx (by rw [gg,g4]) _ s23
  | true=>
    rw [if_neg (by decide)]
    exact k (by rw [gg,g4]) _ s23
theorem R0 {H1:Hp}{p:Addr}{cσ:St}{g:TG}{te:TE}{Q:VK}{α:Type}{es:List α}{inj:α->V}{J:It} (Pv:Nat->List V->Hp->Prop) (hz:es.length<=sizeLine) (h0:Pv 0 [] (upd H1 p (.lst []))) (hl:∀i acc H',Pv i acc H'->acc.length=i/\H' p=some (.lst acc)) (hJ:∀i acc H',Pv i acc H'->Aaj J H' es inj)
    (step:∀i e acc H' R,es[i]? =some e->Pv i acc H'->(∀v H6,H6 p=some (.lst acc)->Pv (i+1) (acc++ [v]) (upd H6 p (.lst (acc++ [v])))->R v H6)->g (inj e) cσ H' fun σ4 H4=>Kp cσ σ4/\te σ4 H4 R)
    (done:∀acc H',Pv es.length acc H'->Q (.ref p) H'):cIn J cσ g Fg te Q H1 p:=by
  refine⟨fun i m acc H'=>m=es.length-i/\i<=es.length/\Pv i acc H',⟨es.length,by simp,Nat.zero_le _,h0⟩,?_⟩
  rintro i m acc H' ⟨rfl,hi,pv⟩
  obtain⟨al,ap⟩:=hl _ _ _ pv
  cases he:es[i]? with
  | none=>
    have e:i=es.length:=Nat.le_antisymm hi (List.getElem?_eq_none_iff.mp he)
    exact .inl ⟨(hJ _ _ _ pv i).1 he,done acc _ (e▸pv)⟩
  | some e=>
    obtain⟨go,yl⟩:=(hJ _ _ _ pv i).2 e he
    refine .inr ⟨go,fun x H3 y=> ?_⟩
    obtain⟨rfl,rfl⟩:=yl x H3 y
    have hlt:=(List.getElem?_eq_some_iff.mp he).1
    have q:=step i e acc H3 (fun y H6=>H6 p=some (.lst acc)/\acc.length<sizeLine/\∃m',m'<es.length-i/\m'=es.length-(i+1)/\i+1<=es.length/\Pv (i+1) (acc++ [y]) (upd H6 p (.lst (acc++ [y])))) he pv fun v H6 h6 pv6=>⟨h6,by omega,_,by omega,rfl,hlt,pv6⟩
    have eq:∀(R:VK) (B:Hp->Prop),(fun σ4 H4=>Kp cσ σ4/\Fg σ4 H4 fun b H5=>if b=true then te σ4 H5 R else B H5)=(fun σ4 H4=>Kp cσ σ4/\te σ4 H4 R):=fun R B=>by
      funext σ4 H4
      simp only [Fg,if_pos]
    rw [eq]
    exact q
theorem Xe {t1 t2:Bool}{K:PySem.W.Frag}{a b:Addr}{xs ys:List V}{H1:Hp}{p:Addr}{cσ:St}{g:TG}{te:TE}{Q:VK} (n:Nat) (hn:n=min xs.length ys.length) (Pn:Nat->V->Hp->Prop) (hz:n<=sizeLine) (hp:H1 p=none)
    (wx:∀H',Same H1 H'->SqB t1 K H' a xs) (wy:∀H',Same H1 H'->SqB t2 K H' b ys)
    (hm:∀e v H H',Pn e v H->Same H H'->Pn e v H') (hu:∀e v H acc o,Pn e v H->H p=some (.lst acc)->Pn e v (upd H p o))
    (step:∀(i:Nat) (H':Hp) (q:Addr) (R:VK),i<n->Same H1 H'->H' q=some (.tup [xs.getD i .non,ys.getD i .non])->(∀v H6,Same H' H6->Pn i v H6->R v H6)->g (.ref q) cσ H' fun σ4 H4=>Kp cσ σ4/\te σ4 H4 R)
    (done:∀(ns:List V) H',ns.length=n->(∀(i:Nat) v,ns[i]? =some v->Pn i v H')->Same H1 H'->H' p=some (.lst ns)->Q (.ref p) H'):cIn (Zt t1 t2 K a b) cσ g Fg te Q H1 p:=by
  have su:∀ {H':Hp}{o:HO},Same H1 H'->Same H1 (upd H' p o):=fun {H' o} s b u e=>by
    rw [Al (Ai e hp)]
    exact s b u e
  refine⟨fun i m acc H'=>m=n-i/\i<=n/\(acc.length=i/\∀(j:Nat) v,acc[j]? =some v->Pn j v H')/\H' p=some (.lst acc)/\Same H1 H',⟨n,by simp,Nat.zero_le _,⟨rfl,fun j v h=>by simp at h⟩,Ac,su (Same.refl _)⟩,?_⟩
  rintro i m acc H' ⟨rfl,hi,⟨hl,hv⟩,hH,s⟩
  by_cases he:i=n
  . subst he
    exact .inl ⟨⟨xs,ys,wx _ s,wy _ s,by omega⟩,done acc _ hl hv s hH⟩
  . have hlt:i<n:=by omega
    have ex:xs[i]? =some (xs.getD i .non):=by rw [List.getD_eq_getElem?_getD,List.getElem?_eq_getElem (by omega)];rfl
    have ey:ys[i]? =some (ys.getD i .non):=by rw [List.getD_eq_getElem?_getD,List.getElem?_eq_getElem (by omega)];rfl
    refine .inr ⟨⟨xs,ys,_,_,wx _ s,wy _ s,ex,ey⟩,fun x H3 y=> ?_⟩
    obtain⟨q,u,v,hu',hv',hq,rfl,rfl⟩:=y
    have eu:=hu' _ (wx _ s)
    have ev:=hv' _ (wy _ s)
    rw [ex]at eu
    rw [ey]at ev
    cases eu
    cases ev
    have sq:=Same.upd hq (.tup [xs.getD i .non,ys.getD i .non])
    have q0:=step i (upd H' q (.tup [xs.getD i .non,ys.getD i .non])) q (fun y H6=>H6 p=some (.lst acc)/\acc.length<sizeLine/\∃m',m'<n-i/\m'=n-(i+1)/\i+1<=n/\((acc++ [y]).length=i+1/\∀(j:Nat) v,(acc++ [y])[j]? =some v->Pn j v (upd H6 p (.lst (acc++ [y]))))/\
        upd H6 p (.lst (acc++ [y])) p=some (.lst (acc++ [y]))/\Same H1 (upd H6 p (.lst (acc++ [y])))) hlt (s.trans sq) Ac
      (fun v H6 s6 pn=>⟨s6 _ _ (sq _ _ hH),by omega,_,by omega,rfl,hlt,⟨by rw [List.length_append,hl];rfl,fun j w h2=>by
        refine hu _ _ _ _ _ ?_ (s6 _ _ (sq _ _ hH))
        by_cases hj:j<acc.length
        . rw [List.getElem?_append_left hj]at h2
          exact hm _ _ _ _ (hm _ _ _ _ (hv j w h2) sq) s6
        . rw [List.getElem?_append_right (by omega)]at h2
          have hj0:j-acc.length=0:=by
            have:=(List.getElem?_eq_some_iff.mp h2).1
            simp at this
            omega
          rw [hj0]at h2
          have hji:j=i:=by omega
          subst hji
          cases h2
          exact pn⟩,Ac,su ((s.trans sq).trans s6)⟩)
    have eq:∀(R:VK) (B:Hp->Prop),(fun σ4 H4=>Kp cσ σ4/\Fg σ4 H4 fun b H5=>if b=true then te σ4 H5 R else B H5)=(fun σ4 H4=>Kp cσ σ4/\te σ4 H4 R):=fun R B=>by
      funext σ4 H4
      simp only [Fg,if_pos]
    rw [eq]
    exact q0
theorem Ql.keep {H:Hp}{a p:Addr}{es:List (V × Rat)}{acc:List V}{o:HO} (h:Ql K H a es) (hp:H p=some (.lst acc)) (n:a≠p):Ql K (upd H p o) a es:=⟨by rw [Al n];exact h.it,fun e he=>(h.al e he).put hp⟩
structure Bli (K:PySem.W.Frag) (H1 H':Hp) (p:Addr) (fr:List Nat) (W:Nat->List Rat->Prop) (i:Nat) (bs:List Qr):Prop where
  sm:Same H1 H'
  it:H' p=some (.lst (bs.map fun r=>V.ref r.1))
  ln:bs.length=i
  al:∀(k:Nat) r f,bs[k]? =some r->fr[k]? =some f->r.1≠p/\Ql K H' r.1 r.2/\W f (qv r.2)
theorem Bli.snoc {H1 H2 H3:Hp}{p:Addr}{fr:List Nat}{W:Nat->List Rat->Prop}{i f:Nat}{bs:List Qr}{x:Qr} (h:Bli K H1 H2 p fr W i bs) (np:H1 p=none) (s:Same H2 H3) (nx:H2 x.1=none) (hx:Ql K H3 x.1 x.2) (ef:fr[i]? =some f) (w:W f (qv x.2)):Bli K H1 (upd H3 p (.lst ((bs.map fun r=>V.ref r.1)++ [.ref x.1]))) p fr W (i+1) (bs++ [x]):=by
  have h3:=s _ _ h.it
  have xp:x.1≠p:=Ne.symm (Ai h.it nx)
  refine⟨(h.sm.trans s).put np,by rw [Ac,List.map_append];rfl,by rw [List.length_append,h.ln];rfl,fun k r f' hr hf=> ?_⟩
  by_cases hk:k<bs.length
  . rw [List.getElem?_append_left hk]at hr
    obtain⟨a,b,c⟩:=h.al k r f' hr hf
    exact⟨a,(b.mono s).keep h3 a,c⟩
  . rw [List.getElem?_append_right (by omega)]at hr
    have hk0:=(List.getElem?_eq_some_iff.mp hr).1
    rw [List.length_singleton]at hk0
    have e0:k-bs.length=0:=by omega
    rw [e0]at hr
    have e1:x=r:=by simpa using hr
    have e2:k=i:=by have:=h.ln;omega
    rw [e2,ef]at hf
    have e3:f=f':=by simpa using hf
    rw [<-e1,<-e3]
    exact⟨xp,hx.keep h3 xp,w⟩
theorem Vz {H H':Hp}{p:Addr} (s:Same H H') (h:H' p=none):H p=none:=by
  cases e:H p with
  | none=>rfl
  | some o=>exact absurd (s _ _ e) (by rw [h];simp)
theorem Vc {X:Cx} (K:PySem.W.Frag) (h:X.K=K:=by rfl):OpR X (compareOp .NotIn) (rIn K true):=by
  subst h
  exact Ow
theorem T5 {X:Cx} (K:PySem.W.Frag) (h:X.K=K:=by rfl):SlR X (Ab6 K):=by
  subst h
  exact Es
theorem Nm {xs:List V}{k:Nat} (h:k<=xs.length):Uq xs (some (k:Int)) none=xs.drop k:=by
  unfold Uq
  rw [HT.Tp,HT.W2,Nat.min_eq_left h,List.take_of_length_le (by rw [List.length_drop];exact Nat.le_refl _)]
theorem Wq {xs:List V}{k:Nat} (h:k<=xs.length):Uq xs none (some (k:Int))=xs.take k:=by
  unfold Uq
  rw [HT.Tp,HT.W2,Nat.min_eq_left h,List.drop_zero,Nat.sub_zero]
theorem Ni (ns:List Int) (lo hi:Option Int):∃ms:List Int,Uq (ns.map V.int) lo hi=ms.map V.int/\ms.length<=ns.length:=by
  unfold Uq
  refine⟨(ns.drop (HT.sIx (ns.map V.int).length 0 lo)).take (HT.sIx (ns.map V.int).length (ns.map V.int).length hi-HT.sIx (ns.map V.int).length 0 lo),by rw [List.map_take,List.map_drop],?_⟩
  rw [List.length_take,List.length_drop]
  omega
theorem Wd (n:Nat):∀ns:List Nat,inV (.int (n:Nat)) (nats ns)=ns.contains n
  | []=>rfl
  | m::ns=>by
    have ih:=Wd n ns
    unfold inV nats at ih ⊢
    rw [List.map_cons,List.any_cons,ih,List.contains_cons]
    by_cases h:m=n
    . subst h
      simp [eqV]
    . have h':¬n=m:=fun z=>h z.symm
      have b1:(((m:Nat):Int)==((n:Nat):Int))=false:=beq_eq_false_iff_ne.mpr (by omega)
      have b2:(n==m)=false:=beq_eq_false_iff_ne.mpr h'
      simp [eqV,b1,b2]
theorem Ot:∀ns:List Nat,(nats ns).all Mf=true
  | []=>rfl
  | m::ns=>by
    show(V.int (m:Nat)::nats ns).all Mf=true
    rw [List.all_cons,Ot ns]
    rfl
theorem Ack {H:Hp}{p:Addr}{u v x:V}{i j l:Nat}{σ:St}{Q:St->Hp->Prop} (h:SqT K H p [u,v,x]) (q:Q (((σ.set i (some u)).set j (some v)).set l (some x)) H):Zf K 3 (M8 (Gy i) (M8 (Gy j) (M8 (Gy l) Abg))) (.ref p) σ H Q:=⟨p,_,rfl,h,rfl,u,_,rfl,v,_,rfl,x,_,rfl,rfl,q⟩
theorem Mh {H:Hp}{Q:VK}{a:Addr}{xs:List V}{lo hi:Option Int} (h:SqL K H a xs) (k:∀p,H p=none->Q (.ref p) (upd H p (.lst (Uq xs lo hi)))):Ab6 K (.ref a) lo hi H Q:=⟨a,xs,rfl,h,k⟩
structure Told (K:PySem.W.Frag) (H':Hp) (z:Addr) (R:List (List Rat)) (b:List Rat) (u S:Nat) (ax af ab:Addr) (xs:List (V × Rat)) (fr:List Nat) (bs:List Qr):Prop where
  it:∃y:V,H' z=some (.tup [.str "all",.ref ax,.ref af,.ref ab,y])
  qx:Ql K H' ax xs
  fl:H' af=some (.lst (nats fr))
  qb:Qm K H' ab bs
  fu:fr.length<=u
  al:All R b u (qv xs) fr (bs.map fun r=>qv r.2)
  zx:∀e∈xs,Szq S e.2
  zb:∀r∈bs,∀e∈r.2,Szq S e.2
def Wb (cs:List Nat) (L:List Rw) (d:Int) (u f:Nat) (q:List Rat):Prop:=q.length=u/\(∀j,j<u->j∉cs->qf q j=if j=f then 1 else 0)/\∀(k:Nat) x r,L[k]? =some r->cs[k]? =some x->qf q x=Rat.divInt (-(rf r.2 f)) d
theorem Abr (u j:Nat):qf (List.replicate u 0) j=0:=by
  unfold qf
  rw [List.getD_eq_getElem?_getD,List.getElem?_replicate]
  split<;>rfl
theorem Aai {S:Nat} (h:0<S):Szq S 0:=⟨Nat.two_pow_pos _,Nat.one_lt_two_pow (by omega)⟩
theorem Adk {S:Nat} (h:0<S):Szq S 1:=⟨Nat.one_lt_two_pow (by omega),Nat.one_lt_two_pow (by omega)⟩
theorem Wy {es:List (V × Rat)}{cs:List Nat}{u S:Nat} (hl:(qv es).length=u) (h0:∀j,j<u->j∉cs->Szq S (qf (qv es) j)) (h1:∀(k c:Nat),cs[k]? =some c->Szq S (qf (qv es) c)):∀e∈es,Szq S e.2:=fun e he=>by
  obtain⟨j,hj⟩:=List.getElem?_of_mem he
  have jl:=(List.getElem?_eq_some_iff.mp hj).1
  rw [List.length_map]at hl
  have e1:qf (qv es) j=e.2:=by
    unfold qf
    rw [List.getD_eq_getElem?_getD,List.getElem?_map,hj]
    rfl
  rw [<-e1]
  by_cases hc:j∈cs
  . obtain⟨k,hk⟩:=List.getElem?_of_mem hc
    exact h1 k j hk
  . exact h0 j (by omega) hc
def Ho (K:PySem.W.Frag):Sp:=fun vs H Q _=>∃(a b:Addr) (rs:List Qr) (es:List (V × Rat)) (u n:Nat),vs=[.ref a,.ref b]/\Qm K H a rs/\Ql K H b es/\es.length=rs.length/\1<=rs.length/\rs.length<=6/\1<=u/\u<=6/\(∀r∈rs,r.2.length=u/\∀e∈r.2,Szq n e.2)/\(∀e∈es,Szq n e.2)/\n<=9000/\
  (∀z H' (y:V),Same H H'->H' z=some (.tup [.str "none",y])->(∀q:List Rat,q.length=u->(rs.map fun r=>qv r.2).map (dq · q)≠qv es)->Q (.ref z) H')/\
  (∀z H' ax af ab xs fr bs,H af=none->Same H H'->Told K H' z (rs.map fun r=>qv r.2) (qv es) u ((n*11+2)*2^u) ax af ab xs fr bs->Q (.ref z) H')
def Ir (K:PySem.W.Frag):Sp:=fun vs H Q E=>(∃(l:Addr->Prop) (v w:V) (o:Option (List Lr)) (u:Option (List V)),vs=[v,w]/\Rws l H v o/\Lv l H w u/\good o u=false/\∀H',Same H H'->E (.ref (cA K "NoShape")) none H')\/Ho K vs H Q E
theorem Ro (K:PySem.W.Frag):∀vs H Q E,Ho K vs H Q E->Ir K vs H Q E0:=fun _ _ _ _ h=> .inr h
theorem Zz {H:Hp}{a b:Addr}{rs:List Qr}{es:List (V × Rat)}{u:Nat} (hm:Qm K H a rs) (hb:Ql K H b es) (el:es.length=rs.length) (r1:1<=rs.length) (r6:rs.length<=6) (u1:1<=u) (u6:u<=6) (hs:∀r∈rs,r.2.length=u):∃l o w,Rws l H (.ref a) o/\Lv l H (.ref b) w/\good o w=true:=by
  refine⟨fun _=>True,some (rs.map fun r=>(V.ref r.1,some (r.2.map (·.1)))),some (es.map (·.1)),.lst trivial ?_ ?_ ?_,.lst trivial hb.it,?_⟩
  . rw [List.map_map]
    exact hm.it
  . intro e he
    obtain⟨r,hr,rfl⟩:=List.mem_map.mp he
    exact .lst trivial (hm.al r hr).it
  . rw [List.length_map]
    omega
  . rw [Cj,Ge]
    simp only [List.length_map,Bool.and_eq_true,decide_eq_true_eq,List.all_eq_true]
    refine⟨⟨⟨⟨r1,r6⟩,fun e he=> ?_⟩,fun e he=> ?_⟩,?_,?_⟩
    . obtain⟨r,hr,rfl⟩:=List.mem_map.mp he
      rw [Ge]
      simp only [List.length_map,hs r hr,Bool.and_eq_true,decide_eq_true_eq]
      exact⟨u1,u6⟩
    . obtain⟨r,hr,rfl⟩:=List.mem_map.mp he
      obtain⟨r0,er0⟩:∃r0,rs[0]? =some r0:=⟨_,List.getElem?_eq_getElem (by omega)⟩
      rw [List.map_map,List.getD_eq_getElem?_getD,List.getElem?_map,er0]
      show(r.2.map (·.1)).length=(r0.2.map (·.1)).length
      rw [List.length_map,List.length_map,hs r hr,hs r0 (List.mem_of_getElem? er0)]
    . omega
    . omega
theorem Vs {f:Addr}{fd:FuncData} (F:Df K mg "solved" Gm ["rows","right"] f fd) (z_len:mg "len"=none) (z_zip:mg "zip"=none) (z_range:mg "range"=none) (xm_NOUGHT:mg "NOUGHT"=some (.ref (cA K "NOUGHT"))) (xt_NOUGHT:Xh K (cA K "NOUGHT") [.int 0,.int 1]) (ce_refuse_shapes:Q8 P w K mg base 34 "refuse_shapes" ["rows","right"] (Cv K)) (c_reduced_rows:Cal P w K mg base 34 "reduced_rows" ["rows","unknowns"] (Fw K)) (c_whole_rows:Cal P w K mg base 34 "whole_rows" ["rows","right"] (Hv K)) (c_fraction:Cal P w K mg base 34 "fraction" ["top","bottom"] (Ew K)) (c_base_of:Cal P w K mg base 35 "base_of" ["here","led","reduced","lead","unknowns"] (M6 K)) (c_fractions:Cal P w K mg base 35 "fractions" ["tops","bottom"] (Jj K)):Q8 P w K mg base 36 "solved" ["rows","right"] (Ir K):=by
  refine F.calE (F.fn.okE Bp (fun vs H Q E h=> ?_) (fun cdv A outer s H vs Q E hr h=> ?_))
  . rcases h with⟨l,v,w,o,u,rfl,_⟩ | ⟨a,b,rs,es,u,n,rfl,_⟩<;>rfl
  refine S.Bf ⟨_,(S.Ad (S.Dh (S.Dw ce_refuse_shapes (hr.mono (by decide)) (S.Aa (S.pv 0) (S.Aa (S.pv 1) S.Ab))))
      (S.Ad (S.Ao (i:=2) Bp.nd rfl (Or.inr rfl) (S.Br Aj rfl z_len PySem.boot_len (S.Aa (S.Bc Az (S.pv 0) S.Ae (fun _ _=>rfl)) S.Ab)))
      (S.Ad (S.Dj (S.Ax c_reduced_rows (hr.mono (by decide)) (S.Aa (S.Ax c_whole_rows (hr.mono (by decide)) (S.Aa (S.pv 0) (S.Aa (S.pv 1) S.Ab))) (S.Aa (S.pv 2) S.Ab))) (S.Ds rfl (S.Ar (S.Ah (i:=7) Bp.nd rfl (Or.inr rfl)) (S.Ar (S.Ah (i:=8) Bp.nd rfl (Or.inr rfl)) (S.Ar (S.Ah (i:=9) Bp.nd rfl (Or.inr rfl)) S.Cu)))))
      (S.Ad (S.Yp (S.Dk PassesOwn.never rfl (S.Bv (S.Cd Es (S.pv 8) (S.Cr (S.Br Aj rfl z_len PySem.boot_len (S.Aa (S.pv 7) S.Ab))) S.Dn)) (S.Ah (i:=3) Bp.nd rfl (Or.inl rfl)) (S.Ag (S.Ei (S.Ba Xo (S.Bc Az (S.pv 3) (S.pv 2) (fun _ _=>rfl)) S.Ae (Bh _)) (S.Ag (S.Ay (S.Bb (S.Aa S.Il (S.Aa (S.Ax c_fractions (hr.mono (by decide)) (S.Aa (S.Cd (T5 K) (S.pv 3) (S.Cr (S.Ak Dg (S.pv 2) S.Ae)) S.Dn) (S.Aa (S.Bc Az (S.pv 3) (S.pv 2) (fun _ _=>rfl)) S.Ab))) S.Ab))))) S.Bm))))
      (S.Ad (S.Di (ts:=["place"]) (fs:=[(7,"led")]) rfl (Am.of (sc:=Af Gm) (N:=["rows","right","unknowns","row","free","x","base","led","reduced","lead","place"]) rfl rfl (by decide+kernel)) (S.Bj rfl z_range (S.Aa (S.pv 2) S.Ab)) (fun _ _ _=>(S.Ah (i:=0) (show List.Nodup (["place","led"]:List Str)by decide+kernel) rfl (Or.inl rfl))) (fun _ _ _=>(S.Oe (S.Ba (Vc K) (S.pv 0) (S.pv 1) rfl))) (fun _ _ _=>(S.pv 0)) (S.Ah (i:=4) Bp.nd rfl (Or.inl rfl)))
      (S.Ad (S.Ao (i:=5) Bp.nd rfl (Or.inl rfl) (S.Ak Ms (S.Bg (S.Aa (S.Ed (v:= .ref (cA K "NOUGHT")) rfl xm_NOUGHT rfl) S.Ab)) (S.pv 2)))
      (S.Ad (S.Yp (S.Dk PassesOwn.never rfl (S.Eo false false rfl z_zip (S.Aa (S.pv 7) (S.Aa (S.pv 8) S.Ab))) (S.Ds rfl (S.Ar (S.Ah (i:=10) Bp.nd rfl (Or.inl rfl)) (S.Ar (S.Ah (i:=3) Bp.nd rfl (Or.inl rfl)) S.Cu))) (S.Ag (S.Dj (S.Ax c_fraction (hr.mono (by decide)) (S.Aa (S.Bc Az (S.pv 3) (S.pv 2) (fun _ _=>rfl)) (S.Aa (S.pv 9) S.Ab))) (S.Gs (S.pv 5) (S.pv 10) set_list)))))
      (S.Ad (S.Di (ts:=["place"]) (fs:=[(7,"led"),(8,"reduced"),(9,"lead"),(2,"unknowns")]) rfl (Am.of (sc:=Af Gm) (N:=["rows","right","unknowns","row","free","x","base","led","reduced","lead","place"]) rfl rfl (by decide+kernel)) (S.Bv (S.pv 4)) (fun _ _ _=>(S.Ah (i:=0) (show List.Nodup (["place","led","reduced","lead","unknowns"]:List Str)by decide+kernel) rfl (Or.inl rfl))) (fun _ _ _=>S.Bk) (fun _ _ _=>(S.Ax c_base_of (hr.mono (by decide)) (S.Aa (S.pv 0) (S.Aa (S.pv 1) (S.Aa (S.pv 2) (S.Aa (S.pv 3) (S.Aa (S.pv 4) S.Ab))))))) (S.Ah (i:=6) Bp.nd rfl (Or.inl rfl)))
      (S.Ag (S.Ay (S.Bb (S.Aa S.Il (S.Aa (S.pv 5) (S.Aa (S.pv 4) (S.Aa (S.pv 6) (S.Aa (S.Ck (ts:=["row"]) (fs:=[(9,"lead"),(2,"unknowns")]) rfl (Am.of (sc:=Af Gm) (N:=["rows","right","unknowns","row","free","x","base","led","reduced","lead","place"]) rfl rfl (by decide+kernel)) (S.Bv (S.Cd Es (S.pv 8) S.Dn (S.Cr (S.Br Aj rfl z_len PySem.boot_len (S.Aa (S.pv 7) S.Ab))))) (fun _ _ _=>(S.Ah (i:=0) (show List.Nodup (["row","lead","unknowns"]:List Str)by decide+kernel) rfl (Or.inl rfl))) (fun _ _ _=>S.Bk) (fun _ _ _=>(S.Ax c_fractions (hr.mono (by decide)) (S.Aa (S.Cd (T5 K) (S.pv 0) (S.Cr (S.Ak Dg (S.pv 2) S.Ae)) S.Dn) (S.Aa (S.pv 1) S.Ab))))) S.Ab)))))))))))))))),?_⟩
  rcases h with⟨l,v,w,o,u,rfl,h1,h2,g,kx⟩ | h
  . simp only [Qo,Ja,Qa,Og,Jc,Qg,Fo,Ou,Jo,Jr,z_c,W5,Yq,Y8,Oh,Ym,Ph,Qv,Px,Q6,Gp,Yl,Q0,Oq,O8,Jt,J0,Qq,Qu,Yt,J2,O5,Kd,Yh,Jf,Pk,Ka,Y4,Qf,Qk,Gb,J6,Kf,Jl,Gh,Jp,Qs,O2,Qt,Pj,Yr,Du,Jx,Q5,Y5,Qe,Jh,Qz,Pg,Je,Ox,Jg,Jw,J4,Fj,Qn,Fy,J1,Kc,Jd,Fq,Ju,Fp,Pb,Jy,Qc,Ji,J8,Kh,Gd,Ec,Fv,Jq,Py,Jb,Jk,Fl,Kg,Zc,cpσ,List.getElem?_cons_zero,List.getElem?_cons_succ,Option.join_some,List.set_cons_zero,List.set_cons_succ,List.append_nil,decide_eq_true_eq,Bool.not_eq_true',decide_eq_false_iff_not,Bool.not_not,ite_not,Bool.false_eq_true,Bool.true_eq_false,if_false,if_true,if_pos,List.length_cons,List.length_nil,Nat.zero_add,Nat.reduceAdd,Jz,Ke,true_and,and_true,L2.start,List.map_cons,List.map_nil,Bool.not_true,Bool.not_false,Nat.reduceSub,List.replicate_succ,List.replicate_zero,List.cons_append,List.nil_append]
    exact⟨l,v,w,o,u,rfl,h1,h2,fun z=>(by rw [g]at z;cases z),fun _=>kx⟩
  obtain⟨a,b,rs,es,u,n,rfl,hm,hb,el,r1,r6,u1,u6,hs,hs2,hn,kn,ka⟩:=h
  simp only [Qo,Ja,Qa,Og,Jc,Qg,Fo,Ou,Jo,Jr,z_c,W5,Yq,Y8,Oh,Ym,Ph,Qv,Px,Q6,Gp,Yl,Q0,Oq,O8,Jt,J0,Qq,Qu,Yt,J2,O5,Kd,Yh,Jf,Pk,Ka,Y4,Qf,Qk,Gb,J6,Kf,Jl,Gh,Jp,Qs,O2,Qt,Pj,Yr,Du,Jx,Q5,Y5,Qe,Jh,Qz,Pg,Je,Ox,Jg,Jw,J4,Fj,Qn,Fy,J1,Kc,Jd,Fq,Ju,Fp,Pb,Jy,Qc,Ji,J8,Kh,Gd,Ec,Fv,Jq,Py,Jb,Jk,Fl,Kg,Zc,cpσ,List.getElem?_cons_zero,List.getElem?_cons_succ,Option.join_some,List.set_cons_zero,List.set_cons_succ,List.append_nil,decide_eq_true_eq,Bool.not_eq_true',decide_eq_false_iff_not,Bool.not_not,ite_not,Bool.false_eq_true,Bool.true_eq_false,if_false,if_true,if_pos,List.length_cons,List.length_nil,Nat.zero_add,Nat.reduceAdd,Jz,Ke,true_and,and_true,L2.start,List.map_cons,List.map_nil,Bool.not_true,Bool.not_false,Nat.reduceSub,List.replicate_succ,List.replicate_zero,List.cons_append,List.nil_append]
  obtain⟨l0,o0,w0,h1,h2,g⟩:=Zz hm hb el r1 r6 u1 u6 fun r hr=>(hs r hr).1
  refine⟨l0,.ref a,.ref b,o0,w0,rfl,h1,h2,fun _ H1 s1=> ?_,fun z=>by rw [g]at z;cases z⟩
  try contradiction
  obtain⟨r0,er0⟩:∃r0,rs[0]? =some r0:=⟨_,List.getElem?_eq_getElem (by omega)⟩
  have rm0:=List.mem_of_getElem? er0
  have hm1:=hm.mono s1
  refine Bw (.of hm1.it) (v:= .ref r0.1) (Aw (j:=0) (by rw [List.getElem?_map,er0];rfl)) ?_
  try contradiction
  refine⟨r0.1,_,rfl,.inl (.of (hm1.al r0 rm0).it),?_⟩
  rw [List.length_map,(hs r0 rm0).1]
  refine⟨a,b,rs,es,u,n,rfl,hm1,hb.mono s1,el,r6,u6,hs,hs2,by omega,fun w0 L0 H2 s2 m2 z2 wh=> ?_⟩
  have l0:L0.length=rs.length:=by simpa using wh.lm
  refine⟨w0,L0,u,u+1+rs.length,n*11+1,rfl,m2,by omega,by omega,u6,by omega,by omega,z2,by omega,fun z l m d cs L H3 s3 hz hl m3 rd cu=> ?_⟩
  refine Ack (.of hz) ?_
  have s03:=s1.trans (s2.trans s3)
  have lL:L.length=rs.length:=by
    have:=rd.ll
    rw [List.length_map,List.length_map]at this
    omega
  have cL:cs.length<=L.length:=by simpa using rd.kl
  have LN:∀r∈L,r.2.length=u+1+rs.length:=fun r hr=>rd.ln _ (List.mem_map.mpr ⟨r,hr,rfl⟩)
  have gL:∀ {j:Nat}{r:Rw},L[j]? =some r->(L.map (·.2))[j]? =some r.2:=fun {j r} h=>by rw [List.getElem?_map,h];rfl
  have ncs:(nats cs).length=cs.length:=List.length_map _
  clear hz
  contradiction
  refine⟨l,_,rfl,.inl (.of hl),Mh (.of m3.it) fun p hp=> ?_⟩
  rw [ncs,Nm (by rw [List.length_map];exact cL),<-List.map_drop]
  have t4:=Same.upd hp (.lst ((L.drop cs.length).map fun r=>V.ref r.1))
  refine⟨p,rfl,⟨_,.of Ac⟩,Ul (es:=L.drop cs.length) (inj:=fun r=>V.ref r.1) (fun pre σ' H'=>∃o3:Option V,σ'=[some (.ref a),some (.ref b),some (.int (u:Nat)),o3,none,none,none,some (.ref l),some (.ref m),some (.int d),none]/\Eqh (upd H3 p (.lst ((L.drop cs.length).map fun r=>V.ref r.1))) H'/\∀r∈pre,rf r.2 u=0) ⟨_,rfl,⟨rfl⟩,by simp⟩ ?_ ?_ ?_⟩
  . rintro pre σ' H' ⟨o3,rfl,⟨rfl⟩,_⟩
    exact Dd (.of Ac)
  . rintro pre e post σ' H' hE ⟨o3,rfl,⟨rfl⟩,hz⟩
    have ed:e∈L.drop cs.length:=by rw [hE];simp
    obtain⟨j,hj⟩:=List.getElem?_of_mem ed
    rw [List.getElem?_drop]at hj
    have em:=List.mem_of_getElem? hj
    have ge:=t4 _ _ (m3.al e em)
    contradiction
    refine Bw (.of ge) (v:= .int (rf e.2 u)) (Aw (Xm (by rw [LN e em];omega))) ?_
    try contradiction
    by_cases h0:rf e.2 u=0
    . rw [if_pos h0]
      refine⟨_,rfl,⟨rfl⟩,fun r hr'=> ?_⟩
      rcases List.mem_append.mp hr' with h | h
      . exact hz r h
      . have e1:r=e:=by simpa using h
        rw [e1]
        exact h0
    . rw [if_neg h0]
      refine Mh (.of ge) fun q hq=> ?_
      obtain⟨ms,em',ml⟩:=Ni e.2 (some ((u:Nat)+1)) none
      rw [em']
      have t5:=Same.upd hq (.lst (ms.map V.int))
      refine Bw (.of (t5 _ _ ge)) (v:= .int (rf e.2 u)) (Aw (Xm (by rw [LN e em];omega))) ?_
      have:=LN e em
      refine⟨q,ms,_,rfl,Ac,by omega,h0,fun y es' H6 _ s6 _ _ z6 hz6=>kn z6 _ _ (s03.trans (t4.trans (t5.trans (s6.trans (Same.upd hz6 _))))) Ac fun zz hzz hs'=> ?_⟩
      exact rd.none (i:=cs.length+j) (by omega) (gL hj) h0 (qf zz) ((wh.sol hzz).mpr hs')
  . rintro σ' H' ⟨o3,rfl,⟨rfl⟩,hz⟩
    have lo:∀(i:Nat) r,cs.length<=i->(L.map (·.2))[i]? =some r->rf r u=0:=fun i r hi er=>by
      rw [List.getElem?_map]at er
      cases e:L[i]? with
      | none=>rw [e]at er;cases er
      | some r'=>
        rw [e]at er
        cases er
        refine hz r' (List.mem_of_getElem? (i:=i-cs.length) ?_)
        rw [List.getElem?_drop,show cs.length+(i-cs.length)=i by omega]
        exact e
    contradiction
    generalize upd H3 p (.lst ((L.drop cs.length).map fun r=>V.ref r.1))=H4 at t4
    refine⟨by omega,by omega,fun pf hpf=> ?_⟩
    rw [Int.toNat_natCast]
    refine Mp (es:=List.range u) (inj:=fun j=> .int (0+(j:Nat))) (fun j=> !(cs.contains j)) (fun j=> .int (0+(j:Nat))) (by rw [List.length_range];exact Nat.le_trans u6 (by decide)) hpf Dz ?_ ?_
    . intro j H5 R RF hj s5 hR hF
      rw [Int.zero_add]at hR ⊢
      contradiction
      refine⟨l,_,rfl,.inl (.of (s5 _ _ (t4 _ _ hl))),rfl,Ot cs,?_⟩
      rw [Wd]
      refine⟨_,rfl,?_⟩
      rw [if_pos rfl]
      cases hc: !cs.contains j with
      | true=>
        rw [if_pos rfl]
        exact hR hc _ (Same.refl _)
      | false=>
        rw [if_neg (by decide)]
        exact hF hc _ (Same.refl _)
    intro H5 s5 h5
    have h5':H5 pf=some (.lst (nats (frees cs u))):=by
      rw [h5]
      unfold nats frees
      simp only [Int.zero_add]
    try contradiction
    intro pn hpn
    have t6:=Same.upd hpn (.lst [.ref (cA K "NOUGHT")])
    refine⟨pn,_,_,rfl,rfl,Ac,by omega,by omega,by rw [List.length_singleton,Int.toNat_natCast];exact Nat.le_trans (show 1*u<=6 by omega) (by decide),fun px hpx=> ?_⟩
    rw [Int.toNat_natCast,List.flatten_replicate_singleton]
    have t7:=Same.upd hpx (.lst (List.replicate u (V.ref (cA K "NOUGHT"))))
    have s47:=s5.trans (t6.trans t7)
    have qx0:Ql K (upd (upd H5 pn (.lst [.ref (cA K "NOUGHT")])) px (.lst (List.replicate u (V.ref (cA K "NOUGHT"))))) px (List.replicate u (V.ref (cA K "NOUGHT"),(0:Rat))):=⟨by rw [Ac,List.map_replicate],fun e he=>by rw [List.eq_of_mem_replicate he];exact Adh xt_NOUGHT⟩
    have h7:=(t6.trans t7) _ _ h5'
    generalize upd H5 pn (.lst [.ref (cA K "NOUGHT")])=H6 at t6 t7 hpx qx0 s47 h7
    generalize upd H6 px (.lst (List.replicate u (V.ref (cA K "NOUGHT"))))=H7 at t7 qx0 s47 h7
    have s37:=t4.trans s47
    have x0e:qv (List.replicate u (V.ref (cA K "NOUGHT"),(0:Rat)))=List.replicate u 0:=List.map_replicate
    have s36:=t4.trans (s5.trans t6)
    have gl:=s36 _ _ hl
    have gm:=m3.mono s36
    refine⟨l,m,rfl,⟨_,show SqL K H7 l _ from .of (t7 _ _ gl)⟩,⟨_,show SqL K H7 m _ from .of (t7 _ _ gm.it)⟩,Rh (xs:=nats cs) (ys:=L.map fun r=>V.ref r.1) cs.length (by rw [ncs,List.length_map];omega) (fun i σ' H'=>∃o3 o10:Option V,σ'=[some (.ref a),some (.ref b),some (.int (u:Nat)),o3,some (.ref pf),some (.ref px),none,some (.ref l),some (.ref m),some (.int d),o10]/\Bsi K H6 H' px (List.replicate u 0) (fun k=>Rat.divInt (rf (rowAt L k) u) d) cs i) ⟨_,_,rfl,t7,_,qx0,by rw [x0e];exact Sti.start _ _ _⟩ ?_ ?_ ?_⟩
    . rintro i σ' H' ⟨o3,o10,rfl,bi⟩
      exact⟨show SqL K H' l _ from .of (bi.sm _ _ gl),show SqL K H' m _ from .of (bi.sm _ _ gm.it)⟩
    . rintro i σ' H8 c hi ⟨o3,o10,rfl,bi⟩ hc
      obtain⟨es8,ql,st⟩:=bi.ex
      have sb:=Same.upd hc (.tup [(nats cs).getD i .non,(L.map fun r=>V.ref r.1).getD i .non])
      obtain⟨x,ex⟩:∃x,cs[i]? =some x:=⟨_,List.getElem?_eq_getElem hi⟩
      obtain⟨r,er⟩:∃r,L[i]? =some r:=⟨_,List.getElem?_eq_getElem (by omega)⟩
      have rm:=List.mem_of_getElem? er
      have v1:(nats cs).getD i .non= .int (x:Nat):=by rw [List.getD_eq_getElem?_getD,S9 ex];rfl
      have v2:(L.map fun r=>V.ref r.1).getD i .non= .ref r.1:=by rw [List.getD_eq_getElem?_getD,List.getElem?_map,er];rfl
      rw [v1,v2]at sb
      rw [v1,v2]
      refine Gv (.of Ac) ?_
      generalize upd H8 c (.tup [V.int (x:Nat),.ref r.1])=H9 at sb
      contradiction
      refine Bw (.of ((bi.sm.trans sb) _ _ (gm.al r rm))) (v:= .int (rf r.2 u)) (Aw (Xm (by rw [LN r rm];omega))) ?_
      try contradiction
      refine⟨_,_,rfl,rd.d0,fun v H4 s4 h4=> ?_⟩
      try contradiction
      have ql4:=ql.mono (sb.trans s4)
      have xu:=rd.lt x (List.mem_of_getElem? ex)
      have x0l:(List.replicate u (0:Rat)).length=u:=List.length_replicate
      refine Rf (j:=x) ql4.it (by rw [List.length_map];have:=st.ln;rw [List.length_map]at this;omega) ?_
      refine⟨_,_,rfl,Bsi.step (H1:=H) (bi.sm.trans (sb.trans s4)) hpx ql4 st rd.inc ex (by omega) ?_⟩
      rw [Eu er]
      exact h4
    rintro σ' H8 ⟨o3',o10,rfl,bi⟩
    obtain⟨xs,ql,st⟩:=bi.ex
    obtain⟨a1,a2⟩:=st.done rfl
    have gl8:=bi.sm _ _ gl
    have gm8:=gm.mono bi.sm
    have hf8:H8 pf=some (.lst (nats (frees cs u))):=bi.sm _ _ (t6 _ _ h5')
    contradiction
    have fl:(frees cs u).length<=u:=by
      unfold frees
      have:=List.length_filter_le (fun j=> !(cs.contains j)) (List.range u)
      rw [List.length_range]at this
      exact this
    refine⟨⟨_,.of hf8⟩,fun pb hpb=>R0 (es:=frees cs u) (inj:=fun c:Nat=>V.int (c:Nat)) (fun i acc H'=>∃bs:List Qr,acc=bs.map (fun r=>V.ref r.1)/\Bli K H8 H' pb (frees cs u) (Wb cs L d u) i bs) (Nat.le_trans fl (Nat.le_trans u6 (by decide))) ⟨[],rfl,Same.upd hpb _,Ac,rfl,by simp⟩ ?_ ?_ ?_ ?_⟩
    . rintro i acc H' ⟨bs,rfl,bl⟩
      exact⟨by rw [List.length_map];exact bl.ln,bl.it⟩
    . rintro i acc H' ⟨bs,rfl,bl⟩
      exact Dd (.of (bl.sm _ _ hf8))
    . rintro i c acc H9 R ec ⟨bs,rfl,bl⟩ hR
      have cm:=Ii.mp (List.mem_of_getElem? ec)
      contradiction
      refine⟨c,u,u+1+rs.length,l,m,cs,L,d,rfl,by omega,by omega,bl.sm _ _ gl8,gm8.mono bl.sm,LN,cL,rd.inc,rd.lt,rd.d0,fun y ey H10 ny s10 qy ly w1 w2=> ?_⟩
      exact hR _ _ (s10 _ _ bl.it) ⟨bs++ [(y,ey)],by rw [List.map_append];rfl,bl.snoc (x:=(y,ey)) hpb s10 ny qy ec ⟨by rw [List.length_map];exact ly,w1,w2⟩⟩
    rintro acc H9 ⟨bs,rfl,bl⟩
    try contradiction
    have s69:=bi.sm.trans bl.sm
    have s09:=s03.trans (s36.trans s69)
    have gm9:=gm.mono s69
    refine⟨l,_,rfl,.inl (.of (s69 _ _ gl)),Mh (.of gm9.it) fun pt hpt=> ?_⟩
    rw [ncs,Wq (by rw [List.length_map];exact cL),<-List.map_take]
    have t10:=Same.upd hpt (.lst ((L.take cs.length).map fun r=>V.ref r.1))
    refine⟨pt,rfl,⟨_,.of Ac⟩,fun py hpy=>G6 (es:=L.take cs.length) (inj:=fun r=>V.ref r.1) (fun _ _ _=>True) (Nat.le_trans (List.length_take_le _ _) (Nat.le_trans (show cs.length<=6 by omega) (by decide))) hpy (Hh (.of Ac)) (fun _ _ _ _ _ _=>trivial) (fun _ _ _ _ _ _ _=>trivial) ?_ ?_⟩
    . intro e H11 R he s11 hR
      have em:=List.mem_of_mem_take he
      have ge:=s11 _ _ (t10 _ _ (gm9.al e em))
      contradiction
      refine Mh (.of ge) fun q hq=> ?_
      obtain⟨ms,em',ml⟩:=Ni e.2 (some ((u:Nat)+1)) none
      rw [em']
      have:=LN e em
      exact⟨q,ms,_,rfl,Ac,by omega,rd.d0,fun y es' H6 _ s6 _ _=>hR _ _ ((Same.upd hq _).trans s6) trivial⟩
    intro ns H11 _ _ s11 _
    refine⟨by decide,fun z' hz'=> ?_⟩
    have sE:=t10.trans (s11.trans (Same.upd hz' (.tup [.str "all",.ref px,.ref pf,.ref pb,.ref py])))
    have bw:∀(k:Nat) r f,bs[k]? =some r->(frees cs u)[k]? =some f->Wb cs L d u f (qv r.2):=fun k r f h1 h2=>(bl.al k r f h1 h2).2.2
    have bn:bs.length=(frees cs u).length:=bl.ln
    have xl:(qv xs).length=u:=by have:=st.ln;rw [List.length_replicate]at this;exact this
    have x0:∀j,j∉cs->qf (qv xs) j=0:=fun j hj=>by rw [a1 j hj,Abr]
    have S0:∀(k:Nat) r,L[k]? =some r->∀j,Sz ((n*11+2)*2^u) (rf r.2 j):=fun k r er j=>by
      have h1:Sz ((n*11+1+1)*2^cs.length-1) (rf r.2 j):=rd.sz r.2 (List.mem_map.mpr ⟨r,List.mem_of_getElem? er,rfl⟩) j
      refine h1.mono ?_
      exact Nat.le_trans (Nat.sub_le _ _) (Nat.mul_le_mul_left (n*11+2) (Nat.pow_le_pow_right (show 0<2 by decide) cu))
    have Sd:∀(k:Nat) c r,L[k]? =some r->cs[k]? =some c->Sz ((n*11+2)*2^u) d:=fun k c r er ec=>by
      rw [<-(rd.led (gL er) ec).1]
      exact S0 k r er c
    have S1:0<(n*11+2)*2^u:=Nat.mul_pos (by omega) (Nat.two_pow_pos _)
    have rowL:∀ {k c:Nat},cs[k]? =some c->∃r,L[k]? =some r:=fun {k c} ec=>⟨_,List.getElem?_eq_getElem (by have:=(List.getElem?_eq_some_iff.mp ec).1;omega)⟩
    refine ka z' _ px pf pb xs (frees cs u) bs (Vz (s03.trans t4) hpf) (s09.trans sE) ⟨⟨_,Ac⟩,ql.mono (bl.sm.trans sE),sE _ _ (bl.sm _ _ hf8),⟨sE _ _ bl.it,fun r hr'=> ?_⟩,fl,?_,Wy (cs:=cs) xl (fun j _ hj=> ?_) (fun k c ec=> ?_),fun r hr'=> ?_⟩
    . obtain⟨k,hk⟩:=List.getElem?_of_mem hr'
      have kl:=(List.getElem?_eq_some_iff.mp hk).1
      obtain⟨f,hf⟩:∃f,(frees cs u)[k]? =some f:=⟨_,List.getElem?_eq_getElem (by omega)⟩
      exact(bl.al k r f hk hf).2.1.mono sE
    . obtain⟨bb,ebb⟩:=Wi (Ey cs u) (s:=bs.map fun r=>qv r.2) (by rw [List.length_map];exact bn)
      have wb:∀f∈frees cs u,Wb cs L d u f (bb f):=fun f hf=>by
        obtain⟨k,hk⟩:=List.getElem?_of_mem hf
        have kl:=(List.getElem?_eq_some_iff.mp hk).1
        obtain⟨r,er⟩:∃r,bs[k]? =some r:=⟨_,List.getElem?_eq_getElem (by omega)⟩
        have e:=congrArg (·[k]?) ebb
        simp only [List.getElem?_map,er,hk,Option.map_some,Option.some.injEq]at e
        rw [<-e]
        exact bw k r f er hk
      have inL:∀ {k:Nat}{r:List Int},(L.map (·.2))[k]? =some r->∃r',L[k]? =some r'/\r'.2=r:=fun {k r} h=>by
        rw [List.getElem?_map]at h
        cases e:L[k]? with
        | none=>rw [e]at h;cases h
        | some r'=>
          rw [e]at h
          exact⟨r',rfl,by simpa using h⟩
      rw [ebb]
      refine rd.all wh lo xl x0 (fun i r c hr' hc=> ?_) (fun f hf=>(wb f hf).1) (fun f hf=>(wb f hf).2.1) (fun f hf i r c hr' hc=> ?_)
      . obtain⟨r',e1,e2⟩:=inL hr'
        rw [a2 i c hc,Eu e1,e2]
      . obtain⟨r',e1,e2⟩:=inL hr'
        rw [(wb f hf).2.2 i c r' e1 hc,e2]
    . rw [x0 j hj]
      exact Aai S1
    . obtain⟨r,er⟩:=rowL ec
      rw [a2 k c ec,Eu er]
      exact Szq.of (S0 k r er u) (Sd k c r er ec) rd.d0
    . obtain⟨k,hk⟩:=List.getElem?_of_mem hr'
      have kl:=(List.getElem?_eq_some_iff.mp hk).1
      obtain⟨f,hf⟩:∃f,(frees cs u)[k]? =some f:=⟨_,List.getElem?_eq_getElem (by omega)⟩
      obtain⟨w1,w2,w3⟩:=bw k r f hk hf
      refine Wy (cs:=cs) w1 (fun j ju hj=> ?_) (fun i c ec=> ?_)
      . rw [w2 j ju hj]
        split
        . exact Adk S1
        . exact Aai S1
      . obtain⟨r2,er⟩:=rowL ec
        rw [w3 i c r2 er ec]
        refine Szq.of ?_ (Sd i c r2 er ec) rd.d0
        have:=S0 i r2 er f
        unfold Sz at this ⊢
        rw [Int.natAbs_neg]
        exact this
theorem Ut {x:Int} (h:x.natAbs<2^60):Builtin.Int.intBits x<=64:=Nat.le_trans (PySem.intBits_le_iff.mpr h) (by decide)
def Src (H:Hp) (l:Addr) (c:Nat):Prop:=∃(x y z:Int) (k:Nat),H l=some (.lst [.int x,.int y,.int (k:Nat),.int z])/\k<=c
def Sx (l:Addr) (H H':Hp):Prop:=∀b o,b≠l->H b=some o->H' b=some o
theorem Sx.of {l:Addr}{H H':Hp} (s:Same H H'):Sx l H H':=fun b o _ e=>s b o e
theorem Sx.refl (l:Addr) (H:Hp):Sx l H H:=fun _ _ _ e=>e
theorem Sx.trans {l:Addr}{H H1 H2:Hp} (a:Sx l H H1) (b:Sx l H1 H2):Sx l H H2:=fun c o n e=>b c o n (a c o n e)
theorem Sx.same {l:Addr}{H H1 H2:Hp} (a:Sx l H H1) (b:Same H1 H2):Sx l H H2:=a.trans (.of b)
theorem Src.same {H H':Hp}{l:Addr}{c:Nat} (h:Src H l c) (s:Same H H'):Src H' l c:=by
  obtain⟨x,y,z,k,e,n⟩:=h
  exact⟨x,y,z,k,s _ _ e,n⟩
theorem Src.up {H:Hp}{l:Addr}{c d:Nat} (h:Src H l c) (n:c<=d):Src H l d:=by
  obtain⟨x,y,z,k,e,m⟩:=h
  exact⟨x,y,z,k,e,by omega⟩
theorem Src.lst {H:Hp}{l:Addr}{c:Nat} (h:Src H l c):∃acc,H l=some (.lst acc):=by
  obtain⟨x,y,z,k,e,_⟩:=h
  exact⟨_,e⟩
theorem IsQ.sx {H H':Hp}{l:Addr}{v:V}{q:Rat}{c:Nat} (h:IsQ K H v q) (s:Sx l H H') (hl:Src H l c):IsQ K H' v q:=by
  obtain⟨a,e,t⟩:=h
  obtain⟨acc,hl⟩:=hl.lst
  refine⟨a,e,?_⟩
  rcases t with(h | ⟨o',h⟩) | h
  . exact .inl (.inl (s _ _ (Rx h hl (by intro z;cases z)) h))
  . exact .inl (.inr ⟨o',s _ _ (Rx h hl (by intro z;cases z)) h⟩)
  . exact .inr h
theorem Ql.sx {H H':Hp}{l a:Addr}{es:List (V × Rat)}{c:Nat} (h:Ql K H a es) (n:a≠l) (s:Sx l H H') (hl:Src H l c):Ql K H' a es:=⟨s _ _ n h.it,fun e he=>(h.al e he).sx s hl⟩
structure Off (l a:Addr) (rs:List Qr):Prop where
  a:a≠l
  r:∀r∈rs,r.1≠l
theorem Qm.sx {H H':Hp}{l a:Addr}{rs:List Qr}{c:Nat} (h:Qm K H a rs) (n:Off l a rs) (s:Sx l H H') (hl:Src H l c):Qm K H' a rs:=⟨s _ _ n.a h.it,fun r hr=>(h.al r hr).sx (n.r r hr) s hl⟩
def Lz (K:PySem.W.Frag):Sp:=fun vs H Q _=>∃c:Int,vs=[.int c]/\∀z H',H z=none->Same H H'->Src H' z 0->Q (.ref z) H'
theorem Rq {f:Addr}{fd:FuncData} (F:Df K mg "_law_source" Io ["_law_draw"] f fd)    :Cal P w K mg base 33 "_law_source" ["_law_draw"] (Lz K):=by
  refine F.cal (F.fn.ok Rb (fun vs H Q E h=> ?_) (fun cdv A outer s H vs Q E hr h=> ?_))
  . obtain⟨c,rfl,_⟩:=h
    rfl
  obtain⟨c,rfl,k⟩:=h
  refine S.Bf ⟨_,(S.Ag (S.Ay (S.Bg (S.Aa (S.Ak Ku (S.pv 0) S.Ae) (S.Aa (S.Ak Gn (S.pv 0) S.Ae) (S.Aa S.Ae (S.Aa (S.pv 0) S.Ab))))))),?_⟩
  contradiction
  exact⟨⟨by decide,by decide⟩,by decide,by decide,fun p hp=>k p _ hp (Same.upd hp _) ⟨_,_,_,0,Ac,Nat.le_refl _⟩⟩
def Iv (K:PySem.W.Frag):Sp:=fun vs H Q _=>∃(c:Int) (k:Nat),vs=[.int c,.int (k:Nat)]/\k<2^20/\∀r:Int,Q (.int r) H
theorem Um {f:Addr}{fd:FuncData} (F:Df K mg "_law_mixed" K7 ["_law_draw","_law_k"] f fd)    :Cal P w K mg base 33 "_law_mixed" ["_law_draw","_law_k"] (Iv K):=by
  refine F.cal (F.fn.ok Ip (fun vs H Q E h=> ?_) (fun cdv A outer s H vs Q E hr h=> ?_))
  . obtain⟨c,k,rfl,_⟩:=h
    rfl
  obtain⟨c,k,rfl,hk,q⟩:=h
  refine S.Bf ⟨_,(S.Ad (S.Ao (i:=2) Ip.nd rfl (Or.inl rfl) (S.Ak Gn (S.Ak Ce (S.Ak Dg (S.Ak Dg (S.Ak Gn (S.pv 0) S.Ae) (S.Ak Ce S.Ae (S.pv 1))) S.Ae) (S.Ak Dg S.Ae (S.Ak Ce S.Ae (S.pv 1)))) S.Ae))
      (S.Ad (S.Ao (i:=2) Ip.nd rfl (Or.inl rfl) (S.Ak Gn (S.Ak Ce (S.pv 2) (S.Ak Dg (S.Ak Ku (S.pv 2) S.Ae) S.Ae)) S.Ae))
      (S.Ag (S.Ay (S.Ak Gn (S.Ak Ce (S.pv 2) (S.Ak Dg (S.Ak Dg (S.Ak Ku (S.pv 2) S.Ae) S.Ae) (S.pv 1))) S.Ae))))),?_⟩
  contradiction
  refine⟨by decide,.of_left (Ut (by decide)),.of_left (Ut (by decide)),.of_right (Ut (by omega)),by decide,?_⟩
  generalize (c%2147483629+69621*(k:Int)+1)*(48271+2*(k:Int))=a
  have a0:=Int.emod_nonneg a (show(2147483629:Int)≠0 by decide)
  have a1:=Int.emod_lt_of_pos a (show(0:Int)<2147483629 by decide)
  generalize a%2147483629=b at a0 a1
  refine⟨⟨by decide,by decide⟩,.of_left (Ut (by omega)),by decide,?_⟩
  generalize b*(b/1009+69621)=d
  have d0:=Int.emod_nonneg d (show(2147483629:Int)≠0 by decide)
  have d1:=Int.emod_lt_of_pos d (show(0:Int)<2147483629 by decide)
  generalize d%2147483629=e at d0 d1
  exact⟨⟨by decide,by decide⟩,.of_left (Ut (by omega)),by decide,q _⟩
def El (K:PySem.W.Frag):Sp:=fun vs H Q _=>∃(l:Addr) (m:Int) (c:Nat),vs=[.ref l,.int m]/\Src H l c/\c<100000/\0<m/\m<2^50/\∀r H',0<=r->r<m->Sx l H H'->Src H' l (c+1)->Q (.int r) H'
theorem Vi {f:Addr}{fd:FuncData} (F:Df K mg "_law_next" N5 ["_law_source_here","_law_many"] f fd)   (c_q_mixed:Cal P w K mg base 33 "_law_mixed" ["_law_draw","_law_k"] (Iv K)):Cal P w K mg base 34 "_law_next" ["_law_source_here","_law_many"] (El K):=by
  refine F.cal (F.fn.ok P0 (fun vs H Q E h=> ?_) (fun cdv A outer s H vs Q E hr h=> ?_))
  . obtain⟨l,m,c,rfl,_⟩:=h
    rfl
  obtain⟨l,m,c,rfl,⟨x,y,z,j,hl,jc⟩,hc,m0,m1,k⟩:=h
  refine S.Bf ⟨_,(S.Ad (S.Ei (S.Aaf (S.T6 (S.Ba Ik (S.Bc Az (S.pv 0) S.Ae (fun _ _=>rfl)) S.Ae (Bh _)) (S.Nu (S.Ba Z1 (S.Bc Az (S.pv 0) S.Ae (fun _ _=>rfl)) S.Ae (Bh _))))) (S.Ad (S.Ao (i:=2) P0.nd rfl (Or.inl rfl) (S.Ak Gn (S.Bc Az (S.pv 0) S.Ae (fun _ _=>rfl)) (S.pv 1)))
      (S.Ad (S.Dj (S.Ak Ku (S.Bc Az (S.pv 0) S.Ae (fun _ _=>rfl)) (S.pv 1)) (S.Gs (S.pv 0) S.Ae set_list))
      (S.Ag (S.Ay (S.pv 2))))) S.Bm)
      (S.Ad (S.Dj (S.Ak Dg (S.Bc Az (S.pv 0) S.Ae (fun _ _=>rfl)) S.Ae) (S.Gs (S.pv 0) S.Ae set_list))
      (S.Ag (S.Ay (S.Ak Gn (S.Ax c_q_mixed (hr.mono (by decide)) (S.Aa (S.Bc Az (S.pv 0) S.Ae (fun _ _=>rfl)) (S.Aa (S.Bc Az (S.pv 0) S.Ae (fun _ _=>rfl)) S.Ab))) (S.pv 1)))))),?_⟩
  contradiction
  refine Bw (.of hl) (v:= .int y) (at1 _ _ _) ?_
  try contradiction
  have el:Aak K (.ref l) (.int 2) H fun x H1=>rI0 (fun i j=>V.int (i+j)) x (V.int 1) H1 fun x H1=>Zr (V.ref l) (V.int 2) x H1 fun H3=>Aak K (V.ref l) (V.int 3) H3 fun x H1=>Aak K (V.ref l) (V.int 2) H1 fun x_1 H1=>Iv K [x,x_1] H1 (fun x H1=>rI (fun x j=>0<j) (fun i j=>V.int (i%j)) x (V.int m) H1 Q) E0:=by
    refine Bw (.of hl) (v:= .int (j:Nat)) (Aw (j:=2) rfl) ?_
    try contradiction
    refine Rf (j:=2) hl (by simp) ?_
    refine Bw (.of Ac) (v:= .int z) (Aw (j:=3) rfl) ?_
    refine Bw (.of Ac) (v:= .int ((j:Nat)+1)) (Aw (j:=2) rfl) ?_
    refine⟨z,j+1,by rw [Int.natCast_add];rfl,by omega,fun r=> ?_⟩
    try contradiction
    refine⟨m0,k _ _ (Int.emod_nonneg _ (by omega)) (Int.emod_lt_of_pos _ m0) (fun b o n e=>by rw [Al n];exact e) ⟨x,y,z,j+1,Ac,by omega⟩⟩
  by_cases hy:y=0
  . rw [if_pos hy]
    refine Bw (.of hl) (v:= .int x) (at0 _ _) ?_
    try contradiction
    by_cases hx:1<x
    . rw [if_pos hx]
      refine Bw (.of hl) (v:= .int x) (at0 _ _) ?_
      try contradiction
      refine⟨m0,Bw (.of hl) (v:= .int x) (at0 _ _) ?_⟩
      try contradiction
      refine⟨⟨m0,Sz.log2 (n:=50) (by unfold Sz;omega) (by omega) (by decide)⟩,Rf (j:=0) hl (by simp) ?_⟩
      exact k _ _ (Int.emod_nonneg _ (by omega)) (Int.emod_lt_of_pos _ m0) (fun b o n e=>by rw [Al n];exact e) ⟨x/m,y,z,j,Ac,by omega⟩
    . rw [if_neg hx]
      exact el
  . rw [if_neg hy]
    exact el
def K3 (K:PySem.W.Frag):Sp:=fun vs H Q _=>∃a b:Nat,vs=[.int (a:Nat),.int (b:Nat)]/\Q (.int ((Nat.gcd a b:Nat):Int)) H
theorem Ru {f:Addr}{fd:FuncData} (F:Df K mg "_law_shared" Iu ["_law_one","_law_other"] f fd)    :Cal P w K mg base 33 "_law_shared" ["_law_one","_law_other"] (K3 K):=by
  refine F.cal (F.fn.ok K4 (fun vs H Q E h=> ?_) (fun cdv A outer s H vs Q E hr h=> ?_))
  . obtain⟨a,b,rfl,_⟩:=h
    rfl
  obtain⟨a,b,rfl,q⟩:=h
  refine S.Bf ⟨_,(S.Ad (S.Kr PassesOwn.never (S.Ba Z1 (S.pv 1) S.Ae (Bh _)) (S.Ag (S.O1 (i:=0) (j:=1) rfl K4.nd rfl rfl (by decide) rfl rfl (S.Aa (S.pv 1) (S.Aa (S.Ak Gn (S.pv 0) (S.pv 1)) S.Ab)) rfl)))
      (S.Ag (S.Ay (S.pv 0)))),?_⟩
  contradiction
  refine Tf (fun σ H'=>H'=H/\∃x y:Nat,σ=[some (.int x),some (.int y)]/\Nat.gcd x y=Nat.gcd a b)
    (fun σ _=>match σ with | [_,some (.int y)]=>y.toNat | _=>0) ⟨rfl,_,_,rfl,rfl⟩ ?_ ?_
  . rintro σ H' ⟨rfl,x,y,rfl,e⟩
    contradiction
    by_cases hy:0<(y:Int)
    . rw [if_pos hy]
      refine⟨by omega,⟨y,x%y,by rw [Int.natCast_emod],by rw [Tn];exact e⟩,?_⟩
      show((x:Int)%(y:Int)).toNat<(y:Int).toNat
      rw [<-Int.natCast_emod,Int.toNat_natCast,Int.toNat_natCast]
      exact Nat.mod_lt _ (by omega)
    . rw [if_neg hy]
      have hy':y=0:=by omega
      subst hy'
      rw [Nat.gcd_zero_right]at e
      subst e
      exact q
  . intro σ H' Q1 Q2 h12
    simp only [Gp,W5]
    rintro⟨v,e1,s1,k,e2,e3,k',e4,h3⟩
    exact⟨v,e1,s1,k,e2,e3,k',e4,h12 _ _ h3⟩
def Ie (K:PySem.W.Frag):Sp:=fun vs H Q _=>∃a b:Int,vs=[.int a,.int b]/\0<b/\∀z H',Same H H'->IsQ K H' z (Rat.divInt a b)->Q z H'
theorem Wn {f:Addr}{fd:FuncData} (F:Df K mg "_law_frac" M7 ["_law_top","_law_bottom"] f fd) (z_abs:mg "abs"=none) (py:Pyl P base) (c_q_shared:Cal P w K mg base 33 "_law_shared" ["_law_one","_law_other"] (K3 K)):Cal P w K mg base 34 "_law_frac" ["_law_top","_law_bottom"] (Ie K):=by
  refine F.cal (F.fn.ok Qj (fun vs H Q E h=> ?_) (fun cdv A outer s H vs Q E hr h=> ?_))
  . obtain⟨a,b,rfl,_⟩:=h
    rfl
  obtain⟨a,b,rfl,b0,q⟩:=h
  refine S.Bf ⟨_,(S.Ad (S.Ao (i:=2) Qj.nd rfl (Or.inl rfl) (S.Ax c_q_shared (hr.mono (by decide)) (S.Aa (S.Br Nf rfl z_abs PyProof.Rows.boot_abs (S.Aa (S.pv 0) S.Ab)) (S.Aa (S.pv 1) S.Ab))))
      (S.Ag (S.Ay (S.Bb (S.Aa (S.Ak (Gk py (hr.far (by decide)) rfl rfl rfl rfl rfl) (S.pv 0) (S.pv 2)) (S.Aa (S.Ak (Gk py (hr.far (by decide)) rfl rfl rfl rfl rfl) (S.pv 1) (S.pv 2)) S.Ab)))))),?_⟩
  simp only [Qo,Ja,Qa,Og,Jc,Qg,Fo,Ou,Jo,Jr,z_c,W5,Yq,Y8,Oh,Ym,Ph,Qv,Px,Q6,Gp,Yl,Q0,Oq,O8,Jt,J0,Qq,Qu,Yt,J2,O5,Kd,Yh,Jf,Pk,Ka,Y4,Qf,Qk,Gb,J6,Kf,Jl,Gh,Jp,Qs,O2,Qt,Pj,Yr,Du,Jx,Q5,Y5,Qe,Jh,Qz,Pg,Je,Ox,Jg,Jw,J4,Fj,Qn,Fy,J1,Kc,Jd,Fq,Ju,Fp,Pb,Jy,Qc,Ji,J8,Kh,Gd,Ec,Fv,Jq,Py,Jb,Jk,Fl,Kg,Zc,cpσ,List.getElem?_cons_zero,List.getElem?_cons_succ,Option.join_some,List.set_cons_zero,List.set_cons_succ,List.append_nil,decide_eq_true_eq,Bool.not_eq_true',decide_eq_false_iff_not,Bool.not_not,ite_not,Bool.false_eq_true,Bool.true_eq_false,if_false,if_true,if_pos,List.length_cons,List.length_nil,Nat.zero_add,Nat.reduceAdd,Jz,Ke,true_and,and_true,L2.start,List.map_cons,List.map_nil,Bool.not_true,Bool.not_false,Nat.reduceSub,List.replicate_succ,List.replicate_zero,List.cons_append,List.nil_append,abs_eq]
  refine⟨a.natAbs,b.natAbs,by rw [show((b.natAbs:Nat):Int)=b by omega],?_⟩
  have eg:Nat.gcd a.natAbs b.natAbs=Int.gcd a b:=rfl
  rw [eg]
  try contradiction
  have hg0:((Int.gcd a b:Nat):Int)≠0:=by
    have:=Int.gcd_pos_of_ne_zero_right a (show b≠0 by omega)
    omega
  refine⟨hg0,hg0,fun p hp=> ?_⟩
  rw [(Ib b0).1,(Ib b0).2]
  exact q _ _ (Same.upd hp _) ⟨p,rfl,.of Ac⟩
theorem Szq.add {n m:Nat}{p q:Rat} (h:Szq n p) (g:Szq m q):Szq (n+m+1) (p+q):=by
  rw [<-Adc]
  have dn:((p.den:Int)*(q.den:Int))≠0:=Int.mul_ne_zero (Mr p) (Mr q)
  exact .of (((h.1.mul g.2).add (g.1.mul h.2)).mono (by omega)) ((h.2.mul g.2).mono (by omega)) dn
theorem Szq.mul {n m:Nat}{p q:Rat} (h:Szq n p) (g:Szq m q):Szq (n+m) (p*q):=by
  rw [<-Adi]
  exact .of (h.1.mul g.1) (h.2.mul g.2) (Int.mul_ne_zero (Mr p) (Mr q))
theorem Szq.mono {n m:Nat}{q:Rat} (h:Szq n q) (l:n<=m):Szq m q:=⟨h.1.mono l,h.2.mono l⟩
theorem W6 (q:Rat):(0:Int)<(q.den:Int):=by have:=q.den_pos;omega
def Ig (K:PySem.W.Frag):Sp:=fun vs H Q _=>∃(x y:V) (p q:Rat) (n m:Nat),vs=[x,y]/\IsQ K H x p/\IsQ K H y q/\Szq n p/\Szq m q/\n+m<=134217728/\∀z H',Same H H'->IsQ K H' z (p+q)->Q z H'
theorem X6 {f:Addr}{fd:FuncData} (F:Df K mg "_law_sum" R9 ["_law_one","_law_other"] f fd)   (c_q_frac:Cal P w K mg base 34 "_law_frac" ["_law_top","_law_bottom"] (Ie K)):Cal P w K mg base 35 "_law_sum" ["_law_one","_law_other"] (Ig K):=by
  refine F.cal (F.fn.ok W8 (fun vs H Q E h=> ?_) (fun cdv A outer s H vs Q E hr h=> ?_))
  . obtain⟨x,y,p,q,n,m,rfl,_⟩:=h
    rfl
  obtain⟨x,y,p,q,n,m,rfl,⟨a,rfl,ha⟩,⟨b,rfl,hb⟩,hp,hq,hl,k⟩:=h
  refine S.Bf ⟨_,(S.Ag (S.Ay (S.Ax c_q_frac (hr.mono (by decide)) (S.Aa (S.Ak Dg (S.Ak Ce (S.Bc Ea (S.pv 0) S.Ae (fun _ _=>rfl)) (S.Bc Ea (S.pv 1) S.Ae (fun _ _=>rfl))) (S.Ak Ce (S.Bc Ea (S.pv 1) S.Ae (fun _ _=>rfl)) (S.Bc Ea (S.pv 0) S.Ae (fun _ _=>rfl)))) (S.Aa (S.Ak Ce (S.Bc Ea (S.pv 0) S.Ae (fun _ _=>rfl)) (S.Bc Ea (S.pv 1) S.Ae (fun _ _=>rfl))) S.Ab))))),?_⟩
  contradiction
  refine Gw ha (at0 _ _) (Gw hb (at1 _ _ _) ?_)
  try contradiction
  refine⟨hp.1.mulOk hq.2 hl,Gw hb (at0 _ _) (Gw ha (at1 _ _ _) ?_)⟩
  try contradiction
  refine⟨hq.1.mulOk hp.2 (by omega),Gw ha (at1 _ _ _) (Gw hb (at1 _ _ _) ?_)⟩
  try contradiction
  refine⟨hp.2.mulOk hq.2 hl,_,_,rfl,Int.mul_pos (W6 p) (W6 q),fun z H' s' h'=>k z H' s' ?_⟩
  rw [Adc]at h'
  exact h'
def Dy (K:PySem.W.Frag):Sp:=fun vs H Q _=>∃(x y:V) (p q:Rat) (n m:Nat),vs=[x,y]/\IsQ K H x p/\IsQ K H y q/\Szq n p/\Szq m q/\n+m<=134217728/\∀z H',Same H H'->IsQ K H' z (p*q)->Q z H'
theorem Pq {f:Addr}{fd:FuncData} (F:Df K mg "_law_product" G4 ["_law_one","_law_other"] f fd)   (c_q_frac:Cal P w K mg base 34 "_law_frac" ["_law_top","_law_bottom"] (Ie K)):Cal P w K mg base 35 "_law_product" ["_law_one","_law_other"] (Dy K):=by
  refine F.cal (F.fn.ok O6 (fun vs H Q E h=> ?_) (fun cdv A outer s H vs Q E hr h=> ?_))
  . obtain⟨x,y,p,q,n,m,rfl,_⟩:=h
    rfl
  obtain⟨x,y,p,q,n,m,rfl,⟨a,rfl,ha⟩,⟨b,rfl,hb⟩,hp,hq,hl,k⟩:=h
  refine S.Bf ⟨_,(S.Ag (S.Ay (S.Ax c_q_frac (hr.mono (by decide)) (S.Aa (S.Ak Ce (S.Bc Ea (S.pv 0) S.Ae (fun _ _=>rfl)) (S.Bc Ea (S.pv 1) S.Ae (fun _ _=>rfl))) (S.Aa (S.Ak Ce (S.Bc Ea (S.pv 0) S.Ae (fun _ _=>rfl)) (S.Bc Ea (S.pv 1) S.Ae (fun _ _=>rfl))) S.Ab))))),?_⟩
  contradiction
  refine Gw ha (at0 _ _) (Gw hb (at0 _ _) ?_)
  try contradiction
  refine⟨hp.1.mulOk hq.1 hl,Gw ha (at1 _ _ _) (Gw hb (at1 _ _ _) ?_)⟩
  try contradiction
  refine⟨hp.2.mulOk hq.2 hl,_,_,rfl,Int.mul_pos (W6 p) (W6 q),fun z H' s' h'=>k z H' s' ?_⟩
  rw [Adi]at h'
  exact h'
theorem Nb {H:Hp}{a:Addr} (h:H a=some (.tup [.int 0,.int 1])):IsQ K H (.ref a) 0:=⟨a,rfl,.of h⟩
theorem Z7 {H:Hp}{a:Addr}{i:Int} (h:H a=some (.tup [.int i,.int 1])):IsQ K H (.ref a) (i:Rat):=⟨a,rfl,.of h⟩
def Dm (K:PySem.W.Frag):Sp:=fun vs H Q _=>∃(l:Addr) (c:Nat),vs=[.ref l]/\Src H l c/\c<50000/\∀z q H',Sx l H H'->Src H' l (c+3)->IsQ K H' z q->Szq 42 q->Q z H'
theorem Ek {H:Hp}{Q:VK}{E:XK}{l:Addr}{m:Int}{c:Nat} (h:Src H l c) (hc:c<100000) (m0:0<m) (m1:m<2^50) (k:∀r H',0<=r->r<m->Sx l H H'->Src H' l (c+1)->Q (.int r) H'):El K [.ref l,.int m] H Q E:=⟨l,m,c,rfl,h,hc,m0,m1,k⟩
theorem Yz {a b:Int} (h:a.natAbs<2^42) (g:0<b) (g':b<2^42):Szq 42 (Rat.divInt a b):= .of h (by unfold Sz;omega) (by omega)
theorem Ue {f:Addr}{fd:FuncData} (F:Df K mg "_law_drawn" Ly ["_law_source_here"] f fd)   (c_q_next:Cal P w K mg base 34 "_law_next" ["_law_source_here","_law_many"] (El K)) (c_q_frac:Cal P w K mg base 34 "_law_frac" ["_law_top","_law_bottom"] (Ie K)):Cal P w K mg base 35 "_law_drawn" ["_law_source_here"] (Dm K):=by
  refine F.cal (F.fn.ok M4 (fun vs H Q E h=> ?_) (fun cdv A outer s H vs Q E hr h=> ?_))
  . obtain⟨l,c,rfl,_⟩:=h
    rfl
  obtain⟨l,c,rfl,hs,hc,k⟩:=h
  refine S.Bf ⟨_,(S.Ad (S.Ao (i:=1) M4.nd rfl (Or.inl rfl) (S.Ax c_q_next (hr.mono (by decide)) (S.Aa (S.pv 0) (S.Aa S.Ae S.Ab))))
      (S.Ad (S.Ei (S.Ba Ik (S.pv 1) S.Ae (Bh _)) (S.Ag (S.Ay (S.Ax c_q_frac (hr.mono (by decide)) (S.Aa (S.Ak T3 (S.Ax c_q_next (hr.mono (by decide)) (S.Aa (S.pv 0) (S.Aa (S.Ak Dg (S.Ak Ce S.Ae (S.Ak V3 S.Ae S.Ae)) S.Ae) S.Ab))) (S.Ak V3 S.Ae S.Ae)) (S.Aa (S.Ak Dg S.Ae (S.Ax c_q_next (hr.mono (by decide)) (S.Aa (S.pv 0) (S.Aa (S.Ak V3 S.Ae S.Ae) S.Ab)))) S.Ab))))) S.Bm)
      (S.Ad (S.Ei (S.Ba Ik (S.pv 1) S.Ae (Bh _)) (S.Ag (S.Ay (S.Ax c_q_frac (hr.mono (by decide)) (S.Aa (S.Ak T3 (S.Ax c_q_next (hr.mono (by decide)) (S.Aa (S.pv 0) (S.Aa S.Ae S.Ab))) S.Ae) (S.Aa (S.Ak Dg S.Ae (S.Ax c_q_next (hr.mono (by decide)) (S.Aa (S.pv 0) (S.Aa S.Ae S.Ab)))) S.Ab))))) S.Bm)
      (S.Ad (S.Ei (S.Ba Ik (S.pv 1) S.Ae (Bh _)) (S.Ag (S.Ay (S.Bb (S.Aa S.Ae (S.Aa S.Ae S.Ab))))) S.Bm)
      (S.Ag (S.Ay (S.Bb (S.Aa (S.Ak T3 (S.Ax c_q_next (hr.mono (by decide)) (S.Aa (S.pv 0) (S.Aa S.Ae S.Ab))) S.Ae) (S.Aa S.Ae S.Ab))))))))),?_⟩
  contradiction
  refine Ek hs (by omega) (by decide) (by decide) fun w H1 w0 w5 x1 s1=> ?_
  try contradiction
  have cp:Adj 10 12:=⟨by decide,by decide,by decide⟩
  have ep:(10:Int)^Int.toNat 12=1000000000000:=by decide
  rw [ep]
  split
  . refine⟨cp,.of_left (Ut (by decide)),Ek s1 (by omega) (by decide) (by decide) fun r H2 r0 r1 x2 s2=> ?_⟩
    try contradiction
    refine⟨cp,cp,Ek s2 (by omega) (by decide) (by decide) fun r' H3 r0' r1' x3 s3=> ?_⟩
    try contradiction
    refine⟨_,_,rfl,by omega,fun z H4 s4 h4=>k z _ H4 ((x1.trans (x2.trans x3)).same s4) (s3.same s4) h4 (Yz (by omega) (by omega) (by omega))⟩
  split
  . refine Ek s1 (by omega) (by decide) (by decide) fun r H2 r0 r1 x2 s2=> ?_
    try contradiction
    refine Ek s2 (by omega) (by decide) (by decide) fun r' H3 r0' r1' x3 s3=> ?_
    try contradiction
    refine⟨_,_,rfl,by omega,fun z H4 s4 h4=>k z _ H4 ((x1.trans (x2.trans x3)).same s4) (s3.same s4) h4 (Yz (by omega) (by omega) (by omega))⟩
  split
  . intro p hp
    exact k _ _ _ (x1.same (Same.upd hp _)) ((s1.same (Same.upd hp _)).up (by omega)) (Nb Ac) (Aai (by decide))
  . refine Ek s1 (by omega) (by decide) (by decide) fun r H2 r0 r1 x2 s2=> ?_
    try contradiction
    intro p hp
    exact k _ _ _ ((x1.trans x2).same (Same.upd hp _)) ((s2.same (Same.upd hp _)).up (by omega)) (Z7 Ac) ⟨show Sz 42 (r-3)by unfold Sz;omega,show Sz 42 (1:Int)by unfold Sz;decide⟩
def Oc (K:PySem.W.Frag):Sp:=fun vs H Q _=>∃(a b:Addr) (es fs:List (V × Rat)) (n m u:Nat),vs=[.ref a,.ref b]/\Ql K H a es/\Ql K H b fs/\es.length=u/\fs.length=u/\u<=6/\(∀e∈es,Szq n e.2)/\(∀e∈fs,Szq m e.2)/\(n+m+1)*u+1<=134217728/\∀z H',Same H H'->IsQ K H' z (dq (qv es) (qv fs))->Szq ((n+m+1)*u+1) (dq (qv es) (qv fs))->Q z H'
structure Dti (K:PySem.W.Frag) (H H':Hp) (v:V) (ps qs:List Rat) (N i:Nat):Prop where
  sm:Same H H'
  iq:IsQ K H' v (dq (ps.take i) (qs.take i))
  sz:Szq (N*i+1) (dq (ps.take i) (qs.take i))
theorem Yk {es:List (V × Rat)}{i:Nat}{e:V × Rat} (h:es[i]? =some e):(qv es).take (i+1)=(qv es).take i++ [e.2]:=by
  rw [List.take_succ,List.getElem?_map,h]
  rfl
theorem Ab1 {es:List (V × Rat)}{i:Nat}{e:V × Rat} (h:es[i]? =some e):(es.map (·.1)).getD i .non=e.1:=by
  rw [List.getD_eq_getElem?_getD,List.getElem?_map,h]
  rfl
theorem Yc {f:Addr}{fd:FuncData} (F:Df K mg "_law_dot" R4 ["_law_some","_law_others"] f fd) (z_zip:mg "zip"=none)  (c_q_sum:Cal P w K mg base 35 "_law_sum" ["_law_one","_law_other"] (Ig K)) (c_q_product:Cal P w K mg base 35 "_law_product" ["_law_one","_law_other"] (Dy K)):Cal P w K mg base 36 "_law_dot" ["_law_some","_law_others"] (Oc K):=by
  refine F.cal (F.fn.ok Hl (fun vs H Q E h=> ?_) (fun cdv A outer s H vs Q E hr h=> ?_))
  . obtain⟨a,b,es,fs,n,m,u,rfl,_⟩:=h
    rfl
  obtain⟨a,b,es,fs,n,m,u,rfl,ha,hb,el,fl,u6,zn,zm,hl,k⟩:=h
  refine S.Bf ⟨_,(S.Ad (S.Ao (i:=2) Hl.nd rfl (Or.inl rfl) (S.Bb (S.Aa S.Ae (S.Aa S.Ae S.Ab))))
      (S.Ad (S.Dk PassesOwn.never rfl (S.Eo false false rfl z_zip (S.Aa (S.pv 0) (S.Aa (S.pv 1) S.Ab))) (S.Ds rfl (S.Ar (S.Ah (i:=3) Hl.nd rfl (Or.inl rfl)) (S.Ar (S.Ah (i:=4) Hl.nd rfl (Or.inl rfl)) S.Cu))) (S.Ag (S.Ao (i:=2) Hl.nd rfl (Or.inl rfl) (S.Ax c_q_sum (hr.mono (by decide)) (S.Aa (S.pv 2) (S.Aa (S.Ax c_q_product (hr.mono (by decide)) (S.Aa (S.pv 3) (S.Aa (S.pv 4) S.Ab))) S.Ab))))))
      (S.Ag (S.Ay (S.pv 2))))),?_⟩
  contradiction
  intro p hp
  have s1:=Same.upd hp (.tup [.int 0,.int 1])
  refine⟨a,b,rfl,⟨_,show SqL K _ a _ from .of (s1 _ _ ha.it)⟩,⟨_,show SqL K _ b _ from .of (s1 _ _ hb.it)⟩,Rh (xs:=es.map (·.1)) (ys:=fs.map (·.1)) u (by rw [List.length_map,List.length_map];omega) (fun i σ' H'=>∃(v:V) (o3 o4:Option V),σ'=[some (.ref a),some (.ref b),some v,o3,o4]/\Dti K H H' v (qv es) (qv fs) (n+m+1) i) ⟨_,_,_,rfl,s1,Nb Ac,Aai (Nat.succ_pos _)⟩ ?_ ?_ ?_⟩
  . rintro i σ' H' ⟨v,o3,o4,rfl,di⟩
    exact⟨show SqL K H' a _ from .of (di.sm _ _ ha.it),show SqL K H' b _ from .of (di.sm _ _ hb.it)⟩
  . rintro i σ' H1 c hi ⟨v,o3,o4,rfl,di⟩ hc
    obtain⟨e,ee⟩:∃e,es[i]? =some e:=⟨_,List.getElem?_eq_getElem (by omega)⟩
    obtain⟨g,eg⟩:∃g,fs[i]? =some g:=⟨_,List.getElem?_eq_getElem (by omega)⟩
    rw [Ab1 ee,Ab1 eg]
    have sb:=Same.upd hc (.tup [e.1,g.1])
    refine Gv (.of Ac) ?_
    generalize upd H1 c (.tup [e.1,g.1])=H2 at sb
    have em:=List.mem_of_getElem? ee
    have gm:=List.mem_of_getElem? eg
    have s02:=di.sm.trans sb
    have mu:(n+m+1)*(i+1)<=(n+m+1)*u:=Nat.mul_le_mul_left _ hi
    have ms:(n+m+1)*(i+1)=(n+m+1)*i+(n+m+1):=Nat.mul_succ _ _
    have m0:(n+m+1)*i>=0:=Nat.zero_le _
    contradiction
    refine⟨_,_,e.2,g.2,n,m,rfl,(ha.al e em).mono s02,(hb.al g gm).mono s02,zn e em,zm g gm,by omega,fun x H3 s3 h3=> ?_⟩
    refine⟨_,_,_,_,_,_,rfl,(di.iq.mono sb).mono s3,h3,di.sz,(zn e em).mul (zm g gm),by omega,fun y H4 s4 h4=> ?_⟩
    have es':dq ((qv es).take (i+1)) ((qv fs).take (i+1))=dq ((qv es).take i) ((qv fs).take i)+e.2*g.2:=by
      rw [Yk ee,Yk eg,Rv]
      rw [List.length_take,List.length_take,List.length_map,List.length_map]
      omega
    refine⟨_,_,_,rfl,s02.trans (s3.trans s4),?_,?_⟩
    . rw [es']
      exact h4
    . rw [es']
      exact(di.sz.add ((zn e em).mul (zm g gm))).mono (by omega)
  . rintro σ' H' ⟨v,o3,o4,rfl,di⟩
    contradiction
    have t1:(qv es).take u=qv es:=List.take_of_length_le (by rw [List.length_map];omega)
    have t2:(qv fs).take u=qv fs:=List.take_of_length_le (by rw [List.length_map];omega)
    have iq:=di.iq
    have sz:=di.sz
    rw [t1,t2]at iq sz
    exact k v H' di.sm iq sz
theorem G5 {l z:Addr}{H H1:Hp}{c:Nat} (s:Sx l H H1) (hl:Src H1 l c) (n:H1 z=none):H z=none:=by
  cases e:H z with
  | none=>rfl
  | some o=>
    by_cases h:z=l
    . subst h
      obtain⟨acc,hl⟩:=hl.lst
      rw [n]at hl
      cases hl
    . have:=s z o h e
      rw [n]at this
      cases this
def bz (i:Nat):Nat:=90*2^i-44
def gz (i:Nat):Nat:=90*(2^i-1)+1
theorem Aae (i:Nat):gz i+(42+bz i)+1<=gz (i+1):=by
  unfold gz bz
  rw [Nat.pow_succ]
  have:=Nat.two_pow_pos i
  omega
theorem Aay (i:Nat):gz i<=bz i:=by
  unfold gz bz
  have:=Nat.two_pow_pos i
  omega
theorem Abv {i:Nat} (h:i<=4):bz i<=1396:=by
  unfold bz
  have:2^i<=2^4:=Nat.pow_le_pow_right (by decide) h
  omega
theorem Aci (i:Nat):42<=bz i:=by
  unfold bz
  have:=Nat.two_pow_pos i
  omega
def Rz (rs:List Qr) (u:Nat):Prop:=∀(i:Nat) r,rs[i]? =some r->r.2.length=u/\∀e∈r.2,Szq (bz i) e.2
structure Mri (K:PySem.W.Frag) (H H':Hp) (l f:Addr) (es:List (V × Rat)) (c i u:Nat):Prop where
  sx:Sx l H H'
  sr:Src H' l (c+3*i)
  ql:Ql K H' f es
  nf:H f=none
  ln:es.length=u
  sz:∀e∈es,Szq (gz i) e.2
theorem Xx {H1:Hp}{p fa ra:Addr}{Q:VK}{es rs:List (V × Rat)}{by':V}{s:Rat}{n m k u:Nat} (hp:H1 p=none) (he:Ql K H1 fa es) (hr:Ql K H1 ra rs) (hb:IsQ K H1 by' s) (el:es.length=u) (rl:rs.length=u) (u6:u<=6) (ze:∀e∈es,Szq n e.2) (zs:Szq k s) (zr:∀e∈rs,Szq m e.2) (hl:n+(k+m)<=134217728)
    (done:∀gs H',Same H1 H'->Ql K H' p gs->qv gs=List.zipWith (fun a b=>a+s*b) (qv es) (qv rs)->(∀e∈gs,Szq (n+(k+m)+1) e.2)->Q (.ref p) H'):
    cIn (Zt false false K fa ra) [none,none,some by'] (Zf K 2 (M8 (Gy 0) (M8 (Gy 1) Abg))) Fg (Kq (Ig K) [] E0 (Ko (Ur 0) (Ko (Kq (Dy K) [] E0 (Ko (Ur 2) (Ko (Ur 1) Y7))) Y7))) Q H1 p:=by
  refine Xe (xs:=es.map (·.1)) (ys:=rs.map (·.1)) u (by rw [List.length_map,List.length_map];omega) (fun i v H=>IsQ K H v (qf (qv es) i+s*qf (qv rs) i)/\Szq (n+(k+m)+1) (qf (qv es) i+s*qf (qv rs) i)) (Nat.le_trans u6 (by decide)) hp (fun H' s'=>show SqL K H' fa _ from .of (s' _ _ he.it)) (fun H' s'=>show SqL K H' ra _ from .of (s' _ _ hr.it)) (fun i v H H' h s=>⟨h.1.mono s,h.2⟩) (fun i v H acc o h hp=>⟨h.1.put hp,h.2⟩) ?_ ?_
  . intro i H2 q R hi s2 h2 hR
    obtain⟨e,ee⟩:∃e,es[i]? =some e:=⟨_,List.getElem?_eq_getElem (by omega)⟩
    obtain⟨r,er⟩:∃r,rs[i]? =some r:=⟨_,List.getElem?_eq_getElem (by omega)⟩
    have em:=List.mem_of_getElem? ee
    have rm:=List.mem_of_getElem? er
    have q1:qf (qv es) i=e.2:=by
      unfold qf
      rw [List.getD_eq_getElem?_getD,List.getElem?_map,ee]
      rfl
    have q2:qf (qv rs) i=r.2:=by
      unfold qf
      rw [List.getD_eq_getElem?_getD,List.getElem?_map,er]
      rfl
    rw [q1,q2]at hR
    rw [Ab1 ee,Ab1 er]at h2
    refine Gv (.of h2) ?_
    contradiction
    refine⟨_,_,s,r.2,k,m,rfl,hb.mono s2,(hr.al r rm).mono s2,zs,zr r rm,by omega,fun x H3 s3 h3=> ?_⟩
    refine⟨_,_,e.2,s*r.2,n,k+m,rfl,((he.al e em).mono s2).mono s3,h3,ze e em,zs.mul (zr r rm),hl,fun y H4 s4 h4=> ?_⟩
    exact hR y H4 (s3.trans s4) ⟨h4,(ze e em).add (zs.mul (zr r rm))⟩
  intro ns H2 nl hq s2 h2
  obtain⟨q1,q2⟩:=Rt (K:=K) (xs:=List.range u) (f:=fun i=>qf (qv es) i+s*qf (qv rs) i) h2 (by rw [nl,List.length_range]) (fun i x v hx hv=>by
    obtain⟨h,e⟩:=List.getElem?_eq_some_iff.mp hx
    rw [List.getElem_range]at e
    rw [<-e]
    exact(hq i v hv).1)
  refine done _ H2 s2 q1 ?_ fun e he'=> ?_
  . rw [q2]
    have lz:(List.zipWith (fun a b=>a+s*b) (qv es) (qv rs)).length=u:=by
      rw [List.length_zipWith,List.length_map,List.length_map]
      omega
    rw [Hy lz]
    refine List.map_congr_left fun i _=> ?_
    rw [Yy (u:=u) (by rw [List.length_map];exact el) (by rw [List.length_map];exact rl)]
  . obtain⟨i,hi⟩:=List.getElem?_of_mem he'
    obtain⟨e1,e2⟩:=List.getElem?_zip_eq_some.mp hi
    have il:=(List.getElem?_eq_some_iff.mp e1).1
    rw [List.getElem?_map,List.getElem?_range (by omega)]at e2
    have e3:qf (qv es) i+s*qf (qv rs) i=e.2:=by simpa using e2
    rw [<-e3]
    exact(hq i e.1 e1).2
def Gq (K:PySem.W.Frag):Sp:=fun vs H Q _=>∃(l a:Addr) (rs:List Qr) (u c:Nat),vs=[.ref l,.ref a,.int (u:Nat)]/\Src H l c/\c<40000/\Qm K H a rs/\Off l a rs/\rs.length<=4/\u<=6/\Rz rs u/\∀z es H',Sx l H H'->Src H' l (c+3*rs.length)->H z=none->Ql K H' z es->es.length=u->(∀e∈es,Szq (bz rs.length) e.2)->Q (.ref z) H'
theorem Mg {f:Addr}{fd:FuncData} (F:Df K mg "_law_mixed_row" Cp ["_law_source_here","_law_rows_here","_law_many"] f fd) (z_range:mg "range"=none) (z_zip:mg "zip"=none)  (c_q_drawn:Cal P w K mg base 35 "_law_drawn" ["_law_source_here"] (Dm K)) (c_q_sum:Cal P w K mg base 35 "_law_sum" ["_law_one","_law_other"] (Ig K)) (c_q_product:Cal P w K mg base 35 "_law_product" ["_law_one","_law_other"] (Dy K)):Cal P w K mg base 36 "_law_mixed_row" ["_law_source_here","_law_rows_here","_law_many"] (Gq K):=by
  refine F.cal (F.fn.ok Bx (fun vs H Q E h=> ?_) (fun cdv A outer s H vs Q E hr h=> ?_))
  . obtain⟨l,a,rs,u,c,rfl,_⟩:=h
    rfl
  obtain⟨l,a,rs,u,c,rfl,hs,hc,hm,of,rl,u6,rz,k⟩:=h
  refine S.Bf ⟨_,(S.Ad (S.Di (ts:=["_law_k"]) (fs:=[]) rfl (Am.of (sc:=Af Cp) (N:=["_law_source_here","_law_rows_here","_law_many","_law_found","_law_row","_law_by"]) rfl rfl (by decide+kernel)) (S.Bj rfl z_range (S.Aa (S.pv 2) S.Ab)) (fun _ _ _=>(S.Ah (i:=0) (show List.Nodup (["_law_k"]:List Str)by decide+kernel) rfl (Or.inl rfl))) (fun _ _ _=>S.Bk) (fun _ _ _=>(S.Bb (S.Aa S.Ae (S.Aa S.Ae S.Ab)))) (S.Ah (i:=3) Bx.nd rfl (Or.inl rfl)))
      (S.Ad (S.Dk PassesOwn.never rfl (S.Bv (S.pv 1)) (S.Ah (i:=4) Bx.nd rfl (Or.inl rfl)) (S.Ad (S.Ao (i:=5) Bx.nd rfl (Or.inr rfl) (S.Ax c_q_drawn (hr.mono (by decide)) (S.Aa (S.pv 0) S.Ab)))
      (S.Ag (S.Di (ts:=["_law_one","_law_other"]) (fs:=[(5,"_law_by")]) rfl (Am.of (sc:=Af Cp) (N:=["_law_source_here","_law_rows_here","_law_many","_law_found","_law_row","_law_by"]) rfl rfl (by decide+kernel)) (S.Eo false false rfl z_zip (S.Aa (S.pv 3) (S.Aa (S.pv 4) S.Ab))) (fun _ _ _=>(S.Iw K 2 rfl rfl (S.Ar (S.Ah (i:=0) (show List.Nodup (["_law_one","_law_other","_law_by"]:List Str)by decide+kernel) rfl (Or.inl rfl) (hf:=Or.inr rfl)) (S.Ar (S.Ah (i:=1) (show List.Nodup (["_law_one","_law_other","_law_by"]:List Str)by decide+kernel) rfl (Or.inl rfl) (hf:=Or.inr rfl)) S.Cu)))) (fun _ _ _=>S.Bk) (fun _ _ _=>(S.Ax c_q_sum (hr.mono (by decide)) (S.Aa (S.pv 0) (S.Aa (S.Ax c_q_product (hr.mono (by decide)) (S.Aa (S.pv 2) (S.Aa (S.pv 1) S.Ab))) S.Ab)))) (S.Ah (i:=3) Bx.nd rfl (Or.inl rfl))))))
      (S.Ag (S.Ay (S.pv 3))))),?_⟩
  contradiction
  refine⟨by omega,by omega,fun p hp=> ?_⟩
  rw [Int.toNat_natCast]
  have uz:u<=sizeLine:=Nat.le_trans u6 (by decide)
  refine G6 (es:=List.range u) (inj:=fun i=> .int (0+(i:Nat))) (fun _ v H=>IsQ K H v 0) (by rw [List.length_range];exact uz) hp Dz (fun e v H H' h s=>h.mono s) (fun e v H acc o h hp=>h.put hp) ?_ ?_
  . intro j H2 R hj s2 hR
    contradiction
    exact fun b hb=>hR _ _ (Same.upd hb _) (Nb Ac)
  intro ns H1 nl hq s1 h1
  obtain⟨q1,q2⟩:=Rt (f:=fun _=>(0:Rat)) h1 nl hq
  generalize ns.zip ((List.range u).map fun _=>(0:Rat))=es0 at q1 q2
  try contradiction
  have l0:es0.length=u:=by
    have:=congrArg List.length q2
    rw [List.length_map,List.length_map,List.length_range]at this
    exact this
  have z0:∀e∈es0,Szq (gz 0) e.2:=fun e he=>by
    have h:e.2∈qv es0:=List.mem_map.mpr ⟨e,he,rfl⟩
    rw [q2]at h
    obtain⟨_,_,h⟩:=List.mem_map.mp h
    rw [<-h]
    exact Aai (by decide)
  refine⟨⟨_,.of (s1 _ _ hm.it)⟩,Ul (es:=rs) (inj:=fun r=>V.ref r.1) (fun pre σ' H'=>∃(f:Addr) (es:List (V × Rat)) (o4 o5:Option V),σ'=[some (.ref l),some (.ref a),some (.int (u:Nat)),some (.ref f),o4,o5]/\Mri K H H' l f es c pre.length u) ⟨p,es0,_,_,rfl,.of s1,hs.same s1,q1,hp,l0,z0⟩ ?_ ?_ ?_⟩
  . rintro pre σ' H' ⟨f,es,o4,o5,rfl,mi⟩
    exact Dd (.of (mi.sx _ _ of.a hm.it))
  . rintro pre e post σ' H2 hE ⟨f,es,o4,o5,rfl,mi⟩
    have ei:rs[pre.length]? =some e:=by rw [hE,List.getElem?_append_right (Nat.le_refl _),Nat.sub_self];rfl
    have pl:=(List.getElem?_eq_some_iff.mp ei).1
    have em:=List.mem_of_getElem? ei
    obtain⟨eu,ez⟩:=rz _ _ ei
    have fl:f≠l:=by
      rintro rfl
      obtain⟨acc,hl⟩:=hs.lst
      rw [mi.nf]at hl
      cases hl
    contradiction
    refine⟨l,_,rfl,mi.sr,by omega,fun v q H3 x3 s3 iq zq=> ?_⟩
    have ql3:=mi.ql.sx fl x3 mi.sr
    have x03:=mi.sx.trans x3
    have qe3:=(hm.al e em).sx (of.r e em) x03 hs
    try contradiction
    refine⟨f,e.1,rfl,⟨_,show SqL K _ f _ from .of ql3.it⟩,⟨_,show SqL K _ e.1 _ from .of qe3.it⟩,fun p2 hp2=> ?_⟩
    have b4:=Abv (show pre.length<=4 by omega)
    have g4:=Aay pre.length
    refine Xx hp2 ql3 qe3 iq mi.ln eu u6 mi.sz zq ez (by omega) fun gs H4 s4 q4 e4 z4=> ?_
    refine⟨p2,gs,_,_,rfl,x03.same s4,?_,q4,G5 x03 s3 hp2,?_,fun x hx=> ?_⟩
    . rw [List.length_append,List.length_singleton]
      exact(s3.same s4).up (by omega)
    . have:=congrArg List.length e4
      rw [List.length_map,List.length_zipWith,List.length_map,List.length_map,mi.ln,eu]at this
      omega
    . rw [List.length_append,List.length_singleton]
      exact(z4 x hx).mono (Aae _)
  . rintro σ' H' ⟨f,es,o4,o5,rfl,mi⟩
    contradiction
    exact k f es H' mi.sx mi.sr mi.nf mi.ql mi.ln fun e he=>(mi.sz e he).mono (Aay _)
theorem N6:∀cs:List (Int × Int),PyData.canLayAll0 (cs.map fun c=>PyData.tuple [.int c.1,.int c.2])=true
  | []=>rfl
  | c::cs=>by simp [PyData.canLayAll0,PyData.canLay0,N6 cs]
theorem Nj:∀cs:List (Int × Int),PyData.depthAll (cs.map fun c=>PyData.tuple [.int c.1,.int c.2])<=8
  | []=>by simp [PyData.depthAll]
  | c::cs=>by
    have:=Nj cs
    simp only [List.map_cons,PyData.depthAll,PyData.depth]
    exact Nat.max_le.mpr ⟨by simp,this⟩
theorem K5 (cs:List (Int × Int)):SeqAt.shaped (.list (cs.map fun c=>PyData.tuple [.int c.1,.int c.2]))=true:=by
  have h1:=N6 cs
  have h2:=Nj cs
  simp [SeqAt.shaped,PyData.canLay0,PyData.depth,h1]
  omega
theorem Sw:∀cs ds:List (Int × Int),PyData.eqvAll (cs.map fun c=>PyData.tuple [.int c.1,.int c.2]) (ds.map fun c=>PyData.tuple [.int c.1,.int c.2])=decide (cs=ds)
  | [],[]=>by simp [PyData.eqvAll]
  | [],_::_=>by simp [PyData.eqvAll]
  | _::_,[]=>by simp [PyData.eqvAll]
  | a::r,b::t=>by
    simp only [List.map_cons,PyData.eqvAll,PyData.eqv,Sw r t,Bool.and_true]
    by_cases h':r=t
    . by_cases h1:a.1=b.1<;>by_cases h2:a.2=b.2<;>simp [h1,h2,h',Prod.ext_iff]
    . simp [h']
def pq (q:Rat):Int × Int:=(q.num,(q.den:Int))
theorem Yi:∀ {qs rs:List Rat},qs.map pq=rs.map pq->qs=rs
  | [],[],_=>rfl
  | a::r,b::t,h=>by
    rw [List.map_cons,List.map_cons,List.cons.injEq]at h
    have h1:a.num=b.num/\(a.den:Int)=(b.den:Int):=by
      have:=h.1
      unfold pq at this
      exact Prod.mk.injEq .. ▸this
    rw [Yi h.2,Rat.ext h1.1 (by omega)]
theorem Xa {H:Hp}:∀ {es:List (V × Rat)},(∀e∈es,IsQ K H e.1 e.2)->R5 K H (es.map (·.1)) (((qv es).map pq).map fun c=>PyData.tuple [.int c.1,.int c.2])
  | [],_=> .nil
  | e::es,h=>by
    obtain⟨a,ea,ha⟩:=h e (.head _)
    have t:=Xa (es:=es) fun x hx=>h x (.tail _ hx)
    refine .cons ?_ t
    show RdD K H e.1 _
    rw [ea]
    exact RdD.ints (ns:=[e.2.num,(e.2.den:Int)]) ha
theorem Ab9 {H:Hp}{g:Bool->Bool}{Q:VK}{a b:Addr}{es fs:List (V × Rat)} (ha:Ql K H a es) (hb:Ql K H b fs) (h:Q (.bl (g (decide (qv es=qv fs)))) H):Ab0 K g (.ref a) (.ref b) H Q:=by
  refine⟨_,_,.lst (.of ha.it) (Xa ha.al),.lst (.of hb.it) (Xa hb.al),K5 _,K5 _,?_⟩
  rw [PyData.eqv,Sw]
  have e:decide ((qv es).map pq=(qv fs).map pq)=decide (qv es=qv fs):=by
    by_cases h:qv es=qv fs
    . rw [h,decide_eq_true rfl,decide_eq_true rfl]
    . rw [decide_eq_false h,decide_eq_false fun z=>h (Yi z)]
  rw [e]
  exact h
abbrev Aao (r:Qr):PyData:= .list (((qv r.2).map pq).map fun c=>PyData.tuple [.int c.1,.int c.2])
theorem Aar {H:Hp}:∀ {rs:List Qr},(∀r∈rs,Ql K H r.1 r.2)->R5 K H (rs.map fun r=>V.ref r.1) (rs.map Aao)
  | [],_=> .nil
  | r::rs,h=> .cons (.lst (.of (h r (.head _)).it) (Xa (h r (.head _)).al)) (Aar fun x hx=>h x (.tail _ hx))
theorem T4:∀rs:List Qr,PyData.canLayAll0 (rs.map Aao)=true
  | []=>rfl
  | c::cs=>by
    have h:=N6 ((qv c.2).map pq)
    have h2:=T4 cs
    simp only [List.map_cons,PyData.canLayAll0,PyData.canLay0,h,h2,Bool.and_self]
theorem Sy:∀rs:List Qr,PyData.depthAll (rs.map Aao)<=12
  | []=>by simp [PyData.depthAll]
  | c::cs=>by
    have:=Sy cs
    have h:=Nj ((qv c.2).map pq)
    simp only [List.map_cons,PyData.depthAll,Aao,PyData.depth]
    exact Nat.max_le.mpr ⟨by omega,this⟩
theorem Rk (rs:List Qr):SeqAt.shaped (.list (rs.map Aao))=true:=by
  have h1:=T4 rs
  have h2:=Sy rs
  simp [SeqAt.shaped,PyData.canLay0,PyData.depth,h1]
  omega
theorem eq_nil {H:Hp}{g:Bool->Bool}{Q:VK}{a b:Addr}{rs:List Qr} (ha:Qm K H a rs) (hb:H b=some (.lst [])) (h:Q (.bl (g (decide (rs=[])))) H):Ab0 K g (.ref a) (.ref b) H Q:=by
  refine⟨_,.list [],.lst (.of ha.it) (Aar ha.al),.lst (.of hb) .nil,Rk rs,by decide,?_⟩
  have e:PyData.eqv (.list (rs.map Aao)) (.list [])=decide (rs=[]):=by
    cases rs with
    | nil=>simp [PyData.eqv,PyData.eqvAll]
    | cons r rs=>simp [PyData.eqv,PyData.eqvAll]
  rw [e]
  exact h
structure Dci (K:PySem.W.Frag) (H1 H':Hp) (l p:Addr) (gs:List (V × Rat)) (c i:Nat):Prop where
  sx:Sx l H1 H'
  sr:Src H' l (c+3*i)
  ql:Ql K H' p gs
  ln:gs.length=i
  sz:∀e∈gs,Szq 42 e.2
theorem Sx.put {l p:Addr}{H H':Hp}{o:HO} (s:Sx l H H') (n:H p=none):Sx l H (upd H' p o):=fun b u hb e=>by
  rw [Al (Ai e n)]
  exact s b u hb e
theorem Src.put {l p:Addr}{H:Hp}{o:HO}{c:Nat} (h:Src H l c) (n:l≠p):Src (upd H p o) l c:=by
  obtain⟨x,y,z,k,e,m⟩:=h
  exact⟨x,y,z,k,by rw [Al n];exact e,m⟩
theorem Src.ne {l p:Addr}{H:Hp}{c:Nat} (h:Src H l c) (n:H p=none):l≠p:=by
  obtain⟨acc,e⟩:=h.lst
  exact Ai e n
theorem Ql.snoc {H:Hp}{p:Addr}{es:List (V × Rat)}{v:V}{q:Rat} (h:Ql K H p es) (hv:IsQ K H v q):Ql K (upd H p (.lst (es.map (·.1)++ [v]))) p (es++ [(v,q)]):=by
  refine⟨by rw [Ac,List.map_append];rfl,fun e he=> ?_⟩
  rcases List.mem_append.mp he with he | he
  . exact(h.al e he).put h.it
  . have e1:e=(v,q):=by simpa using he
    rw [e1]
    exact hv.put h.it
theorem Lh {α:Type}{es:List α}{inj:α->V}{J:It}{H1:Hp}{p l:Addr}{c:Nat}{Q:VK} (hp:H1 p=none) (hs:Src H1 l c) (hl:es.length<=10) (hc:c<40000) (hJ:∀H',Sx l H1 H'->Aaj J H' es inj)
    (done:∀gs H',Sx l H1 H'->Src H' l (c+3*es.length)->Ql K H' p gs->gs.length=es.length->(∀e∈gs,Szq 42 e.2)->Q (.ref p) H'):cIn J [none,some (.ref l)] (Gy 0) Fg (Kq (Dm K) [] E0 (Ko (Ur 1) Y7)) Q H1 p:=by
  have lp:=hs.ne hp
  refine R0 (inj:=inj) (fun i acc H'=>∃gs:List (V × Rat),acc=gs.map (·.1)/\Dci K H1 H' l p gs c i) (Nat.le_trans hl (by decide)) ⟨[],rfl,Sx.put (Sx.refl _ _) hp,(hs.put lp).up (by omega),⟨Ac,by simp⟩,rfl,by simp⟩ ?_ ?_ ?_ ?_
  . rintro i acc H' ⟨gs,rfl,d⟩
    exact⟨by rw [List.length_map];exact d.ln,d.ql.it⟩
  . rintro i acc H' ⟨gs,rfl,d⟩
    exact hJ H' d.sx
  . rintro i e acc H2 R he ⟨gs,rfl,d⟩ hR
    have il:=(List.getElem?_eq_some_iff.mp he).1
    contradiction
    refine⟨l,_,rfl,d.sr,by omega,fun v q H3 x3 s3 iq zq=> ?_⟩
    have q3:=d.ql.sx (Ne.symm lp) x3 d.sr
    refine hR v H3 q3.it ⟨gs++ [(v,q)],by rw [List.map_append];rfl,(d.sx.trans x3).put hp,(s3.put lp).up (by omega),q3.snoc iq,by rw [List.length_append,d.ln];rfl,fun x hx=> ?_⟩
    rcases List.mem_append.mp hx with hx | hx
    . exact d.sz x hx
    . have e1:x=(v,q):=by simpa using hx
      rw [e1]
      exact zq
  . rintro acc H' ⟨gs,rfl,d⟩
    exact done gs H' d.sx d.sr d.ql d.ln d.sz
structure Rwi (K:PySem.W.Frag) (H H':Hp) (l p:Addr) (rs:List Qr) (c i u:Nat):Prop where
  sx:Sx l H H'
  sr:Src H' l (c+20*i)
  qm:Qm K H' p rs
  of:Off l p rs
  np:∀r∈rs,r.1≠p
  ln:rs.length=i
  rz:Rz rs u
theorem Rwi.snoc {H H1 H2:Hp}{l p:Addr}{rs:List Qr}{c i u:Nat}{x:Qr} (h:Rwi K H H1 l p rs c i u) (hp:H p=none) (s:Sx l H1 H2) (sr:Src H2 l (c+20*(i+1))) (nx:H1 x.1=none) (hx:Ql K H2 x.1 x.2) (xl:x.2.length=u) (xz:∀e∈x.2,Szq (bz i) e.2):Rwi K H (upd H2 p (.lst ((rs.map fun r=>V.ref r.1)++ [.ref x.1]))) l p (rs++ [x]) c (i+1) u:=by
  have m2:=h.qm.sx h.of s h.sr
  have xp:x.1≠p:=Ne.symm (Ai h.qm.it nx)
  have xl':x.1≠l:=Ne.symm (h.sr.ne nx)
  refine⟨(h.sx.trans s).put hp,sr.put (Ne.symm h.of.a),⟨by rw [Ac,List.map_append];rfl,fun r hr=> ?_⟩,⟨h.of.a,fun r hr=> ?_⟩,fun r hr=> ?_,by rw [List.length_append,h.ln];rfl,fun j r hr=> ?_⟩
  . rcases List.mem_append.mp hr with hr | hr
    . exact(m2.al r hr).keep m2.it (h.np r hr)
    . have e1:r=x:=by simpa using hr
      rw [e1]
      exact hx.keep m2.it xp
  . rcases List.mem_append.mp hr with hr | hr
    . exact h.of.r r hr
    . have e1:r=x:=by simpa using hr
      rw [e1]
      exact xl'
  . rcases List.mem_append.mp hr with hr | hr
    . exact h.np r hr
    . have e1:r=x:=by simpa using hr
      rw [e1]
      exact xp
  . by_cases hj:j<rs.length
    . rw [List.getElem?_append_left hj]at hr
      exact h.rz j r hr
    . rw [List.getElem?_append_right (by omega)]at hr
      have hj0:=(List.getElem?_eq_some_iff.mp hr).1
      rw [List.length_singleton]at hj0
      have e0:j-rs.length=0:=by omega
      rw [e0]at hr
      have e1:x=r:=by simpa using hr
      have e2:j=i:=by have:=h.ln;omega
      rw [<-e1,e2]
      exact⟨xl,xz⟩
def Qp (K:PySem.W.Frag):Sp:=fun vs H Q _=>∃(l:Addr) (c:Nat),vs=[.ref l]/\Src H l c/\c<10000/\∀z rs u H',Sx l H H'->Src H' l (c+110)->H z=none->Qm K H' z rs->Off l z rs->1<=rs.length->rs.length<=5->1<=u->u<=5->Rz rs u->Q (.ref z) H'
theorem V1 {f:Addr}{fd:FuncData} (F:Df K mg "_law_rows" Kv ["_law_source_here"] f fd) (z_range:mg "range"=none)  (c_q_next:Cal P w K mg base 34 "_law_next" ["_law_source_here","_law_many"] (El K)) (c_q_mixed_row:Cal P w K mg base 36 "_law_mixed_row" ["_law_source_here","_law_rows_here","_law_many"] (Gq K)) (c_q_drawn:Cal P w K mg base 35 "_law_drawn" ["_law_source_here"] (Dm K)):Cal P w K mg base 37 "_law_rows" ["_law_source_here"] (Qp K):=by
  refine F.cal (F.fn.ok Hs (fun vs H Q E h=> ?_) (fun cdv A outer s H vs Q E hr h=> ?_))
  . obtain⟨l,c,rfl,_⟩:=h
    rfl
  obtain⟨l,c,rfl,hs,hc,k⟩:=h
  refine S.Bf ⟨_,(S.Ad (S.Ao (i:=1) Hs.nd rfl (Or.inl rfl) (S.Ak Dg S.Ae (S.Ax c_q_next (hr.mono (by decide)) (S.Aa (S.pv 0) (S.Aa S.Ae S.Ab)))))
      (S.Ad (S.Ao (i:=2) Hs.nd rfl (Or.inl rfl) (S.Bg S.Ab))
      (S.Ad (S.Dk PassesOwn.never rfl (S.Bj rfl z_range (S.Aa (S.Ak Dg S.Ae (S.Ax c_q_next (hr.mono (by decide)) (S.Aa (S.pv 0) (S.Aa S.Ae S.Ab)))) S.Ab)) (S.Ah (i:=3) Hs.nd rfl (Or.inl rfl)) (S.Ag (S.Ei (S.Aaf (S.T6 (S.Ba (Abs hr.units) (S.pv 2) (S.Bg S.Ab) (Bh _)) (S.Nu (S.Ba Ik (S.Ax c_q_next (hr.mono (by decide)) (S.Aa (S.pv 0) (S.Aa S.Ae S.Ab))) S.Ae (Bh _))))) (S.Ag (S.Dh (S.Hj PySem.F.plainAttrs_list PySem.F.slot_list_append PySem.F.type_list_append Cq (S.pv 2) (S.Aa (S.Ax c_q_mixed_row (hr.mono (by decide)) (S.Aa (S.pv 0) (S.Aa (S.pv 2) (S.Aa (S.pv 1) S.Ab)))) S.Ab)))) (S.Ag (S.Dh (S.Hj PySem.F.plainAttrs_list PySem.F.slot_list_append PySem.F.type_list_append Cq (S.pv 2) (S.Aa (S.Ck (ts:=["_law_j"]) (fs:=[(0,"_law_source_here")]) rfl (Am.of (sc:=Af Kv) (N:=["_law_source_here","_law_many","_law_rows_here","_law_k"]) rfl rfl (by decide+kernel)) (S.Bj rfl z_range (S.Aa (S.pv 1) S.Ab)) (fun _ _ _=>(S.Ah (i:=0) (show List.Nodup (["_law_j","_law_source_here"]:List Str)by decide+kernel) rfl (Or.inl rfl))) (fun _ _ _=>S.Bk) (fun _ _ _=>(S.Ax c_q_drawn (hr.mono (by decide)) (S.Aa (S.pv 1) S.Ab)))) S.Ab)))))))
      (S.Ag (S.Ay (S.pv 2)))))),?_⟩
  contradiction
  refine Ek hs (by omega) (by decide) (by decide) fun r1 H1 r10 r15 x1 s1=> ?_
  try contradiction
  refine⟨by decide,fun p hp=> ?_⟩
  have t1:=Same.upd hp (.lst [])
  have np:H p=none:=G5 x1 s1 hp
  have lp:=s1.ne hp
  refine Ek (s1.same t1) (by omega) (by decide) (by decide) fun r2 H2 r20 r25 x2 s2=> ?_
  try contradiction
  have x02:=(x1.same t1).trans x2
  obtain⟨u,hu,u1,u5⟩:∃u:Nat,1+r1=((u:Nat):Int)/\1<=u/\u<=5:=⟨(1+r1).toNat,by omega,by omega,by omega⟩
  rw [hu]
  refine⟨by omega,by omega,?_⟩
  obtain⟨m,hm,m1,m5⟩:∃m:Nat,(1+r2).toNat=m/\1<=m/\m<=5:=⟨_,rfl,by omega,by omega⟩
  rw [hm]
  refine Acm m (fun i=> .int (0+(i:Nat))) (fun i σ' H'=>∃(rs:List Qr) (o3:Option V),σ'=[some (.ref l),some (.int (u:Nat)),some (.ref p),o3]/\Rwi K H H' l p rs (c+2) i u) ⟨[],_,rfl,x02,s2.up (by omega),⟨x2 _ _ (Ne.symm lp) Ac,by simp⟩,⟨Ne.symm lp,by simp⟩,by simp,rfl,fun i r h=>by simp at h⟩ ?_ ?_ ?_
  . rintro i σ' H' _
    exact Ej
  . rintro i σ' H3 hi ⟨rs,o3,rfl,ri⟩
    have rl:=ri.ln
    have lz:∀ {H:Hp},(rs.map fun r=>V.ref r.1).length<sizeLine:=by
      rw [List.length_map,rl]
      exact Nat.lt_of_lt_of_le (show i<6 by omega) (by decide)
    contradiction
    refine⟨by decide,fun q hq=> ?_⟩
    have tq:=Same.upd hq (.lst [])
    refine eq_nil (ri.qm.mono tq) Ac ?_
    have dr:∀H4,Sx l H3 H4->Src H4 l (c+2+20*i+1)->tyV K "list" (.ref p) H4/\ -2^62<=((u:Nat):Int)/\((u:Nat):Int)<2^62/\∀p1,H4 p1=none->cIn (Itr 0 ((u:Nat):Int).toNat) [none,some (V.ref l)] (Gy 0) Fg (Kq (Dm K) [] E0 (Ko (Ur 1) Y7)) (fun x H1=>Vl (V.ref p) [x] H1 fun x H1=>∃(rs:List Qr) (o3:Option V),[some (V.ref l),some (V.int (u:Nat)),some (V.ref p),some (V.int (0+(i:Nat)))]=[some (V.ref l),some (V.int (u:Nat)),some (V.ref p),o3]/\Rwi K H H1 l p rs (c+2) (i+1) u) H4 p1:=fun H4 x4 s4=>by
      have m4:=ri.qm.sx ri.of x4 ri.sr
      refine⟨.inl ⟨rfl,_,.of m4.it⟩,by omega,by omega,fun p1 hp1=> ?_⟩
      rw [Int.toNat_natCast]
      refine Lh (es:=List.range u) hp1 s4 (by rw [List.length_range];omega) (by omega) (fun H' _=>Ej) fun gs H5 x5 s5 q5 l5 z5=> ?_
      rw [List.length_range]at s5 l5
      exact⟨p,_,_,rfl,rfl,x5 _ _ ri.of.a m4.it,lz (H:=H),rs++ [(p1,gs)],_,rfl,ri.snoc (x:=(p1,gs)) np (x4.trans x5) (s5.up (by omega)) (G5 x4 s4 hp1) q5 l5 fun e he=>(z5 e he).mono (Aci i)⟩
    have sq:=ri.sr.same tq
    refine⟨_,rfl,?_⟩
    by_cases hn:rs=[]
    . rw [decide_eq_true hn,if_neg (by decide)]
      exact dr _ (.of tq) (sq.up (by omega))
    . rw [decide_eq_false hn,if_pos (by decide)]
      refine Ek sq (by omega) (by decide) (by decide) fun r3 H4 _ _ x4 s4=> ?_
      try contradiction
      have x34:=(Sx.of (l:=l) tq).trans x4
      by_cases h3:r3=0
      . rw [if_pos h3]
        have m4:=ri.qm.sx ri.of x34 ri.sr
        refine⟨.inl ⟨rfl,_,.of m4.it⟩,l,p,rs,u,_,rfl,s4,by omega,m4,ri.of,by omega,by omega,ri.rz,fun z es H5 x5 s5 nz q5 l5 z5=> ?_⟩
        rw [rl]at z5 s5
        exact⟨p,_,_,rfl,rfl,x5 _ _ ri.of.a m4.it,lz (H:=H),rs++ [(z,es)],_,rfl,ri.snoc (x:=(z,es)) np (x34.trans x5) (s5.up (by omega)) (G5 x34 s4 nz) q5 l5 z5⟩
      . rw [if_neg h3]
        exact dr _ x34 s4
  . rintro σ' H' ⟨rs,o3,rfl,ri⟩
    contradiction
    have rl:=ri.ln
    exact k p rs u H' ri.sx (ri.sr.up (by omega)) np ri.qm ri.of (by omega) (by omega) u1 u5 ri.rz
theorem Rz.all {rs:List Qr}{u:Nat} (h:Rz rs u) (l:rs.length<=5):∀r∈rs,r.2.length=u/\∀e∈r.2,Szq 1396 e.2:=fun r hr=>by
  obtain⟨i,hi⟩:=List.getElem?_of_mem hr
  have il:=(List.getElem?_eq_some_iff.mp hi).1
  obtain⟨a,b⟩:=h i r hi
  exact⟨a,fun e he=>(b e he).mono (Abv (by omega))⟩
theorem Yd {H1:Hp}{p a x:Addr}{Q:VK}{rs:List Qr}{xs:List (V × Rat)}{m u:Nat} (hp:H1 p=none) (hm:Qm K H1 a rs) (hx:Ql K H1 x xs) (rl:rs.length<=6) (xl:xs.length=u) (u6:u<=6) (zr:∀r∈rs,r.2.length=u/\∀e∈r.2,Szq 1396 e.2) (zx:∀e∈xs,Szq m e.2) (hl:(1396+m+1)*u+1<=134217728)
    (done:∀gs H',Same H1 H'->Ql K H' p gs->qv gs=rs.map (fun r=>dq (qv r.2) (qv xs))->(∀e∈gs,Szq ((1396+m+1)*u+1) e.2)->Q (.ref p) H'):
    cIn (Itl K a) [none,some (.ref x)] (Gy 0) Fg (Kq (Oc K) [] E0 (Ko (Ur 0) (Ko (Ur 1) Y7))) Q H1 p:=by
  refine G6 (es:=rs) (inj:=fun r=>V.ref r.1) (fun r v H=>IsQ K H v (dq (qv r.2) (qv xs))/\Szq ((1396+m+1)*u+1) (dq (qv r.2) (qv xs))) (Nat.le_trans rl (by decide)) hp (Hh (.of hm.it)) (fun e v H H' h s=>⟨h.1.mono s,h.2⟩) (fun e v H acc o h hp=>⟨h.1.put hp,h.2⟩) ?_ ?_
  . intro r H2 R hr s2 hR
    obtain⟨ru,rz⟩:=zr r hr
    contradiction
    exact⟨r.1,x,r.2,xs,1396,m,u,rfl,(hm.al r hr).mono s2,hx.mono s2,ru,xl,u6,rz,zx,hl,fun z H3 s3 h3 z3=>hR z H3 s3 ⟨h3,z3⟩⟩
  intro ns H2 nl hq s2 h2
  obtain⟨q1,q2⟩:=Rt (K:=K) (f:=fun r:Qr=>dq (qv r.2) (qv xs)) h2 nl fun i r v hr hv=>(hq i r v hr hv).1
  refine done _ H2 s2 q1 q2 fun e he=> ?_
  obtain⟨i,hi⟩:=List.getElem?_of_mem he
  obtain⟨e1,e2⟩:=List.getElem?_zip_eq_some.mp hi
  rw [List.getElem?_map]at e2
  cases er:rs[i]? with
  | none=>rw [er]at e2;cases e2
  | some r=>
    rw [er]at e2
    have e3:dq (qv r.2) (qv xs)=e.2:=by simpa using e2
    rw [<-e3]
    exact(hq i r e.1 er e1).2
def Hw (K:PySem.W.Frag):Sp:=fun vs H Q _=>∃(l a:Addr) (rs:List Qr) (u c:Nat),vs=[.ref l,.ref a]/\Src H l c/\c<10000/\Qm K H a rs/\Off l a rs/\1<=rs.length/\rs.length<=5/\1<=u/\u<=5/\Rz rs u/\
  ∀z b x es xs H',Sx l H H'->Src H' l (c+60)->H' z=some (.tup [.ref b,.ref x])->H b=none->H x=none->Ql K H' b es->es.length=rs.length->(∀e∈es,Szq 7300 e.2)->Ql K H' x xs->xs.length=u->(∀e∈xs,Szq 42 e.2)->Q (.ref z) H'
theorem Nx {f:Addr}{fd:FuncData} (F:Df K mg "_law_right_of" Ci ["_law_source_here","_law_rows_here"] f fd) (z_len:mg "len"=none)  (c_q_next:Cal P w K mg base 34 "_law_next" ["_law_source_here","_law_many"] (El K)) (c_q_drawn:Cal P w K mg base 35 "_law_drawn" ["_law_source_here"] (Dm K)) (c_q_dot:Cal P w K mg base 36 "_law_dot" ["_law_some","_law_others"] (Oc K)) (c_q_sum:Cal P w K mg base 35 "_law_sum" ["_law_one","_law_other"] (Ig K)):Cal P w K mg base 37 "_law_right_of" ["_law_source_here","_law_rows_here"] (Hw K):=by
  refine F.cal (F.fn.ok Bt (fun vs H Q E h=> ?_) (fun cdv A outer s H vs Q E hr h=> ?_))
  . obtain⟨l,a,rs,u,c,rfl,_⟩:=h
    rfl
  obtain⟨l,a,rs,u,c,rfl,hs,hc,hm,of,r1,r5,u1,u5,rz,k⟩:=h
  refine S.Bf ⟨_,(S.Ad (S.Ao (i:=2) Bt.nd rfl (Or.inr rfl) (S.Ck (ts:=["_law_k"]) (fs:=[(0,"_law_source_here")]) rfl (Am.of (sc:=Af Ci) (N:=["_law_source_here","_law_rows_here","_law_x","_law_right","_law_way","_law_at"]) rfl rfl (by decide+kernel)) (S.Bv (S.Bc Az (S.pv 1) S.Ae (fun _ _=>rfl))) (fun _ _ _=>(S.Ah (i:=0) (show List.Nodup (["_law_k","_law_source_here"]:List Str)by decide+kernel) rfl (Or.inl rfl))) (fun _ _ _=>S.Bk) (fun _ _ _=>(S.Ax c_q_drawn (hr.mono (by decide)) (S.Aa (S.pv 1) S.Ab)))))
      (S.Ad (S.Di (ts:=["_law_row"]) (fs:=[(2,"_law_x")]) rfl (Am.of (sc:=Af Ci) (N:=["_law_source_here","_law_rows_here","_law_x","_law_right","_law_way","_law_at"]) rfl rfl (by decide+kernel)) (S.Bv (S.pv 1)) (fun _ _ _=>(S.Ah (i:=0) (show List.Nodup (["_law_row","_law_x"]:List Str)by decide+kernel) rfl (Or.inl rfl))) (fun _ _ _=>S.Bk) (fun _ _ _=>(S.Ax c_q_dot (hr.mono (by decide)) (S.Aa (S.pv 0) (S.Aa (S.pv 1) S.Ab)))) (S.Ah (i:=3) Bt.nd rfl (Or.inl rfl)))
      (S.Ad (S.Ao (i:=4) Bt.nd rfl (Or.inl rfl) (S.Ax c_q_next (hr.mono (by decide)) (S.Aa (S.pv 0) (S.Aa S.Ae S.Ab))))
      (S.Ad (S.Ei (S.Ba Ik (S.pv 4) S.Ae (Bh _)) (S.Ad (S.Ao (i:=5) Bt.nd rfl (Or.inl rfl) (S.Ax c_q_next (hr.mono (by decide)) (S.Aa (S.pv 0) (S.Aa (S.Br Aj rfl z_len PySem.boot_len (S.Aa (S.pv 1) S.Ab)) S.Ab))))
      (S.Ag (S.Dj (S.Ax c_q_sum (hr.mono (by decide)) (S.Aa (S.Bc Az (S.pv 3) (S.pv 5) (fun _ _=>rfl)) (S.Aa (S.Ax c_q_drawn (hr.mono (by decide)) (S.Aa (S.pv 0) S.Ab)) S.Ab))) (S.Gs (S.pv 3) (S.pv 5) set_list)))) S.Bm)
      (S.Ad (S.Ei (S.Ba Ik (S.pv 4) S.Ae (Bh _)) (S.Ag (S.Di (ts:=["_law_row"]) (fs:=[(0,"_law_source_here")]) rfl (Am.of (sc:=Af Ci) (N:=["_law_source_here","_law_rows_here","_law_x","_law_right","_law_way","_law_at"]) rfl rfl (by decide+kernel)) (S.Bv (S.pv 1)) (fun _ _ _=>(S.Ah (i:=0) (show List.Nodup (["_law_row","_law_source_here"]:List Str)by decide+kernel) rfl (Or.inl rfl))) (fun _ _ _=>S.Bk) (fun _ _ _=>(S.Ax c_q_drawn (hr.mono (by decide)) (S.Aa (S.pv 1) S.Ab))) (S.Ah (i:=3) Bt.nd rfl (Or.inl rfl)))) S.Bm)
      (S.Ag (S.Ay (S.Bb (S.Aa (S.pv 3) (S.Aa (S.pv 2) S.Ab)))))))))),?_⟩
  contradiction
  obtain⟨r0,er0⟩:∃r0,rs[0]? =some r0:=⟨_,List.getElem?_eq_getElem (by omega)⟩
  have rm0:=List.mem_of_getElem? er0
  have ra:=rz.all r5
  refine Bw (.of hm.it) (v:= .ref r0.1) (Aw (j:=0) (by rw [List.getElem?_map,er0];rfl)) ?_
  try contradiction
  have r0u:=(ra r0 rm0).1
  have q0:=hm.al r0 rm0
  have rlz:rs.length<=sizeLine:=Nat.le_trans r5 (by decide)
  refine⟨⟨_,.of q0.it⟩,fun px hpx=> ?_⟩
  refine Lh (es:=r0.2) (inj:=(·.1)) hpx hs (by omega) (by omega) (fun H' x'=>Dd (.of (x' _ _ (of.r r0 rm0) q0.it))) fun xs H1 x1 s1 qx lx zx=> ?_
  rw [r0u]at s1 lx
  have m1:=hm.sx of x1 hs
  refine⟨⟨_,.of m1.it⟩,fun pb hpb=> ?_⟩
  refine Yd hpb m1 qx (by omega) lx (by omega) ra zx (by omega) fun es H2 s2 qb eb zb=> ?_
  have s12:=s1.same s2
  have el:es.length=rs.length:=by
    have:=congrArg List.length eb
    rw [List.length_map,List.length_map]at this
    exact this
  have lb:=s1.ne hpb
  have lx':=hs.ne hpx
  have nb:H pb=none:=G5 x1 s1 hpb
  refine Ek s12 (by omega) (by decide) (by decide) fun w H3 w0 w4 x3 s3=> ?_
  have x03:=(x1.same s2).trans x3
  have qb3:=qb.sx (Ne.symm lb) x3 s12
  have qx3:=(qx.mono s2).sx (Ne.symm lx') x3 s12
  have m3:=hm.sx of x03 hs
  have zb':∀e∈es,Szq 7196 e.2:=fun e he=>(zb e he).mono (by omega)
  try contradiction
  by_cases h0:w=0
  . rw [if_pos h0]
    refine⟨a,_,rfl,.inl (.of m3.it),?_⟩
    rw [List.length_map]
    refine Ek s3 (by omega) (by omega) (by omega) fun t H4 t0 t1 x4 s4=> ?_
    obtain⟨j,rfl⟩:∃j:Nat,t=(j:Nat):=⟨t.toNat,by omega⟩
    obtain⟨e,ee⟩:∃e,es[j]? =some e:=⟨_,List.getElem?_eq_getElem (by omega)⟩
    have em:=List.mem_of_getElem? ee
    have qb4:=qb3.sx (Ne.symm lb) x4 s3
    have qx4:=qx3.sx (Ne.symm lx') x4 s3
    refine Bw (.of qb4.it) (v:=e.1) (Aw (by rw [List.getElem?_map,ee];rfl)) ?_
    refine⟨l,_,rfl,s4,by omega,fun v q H5 x5 s5 iq zq=> ?_⟩
    have qb5:=qb4.sx (Ne.symm lb) x5 s4
    have qx5:=qx4.sx (Ne.symm lx') x5 s4
    refine⟨_,_,e.2,q,7196,42,rfl,qb5.al e em,iq,zb' e em,zq,by omega,fun y H6 s6 h6=> ?_⟩
    have qb6:=qb5.mono s6
    have qx6:=qx5.mono s6
    refine Rf (j:=j) qb6.it (by rw [List.length_map];omega) ?_
    have q7:=qb6.put (c:=j) h6
    have pxb:px≠pb:=Ai qx.it hpb
    have qx7:Ql K (upd H6 pb (.lst ((es.map (·.1)).set j y))) px xs:=qx6.keep qb6.it pxb
    have s7:Src (upd H6 pb (.lst ((es.map (·.1)).set j y))) l (c+60):=((s5.same s6).put lb).up (by omega)
    have x7:Sx l H (upd H6 pb (.lst ((es.map (·.1)).set j y))):=(((x03.trans x4).trans x5).same s6).put nb
    generalize upd H6 pb (.lst ((es.map (·.1)).set j y))=H7 at q7 qx7 s7 x7
    try contradiction
    rw [if_neg (by omega)]
    intro z hz
    have tz:=Same.upd hz (.tup [V.ref pb,V.ref px])
    refine k z pb px _ xs _ (x7.same tz) (s7.same tz) Ac nb hpx (q7.mono tz) (by rw [List.length_set];exact el) (fun e' he'=> ?_) (qx7.mono tz) lx zx
    rcases List.mem_or_eq_of_mem_set he' with h | h
    . exact(zb' e' h).mono (by omega)
    . rw [h]
      exact((zb' e em).add zq).mono (by omega)
  . rw [if_neg h0]
    by_cases h1:w=1
    . try contradiction
      rw [if_pos h1]
      refine⟨⟨_,.of m3.it⟩,fun p2 hp2=> ?_⟩
      refine Lh (es:=rs) (inj:=fun r=>V.ref r.1) hp2 s3 (by omega) (by omega) (fun H' x'=>Dd (.of (x' _ _ of.a m3.it))) fun gs H4 x4 s4 q4 l4 z4=> ?_
      have qx4:=qx3.sx (Ne.symm lx') x4 s3
      intro z hz
      have tz:=Same.upd hz (.tup [V.ref p2,V.ref px])
      exact k z p2 px gs xs _ ((x03.trans x4).same tz) ((s4.same tz).up (by omega)) Ac (G5 x03 s3 hp2) hpx (q4.mono tz) l4 (fun e he=>(z4 e he).mono (by omega)) (qx4.mono tz) lx zx
    . try contradiction
      rw [if_neg h1]
      intro z hz
      have tz:=Same.upd hz (.tup [V.ref pb,V.ref px])
      exact k z pb px es xs _ (x03.same tz) ((s3.same tz).up (by omega)) Ac nb hpx (qb3.mono tz) el (fun e he=>(zb' e he).mono (by omega)) (qx3.mono tz) lx zx
theorem Ql.ne {H:Hp}{l a:Addr}{es:List (V × Rat)}{c:Nat} (h:Ql K H a es) (hl:Src H l c):a≠l:=by
  rintro rfl
  obtain⟨x,y,z,k,e,_⟩:=hl
  have h1:=h.it
  rw [e]at h1
  cases es with
  | nil=>simp at h1
  | cons e0 es=>
    obtain⟨b,eb,_⟩:=h.al e0 (.head _)
    simp [eb]at h1
theorem Qm.ne {H:Hp}{l a:Addr}{rs:List Qr}{c:Nat} (h:Qm K H a rs) (hl:Src H l c):Off l a rs:=by
  refine⟨?_,fun r hr=>(h.al r hr).ne hl⟩
  rintro rfl
  obtain⟨x,y,z,k,e,_⟩:=hl
  have h1:=h.it
  rw [e]at h1
  cases rs with
  | nil=>simp at h1
  | cons r rs=>simp at h1
def Bad (l:Addr->Prop) (H:Hp) (v w:V):Prop:=∃(o:Option (List Lr)) (u:Option (List V)),Rws l H v o/\Lv l H w u/\good o u=false
def Fb (K:PySem.W.Frag):Sp:=fun vs H _ E=>∃(l:Addr->Prop) (v w x:V),vs=[v,w,x]/\Bad l H v w/\∀H',Same H H'->E (.ref (cA K "NoShape")) none H'
theorem Lq {f:Addr}{fd:FuncData} (F:Df K mg "solved_right" Ef ["rows","right","paper"] f fd) (z_len:mg "len"=none) (z_isinstance:mg "isinstance"=none) (z_tuple:mg "tuple"=none) (z_str:mg "str"=none)  (ce_refuse_shapes:Q8 P w K mg base 34 "refuse_shapes" ["rows","right"] (Cv K)):Q8 P w K mg base 35 "solved_right" ["rows","right","paper"] (Fb K):=by
  refine F.calE (F.fn.okE Ld (fun vs H Q E h=> ?_) (fun cdv A outer s H vs Q E hr h=> ?_))
  . obtain⟨l,v,w,x,rfl,_⟩:=h
    rfl
  obtain⟨l,v,w,x,rfl,⟨o,u,h1,h2,g⟩,kx⟩:=h
  refine S.Bf ⟨_,(S.Ad (S.Dh (S.Dw ce_refuse_shapes (hr.mono (by decide)) (S.Aa (S.pv 0) (S.Aa (S.pv 1) S.Ab))))
      (S.Ad S.Hi
      (S.Ad S.Hi
      (S.Ag S.Hi)))),?_⟩
  simp only [Qo,Ja,Qa,Og,Jc,Qg,Fo,Ou,Jo,Jr,z_c,W5,Yq,Y8,Oh,Ym,Ph,Qv,Px,Q6,Gp,Yl,Q0,Oq,O8,Jt,J0,Qq,Qu,Yt,J2,O5,Kd,Yh,Jf,Pk,Ka,Y4,Qf,Qk,Gb,J6,Kf,Jl,Gh,Jp,Qs,O2,Qt,Pj,Yr,Du,Jx,Q5,Y5,Qe,Jh,Qz,Pg,Je,Ox,Jg,Jw,J4,Fj,Qn,Fy,J1,Kc,Jd,Fq,Ju,Fp,Pb,Jy,Qc,Ji,J8,Kh,Gd,Ec,Fv,Jq,Py,Jb,Jk,Fl,Kg,Zc,cpσ,List.getElem?_cons_zero,List.getElem?_cons_succ,Option.join_some,List.set_cons_zero,List.set_cons_succ,List.append_nil,decide_eq_true_eq,Bool.not_eq_true',decide_eq_false_iff_not,Bool.not_not,ite_not,Bool.false_eq_true,Bool.true_eq_false,if_false,if_true,if_pos,List.length_cons,List.length_nil,Nat.zero_add,Nat.reduceAdd,Jz,Ke,true_and,and_true,L2.start,List.map_cons,List.map_nil,Bool.not_true,Bool.not_false,Nat.reduceSub,List.replicate_succ,List.replicate_zero,List.cons_append,List.nil_append]
  exact⟨l,v,w,o,u,rfl,h1,h2,fun z=>(by rw [g]at z;cases z),fun _=>kx⟩
structure Eqq (K:PySem.W.Frag) (H:Hp) (a b:Addr) (rs:List Qr) (es:List (V × Rat)) (u n:Nat):Prop where
  qm:Qm K H a rs
  qb:Ql K H b es
  el:es.length=rs.length
  r1:1<=rs.length
  r6:rs.length<=6
  u1:1<=u
  u6:u<=6
  sr:∀r∈rs,r.2.length=u/\∀e∈r.2,Szq n e.2
  sb:∀e∈es,Szq n e.2
  n9:n<=9000
theorem Eqq.solved {H:Hp}{Q:VK}{E:XK}{a b:Addr}{rs:List Qr}{es:List (V × Rat)}{u n:Nat} (h:Eqq K H a b rs es u n) (k1:∀z H' (y:V),Same H H'->H' z=some (.tup [.str "none",y])->(∀q:List Rat,q.length=u->(rs.map fun r=>qv r.2).map (dq · q)≠qv es)->Q (.ref z) H')
    (k2:∀z H' ax af ab xs fr bs,H af=none->Same H H'->Told K H' z (rs.map fun r=>qv r.2) (qv es) u ((n*11+2)*2^u) ax af ab xs fr bs->Q (.ref z) H'):Ho K [.ref a,.ref b] H Q E:=⟨a,b,rs,es,u,n,rfl,h.qm,h.qb,h.el,h.r1,h.r6,h.u1,h.u6,h.sr,h.sb,h.n9,k1,k2⟩
theorem Bad.mono {l:Addr->Prop}{H H':Hp}{v w:V} (h:Bad l H v w) (s:Same H H'):Bad l H' v w:=by
  obtain⟨o,u,h1,h2,g⟩:=h
  refine⟨o,u,?_,h2.mono s,g⟩
  cases h1 with
  | lst n h al le=>exact .lst n (s _ _ h) (fun e he=>(al e he).mono s) le
  | no h=>exact .no (h.mono s)
def Ov (K:PySem.W.Frag):Sp:=fun vs H Q _=>∃(c:Int) (v w:V),vs=[.int c,v,w]/\((∃l,Bad l H v w/\∀H',Same H H'->Q (.bl true) H')\/(c=0/\∃a b rs es u n,v= .ref a/\w= .ref b/\Eqq K H a b rs es u n/\∀H',Same H H'->Q .non H'))
theorem V4 {f:Addr}{fd:FuncData} (F:Df K mg "_law_said" Nv ["_law_way","_law_rows_here","_law_right"] f fd) (z_isinstance:mg "isinstance"=none) (xk_CourtError:Q9 K (cA K "CourtError")) (xm_CourtError:mg "CourtError"=some (.ref (cA K "CourtError"))) (xk_NoShape:Q9 K (cA K "NoShape")) (xi_NoShape:Tw K (cA K "NoShape")) (xs_NoShape_CourtError:PySem.W.mroIn K (cA K "NoShape") (.ref (cA K "CourtError"))=some true) (xm_NoShape:mg "NoShape"=some (.ref (cA K "NoShape"))) (ki_NoShape_NoShape:PySem.W.kitOne K (.ref (cA K "NoShape")) (.ref (cA K "NoShape"))=some true) (xm_NoPart:mg "NoPart"=some (.ref (cA K "NoPart"))) (ki_NoShape_NoPart:PySem.W.kitOne K (.ref (cA K "NoShape")) (.ref (cA K "NoPart"))=some false) (xm_NoText:mg "NoText"=some (.ref (cA K "NoText"))) (ki_NoShape_NoText:PySem.W.kitOne K (.ref (cA K "NoShape")) (.ref (cA K "NoText"))=some false) (ce_solved:Q8 P w K mg base 36 "solved" ["rows","right"] (Ir K)) (ce_solved_right:Q8 P w K mg base 35 "solved_right" ["rows","right","paper"] (Fb K)):Cal P w K mg base 37 "_law_said" ["_law_way","_law_rows_here","_law_right"] (Ov K):=by
  refine F.cal (F.fn.ok Qh (fun vs H Q E h=> ?_) (fun cdv A outer s H vs Q E hr h=> ?_))
  . obtain⟨c,v,w,rfl,_⟩:=h
    rfl
  obtain⟨c,v,w,rfl,h⟩:=h
  refine S.Bf ⟨_,(S.Ad (S.Cw (i:=3) (Cs:=[cA K "NoShape"]) (S.Zd (S.Ba Ik (S.pv 0) S.Ae (Bh _)) (S.Gg ce_solved (hr.mono (by decide)) (S.Aa (S.pv 1) (S.Aa (S.pv 2) S.Ab)) S.Ga) (S.Gg ce_solved_right (hr.mono (by decide)) (S.Aa (S.pv 1) (S.Aa (S.pv 2) (S.Aa (S.Bb (S.Aa S.Il (S.Aa (S.Bg S.Ab) S.Ab))) S.Ab))) S.Ga)) xk_CourtError xm_CourtError (Ad0 ⟨xk_NoShape,xi_NoShape,xs_NoShape_CourtError⟩ Ad1) (fun Cx hxi x oe hc=>(S.Ag (S.Ay (S.Lw (S.Br (Lx (List.mem_cons_self ..) hc hxi) rfl z_isinstance PyProof.Rows.boot_isinstance (S.Aa (S.pv 3) (S.Aa (S.Ed (v:= .ref (cA K "NoShape")) rfl xm_NoShape rfl) S.Ab))) (S.Lw (S.Tz (S.Br (Lx (List.mem_cons_self ..) hc hxi) rfl z_isinstance PyProof.Rows.boot_isinstance (S.Aa (S.pv 3) (S.Aa (S.Ed (v:= .ref (cA K "NoPart")) rfl xm_NoPart rfl) S.Ab)))) (S.Om (S.Tz (S.Br (Lx (List.mem_cons_self ..) hc hxi) rfl z_isinstance PyProof.Rows.boot_isinstance (S.Aa (S.pv 3) (S.Aa (S.Ed (v:= .ref (cA K "NoText")) rfl xm_NoText rfl) S.Ab)))))))))) Qh.nd rfl)
      (S.Ag (S.Ay S.Ls))),?_⟩
  contradiction
  have tell:∀(R:Bool->Prop) (x:Addr),R true->∃b,((∃C2,[V.ref x,V.ref (cA K "NoShape")]=[V.ref x,V.ref C2]/\PySem.W.kitOne K (.ref (cA K "NoShape")) (.ref C2)=some b)\/∃T,[V.ref x,V.ref (cA K "NoShape")]=[V.ref x,V.ty T]/\PySem.W.kitOne K (.ref (cA K "NoShape")) (.type T)=some b)/\
      if b=true then ∃b,((∃C2,[V.ref x,V.ref (cA K "NoPart")]=[V.ref x,V.ref C2]/\PySem.W.kitOne K (.ref (cA K "NoShape")) (.ref C2)=some b)\/∃T,[V.ref x,V.ref (cA K "NoPart")]=[V.ref x,V.ty T]/\PySem.W.kitOne K (.ref (cA K "NoShape")) (.type T)=some b)/\
        if b=false then ∃b,((∃C2,[V.ref x,V.ref (cA K "NoText")]=[V.ref x,V.ref C2]/\PySem.W.kitOne K (.ref (cA K "NoShape")) (.ref C2)=some b)\/∃T,[V.ref x,V.ref (cA K "NoText")]=[V.ref x,V.ty T]/\PySem.W.kitOne K (.ref (cA K "NoShape")) (.type T)=some b)/\R (!b)
        else R false else R false:=fun R x r=>by
    refine⟨true,.inl ⟨_,rfl,ki_NoShape_NoShape⟩,?_⟩
    rw [if_pos rfl]
    refine⟨false,.inl ⟨_,rfl,ki_NoShape_NoPart⟩,?_⟩
    rw [if_pos rfl]
    exact⟨false,.inl ⟨_,rfl,ki_NoShape_NoText⟩,r⟩
  rcases h with⟨l,bad,k⟩ | ⟨rfl,a,b,rs,es,u,n,rfl,rfl,eq,k⟩
  . by_cases c0:c=0
    . rw [if_pos c0]
      obtain⟨o,u,h1,h2,g⟩:=bad
      exact .inl ⟨l,v,w,o,u,rfl,h1,h2,g,fun H' s'=>⟨_,rfl,List.mem_singleton.mpr rfl,fun x oe _=>tell (fun b=>Q (.bl b) H') x (k _ s')⟩⟩
    . rw [if_neg c0]
      refine⟨by decide,fun p hp q hq=> ?_⟩
      have sq:=(Same.upd hp (.lst [])).trans (Same.upd hq (.tup [V.str "none",V.ref p]))
      exact⟨l,v,w,_,rfl,bad.mono sq,fun H' s'=>⟨_,rfl,List.mem_singleton.mpr rfl,fun x oe _=>tell (fun b=>Q (.bl b) H') x (k _ (sq.trans s'))⟩⟩
  . rw [if_pos rfl]
    exact .inr (eq.solved (fun z H' y s' _ _=>k _ s') fun z H' _ _ _ _ _ _ _ s' _=>k _ s')
theorem Lv.sx {l:Addr}{H H':Hp}{v:V}{o:Option (List V)}{c:Nat} (h:Lv (· ≠l) H v o) (s:Sx l H H') (hl:Src H l c):Lv (· ≠l) H' v o:=by
  obtain⟨acc,hl'⟩:=hl.lst
  cases h with
  | lst n h=>exact .lst n (s _ _ n h)
  | tup h=>exact .tup (s _ _ (Rx h hl' (by intro z;cases z)) h)
  | int i=>exact .int i
  | non=>exact .non
theorem Bad.sx {l:Addr}{H H':Hp}{v w:V}{c:Nat} (h:Bad (· ≠l) H v w) (s:Sx l H H') (hl:Src H l c):Bad (· ≠l) H' v w:=by
  obtain⟨o,u,h1,h2,g⟩:=h
  refine⟨o,u,?_,h2.sx s hl,g⟩
  cases h1 with
  | lst n h al le=>exact .lst n (s _ _ n h) (fun e he=>(al e he).sx s hl) le
  | no h=>exact .no (h.sx s hl)
def Uv (l:Addr->Prop) (H:Hp) (x:V):Prop:=∃(p:Addr) (v w:V),x= .ref p/\H p=some (.tup [v,w])/\Bad l H v w
theorem Uv.mono {l:Addr->Prop}{H H':Hp}{x:V} (h:Uv l H x) (s:Same H H'):Uv l H' x:=by
  obtain⟨p,v,w,e,hp,b⟩:=h
  exact⟨p,v,w,e,s _ _ hp,b.mono s⟩
theorem Lv.via {N N':Addr->Prop}{H H':Hp}{v:V}{o:Option (List V)} (h:Lv N H v o) (f:∀a xs,N a->H a=some (.lst xs)->N' a/\H' a=some (.lst xs)) (g:∀a xs,H a=some (.tup xs)->H' a=some (.tup xs)):Lv N' H' v o:=by
  cases h with
  | lst n h=>exact .lst (f _ _ n h).1 (f _ _ n h).2
  | tup h=>exact .tup (g _ _ h)
  | int i=>exact .int i
  | non=>exact .non
theorem Uv.via {N N':Addr->Prop}{H H':Hp}{x:V} (h:Uv N H x) (f:∀a xs,N a->H a=some (.lst xs)->N' a/\H' a=some (.lst xs)) (g:∀a xs,H a=some (.tup xs)->H' a=some (.tup xs)):Uv N' H' x:=by
  obtain⟨p,v,w,e,hp,o,u,h1,h2,gd⟩:=h
  refine⟨p,v,w,e,g _ _ hp,o,u,?_,h2.via f g,gd⟩
  cases h1 with
  | lst n h al le=>exact .lst (f _ _ n h).1 (f _ _ n h).2 (fun e he=>(al e he).via f g) le
  | no h=>exact .no (h.via f g)
abbrev Tt (l q:Addr):Addr->Prop:=fun a=>a≠l/\a≠q
theorem Vg {l q:Addr}{H:Hp} (n:H q=none):∀a xs,a≠l->H a=some (.lst xs)->Tt l q a/\H a=some (.lst xs):=fun _ _ h e=>⟨⟨h,Ai e n⟩,e⟩
theorem Hq {l q:Addr}{H:Hp}{o:HO}:∀a xs,Tt l q a->H a=some (.lst xs)->Tt l q a/\upd H q o a=some (.lst xs):=fun a xs h e=>⟨h,by rw [Al h.2];exact e⟩
theorem G8 {q:Addr}{H:Hp}{o:HO}{acc:List V} (hq:H q=some (.lst acc)):∀a xs,H a=some (.tup xs)->upd H q o a=some (.tup xs):=fun a xs e=>by
  rw [Al (Rx e hq (by intro z;cases z))]
  exact e
theorem Aah {l q:Addr}{H H':Hp} (s:Sx l H H'):∀a xs,Tt l q a->H a=some (.lst xs)->a≠l/\H' a=some (.lst xs):=fun a xs h e=>⟨h.1,s _ _ h.1 e⟩
theorem Abo {l:Addr}{H H':Hp}{c:Nat} (s:Sx l H H') (hl:Src H l c):∀a xs,H a=some (.tup xs)->H' a=some (.tup xs):=fun a xs e=>by
  obtain⟨acc,hl'⟩:=hl.lst
  exact s _ _ (Rx e hl' (by intro z;cases z)) e
abbrev lr (rs:List Qr):List Lr:=rs.map fun r=>(V.ref r.1,some (r.2.map (·.1)))
theorem Ze {H:Hp}{a l:Addr}{rs:List Qr}{c:Nat} (h:Qm K H a rs) (hl:Src H l c):∀e∈lr rs,Lv (· ≠l) H e.1 e.2:=fun e he=>by
  obtain⟨r,hr,rfl⟩:=List.mem_map.mp he
  exact .lst ((h.al r hr).ne hl) (h.al r hr).it
theorem Y9 (rs:List Qr):(lr rs).map (·.1)=rs.map fun r=>V.ref r.1:=by rw [List.map_map];rfl
theorem T7 (rs:List Qr):(lr rs).length=rs.length:=List.length_map _
theorem Yw {H:Hp}{a l:Addr}{rs:List Qr}{c:Nat} (h:Qm K H a rs) (hl:Src H l c) (r5:rs.length<=6):Rws (· ≠l) H (.ref a) (some (lr rs)):= .lst (h.ne hl).a (by rw [Y9];exact h.it) (Ze h hl) (by rw [T7];omega)
theorem Xf {b:Bool} (h:b=true->False):b=false:=by
  cases b with
  | false=>rfl
  | true=>exact(h rfl).elim
theorem g_row {es:List Lr}{w:Option (List V)}{e:Lr} (he:e∈es) (h:lo e.2 1 6=false):good (some es) w=false:=Xf fun g=>by
  rw [Cj]at g
  simp only [Bool.and_eq_true,List.all_eq_true]at g
  have:=g.1.1.2 e he
  rw [h]at this
  cases this
theorem g_num {es:List Lr}{w:Option (List V)} (h:¬(1<=es.length/\es.length<=6)):good (some es) w=false:=Xf fun g=>by
  rw [Cj]at g
  simp only [Bool.and_eq_true,decide_eq_true_eq]at g
  exact h g.1.1.1
theorem Xu {es:List Lr}{w:Option (List V)}{e f:Lr} (he:e∈es) (hf:f∈es) (h:lnO e.2≠lnO f.2):good (some es) w=false:=Xf fun g=>by
  rw [Cj]at g
  simp only [Bool.and_eq_true,List.all_eq_true,decide_eq_true_eq]at g
  exact h ((g.1.2 e he).trans (g.1.2 f hf).symm)
theorem Nt {es:List Lr}{w:Option (List V)} (h:lo w es.length es.length=false):good (some es) w=false:=by
  rw [Cj,h,Bool.and_false]
theorem Abp {xs:List V}{n:Nat} (h:xs.length≠n):lo (some xs) n n=false:=Xf fun g=>by
  rw [Ge]at g
  simp only [Bool.and_eq_true,decide_eq_true_eq]at g
  omega
abbrev ins (rs:List Qr) (j:Nat) (x:Lr):List Lr:=(lr rs).take j++ [x]++(lr rs).drop (j+1)
theorem Vm (rs:List Qr) (j:Nat) (x:Lr):(ins rs j x).map (·.1)=(rs.map fun r=>V.ref r.1).take j++ [x.1]++(rs.map fun r=>V.ref r.1).drop (j+1):=by
  rw [List.map_append,List.map_append,List.map_take,List.map_drop,Y9]
  rfl
theorem W3 {rs:List Qr}{j:Nat} (x:Lr) (h:j<rs.length):(ins rs j x).length=rs.length:=by
  rw [List.length_append,List.length_append,List.length_take,List.length_drop,T7,List.length_singleton]
  omega
theorem Wc (rs:List Qr) (j:Nat) (x:Lr):x∈ins rs j x:=List.mem_append_left _ (List.mem_append_right _ (.head _))
theorem Yn {rs:List Qr}{j:Nat}{x:Lr}{P:Lr->Prop} (h:∀e∈lr rs,P e) (hx:P x):∀e∈ins rs j x,P e:=fun e he=>by
  rcases List.mem_append.mp he with he | he
  . rcases List.mem_append.mp he with he | he
    . exact h e (List.mem_of_mem_take he)
    . rw [List.mem_singleton.mp he]
      exact hx
  . exact h e (List.mem_of_mem_drop he)
theorem Xg {xs:List V}:∃ys:List V,Uq xs none (some (-1))=ys/\(0<xs.length->ys.length≠xs.length):=by
  refine⟨_,rfl,fun h=> ?_⟩
  unfold Uq
  rw [List.length_take,List.length_drop]
  have e:HT.sIx xs.length xs.length (some (-1))<xs.length:=by
    unfold HT.sIx
    simp
    omega
  omega
structure Mk (K:PySem.W.Frag) (H H':Hp) (l a b:Addr) (rs:List Qr) (es:List (V × Rat)) (u n c:Nat):Prop where
  sx:Sx l H H'
  sr:Src H' l (c+1)
  eq:Eqq K H' a b rs es u n
theorem Eqq.mono {H H':Hp}{a b:Addr}{rs:List Qr}{es:List (V × Rat)}{u n:Nat} (h:Eqq K H a b rs es u n) (s:Same H H'):Eqq K H' a b rs es u n:={ h with qm:=h.qm.mono s,qb:=h.qb.mono s}
theorem Mk.mono {H H1 H':Hp}{l a b:Addr}{rs:List Qr}{es:List (V × Rat)}{u n c:Nat} (h:Mk K H H1 l a b rs es u n c) (s:Same H1 H'):Mk K H H' l a b rs es u n c:=⟨h.sx.same s,h.sr.same s,h.eq.mono s⟩
structure Lp (K:PySem.W.Frag) (H H':Hp) (l a b q:Addr) (rs:List Qr) (es:List (V × Rat)) (c:Nat) (xs:List V):Prop where
  sx:Sx l H H'
  sr:Src H' l (c+1)
  na:Tt l q a
  ga:H' a=some (.lst (rs.map fun r=>V.ref r.1))
  al:∀e∈lr rs,Lv (Tt l q) H' e.1 e.2
  lb:Lv (Tt l q) H' (.ref b) (some (es.map (·.1)))
  gq:H' q=some (.lst xs)
  ok:∀x∈xs,Uv (Tt l q) H' x
theorem Lp.mono {H H1 H2:Hp}{l a b q:Addr}{rs:List Qr}{es:List (V × Rat)}{c:Nat}{xs:List V} (h:Lp K H H1 l a b q rs es c xs) (s:Same H1 H2):Lp K H H2 l a b q rs es c xs:=⟨h.sx.same s,h.sr.same s,h.na,s _ _ h.ga,fun e he=>(h.al e he).mono s,h.lb.mono s,s _ _ h.gq,fun x hx=>(h.ok x hx).mono s⟩
theorem Lp.put {H H1:Hp}{l a b q:Addr}{rs:List Qr}{es:List (V × Rat)}{c:Nat}{xs:List V}{x:V} (h:Lp K H H1 l a b q rs es c xs) (hx:Uv (Tt l q) H1 x) (n:H q=none) (ql:q≠l):Lp K H (upd H1 q (.lst (xs++ [x]))) l a b q rs es c (xs++ [x]):=by
  refine⟨h.sx.put n,h.sr.put (Ne.symm ql),h.na,?_,fun e he=>(h.al e he).via Hq (G8 h.gq),h.lb.via Hq (G8 h.gq),Ac,fun y hy=> ?_⟩
  . rw [Al h.na.2]
    exact h.ga
  . rcases List.mem_append.mp hy with hy | hy
    . exact(h.ok y hy).via Hq (G8 h.gq)
    . rw [List.mem_singleton.mp hy]
      exact hx.via Hq (G8 h.gq)
def Tr (K:PySem.W.Frag):Sp:=fun vs H Q _=>∃(l a b:Addr) (rs:List Qr) (es:List (V × Rat)) (u n c:Nat),vs=[.ref l,.ref a,.ref b]/\Src H l c/\c<10000/\Eqq K H a b rs es u n/\rs.length<=5/\u<=5/\∀z v w H',Sx l H H'->Src H' l (c+2)->H' z=some (.tup [v,w])->Bad (· ≠l) H' v w->Q (.ref z) H'
theorem Xd {f:Addr}{fd:FuncData} (F:Df K mg "_law_bad" R7 ["_law_source_here","_law_rows_here","_law_right"] f fd) (z_len:mg "len"=none) (z_tuple:mg "tuple"=none) (z_list:mg "list"=none)  (c_q_next:Cal P w K mg base 34 "_law_next" ["_law_source_here","_law_many"] (El K)):Cal P w K mg base 35 "_law_bad" ["_law_source_here","_law_rows_here","_law_right"] (Tr K):=by
  refine F.cal (F.fn.ok Dv (fun vs H Q E h=> ?_) (fun cdv A outer s H vs Q E hr h=> ?_))
  . obtain⟨l,a,b,rs,es,u,n,c,rfl,_⟩:=h
    rfl
  obtain⟨l,a,b,rs,es,u,n,c,rfl,hs,hc,eq,r5,u5,k⟩:=h
  refine S.Bf ⟨_,(S.Ad (S.Ao (i:=3) Dv.nd rfl (Or.inl rfl) (S.Ax c_q_next (hr.mono (by decide)) (S.Aa (S.pv 0) (S.Aa (S.Br Aj rfl z_len PySem.boot_len (S.Aa (S.pv 1) S.Ab)) S.Ab))))
      (S.Ad (S.Ao (i:=4) Dv.nd rfl (Or.inl rfl) (S.Ak Ms (S.Bg (S.Aa (S.Bb (S.Aa S.Ae (S.Aa S.Ae S.Ab))) S.Ab)) S.Ae))
      (S.Ad (S.Ao (i:=5) Dv.nd rfl (Or.inl rfl) (S.Ak Em (S.Ak Em (S.Cd Es (S.pv 1) S.Dn (S.Cr (S.pv 3))) (S.Bg (S.Aa (S.Ak Em (S.Bc Az (S.pv 1) (S.pv 3) (fun _ _=>rfl)) (S.Bg (S.Aa (S.Bb (S.Aa S.Ae (S.Aa S.Ae S.Ab))) S.Ab))) S.Ab))) (S.Cd Es (S.pv 1) (S.Cr (S.Ak Dg (S.pv 3) S.Ae)) S.Dn)))
      (S.Ad (S.Ao (i:=6) Dv.nd rfl (Or.inl rfl) (S.Bg (S.Aa (S.Bb (S.Aa (S.Bg S.Ab) (S.Aa (S.Bg S.Ab) S.Ab))) (S.Aa (S.Bb (S.Aa (S.Ak Em (S.pv 5) (S.Bg (S.Aa (S.Bc Az (S.pv 1) S.Ae (fun _ _=>rfl)) S.Ab))) (S.Aa (S.Ak Em (S.pv 2) (S.Bg (S.Aa (S.Bb (S.Aa S.Ae (S.Aa S.Ae S.Ab))) S.Ab))) S.Ab))) (S.Aa (S.Bb (S.Aa (S.pv 1) (S.Aa (S.Ak Em (S.pv 2) (S.Bg (S.Aa (S.Bb (S.Aa S.Ae (S.Aa S.Ae S.Ab))) S.Ab))) S.Ab))) (S.Aa (S.Bb (S.Aa (S.pv 1) (S.Aa (S.Cd Es (S.pv 2) S.Dn (S.Cr (S.W4 U3 S.Ae))) S.Ab))) S.Ab))))))
      (S.Ad (S.Ao (i:=6) Dv.nd rfl (Or.inl rfl) (S.Ak Em (S.pv 6) (S.Bg (S.Aa (S.Bb (S.Aa (S.Ak Ms (S.Bg (S.Aa (S.pv 4) S.Ab)) (S.Br Aj rfl z_len PySem.boot_len (S.Aa (S.pv 1) S.Ab))) (S.Aa (S.pv 2) S.Ab))) (S.Aa (S.Bb (S.Aa (S.Ak Ms (S.Bg (S.Aa (S.Bg S.Ab) S.Ab)) (S.Br Aj rfl z_len PySem.boot_len (S.Aa (S.pv 1) S.Ab))) (S.Aa (S.pv 2) S.Ab))) (S.Aa (S.Bb (S.Aa (S.Ak Ms (S.Bg (S.Aa (S.Fe Jv rfl z_list PyProof.Rows.boot_list (S.Aa (S.Bc Az (S.pv 1) S.Ae (fun _ _=>rfl)) S.Ab)) S.Ab)) S.Ae) (S.Aa (S.Ak Ms (S.Bg (S.Aa (S.Bb (S.Aa S.Ae (S.Aa S.Ae S.Ab))) S.Ab)) S.Ae) S.Ab))) S.Ab))))))
      (S.Ad (S.Ao (i:=6) Dv.nd rfl (Or.inl rfl) (S.Ak Em (S.pv 6) (S.Bg (S.Aa (S.Bb (S.Aa (S.Fe Er rfl z_tuple PyProof.Rows.boot_tuple (S.Aa (S.pv 1) S.Ab)) (S.Aa (S.pv 2) S.Ab))) (S.Aa (S.Bb (S.Aa (S.pv 1) (S.Aa (S.Fe Er rfl z_tuple PyProof.Rows.boot_tuple (S.Aa (S.pv 2) S.Ab)) S.Ab))) (S.Aa (S.Bb (S.Aa S.Ls (S.Aa (S.pv 2) S.Ab))) (S.Aa (S.Bb (S.Aa (S.pv 1) (S.Aa S.Ls S.Ab))) (S.Aa (S.Bb (S.Aa S.Ae (S.Aa S.Ae S.Ab))) S.Ab))))))))
      (S.Ad (S.Dk PassesOwn.never rfl (S.Bv (S.Bg (S.Aa (S.Fe Er rfl z_tuple PyProof.Rows.boot_tuple (S.Aa (S.Bc Az (S.pv 1) (S.pv 3) (fun _ _=>rfl)) S.Ab)) (S.Aa S.Ls (S.Aa S.Ae S.Ab))))) (S.Ah (i:=7) Dv.nd rfl (Or.inl rfl)) (S.Ag (S.Dh (S.Hj PySem.F.plainAttrs_list PySem.F.slot_list_append PySem.F.type_list_append Cq (S.pv 6) (S.Aa (S.Bb (S.Aa (S.Ak Em (S.Ak Em (S.Cd Es (S.pv 1) S.Dn (S.Cr (S.pv 3))) (S.Bg (S.Aa (S.pv 7) S.Ab))) (S.Cd Es (S.pv 1) (S.Cr (S.Ak Dg (S.pv 3) S.Ae)) S.Dn)) (S.Aa (S.pv 2) S.Ab))) S.Ab)))))
      (S.Ag (S.Ay (S.Bc Az (S.pv 6) (S.Ax c_q_next (hr.mono (by decide)) (S.Aa (S.pv 0) (S.Aa (S.Br Aj rfl z_len PySem.boot_len (S.Aa (S.pv 6) S.Ab)) S.Ab))) (fun _ _=>rfl))))))))))),?_⟩
  refine Gu (fun σ' H'=>∃j:Nat,j<rs.length/\σ'=[some (.ref l),some (.ref a),some (.ref b),some (.int (j:Nat)),none,none,none,none]/\Mk K H H' l a b rs es u n c) (fun M hM=> ?_) ?_
  . contradiction
    refine⟨a,_,rfl,.inl (.of eq.qm.it),?_⟩
    rw [List.length_map]
    have r1:=eq.r1
    refine Ek hs (by omega) (by omega) (by omega) fun t H1 t0 t1 x1 s1=>hM _ _ ⟨t.toNat,by omega,?_,x1,s1,?_⟩
    . rw [Int.toNat_of_nonneg t0]
    . exact { eq with qm:=eq.qm.sx (eq.qm.ne hs) x1 hs,qb:=eq.qb.sx (eq.qb.ne hs) x1 hs}
  rintro _ H1 ⟨j,jl,rfl,mk1⟩
  refine Gu (fun σ' H'=>∃(g:Addr) (xs:List V),xs.length=7/\σ'=[some (.ref l),some (.ref a),some (.ref b),some (.int (j:Nat)),some (.ref g),none,none,none]/\Same H1 H'/\H1 g=none/\H' g=some (.lst xs)) (fun M hM=> ?_) ?_
  . contradiction
    (intro p1 hp1;generalize ep1:upd _ p1 _=Gp1;obtain⟨sp1,gp1⟩:=nw hp1 ep1;clear ep1 hp1)
    (intro p2 hp2;generalize ep2:upd _ p2 _=Gp2;obtain⟨sp2,gp2⟩:=nw hp2 ep2;clear ep2 hp2)
    refine⟨p2,_,_,rfl,rfl,gp2,by decide,by decide,show 7<=sizeLine by decide,fun p3 hp3=> ?_⟩
    have s12:=sp1.trans sp2
    refine hM _ _ ⟨p3,_,rfl,rfl,s12.trans (Same.upd hp3 _),Vz s12 hp3,Ac⟩
  rintro _ H2 ⟨g,gs,gl,rfl,s2,ng,hg⟩
  have mk2:=mk1.mono s2
  have gne:g≠l:=Ne.symm (mk1.sr.ne ng)
  clear ng s2 mk1
  refine Gu (fun σ' H'=>∃(om:Addr) (ls:List Lr),σ'=[some (.ref l),some (.ref a),some (.ref b),some (.int (j:Nat)),some (.ref g),some (.ref om),none,none]/\Same H2 H'/\H' om=some (.lst (ls.map (·.1)))/\ls.length=rs.length/\(∀e∈ls,Lv (· ≠l) H' e.1 e.2)/\∃e∈ls,lnO e.2=u+1) (fun M hM=> ?_) ?_
  . contradiction
    have qm:=mk2.eq.qm
    refine Mh (.of qm.it) fun p1 hp1=> ?_
    rw [Wq (by rw [List.length_map];omega)]
    obtain⟨r,er⟩:∃r,rs[j]? =some r:=⟨_,List.getElem?_eq_getElem jl⟩
    have rm:=List.mem_of_getElem? er
    have t1:=Same.upd hp1 (.lst ((rs.map fun r=>V.ref r.1).take j))
    refine Bw (.of (t1 _ _ qm.it)) (v:= .ref r.1) (Aw (by rw [List.getElem?_map,er];rfl)) ?_
    (intro p2 hp2;generalize ep2:upd _ p2 _=Gp2;obtain⟨sp2,gp2⟩:=nw hp2 ep2;clear ep2 hp2)
    (intro p3 hp3;generalize ep3:upd _ p3 _=Gp3;obtain⟨sp3,gp3⟩:=nw hp3 ep3;clear ep3 hp3)
    have s13:=t1.trans (sp2.trans sp3)
    refine⟨r.1,p3,_,_,rfl,rfl,s13 _ _ (qm.al r rm).it,gp3,?_,fun p4 hp4 p5 hp5=> ?_⟩
    . rw [List.length_map,(mk2.eq.sr r rm).1]
      exact Nat.le_trans (show u+1<=6 by omega) (by decide)
    have t4:=Same.upd hp4 (.lst (r.2.map (·.1)++ [V.ref p2]))
    have t5:=Same.upd hp5 (.lst [V.ref p4])
    have lz:∀ {k m:Nat},k<=6->m<=6->k+m<=sizeLine:=fun {k m} h1 h2=>Nat.le_trans (show k+m<=12 by omega) (by decide)
    refine⟨p1,p5,_,_,rfl,rfl,t5 _ _ (t4 _ _ (sp3 _ _ (sp2 _ _ Ac))),Ac,lz (by rw [List.length_take];omega) (show 1<=6 by decide),fun p6 hp6=> ?_⟩
    have t6:=Same.upd hp6 (.lst ((rs.map fun r=>V.ref r.1).take j++ [V.ref p4]))
    have s16:=((s13.trans t4).trans t5).trans t6
    refine Mh (.of (s16 _ _ qm.it)) fun p7 hp7=> ?_
    rw [show(j:Int)+1=((j+1:Nat):Int)by omega,Nm (by rw [List.length_map];omega)]
    have t7:=Same.upd hp7 (.lst ((rs.map fun r=>V.ref r.1).drop (j+1)))
    refine⟨p6,p7,_,_,rfl,rfl,t7 _ _ Ac,Ac,?_,fun p8 hp8=> ?_⟩
    . rw [List.length_append,List.length_take,List.length_drop,List.length_map,List.length_singleton]
      exact Nat.le_trans (show _<=12 by omega) (by decide)
    have t8:=Same.upd hp8 (.lst ((rs.map fun r=>V.ref r.1).take j++ [V.ref p4]++(rs.map fun r=>V.ref r.1).drop (j+1)))
    have s48:=(t5.trans t6).trans (t7.trans t8)
    have s18:=(s13.trans t4).trans s48
    have n4:p4≠l:=Ne.symm ((mk2.sr.same s13).ne hp4)
    refine hM _ _ ⟨p8,ins rs j (.ref p4,some (r.2.map (·.1)++ [V.ref p2])),rfl,s18,?_,W3 _ jl,Yn (Ze (qm.mono s18) (mk2.sr.same s18)) (.lst n4 (s48 _ _ Ac)),_,Wc _ _ _,?_⟩
    . rw [Ac,Vm]
    . show(r.2.map (·.1)++ [V.ref p2]).length=u+1
      rw [List.length_append,List.length_map,(mk2.eq.sr r rm).1]
      rfl
  rintro _ H3 ⟨om,ls,rfl,s3,gom,lsl,lsa,e1,e1m,e1u⟩
  have mk3:=mk2.mono s3
  replace hg:=s3 _ _ hg
  clear s3 mk2
  have r1:=eq.r1
  obtain⟨r0,er0⟩:∃r0,rs[0]? =some r0:=⟨_,List.getElem?_eq_getElem (by omega)⟩
  have rm0:=List.mem_of_getElem? er0
  refine Gu (fun σ' H'=>∃(q:Addr) (xs:List V),σ'=[some (.ref l),some (.ref a),some (.ref b),some (.int (j:Nat)),some (.ref g),some (.ref om),some (.ref q),none]/\Same H3 H'/\H' q=some (.lst xs)/\xs.length=4/\∀x∈xs,Uv (· ≠l) H' x) (fun M hM=> ?_) ?_
  . contradiction
    refine⟨by decide,?_⟩
    (intro p1 hp1;have np1:=Ne.symm (Src.ne (mk3.sr) hp1);generalize ep1:upd _ p1 _=Gp1;obtain⟨sp1,gp1⟩:=nw hp1 ep1;clear ep1 hp1)
    replace mk3:=mk3.mono sp1
    refine⟨by decide,?_⟩
    (intro p2 hp2;have np2:=Ne.symm (Src.ne (mk3.sr) hp2);generalize ep2:upd _ p2 _=Gp2;obtain⟨sp2,gp2⟩:=nw hp2 ep2;clear ep2 hp2)
    replace mk3:=mk3.mono sp2
    (intro p3 hp3;generalize ep3:upd _ p3 _=Gp3;obtain⟨sp3,gp3⟩:=nw hp3 ep3;clear ep3 hp3)
    replace mk3:=mk3.mono sp3
    have s13:=(sp1.trans sp2).trans sp3
    refine Bw (.of mk3.eq.qm.it) (v:= .ref r0.1) (Aw (j:=0) (by rw [List.getElem?_map,er0];rfl)) ?_
    (intro p4 hp4;generalize ep4:upd _ p4 _=Gp4;obtain⟨sp4,gp4⟩:=nw hp4 ep4;clear ep4 hp4)
    replace mk3:=mk3.mono sp4
    have s14:=s13.trans sp4
    refine⟨om,p4,_,_,rfl,rfl,s14 _ _ gom,gp4,?_,?_⟩
    . rw [List.length_map,lsl]
      exact Nat.le_trans (show rs.length+1<=6 by omega) (by decide)
    (intro p5 hp5;have np5:=Ne.symm (Src.ne (mk3.sr) hp5);generalize ep5:upd _ p5 _=Gp5;obtain⟨sp5,gp5⟩:=nw hp5 ep5;clear ep5 hp5)
    replace mk3:=mk3.mono sp5
    (intro p6 hp6;generalize ep6:upd _ p6 _=Gp6;obtain⟨sp6,gp6⟩:=nw hp6 ep6;clear ep6 hp6)
    replace mk3:=mk3.mono sp6
    (intro p7 hp7;generalize ep7:upd _ p7 _=Gp7;obtain⟨sp7,gp7⟩:=nw hp7 ep7;clear ep7 hp7)
    replace mk3:=mk3.mono sp7
    have bl:(es.map (·.1)).length+1<=sizeLine:=by
      rw [List.length_map,eq.el]
      exact Nat.le_trans (show rs.length+1<=6 by omega) (by decide)
    refine⟨b,p7,_,_,rfl,rfl,mk3.eq.qb.it,gp7,bl,?_⟩
    (intro p8 hp8;have np8:=Ne.symm (Src.ne (mk3.sr) hp8);generalize ep8:upd _ p8 _=Gp8;obtain⟨sp8,gp8⟩:=nw hp8 ep8;clear ep8 hp8)
    replace mk3:=mk3.mono sp8
    (intro p9 hp9;generalize ep9:upd _ p9 _=Gp9;obtain⟨sp9,gp9⟩:=nw hp9 ep9;clear ep9 hp9)
    replace mk3:=mk3.mono sp9
    (intro pa hpa;generalize epa:upd _ pa _=Gpa;obtain⟨spa,gpa⟩:=nw hpa epa;clear epa hpa)
    replace mk3:=mk3.mono spa
    (intro pb hpb;generalize epb:upd _ pb _=Gpb;obtain⟨spb,gpb⟩:=nw hpb epb;clear epb hpb)
    replace mk3:=mk3.mono spb
    refine⟨b,pb,_,_,rfl,rfl,mk3.eq.qb.it,gpb,bl,?_⟩
    (intro pc hpc;have npc:=Ne.symm (Src.ne (mk3.sr) hpc);generalize epc:upd _ pc _=Gpc;obtain⟨spc,gpc⟩:=nw hpc epc;clear epc hpc)
    replace mk3:=mk3.mono spc
    (intro pd hpd;generalize epd:upd _ pd _=Gpd;obtain⟨spd,gpd⟩:=nw hpd epd;clear epd hpd)
    replace mk3:=mk3.mono spd
    refine Mh (.of mk3.eq.qb.it) ?_
    obtain⟨ys,ey,yl⟩:=Xg (xs:=es.map (·.1))
    rw [ey]
    (intro pe hpe;have npe:=Ne.symm (Src.ne (mk3.sr) hpe);generalize epe:upd _ pe _=Gpe;obtain⟨spe,gpe⟩:=nw hpe epe;clear epe hpe)
    replace mk3:=mk3.mono spe
    (intro pf hpf;generalize epf:upd _ pf _=Gpf;obtain⟨spf,gpf⟩:=nw hpf epf;clear epf hpf)
    replace mk3:=mk3.mono spf
    refine⟨by decide,?_⟩
    (intro pg hpg;generalize epg:upd _ pg _=Gpg;obtain⟨spg,gpg⟩:=nw hpg epg;clear epg hpg)
    replace mk3:=mk3.mono spg
    have sf:=spf.trans spg
    have se:=spe.trans sf
    have sd:=spd.trans se
    have sc:=spc.trans sd
    have s9:=sp9.trans (spa.trans (spb.trans sc))
    have s8:=sp8.trans s9
    have s5:=sp5.trans (sp6.trans (sp7.trans s8))
    have s4:=sp4.trans s5
    have s3:=sp3.trans s4
    have s2:=sp2.trans s3
    have s1:=sp1.trans s2
    have rws:=Yw mk3.eq.qm mk3.sr (by omega)
    refine hM _ _ ⟨pg,_,rfl,s1,gpg,rfl,fun x hx=> ?_⟩
    have hx':x= .ref p3\/x= .ref p9\/x= .ref pd\/x= .ref pf:=by simpa using hx
    have xl:(es.map (·.1)).length=rs.length:=by rw [List.length_map];exact eq.el
    rcases hx' with rfl | rfl | rfl | rfl
    . exact⟨p3,_,_,rfl,s4 _ _ gp3,some [],some [],.lst np1 (s2 _ _ gp1) (by simp) (by simp),.lst np2 (s3 _ _ gp2),rfl⟩
    . refine⟨p9,_,_,rfl,(spa.trans (spb.trans sc)) _ _ gp9,some (ls++ [(.ref r0.1,some (r0.2.map (·.1)))]),some _,.lst np5 ?_ ?_ ?_,.lst np8 (s9 _ _ gp8),?_⟩
      . rw [List.map_append]
        exact(sp6.trans (sp7.trans s8)) _ _ gp5
      . intro e he
        rcases List.mem_append.mp he with he | he
        . exact(lsa e he).mono s1
        . rw [List.mem_singleton.mp he]
          exact .lst ((mk3.eq.qm.al r0 rm0).ne mk3.sr) (mk3.eq.qm.al r0 rm0).it
      . rw [List.length_append,lsl]
        show rs.length+1<=20
        omega
      . refine Xu (List.mem_append_left _ e1m) (List.mem_append_right _ (List.mem_singleton.mpr rfl)) ?_
        rw [e1u]
        show u+1≠(r0.2.map (·.1)).length
        rw [List.length_map,(eq.sr r0 rm0).1]
        omega
    . refine⟨pd,_,_,rfl,se _ _ gpd,some (lr rs),some _,rws,.lst npc (sd _ _ gpc),Nt (Abp ?_)⟩
      rw [List.length_append,xl,T7]
      show rs.length+1≠rs.length
      omega
    . refine⟨pf,_,_,rfl,spg _ _ gpf,some (lr rs),some _,rws,.lst npe (sf _ _ gpe),Nt (Abp ?_)⟩
      rw [T7,<-xl]
      exact yl (by omega)
  rintro _ H4 ⟨q4,x4,rfl,s4,gq4,x4l,x4b⟩
  have mk4:=mk3.mono s4
  replace hg:=s4 _ _ hg
  clear s4 mk3 gom lsa e1u e1m lsl
  refine Gu (fun σ' H'=>∃(q:Addr) (xs:List V),σ'=[some (.ref l),some (.ref a),some (.ref b),some (.int (j:Nat)),some (.ref g),some (.ref om),some (.ref q),none]/\Same H4 H'/\H' q=some (.lst xs)/\xs.length=7/\∀x∈xs,Uv (· ≠l) H' x) (fun M hM=> ?_) ?_
  . contradiction
    have rep1:∀(k:Nat) (x:V),(List.replicate k [x]).flatten=List.replicate k x:=fun k x=>List.flatten_replicate_singleton
    have rz:∀x:V,[x].length*((rs.length:Nat):Int).toNat<=sizeLine:=fun x=>by
      rw [Int.toNat_natCast]
      exact Nat.le_trans (show 1*rs.length<=6 by omega) (by decide)
    (intro p1 hp1;generalize ep1:upd _ p1 _=Gp1;obtain⟨sp1,gp1⟩:=nw hp1 ep1;clear ep1 hp1)
    replace mk4:=mk4.mono sp1
    refine⟨a,_,rfl,.inl (.of mk4.eq.qm.it),?_⟩
    rw [List.length_map]
    refine⟨p1,_,_,rfl,rfl,gp1,by omega,by omega,rz _,?_⟩
    rw [Int.toNat_natCast,rep1]
    (intro p2 hp2;have np2:=Ne.symm (Src.ne (mk4.sr) hp2);generalize ep2:upd _ p2 _=Gp2;obtain⟨sp2,gp2⟩:=nw hp2 ep2;clear ep2 hp2)
    replace mk4:=mk4.mono sp2
    (intro p3 hp3;generalize ep3:upd _ p3 _=Gp3;obtain⟨sp3,gp3⟩:=nw hp3 ep3;clear ep3 hp3)
    replace mk4:=mk4.mono sp3
    refine⟨by decide,?_⟩
    (intro p4 hp4;have np4:=Ne.symm (Src.ne (mk4.sr) hp4);generalize ep4:upd _ p4 _=Gp4;obtain⟨sp4,gp4⟩:=nw hp4 ep4;clear ep4 hp4)
    replace mk4:=mk4.mono sp4
    (intro p5 hp5;generalize ep5:upd _ p5 _=Gp5;obtain⟨sp5,gp5⟩:=nw hp5 ep5;clear ep5 hp5)
    replace mk4:=mk4.mono sp5
    refine⟨a,_,rfl,.inl (.of mk4.eq.qm.it),?_⟩
    rw [List.length_map]
    refine⟨p5,_,_,rfl,rfl,gp5,by omega,by omega,rz _,?_⟩
    rw [Int.toNat_natCast,rep1]
    (intro p6 hp6;have np6:=Ne.symm (Src.ne (mk4.sr) hp6);generalize ep6:upd _ p6 _=Gp6;obtain⟨sp6,gp6⟩:=nw hp6 ep6;clear ep6 hp6)
    replace mk4:=mk4.mono sp6
    (intro p7 hp7;generalize ep7:upd _ p7 _=Gp7;obtain⟨sp7,gp7⟩:=nw hp7 ep7;clear ep7 hp7)
    replace mk4:=mk4.mono sp7
    refine Bw (.of mk4.eq.qm.it) (v:= .ref r0.1) (Aw (j:=0) (by rw [List.getElem?_map,er0];rfl)) ?_
    refine⟨r0.1,_,rfl,.inl (.of (mk4.eq.qm.al r0 rm0).it),?_⟩
    (intro p8 hp8;have np8:=Ne.symm (Src.ne (mk4.sr) hp8);generalize ep8:upd _ p8 _=Gp8;obtain⟨sp8,gp8⟩:=nw hp8 ep8;clear ep8 hp8)
    replace mk4:=mk4.mono sp8
    (intro p9 hp9;generalize ep9:upd _ p9 _=Gp9;obtain⟨sp9,gp9⟩:=nw hp9 ep9;clear ep9 hp9)
    replace mk4:=mk4.mono sp9
    refine⟨p9,_,_,rfl,rfl,gp9,by decide,by decide,show 7<=sizeLine by decide,?_⟩
    rw [show Int.toNat 7=7 from rfl,rep1]
    (intro pa hpa;have npa:=Ne.symm (Src.ne (mk4.sr) hpa);generalize epa:upd _ pa _=Gpa;obtain⟨spa,gpa⟩:=nw hpa epa;clear epa hpa)
    replace mk4:=mk4.mono spa
    (intro pb hpb;generalize epb:upd _ pb _=Gpb;obtain⟨spb,gpb⟩:=nw hpb epb;clear epb hpb)
    replace mk4:=mk4.mono spb
    (intro pc hpc;generalize epc:upd _ pc _=Gpc;obtain⟨spc,gpc⟩:=nw hpc epc;clear epc hpc)
    replace mk4:=mk4.mono spc
    refine⟨pc,_,_,rfl,rfl,gpc,by decide,by decide,show 7<=sizeLine by decide,?_⟩
    rw [show Int.toNat 7=7 from rfl,rep1]
    (intro pd hpd;have npd:=Ne.symm (Src.ne (mk4.sr) hpd);generalize epd:upd _ pd _=Gpd;obtain⟨spd,gpd⟩:=nw hpd epd;clear epd hpd)
    replace mk4:=mk4.mono spd
    (intro pe hpe;generalize epe:upd _ pe _=Gpe;obtain⟨spe,gpe⟩:=nw hpe epe;clear epe hpe)
    replace mk4:=mk4.mono spe
    refine⟨by decide,?_⟩
    (intro pf hpf;generalize epf:upd _ pf _=Gpf;obtain⟨spf,gpf⟩:=nw hpf epf;clear epf hpf)
    replace mk4:=mk4.mono spf
    have se:=spe.trans spf
    have sd:=spd.trans se
    have sa:=spa.trans (spb.trans (spc.trans sd))
    have s8:=sp8.trans (sp9.trans sa)
    have s7:=sp7.trans s8
    have s6:=sp6.trans s7
    have s4:=sp4.trans (sp5.trans s6)
    have s3:=sp3.trans s4
    have s2:=sp2.trans s3
    have s1:=sp1.trans s2
    have lz:x4.length+ [V.ref p3,V.ref p7,V.ref pe].length<=sizeLine:=by rw [x4l];exact(show 7<=sizeLine by decide)
    refine⟨q4,pf,_,_,rfl,rfl,s1 _ _ gq4,gpf,lz,?_⟩
    (intro pg hpg;generalize epg:upd _ pg _=Gpg;obtain⟨spg,gpg⟩:=nw hpg epg;clear epg hpg)
    replace mk4:=mk4.mono spg
    have lb:Lv (· ≠l) Gpg (.ref b) (some (es.map (·.1))):= .lst (mk4.eq.qb.ne mk4.sr) mk4.eq.qb.it
    have all1:∀(k:Nat) (x:Lr),(∀e∈List.replicate k x,e=x):=fun k x e he=>List.eq_of_mem_replicate he
    have mrep:∀(k:Nat) (x:Lr),(List.replicate k x).map (·.1)=List.replicate k x.1:=fun k x=>List.map_replicate
    refine hM _ _ ⟨pg,_,rfl,s1.trans spg,gpg,by rw [List.length_append,x4l];rfl,fun x hx=> ?_⟩
    rcases List.mem_append.mp hx with hx | hx
    . exact(x4b x hx).mono (s1.trans spg)
    have hx':x= .ref p3\/x= .ref p7\/x= .ref pe:=by simpa using hx
    rcases hx' with rfl | rfl | rfl
    . refine⟨p3,_,_,rfl,(s4.trans spg) _ _ gp3,some (List.replicate rs.length (.ref g,some gs)),_,.lst np2 ?_ ?_ ?_,lb,g_row (List.mem_replicate.mpr ⟨by omega,rfl⟩) ?_⟩
      . rw [mrep]
        exact(s3.trans spg) _ _ gp2
      . intro e he
        rw [all1 _ _ e he]
        exact .lst gne ((s1.trans spg) _ _ hg)
      . rw [List.length_replicate]
        omega
      . rw [Ge,gl]
        rfl
    . refine⟨p7,_,_,rfl,(s8.trans spg) _ _ gp7,some (List.replicate rs.length (.ref p4,some [])),_,.lst np6 ?_ ?_ ?_,lb,g_row (List.mem_replicate.mpr ⟨by omega,rfl⟩) rfl⟩
      . rw [mrep]
        exact(s7.trans spg) _ _ gp6
      . intro e he
        rw [all1 _ _ e he]
        exact .lst np4 ((sp5.trans (s6.trans spg)) _ _ gp4)
      . rw [List.length_replicate]
        omega
    . refine⟨pe,_,_,rfl,(spf.trans spg) _ _ gpe,some (List.replicate 7 (.ref p8,some (r0.2.map (·.1)))),some _,.lst npa ?_ ?_ (by rw [List.length_replicate];decide),.lst npd ((se.trans spg) _ _ gpd),g_num (by rw [List.length_replicate];decide)⟩
      . rw [mrep]
        exact(spb.trans (spc.trans (sd.trans spg))) _ _ gpa
      . intro e he
        rw [all1 _ _ e he]
        exact .lst np8 ((sp9.trans (sa.trans spg)) _ _ gp8)
  rintro _ H5 ⟨q5,x5,rfl,s5,gq5,x5l,x5b⟩
  have mk5:=mk4.mono s5
  clear s5 mk4 hg x4b
  refine Gu (fun σ' H'=>∃(q:Addr) (xs:List V),σ'=[some (.ref l),some (.ref a),some (.ref b),some (.int (j:Nat)),some (.ref g),some (.ref om),some (.ref q),none]/\q≠l/\H q=none/\xs.length=12/\Lp K H H' l a b q rs es c xs) (fun M hM=> ?_) ?_
  . contradiction
    refine⟨a,_,rfl,.inl ⟨.of mk5.eq.qm.it,?_⟩⟩
    (intro p1 hp1;generalize ep1:upd _ p1 _=Gp1;obtain⟨sp1,gp1⟩:=nw hp1 ep1;clear ep1 hp1)
    replace mk5:=mk5.mono sp1
    (intro p2 hp2;generalize ep2:upd _ p2 _=Gp2;obtain⟨sp2,gp2⟩:=nw hp2 ep2;clear ep2 hp2)
    replace mk5:=mk5.mono sp2
    refine⟨b,_,rfl,.inl ⟨.of mk5.eq.qb.it,?_⟩⟩
    (intro p3 hp3;generalize ep3:upd _ p3 _=Gp3;obtain⟨sp3,gp3⟩:=nw hp3 ep3;clear ep3 hp3)
    replace mk5:=mk5.mono sp3
    (intro p4 hp4;generalize ep4:upd _ p4 _=Gp4;obtain⟨sp4,gp4⟩:=nw hp4 ep4;clear ep4 hp4)
    replace mk5:=mk5.mono sp4
    (intro p5 hp5;generalize ep5:upd _ p5 _=Gp5;obtain⟨sp5,gp5⟩:=nw hp5 ep5;clear ep5 hp5)
    replace mk5:=mk5.mono sp5
    (intro p6 hp6;generalize ep6:upd _ p6 _=Gp6;obtain⟨sp6,gp6⟩:=nw hp6 ep6;clear ep6 hp6)
    replace mk5:=mk5.mono sp6
    (intro p7 hp7;generalize ep7:upd _ p7 _=Gp7;obtain⟨sp7,gp7⟩:=nw hp7 ep7;clear ep7 hp7)
    replace mk5:=mk5.mono sp7
    refine⟨by decide,?_⟩
    (intro p8 hp8;generalize ep8:upd _ p8 _=Gp8;obtain⟨sp8,gp8⟩:=nw hp8 ep8;clear ep8 hp8)
    replace mk5:=mk5.mono sp8
    have s7:=sp8
    have s6:=sp7.trans s7
    have s5:=sp6.trans s6
    have s4:=sp5.trans s5
    have s3:=sp4.trans s4
    have s2:=sp3.trans s3
    have s1:=sp2.trans s2
    have s0:=sp1.trans s1
    have lz:x5.length+ [V.ref p2,V.ref p4,V.ref p5,V.ref p6,V.ref p7].length<=sizeLine:=by rw [x5l];exact(show 12<=sizeLine by decide)
    have lb:Lv (· ≠l) Gp8 (.ref b) (some (es.map (·.1))):= .lst (mk5.eq.qb.ne mk5.sr) mk5.eq.qb.it
    have rws:=Yw mk5.eq.qm mk5.sr (by omega)
    have al:∀x∈x5++ [V.ref p2,V.ref p4,V.ref p5,V.ref p6,V.ref p7],Uv (· ≠l) Gp8 x:=fun x hx=>by
      rcases List.mem_append.mp hx with hx | hx
      . exact(x5b x hx).mono s0
      have hx':x= .ref p2\/x= .ref p4\/x= .ref p5\/x= .ref p6\/x= .ref p7:=by simpa using hx
      rcases hx' with rfl | rfl | rfl | rfl | rfl
      . exact⟨p2,_,_,rfl,s2 _ _ gp2,none,_,.no (.tup (s1 _ _ gp1)),lb,rfl⟩
      . exact⟨p4,_,_,rfl,s4 _ _ gp4,_,none,rws,.tup (s3 _ _ gp3),Nt rfl⟩
      . exact⟨p5,_,_,rfl,s5 _ _ gp5,none,_,.no .non,lb,rfl⟩
      . exact⟨p6,_,_,rfl,s6 _ _ gp6,_,none,rws,.non,Nt rfl⟩
      . exact⟨p7,_,_,rfl,s7 _ _ gp7,none,none,.no (.int _),.int _,rfl⟩
    refine⟨q5,p8,_,_,rfl,rfl,s0 _ _ gq5,gp8,lz,fun p9 hp9=> ?_⟩
    have np9:p9≠l:=Ne.symm (mk5.sr.ne hp9)
    have t9:=Same.upd hp9 (.lst (x5++ [V.ref p2,V.ref p4,V.ref p5,V.ref p6,V.ref p7]))
    have off:=Vg (l:=l) hp9
    have idt:∀a xs,Gp8 a=some (.tup xs)->Gp8 a=some (.tup xs):=fun _ _ z=>z
    refine hM _ _ ⟨p9,x5++ [V.ref p2,V.ref p4,V.ref p5,V.ref p6,V.ref p7],rfl,np9,G5 mk5.sx mk5.sr hp9,by rw [List.length_append,x5l];rfl,?_⟩
    exact⟨mk5.sx.same t9,mk5.sr.same t9,⟨(mk5.eq.qm.ne mk5.sr).a,Ai mk5.eq.qm.it hp9⟩,t9 _ _ mk5.eq.qm.it,fun e he=>((Ze mk5.eq.qm mk5.sr e he).via off idt).mono t9,(lb.via off idt).mono t9,Ac,fun x hx=>((al x hx).via off idt).mono t9⟩
  rintro _ H6 ⟨q6,x6,rfl,nq6,nn6,x6l,lp6⟩
  refine Gu (fun σ' H'=>∃(o:Option V) (xs:List V),σ'=[some (.ref l),some (.ref a),some (.ref b),some (.int (j:Nat)),some (.ref g),some (.ref om),some (.ref q6),o]/\xs.length=15/\Lp K H H' l a b q6 rs es c xs) (fun M hM=> ?_) ?_
  . contradiction
    obtain⟨r,er⟩:∃r,rs[j]? =some r:=⟨_,List.getElem?_eq_getElem jl⟩
    have rm:=List.mem_of_getElem? er
    refine Bw (.of lp6.ga) (v:= .ref r.1) (Aw (by rw [List.getElem?_map,er];rfl)) ?_
    have lr6:=lp6.al _ (List.mem_map.mpr ⟨r,rm,rfl⟩)
    cases lr6 with
    | @lst _ _ nr hr6=>
    refine⟨r.1,_,rfl,.inl ⟨.of hr6,?_⟩⟩
    (intro p1 hp1;generalize ep1:upd _ p1 _=Gp1;obtain⟨sp1,gp1⟩:=nw hp1 ep1;clear ep1 hp1)
    replace lp6:=lp6.mono sp1
    refine⟨by decide,fun p2 hp2=> ?_⟩
    have np2:p2≠q6:=Ne.symm (Ai lp6.gq hp2)
    generalize e2:upd _ p2 _=G2
    obtain⟨sp2,gp2⟩:=nw hp2 e2
    clear e2 hp2
    replace lp6:=lp6.mono sp2
    have t1:Lv (Tt l q6) G2 (.ref p1) none:= .tup (sp2 _ _ gp1)
    clear sp2
    have jr:j<=(rs.map fun r=>V.ref r.1).length:=by rw [List.length_map];omega
    have jr1:j+1<=(rs.map fun r=>V.ref r.1).length:=by rw [List.length_map];omega
    refine⟨⟨_,.of gp2⟩,Ul (es:=[V.ref p1,.non,.int 5]) (inj:=id) (fun pre σ' H'=>∃(o:Option V) (xs:List V),σ'=[some (.ref l),some (.ref a),some (.ref b),some (.int (j:Nat)),some (.ref g),some (.ref om),some (.ref q6),o]/\xs.length=12+pre.length/\Lp K H H' l a b q6 rs es c xs/\H' p2=some (.lst [V.ref p1,.non,.int 5])/\Lv (Tt l q6) H' (.ref p1) none) ⟨_,_,rfl,x6l,lp6,gp2,t1⟩ ?_ ?_ ?_⟩
    . rintro pre σ' H' ⟨o,xs,_,_,_,g2,_⟩
      exact Dd (inj:=id) (.of (by rw [List.map_id];exact g2))
    . rintro pre e post σ' H7 he ⟨o,xs,rfl,xl,lp,g2,t1⟩
      have em:e∈ [V.ref p1,.non,.int 5]:=by rw [he];simp
      have le:Lv (Tt l q6) H7 e none:=by
        have:e= .ref p1\/e= .non\/e= .int 5:=by simpa using em
        rcases this with rfl | rfl | rfl
        . exact t1
        . exact .non
        . exact .int _
      have pl:pre.length<3:=by
        have:3=pre.length+(post.length+1):=(congrArg List.length he).trans (by rw [List.length_append,List.length_cons])
        omega
      contradiction
      refine⟨.inl ⟨rfl,_,.of lp.gq⟩,Mh (.of lp.ga) ?_⟩
      rw [Wq jr]
      (intro p3 hp3;generalize ep3:upd _ p3 _=Gp3;obtain⟨sp3,gp3⟩:=nw hp3 ep3;clear ep3 hp3)
      replace lp:=lp.mono sp3
      (intro p4 hp4;generalize ep4:upd _ p4 _=Gp4;obtain⟨sp4,gp4⟩:=nw hp4 ep4;clear ep4 hp4)
      replace lp:=lp.mono sp4
      refine⟨p3,p4,_,_,rfl,rfl,sp4 _ _ gp3,gp4,?_,?_⟩
      . rw [List.length_take]
        exact Nat.le_trans (show min j _+1<=12 by omega) (by decide)
      (intro p5 hp5;generalize ep5:upd _ p5 _=Gp5;obtain⟨sp5,gp5⟩:=nw hp5 ep5;clear ep5 hp5)
      replace lp:=lp.mono sp5
      refine Mh (.of lp.ga) ?_
      rw [show(j:Int)+1=((j+1:Nat):Int)by omega,Nm jr1]
      (intro p6 hp6;generalize ep6:upd _ p6 _=Gp6;obtain⟨sp6,gp6⟩:=nw hp6 ep6;clear ep6 hp6)
      replace lp:=lp.mono sp6
      refine⟨p5,p6,_,_,rfl,rfl,sp6 _ _ gp5,gp6,?_,fun p7 hp7=> ?_⟩
      . rw [List.length_append,List.length_take,List.length_drop,List.length_map,List.length_singleton]
        exact Nat.le_trans (show _<=12 by omega) (by decide)
      have n7:Tt l q6 p7:=⟨Ne.symm (lp.sr.ne hp7),Ne.symm (Ai lp.gq hp7)⟩
      generalize e7:upd _ p7 _=G7
      obtain⟨sp7,gp7⟩:=nw hp7 e7
      clear e7 hp7
      replace lp:=lp.mono sp7
      (intro p8 hp8;generalize ep8:upd _ p8 _=Gp8;obtain⟨sp8,gp8⟩:=nw hp8 ep8;clear ep8 hp8)
      replace lp:=lp.mono sp8
      have s38:=((sp3.trans sp4).trans (sp5.trans sp6)).trans (sp7.trans sp8)
      have bp:Uv (Tt l q6) Gp8 (.ref p8):=by
        refine⟨p8,_,_,rfl,gp8,some (ins rs j (e,none)),_,.lst n7 ?_ (Yn lp.al (le.mono s38)) ?_,lp.lb,g_row (Wc _ _ _) rfl⟩
        . rw [Vm]
          exact sp8 _ _ gp7
        . rw [W3 _ jl]
          omega
      refine⟨q6,_,_,rfl,rfl,lp.gq,?_,_,xs++ [.ref p8],rfl,?_,lp.put bp nn6 nq6,?_,?_⟩
      . rw [xl]
        exact Nat.lt_of_lt_of_le (show 12+pre.length<16 by omega) (by decide)
      . rw [List.length_append,List.length_append,xl]
        rfl
      . rw [Al np2]
        exact s38 _ _ g2
      . exact(t1.mono s38).via Hq (G8 lp.gq)
    . rintro σ' H' ⟨o,xs,rfl,xl,lp,_⟩
      exact hM _ _ ⟨o,xs,rfl,xl,lp⟩
  rintro _ H7 ⟨o,xs,rfl,xl,lp⟩
  contradiction
  refine⟨q6,_,rfl,.inl (.of lp.gq),?_⟩
  rw [xl]
  refine Ek lp.sr (by omega) (by decide) (by decide) fun t H8 t0 t1 x8 s8=> ?_
  obtain⟨i,rfl⟩:∃i:Nat,t=(i:Nat):=⟨t.toNat,by omega⟩
  obtain⟨x,ex⟩:∃x,xs[i]? =some x:=⟨_,List.getElem?_eq_getElem (by omega)⟩
  have bx:=(lp.ok x (List.mem_of_getElem? ex)).via (Aah x8) (Abo x8 lp.sr)
  obtain⟨z,v,w,rfl,hz,bd⟩:=bx
  exact Bw (.of (x8 _ _ nq6 lp.gq)) (v:= .ref z) (Aw ex) (k z v w H8 (lp.sx.trans x8) s8 hz bd)
theorem Aa4 {H H1:Hp}{Q:VK}{E:XK}{a:Addr}{ns:List Int}{j:Int} (hS:SqL K H1 a (ns.map V.int)) (s1:Same H1 H) (h0:0<=j) (h:Q (.int (cell ns j)) H):Fi K [.ref a,.int j] H Q E:=⟨a,ns,j,rfl,s1.seq hS,h0,h⟩
theorem Wm {l:Addr}{H H':Hp} (s:Sx l H H') (n:H l=none):Same H H':=fun b o e=>s b o (Ai e n) e
def Ry (j:Nat):List Rat:=(List.range 6).map fun k=>if k=j then 1 else 0
theorem Adx:∀ {x:List Rat},x.length=6->∃a b c d e f,x=[a,b,c,d,e,f]
  | [a,b,c,d,e,f],_=>⟨a,b,c,d,e,f,rfl⟩
theorem id6 {x:List Rat} (h:x.length=6):((List.range 6).map Ry).map (dq · x)=x:=by
  obtain⟨a,b,c,d,e,f,rfl⟩:=Adx h
  have h6:List.range 6=[0,1,2,3,4,5]:=rfl
  simp only [Ry,h6,List.map_cons,List.map_nil,dq]
  simp
  refine⟨?_,?_,?_,?_,?_,?_⟩<;>grind
theorem All.six {b x:List Rat}{fr:List Nat}{bs:List (List Rat)} (h:All ((List.range 6).map Ry) b 6 x fr bs) (hb:b.length=6):x=b:=by
  have sol:∀s:List Rat,s.length=fr.length->smd x (s.zip bs)=b/\fr.map (qf b)=s:=fun s hs=>by
    obtain⟨l,e⟩:=h.an s hs
    have:=(h.sl _ l).mpr (by rw [e])
    rw [id6 l]at this
    rw [this]at e
    exact⟨this,e⟩
  cases fr with
  | nil=>exact(sol [] rfl).1
  | cons f fr=>
    have h1:=(sol (List.replicate (f::fr).length 1) List.length_replicate).2
    have h0:=(sol (List.replicate (f::fr).length 0) List.length_replicate).2
    rw [h1,List.length_cons,List.replicate_succ,List.replicate_succ]at h0
    have:=(List.cons.inj h0).1
    exact absurd this (by decide)
theorem Z4 {c:Nat} (h:c<=6):Szq 4 (c:Rat):=⟨show Sz 4 ((c:Nat):Int)by unfold Sz;omega,show Sz 4 ((1:Nat):Int)by unfold Sz;decide⟩
theorem Abb {f:Addr}{fd:FuncData} (F:Df K mg "law" Le ["_law_script"] f fd) (z_range:mg "range"=none) (z_int:mg "int"=none)  (c_q_source:Cal P w K mg base 33 "_law_source" ["_law_draw"] (Lz K)) (c_q_rows:Cal P w K mg base 37 "_law_rows" ["_law_source_here"] (Qp K)) (c_q_right_of:Cal P w K mg base 37 "_law_right_of" ["_law_source_here","_law_rows_here"] (Hw K)) (c_q_cell_at:Cal P w K mg base 33 "_law_cell_at" ["_law_script","_law_k"] (Fi K)) (c_q_bad:Cal P w K mg base 35 "_law_bad" ["_law_source_here","_law_rows_here","_law_right"] (Tr K)) (c_q_said:Cal P w K mg base 37 "_law_said" ["_law_way","_law_rows_here","_law_right"] (Ov K)) (c_solved:Cal P w K mg base 36 "solved" ["rows","right"] (Ho K)):Pa P w K mg base CX0 38 f fd ["_law_script"] (X8 K):=by
  refine F.fn.ok Ez (fun vs H Q E h=> ?_) (fun cdv A outer s H vs Q E hr h=> ?_)
  . obtain⟨a,ns,rfl,_⟩:=h
    rfl
  obtain⟨a,ns,rfl,hS,h63,k⟩:=h
  refine S.Bf ⟨_,(S.Ad (S.Ao (i:=1) Ez.nd rfl (Or.inl rfl) (S.Ax c_q_source (hr.mono (by decide)) (S.Aa (S.Ax c_q_cell_at (hr.mono (by decide)) (S.Aa (S.pv 0) (S.Aa S.Ae S.Ab))) S.Ab)))
      (S.Ad (S.Ao (i:=2) Ez.nd rfl (Or.inl rfl) (S.Ax c_q_rows (hr.mono (by decide)) (S.Aa (S.pv 1) S.Ab)))
      (S.Ad (S.Dj (S.Ax c_q_right_of (hr.mono (by decide)) (S.Aa (S.pv 1) (S.Aa (S.pv 2) S.Ab))) (S.Ds rfl (S.Ar (S.Ah (i:=6) Ez.nd rfl (Or.inl rfl)) (S.Ar (S.Ah (i:=7) Ez.nd rfl (Or.inl rfl)) S.Cu))))
      (S.Ad (S.Dk PassesOwn.never rfl (S.Bv (S.Ak Em (S.Cd Es (S.pv 0) (S.Cr S.Ae) (S.Cr S.Ae)) (S.Bg (S.Aa S.Ae S.Ab)))) (S.Ah (i:=3) Ez.nd rfl (Or.inl rfl)) (S.Ad (S.Ao (i:=1) Ez.nd rfl (Or.inl rfl) (S.Ax c_q_source (hr.mono (by decide)) (S.Aa (S.pv 3) S.Ab)))
      (S.Ad (S.Dj (S.Ax c_q_bad (hr.mono (by decide)) (S.Aa (S.pv 1) (S.Aa (S.pv 2) (S.Aa (S.pv 6) S.Ab)))) (S.Ds rfl (S.Ar (S.Ah (i:=9) Ez.nd rfl (Or.inl rfl)) (S.Ar (S.Ah (i:=10) Ez.nd rfl (Or.inl rfl)) S.Cu))))
      (S.Ag (S.Dk PassesOwn.never rfl (S.Bj rfl z_range (S.Aa S.Ae S.Ab)) (S.Ah (i:=8) Ez.nd rfl (Or.inl rfl)) (S.Ag (S.Ei (S.Ba Zi (S.Ax c_q_said (hr.mono (by decide)) (S.Aa (S.pv 8) (S.Aa (S.pv 9) (S.Aa (S.pv 10) S.Ab)))) S.X5 (Bh _)) (S.Ag (S.Ay S.X5)) S.Bm)))))))
      (S.Ad (S.Ia (ts:=["_law_j"]) (fs:=[]) rfl (Gx.of (sc:=Af Le) (N:=["_law_script","_law_source_here","_law_rows_here","_law_draw","_law_square","_law_count","_law_right","_law_x","_law_way","_law_bad_here","_law_other"]) rfl rfl (by decide+kernel)) (S.Bj rfl z_range (S.Aa S.Ae S.Ab)) (fun _ _ _=>(S.Ah (i:=0) (show List.Nodup (["_law_j"]:List Str)by decide+kernel) rfl (Or.inr rfl))) (fun _ _ _=>S.Bk) (fun _ _ _=>(S.Ck (ts:=["_law_k"]) (fs:=[(0,"_law_j")]) rfl (Am.inD (sc:=Af Le) rfl (by decide+kernel)) (S.Bj rfl z_range (S.Aa S.Ae S.Ab)) (fun _ _ _=>(S.Ah (i:=0) (show List.Nodup (["_law_k","_law_j"]:List Str)by decide+kernel) rfl (Or.inl rfl))) (fun _ _ _=>S.Bk) (fun _ _ _=>(S.Bb (S.Aa (S.Fe Wo rfl z_int PyProof.Rows.boot_int (S.Aa (S.Fz Ik (S.pv 0) (S.pv 1) (Bh _)) S.Ab)) (S.Aa S.Ae S.Ab)))))) (S.Ah (i:=4) Ez.nd rfl (Or.inl rfl)))
      (S.Ad (S.Di (ts:=["_law_j"]) (fs:=[]) rfl (Am.of (sc:=Af Le) (N:=["_law_script","_law_source_here","_law_rows_here","_law_draw","_law_square","_law_count","_law_right","_law_x","_law_way","_law_bad_here","_law_other"]) rfl rfl (by decide+kernel)) (S.Bj rfl z_range (S.Aa S.Ae S.Ab)) (fun _ _ _=>(S.Ah (i:=0) (show List.Nodup (["_law_j"]:List Str)by decide+kernel) rfl (Or.inl rfl))) (fun _ _ _=>S.Bk) (fun _ _ _=>(S.Bb (S.Aa (S.pv 0) (S.Aa S.Ae S.Ab)))) (S.Ah (i:=5) Ez.nd rfl (Or.inl rfl)))
      (S.Ag (S.Ay (S.Lw (S.Fz Aap (S.Ax c_q_said (hr.mono (by decide)) (S.Aa S.Ae (S.Aa (S.pv 2) (S.Aa (S.pv 6) S.Ab)))) S.Ls (Bh _)) (S.Om (S.Fz (Aax hr.units) (S.Bc Ea (S.Ax c_solved (hr.mono (by decide)) (S.Aa (S.pv 4) (S.Aa (S.pv 5) S.Ab))) S.Ae (fun _ _=>rfl)) (S.pv 5) (Bh _)))))))))))),?_⟩
  contradiction
  refine Aa4 hS (Same.refl _) (by decide) ?_
  try contradiction
  refine⟨_,rfl,fun l0 H5 nl s5 r5=> ?_⟩
  try contradiction
  refine⟨l0,0,rfl,r5,by decide,fun ra rs u H6 x6 r6 nr qm6 of6 rs1 rs5 u1 u5 rz=> ?_⟩
  try contradiction
  refine⟨l0,ra,rs,u,_,rfl,r6,by decide,qm6,of6,rs1,rs5,u1,u5,rz,fun z b x es xs H7 x7 r7 gz nb nx qb el zb qx xl zx=> ?_⟩
  have rall:=rz.all rs5
  have x07:Same H H7:=Wm (((Sx.of s5).trans x6).trans x7) nl
  have eq7:Eqq K H7 ra b rs es u 7300:=⟨qm6.sx of6 x7 r6,qb,el,rs1,by omega,u1,by omega,fun r hr'=>⟨(rall r hr').1,fun e he=>((rall r hr').2 e he).mono (by decide)⟩,zb,by decide⟩
  refine Gv (.of gz) ?_
  clear gz r7 r6 r5 qb x6 x7 s5 nl
  refine Gu (fun σ' H'=>∃o1 o3 o8 o9 o10,σ'=[some (.ref a),o1,some (.ref ra),o3,none,none,some (.ref b),some (.ref x),o8,o9,o10]/\Same H7 H') (fun M hM=> ?_) ?_
  . contradiction
    refine Mh (x07.seq hS) fun p1 hp1=> ?_
    obtain⟨qs,eq,lq⟩:=Ni ns (some 1) (some 13)
    rw [eq]
    intro p2 hp2
    have t1:=Same.upd hp1 (.lst (qs.map V.int))
    have t2:=Same.upd hp2 (.lst [V.int 0])
    refine⟨p1,p2,_,_,rfl,rfl,t2 _ _ Ac,Ac,?_,fun p3 hp3=>⟨p3,rfl,⟨_,.of Ac⟩,?_⟩⟩
    . rw [List.length_map]
      exact Nat.le_trans (show _<=64 by simp;omega) (by decide)
    have t3:=(t1.trans t2).trans (Same.upd hp3 (.lst (qs.map V.int++ [V.int 0])))
    have g3:upd (upd (upd H7 p1 (.lst (qs.map V.int))) p2 (.lst [V.int 0])) p3 (.lst (qs.map V.int++ [V.int 0])) p3=some (.lst ((qs++ [0]).map V.int)):=by rw [Ac,List.map_append];rfl
    generalize upd (upd (upd H7 p1 (.lst (qs.map V.int))) p2 (.lst [V.int 0])) p3 (.lst (qs.map V.int++ [V.int 0]))=H8 at g3 t3
    refine Ul (es:=qs++ [0]) (inj:=V.int) (fun _ σ' H'=>Same H8 H'/\∃o1 o3 o8 o9 o10,σ'=[some (.ref a),o1,some (.ref ra),o3,none,none,some (.ref b),some (.ref x),o8,o9,o10]) ⟨Same.refl _,_,_,_,_,_,rfl⟩ ?_ ?_ ?_
    . rintro _ σ' H' ⟨s4,_⟩
      exact Dd (.of (s4 _ _ g3))
    . rintro pre c post σ' H9 _ ⟨s9,o1,o3,o8,o9,o10,rfl⟩
      have eq9:=eq7.mono (t3.trans s9)
      contradiction
      refine⟨c,rfl,fun l Ha nl sa ra'=> ?_⟩
      try contradiction
      refine⟨l,ra,b,rs,es,u,_,_,rfl,ra',by decide,eq9.mono sa,rs5,u5,fun z v w Hb xb rb gz bad=> ?_⟩
      have s9b:Same H9 Hb:=Wm ((Sx.of sa).trans xb) nl
      refine Gv (.of gz) ?_
      contradiction
      refine⟨by decide,by decide,Acm 2 (fun i=> .int (0+(i:Nat))) (fun i σ' H'=>∃o8,σ'=[some (.ref a),some (.ref l),some (.ref ra),some (.int c),none,none,some (.ref b),some (.ref x),o8,some v,some w]/\Same Hb H') ⟨_,rfl,Same.refl _⟩ ?_ ?_ ?_⟩
      . rintro i σ' H' _
        exact Ej
      . rintro i σ' Hc hi ⟨o8,rfl,sc⟩
        contradiction
        exact⟨_,v,w,rfl,.inl ⟨_,bad.mono sc,fun Hd sd=>⟨true,true,rfl,rfl,_,rfl,sc.trans sd⟩⟩⟩
      . rintro σ' Hc ⟨o8,rfl,sc⟩
        exact⟨s9.trans (s9b.trans sc),_,_,_,_,_,rfl⟩
    . rintro σ' H' ⟨s4,o1,o3,o8,o9,o10,rfl⟩
      exact hM _ _ ⟨_,_,_,_,_,rfl,t3.trans s4⟩
  rintro _ H8 ⟨o1,o3,o8,o9,o10,rfl,s8⟩
  replace eq7:=eq7.mono s8
  clear s8
  refine Gu (fun σ' H'=>∃(q:Addr) (bs:List Qr),σ'=[some (.ref a),o1,some (.ref ra),o3,some (.ref q),none,some (.ref b),some (.ref x),o8,o9,o10]/\Same H8 H'/\Qm K H' q bs/\bs.map (fun r=>qv r.2)=(List.range 6).map Ry) (fun M hM=> ?_) ?_
  . contradiction
    refine⟨by decide,by decide,fun q hq=> ?_⟩
    refine R0 (es:=List.range 6) (inj:=fun i:Nat=>V.int (0+(i:Nat))) (fun i acc H'=>∃bs:List Qr,acc=bs.map (fun r=>V.ref r.1)/\Bli K H8 H' q (List.range 6) (fun f q=>q=Ry f) i bs) (by decide) ⟨[],rfl,Same.upd hq _,Ac,rfl,by simp⟩ ?_ ?_ ?_ ?_
    . rintro i acc H' ⟨bs,rfl,bl⟩
      exact⟨by rw [List.length_map];exact bl.ln,bl.it⟩
    . rintro i acc H' _
      exact Ej
    . rintro i j acc H9 R ej ⟨bs,rfl,bl⟩ hR
      contradiction
      refine⟨by decide,by decide,fun p hp=> ?_⟩
      refine G6 (es:=List.range 6) (inj:=fun i:Nat=>V.int (0+(i:Nat))) (fun k v H=>IsQ K H v (if k=j then 1 else 0)) (by decide) hp Dz (fun e v H H' h s=>h.mono s) (fun e v H acc o h hp=>h.put hp) ?_ ?_
      . intro k Ha R' hk sa hR'
        contradiction
        refine fun q hq'=>hR' _ _ (Same.upd hq' _) ⟨q,rfl,.of ?_⟩
        rw [Ac]
        by_cases hkj:k=j
        . rw [if_pos hkj,if_pos (by omega)]
          rfl
        . rw [if_neg hkj,if_neg (by omega)]
          rfl
      intro vs Ha vl hv sa ha
      obtain⟨q1,q2⟩:=Rt (K:=K) (f:=fun k:Nat=>(if k=j then 1 else 0:Rat)) ha vl hv
      exact hR _ _ (sa _ _ bl.it) ⟨bs++ [(p,_)],by rw [List.map_append];rfl,bl.snoc (x:=(p,_)) hq sa hp q1 ej q2⟩
    . rintro acc H9 ⟨bs,rfl,bl⟩
      have bn:bs.length=6:=bl.ln
      have rg:∀k,k<6->(List.range 6)[k]? =some k:=fun k hk=>List.getElem?_range hk
      refine hM _ _ ⟨q,bs,rfl,bl.sm,⟨bl.it,fun r hr'=> ?_⟩,List.ext_getElem? fun k=> ?_⟩
      . obtain⟨k,hk⟩:=List.getElem?_of_mem hr'
        exact(bl.al k r k hk (rg k (by have:=(List.getElem?_eq_some_iff.mp hk).1;omega))).2.1
      . by_cases hk:k<6
        . obtain⟨r,er⟩:∃r,bs[k]? =some r:=⟨_,List.getElem?_eq_getElem (by omega)⟩
          rw [List.getElem?_map,List.getElem?_map,er,rg k hk,Option.map_some,Option.map_some,(bl.al k r k er (rg k hk)).2.2]
        . rw [List.getElem?_eq_none (by rw [List.length_map];omega),List.getElem?_eq_none (by rw [List.length_map,List.length_range];omega)]
  rintro _ H9 ⟨sq,bs,rfl,s9,qm9,ebs⟩
  replace eq7:=eq7.mono s9
  clear s9
  refine Gu (fun σ' H'=>∃(q:Addr) (cs:List (V × Rat)),σ'=[some (.ref a),o1,some (.ref ra),o3,some (.ref sq),some (.ref q),some (.ref b),some (.ref x),o8,o9,o10]/\Same H9 H'/\Ql K H' q cs/\qv cs=(List.range 6).map fun k:Nat=>(k:Rat)) (fun M hM=> ?_) ?_
  . contradiction
    refine⟨by decide,by decide,fun p hp=> ?_⟩
    refine G6 (es:=List.range 6) (inj:=fun i:Nat=>V.int (0+(i:Nat))) (fun k v H=>IsQ K H v (k:Rat)) (by decide) hp Dz (fun e v H H' h s=>h.mono s) (fun e v H acc o h hp=>h.put hp) ?_ ?_
    . intro k Ha R' hk sa hR'
      contradiction
      exact fun q hq=>hR' _ _ (Same.upd hq _) ⟨q,rfl,.of (by rw [Ac,Int.zero_add];rfl)⟩
    intro vs Ha vl hv sa ha
    obtain⟨q1,q2⟩:=Rt (K:=K) (f:=fun k:Nat=>(k:Rat)) ha vl hv
    exact hM _ _ ⟨p,_,rfl,sa,q1,q2⟩
  rintro _ Ha ⟨cq,cs,rfl,sa,qc,ecs⟩
  replace eq7:=eq7.mono sa
  replace qm9:=qm9.mono sa
  contradiction
  refine⟨0,_,_,rfl,.inr ⟨rfl,ra,b,rs,es,u,_,rfl,rfl,eq7,fun Hb sb=> ?_⟩⟩
  replace qm9:=qm9.mono sb
  replace qc:=qc.mono sb
  show if V.non=V.non then _ else _
  rw [if_pos rfl]
  have bl:bs.length=6:=by have:=congrArg List.length ebs;rw [List.length_map,List.length_map]at this;exact this
  have cl:cs.length=6:=by have:=congrArg List.length ecs;rw [List.length_map,List.length_map]at this;exact this
  have mem_u:∀r∈bs,∃j,qv r.2=Ry j:=fun r hr'=>by
    have:qv r.2∈bs.map (fun r=>qv r.2):=List.mem_map.mpr ⟨r,hr',rfl⟩
    rw [ebs]at this
    obtain⟨j,_,e⟩:=List.mem_map.mp this
    exact⟨j,e.symm⟩
  have eq6:Eqq K Hb sq cq bs cs 6 4:=by
    refine⟨qm9,qc,by omega,by omega,by omega,by decide,by decide,fun r hr'=> ?_,fun e he=> ?_,by decide⟩
    . obtain⟨j,ej⟩:=mem_u r hr'
      refine⟨?_,fun e he=> ?_⟩
      . have:=congrArg List.length ej
        rw [List.length_map]at this
        rw [this]
        unfold Ry
        rw [List.length_map,List.length_range]
      . have:e.2∈qv r.2:=List.mem_map.mpr ⟨e,he,rfl⟩
        rw [ej]at this
        obtain⟨k,_,ek⟩:=List.mem_map.mp this
        rw [<-ek]
        by_cases hkj:k=j
        . rw [if_pos hkj]
          exact Adk (by decide)
        . rw [if_neg hkj]
          exact Aai (by decide)
    . have:e.2∈qv cs:=List.mem_map.mpr ⟨e,he,rfl⟩
      rw [ecs]at this
      obtain⟨k,hk,ek⟩:=List.mem_map.mp this
      rw [<-ek]
      exact Z4 (by have:=List.mem_range.mp hk;omega)
  have ql:(qv cs).length=6:=by rw [List.length_map];exact cl
  refine eq6.solved (fun z H' y s' gz no=> ?_) fun z H' ax af ab ys fr bs' _ s' td=> ?_
  . rw [ebs]at no
    exact absurd (id6 ql) (no _ ql)
  . obtain⟨y,gz⟩:=td.it
    have al:=td.al
    rw [ebs]at al
    have e:=al.six ql
    refine Gw (.of gz) (v:= .ref ax) (Aw (j:=1) rfl) (Ab9 td.qx (qc.mono s') ?_)
    rw [decide_eq_true e]
    exact k _
end
abbrev Fd (K:PySem.W.Frag) (x:Str) (st:Stmt):Prop:=∃(f:Addr) (od an:Option Addr) (sl:Array (Option Value)) (oc kV dc pm cd ct:Value),PySem.W.nsIn K mainGlobals x=some (some (.ref f))/\K.lookup f=some ⟨oc,od,.func (PySem.W.fnOf x x (Hg st) (En st) (Af st) .none kV dc pm an cd ct),sl⟩/\PySem.W.codeIn K cd x=true/\PySem.W.keepIn K (.ref f)=true
theorem Cm {K:PySem.W.Frag}{h:Heap}{mg:Str->Option Value}{x:Str}{st:Stmt} (X:K.In h) (G:h.Ns mainGlobals mg) (d:Fd K x st) (ps:List Str) (hb:∀(kV doc pm:Value) (an:Option Addr) (cdv ct:Value) (us:List Value),us.length=ps.length->bindArgs (PySem.W.fnOf x x (Hg st) (En st) (Af st) .none kV doc pm an cdv ct) ⟨us,[]⟩=pure (ps.zip us)):∃f fd,Df K mg x st ps f fd:=by
  obtain⟨f,_,_,_,_,_,_,_,_,_,a,l,c,k⟩:=d
  have F:=Yv (st:=st) l c k
  exact⟨_,_,F,F.binds hb,PySem.W.mg_of X G a⟩
theorem all_mk {l:PySem.W.OpenLaw}{w:World}{K:PySem.W.Frag}{h:Heap}{mg:Str->Option Value}{fa:Addr} (X:K.In h) (G:h.Ns mainGlobals mg) (hfa:mg "law"=some (.ref fa))
    (d1:Fd K "_law_source" Io) (d2:Fd K "_law_mixed" K7) (d3:Fd K "_law_next" N5) (d4:Fd K "_law_shared" Iu) (d5:Fd K "_law_frac" M7) (d6:Fd K "_law_drawn" Ly) (d7:Fd K "_law_sum" R9) (d8:Fd K "_law_product" G4) (d9:Fd K "_law_mixed_row" Cp) (d10:Fd K "_law_rows" Kv) (d11:Fd K "_law_dot" R4) (d12:Fd K "_law_right_of" Ci) (d13:Fd K "_law_cell_at" Gz) (d14:Fd K "_law_bad" R7) (d15:Fd K "is_list_of" Ft) (d16:Fd K "refuse_shapes" Bq) (d17:Fd K "swapped" K9) (d18:Fd K "cleared" Hu) (d19:Fd K "reduced_rows" Cz) (d20:Fd K "over_one_bottom" Bu) (d21:Fd K "whole_rows" Dr) (d22:Fd K "divisor" Ky) (d23:Fd K "fraction" Im) (d24:Fd K "unit_list" Ep) (d25:Fd K "base_of" K1) (d26:Fd K "fractions" Et) (d27:Fd K "solved" Gm) (d28:Fd K "solved_right" Ef) (d29:Fd K "_law_said" Nv) (d30:Fd K "law" Le)
    {qNoShape:Addr} (aNoShape:PySem.W.nsIn K mainGlobals "NoShape"=some (some (.ref qNoShape)))
    {qNoPart:Addr} (aNoPart:PySem.W.nsIn K mainGlobals "NoPart"=some (some (.ref qNoPart)))
    {qONE:Addr} (aONE:PySem.W.nsIn K mainGlobals "ONE"=some (some (.ref qONE)))
    {qNOUGHT:Addr} (aNOUGHT:PySem.W.nsIn K mainGlobals "NOUGHT"=some (some (.ref qNOUGHT)))
    {qCourtError:Addr} (aCourtError:PySem.W.nsIn K mainGlobals "CourtError"=some (some (.ref qCourtError)))
    {qNoText:Addr} (aNoText:PySem.W.nsIn K mainGlobals "NoText"=some (some (.ref qNoText)))
    {tMOST:Tok}
    {oONE:Option Addr}{nONE:Nat}{sONE:Array (Option Value)}{tONE0 tONE1:Tok}
    {oNOUGHT:Option Addr}{nNOUGHT:Nat}{sNOUGHT:Array (Option Value)}{tNOUGHT0 tNOUGHT1:Tok}
    (xcMOST:PySem.W.nsIn K mainGlobals "MOST"=some (some (.int 6 tMOST)))
    (xkNoShape:PySem.W.excIn K qNoShape [.type "ValueError",.type "Exception",.type "BaseException",.type "object"] "ValueError.__new__"=true)
    (xkNoPart:PySem.W.excIn K qNoPart [.type "ValueError",.type "Exception",.type "BaseException",.type "object"] "ValueError.__new__"=true)
    (xtONE:K.lookup qONE=some ⟨.type "tuple",oONE,.seq #[.int 1 tONE0,.int 1 tONE1] nONE,sONE⟩)
    (xtNOUGHT:K.lookup qNOUGHT=some ⟨.type "tuple",oNOUGHT,.seq #[.int 0 tNOUGHT0,.int 1 tNOUGHT1] nNOUGHT,sNOUGHT⟩)
    (xkCourtError:PySem.W.excIn K qCourtError [.type "ValueError",.type "Exception",.type "BaseException",.type "object"] "ValueError.__new__"=true)
    (xigetattributeNoShape:PySem.W.findIn K (.ref qNoShape) "__getattribute__"=some (some (.builtin "BaseException.__getattribute__")))
    (xigetattrNoShape:PySem.W.findIn K (.ref qNoShape) "__getattr__"=some none)
    (xiclassNoShape:PySem.W.findIn K (.ref qNoShape) "__class__"=some (some (.builtin "object.__class__")))
    (xiobjectNoShape:PySem.W.mroIn K qNoShape (.type "object")=some true)
    (xiBaseExceptionNoShape:PySem.W.mroIn K qNoShape (.type "BaseException")=some true)
    (xsNoShapeCourtError:PySem.W.mroIn K qNoShape (.ref qCourtError)=some true)
    (kiNoShapeNoShape:PySem.W.kitOne K (.ref qNoShape) (.ref qNoShape)=some true)
    (kiNoShapeNoPart:PySem.W.kitOne K (.ref qNoShape) (.ref qNoPart)=some false)
    (kiNoShapeNoText:PySem.W.kitOne K (.ref qNoShape) (.ref qNoText)=some false)
    (zabs:PySem.W.nsIn K mainGlobals "abs"=some none) (zrange:PySem.W.nsIn K mainGlobals "range"=some none) (zzip:PySem.W.nsIn K mainGlobals "zip"=some none) (zlen:PySem.W.nsIn K mainGlobals "len"=some none) (ztuple:PySem.W.nsIn K mainGlobals "tuple"=some none) (zlist:PySem.W.nsIn K mainGlobals "list"=some none) (zisinstance:PySem.W.nsIn K mainGlobals "isinstance"=some none) (zall:PySem.W.nsIn K mainGlobals "all"=some none) (zenumerate:PySem.W.nsIn K mainGlobals "enumerate"=some none) (zstr:PySem.W.nsIn K mainGlobals "str"=some none) (zint:PySem.W.nsIn K mainGlobals "int"=some none):
    ∃fd:FuncData,(∀(s:Shared) (v:Value),BindsTo s fd ⟨[v],[]⟩ [("_law_script",v)])/\∀base:Heap,Pyl l.prog base->Pa l.prog w K mg base CX0 38 fa fd ["_law_script"] (X8 K):=by
  obtain⟨f30,_,an,sl,oc,kV,dc,pm,cd,ct,a30,l30,c30,k30⟩:=d30
  have e:=hfa.symm.trans (PySem.W.mg_of X G a30)
  cases e
  have z_abs:=PySem.W.mg_none_of X G zabs
  have z_range:=PySem.W.mg_none_of X G zrange
  have z_zip:=PySem.W.mg_none_of X G zzip
  have z_len:=PySem.W.mg_none_of X G zlen
  have z_tuple:=PySem.W.mg_none_of X G ztuple
  have z_list:=PySem.W.mg_none_of X G zlist
  have z_isinstance:=PySem.W.mg_none_of X G zisinstance
  have z_all:=PySem.W.mg_none_of X G zall
  have z_enumerate:=PySem.W.mg_none_of X G zenumerate
  have z_str:=PySem.W.mg_none_of X G zstr
  have z_int:=PySem.W.mg_none_of X G zint
  have eNoShape:=Ua aNoShape
  have eNoPart:=Ua aNoPart
  have eONE:=Ua aONE
  have eNOUGHT:=Ua aNOUGHT
  have eCourtError:=Ua aCourtError
  have eNoText:=Ua aNoText
  have xc_MOST:∃u,mg "MOST"=some u/\RelV (V.int 6) u:=⟨_,PySem.W.mg_of X G xcMOST,⟨_,rfl⟩⟩
  have xk_NoShape:Q9 K (cA K "NoShape"):=by rw [eNoShape];exact xkNoShape
  have xm_NoShape:mg "NoShape"=some (.ref (cA K "NoShape")):=by rw [eNoShape];exact PySem.W.mg_of X G aNoShape
  have xk_NoPart:Q9 K (cA K "NoPart"):=by rw [eNoPart];exact xkNoPart
  have xm_NoPart:mg "NoPart"=some (.ref (cA K "NoPart")):=by rw [eNoPart];exact PySem.W.mg_of X G aNoPart
  have xm_ONE:mg "ONE"=some (.ref (cA K "ONE")):=by rw [eONE];exact PySem.W.mg_of X G aONE
  have xt_ONE:Xh K (cA K "ONE") [.int 1,.int 1]:=by rw [eONE];exact⟨_,_,_,xtONE,rfl,rfl,show 2<=sizeLine by decide,.cons ⟨_,rfl⟩ (.cons ⟨_,rfl⟩ (.nil))⟩
  have xm_NOUGHT:mg "NOUGHT"=some (.ref (cA K "NOUGHT")):=by rw [eNOUGHT];exact PySem.W.mg_of X G aNOUGHT
  have xt_NOUGHT:Xh K (cA K "NOUGHT") [.int 0,.int 1]:=by rw [eNOUGHT];exact⟨_,_,_,xtNOUGHT,rfl,rfl,show 2<=sizeLine by decide,.cons ⟨_,rfl⟩ (.cons ⟨_,rfl⟩ (.nil))⟩
  have xk_CourtError:Q9 K (cA K "CourtError"):=by rw [eCourtError];exact xkCourtError
  have xm_CourtError:mg "CourtError"=some (.ref (cA K "CourtError")):=by rw [eCourtError];exact PySem.W.mg_of X G aCourtError
  have xi_NoShape:Tw K (cA K "NoShape"):=by rw [eNoShape];exact⟨xigetattributeNoShape,xigetattrNoShape,xiclassNoShape,xiobjectNoShape,xiBaseExceptionNoShape⟩
  have xs_NoShape_CourtError:PySem.W.mroIn K (cA K "NoShape") (.ref (cA K "CourtError"))=some true:=by rw [eNoShape];rw [eCourtError];exact xsNoShapeCourtError
  have ki_NoShape_NoShape:PySem.W.kitOne K (.ref (cA K "NoShape")) (.ref (cA K "NoShape"))=some true:=by rw [eNoShape];exact kiNoShapeNoShape
  have ki_NoShape_NoPart:PySem.W.kitOne K (.ref (cA K "NoShape")) (.ref (cA K "NoPart"))=some false:=by rw [eNoShape];rw [eNoPart];exact kiNoShapeNoPart
  have xm_NoText:mg "NoText"=some (.ref (cA K "NoText")):=by rw [eNoText];exact PySem.W.mg_of X G aNoText
  have ki_NoShape_NoText:PySem.W.kitOne K (.ref (cA K "NoShape")) (.ref (cA K "NoText"))=some false:=by rw [eNoShape];rw [eNoText];exact kiNoShapeNoText
  obtain⟨_,_,D1⟩:=Cm X G d1 ["_law_draw"] fun _ _ _ _ _ _ us hl=>match us,hl with | [_],_=>rfl
  obtain⟨_,_,D2⟩:=Cm X G d2 ["_law_draw","_law_k"] fun _ _ _ _ _ _ us hl=>match us,hl with | [_,_],_=>rfl
  obtain⟨_,_,D3⟩:=Cm X G d3 ["_law_source_here","_law_many"] fun _ _ _ _ _ _ us hl=>match us,hl with | [_,_],_=>rfl
  obtain⟨_,_,D4⟩:=Cm X G d4 ["_law_one","_law_other"] fun _ _ _ _ _ _ us hl=>match us,hl with | [_,_],_=>rfl
  obtain⟨_,_,D5⟩:=Cm X G d5 ["_law_top","_law_bottom"] fun _ _ _ _ _ _ us hl=>match us,hl with | [_,_],_=>rfl
  obtain⟨_,_,D6⟩:=Cm X G d6 ["_law_source_here"] fun _ _ _ _ _ _ us hl=>match us,hl with | [_],_=>rfl
  obtain⟨_,_,D7⟩:=Cm X G d7 ["_law_one","_law_other"] fun _ _ _ _ _ _ us hl=>match us,hl with | [_,_],_=>rfl
  obtain⟨_,_,D8⟩:=Cm X G d8 ["_law_one","_law_other"] fun _ _ _ _ _ _ us hl=>match us,hl with | [_,_],_=>rfl
  obtain⟨_,_,D9⟩:=Cm X G d9 ["_law_source_here","_law_rows_here","_law_many"] fun _ _ _ _ _ _ us hl=>match us,hl with | [_,_,_],_=>rfl
  obtain⟨_,_,D10⟩:=Cm X G d10 ["_law_source_here"] fun _ _ _ _ _ _ us hl=>match us,hl with | [_],_=>rfl
  obtain⟨_,_,D11⟩:=Cm X G d11 ["_law_some","_law_others"] fun _ _ _ _ _ _ us hl=>match us,hl with | [_,_],_=>rfl
  obtain⟨_,_,D12⟩:=Cm X G d12 ["_law_source_here","_law_rows_here"] fun _ _ _ _ _ _ us hl=>match us,hl with | [_,_],_=>rfl
  obtain⟨_,_,D13⟩:=Cm X G d13 ["_law_script","_law_k"] fun _ _ _ _ _ _ us hl=>match us,hl with | [_,_],_=>rfl
  obtain⟨_,_,D14⟩:=Cm X G d14 ["_law_source_here","_law_rows_here","_law_right"] fun _ _ _ _ _ _ us hl=>match us,hl with | [_,_,_],_=>rfl
  obtain⟨_,_,D15⟩:=Cm X G d15 ["thing","fewest","most"] fun _ _ _ _ _ _ us hl=>match us,hl with | [_,_,_],_=>rfl
  obtain⟨_,_,D16⟩:=Cm X G d16 ["rows","right"] fun _ _ _ _ _ _ us hl=>match us,hl with | [_,_],_=>rfl
  obtain⟨_,_,D17⟩:=Cm X G d17 ["rows","one","other"] fun _ _ _ _ _ _ us hl=>match us,hl with | [_,_,_],_=>rfl
  obtain⟨_,_,D18⟩:=Cm X G d18 ["rows","turn","unknown","lead"] fun _ _ _ _ _ _ us hl=>match us,hl with | [_,_,_,_],_=>rfl
  obtain⟨_,_,D19⟩:=Cm X G d19 ["rows","unknowns"] fun _ _ _ _ _ _ us hl=>match us,hl with | [_,_],_=>rfl
  obtain⟨_,_,D20⟩:=Cm X G d20 ["some"] fun _ _ _ _ _ _ us hl=>match us,hl with | [_],_=>rfl
  obtain⟨_,_,D21⟩:=Cm X G d21 ["rows","right"] fun _ _ _ _ _ _ us hl=>match us,hl with | [_,_],_=>rfl
  obtain⟨_,_,D22⟩:=Cm X G d22 ["one","other"] fun _ _ _ _ _ _ us hl=>match us,hl with | [_,_],_=>rfl
  obtain⟨_,_,D23⟩:=Cm X G d23 ["top","bottom"] fun _ _ _ _ _ _ us hl=>match us,hl with | [_,_],_=>rfl
  obtain⟨_,_,D24⟩:=Cm X G d24 ["length","here"] fun _ _ _ _ _ _ us hl=>match us,hl with | [_,_],_=>rfl
  obtain⟨_,_,D25⟩:=Cm X G d25 ["here","led","reduced","lead","unknowns"] fun _ _ _ _ _ _ us hl=>match us,hl with | [_,_,_,_,_],_=>rfl
  obtain⟨_,_,D26⟩:=Cm X G d26 ["tops","bottom"] fun _ _ _ _ _ _ us hl=>match us,hl with | [_,_],_=>rfl
  obtain⟨_,_,D27⟩:=Cm X G d27 ["rows","right"] fun _ _ _ _ _ _ us hl=>match us,hl with | [_,_],_=>rfl
  obtain⟨_,_,D28⟩:=Cm X G d28 ["rows","right","paper"] fun _ _ _ _ _ _ us hl=>match us,hl with | [_,_,_],_=>rfl
  obtain⟨_,_,D29⟩:=Cm X G d29 ["_law_way","_law_rows_here","_law_right"] fun _ _ _ _ _ _ us hl=>match us,hl with | [_,_,_],_=>rfl
  have F30:=Yv (st:=Le) l30 c30 k30
  have D30:Df K mg "law" Le ["_law_script"] _ _:=⟨F30,F30.binds (ps:=["_law_script"]) fun _ _ _ _ _ _ us hl=>match us,hl with | [_],_=>rfl,PySem.W.mg_of X G a30⟩
  refine⟨PySem.W.fnOf "law" "law" (Hg Le) (En Le) (Af Le) .none kV dc pm an cd ct,fun s v=> .of_eq rfl,fun base py=> ?_⟩
  have C_q_source:=Rq (P:=l.prog) (w:=w) (base:=base) D1
  have C_q_mixed:=Um (P:=l.prog) (w:=w) (base:=base) D2
  have C_q_next:=Vi (P:=l.prog) (w:=w) (base:=base) D3 C_q_mixed
  have C_q_shared:=Ru (P:=l.prog) (w:=w) (base:=base) D4
  have C_q_frac:=Wn (P:=l.prog) (w:=w) (base:=base) D5 z_abs py C_q_shared
  have C_q_drawn:=Ue (P:=l.prog) (w:=w) (base:=base) D6 C_q_next C_q_frac
  have C_q_sum:=X6 (P:=l.prog) (w:=w) (base:=base) D7 C_q_frac
  have C_q_product:=Pq (P:=l.prog) (w:=w) (base:=base) D8 C_q_frac
  have C_q_mixed_row:=Mg (P:=l.prog) (w:=w) (base:=base) D9 z_range z_zip C_q_drawn C_q_sum C_q_product
  have C_q_rows:=V1 (P:=l.prog) (w:=w) (base:=base) D10 z_range C_q_next C_q_mixed_row C_q_drawn
  have C_q_dot:=Yc (P:=l.prog) (w:=w) (base:=base) D11 z_zip C_q_sum C_q_product
  have C_q_right_of:=Nx (P:=l.prog) (w:=w) (base:=base) D12 z_len C_q_next C_q_drawn C_q_dot C_q_sum
  have C_q_cell_at:=Pr (P:=l.prog) (w:=w) (base:=base) D13 z_len
  have C_q_bad:=Xd (P:=l.prog) (w:=w) (base:=base) D14 z_len z_tuple z_list C_q_next
  have C_is_list_of:=M9 (P:=l.prog) (w:=w) (base:=base) D15 z_isinstance z_list z_len
  have CE_refuse_shapes:=Km (P:=l.prog) (w:=w) (base:=base) D16 z_all z_len xc_MOST xk_NoShape xm_NoShape C_is_list_of
  have C_swapped:=Uc (P:=l.prog) (w:=w) (base:=base) D17 z_list
  have C_cleared:=Ub (P:=l.prog) (w:=w) (base:=base) D18 z_enumerate z_zip py
  have C_reduced_rows:=Lf (P:=l.prog) (w:=w) (base:=base) D19 z_range z_len C_swapped C_cleared
  have C_over_one_bottom:=Hz (P:=l.prog) (w:=w) (base:=base) D20 py
  have C_whole_rows:=Nh (P:=l.prog) (w:=w) (base:=base) D21 z_enumerate z_range z_len C_over_one_bottom
  have C_divisor:=Ui (P:=l.prog) (w:=w) (base:=base) D22 z_abs
  have CE_fraction:=Ra (P:=l.prog) (w:=w) (base:=base) D23 py xk_NoPart xm_NoPart C_divisor
  have C_fraction:=CE_fraction.calm (Ng K)
  have C_unit_list:=Qw (P:=l.prog) (w:=w) (base:=base) D24 z_range xm_ONE xt_ONE xm_NOUGHT xt_NOUGHT
  have C_base_of:=Uo (P:=l.prog) (w:=w) (base:=base) D25 z_zip C_unit_list C_fraction
  have C_fractions:=Oi (P:=l.prog) (w:=w) (base:=base) D26 C_fraction
  have CE_solved:=Vs (P:=l.prog) (w:=w) (base:=base) D27 z_len z_zip z_range xm_NOUGHT xt_NOUGHT CE_refuse_shapes C_reduced_rows C_whole_rows C_fraction C_base_of C_fractions
  have C_solved:=CE_solved.calm (Ro K)
  have CE_solved_right:=Lq (P:=l.prog) (w:=w) (base:=base) D28 z_len z_isinstance z_tuple z_str CE_refuse_shapes
  have C_q_said:=V4 (P:=l.prog) (w:=w) (base:=base) D29 z_isinstance xk_CourtError xm_CourtError xk_NoShape xi_NoShape xs_NoShape_CourtError xm_NoShape ki_NoShape_NoShape xm_NoPart ki_NoShape_NoPart xm_NoText ki_NoShape_NoText CE_solved CE_solved_right
  exact Abb (P:=l.prog) (w:=w) (base:=base) D30 z_range z_int C_q_source C_q_rows C_q_right_of C_q_cell_at C_q_bad C_q_said C_solved
theorem walk {l:PySem.W.OpenLaw}{q:Program}{loose:List Str}{XP:(Str->Option Value)->Heap->Prop}{YP:World->Heap->Prop}{d:DefRec}{K:Params->PySem.W.Frag} (hn:l.most=some 63) (hdf:d.params.defaults=[]) (him:PyProof.Rows.importsNone q=true) (htr:l.prog.given.tree=none)
    (hY:∀(w:World) (h:Heap),YP w h->(K w.params).In h)
    (F:∀(w:World) (mg:Str->Option Value) (fa:Addr) (h:Heap),(K w.params).In h->h.Ns mainGlobals mg->mg d.name=some (.ref fa)->
      ∃fd:FuncData,(∀(s:Shared) (u:Value),BindsTo s fd ⟨[u],[]⟩ [("_law_script",u)])/\∀base:Heap,Pyl l.prog base->Pa l.prog w (K w.params) mg base CX0 38 fa fd ["_law_script"] (X8 (K w.params))):
    PySem.W.WalkO q loose XP YP l.row.toRowW d [] (fun f vs=>PySem.call f vs):=
  L2.Xc (n:=63) (k:=38) (x:="_law_script") (sp:=X8) hn (by decide) hdf ⟨rfl,by decide,by decide⟩ him htr hY F (fun _ _ a ns hl hS=>⟨a,ns,rfl,hS,hl,fun _=>rfl⟩) fun _ _ _ _ z=>z
end Z
namespace PySem.W.Fast
def tw10211161318453491038:=()
def tw10259330397431409535:=()
def tw10288856689636675513:=()
def tw10363399515631518561:=()
def tw10375569166155684579:=()
def tw10415194607092982049:=()
def tw1043238061493251617:=()
def tw10455772217616448611:=()
def tw10496347065988559044:=()
def tw1069655491249943757:=()
def tw10785584834384250428:=()
def tw10805920888576358384:=()
def tw10811353843782158892:=()
def tw10818971338573888952:=()
def tw10831451951322890414:=()
def tw10970304764581246660:=()
def tw10980825420854802266:=()
def tw10983796621319805832:=()
def tw11039579956960783803:=()
def tw11140583606004863695:=()
def tw11205688740087803422:=()
def tw11218225538484608832:=()
def tw11373515167140776000:=()
def tw11384289840616013307:=()
def tw11419915147551580566:=()
def tw11457559752339188444:=()
def tw11501289504224550692:=()
def tw11628562023053199699:=()
def tw11701090378109525190:=()
def tw11710412317005707574:=()
def tw11826694798601071360:=()
def tw11938028103937240271:=()
def tw11967342881994571043:=()
def tw11978565864426084231:=()
def tw12034623112001676528:=()
def tw1205159018260054212:=()
def tw12085395251449457918:=()
def tw12086966851429986243:=()
def tw12258736610574131207:=()
def tw12271429994370790115:=()
def tw12323753617079073821:=()
def tw12348526719687262342:=()
def tw12350076001996748610:=()
def tw12365310434740675685:=()
def tw12373763811986207688:=()
def tw12419590178154427413:=()
def tw1256163088847098227:=()
def tw12625914225107631118:=()
def tw12653812166079442346:=()
def tw12658141248162876027:=()
def tw12681393856532897705:=()
def tw12758816106539402773:=()
def tw12892226018366540909:=()
def tw12961365446851926663:=()
def tw13025758814567377783:=()
def tw13256692673934469938:=()
def tw13435209307197094299:=()
def tw13484452266777252734:=()
def tw13504150950366314063:=()
def tw13521329326631518430:=()
def tw13555088807337031787:=()
def tw13563143342219366995:=()
def tw13711409689337455647:=()
def tw13826880843131422623:=()
def tw13841143830882676224:=()
def tw13856062739642609574:=()
def tw14071924500379125182:=()
def tw14094053293264770357:=()
def tw1412500853008033714:=()
def tw14148719694277689185:=()
def tw14220907272306085974:=()
def tw14255331756282086445:=()
def tw14437053518803524291:=()
def tw14571021843462388802:=()
def tw145759725064804771:=()
def tw14584583417345479421:=()
def tw14619696371770513757:=()
def tw14633870198004450430:=()
def tw1464601490455026412:=()
def tw14687658802008724895:=()
def tw14692762928071358050:=()
def tw14735236789906817350:=()
def tw14764441413465872197:=()
def tw14813901015423748428:=()
def tw14861589817623300058:=()
def tw1491519428945555287:=()
def tw15113524655902837856:=()
def tw15128242588055171398:=()
def tw15134875010190124218:=()
def tw15185616636970830572:=()
def tw1521217696423094442:=()
def tw15284119034758927576:=()
def tw1530127200764434870:=()
def tw15317107395170275069:=()
def tw15324442801027733422:=()
def tw15393027098582601573:=()
def tw15434913129000045619:=()
def tw1551227416495168618:=()
def tw15651617934901575733:=()
def tw15721231149814010233:=()
def tw15941824016032597651:=()
def tw15993289960723950000:=()
def tw15994730209317066976:=()
def tw16034331705154751952:=()
def tw16057918343354326005:=()
def tw16131019430322119531:=()
def tw16133330768081338175:=()
def tw16139303977362281492:=()
def tw16260344440609458977:=()
def tw16470173507183513546:=()
def tw16588339089395518967:=()
def tw16650717388273221005:=()
def tw16667677195397702452:=()
def tw16687570754879230256:=()
def tw16703653302922926698:=()
def tw16788340358674654346:=()
def tw16818014099375713275:=()
def tw16824723244312649590:=()
def tw16837430692500966391:=()
def tw16943444922357229760:=()
def tw17060574424741086016:=()
def tw17075279084236700521:=()
def tw17110885787018353776:=()
def tw17124273756234997765:=()
def tw17207836465767372327:=()
def tw17279739511451712002:=()
def tw17309563820318722668:=()
def tw17362656953855875598:=()
def tw17373036185182921281:=()
def tw17640959906119455536:=()
def tw17771195049159405554:=()
def tw17773271369481643119:=()
def tw17799544300745170681:=()
def tw178184496687432577:=()
def tw17818469715186756989:=()
def tw17861104938752159108:=()
def tw17874993324565449852:=()
def tw17893727306278967148:=()
def tw17913677252519297141:=()
def tw1821612270516562348:=()
def tw18267443186756129417:=()
def tw18413896695550513791:=()
def tw18416292704569878391:=()
def tw1863534001587663687:=()
def tw1913746253744173003:=()
def tw196817335265437383:=()
def tw1990538245529113822:=()
def tw1990669325971645833:=()
def tw2058540851288756031:=()
def tw2267945010130065383:=()
def tw2360024793373463349:=()
def tw2467925347601137867:=()
def tw2526467683284911372:=()
def tw2578250156352475481:=()
def tw2609929823337724305:=()
def tw2610084547912046436:=()
def tw2640732374080053261:=()
def tw26861386235679088:=()
def tw27019414316692551:=()
def tw2808245685609137243:=()
def tw2809972637615003395:=()
def tw290703174878304094:=()
def tw2907616487539289375:=()
def tw2944309903932396344:=()
def tw3065244572652870233:=()
def tw3074123687121543709:=()
def tw308799532114916044:=()
def tw3208909496743598260:=()
def tw3364351985490657614:=()
def tw3366910514698894744:=()
def tw3410776247851501240:=()
def tw3486320730909760240:=()
def tw3507182460447361433:=()
def tw3581898137595703925:=()
def tw3716597117075401653:=()
def tw3732642047379787516:=()
def tw3987736923491485528:=()
def tw400582413083835966:=()
def tw4048261658969557116:=()
def tw4117990657044626252:=()
def tw4118781196439719411:=()
def tw4226288341387010423:=()
def tw429628739709312732:=()
def tw4339858198059229352:=()
def tw4343092102309980245:=()
def tw4511387332070489546:=()
def tw4578768937668651475:=()
def tw4670991242439549551:=()
def tw4672647784943055013:=()
def tw4787676649516724437:=()
def tw4801449306678646910:=()
def tw4803261654265252136:=()
def tw483857021329173783:=()
def tw485859156949266512:=()
def tw4859238393487112016:=()
def tw491302083801750643:=()
def tw4913878041600896950:=()
def tw4930562204533193105:=()
def tw4949988730723381679:=()
def tw5006316259056246579:=()
def tw5020567214518200695:=()
def tw503336785847497232:=()
def tw5040186195697837186:=()
def tw507898359752739330:=()
def tw511387432945351258:=()
def tw5183500456866291206:=()
def tw5273195626700019417:=()
def tw5385428594452641057:=()
def tw5435044174068822453:=()
def tw5457485312171616211:=()
def tw5471430441834136431:=()
def tw5499307341377236651:=()
def tw5530973220138593342:=()
def tw5601201033266008729:=()
def tw5628000668992856471:=()
def tw5665371144271076486:=()
def tw5694691684792485217:=()
def tw570641461864701706:=()
def tw5772317731170746214:=()
def tw5774361269988051461:=()
def tw5823708909518245460:=()
def tw5855019355655414101:=()
def tw5881083512796121891:=()
def tw5919137895932597968:=()
def tw5971106623491758651:=()
def tw597119453693630732:=()
def tw5993983490214572525:=()
def tw6271648090260282818:=()
def tw627792513001817816:=()
def tw6421150163921801919:=()
def tw6538704430956153881:=()
def tw6572114196077793073:=()
def tw6590295160441225332:=()
def tw6604275975566010964:=()
def tw6687164846992509995:=()
def tw6693821343299273674:=()
def tw6714055970546080703:=()
def tw6729337661152136367:=()
def tw6797788874479279630:=()
def tw6830215117161435541:=()
def tw6855258552634328688:=()
def tw7138361268250414938:=()
def tw7162251122700841373:=()
def tw7254701685608675016:=()
def tw7277182514787069507:=()
def tw7392336369030574174:=()
def tw7488162061730973974:=()
def tw7546855137661577400:=()
def tw7579395885357618520:=()
def tw759104465358405805:=()
def tw7604778633658003352:=()
def tw7606333435769270982:=()
def tw7658497311150542703:=()
def tw7689050241226221758:=()
def tw774448368488926765:=()
def tw7793904271335056775:=()
def tw7843762886050804270:=()
def tw7915677888448068784:=()
def tw7973661723095170396:=()
def tw7979337756047452597:=()
def tw8007670826262378543:=()
def tw8137871695323541832:=()
def tw8184293697670604759:=()
def tw8185234610867875804:=()
def tw8232084109838560988:=()
def tw8240363135371694371:=()
def tw827299852909374192:=()
def tw8308236897683534762:=()
def tw842924760196472900:=()
def tw8497577071544303625:=()
def tw8553157480045655305:=()
def tw857302688660507967:=()
def tw8599969976182950090:=()
def tw8641281033662411338:=()
def tw8673742197801810080:=()
def tw8693202831129171148:=()
def tw8877629891932141171:=()
def tw8945885700984229950:=()
def tw9016053084390365174:=()
def tw9068981897349568657:=()
def tw9127625730136163597:=()
def tw9147354501619330634:=()
def tw9157353030324317403:=()
def tw9161439783450379279:=()
def tw9179527716613773625:=()
def tw9191138234509073444:=()
def tw9232651924767319486:=()
def tw9363460331372137974:=()
def tw9522299448184669943:=()
def tw9548029132823054505:=()
def tw9705103147164726567:=()
def tw9958171327988258803:=()
end PySem.W.Fast
open PySem PySem.W PyProof.Rows
set_option maxRecDepth 100000 in
set_option maxHeartbeats 0 in
theorem PySem.Challenge.cw_rootcourt_k74_rows_of_no_shape_holds : PySem.Challenge.rw_rootcourt_k74_rows_of_no_shape.Holds := by
  w_on;o_law;k_head;(case hw=>w_witness2)
  k_fill
  refine Z.walk (l:=PySem.Challenge.rw_rootcourt_k74_rows_of_no_shape) rfl rfl (by decide+kernel) rfl (fun w h Y=>PySem.W.kIn_of Y) ?F
  case F=>
    intro w mg fa h KX G hmg
    refine' Z.all_mk KX G hmg ?d1 ?d2 ?d3 ?d4 ?d5 ?d6 ?d7 ?d8 ?d9 ?d10 ?d11 ?d12 ?d13 ?d14 ?d15 ?d16 ?d17 ?d18 ?d19 ?d20 ?d21 ?d22 ?d23 ?d24 ?d25 ?d26 ?d27 ?d28 ?d29 ?d30 ?aNoShape ?aNoPart ?aONE ?aNOUGHT ?aCourtError ?aNoText ?xcMOST ?xkNoShape ?xkNoPart ?xtONE ?xtNOUGHT ?xkCourtError ?xigetattributeNoShape ?xigetattrNoShape ?xiclassNoShape ?xiobjectNoShape ?xiBaseExceptionNoShape ?xsNoShapeCourtError ?kiNoShapeNoShape ?kiNoShapeNoPart ?kiNoShapeNoText ?zabs ?zrange ?zzip ?zlen ?ztuple ?zlist ?zisinstance ?zall ?zenumerate ?zstr ?zint
    (case aNoShape=>k_is);(case aNoPart=>k_is);(case aONE=>k_is);(case aNOUGHT=>k_is);(case aCourtError=>k_is);(case aNoText=>k_is);(case xcMOST=>k_is);(case xkNoShape=>k_exc);(case xkNoPart=>k_exc);(case xtONE=>k_is);(case xtNOUGHT=>k_is);(case xkCourtError=>k_exc);(case xigetattributeNoShape=>k_is);(case xigetattrNoShape=>k_is);(case xiclassNoShape=>k_is);(case xiobjectNoShape=>k_is);(case xiBaseExceptionNoShape=>k_is);(case xsNoShapeCourtError=>k_is);(case kiNoShapeNoShape=>kit_is);(case kiNoShapeNoPart=>kit_is);(case kiNoShapeNoText=>kit_is)
    all_goals first | k_is | exact⟨_,_,_,_,_,_,_,_,_,_,by k_is,by k_is,by k_is,by k_is⟩
