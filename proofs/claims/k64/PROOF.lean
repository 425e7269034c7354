import PyProof.Rows.All
import Wide.All
import OpenK.AllK
import Wide.FinOn
import Lean
import PyProof.EqAt
import PyProof.EqKinds
import PyProof.TupleCall
import PySem.Challenge.RW_rootcourt_k64_root_sums_told
set_option maxHeartbeats 4000000
set_option Elab.async false
set_option linter.all false
set_option maxRecDepth 100000
namespace L2
open PySem PySem.Spec PyProof.Rows
abbrev Key:=Sum Int Str
def Qq:Key->Value->Bool
  | .inl k,v=>Value.isInt k v
  | .inr x,v=>Value.isStrOf x v
def Aaw (w:World):Key->Int
  | .inl k=>hashInt k
  | .inr x=>hashStr w x
theorem Bd:∀ {k:Key}{v:Value},Qq k v=true->(∃i t,k=Sum.inl i/\v=Value.int i t)\/(∃x t,k=Sum.inr x/\v=Value.str x t)
  | .inl i,v,h=>by
    obtain⟨t,e⟩:=Value.isInt_shape (k:=i) (v:=v) h
    exact .inl ⟨i,t,rfl,e⟩
  | .inr x,v,h=>by
    obtain⟨t,e⟩:=Value.isStrOf_shape (x:=x) (v:=v) h
    exact .inr ⟨x,t,rfl,e⟩
theorem Ri (i:Int) (t:Tok):Qq (.inl i) (.int i t)=true:=by simp [Qq,Value.isInt]
theorem Ra (x:Str) (t:Tok):Qq (.inr x) (.str x t)=true:=by simp [Qq,Value.isStrOf]
theorem Yj (a b:Int):decide ((Sum.inl a:Key)=Sum.inl b)=(a==b):=by
  by_cases e:a=b
  . subst e;simp
  . have h:¬(Sum.inl a:Key)=Sum.inl b:=fun q=>e (Sum.inl.inj q)
    rw [decide_eq_false h]
    exact(beq_eq_false_iff_ne.mpr e).symm
theorem Xx (a b:Str):decide ((Sum.inr a:Key)=Sum.inr b)=decide (a=b):=by
  by_cases e:a=b
  . subst e;simp
  . have h:¬(Sum.inr a:Key)=Sum.inr b:=fun q=>e (Sum.inr.inj q)
    rw [decide_eq_false h,decide_eq_false e]
theorem Yh (a:Int) (b:Str):decide ((Sum.inl a:Key)=Sum.inr b)=false:=decide_eq_false (fun q=>nomatch q)
theorem Yd (a:Str) (b:Int):decide ((Sum.inr a:Key)=Sum.inl b)=false:=decide_eq_false (fun q=>nomatch q)
def Bl (prog:Program) (w:World):PySem.KeyKind prog w Key where
  is:=Qq
  hash:=Aaw w
  inj:=fun v a b ha hb=>by
    rcases Bd ha with⟨i,t,rfl,rfl⟩ | ⟨x,t,rfl,rfl⟩
    . rcases Bd hb with⟨j,u,rfl,e⟩ | ⟨y,u,rfl,e⟩
      . injection e with e1 _;rw [e1]
      . exact nomatch e
    . rcases Bd hb with⟨j,u,rfl,e⟩ | ⟨y,u,rfl,e⟩
      . exact nomatch e
      . injection e with e1 _;rw [e1]
  byValue:=fun k v h=>by
    rcases Bd h with⟨i,t,rfl,rfl⟩ | ⟨x,t,rfl,rfl⟩<;>rfl
  pyHash:=fun hv h=>by
    rcases Bd hv with⟨i,t,rfl,rfl⟩ | ⟨x,t,rfl,rfl⟩
    . exact wpAny_pyHash_int h
    . exact wpAny_pyHash_str h
  eqBool:=fun hu hv h=>by
    rcases Bd hu with⟨i,t,rfl,rfl⟩ | ⟨x,t,rfl,rfl⟩
    . rcases Bd hv with⟨j,u,rfl,rfl⟩ | ⟨y,u,rfl,rfl⟩
      . rw [Yj]at h;exact wpAny_eqBool_int h
      . rw [Yh]at h;exact SeqAt.EqAt.int_str i t y u _ _ _ _ h
    . rcases Bd hv with⟨j,u,rfl,rfl⟩ | ⟨y,u,rfl,rfl⟩
      . rw [Yd]at h;exact SeqAt.EqAt.str_int x t j u _ _ _ _ h
      . rw [Xx]at h;exact wpAny_eqBool_str h
  «strs» :=fun k x t v h=>by
    rcases Bd h with⟨i,u,rfl,e⟩ | ⟨y,u,rfl,e⟩
    . exact nomatch e
    . injection e with e1 _
      subst e1
      cases v<;>rfl
theorem Nu (prog:Program) (w:World) (i:Int) (t:Tok):(Bl prog w).is (.inl i) (.int i t)=true:=Ri i t
theorem Oc (prog:Program) (w:World) (x:Str) (t:Tok):(Bl prog w).is (.inr x) (.str x t)=true:=Ra x t
end L2
namespace L2
open PySem PySem.Spec PyProof.Rows
inductive V where
  | non | bl (b:Bool) | int (i:Int) | str (x:Str) | byt (b:Array UInt8) | flt (b:UInt64) | ref (a:Addr) | ty (n:String)
  deriving DecidableEq
def RelV:V->Value->Prop
  | .non,u=>u=Value.none
  | .bl b,u=>u=Value.bool b
  | .int i,u=>∃t,u=Value.int i t
  | .str x,u=>∃t,u=Value.str x t
  | .byt b,u=>∃t,u=Value.bytes b t
  | .flt b,u=>∃t,u=Value.float b t
  | .ref a,u=>u=Value.ref a
  | .ty n,u=>u=Value.type n
abbrev Vals:List V->List Value->Prop:=Paired RelV
theorem Vals.length {xs:List V}{us:List Value} (r:Vals xs us):xs.length=us.length:=Paired.length r
theorem Vals.get:∀ {xs:List V}{us:List Value}{i:Nat}{x:V},Vals xs us->xs[i]? =some x->∃u,us[i]? =some u/\RelV x u
  | _,_,_,_,.nil,e=>by simp at e
  | _,_,0,_,.cons r _,e=>by simp at e;subst e;exact⟨_,rfl,r⟩
  | _,_,i+1,x,.cons _ t,e=>by
    obtain⟨u,h1,h2⟩:=Vals.get (i:=i) (x:=x) t (by simpa using e)
    exact⟨u,by simpa using h1,h2⟩
theorem Vals.set {x:V}{u:Value} (r:RelV x u):∀ {xs:List V}{us:List Value} (i:Nat),Vals xs us->Vals (xs.set i x) (us.set i u)
  | _,_,_,.nil=> .nil
  | _,_,0,.cons _ t=> .cons r t
  | _,_,i+1,.cons q t=> .cons q (Vals.set r i t)
theorem Vals.append:∀ {xs ys:List V}{us ws:List Value},Vals xs us->Vals ys ws->Vals (xs++ys) (us++ws)
  | _,_,_,_,.nil,s=>s
  | _,_,_,_,.cons r t,s=> .cons r (Vals.append t s)
theorem Vals.take:∀ {xs:List V}{us:List Value} (n:Nat),Vals xs us->Vals (xs.take n) (us.take n)
  | _,_,0,_=> .nil
  | _,_,_+1,.nil=> .nil
  | _,_,n+1,.cons r t=> .cons r (Vals.take n t)
theorem Vals.drop:∀ {xs:List V}{us:List Value} (n:Nat),Vals xs us->Vals (xs.drop n) (us.drop n)
  | _,_,0,r=>r
  | _,_,_+1,.nil=> .nil
  | _,_,n+1,.cons _ t=>Vals.drop n t
def P0:Option V->Option Value->Prop
  | some v,some u=>RelV v u
  | none,none=>True
  | _,_=>False
def KV {κ:Type}:List (κ × V)->List (κ × Value)->Prop:=Paired fun(p:κ × V) (q:κ × Value)=>p.1=q.1/\RelV p.2 q.2
def kV:Key->V
  | .inl i=> .int i
  | .inr x=> .str x
inductive HO where
  | lst (xs:List V)
  | tup (xs:List V)
  | dK (kvs:List (Key × V)) | dT (kvs:List (List Key × V))
  | set (S:Int->Bool) (n:Nat)
  | ins (C dx:Addr) (fs:List (Str × V))
  | own (x:Addr)
  | xd (fs:List (Str × V))
  | met (f x:Addr)
  | rng (lo hi:Int)
  | frz (o:Obj) (u:HO)
  | tbl (ps:Array Value)
  | ext (φ:Heap->Prop)
abbrev Hp:=Addr->Option HO
def upd (H:Hp) (a:Addr) (o:HO):Hp:=fun b=>if b=a then some o else H b
theorem Ag {H:Hp}{a:Addr}{o:HO}:upd H a o a=some o:=by unfold upd;rw [if_pos rfl]
theorem Ba {H:Hp}{a b:Addr}{o:HO} (h:b≠a):upd H a o b=H b:=by unfold upd;rw [if_neg h]
theorem Zg {H:Hp}{a b:Addr}{o u:HO} (h:H a=some o) (h':H b=some u) (d:o≠u):a≠b:=by
  intro e;subst e;rw [h]at h';exact d (Option.some.inj h')
theorem Bb {H:Hp}{a b:Addr}{o:HO} (h:H a=some o) (h':H b=none):a≠b:=by
  intro e;subst e;rw [h]at h';cases h'
section
variable (P:Program) (w:World)
def Bs (H:Hp) (h:Heap) (a:Addr):HO->Prop
  | .lst xs=>xs.length<=sizeLine/\∃(its:List Value) (n:Nat),Vals xs its/\h.get? a=some { cls:= .type "list",data:= .seq its.toArray n}
  | .tup xs=>xs.length<=sizeLine/\∃its:List Value,Vals xs its/\IsTup h a its.toArray
  | .dK kvs=>kvs.length<=sizeLine/\(a==sysModules)=false/\∃vs,KV kvs vs/\h.DictOf (Bl P w) a vs
  | .dT kvs=>kvs.length<=sizeLine/\(a==sysModules)=false/\∃xs:List (List Key × Addr × Value),
      Paired (fun(p:List Key × V) (q:List Key × Addr × Value)=>p.1=q.1/\H q.2.1=some (.tup (p.1.map kV))/\RelV p.2 q.2.2) kvs xs/\
      ∃o es ep,h.get? a=some o/\o.ExactDict/\o.data= .dict es ep/\es.toList=xs.map (entryOfKey (tupleKind (Bl P w)))/\(xs.map (·.1)).Nodup
  | .set S n=>h.SetOf (intKind P w) a S n
  | .ins C dx fs=>H dx=some (.own a)/\fs.length<=1000/\dx≠a/\h.get? a=some (PySem.W.instObj C dx)/\
      ∃mA,h.Ns1 dx mA/\(∀f,P0 (fs.lookup f) (mA f))/\PySem.Within mA (fs.map (·.1))
  | .own _=>∃o,h.get? a=some o
  | .xd fs=>∃mA,h.Ns1 a mA/\∀f,P0 (fs.lookup f) (mA f)
  | .rng lo hi=>∃t u v,h.get? a=some { cls:= .type "range",data:= .fields #[.int lo t,.int hi u,.int 1 v]}
  | .frz o u=>h.get? a=some o/\Bs H h a u
  | .tbl ps=>h.get? a=some { cls:= .none,data:= .fields ps}
  | .met f x=>h.get? a=some (PySem.W.methodObj (.ref f) (.ref x))
  | .ext φ=>φ h/\(∃o,h.get? a=some o)/\∀h1 h2:Heap,φ h1->(∀o,h1.get? a=some o->h2.get? a=some o)->φ h2
def HOk (H:Hp) (h:Heap):Prop:=∀a o,H a=some o->Bs P w H h a o
end
section
variable {P:Program}{w:World}{H H':Hp}{h h':Heap}{a:Addr}{o:HO}
theorem Bs.lt (x:Bs P w H h a o):a<h.objs.size:=by
  cases o with
  | lst xs=>obtain⟨_,_,_,_,e⟩:=x;exact Heap.lt_size e
  | tup xs=>obtain⟨_,_,_,p⟩:=x;exact p.lt
  | dK kvs=>obtain⟨_,_,_,_,o,_,_,e,_⟩:=x;exact Heap.lt_size e
  | dT kvs=>obtain⟨_,_,_,_,o,_,_,e,_⟩:=x;exact Heap.lt_size e
  | set S n=>obtain⟨o,_,_,_,e,_⟩:=x;exact Heap.lt_size e
  | ins C dx fs=>obtain⟨_,_,_,e,_⟩:=x;exact Heap.lt_size e
  | own y=>obtain⟨_,e⟩:=x;exact Heap.lt_size e
  | xd fs=>obtain⟨_,⟨_,_,_,e,_⟩,_⟩:=x;exact Heap.lt_size e
  | rng lo hi=>obtain⟨_,_,_,e⟩:=x;exact Heap.lt_size e
  | frz ob u=>obtain⟨e,_⟩:=x;exact Heap.lt_size e
  | tbl ps=>exact Heap.lt_size (show h.get? a=some _ from x)
  | met f y=>exact Heap.lt_size (show h.get? a=some _ from x)
  | ext φ=>obtain⟨_,⟨_,e⟩,_⟩:=x;exact Heap.lt_size e
theorem Paired.mapP {α β:Type}{F G:α->β->Prop}:∀ {l₁:List α}{l₂:List β},Paired F l₁ l₂->(∀a b,F a b->G a b)->Paired G l₁ l₂
  | _,_,.nil,_=> .nil
  | _,_,.cons r t,f=> .cons (f _ _ r) (Paired.mapP t f)
theorem Bs.stay (x:Bs P w H h a o) (k:∀b u,(b=a\/H b=some (.own a))->h.get? b=some u->h'.get? b=some u)
    (ho:∀b,H b=some (.own a)->H' b=some (.own a)) (ht:∀b xs,H b=some (.tup xs)->H' b=some (.tup xs)):Bs P w H' h' a o:=by
  induction o with
  | lst xs=>obtain⟨z,its,n,r,e⟩:=x;exact⟨z,its,n,r,k _ _ (.inl rfl) e⟩
  | tup xs=>obtain⟨z,its,r,ob,e,c⟩:=x;exact⟨z,its,r,ob,k _ _ (.inl rfl) e,c⟩
  | dK kvs=>obtain⟨z,y,vs,r,ob,es,ep,e,c⟩:=x;exact⟨z,y,vs,r,ob,es,ep,k _ _ (.inl rfl) e,c⟩
  | dT kvs=>
    obtain⟨z,y,xs,r,ob,es,ep,e,c⟩:=x
    exact⟨z,y,xs,Paired.mapP r fun p q z=>⟨z.1,ht _ _ z.2.1,z.2.2⟩,ob,es,ep,k _ _ (.inl rfl) e,c⟩
  | set S n=>obtain⟨ob,es,ep,t,e,c⟩:=x;exact⟨ob,es,ep,t,k _ _ (.inl rfl) e,c⟩
  | ins C dx fs=>
    obtain⟨d,z,ne,e,mA,⟨od,es,ep,e2,c⟩,r⟩:=x
    exact⟨ho _ d,z,ne,k _ _ (.inl rfl) e,mA,⟨od,es,ep,k _ _ (.inr d) e2,c⟩,r⟩
  | own y=>obtain⟨ob,e⟩:=x;exact⟨ob,k _ _ (.inl rfl) e⟩
  | xd fs=>obtain⟨mA,⟨od,es,ep,e,c⟩,r⟩:=x;exact⟨mA,⟨od,es,ep,k _ _ (.inl rfl) e,c⟩,r⟩
  | rng lo hi=>obtain⟨t,u,v,e⟩:=x;exact⟨t,u,v,k _ _ (.inl rfl) e⟩
  | frz ob u ih=>obtain⟨e,q⟩:=x;exact⟨k _ _ (.inl rfl) e,ih q⟩
  | tbl ps=>
    have e:h.get? a=some { cls:= .none,data:= .fields ps}:=x
    show h'.get? a=some { cls:= .none,data:= .fields ps}
    exact k a _ (.inl rfl) e
  | met f y=>
    have e:h.get? a=some (PySem.W.methodObj (.ref f) (.ref y)):=x
    show h'.get? a=some (PySem.W.methodObj (.ref f) (.ref y))
    exact k a _ (.inl rfl) e
  | ext φ=>obtain⟨p,⟨o,e⟩,st⟩:=x;exact⟨st _ _ p fun o q=>k _ _ (.inl rfl) q,⟨o,k _ _ (.inl rfl) e⟩,st⟩
theorem HOk.lt (x:HOk P w H h) (e:H a=some o):a<h.objs.size:=(x a o e).lt
theorem HOk.fresh (x:HOk P w H h) (e:h.objs.size<=a):H a=none:=by
  cases q:H a with
  | none=>rfl
  | some u=>exact absurd (Nat.lt_of_lt_of_le (x.lt q) e) (Nat.lt_irrefl _)
theorem HOk.kept (x:HOk P w H h) (k:∀b u,h.get? b=some u->h'.get? b=some u):HOk P w H h':=fun a o e=>
  (x a o e).stay (fun b u _ q=>k b u q) (fun _ q=>q) fun _ _ q=>q
theorem HOk.laid (x:HOk P w H h) (k:∀b u,h.get? b=some u->h'.get? b=some u) (hp:h.objs.size<=a) (new:Bs P w (upd H a o) h' a o):HOk P w (upd H a o) h':=fun b u e=>by
  have hn:=x.fresh hp
  by_cases hb:b=a
  . subst hb;rw [Ag]at e;cases e;exact new
  . rw [Ba hb]at e
    exact(x b u e).stay (fun c v _ q=>k c v q) (fun c q=>by rw [Ba (Bb q hn)];exact q) fun c xs q=>by rw [Ba (Bb q hn)];exact q
end
def Rd (H:Hp) (a:Addr) (u:HO):Prop:=H a=some u\/∃o,H a=some (.frz o u)
theorem Rd.of {H:Hp}{a:Addr}{u:HO} (h:H a=some u):Rd H a u:= .inl h
theorem Rd.ok {P:Program}{w:World}{H:Hp}{h:Heap}{a:Addr}{u:HO} (r:Rd H a u) (x:HOk P w H h):Bs P w H h a u:=by
  rcases r with r | ⟨o,r⟩
  . exact x a u r
  . obtain⟨_,q⟩:=x a _ r
    exact q
def Mut:Option HO->Prop
  | some (.lst _)=>True
  | some (.dK _)=>True
  | some (.dT _)=>True
  | some (.set _ _)=>True
  | some (.ins _ _ _)=>True
  | some (.ext _)=>True
  | _=>False
section
variable {P:Program}{w:World}{H:Hp}{h h':Heap}{x e:Addr}{o':HO}
theorem HOk.write (ok:HOk P w H h) (mu:Mut (H x)) (he:e=x\/H e=some (.own x)) (k:∀b u,b≠e->h.get? b=some u->h'.get? b=some u) (heo:∃u,h'.get? e=some u)
    (new:Bs P w (upd H x o') h' x o'):HOk P w (upd H x o') h':=fun b u q=>by
  have nown:∀c y,H c=some (.own y)->c≠x:=fun c y r z=>by subst z;rw [r]at mu;exact mu
  have ntup:∀c xs,H c=some (.tup xs)->c≠x:=fun c xs r z=>by subst z;rw [r]at mu;exact mu
  by_cases hb:b=x
  . subst hb;rw [Ag]at q;cases q;exact new
  . rw [Ba hb]at q
    by_cases hbe:b=e
    . have q':H b=some (.own x):=by
        rcases he with z | z
        . exact absurd (hbe.trans z) hb
        . rw [hbe];exact z
      rw [q]at q';cases q'
      obtain⟨v,hv⟩:=heo
      exact⟨v,by rw [hbe];exact hv⟩
    . refine(ok b u q).stay (fun c v hc r=>k c v ?_ r) (fun c r=>by rw [Ba (nown c b r)];exact r) fun c xs r=>by rw [Ba (ntup c xs r)];exact r
      rcases hc with rfl | hc
      . exact hbe
      . rintro rfl
        rcases he with z | z
        . exact nown c b hc z
        . rw [hc]at z;cases z;exact hb rfl
end
structure Un (fs ex:List Addr) (H H':Hp) (h h':Heap):Prop where
  keep:∀b o,h.get? b=some o->H b=none->b∉fs->b∉ex->h'.get? b=some o
  slot:∀b o,h.get? b=some o->H b=none->b∈fs->b∉ex->∃sl,h'.get? b=some { o with slots:=sl}
  free:∀b o,h.get? b=some o->H b=none->b∉ex->H' b=none
  there:∀b o,h.get? b=some o->b∉ex->∃o',h'.get? b=some o'
  tups:∀b xs,H b=some (.tup xs)->H' b=some (.tup xs)
  frzs:∀b o u,H b=some (.frz o u)->H' b=some (.frz o u)
  tbls:∀b ps,H b=some (.tbl ps)->∃more,H' b=some (.tbl (ps++more))
section
variable {fs fs' ex ex':List Addr}{H H1 H2:Hp}{h h1 h2 h':Heap}{a x e:Addr}{o:HO}
theorem Un.any (u:Un fs ex H H1 h h1) {b:Addr}{ob:Obj} (q:h.get? b=some ob) (n:H b=none) (hx:b∉ex):∃sl,h1.get? b=some { ob with slots:=sl}:=by
  by_cases hb:b∈fs
  . exact u.slot b ob q n hb hx
  . exact⟨ob.slots,u.keep b ob q n hb hx⟩
theorem Un.trans (a:Un fs ex H H1 h h1) (b:Un fs ex H1 H2 h1 h2):Un fs ex H H2 h h2 where
  keep:=fun c ob q n hc hx=>b.keep c ob (a.keep c ob q n hc hx) (a.free c ob q n hx) hc hx
  slot:=fun c ob q n hc hx=>by
    obtain⟨sl,e1⟩:=a.slot c ob q n hc hx
    obtain⟨sl',e2⟩:=b.slot c _ e1 (a.free c ob q n hx) hc hx
    exact⟨sl',e2⟩
  free:=fun c ob q n hx=>by
    obtain⟨o',e1⟩:=a.there c ob q hx
    exact b.free c o' e1 (a.free c ob q n hx) hx
  there:=fun c ob q hx=>by
    obtain⟨o',e1⟩:=a.there c ob q hx
    exact b.there c o' e1 hx
  tups:=fun c xs q=>b.tups c xs (a.tups c xs q)
  frzs:=fun c ob xs q=>b.frzs c ob xs (a.frzs c ob xs q)
  tbls:=fun c ps q=>by
    obtain⟨m1,e1⟩:=a.tbls c ps q
    obtain⟨m2,e2⟩:=b.tbls c _ e1
    exact⟨m1++m2,by rw [e2,Array.append_assoc]⟩
theorem Un.kept (k:∀b u,h.get? b=some u->h'.get? b=some u):Un fs ex H H h h':=
  ⟨fun b ob q _ _ _=>k b ob q,fun b ob q _ _ _=>⟨ob.slots,k b ob q⟩,fun _ _ _ n _=>n,fun b ob q _=>⟨ob,k b ob q⟩,fun _ _ q=>q,fun _ _ _ q=>q,fun _ ps q=>⟨#[],by rw [q];simp⟩⟩
theorem Un.refl:Un fs ex H H h h:=Un.kept fun _ _ q=>q
theorem Un.laid (k:∀b u,h.get? b=some u->h'.get? b=some u) (hp:h.objs.size<=a) (hn:H a=none):Un fs ex H (upd H a o) h h' where
  keep:=fun b u q _ _ _=>k b u q
  slot:=fun b u q _ _ _=>⟨u.slots,k b u q⟩
  free:=fun b u q n _=>by rw [Ba (Nat.ne_of_lt (Nat.lt_of_lt_of_le (Heap.lt_size q) hp))];exact n
  there:=fun b u q _=>⟨u,k b u q⟩
  tups:=fun b xs q=>by rw [Ba (Bb q hn)];exact q
  frzs:=fun b u xs q=>by rw [Ba (Bb q hn)];exact q
  tbls:=fun b ps q=>⟨#[],by rw [Ba (Bb q hn),q];simp⟩
theorem Un.write (mu:Mut (H x)) (he:e=x\/H e=some (.own x)) (k:∀b u,b≠e->h.get? b=some u->h'.get? b=some u) (heo:∃u,h'.get? e=some u):Un fs ex H (upd H x o) h h':=by
  have hx:∀b,H b=none->b≠x:=fun b n z=>by subst z;rw [n]at mu;exact mu
  have hb:∀b,H b=none->b≠e:=fun b n z=>by
    subst z
    rcases he with r | r
    . exact hx b n r
    . rw [n]at r;cases r
  have hm:∀b u,H b=some u->¬Mut (some u)->b≠x:=fun b u q nm z=>by subst z;rw [q]at mu;exact nm mu
  refine⟨fun b u q n _ _=>k b u (hb b n) q,fun b u q n _ _=>⟨u.slots,k b u (hb b n) q⟩,fun b u q n _=>by rw [Ba (hx b n)];exact n,fun b u q _=> ?_,
    fun b xs q=>by rw [Ba (hm b _ q fun z=>z)];exact q,fun b u xs q=>by rw [Ba (hm b _ q fun z=>z)];exact q,fun b ps q=>⟨#[],by rw [Ba (hm b _ q fun z=>z),q];simp⟩⟩
  by_cases hbe:b=e
  . subst hbe;exact heo
  . exact⟨u,k b u hbe q⟩
theorem Un.mono (u:Un fs ex H H1 h h1) (hs:∀b∈fs,b∈fs') (hx:∀b∈ex,b∈ex'):Un fs' ex' H H1 h h1:=
  ⟨fun b ob q n hb he=>u.keep b ob q n (fun z=>hb (hs b z)) fun z=>he (hx b z),fun _ _ q n _ he=>u.any q n fun z=>he (hx _ z),fun b ob q n he=>u.free b ob q n fun z=>he (hx b z),fun b ob q he=>u.there b ob q fun z=>he (hx b z),u.tups,u.frzs,u.tbls⟩
end
def trk (h:Heap) (H:Hp):List Addr:=(List.range h.objs.size).filter fun a=>(H a).isSome
def Vd (h:Heap) (H:Hp):Heap:=PySem.W.hideAll h (trk h H)
theorem Sg (h:Heap) (H:Hp):(Vd h H).objs.size=h.objs.size:=PySem.W.hideAll_size _ _
theorem Ue {h:Heap}{H:Hp}{b:Addr}{o:Obj} (e:h.get? b=some o) (n:H b=none):(Vd h H).get? b=some o:=
  PySem.W.hideAll_get _ e fun hm=>by
    have q:(H b).isSome=true:=(List.mem_filter.mp hm).2
    rw [n]at q;simp at q
theorem Wj {h:Heap}{H:Hp}{b:Addr}{o:Obj} (e:(Vd h H).get? b=some o):h.get? b=some o/\H b=none:=by
  have e':h.get? b=some o:=PySem.W.of_hideAll (trk h H) e
  refine⟨e',?_⟩
  cases q:H b with
  | none=>rfl
  | some x=>
    have hm:b∈trk h H:=List.mem_filter.mpr ⟨List.mem_range.mpr (Heap.lt_size e'),by simp [q]⟩
    have z:(Vd h H).get? b=none:=PySem.W.hideAll_none (trk h H) hm
    rw [z]at e;cases e
def Wi (g h:Heap) (L:Addr):List (Addr × Obj):=(List.range h.objs.size).filterMap fun a=>if a=L\/(g.get? a).isSome=true then none else(h.get? a).map fun o=>(a,o)
def rest (g h:Heap) (L d:Addr):List (Addr × Obj):=(Wi g h L).filter fun p=>decide (p.1≠d)
end L2
namespace L2
open PySem PySem.Spec PyProof.Rows
structure Mod (K:PySem.W.Frag) (mg:Str->Option Value) (base:Heap):Prop where
  kin:K.In base
  glob:base.Ns mainGlobals mg
  blt:∃mb,base.Ns builtinsNs mb/\∀x:Str,x≠"__name__"->mb x=bootBuiltins x
  nolimit:base.NoLimit
structure Cx where
  prog:Program
  w:World
  K:PySem.W.Frag
  mg:Str->Option Value
  base:Heap
  A:Around
  N:List Str
  s₀:Shared
  H₀:Hp
  env:Env
  outer:List Env
  stack:List Env
  ex:List Addr
  fn:Str->Bool
  calm:Bool
  pn:List (Addr × Obj)
  xe:Value->Shared->Prop
def frs (l:List Env):List Addr:=l.filterMap (·.frame)
abbrev Cx.fs (X:Cx):List Addr:=frs X.outer
def Vis (sc:Scope) (x:Str):Prop:=sc.names.lookup x=some .local \/sc.names.lookup x=some .cell\/sc.names.lookup x=some .free
def Loc (sc:Scope) (x:Str):Prop:=sc.names.lookup x=some .local \/sc.names.lookup x=some .cell
def Look (env:Env) (h:Heap) (m:Str->Option Value) (x:Str) (u:Value):Prop:=
  (env.kindOf x=some .local /\m x=some u)\/((env.kindOf x=some .cell\/env.kindOf x=some .free)/\∃c,env.cells.lookup x=some c/\h.IsCell c (some u))
structure Cx.Ok (X:Cx):Prop where
  mod:Mod X.K X.mg X.base
  kind:X.env.scope.kind= .function
  glob:X.env.globals=mainGlobals
  blt:X.env.builtins=builtinsNs
  above:X.s₀.heap.objs.size<=X.env.locals
  inj:∀x y c,X.env.cells.lookup x=some c->X.env.cells.lookup y=some c->x=y
  has:∀x,(X.env.kindOf x=some .cell\/X.env.kindOf x=some .free)->∃c,X.env.cells.lookup x=some c
  cab:∀x c,X.fn x=true->X.env.cells.lookup x=some c->X.s₀.heap.objs.size<=c
  hd:X.calm=true->X.A.handled=none
  frames:X.A.frames=some X.stack
  stk:X.stack=X.outer\/(X.stack=X.env::X.outer/\X.env.frame=some X.env.locals)
  exf:∀b∈X.ex,b≠X.env.locals/\∀x c,X.env.cells.lookup x=some c->c≠b
  bs:∀b o,X.base.get? b=some o->X.s₀.heap.get? b=some o/\X.H₀ b=none
  bsz:X.base.objs.size<=X.s₀.heap.objs.size
  noex:∀b o,X.base.get? b=some o->b∉X.ex
  exfs:∀b∈X.ex,b∉X.fs
  funs:X.s₀.heap.FunFrames X.base X.outer
  frf:∀b∈X.fs,X.H₀ b=none
structure Inv (X:Cx) (pins:List (Addr × Obj)) (σ:List (Option V)) (H:Hp) (s:Shared):Prop where
  ok:X.Ok
  os:s.os=X.s₀.os
  bare:AllBare s.gens
  base:Un X.fs X.ex X.H₀ H X.s₀.heap s.heap
  loc:∃m,s.heap.Ns X.env.locals m/\∀(i:Nat) (x:Str) (v:V),X.N[i]? =some x->σ[i]? =some (some v)->Vis X.env.scope x->∃u,RelV v u/\Look X.env s.heap m x u
  cell:∀x c,X.env.cells.lookup x=some c->∃v,s.heap.IsCell c v
  free:H X.env.locals=none
  freeC:∀x c,X.env.cells.lookup x=some c->H c=none
  pin:∀p∈X.pn++pins,s.heap.get? p.1=some p.2/\H p.1=none/\p.1≠X.env.locals/\p.1∉X.fs/\∀v,p.2.data≠ .cell v
  hok:HOk X.prog X.w H s.heap
  len:σ.length=X.N.length
section
variable {X:Cx}{pins:List (Addr × Obj)}{σ:List (Option V)}{H H':Hp}{s:Shared}{h':Heap}
theorem Cx.Ok.nofr (ok:X.Ok) {b:Addr}{o:Obj} (e:X.base.get? b=some o):b∉X.fs:=fun hb=>by
  have:=(ok.funs.mem hb).1
  rw [e]at this;cases this
theorem Inv.bs (I:Inv X pins σ H s):∀b o,X.base.get? b=some o->s.heap.get? b=some o/\H b=none:=fun b o e=>
  ⟨I.base.keep b o (I.ok.bs b o e).1 (I.ok.bs b o e).2 (I.ok.nofr e) (I.ok.noex b o e),I.base.free b o (I.ok.bs b o e).1 (I.ok.bs b o e).2 (I.ok.noex b o e)⟩
theorem Inv.bk (I:Inv X pins σ H s):∀b o,X.base.get? b=some o->s.heap.get? b=some o:=fun b o e=>(I.bs b o e).1
theorem Inv.mod (I:Inv X pins σ H s):Mod X.K X.mg X.base:=I.ok.mod
theorem Inv.kIn (I:Inv X pins σ H s):X.K.In s.heap:=I.ok.mod.kin.keeps I.bk
theorem Inv.nolimit (I:Inv X pins σ H s):s.heap.NoLimit:=I.ok.mod.nolimit.keeps I.bk
theorem Inv.fr (I:Inv X pins σ H s):∃m,Fr X.base X.env.locals s.heap m:=
  let ⟨m,hn,_⟩:=I.loc
  ⟨m,hn,I.bk,Nat.le_trans I.ok.bsz I.ok.above⟩
theorem Inv.lt (I:Inv X pins σ H s):X.env.locals<s.heap.objs.size:=let ⟨_,hn,_⟩:=I.loc;hn.lt
theorem Inv.sz (I:Inv X pins σ H s):X.s₀.heap.objs.size<=s.heap.objs.size:=Nat.le_trans I.ok.above (Nat.le_of_lt I.lt)
theorem Inv.nofs (I:Inv X pins σ H s) {a:Addr} (h:s.heap.objs.size<=a):a∉X.fs:=fun hb=>by
  obtain⟨_,o,ho,_⟩:=I.ok.funs.mem hb
  exact absurd (Nat.lt_of_lt_of_le (Heap.lt_size ho) (Nat.le_trans I.sz h)) (Nat.lt_irrefl _)
theorem Inv.cne (I:Inv X pins σ H s):∀x c,X.env.cells.lookup x=some c->c≠X.env.locals:=fun x c e z=>by
  obtain⟨v,o,ho,hd⟩:=I.cell x c e
  obtain⟨m,⟨o',es,ep,ho',hd',_⟩,_⟩:=I.loc
  rw [z,ho']at ho;cases ho;rw [hd']at hd;cases hd
theorem Inv.funs (I:Inv X pins σ H s):s.heap.FunFrames X.base X.outer:=by
  have all:∀(l:List Env),(∀b∈frs l,b∈X.fs)->X.s₀.heap.FunFrames X.base l->s.heap.FunFrames X.base l:=by
    intro l
    induction l with
    | nil=>intro _ _;trivial
    | cons env r ih=>
      intro hs hl
      obtain⟨hk,⟨L,o,hf,hn,ho,hd⟩,hr⟩:=hl
      have hL:L∈X.fs:=hs L (by unfold frs;rw [List.filterMap_cons,hf];exact List.mem_cons_self)
      obtain⟨sl,e⟩:=I.base.slot L o ho (I.ok.frf L hL) hL fun z=>I.ok.exfs L z hL
      exact⟨hk,⟨L,_,hf,hn,e,hd⟩,ih (fun b hb=>hs b (by unfold frs;rw [List.filterMap_cons,hf];exact List.mem_cons_of_mem _ hb)) hr⟩
  exact all X.outer (fun _ hb=>hb) I.ok.funs
theorem Inv.stack (I:Inv X pins σ H s):s.heap.FunFrames X.base X.stack:=by
  rcases I.ok.stk with e | ⟨e,hf⟩
  . rw [e];exact I.funs
  . rw [e]
    obtain⟨m,hn,_⟩:=I.loc
    refine .cons (by rw [I.ok.kind];decide) hf hn ?_ I.funs
    exact Heap.get?_none_of_le (Nat.le_trans I.ok.bsz I.ok.above)
theorem Inv.stkSub (I:Inv X pins σ H s):∀b∈frs X.stack,b∈X.env.locals::X.fs:=fun b hb=>by
  rcases I.ok.stk with e | ⟨e,hf⟩
  . rw [e]at hb;exact List.mem_cons_of_mem _ hb
  . rw [e]at hb
    unfold frs at hb
    rw [List.filterMap_cons,hf]at hb
    exact hb
theorem Inv.stkFree (I:Inv X pins σ H s):∀b∈frs X.stack,H b=none:=fun b hb=>by
  rcases List.mem_cons.mp (I.stkSub b hb)with e | hb
  . rw [e];exact I.free
  . obtain⟨_,o,ho,_⟩:=I.ok.funs.mem hb
    exact I.base.free b o ho (I.ok.frf b hb) fun z=>I.ok.exfs b z hb
theorem Inv.step {g':Array GenState}{t':Nat}{d':Drawn}{ch:List Addr} (I:Inv X pins σ H s)
    (hch:∀b∈ch,(b∈X.ex\/X.s₀.heap.objs.size<=b)/\b≠X.env.locals/\(∀x c,X.env.cells.lookup x=some c->c≠b)/\∀p∈X.pn++pins,p.1≠b)
    (keep:∀b o,b≠X.env.locals->b∉X.fs->b∉ch->s.heap.get? b=some o->H b=none->h'.get? b=some o)
    (slot:∀b o,b≠X.env.locals->b∈X.fs->b∉ch->s.heap.get? b=some o->H b=none->∃sl,h'.get? b=some { o with slots:=sl}) (free:∀b o,b∉ch->s.heap.get? b=some o->H b=none->H' b=none)
    (there:∀b o,b∉ch->s.heap.get? b=some o->∃o',h'.get? b=some o')
    (tups:∀b xs,H b=some (.tup xs)->H' b=some (.tup xs)) (frzs:∀b o u,H b=some (.frz o u)->H' b=some (.frz o u)) (tbls:∀b ps,H b=some (.tbl ps)->∃more,H' b=some (.tbl (ps++more)))
    (ns:∀m,s.heap.Ns X.env.locals m->h'.Ns X.env.locals m) (hok:HOk X.prog X.w H' h') (hg:AllBare g'):
    Inv X pins σ H' { s with heap:=h',gens:=g',drawn:=d',toks:=t'}:=by
  have neL:∀b o,X.s₀.heap.get? b=some o->b≠X.env.locals:=fun b o e=>Nat.ne_of_lt (Nat.lt_of_lt_of_le (Heap.lt_size e) I.ok.above)
  have neC:∀b o,X.s₀.heap.get? b=some o->b∉X.ex->b∉ch:=fun b o e hx hb=>by
    rcases(hch b hb).1 with z | z
    . exact hx z
    . exact absurd (Nat.lt_of_lt_of_le (Heap.lt_size e) z) (Nat.lt_irrefl _)
  have cellK:∀x c,X.env.cells.lookup x=some c->∀v,s.heap.IsCell c v->h'.IsCell c v:=fun x c e v ⟨o,ho,hd⟩=>by
    have nch:c∉ch:=fun z=>(hch c z).2.2.1 x c e rfl
    by_cases hc:c∈X.fs
    . obtain⟨sl,q⟩:=slot c o (I.cne x c e) hc nch ho (I.freeC x c e)
      exact⟨_,q,hd⟩
    . exact⟨o,keep c o (I.cne x c e) hc nch ho (I.freeC x c e),hd⟩
  refine⟨I.ok,I.os,hg,⟨fun b o e n hb hx=> ?_,fun b o e n hb hx=> ?_,fun b o e n hx=> ?_,fun b o e hx=> ?_,fun b xs e=>tups b xs (I.base.tups b xs e),fun b o xs e=>frzs b o xs (I.base.frzs b o xs e),fun b ps e=> ?_⟩,?_,fun x c e=> ?_,?_,fun x c e=> ?_,fun p hp=> ?_,hok,I.len⟩
  . exact keep b o (neL b o e) hb (neC b o e hx) (I.base.keep b o e n hb hx) (I.base.free b o e n hx)
  . obtain⟨sl,e1⟩:=I.base.slot b o e n hb hx
    obtain⟨sl',e2⟩:=slot b _ (neL b o e) hb (neC b o e hx) e1 (I.base.free b o e n hx)
    exact⟨sl',e2⟩
  . obtain⟨o',e1⟩:=I.base.there b o e hx
    exact free b o' (neC b o e hx) e1 (I.base.free b o e n hx)
  . obtain⟨o',e1⟩:=I.base.there b o e hx
    exact there b o' (neC b o e hx) e1
  . obtain⟨m1,e1⟩:=I.base.tbls b ps e
    obtain⟨m2,e2⟩:=tbls b _ e1
    exact⟨m1++m2,by rw [e2,Array.append_assoc]⟩
  . obtain⟨m,hn,hl⟩:=I.loc
    refine⟨m,ns m hn,fun i x v e1 e2 e3=> ?_⟩
    obtain⟨u,r,l⟩:=hl i x v e1 e2 e3
    refine⟨u,r,?_⟩
    rcases l with l | ⟨k,c,e,z⟩
    . exact .inl l
    . exact .inr ⟨k,c,e,cellK x c e _ z⟩
  . obtain⟨v,z⟩:=I.cell x c e
    exact⟨v,cellK x c e v z⟩
  . obtain⟨m,⟨o,_,_,ho,_⟩,_⟩:=I.loc
    exact free _ o (fun z=>(hch _ z).2.1 rfl) ho I.free
  . obtain⟨v,o,ho,hd⟩:=I.cell x c e
    exact free c o (fun z=>(hch c z).2.2.1 x c e rfl) ho (I.freeC x c e)
  . obtain⟨e,n,ne,nf,d⟩:=I.pin p hp
    have nch:p.1∉ch:=fun z=>(hch p.1 z).2.2.2 p hp rfl
    exact⟨keep p.1 p.2 ne nf nch e n,free p.1 p.2 nch e n,ne,nf,d⟩
theorem Inv.un {t':Nat} (I:Inv X pins σ H s) (u:Un X.fs [] H H' s.heap h') (hok:HOk X.prog X.w H' h'):Inv X pins σ H' { s with heap:=h',toks:=t'}:=by
  obtain⟨m,⟨o,es,ep,ho,r⟩,_⟩:=id I.loc
  obtain⟨sl,hL⟩:=u.any ho I.free (by simp)
  exact I.step (g':=s.gens) (d':=s.drawn) (ch:=[]) (fun _ z=>nomatch z) (fun b o _ hb _ e n=>u.keep b o e n hb (by simp)) (fun b o _ hb _ e n=>u.slot b o e n hb (by simp)) (fun b o _ e n=>u.free b o e n (by simp)) (fun b o _ e=>u.there b o e (by simp)) u.tups u.frzs u.tbls (fun m' hm=>by
    obtain⟨o',es',ep',ho',r'⟩:=hm
    rw [ho]at ho';cases ho'
    exact⟨_,es',ep',hL,r'⟩) hok I.bare
theorem Inv.call {g':Array GenState}{t':Nat}{d':Drawn}{ch:List Addr} (I:Inv X pins σ H s) (u:Un (frs X.stack) ch H H' s.heap h') (hok:HOk X.prog X.w H' h') (hg:AllBare g')
    (hch:∀b∈ch,(b∈X.ex\/X.s₀.heap.objs.size<=b)/\b≠X.env.locals/\(∀x c,X.env.cells.lookup x=some c->c≠b)/\∀p∈X.pn++pins,p.1≠b):
    Inv X pins σ H' { s with heap:=h',gens:=g',drawn:=d',toks:=t'}:=by
  obtain⟨m,⟨o,es,ep,ho,r⟩,_⟩:=id I.loc
  obtain⟨sl,hL⟩:=u.any ho I.free fun z=>(hch _ z).2.1 rfl
  exact I.step (ch:=ch) hch (fun b o hL hb hc e n=>u.keep b o e n (fun z=>(List.mem_cons.mp (I.stkSub b z)).elim hL hb) hc) (fun b o _ _ hc e n=>u.any e n hc) (fun b o hc e n=>u.free b o e n hc) (fun b o hc e=>u.there b o e hc) u.tups u.frzs u.tbls (fun m' hm=>by
    obtain⟨o',es',ep',ho',r'⟩:=hm
    rw [ho]at ho';cases ho'
    exact⟨_,es',ep',hL,r'⟩) hok hg
theorem Inv.turned {t':Nat}{it:Addr} (I:Inv X pins σ H s) (k:∀b o,b≠it->s.heap.get? b=some o->h'.get? b=some o) (hn:H it=none) (hL:it≠X.env.locals)
    (h1:it∈X.ex\/X.s₀.heap.objs.size<=it) (h2:∀x c,X.env.cells.lookup x=some c->c≠it) (h3:∀p∈X.pn++pins,p.1≠it):Inv X pins σ H { s with heap:=h',toks:=t'}:=by
  have nit:∀b u,H b=some u->b≠it:=fun b u e z=>by rw [z,hn]at e;cases e
  refine I.step (g':=s.gens) (d':=s.drawn) (ch:=[it]) (fun b hb=> ?_) (fun b o _ _ hc e _=>k b o (fun z=>hc (by simp [z])) e) (fun b o _ _ hc e _=>⟨o.slots,k b o (fun z=>hc (by simp [z])) e⟩) (fun _ _ _ _ n=>n)
    (fun b o hc e=>⟨o,k b o (fun z=>hc (by simp [z])) e⟩) (fun _ _ e=>e) (fun _ _ _ e=>e) (fun b ps e=>⟨#[],by rw [e];simp⟩) (fun m hm=> ?_) (fun b u e=> ?_) I.bare
  . have e:b=it:=by simpa using hb
    subst e
    exact⟨h1,hL,h2,h3⟩
  . obtain⟨o,es,ep,ho,r⟩:=hm
    exact⟨o,es,ep,k _ o (Ne.symm hL) ho,r⟩
  . refine(I.hok b u e).stay (fun c v hc q=>k c v ?_ q) (fun _ q=>q) fun _ _ q=>q
    rcases hc with z | z
    . rw [z];exact nit b u e
    . exact nit c _ z
theorem Inv.tok (I:Inv X pins σ H s) (t:Nat):Inv X pins σ H { s with toks:=t}:=I.un (h':=s.heap) (t':=t) Un.refl I.hok
theorem Inv.kept {t':Nat} (I:Inv X pins σ H s) (k:∀b u,s.heap.get? b=some u->h'.get? b=some u):Inv X pins σ H { s with heap:=h',toks:=t'}:=I.un (Un.kept k) (I.hok.kept k)
theorem Inv.laid {a:Addr}{o:HO}{t':Nat} (I:Inv X pins σ H s) (k:∀b u,s.heap.get? b=some u->h'.get? b=some u) (hp:s.heap.objs.size<=a) (new:Bs X.prog X.w (upd H a o) h' a o):
    Inv X pins σ (upd H a o) { s with heap:=h',toks:=t'}:=I.un (Un.laid k hp (I.hok.fresh hp)) (I.hok.laid k hp new)
theorem Inv.write {x e:Addr}{o:HO}{t':Nat} (I:Inv X pins σ H s) (mu:Mut (H x)) (he:e=x\/H e=some (.own x)) (k:∀b u,b≠e->s.heap.get? b=some u->h'.get? b=some u) (heo:∃u,h'.get? e=some u)
    (new:Bs X.prog X.w (upd H x o) h' x o):Inv X pins σ (upd H x o) { s with heap:=h',toks:=t'}:=I.un (Un.write mu he k heo) (I.hok.write mu he k heo new)
theorem Inv.pins_of {pins':List (Addr × Obj)} (I:Inv X pins σ H s) (h:∀p∈pins',s.heap.get? p.1=some p.2/\H p.1=none/\p.1≠X.env.locals/\p.1∉X.fs/\∀v,p.2.data≠ .cell v):Inv X pins' σ H s:=
  ⟨I.ok,I.os,I.bare,I.base,I.loc,I.cell,I.free,I.freeC,fun p hp=>(List.mem_append.mp hp).elim (fun z=>I.pin p (List.mem_append_left _ z)) (h p),I.hok,I.len⟩
theorem K4 {N:List Str} (hN:N.Nodup) {i j:Nat}{x:Str} (a:N[i]? =some x) (b:N[j]? =some x):i=j:=by
  obtain⟨h1,e1⟩:=List.getElem?_eq_some_iff.mp a
  obtain⟨h2,e2⟩:=List.getElem?_eq_some_iff.mp b
  exact(List.getElem_inj hN).mp (e1.trans e2.symm)
theorem Rz {M:Model}{A:Around}{E:Value->Shared->Prop}{i:Nat}{x:Str}{v:V}{u:Value}{Q:Unit->Shared->Prop} (I:Inv X pins σ H s) (hN:X.N.Nodup) (hi:X.N[i]? =some x) (hx:Loc X.env.scope x) (r:RelV v u)
    (h:∀s',Inv X pins (σ.set i (some v)) H s'->(∃a,Heap.SameBut a s.heap s'.heap/\(a=X.env.locals\/X.env.cells.lookup x=some a))->Q () s') (hf:X.fn x=true\/X.env.scope.names.lookup x=some .local :=by first | exact .inl rfl | exact .inr rfl | assumption):wpAny M A (storeName X.env x u) Q E s:=by
  obtain⟨m,hn,hl⟩:=id I.loc
  have hcls:(X.env.scope.kind== .class||(X.env.scope.kind== .module&&X.env.locals != X.env.globals))=false:=by rw [I.ok.kind];rfl
  have hiσ:i<σ.length:=by rw [I.len];exact(List.getElem?_eq_some_iff.mp hi).1
  have cne:=I.cne
  have tracked:∀ {a:Addr}{h':Heap},(∃o,s.heap.get? a=some o/\H a=none)->Heap.SameBut a s.heap h'->HOk X.prog X.w H h':=fun {a h'} ha hs b ob e=>by
    obtain⟨_,_,hfree⟩:=ha
    refine(I.hok b ob e).stay (fun c w' hc q=>(hs.2 c ?_).trans q) (fun _ q=>q) fun _ _ q=>q
    rintro rfl
    rcases hc with rfl | hc
    . rw [hfree]at e;cases e
    . rw [hfree]at hc;cases hc
  rcases hx with hk | hk
  . refine wpAny_storeName_local hk hn (fun h' hn' hs=> ?_) hcls
    obtain⟨oL,_,_,hoL,_⟩:=id hn
    refine h _ ⟨I.ok,I.os,I.bare,⟨fun b o e n hb hx=> ?_,fun b o e n hb hx=> ?_,I.base.free,fun b o e hx=> ?_,I.base.tups,I.base.frzs,I.base.tbls⟩,⟨_,hn',fun j y v' e1 e2 e3=> ?_⟩,fun y c e=> ?_,I.free,I.freeC,fun p hp=> ?_,tracked ⟨oL,hoL,I.free⟩ hs,by simpa using I.len⟩ ⟨_,hs,.inl rfl⟩
    . exact(hs.2 b (Nat.ne_of_lt (Nat.lt_of_lt_of_le (Heap.lt_size e) I.ok.above))).trans (I.base.keep b o e n hb hx)
    . obtain⟨sl,e1⟩:=I.base.slot b o e n hb hx
      exact⟨sl,(hs.2 b (Nat.ne_of_lt (Nat.lt_of_lt_of_le (Heap.lt_size e) I.ok.above))).trans e1⟩
    . obtain⟨o',e1⟩:=I.base.there b o e hx
      exact⟨o',(hs.2 b (Nat.ne_of_lt (Nat.lt_of_lt_of_le (Heap.lt_size e) I.ok.above))).trans e1⟩
    . by_cases hj:j=i
      . subst hj
        rw [hi]at e1;cases e1
        rw [List.getElem?_set_self hiσ]at e2
        cases e2
        exact⟨u,r,.inl ⟨hk,by simp⟩⟩
      . rw [List.getElem?_set_ne (Ne.symm hj)]at e2
        obtain⟨u',r',q⟩:=hl j y v' e1 e2 e3
        refine⟨u',r',?_⟩
        rcases q with⟨k,e⟩ | ⟨k,c,e,z⟩
        . refine .inl ⟨k,?_⟩
          have:y≠x:=fun e=>hj (K4 hN e1 (e▸hi))
          simp [this,e]
        . exact .inr ⟨k,c,e,z.sameBut hs (cne y c e)⟩
    . obtain⟨w',z⟩:=I.cell y c e
      exact⟨w',z.sameBut hs (cne y c e)⟩
    . obtain⟨e,n,ne,nf,d⟩:=I.pin p hp
      exact⟨(hs.2 p.1 ne).trans e,n,ne,nf,d⟩
  . have hfn:X.fn x=true:=by
      rcases hf with z | z
      . exact z
      . rw [z]at hk;cases hk
    obtain⟨c,hc⟩:=I.ok.has x (.inl hk)
    obtain⟨w',z⟩:=I.cell x c hc
    refine wpAny_storeName_cell I.ok.kind hk hc z (fun h' hc' hs=> ?_)
    obtain⟨oc,hoc,hocd⟩:=id z
    refine h { s with heap:=h'} ⟨I.ok,I.os,I.bare,⟨fun b o e n hb hx=> ?_,fun b o e n hb hx=> ?_,I.base.free,fun b o e hx=> ?_,I.base.tups,I.base.frzs,I.base.tbls⟩,⟨m,hn.sameBut hs (Ne.symm (cne x c hc)),fun j y v' e1 e2 e3=> ?_⟩,fun y c' e=> ?_,I.free,I.freeC,fun p hp=> ?_,tracked ⟨oc,hoc,I.freeC x c hc⟩ hs,by simpa using I.len⟩ ⟨c,hs,.inr hc⟩
    . exact(hs.2 b (Nat.ne_of_lt (Nat.lt_of_lt_of_le (Heap.lt_size e) (I.ok.cab x c hfn hc)))).trans (I.base.keep b o e n hb hx)
    . obtain⟨sl,e1⟩:=I.base.slot b o e n hb hx
      exact⟨sl,(hs.2 b (Nat.ne_of_lt (Nat.lt_of_lt_of_le (Heap.lt_size e) (I.ok.cab x c hfn hc)))).trans e1⟩
    . obtain⟨o',e1⟩:=I.base.there b o e hx
      exact⟨o',(hs.2 b (Nat.ne_of_lt (Nat.lt_of_lt_of_le (Heap.lt_size e) (I.ok.cab x c hfn hc)))).trans e1⟩
    . by_cases hj:j=i
      . subst hj
        rw [hi]at e1;cases e1
        rw [List.getElem?_set_self hiσ]at e2
        cases e2
        exact⟨u,r,.inr ⟨.inl hk,c,hc,hc'⟩⟩
      . rw [List.getElem?_set_ne (Ne.symm hj)]at e2
        obtain⟨u',r',q⟩:=hl j y v' e1 e2 e3
        refine⟨u',r',?_⟩
        rcases q with q | ⟨k,c',e,z'⟩
        . exact .inl q
        . refine .inr ⟨k,c',e,z'.sameBut hs ?_⟩
          rintro rfl
          exact hj (K4 hN e1 (I.ok.inj _ _ _ e hc▸hi))
    . by_cases hcc:c'=c
      . subst hcc;exact⟨_,hc'⟩
      . obtain⟨w2,z2⟩:=I.cell y c' e
        exact⟨w2,z2.sameBut hs hcc⟩
    . obtain⟨e,n,ne,nf,d⟩:=I.pin p hp
      refine⟨(hs.2 p.1 ?_).trans e,n,ne,nf,d⟩
      intro q
      rw [q,hoc]at e
      have q':oc=p.2:=Option.some.inj e
      exact d w' (by rw [<-q'];exact hocd)
theorem Gj {M:Model}{A:Around}{E:Value->Shared->Prop}{i:Nat}{x:Str}{v:V}{u:Value}{Q:Unit->Shared->Prop} (I:Inv X pins σ H s) (hN:X.N.Nodup) (hi:X.N[i]? =some x) (hx:Loc X.env.scope x) (r:RelV v u)
    (h:∀s',Inv X pins (σ.set i (some v)) H s'->Q () s') (hf:X.fn x=true\/X.env.scope.names.lookup x=some .local :=by first | exact .inl rfl | exact .inr rfl | assumption):wpAny M A (storeName X.env x u) Q E s:=
  Rz I hN hi hx r (fun s' I' _=>h s' I') hf
theorem Inv.call' {s':Shared}{ch:List Addr} (I:Inv X pins σ H s) (ho:s'.os=s.os) (u:Un (frs X.stack) ch H H' s.heap s'.heap) (hok:HOk X.prog X.w H' s'.heap) (hg:AllBare s'.gens)
    (hch:∀b∈ch,(b∈X.ex\/X.s₀.heap.objs.size<=b)/\b≠X.env.locals/\(∀x c,X.env.cells.lookup x=some c->c≠b)/\∀p∈X.pn++pins,p.1≠b):Inv X pins σ H' s':=by
  obtain⟨h',g',d',t',o'⟩:=s'
  have e:o'=s.os:=ho
  subst e
  exact I.call (g':=g') (t':=t') (d':=d') u hok hg hch
end
abbrev XK:=Value->Option Addr->Hp->Prop
abbrev St:=List (Option V)
abbrev VK:=V->Hp->Prop
abbrev TE:=St->Hp->VK->Prop
abbrev TT:=St->Hp->(Bool->Hp->Prop)->Prop
abbrev TA:=St->Hp->(List V->Hp->Prop)->Prop
structure Ends where
  nx:St->Hp->Prop
  rt:VK
  bk:St->Hp->Prop:=fun _ _=>False
  ct:St->Hp->Prop:=fun _ _=>False
abbrev TS:=Ends->St->Hp->Prop
def EP (X:Cx) (pins:List (Addr × Obj)) (σ:St) (Q:VK) (u:Value) (s':Shared):Prop:=∃v H',Inv X pins σ H' s'/\RelV v u/\Q v H'
def TP (X:Cx) (pins:List (Addr × Obj)) (σ:St) (Q:Bool->Hp->Prop) (b:Bool) (s':Shared):Prop:=∃H',Inv X pins σ H' s'/\Q b H'
def AP (X:Cx) (pins:List (Addr × Obj)) (σ:St) (Q:List V->Hp->Prop) (us:List Value) (s':Shared):Prop:=∃vs H',Inv X pins σ H' s'/\Vals vs us/\Q vs H'
def SP (X:Cx) (pins:List (Addr × Obj)) (D:Ends) (f:Flow) (s':Shared):Prop:=
  match f with
  | .next=>∃σ' H',Inv X pins σ' H' s'/\D.nx σ' H'
  | .brk=>∃σ' H',Inv X pins σ' H' s'/\D.bk σ' H'
  | .cont=>∃σ' H',Inv X pins σ' H' s'/\D.ct σ' H'
  | .ret u=>∃v σ' H',Inv X pins σ' H' s'/\RelV v u/\D.rt v H'
def PE (X:Cx) (e:Expr) (t:TE):Prop:=
  ∀(pins:List (Addr × Obj)) (s:Shared) (σ:St) (H:Hp) (Q:VK),Inv X pins σ H s->t σ H Q->wpAny (model X.prog X.w) X.A (eval e X.env) (EP X pins σ Q) X.xe s
def PT (X:Cx) (e:Expr) (t:TT):Prop:=
  ∀(pins:List (Addr × Obj)) (s:Shared) (σ:St) (H:Hp) (Q:Bool->Hp->Prop),Inv X pins σ H s->t σ H Q->wpAny (model X.prog X.w) X.A (isTrue e X.env (eval e X.env)) (TP X pins σ Q) X.xe s
def PW (X:Cx) (e:Expr) (t:TT):Prop:=
  ∀(whole:Sem Value) (pins:List (Addr × Obj)) (s:Shared) (σ:St) (H:Hp) (Q:Bool->Hp->Prop),Inv X pins σ H s->t σ H Q->wpAny (model X.prog X.w) X.A (isTrue e X.env whole) (TP X pins σ Q) X.xe s
theorem PW.pt {X:Cx}{e:Expr}{t:TT} (h:PW X e t):PT X e t:=h _
def PA (X:Cx) (es:List Expr) (t:TA):Prop:=
  ∀(pos:Pos) (pins:List (Addr × Obj)) (s:Shared) (σ:St) (H:Hp) (Q:List V->Hp->Prop),Inv X pins σ H s->t σ H Q->wpAny (model X.prog X.w) X.A (spliced (backTo pos (starEach es X.env))) (AP X pins σ Q) X.xe s
def PS (X:Cx) (st:Stmt) (t:TS):Prop:=
  ∀(pins:List (Addr × Obj)) (s:Shared) (σ:St) (H:Hp) (D:Ends),Inv X pins σ H s->t D σ H->wpAny (model X.prog X.w) X.A (exec st X.env) (SP X pins D) X.xe s
def PSs (X:Cx) (st:List Stmt) (t:TS):Prop:=
  ∀(pins:List (Addr × Obj)) (s:Shared) (σ:St) (H:Hp) (D:Ends),Inv X pins σ H s->t D σ H->wpAny (model X.prog X.w) X.A (execs st X.env) (SP X pins D) X.xe s
theorem thn {α:Type}{t:Sem α}{Q Q':α->Shared->Prop}{M:Model}{A:Around}{E:Value->Shared->Prop}{s:Shared} (h:wpAny M A t Q E s) (hQ:∀a s,Q a s->Q' a s):wpAny M A t Q' E s:=wpAny_mono h hQ fun _ _ x=>x
end L2
namespace L2
open PySem PySem.Spec PyProof.Rows
section
variable {X:Cx}
def Xk (i:Nat):TE:=fun σ H Q=>∃v,σ[i]? =some (some v)/\Q v H
def tC (v:V):TE:=fun _ H Q=>Q v H
theorem X7 {i:Nat}{x:Str}{pos:Pos} (hN:X.N[i]? =some x) (hv:Vis X.env.scope x) (hd:(x==("__debug__":Str))=false:=by decide) (hcd:(x==("__classdict__":Str))=false:=by decide):PE X (.Name x pos) (Xk i):=by
  intro pins s σ H Q I h
  obtain⟨v,e,h⟩:=h
  obtain⟨m,hn,hl⟩:=I.loc
  obtain⟨u,r,l⟩:=hl i x v hN e hv
  have fin:EP X pins σ Q u s:=⟨v,H,I,r,h⟩
  rcases l with⟨hk,hm⟩ | ⟨hk,c,hc,hcell⟩
  . exact wpAny_Name (wpAny_loadName_local I.ok.kind hk hn hm fin) hd
  . rcases hk with hk | hk
    . exact wpAny_Name (wpAny_loadName_cell I.ok.kind hk hc hcell fin) hd
    . exact wpAny_Name (wpAny_loadName_free I.ok.kind hk hc hcell fin hcd) hd
theorem Ab {i j pos}:PE X (.Constant (.int i) j pos) (tC (.int i)):=fun _ _ _ H _ I h=>wpAny_Constant_int ⟨.int i,H,I.tok _,⟨_,rfl⟩,h⟩
theorem Gg {b j pos}:PE X (.Constant (.bool b) j pos) (tC (.bl b)):=fun _ _ _ H _ I h=>Constant_bool ⟨.bl b,H,I,rfl,h⟩
theorem Qy {j pos}:PE X (.Constant .none j pos) (tC .non):=fun _ _ _ H _ I h=>Constant_none ⟨.non,H,I,rfl,h⟩
theorem O5 {x j pos}:PE X (.Constant (.str x) j pos) (tC (.str x)):=fun _ _ _ H _ I h=>Calls.Constant_str ⟨.str x,H,I.tok _,⟨_,rfl⟩,h⟩
def Gl (X:Cx) (x:Str):Prop:=X.env.kindOf x=some .globalImplicit
theorem Jr {E:Value->Shared->Prop}{pins:List (Addr × Obj)}{s:Shared}{σ:St}{H:Hp}{x:Str}{u:Value}{pos:Pos}{Q:Value->Shared->Prop} (I:Inv X pins σ H s) (hg:Gl X x) (hm:X.mg x=some u) (h:Q u s)
    (hd:(x==("__debug__":Str))=false:=by decide):wpAny (model X.prog X.w) X.A (eval (.Name x pos) X.env) Q E s:=
  Calls.Name_function_global I.ok.kind hg (Calls.loadGlobal_global (by rw [I.ok.glob];exact I.mod.glob.keeps I.bk) hm h) hd
theorem Kd {E:Value->Shared->Prop}{pins:List (Addr × Obj)}{s:Shared}{σ:St}{H:Hp}{x:Str}{u:Value}{pos:Pos}{Q:Value->Shared->Prop} (I:Inv X pins σ H s) (hg:Gl X x) (hm:X.mg x=none) (hv:bootBuiltins x=some u) (h:Q u s)
    (hn:x≠"__name__":=by decide) (hd:(x==("__debug__":Str))=false:=by decide):wpAny (model X.prog X.w) X.A (eval (.Name x pos) X.env) Q E s:=by
  obtain⟨mb,h1,h2⟩:=I.mod.blt
  exact Calls.Name_function_global I.ok.kind hg (Calls.loadGlobal_builtin (by rw [I.ok.glob];exact I.mod.glob.keeps I.bk) hm (by rw [I.ok.blt];exact h1.keeps I.bk) ((h2 x hn).trans hv) h) hd
theorem Ga {x:Str}{v:V}{u:Value}{pos:Pos} (hg:Gl X x) (hm:X.mg x=some u) (r:RelV v u) (hd:(x==("__debug__":Str))=false:=by decide):PE X (.Name x pos) (tC v):=
  fun _ _ _ H _ I h=>Jr I hg hm ⟨v,H,I,r,h⟩ hd
theorem Dg {x:Str}{v:V}{u:Value}{pos:Pos} (hg:Gl X x) (hm:X.mg x=none) (hv:bootBuiltins x=some u) (r:RelV v u) (hn:x≠"__name__":=by decide) (hd:(x==("__debug__":Str))=false:=by decide):PE X (.Name x pos) (tC v):=
  fun _ _ _ H _ I h=>Kd I hg hm hv ⟨v,H,I,r,h⟩ hn hd
variable {a b:Expr}{ta tb:TE}{pos:Pos}
def tB (t:TE):TT:=fun σ H Q=>t σ H fun x H1=>∃c,x= .bl c/\Q c H1
theorem En {e:Expr}{t:TE} (h:PE X e t) (he:∀whole,isTrue e X.env whole=(do let v<-whole;standAt e.pos;holding [v] (truthy v)):=by intro _;rfl):PT X e (tB t):=by
  intro pins s σ H Q I hw
  refine isTrue_plain (thn (h pins s σ H _ I hw) fun v s1 ⟨x,H1,I1,r1,q1⟩=> ?_) (he _)
  obtain⟨d,rfl,q⟩:=q1
  cases r1
  exact wpAny_truthy_bool ⟨H1,I1,q⟩
variable {tA tB':TT}{rest:List Expr}
def Zm (t u:TT):TT:=fun σ H Q=>t σ H fun c H1=>if c=true then u σ H1 Q else Q false H1
def tOr (t u:TT):TT:=fun σ H Q=>t σ H fun c H1=>if c=true then Q true H1 else u σ H1 Q
def Zi (t:TT):TT:=fun σ H Q=>t σ H fun c H1=>Q (!c) H1
theorem Ou (ha:PT X a tA):PW X (.BoolOp .And [a] pos) tA:=by
  intro wh pins s σ H Q I h
  refine isTrue_and (thn (ha pins s σ H Q I h) fun c s1 e=> ?_)
  cases c with
  | true=>exact isTrue_and_nil e
  | false=>exact e
theorem Ik (ha:PT X a tA):PW X (.BoolOp .Or [a] pos) tA:=by
  intro wh pins s σ H Q I h
  refine isTrue_or (thn (ha pins s σ H Q I h) fun c s1 e=> ?_)
  cases c with
  | false=>exact isTrue_or_nil e
  | true=>exact e
theorem Sd (ha:PT X a tA) (hb:PW X (.BoolOp .And (b::rest) pos) tB'):PW X (.BoolOp .And (a::b::rest) pos) (Zm tA tB'):=by
  intro wh pins s σ H Q I h
  refine isTrue_and (thn (ha pins s σ H _ I h) fun c s1 ⟨H1,I1,q1⟩=> ?_)
  cases c with
  | true=>exact hb wh pins s1 σ H1 Q I1 q1
  | false=>exact⟨H1,I1,q1⟩
theorem Jo (ha:PT X a tA) (hb:PW X (.BoolOp .Or (b::rest) pos) tB'):PW X (.BoolOp .Or (a::b::rest) pos) (tOr tA tB'):=by
  intro wh pins s σ H Q I h
  refine isTrue_or (thn (ha pins s σ H _ I h) fun c s1 ⟨H1,I1,q1⟩=> ?_)
  cases c with
  | true=>exact⟨H1,I1,q1⟩
  | false=>exact hb wh pins s1 σ H1 Q I1 q1
theorem Fq (ha:PT X a tA):PT X (.UnaryOp .Not a pos) (Zi tA):=by
  intro pins s σ H Q I h
  exact isTrue_not (ha pins s σ H (fun c H1=>Q (!c) H1) I h)
def W3 (ta tb:TE):TE:=fun σ H Q=>ta σ H fun x H1=>∃c,x= .bl c/\if c=true then tb σ H1 Q else Q (.bl false) H1
def Aan (ta tb:TE):TE:=fun σ H Q=>ta σ H fun x H1=>∃c,x= .bl c/\if c=true then Q (.bl true) H1 else tb σ H1 Q
def Wm (ta:TE):TE:=fun σ H Q=>ta σ H fun x H1=>∃c,x= .bl c/\Q (.bl (!c)) H1
theorem Ip {op}{t:TE} (h:PE X a t):PE X (.BoolOp op [a] pos) t:=fun pins s σ H Q I hw=>BoolOp_one (h pins s σ H Q I hw)
theorem Dv (ha:PE X a ta) (hb:PE X (.BoolOp .And (b::rest) pos) tb):PE X (.BoolOp .And (a::b::rest) pos) (W3 ta tb):=by
  intro pins s σ H Q I h
  refine BoolOp_and (thn (ha pins s σ H _ I h) fun v s1 ⟨x,H1,I1,r1,q1⟩=> ?_)
  obtain⟨c,rfl,q1⟩:=q1
  cases r1
  refine wpAny_truthy_bool ?_
  cases c with
  | true=>exact hb pins s1 σ H1 Q I1 q1
  | false=>exact⟨.bl false,H1,I1,rfl,q1⟩
theorem Li (ha:PE X a ta):PE X (.UnaryOp .Not a pos) (Wm ta):=by
  intro pins s σ H Q I h
  refine UnaryOp_ (thn (ha pins s σ H _ I h) fun v s1 ⟨x,H1,I1,r1,q1⟩=> ?_)
  obtain⟨c,rfl,q1⟩:=q1
  cases r1
  exact not_of (wpAny_truthy_bool ⟨.bl (!c),H1,I1,rfl,q1⟩)
def tIf (t:TT) (ta tb:TE):TE:=fun σ H Q=>t σ H fun c H1=>if c=true then ta σ H1 Q else tb σ H1 Q
theorem Ku {c:Expr} (hc:PT X c tA) (ha:PE X a ta) (hb:PE X b tb):PE X (.IfExp c a b pos) (tIf tA ta tb):=by
  intro pins s σ H Q I h
  refine wpAny_IfExp (thn (hc pins s σ H _ I h) fun d s1 ⟨H1,I1,q1⟩=> ?_)
  cases d with
  | true=>exact ha pins s1 σ H1 Q I1 q1
  | false=>exact hb pins s1 σ H1 Q I1 q1
end
end L2
namespace L2
open PySem PySem.Spec PyProof.Rows
def SqL (K:PySem.W.Frag) (H:Hp) (a:Addr) (xs:List V):Prop:=
  Rd H a (.lst xs)\/
    ∃(o:Obj) (its:Array Value) (n:Nat),K.lookup a=some o/\o.cls= .type "list"/\o.dict=none/\o.data= .seq its n/\its.size<=sizeLine/\Vals xs its.toList
def SqT (K:PySem.W.Frag) (H:Hp) (a:Addr) (xs:List V):Prop:=
  Rd H a (.tup xs)\/
    ∃(o:Obj) (its:Array Value) (n:Nat),K.lookup a=some o/\o.cls= .type "tuple"/\o.data= .seq its n/\its.size<=sizeLine/\Vals xs its.toList
def Aau:Value->Option V
  | .none=>some .non
  | .bool b=>some (.bl b)
  | .int i _=>some (.int i)
  | .str x _=>some (.str x)
  | .bytes b _=>some (.byt b)
  | .float b _=>some (.flt b)
  | .ref a=>some (.ref a)
  | .type n=>some (.ty n)
  | _=>none
theorem RelV.abs {x:V}{u:Value} (r:RelV x u):Aau u=some x:=by
  cases x with
  | non=>cases r;rfl
  | bl _=>cases r;rfl
  | int _=>obtain⟨t,rfl⟩:=r;rfl
  | str _=>obtain⟨t,rfl⟩:=r;rfl
  | byt _=>obtain⟨t,rfl⟩:=r;rfl
  | flt _=>obtain⟨t,rfl⟩:=r;rfl
  | ref _=>cases r;rfl
  | ty _=>cases r;rfl
theorem RelV.inj {x y:V}{u:Value} (r:RelV x u) (q:RelV y u):x=y:=Option.some.inj (r.abs.symm.trans q.abs)
theorem Vals.inj:∀ {xs ys:List V}{us:List Value},Vals xs us->Vals ys us->xs=ys
  | _,_,_,.nil,.nil=>rfl
  | _,_,_,.cons r t,.cons r' t'=>by rw [r.inj r',Vals.inj t t']
section
variable {X:Cx}{pins:List (Addr × Obj)}{σ:St}{H:Hp}{s:Shared}{a:Addr}{xs ys:List V}
theorem SqL.of {K:PySem.W.Frag} (h:H a=some (.lst xs)):SqL K H a xs:= .inl (.inl h)
theorem SqT.of {K:PySem.W.Frag} (h:H a=some (.tup xs)):SqT K H a xs:= .inl (.inl h)
theorem Inv.list (I:Inv X pins σ H s) (h:SqL X.K H a xs):∃its:List Value,Vals xs its/\PlainL s.heap a its.toArray/\xs.length<=sizeLine:=by
  rcases h with h | ⟨o,its,n,hk,hc,hd,hs,hz,r⟩
  . obtain⟨z,its,n,r,e⟩:=h.ok I.hok
    exact⟨its,r,⟨_,n,e,rfl,rfl,rfl⟩,z⟩
  . refine⟨its.toList,r,⟨o,n,I.kIn a o hk,hc,hd,by simpa using hs⟩,?_⟩
    have e:=r.length
    simp only [Array.length_toList]at e
    omega
theorem Inv.tuple (I:Inv X pins σ H s) (h:SqT X.K H a xs):∃its:List Value,Vals xs its/\IsTup s.heap a its.toArray/\xs.length<=sizeLine:=by
  rcases h with h | ⟨o,its,n,hk,hc,hs,hz,r⟩
  . obtain⟨z,its,r,p⟩:=h.ok I.hok
    exact⟨its,r,p,z⟩
  . refine⟨its.toList,r,⟨o,I.kIn a o hk,hc,n,by simpa using hs⟩,?_⟩
    have e:=r.length
    simp only [Array.length_toList]at e
    omega
theorem Inv.list_inj (I:Inv X pins σ H s) (h:SqL X.K H a xs) (h':SqL X.K H a ys):xs=ys:=by
  obtain⟨its,r,⟨o,n,e,_,_,d⟩,_⟩:=I.list h
  obtain⟨its',r',⟨o',n',e',_,_,d'⟩,_⟩:=I.list h'
  rw [e]at e';cases e'
  rw [d]at d'
  injection d' with d1 _
  have:its=its':=by simpa using congrArg Array.toList d1
  subst this
  exact r.inj r'
theorem Inv.tuple_inj (I:Inv X pins σ H s) (h:SqT X.K H a xs) (h':SqT X.K H a ys):xs=ys:=by
  obtain⟨its,r,⟨o,e,_,n,d⟩,_⟩:=I.tuple h
  obtain⟨its',r',⟨o',e',_,n',d'⟩,_⟩:=I.tuple h'
  rw [e]at e';cases e'
  rw [d]at d'
  injection d' with d1 _
  have:its=its':=by simpa using congrArg Array.toList d1
  subst this
  exact r.inj r'
end
abbrev Cx.wish (X:Cx) (E:Value->Shared->Prop):Cx:={ X with xe:=E}
abbrev Cx.nox (X:Cx):Cx:=X.wish fun _ _=>False
theorem Cx.Ok.wish {X:Cx} (ok:X.Ok) (E:Value->Shared->Prop):(X.wish E).Ok:=
  ⟨ok.mod,ok.kind,ok.glob,ok.blt,ok.above,ok.inj,ok.has,ok.cab,ok.hd,ok.frames,ok.stk,ok.exf,ok.bs,ok.bsz,ok.noex,ok.exfs,ok.funs,ok.frf⟩
theorem Cx.Ok.unwish {X:Cx}{E:Value->Shared->Prop} (ok:(X.wish E).Ok):X.Ok:=
  ⟨ok.mod,ok.kind,ok.glob,ok.blt,ok.above,ok.inj,ok.has,ok.cab,ok.hd,ok.frames,ok.stk,ok.exf,ok.bs,ok.bsz,ok.noex,ok.exfs,ok.funs,ok.frf⟩
section
variable {X:Cx}{pins:List (Addr × Obj)}{σ:St}{H:Hp}{s:Shared}{E:Value->Shared->Prop}
theorem Inv.wish (I:Inv X pins σ H s) (E:Value->Shared->Prop):Inv (X.wish E) pins σ H s:=⟨I.ok.wish E,I.os,I.bare,I.base,I.loc,I.cell,I.free,I.freeC,I.pin,I.hok,I.len⟩
theorem Inv.unwish (I:Inv (X.wish E) pins σ H s):Inv X pins σ H s:=⟨I.ok.unwish,I.os,I.bare,I.base,I.loc,I.cell,I.free,I.freeC,I.pin,I.hok,I.len⟩
theorem SP.unwish {D:Ends}{f:Flow}{s':Shared} (h:SP (X.wish E) pins D f s'):SP X pins D f s':=by
  cases f with
  | next=>obtain⟨σ',H',I,q⟩:=h;exact⟨σ',H',I.unwish,q⟩
  | brk=>obtain⟨σ',H',I,q⟩:=h;exact⟨σ',H',I.unwish,q⟩
  | cont=>obtain⟨σ',H',I,q⟩:=h;exact⟨σ',H',I.unwish,q⟩
  | ret u=>obtain⟨v,σ',H',I,r,q⟩:=h;exact⟨v,σ',H',I.unwish,r,q⟩
theorem PE.nox {e:Expr}{t:TE} (h:PE X.nox e t):PE X e t:=fun pins s σ H Q I hw=>
  wpAny_mono (h pins s σ H Q (I.wish _) hw) (fun _ _ ⟨v,H',I',r,q⟩=>⟨v,H',I'.unwish,r,q⟩) fun _ _ z=>False.elim z
theorem PT.nox {e:Expr}{t:TT} (h:PT X.nox e t):PT X e t:=fun pins s σ H Q I hw=>
  wpAny_mono (h pins s σ H Q (I.wish _) hw) (fun _ _ ⟨H',I',q⟩=>⟨H',I'.unwish,q⟩) fun _ _ z=>False.elim z
theorem PSs.nox {st:List Stmt}{t:TS} (h:PSs X.nox st t):PSs X st t:=fun pins s σ H D I hw=>
  wpAny_mono (h pins s σ H D (I.wish _) hw) (fun _ _ q=>q.unwish) fun _ _ z=>False.elim z
end
section
variable {X:Cx}{st:Stmt}{rest:List Stmt}{t u:TS}{e:Expr}{te:TE}{pos:Pos}
def W8:TS:=fun D σ H=>D.nx σ H
def Y5 (t u:TS):TS:=fun D σ H=>t { D with nx:=u D} σ H
theorem Az:PSs X [] W8:=fun _ _ σ H _ I h=>wpAny_execs_nil ⟨σ,H,I,h⟩
theorem Ad (h1:PS X st t) (h2:PSs X rest u):PSs X (st::rest) (Y5 t u):=by
  intro pins s σ H D I h
  refine wpAny_execs_cons (thn (h1 pins s σ H { D with nx:=u D} I h) fun f s1 q=> ?_)
  cases f with
  | next=>
    obtain⟨σ',H',I',q⟩:=q
    exact h2 pins s1 σ' H' D I' q
  | ret v=>exact q
  | brk=>exact q
  | cont=>exact q
theorem Ae (h1:PS X st t):PSs X [st] t:=by
  intro pins s σ H D I h
  refine wpAny_execs_cons (thn (h1 pins s σ H D I h) fun f s1 q=> ?_)
  cases f with
  | next=>exact wpAny_execs_nil q
  | ret v=>exact q
  | brk=>exact q
  | cont=>exact q
theorem Inv.quiet {pins:List (Addr × Obj)}{σ:St}{H:Hp}{s:Shared} (I:Inv X pins σ H s):interactive X.env=false:=by simp [interactive,I.ok.kind]
def Ws (te:TE):TS:=fun D σ H=>te σ H fun _ H1=>D.nx σ H1
theorem Ju (he:PE X e te) (hs:swapsWith e none pos.line X.env=pure false:=by rfl):PS X (.Expr e pos) (Ws te):=by
  intro pins s σ H D I h
  exact wpAny_Expr_any (thn (he pins s σ H _ I h) fun v s1 ⟨x,H1,I1,r1,q1⟩=>⟨σ,H1,I1,q1⟩) I.quiet hs
def Y9 (te:TE):TS:=fun D σ H=>te σ H D.rt
theorem Ao (he:PE X e te):PS X (.Return (some e) pos) (Y9 te):=by
  intro pins s σ H D I h
  exact wpAny_Return_some (thn (he pins s σ H _ I h) fun v s1 ⟨x,H1,I1,r1,q1⟩=>⟨x,σ,H1,I1,r1,q1⟩)
def Zh (c:TT) (t u:TS):TS:=fun D σ H=>c σ H fun b H1=>if b=true then t D σ H1 else u D σ H1
theorem Dd {c:Expr}{a b:List Stmt}{tc:TT} (hc:PT X c tc) (ha:PSs X a t) (hb:PSs X b u):PS X (.If c a b pos) (Zh tc t u):=by
  intro pins s σ H D I h
  refine wpAny_If (thn (hc pins s σ H _ I h) fun d s1 ⟨H1,I1,q1⟩=> ?_)
  cases d with
  | true=>exact ha pins s1 σ H1 D I1 q1
  | false=>exact hb pins s1 σ H1 D I1 q1
def Vj:TS:=fun _ _ _=>False
theorem Kl:PS X st Vj:=fun _ _ _ _ _ _ h=>h.elim
end
abbrev TG:=V->St->Hp->(St->Hp->Prop)->Prop
abbrev TGs:=List V->St->Hp->(St->Hp->Prop)->Prop
def PG (X:Cx) (target:Expr) (t:TG):Prop:=
  ∀(pins:List (Addr × Obj)) (s:Shared) (σ:St) (H:Hp) (v:V) (u:Value) (Q:St->Hp->Prop),Inv X pins σ H s->RelV v u->t v σ H Q->
    wpAny (model X.prog X.w) X.A (assign target X.env u) (fun _ s'=>∃σ' H',Inv X pins σ' H' s'/\Q σ' H') X.xe s
def PGs (X:Cx) (ts:List Expr) (t:TGs):Prop:=
  ∀(pins:List (Addr × Obj)) (s:Shared) (σ:St) (H:Hp) (vs:List V) (us:List Value) (Q:St->Hp->Prop),Inv X pins σ H s->Vals vs us->t vs σ H Q->
    wpAny (model X.prog X.w) X.A (assignInOrder ((assignEach ts X.env).map (·.2)) us) (fun _ s'=>∃σ' H',Inv X pins σ' H' s'/\Q σ' H') X.xe s
abbrev Aab:=V->V->V->Hp->(Hp->Prop)->Prop
section
variable {X:Cx}{pos:Pos}
def Oi (i:Nat):TG:=fun v σ H Q=>Q (σ.set i (some v)) H
theorem Am {i:Nat}{x:Str} (hN:X.N.Nodup) (hi:X.N[i]? =some x) (hx:Loc X.env.scope x) (hf:X.fn x=true\/X.env.scope.names.lookup x=some .local :=by first | exact .inl rfl | exact .inr rfl | assumption):PG X (.Name x pos) (Oi i):=by
  intro pins s σ H v u Q I r h
  exact wpAny_assign_Name (Gj I hN hi hx r (fun s' I'=>⟨_,H,I',h⟩) hf)
def Z8:TGs:=fun vs σ H Q=>vs=[]/\Q σ H
def T6 (t:TG) (u:TGs):TGs:=fun vs σ H Q=>∃v r,vs=v::r/\t v σ H fun σ' H'=>u r σ' H' Q
theorem Cz:PGs X [] Z8:=by
  intro pins s σ H vs us Q I r h
  obtain⟨e,h⟩:=h
  subst e
  cases r
  exact assignInOrder_nil ⟨σ,H,I,h⟩
theorem Ar {e:Expr}{es:List Expr}{t:TG}{u:TGs} (h1:PG X e t) (h2:PGs X es u)
    (hs:(assignEach (e::es) X.env).map (·.2)=assign e X.env::(assignEach es X.env).map (·.2):=by rfl):PGs X (e::es) (T6 t u):=by
  intro pins s σ H vs us Q I r h
  obtain⟨v,vr,e1,h⟩:=h
  subst e1
  cases r with
  | cons r rr=>
    rw [hs]
    refine assignInOrder_cons (thn (h1 pins s σ H _ _ _ I r h) fun _ s1 ⟨σ1,H1,I1,q1⟩=> ?_)
    exact h2 pins s1 σ1 H1 _ _ Q I1 rr q1
def Ys (K:PySem.W.Frag) (n:Nat) (t:TGs):TG:=fun v σ H Q=>∃a xs,v= .ref a/\SqT K H a xs/\xs.length=n/\t xs σ H Q
theorem El {es:List Expr}{k:Nat}{t:TGs}{n:Nat} (hc:X.calm=true) (h:PGs X es t)
    (hn:(assignEach es X.env).length=n:=by rfl) (hst:(assignEach es X.env).findIdx? (·.1)=none:=by rfl):PG X (.Tuple es k pos) (Ys X.K n t):=by
  intro pins s σ H v u Q I r hw
  obtain⟨a,xs,e1,hq,hl,hw⟩:=hw
  subst e1
  cases r
  obtain⟨its,rv,ht,hz⟩:=I.tuple hq
  refine assign_Tuple_tuple (I.ok.hd hc) ht (by simp [hn,<-hl,rv.length]) hst fun h' hx=> ?_
  have I1:Inv X pins σ H { s with heap:=h'}:=I.kept (t':=s.toks) fun b o e=>hx b o (Nat.ne_of_lt (Heap.lt_size e)) e
  exact h pins _ σ H xs _ Q I1 (by simpa using rv) hw
def Aay (to ti:TE) (t:Aab):TG:=fun v σ H Q=>to σ H fun o H1=>ti σ H1 fun i H2=>t o i v H2 fun H3=>Q σ H3
def X6 (te:TE) (g:TG):TS:=fun D σ H=>te σ H fun x H1=>g x σ H1 D.nx
theorem Hf {tg e:Expr}{te:TE}{g:TG} (he:PE X e te) (hg:PG X tg g) (hs:swapsWithSole [tg] e pos.line X.env=pure false:=by rfl) (hw:swappedStores [tg] e X.env=pure none:=by rfl)
    (h1:(assignEach [tg] X.env).map (·.2)=[assign tg X.env]:=by rfl):PS X (.Assign [tg] e pos) (X6 te g):=by
  intro pins s σ H D I h
  refine wpAny_Assign_stores (thn (he pins s σ H _ I h) fun v s1 ⟨x,H1,I1,r1,q1⟩=> ?_) hs hw
  rw [h1]
  exact thn (hg pins s1 σ H1 x v _ I1 r1 q1) fun _ s2 q=>q
theorem Aj {i:Nat}{x:Str}{e:Expr}{te:TE}{pos':Pos} (hN:X.N.Nodup) (hi:X.N[i]? =some x) (hx:Loc X.env.scope x) (he:PE X e te) (hs:swapsWith e (some (.Name x pos')) pos.line X.env=pure false:=by rfl) (hf:X.fn x=true\/X.env.scope.names.lookup x=some .local :=by first | exact .inl rfl | exact .inr rfl | assumption):
    PS X (.Assign [.Name x pos'] e pos) (X6 te (Oi i)):=by
  intro pins s σ H D I h
  refine wpAny_Assign_Name (thn (he pins s σ H _ I h) fun v s1 ⟨y,H1,I1,r1,q1⟩=> ?_) hs
  exact Gj I1 hN hi hx r1 (fun s2 I2=>⟨_,H1,I2,q1⟩) hf
def Zd (i j:Nat) (ta:TA):TS:=fun D σ H=>ta σ H fun vs H1=>∃v w,vs=[v,w]/\D.nx ((σ.set i (some v)).set j (some w)) H1
theorem Pa {i j:Nat}{x y:Str}{a b:Expr}{ta:TA}{px py pt:Pos}{kt k2 pt2} (hc:X.calm=true) (hN:X.N.Nodup) (hi:X.N[i]? =some x) (hj:X.N[j]? =some y) (hij:i≠j)
    (hx:X.env.scope.names.lookup x=some .local) (hy:X.env.scope.names.lookup y=some .local) (ha:PA X [a,b] ta)
    (hw:swappedStores [.Tuple [.Name x px,.Name y py] kt pt] (.Tuple [a,b] k2 pt2) X.env=pure (some [x,y]))
    (hs:swapsWithSole [.Tuple [.Name x px,.Name y py] kt pt] (.Tuple [a,b] k2 pt2) pos.line X.env=pure false:=by rfl):
    PS X (.Assign [.Tuple [.Name x px,.Name y py] kt pt] (.Tuple [a,b] k2 pt2) pos) (Zd i j ta):=by
  intro pins s σ H D I h
  rw [exec_Assign_arm]
  refine wpAny_bind (wpAny_standAt ?_)
  rw [hs]
  refine wpAny_bind (wpAny_pure ?_)
  rw [if_neg (by decide)]
  refine wpAny_bind (Tuple_ (thn (ha _ pins s σ H _ I h) fun us s1 ⟨vs,H1,I1,r1,q1⟩=> ?_))
  obtain⟨v,w,e1,q1⟩:=q1
  subst e1
  obtain⟨u1,u2,rfl,rv,rw'⟩:∃u1 u2,us=[u1,u2]/\RelV v u1/\RelV w u2:=by
    cases r1 with
    | cons p q=>
      cases q with
      | cons p' q'=>
        cases q'
        exact⟨_,_,rfl,p,p'⟩
  refine wpAny_newObj_type ?_ (by show 2<=sizeLine;decide)
  have I2:Inv X pins σ H1 { s1 with heap:=s1.heap.push { cls:= .type "tuple",data:= .seq [u1,u2].toArray}}:=I1.kept (t':=s1.toks) fun b o e=>Heap.get?_push_of_some _ e
  rw [hw]
  refine wpAny_bind (wpAny_pure ?_)
  show wpAny (model X.prog X.w) X.A (do rule "assign.swapped-stores";let items<-unpackItems (.ref s1.heap.objs.size) 2 none;assignInOrder [fun v=>bindName X.env y v,fun v=>bindName X.env x v] items.reverse;pure Flow.next) _ _ _
  refine wpAny_bind (wpAny_rule (wpAny_bind (unpackItems_tuple (items:= #[u1,u2]) (I.ok.hd hc) (IsTup.new s1.heap _) fun h' hx'=> ?_)))
  have I3:=I2.kept (h':=h') (t':=s1.toks) fun b o e=>hx' b o (Nat.ne_of_lt (Heap.lt_size e)) e
  show wpAny _ _ (assignInOrder [fun v=>bindName X.env y v,fun v=>bindName X.env x v] [u2,u1]>>=fun _=>pure Flow.next) _ _ _
  refine wpAny_bind (assignInOrder_cons (wpAny_bindName (Gj I3 hN hj (.inl hy) rw' (fun s2 I4=> ?_) (.inr hy))))
  refine assignInOrder_cons (wpAny_bindName (Gj I4 hN hi (.inl hx) rv (fun s3 I5=>assignInOrder_nil (wpAny_pure ?_)) (.inr hx)))
  rw [List.set_comm _ _ (Ne.symm hij)]at I5
  exact⟨_,H1,I5,q1⟩
end
section
variable {X:Cx}{pos:Pos}
def Pq (c:TT) (tb:TS):TS:=fun D σ H=>∃W:Nat->St->Hp->Prop,(∃m,W m σ H)/\∀m σ H,W m σ H->
  c σ H fun b H1=>if b=true then ∃N:St->Hp->Prop,(∀σ' H',N σ' H'->∃m',m'<m/\W m' σ' H')/\tb { D with nx:=N,ct:=N,bk:=D.nx} σ H1 else D.nx σ H1
theorem Fi {c:Expr}{body:List Stmt}{tc:TT}{tb:TS} (hp:PassesOwn (model X.prog X.w) X.A X.env X.xe) (hc:PT X c tc) (hb:PSs X body tb):PS X (.While c body [] pos) (Pq tc tb):=by
  intro pins s σ H D I h
  obtain⟨W,⟨m0,w0⟩,turn⟩:=h
  refine wpAny_While (codeAny_whileLoop (fun n s'=>∃σ' H',Inv X pins σ' H' s'/\W n σ' H') ?_ m0 ⟨σ,H,I,w0⟩)
  rintro n s1 ⟨σ1,H1,I1,w1⟩
  refine wpAny_passesOwn hp (thn (hc pins s1 σ1 H1 _ I1 (turn n σ1 H1 w1)) fun b s2 ⟨H2,I2,q2⟩=> ?_)
  cases b with
  | true=>
    obtain⟨N,hN,q2⟩:=q2
    rw [if_pos rfl]
    refine wpAny_passesOwn hp (thn (hb pins s2 σ1 H2 _ I2 q2) fun f s3 q3=> ?_)
    cases f with
    | next=>
      obtain⟨σ3,H3,I3,n3⟩:=q3
      obtain⟨m',hm,w3⟩:=hN σ3 H3 n3
      exact⟨m',hm,σ3,H3,I3,w3⟩
    | cont=>
      obtain⟨σ3,H3,I3,n3⟩:=q3
      obtain⟨m',hm,w3⟩:=hN σ3 H3 n3
      exact⟨m',hm,σ3,H3,I3,w3⟩
    | brk=>exact q3
    | ret v=>exact q3
  | false=>
    rw [if_neg Bool.false_ne_true]
    exact wpAny_execs_nil ⟨σ1,H2,I2,q2⟩
end
structure It where
  go:Nat->Hp->Prop
  yld:Nat->Hp->V->Hp->Prop
  stop:Nat->Hp->Prop
def Pu (X:Cx) (pins:List (Addr × Obj)) (H:Hp) (b:Addr):Prop:=
  H b=none/\b≠X.env.locals/\b∉X.fs/\(b∈X.ex\/X.s₀.heap.objs.size<=b)/\(∀x c,X.env.cells.lookup x=some c->c≠b)/\∀p∈X.pn++pins,p.1≠b
theorem Inv.fpOk {X:Cx}{pins:List (Addr × Obj)}{σ:St}{H H':Hp}{s:Shared}{b:Addr} (I:Inv X pins σ H s) (hb:s.heap.objs.size<=b) (hn:H' b=none):Pu X pins H' b:=by
  refine⟨hn,Nat.ne_of_gt (Nat.lt_of_lt_of_le I.lt hb),I.nofs hb,.inr (Nat.le_trans I.sz hb),fun x c e z=> ?_,fun p hp z=> ?_⟩
  . obtain⟨v,q⟩:=I.cell x c e
    exact absurd (Nat.lt_of_lt_of_le q.lt (by rw [z];exact hb)) (Nat.lt_irrefl _)
  . exact absurd (Nat.lt_of_lt_of_le (Heap.lt_size (I.pin p hp).1) (by rw [z];exact hb)) (Nat.lt_irrefl _)
structure Turn (P:Program) (w:World) (K:PySem.W.Frag) (tg:Expr) (J:It) (fp:List Addr) (it:Addr) (tn:Nat->Heap->Prop):Prop where
  mem:it∈fp
  obj:∀i h,tn i h->∀b∈fp,∃o,h.get? b=some o/\∀v,o.data≠ .cell v
  keep:∀i h h',tn i h->(∀b∈fp,∀o,h.get? b=some o->h'.get? b=some o)->tn i h'
  item:∀(X:Cx),X.prog=P->X.w=w->X.K=K->X.calm=true->∀(i:Nat) (pins:List (Addr × Obj)) (s:Shared) (σ:St) (H:Hp) (E:Value->Shared->Prop),Inv X pins σ H s->(∀b∈fp,Pu X pins H b)->tn i s.heap->J.go i H->
    wpAny (model P w) X.A (pyNext (.ref it)) (fun r s1=>∃u,r=some u/\
      wpAny (model P w) X.A (letOwnedTupleGo tg (.ref it) u) (fun _ s2=>∃x H',Inv X pins σ H' s2/\RelV x u/\J.yld i H x H'/\tn (i+1) s2.heap/\∀b∈fp,H' b=none) E s1) E s
  done:∀(X:Cx),X.prog=P->X.w=w->X.K=K->X.calm=true->∀(i:Nat) (pins:List (Addr × Obj)) (s:Shared) (σ:St) (H:Hp) (E:Value->Shared->Prop),Inv X pins σ H s->(∀b∈fp,Pu X pins H b)->tn i s.heap->J.stop i H->
    wpAny (model P w) X.A (pyNext (.ref it)) (fun r s1=>r=none/\Inv X pins σ H s1) E s
  self:∀(A:Around) (i:Nat) (s:Shared) (Q:Value->Shared->Prop) (E:Value->Shared->Prop),tn i s.heap->Q (.ref it) s->wpAny (model P w) A (pyIter (.ref it)) Q E s
abbrev TI:=St->Hp->(It->Hp->Prop)->Prop
def PIE (X:Cx) (pins:List (Addr × Obj)) (σ:St) (tg:Expr) (R:It->Hp->Prop) (itv:Value) (s2:Shared):Prop:=
  ∃(it:Addr) (fp:List Addr) (tn:Nat->Heap->Prop) (J:It) (H':Hp),itv= .ref it/\Inv X pins σ H' s2/\Turn X.prog X.w X.K tg J fp it tn/\tn 0 s2.heap/\(∀b∈fp,Pu X pins H' b)/\R J H'
def PI (X:Cx) (tg iter:Expr) (wi:TI):Prop:=
  ∀(pins:List (Addr × Obj)) (s:Shared) (σ:St) (H:Hp) (R:It->Hp->Prop),Inv X pins σ H s->wi σ H R->
    wpAny (model X.prog X.w) X.A (eval iter X.env) (fun v s1=>wpAny (model X.prog X.w) X.A (pyIter v) (PIE X pins σ tg R) X.xe s1) X.xe s
theorem Uw {M:Model}{A:Around}{E:Value->Shared->Prop}{s:Shared}{tg:Expr}{it:Addr}{u:Value}{o:Obj}{n:String}{vs:Array Value}{Q:Unit->Shared->Prop} (ho:s.heap.get? it=some o) (hc:o.cls= .type n) (hd:o.data= .fields vs)
    (hn:["enumerate","zip","dict_itemiterator","dict_reverseitemiterator","odict_iterator","itertools.zip_longest","itertools.pairwise"].contains n=false) (hQ:Q () s):wpAny M A (letOwnedTupleGo tg (.ref it) u) Q E s:=by
  unfold letOwnedTupleGo
  cases tg<;>first
    | exact wpAny_pure hQ
    | (cases u<;>first
        | exact wpAny_pure hQ
        | (refine wpAny_bind (wpAny_load ho ?_)
           rw [hc,hd]
           show wpAny M A (if(["enumerate","zip","dict_itemiterator","dict_reverseitemiterator","odict_iterator","itertools.zip_longest","itertools.pairwise"].contains n&&vs[0]? ==some (rawInt _))=true then _ else _) Q E s
           rw [if_neg (by intro h;rw [hn,Bool.false_and]at h;cases h)]
           exact wpAny_pure hQ))
def Itl (K:PySem.W.Frag) (a:Addr):It:=
  ⟨fun i H=>∃xs x,SqL K H a xs/\xs[i]? =some x,fun i H x H'=>H'=H/\∀xs,SqL K H a xs->xs[i]? =some x,fun i H=>∃xs,SqL K H a xs/\xs.length<=i⟩
def Itt (K:PySem.W.Frag) (a:Addr):It:=
  ⟨fun i H=>∃xs x,SqT K H a xs/\xs[i]? =some x,fun i H x H'=>H'=H/\∀xs,SqT K H a xs->xs[i]? =some x,fun i H=>∃xs,SqT K H a xs/\xs.length<=i⟩
def Itr (lo:Int) (n:Nat):It:=⟨fun i _=>i<n,fun i H x H'=>H'=H/\x= .int (lo+i),fun i _=>n<=i⟩
theorem S8 {P:Program}{w:World}{K:PySem.W.Frag}{tg:Expr} (a it:Addr):Turn P w K tg (Itl K a) [it] it (fun i h=>h.IsListIter it a i) where
  mem:=by simp
  obj:=fun i h st b hb=>by
    have e:b=it:=by simpa using hb
    subst e
    obtain⟨o,e,c,d⟩:=st
    exact⟨o,e,fun v z=>by rw [d]at z;cases z⟩
  keep:=fun i h h' st k=>st.at fun o e=>k it (by simp) o e
  item:=by
    intro X hP hw hK hc i pins s σ H E I hf st hg
    subst hP hw hK
    obtain⟨xs,x,hq,hx⟩:=hg
    obtain⟨its,rv,p,hz⟩:=I.list hq
    obtain⟨u,hu,ru⟩:=rv.get hx
    obtain⟨f0,f1,f2,f3,f4,f5⟩:=hf it (by simp)
    refine wpAny_pyNext_list_item st p.isList (x:=u) (by simpa using hu) fun h' st' sb=> ?_
    have I1:Inv X pins σ H { s with heap:=h'}:=I.turned (t':=s.toks) (fun b o hb e=>(sb.2 b hb).trans e) f0 f1 f3 f4 f5
    obtain⟨o,e,c,d⟩:=id st'
    exact⟨u,rfl,Uw (s:={ s with heap:=h'}) e c d (by decide) ⟨x,H,I1,ru,⟨rfl,fun ys hy=>by rw [I.list_inj hy hq];exact hx⟩,st',fun b hb=>(hf b hb).1⟩⟩
  done:=by
    intro X hP hw hK hc i pins s σ H E I hf st hg
    subst hP hw hK
    obtain⟨xs,hq,hx⟩:=hg
    obtain⟨its,rv,p,hz⟩:=I.list hq
    obtain⟨f0,f1,f2,f3,f4,f5⟩:=hf it (by simp)
    have hl:=rv.length
    exact wpAny_pyNext_list_end (I.ok.hd hc) st p.isList (by simp;omega) fun h' eb=>⟨rfl,I.turned (t':=s.toks) (fun b o hb e=>eb b o hb e) f0 f1 f3 f4 f5⟩
  self:=fun _ _ _ _ _ st h=>wpAny_pyIter_listiter st h
theorem Qo {P:Program}{w:World}{K:PySem.W.Frag}{tg:Expr} (a it:Addr):Turn P w K tg (Itt K a) [it] it (fun i h=>h.IsTupleIter it a i) where
  mem:=by simp
  obj:=fun i h st b hb=>by
    have e:b=it:=by simpa using hb
    subst e
    obtain⟨o,e,c,d⟩:=st
    exact⟨o,e,fun v z=>by rw [d]at z;cases z⟩
  keep:=fun i h h' st k=>st.at fun o e=>k it (by simp) o e
  item:=by
    intro X hP hw hK hc i pins s σ H E I hf st hg
    subst hP hw hK
    obtain⟨xs,x,hq,hx⟩:=hg
    obtain⟨its,rv,p,hz⟩:=I.tuple hq
    obtain⟨u,hu,ru⟩:=rv.get hx
    obtain⟨f0,f1,f2,f3,f4,f5⟩:=hf it (by simp)
    refine wpAny_pyNext_tuple_item st (show s.heap.IsTuple a its.toArray from p) (x:=u) (by simpa using hu) fun h' st' sb=> ?_
    have I1:Inv X pins σ H { s with heap:=h'}:=I.turned (t':=s.toks) (fun b o hb e=>(sb.2 b hb).trans e) f0 f1 f3 f4 f5
    obtain⟨o,e,c,d⟩:=id st'
    exact⟨u,rfl,Uw (s:={ s with heap:=h'}) e c d (by decide) ⟨x,H,I1,ru,⟨rfl,fun ys hy=>by rw [I.tuple_inj hy hq];exact hx⟩,st',fun b hb=>(hf b hb).1⟩⟩
  done:=by
    intro X hP hw hK hc i pins s σ H E I hf st hg
    subst hP hw hK
    obtain⟨xs,hq,hx⟩:=hg
    obtain⟨its,rv,p,hz⟩:=I.tuple hq
    obtain⟨f0,f1,f2,f3,f4,f5⟩:=hf it (by simp)
    have hl:=rv.length
    exact wpAny_pyNext_tuple_end (I.ok.hd hc) st (show s.heap.IsTuple a its.toArray from p) (by simp;omega) fun h' eb=>⟨rfl,I.turned (t':=s.toks) (fun b o hb e=>eb b o hb e) f0 f1 f3 f4 f5⟩
  self:=fun _ _ _ _ _ st h=>wpAny_pyIter_tupleiter st h
theorem Qd {P:Program}{w:World}{K:PySem.W.Frag}{tg:Expr} (it:Addr) (lo:Int) (n:Nat):Turn P w K tg (Itr lo n) [it] it (fun i h=>IsRangeIter h it (lo+(i:Nat)*1) ((n:Int)-(i:Nat)) 1) where
  mem:=by simp
  obj:=fun i h st b hb=>by
    have e:b=it:=by simpa using hb
    subst e
    exact⟨_,st,fun v z=>by
      have z':Data.fields _=Data.cell v:=z
      cases z'⟩
  keep:=fun i h h' st k=>k it (by simp) _ st
  item:=by
    intro X hP hw hK hc i pins s σ H E I hf st hg
    subst hP hw hK
    obtain⟨f0,f1,f2,f3,f4,f5⟩:=hf it (by simp)
    have W:=Walks.range (prog:=X.prog) (w:=X.w) (I.ok.hd hc) it lo 1 n
    refine W.item i s _ _ hg st fun v h' tk hv st' kk=> ?_
    obtain⟨t,rfl⟩:=hv
    have I1:Inv X pins σ H { s with heap:=h',toks:=tk}:=I.turned (fun b o hb e=>kk b o (by simpa using hb) e) f0 f1 f3 f4 f5
    refine⟨_,rfl,Uw (s:={ s with heap:=h',toks:=tk}) (n:="range_iterator") st' rfl rfl (by decide) ⟨.int (lo+i),H,I1,⟨t,?_⟩,⟨rfl,rfl⟩,st',fun b hb=>(hf b hb).1⟩⟩
    rw [Int.mul_one]
  done:=by
    intro X hP hw hK hc i pins s σ H E I hf st hg
    subst hP hw hK
    obtain⟨f0,f1,f2,f3,f4,f5⟩:=hf it (by simp)
    exact wpAny_pyNext_range_end (I.ok.hd hc) st (by have:n<=i:=hg;omega) fun h' eb=>⟨rfl,I.turned (t':=s.toks) (fun b o hb e=>eb b o hb e) f0 f1 f3 f4 f5⟩
  self:=fun _ _ _ _ _ st h=>wpAny_pyIter_rangeiter st h
end L2
namespace L2
open PySem PySem.Spec PyProof.Rows
section
variable {X:Cx}{tg:Expr}
def Xd (K:PySem.W.Frag) (tl:TE):TI:=fun σ H R=>tl σ H fun x H1=>∃a,x= .ref a/\(∃xs,SqL K H1 a xs)/\R (Itl K a) H1
def Zb (K:PySem.W.Frag) (tl:TE):TI:=fun σ H R=>tl σ H fun x H1=>∃a,x= .ref a/\(∃xs,SqT K H1 a xs)/\R (Itt K a) H1
theorem Dp {l:Expr}{tl:TE} (hl:PE X l tl):PI X tg l (Xd X.K tl):=by
  intro pins s σ H R I h
  refine thn (hl pins s σ H _ I h) fun v s1 ⟨x,H1,I1,r1,q1⟩=> ?_
  obtain⟨a,e,⟨xs,hq⟩,q⟩:=q1
  subst e
  cases r1
  obtain⟨its,rv,p,hz⟩:=I1.list hq
  refine wpAny_pyIter_list p.isList ?_
  refine⟨s1.heap.objs.size,[s1.heap.objs.size],_,_,H1,rfl,I1.kept (t':=s1.toks) fun b o e=>Heap.get?_push_of_some _ e,S8 a _,⟨_,Heap.get?_push_size _ rfl,rfl,rfl⟩,fun b hb=> ?_,q⟩
  have e:b=s1.heap.objs.size:=by simpa using hb
  subst e
  exact I1.fpOk (Nat.le_refl _) (I1.hok.fresh (Nat.le_refl _))
theorem Lh {l:Expr}{tl:TE} (hl:PE X l tl):PI X tg l (Zb X.K tl):=by
  intro pins s σ H R I h
  refine thn (hl pins s σ H _ I h) fun v s1 ⟨x,H1,I1,r1,q1⟩=> ?_
  obtain⟨a,e,⟨xs,hq⟩,q⟩:=q1
  subst e
  cases r1
  obtain⟨its,rv,p,hz⟩:=I1.tuple hq
  refine wpAny_pyIter_tuple (show s1.heap.IsTuple a its.toArray from p) ?_
  refine⟨s1.heap.objs.size,[s1.heap.objs.size],_,_,H1,rfl,I1.kept (t':=s1.toks) fun b o e=>Heap.get?_push_of_some _ e,Qo a _,⟨_,Heap.get?_push_size _ rfl,rfl,rfl⟩,fun b hb=> ?_,q⟩
  have e:b=s1.heap.objs.size:=by simpa using hb
  subst e
  exact I1.fpOk (Nat.le_refl _) (I1.hok.fresh (Nat.le_refl _))
theorem T9 {pins:List (Addr × Obj)}{σ:St}{H:Hp}{s:Shared}{R:It->Hp->Prop}{E:Value->Shared->Prop}{lo hi:Int}{t u v:Tok}{tk:Nat} (I:Inv X pins σ H s) (h1: -(2^62)<=lo) (h2:lo<2^62) (h3: -(2^62)<=hi) (h4:hi<2^62)
    (q:R (Itr lo (hi-lo).toNat) H):wpAny (model X.prog X.w) X.A (pyIter (.ref s.heap.objs.size)) (PIE X pins σ tg R) E { s with heap:=s.heap.push { cls:= .type "range",data:= .fields #[.int lo t,.int hi u,.int 1 v]},toks:=tk}:=by
  refine wpAny_pyIter_range (IsRange.new ..) (small_one h1 h2 h3 h4) ?_
  have I1:Inv X pins σ H { s with heap:=s.heap.push { cls:= .type "range",data:= .fields #[.int lo t,.int hi u,.int 1 v]},toks:=tk}:=I.kept fun b o e=>Heap.get?_push_of_some _ e
  refine⟨(s.heap.push { cls:= .type "range",data:= .fields #[.int lo t,.int hi u,.int 1 v]}).objs.size,[(s.heap.push { cls:= .type "range",data:= .fields #[.int lo t,.int hi u,.int 1 v]}).objs.size],_,_,H,rfl,
    I1.kept (t':=tk) fun b o e=>Heap.get?_push_of_some _ e,Qd _ lo (hi-lo).toNat,?_,fun b hb=> ?_,q⟩
  . have e1:lo+((0:Nat):Int)*1=lo:=by simp
    have e2:(((hi-lo).toNat:Nat):Int)-((0:Nat):Int)=Builtin.Range.rangeSize lo hi 1:=by rw [rangeSize_one];split<;>omega
    show IsRangeIter _ _ (lo+((0:Nat):Int)*1) ((((hi-lo).toNat:Nat):Int)-((0:Nat):Int)) 1
    rw [e1,e2]
    exact Heap.get?_push_size _ rfl
  . have e:b=(s.heap.push { cls:= .type "range",data:= .fields #[.int lo t,.int hi u,.int 1 v]}).objs.size:=by simpa using hb
    subst e
    exact I1.fpOk (Nat.le_refl _) (I1.hok.fresh (Nat.le_refl _))
def Xe (ta:TA):TI:=fun σ H R=>ta σ H fun vs H1=>∃j:Int,vs=[.int j]/\ -(2^62)<=j/\j<2^62/\R (Itr 0 j.toNat) H1
def Z2 (ta:TA):TI:=fun σ H R=>ta σ H fun vs H1=>∃i j:Int,vs=[.int i,.int j]/\(-(2^62)<=i/\i<2^62/\ -(2^62)<=j/\j<2^62)/\R (Itr i (j-i).toNat) H1
theorem Eh {a:Expr}{ta:TA}{p pos:Pos} (hg:Gl X "range") (hm:X.mg "range"=none) (ha:PA X [a] ta) (hs:starEach [a] X.env=[(false,eval a X.env)]:=by rfl):PI X tg (.Call (.Name "range" p) [a] [] pos) (Xe ta):=by
  intro pins s σ H R I h
  refine Call_ (Kd I hg hm boot_range (PyProof.Rows.callWith_type1 (thn (ha pos pins s σ H _ I h) fun us s1 ⟨vs,H1,I1,r1,q1⟩=> ?_) hs rfl))
  obtain⟨j,e,q1,q2,q⟩:=q1
  subst e
  cases r1 with
  | cons r rr=>
    cases rr
    obtain⟨t,rfl⟩:=r
    exact call_range_1 (T9 I1 (by omega) (by omega) q1 q2 (by simpa using q))
def Z1 (wi:TI) (g:TG) (tb:TS):TS:=fun D σ H=>wi σ H fun J H1=>∃W:Nat->Nat->St->Hp->Prop,(∃m,W 0 m σ H1)/\∀i m σ H,W i m σ H->
  (J.stop i H/\D.nx σ H)\/(J.go i H/\∃N:St->Hp->Prop,(∀σ' H',N σ' H'->∃m',m'<m/\W (i+1) m' σ' H')/\∀x H',J.yld i H x H'->g x σ H' fun σ2 H2=>tb { D with nx:=N,ct:=N,bk:=D.nx} σ2 H2)
def M6 (fp:List Addr) (h:Heap):List (Addr × Obj):=fp.filterMap fun b=>(h.get? b).map fun o=>(b,o)
theorem Ey {fp:List Addr}{h:Heap}{b:Addr}{o:Obj} (hb:b∈fp) (e:h.get? b=some o):(b,o)∈M6 fp h:=List.mem_filterMap.mpr ⟨b,hb,by rw [e];rfl⟩
theorem Tz {fp:List Addr}{h:Heap}{p:Addr × Obj} (hp:p∈M6 fp h):p.1∈fp/\h.get? p.1=some p.2:=by
  obtain⟨b,hb,e⟩:=List.mem_filterMap.mp hp
  cases q:h.get? b with
  | none=>rw [q]at e;cases e
  | some o=>
    rw [q]at e
    have e':(b,o)=p:=Option.some.inj e
    subst e'
    exact⟨hb,q⟩
theorem Inv.pinned {pins:List (Addr × Obj)}{σ:St}{H:Hp}{s:Shared}{fp:List Addr} (I:Inv X pins σ H s) (hf:∀b∈fp,Pu X pins H b) (ho:∀b∈fp,∃o,s.heap.get? b=some o/\∀v,o.data≠ .cell v):Inv X (pins++M6 fp s.heap) σ H s:=
  I.pins_of fun p hp=>(List.mem_append.mp hp).elim (fun z=>I.pin p (List.mem_append_right _ z)) fun z=>by
    obtain⟨hb,e⟩:=Tz z
    obtain⟨f0,f1,f2,_⟩:=hf p.1 hb
    obtain⟨o,e',d⟩:=ho p.1 hb
    rw [e]at e';cases e'
    exact⟨e,f0,f1,f2,d⟩
theorem Inv.unpinned {pins pl:List (Addr × Obj)}{σ:St}{H:Hp}{s:Shared} (I:Inv X (pins++pl) σ H s):Inv X pins σ H s:=I.pins_of fun p hp=>I.pin p (List.mem_append_right _ (List.mem_append_left _ hp))
theorem Ft {iter:Expr}{body:List Stmt}{wi:TI}{g:TG}{tb:TS}{pos:Pos} (hp:PassesOwn (model X.prog X.w) X.A X.env X.xe) (hc:X.calm=true) (hi:PI X tg iter wi) (hg:PG X tg g) (hb:PSs X body tb)
    (hs:∀x,foldedSetIterable iter X.env x=pure x:=by intro _;rfl):PS X (.For tg iter body [] pos) (Z1 wi g tb):=by
  intro pins s σ H D I h
  refine wpAny_For (thn (hi pins s σ H _ I h) fun v s1 h1=>thn h1 fun itv s2 h2=> ?_) hs
  obtain⟨it,fp,tn,J,H2,e,I2,T,st2,f2,W,⟨m0,w0⟩,turn⟩:=h2
  subst e
  have stat:∀ {H':Hp},(∀b∈fp,H' b=none)->∀b∈fp,Pu X pins H' b:=fun hn b hb=>⟨hn b hb,(f2 b hb).2⟩
  refine codeAny_forLoop_any (fun n s'=>∃i σ' H',Inv X pins σ' H' s'/\tn i s'.heap/\(∀b∈fp,H' b=none)/\W i n σ' H') ?_ m0 ⟨0,σ,H2,I2,st2,fun b hb=>(f2 b hb).1,w0⟩
  rintro n s3 ⟨i,σ3,H3,I3,st3,fr3,w3⟩
  rcases turn i n σ3 H3 w3 with⟨stop,qn⟩ | ⟨go,N,hN,step⟩
  . refine wpAny_passesOwn hp (thn (T.done X rfl rfl rfl hc i pins s3 σ3 H3 X.xe I3 (stat fr3) st3 stop) fun r s4 ⟨hr,I4⟩=> ?_)
    subst hr
    exact wpAny_execs_nil ⟨σ3,H3,I4,qn⟩
  . refine wpAny_passesOwn hp (thn (T.item X rfl rfl rfl hc i pins s3 σ3 H3 X.xe I3 (stat fr3) st3 go) fun r s4 ⟨u,hr,h4⟩=> ?_)
    subst hr
    refine wpAny_passesOwn hp (thn h4 fun _ s5 ⟨x,H5,I5,r5,y5,st5,fr5⟩=> ?_)
    have I5':=I5.pinned (stat fr5) (T.obj _ _ st5)
    refine wpAny_passesOwn hp (thn (hg _ s5 σ3 H5 x u _ I5' r5 (step x H5 y5)) fun _ s6 ⟨σ6,H6,I6,q6⟩=> ?_)
    refine wpAny_passesOwn hp (thn (hb _ s6 σ6 H6 _ I6 q6) fun f s7 q7=> ?_)
    have again:∀ {σ7:St}{H7:Hp},Inv X (pins++M6 fp s5.heap) σ7 H7 s7->N σ7 H7->∃m,m<n/\∃i σ' H',Inv X pins σ' H' s7/\tn i s7.heap/\(∀b∈fp,H' b=none)/\W i m σ' H':=fun {σ7 H7} I7 n7=>by
      obtain⟨m',hm,w7⟩:=hN σ7 H7 n7
      refine⟨m',hm,i+1,σ7,H7,I7.unpinned,T.keep _ _ _ st5 fun b hb o e=>(I7.pin (b,o) (List.mem_append_right _ (List.mem_append_right _ (Ey hb e)))).1,fun b hb=> ?_,w7⟩
      obtain⟨o,e,d⟩:=T.obj _ _ st5 b hb
      exact(I7.pin (b,o) (List.mem_append_right _ (List.mem_append_right _ (Ey hb e)))).2.1
    cases f with
    | next=>obtain⟨σ7,H7,I7,n7⟩:=q7;exact again I7 n7
    | cont=>obtain⟨σ7,H7,I7,n7⟩:=q7;exact again I7 n7
    | brk=>obtain⟨σ7,H7,I7,q7⟩:=q7;exact⟨σ7,H7,I7.unpinned,q7⟩
    | ret v=>obtain⟨x7,σ7,H7,I7,r7,q7⟩:=q7;exact⟨x7,σ7,H7,I7.unpinned,r7,q7⟩
end
theorem O4 {c:TT}{tb:TS}{D:Ends}{σ:St}{H:Hp} (Pv:St->Hp->Prop) (μ:St->Hp->Nat) (h0:Pv σ H)
    (hs:∀σ H,Pv σ H->c σ H fun b H1=>if b=true then tb { D with nx:=fun σ' H'=>Pv σ' H'/\μ σ' H'<μ σ H,ct:=fun σ' H'=>Pv σ' H'/\μ σ' H'<μ σ H,bk:=D.nx} σ H1 else D.nx σ H1)
    (mono:∀σ H Q Q',(∀b H1,Q b H1->Q' b H1)->c σ H Q->c σ H Q'):Pq c tb D σ H:=by
  refine⟨fun m σ H=>m=μ σ H/\Pv σ H,⟨_,rfl,h0⟩,?_⟩
  rintro m σ H ⟨rfl,p⟩
  refine mono σ H _ _ (fun b H1 q=> ?_) (hs σ H p)
  cases b with
  | true=>exact⟨_,fun σ' H' ⟨p',l⟩=>⟨_,l,rfl,p'⟩,q⟩
  | false=>exact q
end L2
namespace L2
open PySem PySem.Spec PyProof.Rows
abbrev R2:=V->V->Hp->VK->Prop
def OpR (X:Cx) (f:Value->Value->Sem Value) (r:R2):Prop:=
  ∀(pins:List (Addr × Obj)) (s:Shared) (σ:St) (H:Hp) (x y:V) (v u:Value) (Q:VK),Inv X pins σ H s->RelV x v->RelV y u->r x y H Q->
    wpAny (model X.prog X.w) X.A (f v u) (EP X pins σ Q) X.xe s
def UnR (X:Cx) (f:Value->Sem Value) (r:V->Hp->VK->Prop):Prop:=
  ∀(pins:List (Addr × Obj)) (s:Shared) (σ:St) (H:Hp) (x:V) (v:Value) (Q:VK),Inv X pins σ H s->RelV x v->r x H Q->
    wpAny (model X.prog X.w) X.A (f v) (EP X pins σ Q) X.xe s
def Fj (X:Cx) (f:Value) (r:List V->Hp->VK->Prop):Prop:=
  ∀(pins:List (Addr × Obj)) (s:Shared) (σ:St) (H:Hp) (xs:List V) (us:List Value) (Q:VK),Inv X pins σ H s->Vals xs us->r xs H Q->
    wpAny (model X.prog X.w) X.A (call f us) (EP X pins σ Q) X.xe s
def tOp (r:R2) (ta tb:TE):TE:=fun σ H Q=>ta σ H fun x H1=>tb σ H1 fun y H2=>r x y H2 Q
def tUn (r:V->Hp->VK->Prop) (ta:TE):TE:=fun σ H Q=>ta σ H fun x H1=>r x H1 Q
def rI (C:Int->Int->Prop) (g:Int->Int->V):R2:=fun x y H Q=>∃i j,x= .int i/\y= .int j/\C i j/\Q (g i j) H
def rI0 (g:Int->Int->V):R2:=fun x y H Q=>∃i j,x= .int i/\y= .int j/\Q (g i j) H
def rU (g:Int->V):V->Hp->VK->Prop:=fun x H Q=>∃i,x= .int i/\Q (g i) H
section
variable {X:Cx}{a b c:Expr}{ta tb tc:TE}{pos:Pos}
theorem Z6 (ha:PE X a ta) (hb:PE X b tb) {pins:List (Addr × Obj)}{s:Shared}{σ:St}{H:Hp}{R:V->V->Hp->Prop} (I:Inv X pins σ H s)
    (h:ta σ H fun x H1=>tb σ H1 fun y H2=>R x y H2) {Q:Value->Shared->Prop}{f:Value->Value->Sem Value}
    (hf:∀v u s2 x y H2,Inv X pins σ H2 s2->RelV x v->RelV y u->R x y H2->wpAny (model X.prog X.w) X.A (f v u) Q X.xe s2):
    wpAny (model X.prog X.w) X.A (eval a X.env) (fun v s₁=>wpAny (model X.prog X.w) X.A (eval b X.env) (fun u s₂=>wpAny (model X.prog X.w) X.A (f v u) Q X.xe s₂) X.xe s₁) X.xe s:=by
  refine thn (ha pins s σ H _ I h) fun v s1 ⟨x,H1,I1,r1,q1⟩=> ?_
  refine thn (hb pins s1 σ H1 _ I1 q1) fun u s2 ⟨y,H2,I2,r2,q2⟩=> ?_
  exact hf v u s2 x y H2 I2 r1 r2 q2
theorem Ai {op:Operator}{r:R2} (ho:OpR X (binaryOp op) r) (ha:PE X a ta) (hb:PE X b tb):PE X (.BinOp a op b pos) (tOp r ta tb):=by
  intro pins s σ H Q I h
  exact wpAny_BinOp (Z6 ha hb I h fun v u s2 x y H2 I2 rx ry q=>ho pins s2 σ H2 x y v u Q I2 rx ry q)
theorem Lw {op:UnaryOp}{r:V->Hp->VK->Prop} (ho:UnR X (unaryOp op) r) (ha:PE X a ta):PE X (.UnaryOp op a pos) (tUn r ta):=by
  intro pins s σ H Q I h
  exact UnaryOp_ (thn (ha pins s σ H _ I h) fun v s1 ⟨x,H1,I1,r1,q1⟩=>ho pins s1 σ H1 x v Q I1 r1 q1)
theorem opI {f:Value->Value->Sem Value}{C:Int->Int->Prop}{g:Int->Int->Int}
    (rule:∀(i j:Int) (t u:Tok) (s:Shared) (Q:Value->Shared->Prop) (E:Value->Shared->Prop),C i j->Q (.int (g i j) s.toks) { s with toks:=s.toks+1}->wpAny (model X.prog X.w) X.A (f (.int i t) (.int j u)) Q E s):
    OpR X f (rI C fun i j=> .int (g i j)):=by
  intro pins s σ H x y v u Q I rx ry h
  obtain⟨i,j,rfl,rfl,hc,q⟩:=h
  obtain⟨t,rfl⟩:=rx
  obtain⟨t',rfl⟩:=ry
  exact rule i j t t' s _ _ hc ⟨.int (g i j),H,I.tok _,⟨_,rfl⟩,q⟩
theorem Aaf {f:Value->Value->Sem Value}{g:Int->Int->Int}
    (rule:∀(i j:Int) (t u:Tok) (s:Shared) (Q:Value->Shared->Prop) (E:Value->Shared->Prop),Q (.int (g i j) s.toks) { s with toks:=s.toks+1}->wpAny (model X.prog X.w) X.A (f (.int i t) (.int j u)) Q E s):
    OpR X f (rI0 fun i j=> .int (g i j)):=by
  intro pins s σ H x y v u Q I rx ry h
  obtain⟨i,j,rfl,rfl,q⟩:=h
  obtain⟨t,rfl⟩:=rx
  obtain⟨t',rfl⟩:=ry
  exact rule i j t t' s _ _ ⟨.int (g i j),H,I.tok _,⟨_,rfl⟩,q⟩
theorem Y6 {f:Value->Value->Sem Value}{g:Int->Int->Bool}
    (rule:∀(i j:Int) (t u:Tok) (s:Shared) (Q:Value->Shared->Prop) (E:Value->Shared->Prop),Q (.bool (g i j)) s->wpAny (model X.prog X.w) X.A (f (.int i t) (.int j u)) Q E s):
    OpR X f (rI0 fun i j=> .bl (g i j)):=by
  intro pins s σ H x y v u Q I rx ry h
  obtain⟨i,j,rfl,rfl,q⟩:=h
  obtain⟨t,rfl⟩:=rx
  obtain⟨t',rfl⟩:=ry
  exact rule i j t t' s _ _ ⟨.bl (g i j),H,I,rfl,q⟩
def Aa3 (i j:Int):Prop:=0<=j/\j<=1000000/\i.natAbs<2^64
def Aae (i j:Int):Prop:=(-(2^64)<i/\i<2^64)\/(-(2^64)<j/\j<2^64)
theorem Aae.ok {i j:Int} (h:Aae i j):IntMulOk i j:=by
  rcases h with⟨h1,h2⟩ | ⟨h1,h2⟩
  . exact .of_left (intBits_le_64 h1 h2)
  . exact .of_right (intBits_le_64 h1 h2)
theorem Ci:OpR X (binaryOp .Add) (rI0 fun i j=> .int (i+j)):=Aaf fun _ _ _ _ _ _ _ q=>add_int q
theorem Yw:OpR X (binaryOp .Sub) (rI0 fun i j=> .int (i-j)):=Aaf fun _ _ _ _ _ _ _ q=>sub_int q
theorem Cp:OpR X (binaryOp .Mod) (rI (fun _ j=>0<j) fun i j=> .int (i%j)):=opI fun i j _ _ _ _ _ hc q=>by
  have h1:(0:Int)<j:=hc
  exact mod_int' (by omega) (by rw [Int.fmod_eq_emod_of_nonneg i (by omega)];exact q)
theorem J1:OpR X (binaryOp .Pow) (rI Aa3 fun i j=> .int (i^j.toNat)):=opI fun _ _ _ _ _ _ _ hc q=>pow_int_small hc.1 hc.2.1 hc.2.2 q
theorem unI {f:Value->Sem Value}{g:Int->Int}
    (rule:∀(i:Int) (t:Tok) (s:Shared) (Q:Value->Shared->Prop) (E:Value->Shared->Prop),Q (.int (g i) s.toks) { s with toks:=s.toks+1}->wpAny (model X.prog X.w) X.A (f (.int i t)) Q E s):
    UnR X f (rU fun i=> .int (g i)):=by
  intro pins s σ H x v Q I rx h
  obtain⟨i,rfl,q⟩:=h
  obtain⟨t,rfl⟩:=rx
  exact rule i t s _ _ ⟨.int (g i),H,I.tok _,⟨_,rfl⟩,q⟩
theorem Ke:UnR X (unaryOp .USub) (rU fun i=> .int (-i)):=unI fun _ _ _ _ _ q=>neg_int q
end
def Xj:V->V->Bool
  | .non,.non=>true | .non,.int _=>true | .int _,.non=>true | .non,.bl _=>true | .bl _,.non=>true | .non,.str _=>true | .str _,.non=>true
  | .int _,.int _=>true | .bl _,.bl _=>true | .str _,.str _=>true | .byt _,.byt _=>true
  | .int _,.str _=>true | .str _,.int _=>true | .bl _,.str _=>true | .str _,.bl _=>true
  | _,_=>false
def rEq:R2:=fun x y H Q=>Xj x y=true/\Q (.bl (decide (x=y))) H
def rNe:R2:=fun x y H Q=>Xj x y=true/\Q (.bl (!decide (x=y))) H
theorem Sh {i j:Int}:decide (V.int i=V.int j)=(i==j):=by
  rw [Bool.eq_iff_iff]
  simp
theorem Vr {i j:Bool}:decide (V.bl i=V.bl j)=(i==j):=by
  rw [Bool.eq_iff_iff]
  simp
theorem Qz {i j:Str}:decide (V.str i=V.str j)=(i==j):=by
  rw [Bool.eq_iff_iff]
  simp
theorem R6 {i j:Array UInt8}:decide (V.byt i=V.byt j)=(i.toList==j.toList):=by
  rw [Bool.eq_iff_iff]
  cases i
  cases j
  simp
section
variable {X:Cx}{a b c:Expr}{ta tb tc:TE}{pos:Pos}
theorem Aw {pins:List (Addr × Obj)}{σ:St}{H:Hp}{s:Shared}{Q:VK}{k k':Bool} (I:Inv X pins σ H s) (q:Q (.bl k) H) (e:k=k'):EP X pins σ Q (.bool k') s:=by
  subst e
  exact⟨.bl k,H,I,rfl,q⟩
theorem Ko:OpR X (compareOp .Eq) rEq:=by
  intro pins s σ H x y v u Q I rx ry h
  obtain⟨hs,q⟩:=h
  cases x with
  | non=>
    cases rx
    cases y with
    | non=>cases ry;exact PySem.EqNone.eq_none_none (Aw I q (by simp))
    | bl j=>cases ry;exact PySem.EqNone.eq_none_bool (Aw I q (by simp))
    | int j=>obtain⟨t',rfl⟩:=ry;exact PySem.EqNone.eq_none_int (Aw I q (by simp))
    | str j=>obtain⟨t',rfl⟩:=ry;exact PySem.EqNone.eq_none_str (Aw I q (by simp))
    | _=>exact absurd (show false=true from hs) Bool.false_ne_true
  | bl i=>
    cases rx
    cases y with
    | non=>cases ry;exact PySem.EqNone.eq_bool_none (Aw I q (by simp))
    | bl j=>cases ry;exact eq_bool (Aw I q Vr)
    | str j=>obtain⟨t',rfl⟩:=ry;exact PySem.EqMixed.eq_bool_str (Aw I q (by simp))
    | _=>exact absurd (show false=true from hs) Bool.false_ne_true
  | int i=>
    obtain⟨t,rfl⟩:=rx
    cases y with
    | non=>cases ry;exact PySem.EqNone.eq_int_none (Aw I q (by simp))
    | int j=>obtain⟨t',rfl⟩:=ry;exact eq_int (Aw I q Sh)
    | str j=>obtain⟨t',rfl⟩:=ry;exact PySem.EqMixed.eq_int_str (Aw I q (by simp))
    | _=>exact absurd (show false=true from hs) Bool.false_ne_true
  | str i=>
    obtain⟨t,rfl⟩:=rx
    cases y with
    | non=>cases ry;exact PySem.EqNone.eq_str_none (Aw I q (by simp))
    | bl j=>cases ry;exact PySem.EqMixed.eq_str_bool (Aw I q (by simp))
    | int j=>obtain⟨t',rfl⟩:=ry;exact PySem.EqMixed.eq_str_int (Aw I q (by simp))
    | str j=>obtain⟨t',rfl⟩:=ry;exact eq_str (Aw I q Qz)
    | _=>exact absurd (show false=true from hs) Bool.false_ne_true
  | byt i=>
    obtain⟨t,rfl⟩:=rx
    cases y with
    | byt j=>obtain⟨t',rfl⟩:=ry;exact PySem.W.eq_bytes (Aw I q R6)
    | _=>exact absurd (show false=true from hs) Bool.false_ne_true
  | _=>cases y<;>exact absurd (show false=true from hs) Bool.false_ne_true
theorem Tr:OpR X (compareOp .NotEq) rNe:=by
  intro pins s σ H x y v u Q I rx ry h
  obtain⟨hs,q⟩:=h
  cases x with
  | non=>
    cases rx
    cases y with
    | non=>cases ry;exact PySem.EqNone.ne_none_none (Aw I q (by simp))
    | bl j=>cases ry;exact PySem.EqNone.ne_none_bool (Aw I q (by simp))
    | int j=>obtain⟨t',rfl⟩:=ry;exact PySem.EqNone.ne_none_int (Aw I q (by simp))
    | str j=>obtain⟨t',rfl⟩:=ry;exact PySem.EqNone.ne_none_str (Aw I q (by simp))
    | _=>exact absurd (show false=true from hs) Bool.false_ne_true
  | bl i=>
    cases rx
    cases y with
    | non=>cases ry;exact PySem.EqNone.ne_bool_none (Aw I q (by simp))
    | bl j=>cases ry;exact ne_bool (Aw I q (congrArg not Vr))
    | str j=>obtain⟨t',rfl⟩:=ry;exact PySem.EqMixed.ne_bool_str (Aw I q (by simp))
    | _=>exact absurd (show false=true from hs) Bool.false_ne_true
  | int i=>
    obtain⟨t,rfl⟩:=rx
    cases y with
    | non=>cases ry;exact PySem.EqNone.ne_int_none (Aw I q (by simp))
    | int j=>obtain⟨t',rfl⟩:=ry;exact ne_int (Aw I q (congrArg not Sh))
    | str j=>obtain⟨t',rfl⟩:=ry;exact PySem.EqMixed.ne_int_str (Aw I q (by simp))
    | _=>exact absurd (show false=true from hs) Bool.false_ne_true
  | str i=>
    obtain⟨t,rfl⟩:=rx
    cases y with
    | non=>cases ry;exact PySem.EqNone.ne_str_none (Aw I q (by simp))
    | bl j=>cases ry;exact PySem.EqMixed.ne_str_bool (Aw I q (by simp))
    | int j=>obtain⟨t',rfl⟩:=ry;exact PySem.EqMixed.ne_str_int (Aw I q (by simp))
    | str j=>obtain⟨t',rfl⟩:=ry;exact ne_str (Aw I q (congrArg not Qz))
    | _=>exact absurd (show false=true from hs) Bool.false_ne_true
  | byt i=>
    obtain⟨t,rfl⟩:=rx
    cases y with
    | byt j=>obtain⟨t',rfl⟩:=ry;exact PySem.W.ne_bytes (Aw I q (congrArg not R6))
    | _=>exact absurd (show false=true from hs) Bool.false_ne_true
  | _=>cases y<;>exact absurd (show false=true from hs) Bool.false_ne_true
theorem U3:OpR X (compareOp .Lt) (rI0 fun i j=> .bl (decide (i<j))):=Y6 fun _ _ _ _ _ _ _ q=>lt_int q
theorem Uz:OpR X (compareOp .LtE) (rI0 fun i j=> .bl (decide (i<=j))):=Y6 fun _ _ _ _ _ _ _ q=>le_int q
theorem Qc:OpR X (compareOp .Gt) (rI0 fun i j=> .bl (decide (j<i))):=Y6 fun _ _ _ _ _ _ _ q=>gt_int q
theorem Yt:OpR X (compareOp .GtE) (rI0 fun i j=> .bl (decide (j<=i))):=Y6 fun _ _ _ _ _ _ _ q=>ge_int q
theorem Al (b:Expr) {op:CmpOp} (h:op≠ .In:=by decide) (h2:op≠ .NotIn:=by decide):behindInMarks op b=false:=by
  have e1:(op==CmpOp.In)=false:=by cases op<;>first | rfl | exact absurd rfl h
  have e2:(op==CmpOp.NotIn)=false:=by cases op<;>first | rfl | exact absurd rfl h2
  cases b<;>simp [behindInMarks,e1,e2]
theorem Bx {op:CmpOp}{r:R2} (ho:OpR X (compareOp op) r) (ha:PE X a ta) (hb:PE X b tb) (hm:behindInMarks op b=false):PE X (.Compare a [op] [b] pos) (tOp r ta tb):=by
  intro pins s σ H Q I h
  exact wpAny_Compare1 (Z6 ha hb I h fun v u s2 x y H2 I2 rx ry q=>ho pins s2 σ H2 x y v u Q I2 rx ry q) hm
def Wo (t:TE):TT:=fun σ H Q=>t σ H fun x H'=>∃k,x= .bl k/\Q k H'
theorem Ak {op:CmpOp}{r:R2} (ho:OpR X (compareOp op) r) (ha:PE X a ta) (hb:PE X b tb) (hm:behindInMarks op b=false):PT X (.Compare a [op] [b] pos) (Wo (tOp r ta tb)):=by
  intro pins s σ H Q I h
  refine wpAny_isTrue_Compare1 (thn (ha pins s σ H _ I h) fun v s1 ⟨x,H1,I1,r1,q1⟩=>thn (hb pins s1 σ H1 _ I1 q1) fun u s2 ⟨y,H2,I2,r2,q2⟩=>
    thn (ho pins s2 σ H2 x y v u _ I2 r1 r2 q2) fun c s3 ⟨z,H3,I3,r3,k,e,q3⟩=> ?_) hm
  subst e
  cases r3
  exact wpAny_truthy_bool ⟨H3,I3,q3⟩
def Yp (r r':R2) (ta tb tc:TE):TE:=fun σ H Q=>ta σ H fun x H1=>tb σ H1 fun y H2=>r x y H2 fun z H3=>∃k,z= .bl k/\
  (if k=true then tc σ H3 fun w' H4=>r' y w' H4 Q else Q (.bl false) H3)
theorem Rf:(sizeLine:Nat)<2^63:=by rw [sizeLine_eq];decide
theorem vals1 {x:V}{us:List Value} (r:Vals [x] us):∃u,us=[u]/\RelV x u:=by
  cases r with
  | cons r1 r2=>cases r2;exact⟨_,rfl,r1⟩
theorem vals2 {x y:V}{us:List Value} (r:Vals [x,y] us):∃u w',us=[u,w']/\RelV x u/\RelV y w':=by
  cases r with
  | cons r1 r2=>
    cases r2 with
    | cons r3 r4=>cases r4;exact⟨_,_,rfl,r1,r3⟩
theorem Pn:Fj X (.builtin "abs") (fun xs H Q=>∃i,xs=[.int i]/\Q (.int (if i<0 then-i else i)) H):=by
  intro pins s σ H xs us Q I r h
  obtain⟨i,rfl,q⟩:=h
  obtain⟨u,rfl,t,rfl⟩:=vals1 r
  exact call_abs_int fun u tk=>⟨.int (if i<0 then-i else i),H,I.tok _,⟨_,rfl⟩,q⟩
end
end L2
namespace L2
open PySem PySem.Spec PyProof.Rows
structure Za (h:Heap) (x dx C:Addr) (mA:Str->Option Value):Prop where
  obj:h.get? x=some (PySem.W.instObj C dx)
  ns:h.Ns1 dx mA
  ne:dx≠x
theorem Ry {h:Heap}{dx:Addr}{mA:Str->Option Value} (n:h.Ns1 dx mA):∃od,h.get? dx=some od/\∀name,PySem.W.lookIn name od=some (mA name):=by
  obtain⟨o,es,ep,ho,hd,hk,_,hm⟩:=n
  refine⟨o,ho,fun name=> ?_⟩
  have e:=hm name
  unfold nsFind findBy at e
  rw [<-Array.find?_toList]at e
  unfold PySem.W.lookIn
  rw [hd]
  dsimp only
  split
  . rename_i y q
    rw [q]at e
    exact congrArg some e
  . rename_i q
    rw [q]at e
    have a:es.toList.any (·.refKey)=false:=by
      rw [List.any_eq_false]
      intro y hy
      obtain⟨z,t,hkey⟩:=hk y (Array.mem_toList_iff.mp hy)
      simp [DictEntry.refKey,hkey]
    have a':¬es.toList.any (·.refKey)=true:=by rw [a];exact Bool.false_ne_true
    rw [if_neg a']
    exact congrArg some e
theorem Za.look {h:Heap}{x dx C:Addr}{mA:Str->Option Value} (I:Za h x dx C mA):∃od,PySem.W.InstAt h x (PySem.W.instObj C dx) C (some od)/\∀name,PySem.W.lookIn name od=some (mA name):=
  let ⟨od,ho,hl⟩:=Ry I.ns
  ⟨od,⟨I.obj,rfl,rfl,ho⟩,hl⟩
theorem P0.some_of {v:V}{o:Option Value} (r:P0 (some v) o):∃u,o=some u/\RelV v u:=by
  cases o with
  | none=>exact(show False from r).elim
  | some u=>exact⟨u,rfl,r⟩
section
variable {P:Program}{w:World}{H H':Hp}{h h':Heap}{a C dx:Addr}{fs fs':List (Str × V)}
theorem Xa (hok:HOk P w H h) (e:H a=some (.ins C dx fs)):∃mA,Za h a dx C mA/\(∀f,P0 (fs.lookup f) (mA f))/\PySem.Within mA (fs.map (·.1))/\fs.length<=1000/\H dx=some (.own a):=by
  obtain⟨d,z,ne,ob,mA,n,r,q⟩:=(show Bs P w H h a (.ins C dx fs)from hok a _ e)
  exact⟨mA,⟨ob,n,ne⟩,r,q,z,d⟩
end
structure Cls (K:PySem.W.Frag) (C:Addr):Prop where
  pg:PySem.W.plainGet K C Str.empty=true
  hd:PySem.W.hasDictIn K C=true
  po:PySem.W.plainOver K C=true
  sa:PySem.W.findIn K (.ref C) "__setattr__"=some (some (.builtin "object.__setattr__"))
theorem Cls.get {K:PySem.W.Frag}{C:Addr} (c:Cls K C) (f:Str):PySem.W.plainGet K C f=true:=c.pg
structure Con (K:PySem.W.Frag) (C:Addr) (f:Str) (v:V) (u:Value):Prop where
  at_:PySem.W.findIn K (.ref C) f=some (some u)
  rel:RelV v u
  get:PySem.W.specialIn K u "__get__"=some none
  cp:PySem.W.copiedNames.contains f=false
structure Meth (K:PySem.W.Frag) (C:Addr) (m:Str) (f:Addr):Prop where
  at_:PySem.W.findIn K (.ref C) m=some (some (.ref f))
  fn:PySem.W.isFn K (.ref f)=true
  kp:PySem.W.keepIn K (.ref f)=true
section
variable {X:Cx}{pins:List (Addr × Obj)}{σ:St}{H:Hp}{s:Shared}{A:Around}{E:Value->Shared->Prop}{Q:Value->Shared->Prop}{c:Value}{b:Bool}
inductive Nq (K:PySem.W.Frag) (H:Hp):V->Value->Prop where
  | non:Nq K H .non (.type "NoneType")
  | bl (x:Bool):Nq K H (.bl x) (.type "bool")
  | int (i:Int):Nq K H (.int i) (.type "int")
  | str (x:Str):Nq K H (.str x) (.type "str")
  | flt (x:UInt64):Nq K H (.flt x) (.type "float")
  | lst {a:Addr}{xs:List V} (e:H a=some (.lst xs)):Nq K H (.ref a) (.type "list")
  | frz {a:Addr}{o:Obj}{xs:List V} (e:H a=some (.frz o (.lst xs))):Nq K H (.ref a) (.type "list")
  | tup {a:Addr}{xs:List V} (e:H a=some (.tup xs)):Nq K H (.ref a) (.type "tuple")
  | dK {a:Addr}{kvs:List (Key × V)} (e:H a=some (.dK kvs)):Nq K H (.ref a) (.type "dict")
  | dT {a:Addr}{kvs:List (List Key × V)} (e:H a=some (.dT kvs)):Nq K H (.ref a) (.type "dict")
  | ins {a C dx:Addr}{fs:List (Str × V)} (e:H a=some (.ins C dx fs)) (cl:Cls K C) (ha:PySem.W.findIn K (.ref C) "__class__"=some (some (.builtin "object.__class__")))
      (hn:PySem.W.specialIn K (.builtin "object.__class__") "__get__"=some (some (.builtin "getset_descriptor.__get__"))) (htk:PySem.W.takesIn K (.builtin "object.__class__")=some true)
      (hm:PySem.W.mroIn K C (.type "object")=some true):Nq K H (.ref a) (.ref C)
theorem Tq {x:V}{u t:Value} (I:Inv X pins σ H s) (rx:RelV x u) (ty:Nq X.K H x t) (e:PySem.W.kitOne X.K t c=some b) (h:∀tk,Q (.bool b) { s with toks:=tk}):
    wpAny (model X.prog X.w) A (call (.builtin "isinstance") [u,c]) Q E s:=by
  cases ty with
  | non=>cases(show u=Value.none from rx);exact PySem.W.kia_one PySem.W.kitx_none I.kIn True.intro e (fun z=>nomatch z) h
  | bl y=>cases(show u=Value.bool y from rx);exact PySem.W.kia_one PySem.W.kitx_bool I.kIn True.intro e (fun z=>nomatch z) h
  | int i=>obtain⟨t,q⟩:=(show ∃t,u=Value.int i t from rx);cases q;exact PySem.W.kia_one PySem.W.kitx_int I.kIn True.intro e (fun z=>nomatch z) h
  | str y=>obtain⟨t,q⟩:=(show ∃t,u=Value.str y t from rx);cases q;exact PySem.W.kia_one PySem.W.kitx_str I.kIn True.intro e (fun z=>nomatch z) h
  | flt y=>obtain⟨t,q⟩:=(show ∃t,u=Value.float y t from rx);cases q;exact PySem.W.kia_one PySem.W.kitx_float I.kIn True.intro e (fun z=>nomatch z) h
  | @lst a xs ea=>
    cases(show u=Value.ref a from rx)
    obtain⟨_,_,n,_,h1⟩:=(show Bs X.prog X.w H s.heap a (.lst xs)from I.hok a _ ea)
    exact PySem.W.kia_one PySem.W.kitx_list I.kIn ⟨_,h1,rfl⟩ e (fun z=>nomatch z) h
  | @frz a ob xs ea=>
    cases(show u=Value.ref a from rx)
    obtain⟨_,_,_,n,_,h1⟩:=(show Bs X.prog X.w H s.heap a (.frz ob (.lst xs))from I.hok a _ ea)
    exact PySem.W.kia_one PySem.W.kitx_list I.kIn ⟨_,h1,rfl⟩ e (fun z=>nomatch z) h
  | @tup a xs ea=>
    cases(show u=Value.ref a from rx)
    obtain⟨_,_,_,p⟩:=(show Bs X.prog X.w H s.heap a (.tup xs)from I.hok a _ ea)
    obtain⟨o,h1,h2,_⟩:=p
    exact PySem.W.kia_one PySem.W.kitx_tuple I.kIn ⟨o,h1,h2⟩ e (fun z=>nomatch z) h
  | @dK a kvs ea=>
    cases(show u=Value.ref a from rx)
    obtain⟨_,_,vs,_,p⟩:=(show Bs X.prog X.w H s.heap a (.dK kvs)from I.hok a _ ea)
    obtain⟨o,es,ep,h1,h2,_⟩:=p
    exact PySem.W.kia_one PySem.W.kitx_dict I.kIn ⟨o,h1,h2.1⟩ e (fun z=>nomatch z) h
  | @dT a kvs ea=>
    cases(show u=Value.ref a from rx)
    obtain⟨_,_,xs,_,o,es,ep,h1,h2,_⟩:=(show Bs X.prog X.w H s.heap a (.dT kvs)from I.hok a _ ea)
    exact PySem.W.kia_one PySem.W.kitx_dict I.kIn ⟨o,h1,h2.1⟩ e (fun z=>nomatch z) h
  | @ins a C dx fs ea cl ha hn htk hm=>
    cases(show u=Value.ref a from rx)
    obtain⟨mA,O,_⟩:=Xa I.hok ea
    obtain⟨od,J,_⟩:=O.look
    exact PySem.W.kia_one (PySem.W.kitx_own (cl.get _) cl.hd ha hn htk hm) I.kIn J e (fun z=>nomatch z) h
end
end L2
namespace L2
open PySem PySem.Spec PyProof.Rows
structure Fv (k:Nat) (A:Around):Prop where
  hd:A.handled=none
  dp:A.depth+3*k+5<recursionLimit
  un:A.units+16*k+200<cLine
theorem Fv.mono {j k:Nat}{A:Around} (r:Fv k A) (h:j<=k):Fv j A:=⟨r.hd,by have:=r.dp;omega,by have:=r.un;omega⟩
theorem Fv.deeper {k:Nat}{A:Around} (r:Fv (k+1) A) (env:Env):Fv k (A.deeper env):=
  ⟨r.hd,by have:=r.dp;show A.depth+1+3*k+5<_;omega,by have:=r.un;show A.units+3+16*k+200<_;omega⟩
theorem Fv.in1 {k:Nat}{A:Around} (r:Fv (k+1) A):Fv k A.in1:=
  ⟨r.hd,by have:=r.dp;show A.depth+3*k+5<_;omega,by have:=r.un;show A.units+1+16*k+200<_;omega⟩
theorem Qa {A:Around}{C:Addr}{us:List Value}{kw:List (Str × Value)}:(A.under (.builtin "type.__call__" ⟨.ref C::us,kw⟩)).depth=A.depth+1:=by
  first | rfl | simp [Around.under,Code.weight,Code.isCreation,Code.isGuard,Code.isCaller,Code.frames,Code.isFrame,guardIds]
theorem Ql {A:Around}{C:Addr}{us:List Value}{kw:List (Str × Value)}:(A.under (.builtin "type.__call__" ⟨.ref C::us,kw⟩)).units=A.units+1:=by
  first | rfl | simp [Around.under,Code.cUnits,Code.frames,Code.isFrame]
theorem Fv.make {k:Nat}{A:Around} (r:Fv (k+1) A) (C:Addr) (us:List Value) (kw:List (Str × Value)):Fv k (A.under (.builtin "type.__call__" ⟨.ref C::us,kw⟩)):=
  ⟨r.hd,by have:=r.dp;rw [Qa];omega,by have:=r.un;rw [Ql];omega⟩
theorem Fv.depth {k:Nat}{A:Around} (r:Fv k A):A.depth<recursionLimit:=by have:=r.dp;omega
theorem Fv.units {k:Nat}{A:Around} (r:Fv k A):A.units+64<cLine:=by have:=r.un;omega
def Zt:TA:=fun _ H Q=>Q [] H
def Um (ta:TE) (tr:TA):TA:=fun σ H Q=>ta σ H fun x H1=>tr σ H1 fun xs H2=>Q (x::xs) H2
section
variable {X:Cx}{e:Expr}{es:List Expr}{te:TE}{t:TA}{pos:Pos}
theorem Ac:PA X [] Zt:=fun _ _ _ _ H Q I h=>Calls.spliced_nil ⟨[],H,I,.nil,h⟩
theorem Wr (ha:PE X e te) (hr:PA X es t) (hs:starEach (e::es) X.env=(false,eval e X.env)::starEach es X.env:=by rfl):PA X (e::es) (Um te t):=by
  intro pos pins s σ H Q I h
  rw [hs]
  show wpAny _ _ (spliced ((false,eval e X.env)::backTo pos (starEach es X.env))) _ _ s
  refine Calls.spliced_cons (thn (ha pins s σ H _ I h) fun u s1 ⟨x,H1,I1,r1,q1⟩=> ?_)
  exact thn (hr pos pins s1 σ H1 _ I1 q1) fun us s2 ⟨xs,H2,I2,r2,q2⟩=>⟨x::xs,H2,I2,.cons r1 r2,q2⟩
def Zq (t:TA):TE:=fun σ H Q=>t σ H fun xs H1=>xs.length<=sizeLine/\∀p,H1 p=none->Q (.ref p) (upd H1 p (.tup xs))
def Zv (t:TA):TE:=fun σ H Q=>t σ H fun xs H1=>xs.length<=sizeLine/\∀p,H1 p=none->Q (.ref p) (upd H1 p (.lst xs))
theorem Af {x1} (h:PA X es t):PE X (.Tuple es x1 pos) (Zq t):=by
  intro pins s σ H Q I hq
  refine wpAny_Tuple_spliced (thn (h pos pins s σ H _ I hq) fun us s1 ⟨xs,H1,I1,r,z,q⟩=>⟨by rw [<-r.length];exact z,?_⟩)
  have hf:H1 s1.heap.objs.size=none:=I1.hok.fresh (Nat.le_refl _)
  refine⟨.ref s1.heap.objs.size,upd H1 s1.heap.objs.size (.tup xs),I1.laid (t':=s1.toks) (fun b u e=>Heap.get?_push_of_some _ e) (Nat.le_refl _) ?_,rfl,q _ hf⟩
  exact⟨z,us,r,⟨_,Heap.get?_push_size _ rfl,rfl,_,rfl⟩⟩
theorem Et (h:PA X es t):PE X (.List es pos) (Zv t):=by
  intro pins s σ H Q I hq
  refine wpAny_List_spliced (thn (h pos pins s σ H _ I hq) fun us s1 ⟨xs,H1,I1,r,z,q⟩=>⟨by rw [<-r.length];exact z,?_⟩)
  have hf:H1 s1.heap.objs.size=none:=I1.hok.fresh (Nat.le_refl _)
  refine⟨.ref s1.heap.objs.size,upd H1 s1.heap.objs.size (.lst xs),I1.laid (t':=s1.toks) (fun b u e=>Heap.get?_push_of_some _ e) (Nat.le_refl _) ?_,rfl,q _ hf⟩
  exact⟨z,us,0,r,Heap.get?_push_size _ rfl⟩
end
abbrev Sp:=List V->Hp->VK->XK->Prop
abbrev CXT:=List Env->Hp->Shared->XK->Value->Shared->Prop
structure T4 (P:Program) (w:World) (K:PySem.W.Frag) (mg:Str->Option Value) (base:Heap) (A:Around) (outer:List Env) (s:Shared) (H:Hp):Prop where
  frames:A.frames=some outer
  mod:Mod K mg base
  bs:∀b o,base.get? b=some o->s.heap.get? b=some o/\H b=none
  bsz:base.objs.size<=s.heap.objs.size
  funs:s.heap.FunFrames base outer
  frf:∀b∈frs outer,H b=none
  hok:HOk P w H s.heap
  bare:AllBare s.gens
def CE (outer:List Env) (P:Program) (w:World) (H:Hp) (s:Shared) (Q:VK) (u:Value) (s':Shared):Prop:=
  ∃v H',s'.os=s.os/\AllBare s'.gens/\Un (frs outer) [] H H' s.heap s'.heap/\HOk P w H' s'.heap/\RelV v u/\Q v H'
def CR (CX:CXT) (outer:List Env) (P:Program) (w:World) (H:Hp) (s:Shared) (Q:VK) (E:XK) (r:Result) (s':Shared):Prop:=
  match r with
  | .ok (.ret u)=>CE outer P w H s Q u s'
  | .ok _=>False
  | .error e=>CX outer H s E e s'
structure J0 (P:Program) (w:World) (K:PySem.W.Frag) (mg:Str->Option Value) (base:Heap) (CX:CXT) (k:Nat) (f:Addr) (fd:FuncData) (ps:List Str) (sp:Sp):Prop where
  len:∀vs H Q E,sp vs H Q E->vs.length=ps.length
  run:∀(A:Around) (outer:List Env) (s:Shared) (H:Hp) (args:Args) (us:List Value) (vs:List V) (Q:VK) (E:XK),Fv k A->T4 P w K mg base A outer s H->BindsTo s fd args (ps.zip us)->Vals vs us->sp vs H Q E->
    codeAny (model P w) A (.call (.ref f) args) (CR CX outer P w H s Q E) s
theorem J0.mono {P:Program}{w:World}{K:PySem.W.Frag}{mg:Str->Option Value}{base:Heap}{CX:CXT}{j k:Nat}{f:Addr}{fd:FuncData}{ps:List Str}{sp:Sp} (F:J0 P w K mg base CX j f fd ps sp) (h:j<=k):
    J0 P w K mg base CX k f fd ps sp:=⟨F.len,fun A outer s H args us vs Q E hr=>F.run A outer s H args us vs Q E (hr.mono h)⟩
theorem J0.imp {P:Program}{w:World}{K:PySem.W.Frag}{mg:Str->Option Value}{base:Heap}{CX:CXT}{k:Nat}{f:Addr}{fd:FuncData}{ps:List Str}{sp sp':Sp} (F:J0 P w K mg base CX k f fd ps sp)
    (h:∀vs H Q E,sp' vs H Q E->sp vs H Q E):J0 P w K mg base CX k f fd ps sp':=
  ⟨fun vs H Q E q=>F.len vs H Q E (h _ _ _ _ q),fun A outer s H args us vs Q E hr he hb hv hs=>F.run A outer s H args us vs Q E hr he hb hv (h _ _ _ _ hs)⟩
theorem T4.make {P:Program}{w:World}{K:PySem.W.Frag}{mg:Str->Option Value}{base:Heap}{A:Around}{outer:List Env}{s:Shared}{H:Hp} (e:T4 P w K mg base A outer s H) (C:Addr) (us:List Value) (kw:List (Str × Value)):
    T4 P w K mg base (A.under (.builtin "type.__call__" ⟨.ref C::us,kw⟩)) outer s H:=⟨by first | exact e.frames | (simpa [Around.under,Code.envs,Code.isFrame,pushEnvs]using e.frames),e.mod,e.bs,e.bsz,e.funs,e.frf,e.hok,e.bare⟩
theorem T4.in1 {P:Program}{w:World}{K:PySem.W.Frag}{mg:Str->Option Value}{base:Heap}{A:Around}{outer:List Env}{s:Shared}{H:Hp} (e:T4 P w K mg base A outer s H):
    T4 P w K mg base A.in1 outer s H:=⟨e.frames,e.mod,e.bs,e.bsz,e.funs,e.frf,e.hok,e.bare⟩
section
variable {X:Cx}{pins:List (Addr × Obj)}{σ:St}{H:Hp}{s s':Shared}
theorem Inv.env0 (I:Inv X pins σ H s):T4 X.prog X.w X.K X.mg X.base X.A X.stack s H:=
  ⟨I.ok.frames,I.ok.mod,I.bs,Nat.le_trans I.ok.bsz I.sz,I.stack,I.stkFree,I.hok,I.bare⟩
theorem Inv.after {Q:VK}{u:Value} (I:Inv X pins σ H s) (h:CE X.stack X.prog X.w H s Q u s'):EP X pins σ Q u s':=by
  obtain⟨v,H',os,bare,un,hok,r,q⟩:=h
  obtain⟨hh,g,d,t,os'⟩:=s'
  obtain rfl:os'=s.os:=os
  exact⟨v,H',I.call (h':=hh) (g':=g) (d':=d) (t':=t) (ch:=[]) un hok bare (fun b z=>absurd z (by simp)),r,q⟩
end
def Od (sp:Sp) (dvs:List V) (E:XK) (t:TA):TE:=fun σ H Q=>t σ H fun vs H1=>sp (vs++dvs) H1 Q E
def Binds (K:PySem.W.Frag) (fd:FuncData) (ps:List Str) (ds:List Value):Prop:=
  ∀(s:Shared) (us:List Value),K.In s.heap->(us++ds).length=ps.length->BindsTo s fd ⟨us,[]⟩ (ps.zip (us++ds))
theorem Binds.all {K:PySem.W.Frag}{fd:FuncData}{ps:List Str} (h:∀us:List Value,us.length=ps.length->bindArgs fd ⟨us,[]⟩=pure (ps.zip us)):Binds K fd ps []:=fun s us _ hl=>by
  rw [List.append_nil]at hl ⊢
  exact .of_eq (h us hl)
def Passes (CX:CXT) (X:Cx) (E:XK):Prop:=∀(pins:List (Addr × Obj)) (σ:St) (H:Hp) (s:Shared) (e:Value) (s':Shared),Inv X pins σ H s->CX X.stack H s E e s'->X.xe e s'
section
variable {X:Cx}{CX:CXT}{k:Nat}{f C:Addr}{fd:FuncData}{ps:List Str}{sp:Sp}{dvs:List V}{ds:List Value}{E:XK}{x m:Str}{p pos apos:Pos}{e o:Expr}{es:List Expr}{ta:TE}{t:TA}
theorem Xq {pins:List (Addr × Obj)}{σ:St}{H:Hp}{s:Shared}{Q:VK}{us:List Value}{vs:List V} (F:J0 X.prog X.w X.K X.mg X.base CX k f fd ps sp) (hr:Fv k X.A) (hb:Binds X.K fd ps ds) (hd:Vals dvs ds) (hx:Passes CX X E)
    (I:Inv X pins σ H s) (r:Vals vs us) (h:sp (vs++dvs) H Q E):wpAny (model X.prog X.w) X.A (call (.ref f) us) (EP X pins σ Q) X.xe s:=by
  have r2:Vals (vs++dvs) (us++ds):=r.append hd
  have hl:(us++ds).length=ps.length:=by rw [<-r2.length];exact F.len _ _ _ _ h
  refine wpAny_call (codeAny_mono (F.run X.A X.stack s H ⟨us,[]⟩ (us++ds) (vs++dvs) Q E hr I.env0 (hb s us I.kIn hl) r2 h) fun r s' hq=> ?_)
  cases r with
  | error e=>exact hx pins σ H s e s' I hq
  | ok fl=>
    cases fl with
    | ret u=>exact I.after hq
    | next=>exact False.elim hq
    | brk=>exact False.elim hq
    | cont=>exact False.elim hq
theorem Sy (F:J0 X.prog X.w X.K X.mg X.base CX k f fd ps sp) (hr:Fv k X.A) (hg:Gl X x) (hm:X.mg x=some (.ref f)) (hk:PySem.W.keepIn X.K (.ref f)=true) (hb:Binds X.K fd ps ds) (hd:Vals dvs ds) (hx:Passes CX X E)
    (ha:PA X (e::es) t) (hdb:(x==("__debug__":Str))=false:=by decide) (he:starEach (e::es) X.env=(false,eval e X.env)::starEach es X.env:=by rfl) (hpl:(backTo pos (starEach es X.env)).any (·.1)=false:=by rfl):
    PE X (.Call (.Name x p) (e::es) [] pos) (Od sp dvs E t):=by
  intro pins s σ H Q I h
  refine wpAny_Call_Name_kw (Jr I hg hm ?_ hdb)
  refine PySem.W.callWith_K (h₀:=X.base) I.ok.mod.kin hk (thn (ha pos pins s σ H _ I h) fun us s1 ⟨vs,H1,I1,r,q⟩=>⟨I1.kIn,?_⟩) he hpl
  exact Xq F hr hb hd hx I1 r q
structure Mk (K:PySem.W.Frag) (C f:Addr):Prop where
  makes:PySem.W.makesIn K C=true
  init:PySem.W.findIn K (.ref C) "__init__"=some (some (.ref f))
  fn:PySem.W.isFn K (.ref f)=true
  kp:PySem.W.keepIn K (.ref C)=true
end
section
variable {X:Cx}{CX:CXT}{k:Nat}{f C:Addr}{fd:FuncData}{ps ks:List Str}{sp:Sp}{E:XK}{x m:Str}{p pos apos kpos:Pos}{e o:Expr}{es:List Expr}{kws:List Keyword}{te ta:TE}{t tk:TA}{nm:Option Str}
structure Aad (K:PySem.W.Frag) (fd:FuncData) (ps ks:List Str) (g:List Value->List Value->List Value) (gV:List V->List V->List V):Prop where
  to:∀(s:Shared) (us ws:List Value),K.In s.heap->(g us ws).length=ps.length->BindsTo s fd ⟨us,ks.zip ws⟩ (ps.zip (g us ws))
  rel:∀ {vs:List V}{us:List Value}{zs:List V}{ws:List Value},Vals vs us->Vals zs ws->Vals (gV vs zs) (g us ws)
variable {g:List Value->List Value->List Value}{gV:List V->List V->List V}
end
structure Aq (N P:List Str) (sc:Scope):Prop where
  kind:sc.kind= .function
  co:sc.isCoroutine=false
  gen:sc.isGenerator=false
  nd:N.Nodup
  pre:N.take P.length=P
  par:∀x∈P,sc.names.lookup x=some .local \/sc.names.lookup x=some .cell
  nofree:∀y∈sc.names,y.2≠ .free
theorem Mp {kindOf:Str->Option NameKind}{x:Str}:∀ {binds:List (Str × Value)}{m:Str->Option Value},(∀v,(x,v)∉binds)->bindL kindOf binds m x=m x
  | [],_,_=>rfl
  | (n,v)::r,m,h=>by
    unfold bindL
    rw [Mp fun w hw=>h w (List.mem_cons_of_mem _ hw)]
    split
    . have:x≠n:=by rintro rfl;exact h v List.mem_cons_self
      simp [this]
    . rfl
theorem M9 {kindOf:Str->Option NameKind}{x:Str}:∀ {binds:List (Str × Value)}{m:Str->Option Value},(∀v,(x,v)∉binds)->bindC kindOf binds m x=m x
  | [],_,_=>rfl
  | (n,v)::r,m,h=>by
    unfold bindC
    rw [M9 fun w hw=>h w (List.mem_cons_of_mem _ hw)]
    split
    . rfl
    . have:x≠n:=by rintro rfl;exact h v List.mem_cons_self
      simp [this]
theorem M7 {kindOf:Str->Option NameKind}{x:Str}{v:Value}:∀ {P:List Str}{vs:List Value}{i:Nat}{m:Str->Option Value},P.Nodup->P[i]? =some x->vs[i]? =some v->kindOf x=some .local ->
    bindL kindOf (P.zip vs) m x=some v
  | [],_,_,_,_,h,_,_=>by simp at h
  | _::_,[],_,_,_,_,h,_=>by simp at h
  | p::P,w::vs,0,m,nd,h1,h2,hk=>by
    simp at h1 h2;subst h1;subst h2
    show bindL kindOf ((p,w)::P.zip vs) m p=_
    unfold bindL
    rw [Mp fun v hv=>(List.nodup_cons.mp nd).1 (List.of_mem_zip hv).1,if_pos hk]
    simp
  | p::P,w::vs,i+1,m,nd,h1,h2,hk=>by
    show bindL kindOf ((p,w)::P.zip vs) m x=_
    unfold bindL
    exact M7 (i:=i) (List.nodup_cons.mp nd).2 (by simpa using h1) (by simpa using h2) hk
theorem Lk {kindOf:Str->Option NameKind}{x:Str}{v:Value}:∀ {P:List Str}{vs:List Value}{i:Nat}{m:Str->Option Value},P.Nodup->P[i]? =some x->vs[i]? =some v->kindOf x≠some .local ->
    bindC kindOf (P.zip vs) m x=some v
  | [],_,_,_,_,h,_,_=>by simp at h
  | _::_,[],_,_,_,_,h,_=>by simp at h
  | p::P,w::vs,0,m,nd,h1,h2,hk=>by
    simp at h1 h2;subst h1;subst h2
    show bindC kindOf ((p,w)::P.zip vs) m p=_
    unfold bindC
    rw [M9 fun v hv=>(List.nodup_cons.mp nd).1 (List.of_mem_zip hv).1,if_neg hk]
    simp
  | p::P,w::vs,i+1,m,nd,h1,h2,hk=>by
    show bindC kindOf ((p,w)::P.zip vs) m x=_
    unfold bindC
    exact Lk (i:=i) (List.nodup_cons.mp nd).2 (by simpa using h1) (by simpa using h2) hk
def start (N:List Str) (vs:List V):St:=vs.map some++List.replicate (N.length-vs.length) none
def Jh (CX:CXT) (P:Program) (w:World) (K:PySem.W.Frag) (mg:Str->Option Value) (base:Heap) (N:List Str) (qual:Str) (scope:Scope) (f:Addr) (cd:Value) (A:Around) (outer:List Env) (s:Shared) (H:Hp) (E:XK):Cx where
  prog:=P
  w:=w
  K:=K
  mg:=mg
  base:=base
  A:=A.deeper (envOfC qual scope s.heap.objs.size f cd)
  N:=N
  s₀:=s
  H₀:=H
  env:=envOfC qual scope s.heap.objs.size f cd
  outer:=outer
  stack:=envOfC qual scope s.heap.objs.size f cd::outer
  ex:=[]
  calm:=true
  fn:=fun _=>true
  pn:=[]
  xe:=fun e s'=>wpAny (model P w) (A.deeper (envOfC qual scope s.heap.objs.size f cd)) (leaving (envOfC qual scope s.heap.objs.size f cd) e) (fun _ s''=>CX outer H s E e s'') (fun e' s''=>CX outer H s E e' s'') s'
theorem Pz {sc:Scope}{n:Nat}{x:Str} (h:sc.names.lookup x=some .cell):∃c,(cellsFrom n sc.names []).lookup x=some c:=by
  have q:=PySem.W.cellsFrom_some sc.names n [] (.inl h)
  exact Option.isSome_iff_exists.mp q
theorem R3 {CX:CXT}{P:Program}{w:World}{K:PySem.W.Frag}{mg:Str->Option Value}{base:Heap}{N ps:List Str}{qual:Str}{scope:Scope}{f:Addr}{cd:Value}{A:Around}{outer:List Env}{s s1:Shared}{H:Hp}{E:XK}{us:List Value}{vs:List V}
    (S:Aq N ps scope) (hd:A.handled=none) (e0:T4 P w K mg base A outer s H) (hl:vs.length=ps.length) (r:Vals vs us)
    (x:InCallC s s.heap.objs.size (bindL (envOfC qual scope s.heap.objs.size f cd).kindOf (ps.zip us) fun _=>none) (cellsFrom (s.heap.objs.size+1) scope.names []) (bindC (envOfC qual scope s.heap.objs.size f cd).kindOf (ps.zip us) fun _=>none) s1):
    Inv (Jh CX P w K mg base N qual scope f cd A outer s H E) [] (start N vs) H s1:=by
  have hpl:ps.length<=N.length:=by have:=congrArg List.length S.pre;rw [List.length_take]at this;omega
  obtain⟨h1,tk,rfl,hk⟩:=x.done
  have noA:∀b:Addr,b∉(Jh CX P w K mg base N qual scope f cd A outer s H E).ex:=fun b z=>absurd (show b∈([]:List Addr)from z) (by simp)
  refine⟨⟨e0.mod,S.kind,rfl,rfl,Nat.le_refl _,fun y z c h1 h2=> ?_,fun y hy=> ?_,fun y c _ h=> ?_,fun _=>hd,Around.frames_deeper e0.frames,.inr ⟨rfl,rfl⟩,fun b z=>absurd z (noA b),e0.bs,e0.bsz,fun b _ _=>noA b,fun b z=>absurd z (noA b),e0.funs,e0.frf⟩,
    rfl,e0.bare,Un.kept hk,⟨_,x.toInCall.ns,fun i y v h1 h2 h3=> ?_⟩,fun y c h=>⟨_,x.cell y c h⟩,e0.hok.fresh (Nat.le_refl _),fun y c h=> ?_,fun p hp=>absurd (show p∈([]:List (Addr × Obj))from hp) (by simp),e0.hok.kept hk,?_⟩
  . exact name_of_addr x.apart (PySem.mem_of_lookup h1) (PySem.mem_of_lookup h2)
  . have hy:scope.names.lookup y=some .cell\/scope.names.lookup y=some .free:=hy
    rcases hy with hy | hy
    . exact Pz hy
    . exact absurd rfl (S.nofree _ (PySem.mem_of_lookup hy))
  . exact Nat.le_of_lt (x.above y c (PySem.mem_of_lookup h))
  . have hi:i<vs.length:=by
      unfold start at h2
      by_cases hi:i<vs.length
      . exact hi
      . rw [List.getElem?_append_right (by simpa using hi)]at h2
        rw [List.getElem?_replicate]at h2
        split at h2<;>cases h2
    have ha:vs[i]? =some v:=by
      unfold start at h2
      rw [List.getElem?_append_left (by simpa using hi),List.getElem?_map]at h2
      cases e:vs[i]? with
      | none=>rw [e]at h2;cases h2
      | some a=>rw [e]at h2;cases h2;rfl
    obtain⟨u,hu,rv⟩:=r.get ha
    have hp:ps[i]? =some y:=by
      rw [<-S.pre,List.getElem?_take_of_lt (by omega)];exact h1
    have ndP:ps.Nodup:=by rw [<-S.pre];exact S.nd.sublist (List.take_sublist _ _)
    refine⟨u,rv,?_⟩
    rcases S.par y (List.mem_of_getElem? hp)with k | k
    . exact .inl ⟨k,M7 ndP hp hu k⟩
    . obtain⟨c,e⟩:=Pz (n:=s.heap.objs.size+1) k
      refine .inr ⟨.inl k,c,e,?_⟩
      have q:=x.cell y c e
      rw [Lk ndP hp hu (by show scope.names.lookup y≠_;rw [k];decide)]at q
      exact q
  . exact e0.hok.fresh (Nat.le_of_lt (x.above y c (PySem.mem_of_lookup h)))
  . unfold start
    show _=N.length
    rw [List.length_append,List.length_map,List.length_replicate]
    omega
theorem Xy {CX:CXT}{P:Program}{w:World}{K:PySem.W.Frag}{mg:Str->Option Value}{base:Heap}{k:Nat}{f:Addr}{name qual:Str}{params:Arguments}{body:List Stmt}{scope:Scope}{dV kV doc pm cdv ct oc:Value}{an od:Option Addr}
    {osl:Array (Option Value)}{N ps:List Str}{sp:Sp} (lk:K.lookup f=some ⟨oc,od,.func (PySem.W.fnOf name qual params body scope dV kV doc pm an cdv ct),osl⟩) (hcd:PySem.W.codeIn K cdv qual=true) (S:Aq N ps scope)
    (len:∀vs H Q E,sp vs H Q E->vs.length=ps.length)
    (hbody:∀(A:Around) (outer:List Env) (s:Shared) (H:Hp) (vs:List V) (Q:VK) (E:XK),Fv k (A.deeper (envOfC qual scope s.heap.objs.size f cdv))->sp vs H Q E->
      ∃t,PSs (Jh CX P w K mg base N qual scope f cdv A outer s H E) body t/\t { nx:=fun _ H'=>Q .non H',rt:=Q} (start N vs) H):
    J0 P w K mg base CX (k+1) f (PySem.W.fnOf name qual params body scope dV kV doc pm an cdv ct) ps sp:=by
  refine⟨len,fun A outer s H args us vs Q E hr e0 hb r hsp=> ?_⟩
  have hl:=len _ _ _ _ hsp
  have KX:K.In s.heap:=e0.mod.kin.keeps fun b o e=>(e0.bs b o e).1
  have lim:s.heap.NoLimit:=e0.mod.nolimit.keeps fun b o e=>(e0.bs b o e).1
  have hkind:∀y∈ps.zip us,scope.names.lookup y.1=some .local \/(scope.names.lookup y.1=some .cell/\((cellsFrom (s.heap.objs.size+1) scope.names []).lookup y.1).isSome=true):=fun⟨n,v⟩ hy=>by
    rcases S.par n (List.of_mem_zip hy).1 with q | q
    . exact .inl q
    . exact .inr ⟨q,PySem.W.cellsFrom_some _ _ _ (.inl q)⟩
  refine codeAny_call_function hr.depth (KX _ _ lk) rfl S.co S.gen rfl (PySem.W.codeRec_of KX hcd) (hb _ _ _ _ ?_)
  refine wpAny_newFunctionEnv_cells S.kind hkind fun env he s1 x=> ?_
  subst he
  refine⟨lim.keeps x.toInCall.keep,codeAny_func ?_⟩
  obtain⟨t,ht,hq⟩:=hbody A outer s H vs Q E (hr.deeper _) hsp
  have I:Inv (Jh CX P w K mg base N qual scope f cdv A outer s H E) [] (start N vs) H s1:=R3 S hr.hd e0 hl r x
  refine wpAny_mono (ht [] s1 (start N vs) H _ I hq) (fun fl s' hs=> ?_) fun e s' hs=>hs
  have fin:∀ {σ':St}{H':Hp}{v:V}{u:Value},Inv (Jh CX P w K mg base N qual scope f cdv A outer s H E) [] σ' H' s'->RelV v u->Q v H'->CE outer P w H s Q u s':=
    fun {σ' H' v u} J rv q=>⟨v,H',J.os,J.bare,J.base,J.hok,rv,q⟩
  cases fl with
  | ret u=>
    obtain⟨v,σ',H',J,rv,q⟩:=hs
    exact fin J rv q
  | next=>
    obtain⟨σ',H',J,q⟩:=hs
    exact fin (v:=V.non) (u:=Value.none) J rfl q
  | brk=>
    obtain⟨_,_,_,q⟩:=hs
    exact False.elim q
  | cont=>
    obtain⟨_,_,_,q⟩:=hs
    exact False.elim q
end L2
namespace L2
open PySem PySem.Spec PyProof.Rows
section
variable {X:Cx}{x:Str}{p pos:Pos}{e:Expr}{es:List Expr}{t:TA}{id T:String}{r:List V->Hp->VK->Prop}
def tCB (r:List V->Hp->VK->Prop) (t:TA):TE:=fun σ H Q=>t σ H fun vs H1=>r vs H1 Q
theorem Ur (hc:Fj X (.builtin id) r) (hg:Gl X x) (hm:X.mg x=none) (hv:bootBuiltins x=some (.builtin id)) (ha:PA X (e::es) t) (hn:x≠"__name__":=by decide) (hdb:(x==("__debug__":Str))=false:=by decide)
    (he:starEach (e::es) X.env=(false,eval e X.env)::starEach es X.env:=by rfl) (hpl:(backTo pos (starEach es X.env)).any (·.1)=false:=by rfl):PE X (.Call (.Name x p) (e::es) [] pos) (tCB r t):=by
  intro pins s σ H Q I h
  refine wpAny_Call_Name_kw (Kd I hg hm hv ?_ hn hdb)
  exact PyProof.Rows.callWith_builtin1 (thn (ha pos pins s σ H _ I h) fun us s1 ⟨vs,H1,I1,r1,q1⟩=>hc pins s1 σ H1 vs us Q I1 r1 q1) he hpl
theorem R0 (hc:Fj X (.type T) r) (hg:Gl X x) (hm:X.mg x=none) (hv:bootBuiltins x=some (.type T)) (ha:PA X (e::es) t) (hn:x≠"__name__":=by decide) (hdb:(x==("__debug__":Str))=false:=by decide)
    (he:starEach (e::es) X.env=(false,eval e X.env)::starEach es X.env:=by rfl) (hpl:(backTo pos (starEach es X.env)).any (·.1)=false:=by rfl):PE X (.Call (.Name x p) (e::es) [] pos) (tCB r t):=by
  intro pins s σ H Q I h
  refine wpAny_Call_Name_kw (Kd I hg hm hv ?_ hn hdb)
  exact PyProof.Rows.callWith_type1 (thn (ha pos pins s σ H _ I h) fun us s1 ⟨vs,H1,I1,r1,q1⟩=>hc pins s1 σ H1 vs us Q I1 r1 q1) he hpl
end
end L2
namespace HT
open PySem PyProof.Rows
section
variable {prog:Program}{w:World}{A:Around}{E:Value->Shared->Prop}{s:Shared}
theorem W6 {t b:Addr}{vs ws:List Value}{Q:Value->Shared->Prop} (ht:IsTup s.heap t vs.toArray) (hb:IsTup s.heap b ws.toArray) (hv:vs≠ [])
    (h1:ws=[]->Q (.ref t) s) (h2:ws≠ []->Q (.ref s.heap.objs.size) { s with heap:=s.heap.push { cls:= .type "tuple",data:= .seq (vs++ws).toArray}})
    (hsz:vs.length+ws.length<=sizeLine):wpAny (model prog w) A (binaryOp .Add (.ref t) (.ref b)) Q E s:=by
  obtain⟨⟨cls,dd,data,sl⟩,ho,hc,n,hd⟩:=id ht
  obtain⟨⟨cls2,dd2,data2,sl2⟩,ho2,hc2,n2,hd2⟩:=id hb
  simp only at hc hd hc2 hd2
  subst hc hd hc2 hd2
  have e:vs.toArray++ws.toArray=(vs++ws).toArray:=by simp
  by_cases hw:ws=[]
  . exact concat_meets ⟨_,ho,rfl⟩ ⟨_,ho2,rfl⟩ noFill_tuple_add seq_tuple_add PySem.F.slot_tuple_add PySem.F.entry_tuple_add (PySem.F.args_tuple_add_2 _ _)
      (tuple_addW1 t b vs.toArray ws.toArray n n2 dd dd2 sl sl2 (by simpa using hv) (by simp [hw])) ⟨ho,ho2,h1 hw⟩
  . refine concat_meets ⟨_,ho,rfl⟩ ⟨_,ho2,rfl⟩ noFill_tuple_add seq_tuple_add PySem.F.slot_tuple_add PySem.F.entry_tuple_add (PySem.F.args_tuple_add_2 _ _)
      (tuple_addW2 t b vs.toArray ws.toArray n n2 dd dd2 sl sl2 (by simpa using hv) (by simpa using hw) (by rw [List.size_toArray,List.size_toArray];exact hsz)) ⟨ho,ho2,?_⟩
    rw [e]
    exact h2 hw
def sIx (n d:Nat):Option Int->Nat
  | none=>d
  | some v=>if v<0 then(v+(n:Int)).toNat else min v.toNat n
theorem Uy (n d:Nat):sIx n d none=d:=rfl
theorem Wt (n d k:Nat):sIx n d (some (k:Int))=min k n:=by
  show(if(k:Int)<0 then((k:Int)+(n:Int)).toNat else min (k:Int).toNat n)=min k n
  rw [if_neg (by omega),Int.toNat_natCast]
theorem Y0 (n d:Nat) (hd:d<=n) (o:Option Int):sIx n d o<=n:=by
  cases o with
  | none=>exact hd
  | some v=>
    show(if v<0 then(v+(n:Int)).toNat else min v.toNat n)<=n
    by_cases hv:v<0
    . rw [if_pos hv];omega
    . rw [if_neg hv];exact Nat.min_le_right _ _
theorem Td (v:Int) (n d:Nat):(if v<0 then max (v+(n:Int)) 0 else min v (n:Int))=((sIx n d (some v):Nat):Int):=by
  show(if v<0 then max (v+(n:Int)) 0 else min v (n:Int))=(((if v<0 then(v+(n:Int)).toNat else min v.toNat n):Nat):Int)
  by_cases hv:v<0
  . simp only [if_pos hv];omega
  . simp only [if_neg hv];omega
theorem Qf (lo hi:Option Int) (n:Nat):Builtin.Slice.sliceAdjust lo hi 1 (n:Int)=(((sIx n 0 lo:Nat):Int),((sIx n n hi:Nat):Int)):=by
  have h1:¬((1:Int)<0):=by omega
  unfold Builtin.Slice.sliceAdjust
  simp only [h1,if_false]
  refine Prod.ext ?_ ?_
  . cases lo with
    | none=>rfl
    | some v=>exact Td v n 0
  . cases hi with
    | none=>rfl
    | some v=>exact Td v n n
theorem Qi (i j:Nat):Builtin.Slice.slicePlaces (i:Int) (j:Int) 1=j-i:=by
  unfold Builtin.Slice.slicePlaces
  have h1:(1:Int)>0:=by omega
  simp only [h1,if_true,Int.ediv_one]
  split<;>omega
theorem J8 {v:Value}{o:Option Int}{Q:Option Int->Shared->Prop} (p:IsPart v o) (h:Q o s):wpAny (model prog w) A (Builtin.Slice.slicePartIndex v) Q E s:=by
  cases p with
  | none=>exact slicePart_none h
  | int i t=>exact slicePart_int h
theorem Dt {sl:Addr}{vl vu:Value}{lo hi:Option Int}{n:Nat}{Q:Int × Int × Nat->Shared->Prop} (hs:s.heap.IsSliceOf sl vl vu .none) (pl:IsPart vl lo) (pu:IsPart vu hi)
    (h:Q (((sIx n 0 lo:Nat):Int),1,sIx n n hi-sIx n 0 lo) s):wpAny (model prog w) A (Builtin.Slice.sliceApplied (.ref sl) (pure (n:Int))) Q E s:=by
  obtain⟨os,hos,hcs,hds⟩:=id hs
  unfold Builtin.Slice.sliceApplied Builtin.Slice.sliceFields
  refine wpAny_bind (wpAny_bind (wpAny_field hos hds (x:=vl) rfl (wpAny_bind (wpAny_field hos hds (x:=vu) rfl (wpAny_bind (wpAny_field hos hds (x:= .none) rfl (wpAny_pure ?_)))))))
  refine wpAny_bind (slicePart_none ?_)
  show wpAny _ _ (if((1:Int)==0)=true then _ else _) _ _ s
  rw [if_neg (by decide)]
  refine wpAny_bind (J8 pl (wpAny_bind (J8 pu (wpAny_bind (wpAny_pure ?_)))))
  show wpAny _ _ (match Builtin.Slice.sliceAdjust lo hi 1 (n:Int)with | (lo,hi)=>pure (lo,(1:Int),Builtin.Slice.slicePlaces lo hi 1)) _ _ s
  rw [Qf lo hi n]
  show wpAny _ _ (pure (((sIx n 0 lo:Nat):Int),(1:Int),Builtin.Slice.slicePlaces ((sIx n 0 lo:Nat):Int) ((sIx n n hi:Nat):Int) 1)) _ _ s
  rw [Qi]
  exact wpAny_pure h
theorem T7 (xs:Array Value) (i k:Nat):((List.range k).filterMap fun(m:Nat)=>xs[((i:Int)+(m:Int)*1).toNat]?).toArray=((xs.toList.drop i).take k).toArray:=by
  have e:(fun(m:Nat)=>xs[((i:Int)+(m:Int)*1).toNat]?)=fun m=>xs[i+m]? :=by
    funext m
    have:((i:Int)+(m:Int)*1).toNat=i+m:=by omega
    rw [this]
  rw [e]
  have:=pick_run xs i k
  rw [List.filterMap_map]at this
  have e2:((fun x=>xs[x]?) ∘ fun x=>i+x)=fun m=>xs[i+m]? :=rfl
  rw [e2]at this
  rw [this]
theorem Gs {t sl:Addr}{items:Array Value}{vl vu:Value}{lo hi:Option Int}{Q:Value->Shared->Prop} (ht:IsTup s.heap t items) (hs:s.heap.IsSliceOf sl vl vu .none) (pl:IsPart vl lo) (pu:IsPart vu hi)
    (hw:¬(sIx items.size 0 lo=0/\sIx items.size items.size hi=items.size))
    (h:Q (.ref s.heap.objs.size) { s with heap:=s.heap.push { cls:= .type "tuple",data:= .seq ((items.toList.drop (sIx items.size 0 lo)).take (sIx items.size items.size hi-sIx items.size 0 lo)).toArray}})
    (hsz:items.size<=sizeLine):wpAny (model prog w) A (getItem (.ref t) (.ref sl)) Q E s:=by
  have htake:sizeOk (.seq ((items.toList.drop (sIx items.size 0 lo)).take (sIx items.size items.size hi-sIx items.size 0 lo)).toArray):=by
    show((items.toList.drop (sIx items.size 0 lo)).take (sIx items.size items.size hi-sIx items.size 0 lo)).toArray.size<=sizeLine
    rw [List.size_toArray,List.length_take,List.length_drop,Array.length_toList]
    omega
  have hj:sIx items.size items.size hi<=items.size:=Y0 _ _ (Nat.le_refl _) hi
  obtain⟨os,hos,hcs,hds⟩:=id hs
  have hTs:s.TypeIs (.ref sl) "slice":=⟨os,hos,hcs⟩
  unfold getItem
  try with_reducible refine wpAny_holding ?_
  first | refine wpAny_bind (wpAny_pure ?_) | skip
  refine wpAny_bind (wpAny_sequenceKey ht.typeIs (by decide) ?_)
  refine wpAny_bind (wpAny_callSpecial?_slot (name:=Str.ofString "__getitem__") ht.typeIs PyProof.Rows.slot_tuple_getitem
    (wpAny_call_entry PyProof.Rows.slot_tuple_getitem ht.typeIs entry_tuple_getitem ?_ (args_tuple_getitem _ _)))
  show wpAny _ _ (Builtin.Tuple.tupleItemsOf (.ref t)>>=_) _ _ s
  refine wpAny_bind (tupleItemsOf_ ht ?_)
  refine wpAny_bind (wpAny_typeOf hTs ?_)
  rw [if_pos (by decide)]
  refine wpAny_bind (Dt hs pl pu ?_)
  have hno:¬((((sIx items.size 0 lo:Nat):Int)==0&&(1:Int)==1&&(sIx items.size items.size hi-sIx items.size 0 lo)==items.size)=true):=by
    intro q
    rw [Bool.and_eq_true,Bool.and_eq_true]at q
    have q1:((sIx items.size 0 lo:Nat):Int)=0:=eq_of_beq q.1.1
    have q2:sIx items.size items.size hi-sIx items.size 0 lo=items.size:=eq_of_beq q.2
    exact hw ⟨by omega,by omega⟩
  show wpAny _ _ (if(((sIx items.size 0 lo:Nat):Int)==0&&(1:Int)==1&&(sIx items.size items.size hi-sIx items.size 0 lo)==items.size)=true then _ else _) _ _ s
  rw [if_neg hno,T7]
  first
    | exact wpAny_bind (m:=Builtin.Tuple.tupleExact _) (wpAny_newObj_type (wpAny_pure ⟨_,rfl,wpAny_pure h⟩) htake)
    | exact wpAny_bind (m:=Builtin.Tuple.tupleExact _) (wpAny_newObj_type (wpAny_bind (wpAny_pure (wpAny_pure ⟨_,rfl,wpAny_pure h⟩))) htake)
    | exact wpAny_bind (wpAny_bind (m:=Builtin.Tuple.tupleExact _) (wpAny_newObj_type (wpAny_pure (wpAny_pure ⟨_,rfl,wpAny_pure h⟩)) htake))
    | exact wpAny_bind (wpAny_bind (m:=Builtin.Tuple.tupleExact _) (wpAny_newObj_type (wpAny_pure ⟨_,rfl,wpAny_pure h⟩) htake))
end
end HT
namespace L2
open PySem PySem.Spec PyProof.Rows
abbrev TO:=St->Hp->(Option Int->Hp->Prop)->Prop
def PO (X:Cx) (e:Option Expr) (t:TO):Prop:=
  ∀(pins:List (Addr × Obj)) (s:Shared) (σ:St) (H:Hp) (Q:Option Int->Hp->Prop),Inv X pins σ H s->t σ H Q->
    wpAny (model X.prog X.w) X.A (evalPart e X.env) (fun u s'=>∃o H',Inv X pins σ H' s'/\IsPart u o/\Q o H') X.xe s
def Om:TO:=fun _ H Q=>Q none H
def Wa (t:TE):TO:=fun σ H Q=>t σ H fun x H1=>∃i,x= .int i/\Q (some i) H1
section
variable {X:Cx}{e:Expr}{te:TE}{lo hi:Option Expr}{tl th:TO}{pos p2:Pos}
theorem O1:PO X none Om:=by
  intro pins s σ H Q I h
  rw [evalPart_none]
  exact wpAny_pure ⟨none,H,I,.none,h⟩
theorem Oz (h:PE X e te):PO X (some e) (Wa te):=by
  intro pins s σ H Q I hw
  rw [evalPart_some]
  refine thn (h pins s σ H _ I hw) fun u s1 ⟨x,H1,I1,r1,q1⟩=> ?_
  obtain⟨i,rfl,q⟩:=q1
  obtain⟨t,rfl⟩:=r1
  exact⟨some i,H1,I1,.int i t,q⟩
def SlR (X:Cx) (r:V->Option Int->Option Int->Hp->VK->Prop):Prop:=
  ∀(pins:List (Addr × Obj)) (s:Shared) (σ:St) (H:Hp) (x:V) (v vl vu:Value) (lo hi:Option Int) (sl:Addr) (Q:VK),Inv X pins σ H s->RelV x v->s.heap.IsSliceOf sl vl vu .none->IsPart vl lo->IsPart vu hi->r x lo hi H Q->
    ∃T id,typeLookup (.type T) "__getitem__"=pure (some (.builtin id))/\s.TypeIs v T/\wpAny (model X.prog X.w) X.A (getItem v (.ref sl)) (EP X pins σ Q) X.xe s
def tSl (r:V->Option Int->Option Int->Hp->VK->Prop) (te:TE) (tl th:TO):TE:=fun σ H Q=>te σ H fun x H1=>tl σ H1 fun l H2=>th σ H2 fun u H3=>r x l u H3 Q
theorem Km {r:V->Option Int->Option Int->Hp->VK->Prop} (hr:SlR X r) (he:PE X e te) (hl:PO X lo tl) (hu:PO X hi th):PE X (.Subscript e (.Slice lo hi none p2) pos) (tSl r te tl th):=by
  intro pins s σ H Q I h
  refine Subscript_ (thn (he pins s σ H _ I h) fun v s1 ⟨x,H1,I1,r1,q1⟩=> ?_)
  refine wpAny_Slice (thn (hl pins s1 σ H1 _ I1 q1) fun vl s2 ⟨l,H2,I2,pl,q2⟩=>thn (hu pins s2 σ H2 _ I2 q2) fun vu s3 ⟨u,H3,I3,pu,q3⟩=> ?_)
  rw [evalPart_none]
  refine wpAny_pure ?_
  have I4:Inv X pins σ H3 { s3 with heap:=s3.heap.push { cls:= .type "slice",data:= .fields #[vl,vu,.none]}}:=I3.kept (t':=s3.toks) fun b ob q=>Heap.get?_push_of_some _ q
  obtain⟨T,id,hT,ht,hg⟩:=hr pins { s3 with heap:=s3.heap.push { cls:= .type "slice",data:= .fields #[vl,vu,.none]}} σ H3 x v vl vu l u s3.heap.objs.size Q I4 r1 (Heap.IsSliceOf.new ..) pl pu q3
  show wpAny (model X.prog X.w) X.A (subscriptTail e (.Slice lo hi none p2) v (.ref s3.heap.objs.size)) (EP X pins σ Q) X.xe { s3 with heap:=s3.heap.push { cls:= .type "slice",data:= .fields #[vl,vu,.none]}}
  exact tail_any (ops:=[.ref s3.heap.objs.size,v]) ht hT hg (by with_unfolding_all rfl)
def Uk (xs:List V) (lo hi:Option Int):List V:=(xs.drop (HT.sIx xs.length 0 lo)).take (HT.sIx xs.length xs.length hi-HT.sIx xs.length 0 lo)
theorem Ot (xs:List V) (lo hi:Option Int):(Uk xs lo hi).length<=xs.length:=by
  unfold Uk
  rw [List.length_take,List.length_drop]
  omega
def Aav (K:PySem.W.Frag):V->Option Int->Option Int->Hp->VK->Prop:=fun x lo hi H Q=>∃a xs,x= .ref a/\SqT K H a xs/\
  ¬(HT.sIx xs.length 0 lo=0/\HT.sIx xs.length xs.length hi=xs.length)/\∀p,H p=none->Q (.ref p) (upd H p (.tup (Uk xs lo hi)))
theorem Xp:SlR X (Aav X.K):=by
  intro pins s σ H x v vl vu lo hi sl Q I rx hs pl pu h
  obtain⟨a,xs,rfl,hx,hw,q⟩:=h
  cases rx
  obtain⟨its,r,ht,hz⟩:=I.tuple hx
  have hlen:its.toArray.size=xs.length:=by rw [List.size_toArray];exact r.length.symm
  refine⟨"tuple",_,PyProof.Rows.slot_tuple_getitem.lookup,ht.typeIs,?_⟩
  refine HT.Gs ht hs pl pu (by rw [hlen];exact hw) ?_ (by rw [hlen];exact hz)
  rw [hlen]
  refine⟨.ref s.heap.objs.size,_,I.laid (t':=s.toks) (o:= .tup (Uk xs lo hi)) (fun b ob q=>Heap.get?_push_of_some _ q) (Nat.le_refl _) ?_,rfl,q _ (I.hok.fresh (Nat.le_refl _))⟩
  exact⟨Nat.le_trans (Ot xs lo hi) hz,_,(r.drop (HT.sIx xs.length 0 lo)).take (HT.sIx xs.length xs.length hi-HT.sIx xs.length 0 lo),IsTup.new _ _⟩
def Z0 (K:PySem.W.Frag):R2:=fun x y H Q=>∃a b xs ys,x= .ref a/\y= .ref b/\SqT K H a xs/\SqT K H b ys/\xs≠ []/\xs.length+ys.length<=sizeLine/\
  (ys=[]->Q (.ref a) H)/\(ys≠ []->∀p,H p=none->Q (.ref p) (upd H p (.tup (xs++ys))))
theorem Vals.nil_iff {xs:List V}{us:List Value} (r:Vals xs us):us=[]↔xs=[]:=by
  cases r with
  | nil=>simp
  | cons _ _=>simp
theorem Xh:OpR X (binaryOp .Add) (Z0 X.K):=by
  intro pins s σ H x y v u Q I rx ry h
  obtain⟨a,b,xs,ys,rfl,rfl,ha,hb,hx,hz,q1,q2⟩:=h
  cases rx
  cases ry
  obtain⟨its,r1,p1,_⟩:=I.tuple ha
  obtain⟨its2,r2,p2,_⟩:=I.tuple hb
  refine HT.W6 p1 p2 (fun z=>hx (r1.nil_iff.mp z)) (fun z=>⟨.ref a,H,I,rfl,q1 (r2.nil_iff.mp z)⟩) (fun z=> ?_) (by rw [<-r1.length,<-r2.length];exact hz)
  refine⟨.ref s.heap.objs.size,_,I.laid (t':=s.toks) (o:= .tup (xs++ys)) (fun b ob q=>Heap.get?_push_of_some _ q) (Nat.le_refl _) ?_,rfl,q2 (fun w=>z (r2.nil_iff.mpr w)) _ (I.hok.fresh (Nat.le_refl _))⟩
  exact⟨by rw [List.length_append];exact hz,_,r1.append r2,IsTup.new _ _⟩
end
end L2
namespace L2
open PySem PySem.Spec PyProof.Rows
def ixN (n:Nat) (i:Int):Option Nat:=if 0<=i then(if i<n then some i.toNat else none)else if-(n:Int)<=i then some (i+n).toNat else none
def atI {α:Type} (xs:List α) (i:Int):Option α:=(ixN xs.length i).bind fun j=>xs[j]?
theorem Wq {n:Nat}{i:Int}{j:Nat} (h:ixN n i=some j):seqIndex? i n=some j/\j<n/\ -(n:Int)<=i/\i<n:=by
  unfold ixN at h
  by_cases h0:0<=i
  . rw [if_pos h0]at h
    by_cases h1:i<n
    . rw [if_pos h1]at h
      have e:i.toNat=j:=Option.some.inj h
      exact⟨by rw [seqIndex_of h0 h1,e],by omega,by omega,h1⟩
    . rw [if_neg h1]at h;cases h
  . rw [if_neg h0]at h
    by_cases h1: -(n:Int)<=i
    . rw [if_pos h1]at h
      have e:(i+n).toNat=j:=Option.some.inj h
      exact⟨by rw [seqIndex_neg (by omega) h1,e],by omega,h1,by omega⟩
    . rw [if_neg h1]at h;cases h
theorem Ru {α:Type}{xs:List α}{i:Int}{v:α} (h:atI xs i=some v):∃j,seqIndex? i xs.length=some j/\xs[j]? =some v/\j<xs.length/\ -(xs.length:Int)<=i/\i<xs.length:=by
  unfold atI at h
  cases e:ixN xs.length i with
  | none=>rw [e]at h;cases h
  | some j=>
    rw [e]at h
    obtain⟨h1,h2,h3,h4⟩:=Wq e
    exact⟨j,h1,h,h2,h3,h4⟩
theorem Nz {α:Type}{xs:List α}{j:Nat}{v:α} (h:xs[j]? =some v):atI xs (j:Int)=some v:=by
  have hj:j<xs.length:=(List.getElem?_eq_some_iff.mp h).1
  have e:ixN xs.length (j:Int)=some j:=by
    unfold ixN
    rw [if_pos (by omega),if_pos (by omega)];simp
  unfold atI;rw [e];exact h
theorem Uv {α:Type} (xs:List α) (v:α):atI (xs++ [v]) (-1)=some v:=by
  have hl:(xs++ [v]).length=xs.length+1:=by simp
  have e:ixN (xs++ [v]).length (-1)=some xs.length:=by
    unfold ixN
    rw [hl,if_neg (by decide),if_pos (by omega)]
    congr 1
    omega
  unfold atI
  rw [e]
  show(xs++ [v])[xs.length]? =some v
  simp
def Qw (b:Expr):Prop:=∀o i,subscripted b false o i=operate [o,i] (getItem o i)
def IxR (X:Cx) (r:R2):Prop:=
  ∀(value slice:Expr) (pins:List (Addr × Obj)) (s:Shared) (σ:St) (H:Hp) (x y:V) (v u:Value) (Q:VK),Inv X pins σ H s->RelV x v->RelV y u->r x y H Q->
    subscripted slice false v u=operate [v,u] (getItem v u)->wpAny (model X.prog X.w) X.A (subscriptTail value slice v u) (EP X pins σ Q) X.xe s
def MtR (X:Cx) (id:String) (r:V->List V->Hp->VK->Prop):Prop:=
  ∀(pins:List (Addr × Obj)) (s:Shared) (σ:St) (H:Hp) (x:V) (xs:List V) (v:Value) (us:List Value) (Q:VK),Inv X pins σ H s->RelV x v->Vals xs us->r x xs H Q->
    wpAny (model X.prog X.w) X.A (call (.builtin id) (v::us)) (EP X pins σ Q) X.xe s
section
variable {X:Cx}{a b:Expr}{ta tb:TE}{pos:Pos}
theorem Bv {r:R2} (hr:IxR X r) (ha:PE X a ta) (hb:PE X b tb) (hs:Qw b):PE X (.Subscript a b pos) (tOp r ta tb):=by
  intro pins s σ H Q I h
  exact Subscript_ (Z6 ha hb I h fun v u s2 x y H2 I2 rx ry q=>hr a b pins s2 σ H2 x y v u Q I2 rx ry q (hs _ _))
def Aaa (K:PySem.W.Frag):R2:=fun x y H Q=>∃p xs i v,x= .ref p/\y= .int i/\SqL K H p xs/\atI xs i=some v/\Q v H
def Zr (K:PySem.W.Frag):R2:=fun x y H Q=>∃p xs i v,x= .ref p/\y= .int i/\SqT K H p xs/\atI xs i=some v/\Q v H
theorem Ks:IxR X (Aaa X.K):=by
  intro value slice pins s σ H x y v u Q I rx ry h hs
  obtain⟨p,xs,i,z,rfl,rfl,hq,he,q⟩:=h
  cases rx
  obtain⟨t,rfl⟩:=ry
  obtain⟨its,r,pl,hz⟩:=I.list hq
  obtain⟨j,h1,h2,h3,h4,h5⟩:=Ru he
  obtain⟨w,ew,rw'⟩:=r.get h2
  have hl:=r.length
  have hn:=Rf
  have fin:EP X pins σ Q w s:=⟨z,H,I,rw',q⟩
  by_cases h0:0<=i
  . have hj:i.toNat=j:=by
      rw [seqIndex_of h0 h5]at h1
      exact Option.some.inj h1
    exact item_listR pl.isList h0 (by omega) (by rw [hj];simpa using ew) fin hs
  . have hj:(i+(its.toArray.size:Int)).toNat=j:=by
      rw [seqIndex_neg (by omega) h4]at h1
      rw [List.size_toArray,<-hl]
      exact Option.some.inj h1
    exact subscriptTail_builtinR (x:=w) pl.isList.typeIs slot_list_getitem.lookup
      (wpAny_getItem_list_neg (Q:=fun r s'=>r=w/\EP X pins σ Q r s') pl.isList (by omega) (by rw [List.size_toArray]<;>omega) (by omega) (by rw [hj];simpa using ew) ⟨rfl,fin⟩) hs
theorem Bw:IxR X (Zr X.K):=by
  intro value slice pins s σ H x y v u Q I rx ry h hs
  obtain⟨p,xs,i,z,rfl,rfl,hq,he,q⟩:=h
  cases rx
  obtain⟨t,rfl⟩:=ry
  obtain⟨its,r,pl,hz⟩:=I.tuple hq
  obtain⟨j,h1,h2,h3,h4,h5⟩:=Ru he
  obtain⟨w,ew,rw'⟩:=r.get h2
  have hl:=r.length
  have hn:=Rf
  have fin:EP X pins σ Q w s:=⟨z,H,I,rw',q⟩
  exact subscriptTail_builtinR (x:=w) pl.typeIs slot_tuple_getitem.lookup
    (getItem_tuple (j:=j) (Q:=fun r s'=>r=w/\EP X pins σ Q r s') pl (by omega) (by omega) (by rw [List.size_toArray,<-hl];exact h1) (by simpa using ew) ⟨rfl,fin⟩) hs
theorem Inv.lst {pins:List (Addr × Obj)}{σ:St}{H:Hp}{s:Shared}{p:Addr}{xs:List V} (I:Inv X pins σ H s) (h:H p=some (.lst xs)):
    ∃(its:List Value) (n:Nat),Vals xs its/\s.heap.get? p=some { cls:= .type "list",data:= .seq its.toArray n}/\xs.length<=sizeLine:=by
  obtain⟨z,its,n,r,e⟩:=I.hok p _ h
  exact⟨its,n,r,e,z⟩
theorem Bm:Fj X (.builtin "len") (fun xs H Q=>∃p ys,xs=[.ref p]/\(SqL X.K H p ys\/SqT X.K H p ys)/\Q (.int ys.length) H):=by
  intro pins s σ H xs us Q I r h
  obtain⟨p,ys,rfl,hq,q⟩:=h
  obtain⟨u,rfl,rx⟩:=vals1 r
  cases rx
  have hn:=Rf
  rcases hq with hq | hq
  . obtain⟨its,r',pl,hz⟩:=I.list hq
    have hlen:=r'.length
    exact Calls.call_len_list pl.isList (by simp only [List.size_toArray]<;>omega) ⟨.int ys.length,H,I.tok _,⟨s.toks+1,by rw [List.size_toArray,hlen]⟩,q⟩
  . obtain⟨its,r',pl,hz⟩:=I.tuple hq
    have hlen:=r'.length
    exact len_tuple pl (by simp only [List.size_toArray]<;>omega) ⟨.int ys.length,H,I.tok _,⟨s.toks+1,by rw [List.size_toArray,hlen]⟩,q⟩
theorem Cq:Fj X (.type "list") (fun xs H Q=>∃p ys,xs=[.ref p]/\(SqL X.K H p ys\/SqT X.K H p ys)/\∀l,H l=none->Q (.ref l) (upd H l (.lst ys))):=by
  intro pins s σ H xs us Q I r h
  obtain⟨p,ys,rfl,hq,q⟩:=h
  obtain⟨u,rfl,rx⟩:=vals1 r
  cases rx
  have fin:∀(its:List Value),Vals ys its->ys.length<=sizeLine->∀(h':Heap) (c':Nat),(∀b o',s.heap.get? b=some o'->h'.get? b=some o')->
      h'.get? s.heap.objs.size=some { cls:= .type "list",dict:=none,data:= .seq its.toArray c',slots:= #[]}->EP X pins σ Q (.ref s.heap.objs.size) { s with heap:=h'}:=fun its r' hz h' c' kp e=>
    ⟨.ref s.heap.objs.size,_,I.laid (t':=s.toks) kp (Nat.le_refl _) (show Bs X.prog X.w _ h' _ (.lst ys)from⟨hz,its,c',r',e⟩),rfl,q _ (I.hok.fresh (Nat.le_refl _))⟩
  rcases hq with hq | hq
  . obtain⟨its,r',pl,hz⟩:=I.list hq
    have hlen:=r'.length
    obtain⟨o,ho,hc,n,hd⟩:=pl.isList
    exact call_list_seq p (.inl rfl) ho hc hd (fun h' c' kp e=>fin its r' hz h' c' kp e) (by simp only [List.size_toArray]<;>omega)
  . obtain⟨its,r',pl,hz⟩:=I.tuple hq
    have hlen:=r'.length
    obtain⟨o,ho,hc,n,hd⟩:=pl
    exact call_list_seq p (.inr rfl) ho hc hd (fun h' c' kp e=>fin its r' hz h' c' kp e) (by simp only [List.size_toArray]<;>omega)
theorem K1:Fj X (.type "tuple") (fun xs H Q=>∃p ys,xs=[.ref p]/\((SqL X.K H p ys/\∀l,H l=none->Q (.ref l) (upd H l (.tup ys)))\/(SqT X.K H p ys/\Q (.ref p) H))):=by
  intro pins s σ H xs us Q I r h
  obtain⟨p,ys,rfl,h⟩:=h
  obtain⟨u,rfl,rx⟩:=vals1 r
  cases rx
  rcases h with⟨hq,q⟩ | ⟨hq,q⟩
  . obtain⟨its,r',pl,hz⟩:=I.list hq
    have hlen:=r'.length
    refine call_tuple_list pl.isList (fun h' kp=> ?_) (by simp only [List.size_toArray]<;>omega)
    have I1:Inv X pins σ H { s with heap:=h'}:=I.kept (t':=s.toks) kp
    have I2:Inv X pins σ (upd H h'.objs.size (.tup ys)) { s with heap:=h'.push { cls:= .type "tuple",data:= .seq its.toArray}}:=
      I1.laid (t':=s.toks) (fun b o e=>Heap.get?_push_of_some _ e) (Nat.le_refl _) (show Bs X.prog X.w _ _ _ (.tup ys)from⟨hz,its,r',IsTup.new _ _⟩)
    exact⟨.ref h'.objs.size,_,I2,rfl,q _ (I1.hok.fresh (Nat.le_refl _))⟩
  . obtain⟨its,r',pl,hz⟩:=I.tuple hq
    exact call_tuple_same pl ⟨.ref p,H,I,rfl,q⟩
def tyV (K:PySem.W.Frag) (T:String) (x:V) (H:Hp):Prop:=match x with
  | .str _=>T="str"
  | .int _=>T="int"
  | .ref p=>(T="list"/\∃xs,SqL K H p xs)\/(T="tuple"/\∃o,K.lookup p=some o/\o.cls= .type "tuple"/\o.dict=none)\/
      (T="dict"/\((∃kvs,H p=some (.dK kvs))\/∃kvs,H p=some (.dT kvs)))\/(T="set"/\∃S n,H p=some (.set S n))
  | _=>False
theorem Vw {pins:List (Addr × Obj)}{σ:St}{H:Hp}{s:Shared}{T:String}{x:V}{v:Value} (I:Inv X pins σ H s) (r:RelV x v) (ty:tyV X.K T x H):
    s.TypeIs v T/\∀a,v= .ref a->∃ob,s.heap.get? a=some ob/\ob.dict=none:=by
  cases x with
  | str z=>
    obtain⟨t,rfl⟩:=r
    cases(show T="str" from ty)
    exact⟨typeIs_str s z t,fun _ e=>nomatch e⟩
  | int i=>
    obtain⟨t,rfl⟩:=r
    cases(show T="int" from ty)
    exact⟨typeIs_int s i t,fun _ e=>nomatch e⟩
  | ref p=>
    cases r
    rcases ty with⟨rfl,xs,hq⟩ | ⟨rfl,o,hk,hc,hd⟩ | ⟨rfl,hk⟩ | ⟨rfl,S,n,hk⟩
    . obtain⟨its,_,pl,_⟩:=I.list hq
      refine⟨pl.isList.typeIs,fun a e=> ?_⟩
      cases e
      obtain⟨o,n,e,c,hd,_⟩:=pl
      exact⟨o,e,hd⟩
    . refine⟨⟨o,I.kIn p o hk,hc⟩,fun a e=> ?_⟩
      cases e
      exact⟨o,I.kIn _ o hk,hd⟩
    . have z:∃o,s.heap.get? p=some o/\o.ExactDict:=by
        rcases hk with⟨kvs,hk⟩ | ⟨kvs,hk⟩
        . obtain⟨_,_,_,_,o,_,_,e,ex,_⟩:=I.hok p _ hk
          exact⟨o,e,ex⟩
        . obtain⟨_,_,_,_,o,_,_,e,ex,_⟩:=I.hok p _ hk
          exact⟨o,e,ex⟩
      obtain⟨o,e,ex⟩:=z
      refine⟨⟨o,e,ex.1⟩,fun a e2=> ?_⟩
      cases e2
      exact⟨o,e,ex.2.1⟩
    . obtain⟨o,_,_,_,e,ex,_⟩:=I.hok p _ hk
      refine⟨⟨o,e,ex.1⟩,fun a e2=> ?_⟩
      cases e2
      exact⟨o,e,ex.2.1⟩
  | _=>exact False.elim ty
def Zy (K:PySem.W.Frag) (T:String) (r:V->List V->Hp->VK->Prop) (to:TE):TE:=fun σ H Q=>to σ H fun x H1=>tyV K T x H1/\r x [] H1 Q
def tBM (K:PySem.W.Frag) (T:String) (r:V->List V->Hp->VK->Prop) (to:TE) (t:TA):TE:=fun σ H Q=>to σ H fun x H1=>tyV K T x H1/\t σ H1 fun xs H2=>r x xs H2 Q
variable {o e:Expr}{es:List Expr}{to:TE}{t:TA}{name:Str}{apos cpos:Pos}{T id:String}{r:V->List V->Hp->VK->Prop}
theorem Mx (pa:PlainAttrs T) (slot:Slot T name id) (hty:typeOf (.builtin id)=pure (.type "method_descriptor")) (hm:MtR X id r) (ho:PE X o to)
    (hbase:attributeBase o name X.env (eval o X.env)=eval o X.env:=by rfl) (hline:(apos.endLine==cpos.line)=true:=by rfl):PE X (.Call (.Attribute o name apos) [] [] cpos) (Zy X.K T r to):=by
  intro pins s σ H Q I h
  refine wpAny_Call_method0_late hbase hline (thn (ho pins s σ H _ I h) fun v s1 ⟨x,H1,I1,r1,ty,q1⟩=> ?_)
  obtain⟨h1,h2⟩:=Vw I1 r1 ty
  exact⟨T,id,pa,slot,hty,h1,h2,Calls.callWith_builtin rfl (PySem.evalArgs_none (hm pins s1 σ H1 x [] v [] Q I1 r1 .nil q1))⟩
theorem Kz (pa:PlainAttrs T) (slot:Slot T name id) (hty:typeOf (.builtin id)=pure (.type "method_descriptor")) (hm:MtR X id r) (ho:PE X o to) (ha:PA X (e::es) t)
    (hbase:attributeBase o name X.env (eval o X.env)=eval o X.env:=by rfl)
    (hfew:((backTo cpos (starEach (e::es) X.env)).all (fun x=> !x.1)&&(backToKw cpos (keywordEach [] X.env)).all (fun x=>x.1.isSome)
      &&decide ((e::es).length+([]:List Keyword).length+(if([]:List Keyword).isEmpty then 0 else 1)<30))=true:=by rfl)
    (hline:(apos.endLine==cpos.line)=true:=by rfl) (hs:starEach (e::es) X.env=(false,eval e X.env)::starEach es X.env:=by rfl) (hplain:(backTo cpos (starEach es X.env)).any (·.1)=false:=by rfl):
    PE X (.Call (.Attribute o name apos) (e::es) [] cpos) (tBM X.K T r to t):=by
  intro pins s σ H Q I h
  refine wpAny_Call_method_late hbase hfew hline rfl (thn (ho pins s σ H _ I h) fun v s1 ⟨x,H1,I1,r1,ty,q1⟩=> ?_)
  obtain⟨h1,h2⟩:=Vw I1 r1 ty
  refine⟨T,id,pa,slot,hty,h1,h2,?_⟩
  have hA:=ha cpos pins s1 σ H1 _ I1 q1
  rw [hs]at hA ⊢
  refine Calls.callWith_builtin (by show(false||(backTo cpos (starEach es X.env)).any (·.1))=false;rw [hplain]<;>rfl) (Calls.evalArgs_plain ?_)
  exact thn hA fun us s2 ⟨vs,H2,I2,r2,q2⟩=>hm pins s2 σ H2 x vs v us Q I2 r1 r2 q2
/-xs.append(e),list.index on a module's tuple .. are MtR facts of 06m-/
end
end L2
namespace L2
open PySem PySem.Spec PyProof.Rows
def MtM (X:Cx) (id:String) (r:V->List V->Hp->VK->Prop):Prop:=
  ∀(pins:List (Addr × Obj)) (s:Shared) (σ:St) (H:Hp) (x:V) (xs:List V) (v:Value) (us:List Value) (Q:VK),Inv X pins σ H s->RelV x v->Vals xs us->r x xs H Q->
    wpAny (model X.prog X.w) X.A (call (.builtin id) (v::us)) (EP X pins σ Q) X.xe s
theorem Vals.one:∀ {x:V}{us:List Value},Vals [x] us->∃u,us=[u]/\RelV x u
  | _,_,.cons r .nil=>⟨_,rfl,r⟩
theorem Vals.two:∀ {x y:V}{us:List Value},Vals [x,y] us->∃u v,us=[u,v]/\RelV x u/\RelV y v
  | _,_,_,.cons r (.cons q .nil)=>⟨_,_,rfl,r,q⟩
theorem Vals.zero:∀ {us:List Value},Vals [] us->us=[]
  | _,.nil=>rfl
theorem Vals.dropLast {xs:List V}{us:List Value} (h:Vals xs us):Vals xs.dropLast us.dropLast:=by
  induction h with
  | nil=>exact .nil
  | cons r t ih=>
    cases t with
    | nil=>exact .nil
    | cons q t'=>exact .cons r ih
theorem Vals.reverse {xs:List V}{us:List Value} (h:Vals xs us):Vals xs.reverse us.reverse:=by
  induction h with
  | nil=>exact .nil
  | cons r t ih=>rw [List.reverse_cons,List.reverse_cons];exact Vals.append ih (.cons r .nil)
section
variable {X:Cx}{pins:List (Addr × Obj)}{σ:St}{H:Hp}{s:Shared}{l b:Addr}{xs ys zs:List V}
theorem Inv.lset {its its':List Value}{n:Nat}{f:Array Value->Array Value}{t':Nat} (I:Inv X pins σ H s) (hH:H l=some (.lst xs))
    (e:s.heap.get? l=some { cls:= .type "list",data:= .seq its.toArray n}) (hf:f its.toArray=its'.toArray) (hv:Vals ys its') (hz:ys.length<=sizeLine):
    Inv X pins σ (upd H l (.lst ys)) { s with heap:=s.heap.update l (Obj.mapSeq f),toks:=t'}:=by
  have q:=PySem.IsL.update e f
  rw [hf]at q
  refine I.write (x:=l) (e:=l) (by rw [hH];exact trivial) (.inl rfl) (fun b' u hb hu=>(Heap.get?_update_other s.heap (Obj.mapSeq f) (Ne.symm hb)).trans hu) ⟨_,q⟩ ?_
  exact⟨hz,its',_,hv,q⟩
theorem Inv.lnew {its:List Value}{t':Nat} (I:Inv X pins σ H s) (hv:Vals ys its) (hz:ys.length<=sizeLine):
    Inv X pins σ (upd H s.heap.objs.size (.lst ys)) { s with heap:=s.heap.push { cls:= .type "list",data:= .seq its.toArray},toks:=t'}:=
  I.laid (fun _ _ q=>Heap.get?_push_of_some _ q) (Nat.le_refl _) ⟨hz,its,0,hv,Heap.get?_push_size _ rfl⟩
theorem Inv.fresh (I:Inv X pins σ H s):H s.heap.objs.size=none:=I.hok.fresh (Nat.le_refl _)
theorem Inv.lstM (I:Inv X pins σ H s) (hH:H l=some (.lst xs)):xs.length<=sizeLine/\∃(its:List Value) (n:Nat),Vals xs its/\xs.length=its.length/\s.heap.get? l=some { cls:= .type "list",data:= .seq its.toArray n}:=by
  obtain⟨z,its,n,r,e⟩:=I.hok l _ hH
  exact⟨z,its,n,r,r.length,e⟩
end
section
variable {X:Cx}
def W2:V->List V->Hp->VK->Prop:=fun x vs H Q=>∃l xs y,x= .ref l/\vs=[y]/\H l=some (.lst xs)/\xs.length<sizeLine/\Q .non (upd H l (.lst (xs++ [y])))
theorem Ji:MtM X "list.append" W2:=by
  intro pins s σ H x vs v us Q I rx rv h
  obtain⟨l,xs,y,rfl,rfl,hH,hz,q⟩:=h
  cases rx
  obtain⟨u,rfl,ru⟩:=rv.one
  obtain⟨z,its,n,r,hl,e⟩:=I.lstM hH
  refine call_meets F.slot_list_append ⟨_,e,rfl⟩ F.entry_list_append (F.args_list_append_2 _ _) (PySem.list_append l its.toArray n u (by rw [List.size_toArray];omega)) ⟨e,?_⟩
  refine⟨.non,_,I.lset (its':=its++ [u]) hH e (by simp) (r.append (.cons ru .nil)) ?_,rfl,q⟩
  rw [List.length_append,List.length_singleton]
  omega
def Aam:R2:=fun x y H Q=>∃l b xs zs,x= .ref l/\y= .ref b/\H l=some (.lst xs)/\H b=some (.lst zs)/\xs.length+zs.length<=sizeLine/\∀p,H p=none->Q (.ref p) (upd H p (.lst (xs++zs)))
theorem Rb:OpR X (binaryOp .Add) Aam:=by
  intro pins s σ H x y v u Q I rx ry h
  obtain⟨l,b,xs,zs,rfl,rfl,hH,hB,hz,q⟩:=h
  cases rx
  cases ry
  obtain⟨z,its,n,r,hl,e⟩:=I.lstM hH
  obtain⟨z2,its2,n2,r2,hl2,e2⟩:=I.lstM hB
  refine PySem.P.add_list e e2 ?_ (by rw [List.size_toArray,List.size_toArray];omega)
  have ea:its.toArray++its2.toArray=(its++its2).toArray:=by simp
  rw [ea]
  exact⟨.ref _,_,I.lnew (t':=s.toks) (r.append r2) (by rw [List.length_append];omega),rfl,q _ I.fresh⟩
end
end L2
namespace Att
open PySem PySem.W PySem.Calls PyProof.Rows
theorem Jf {P:Params}{h:Heap}:∀(ns:List Int) (vs:List Value),WellAll P h vs (ns.map WData.int)->IntsAre vs ns:=by
  intro ns
  induction ns with
  | nil=>
    intro vs w
    rw [List.map_nil]at w
    cases w
    exact .nil
  | cons n ns ih=>
    intro vs w
    rw [List.map_cons]at w
    cases w with
    | cons a b=>
      cases a
      exact .cons _ _ (ih _ b)
theorem Rx {l:OpenLaw}{n:Nat} (hn:l.most=some n) {P:Params}{h:Heap}{args:List WData}{vals:List Value}
    (hpre:l.row.toRowW.claim.pre args=true) (hwl:WellAll P h vals args):
    ∃a vs ns,vals=[Value.ref a]/\args=[WData.list (ns.map WData.int)]/\h.get? a=some { cls:= .type "list",data:= .seq vs.toArray}/\IntsAre vs ns/\ns.length<=n:=by
  have hsh:WShape.hasAll [] args [.list .int]=true:=(pre_splitW hpre).1
  have hc:l.pre.holds [] { args:=args}=true:=(pre_splitW hpre).2
  obtain⟨d,r,rfl,h1,h2⟩:=hasAllW_cons hsh
  obtain rfl:=hasAllW_nil h2
  obtain⟨xs,rfl,h3⟩:=hasW_list h1
  obtain⟨ns,rfl⟩:=items_int h3
  have hlen:ns.length<=n:=by
    unfold OpenLaw.pre at hc
    have h4:(WTm.not (.lt (.lit (.int (n:Int))) (.len (.arg 0)))).holds [] { args:=[.list (ns.map .int)]}=true:=by
      have h4:=(holds_andW hc).1
      rw [hn]at h4
      exact h4
    have h5:=condW_of h4 (w_not (w_lt w_lit (w_len_list (w_arg rfl))))
    rw [List.length_map]at h5
    refine Nat.le_of_not_lt fun q=> ?_
    have q':(n:Int)<((ns.length:Nat):Int):=by omega
    first
      | (rw [decide_eq_true q']at h5;exact absurd h5 (by decide))
      | (simp at h5;omega)
  cases hwl with
  | cons w1 w2=>
    cases w2
    cases w1 with
    | list ho hall=>exact⟨_,_,ns,rfl,rfl,ho,Jf ns _ hall,hlen⟩
theorem Q7 (l:OpenLaw) (args:List WData):l.row.toRowW.claim.post args (.bool true) args=true:=
  postW_of (r:=l.row.toRowW) (X:=(true==true))
    (show WShape.has [] (.bool true) .bool=true by first | rfl | decide | simp [WShape.has,WShape.arms,WShape.armsAll])
    (show(WTm.eq .res (.lit (.bool true))).value [] { args:=args,res:=some (.bool true),after:=args}=some (.bool (true==true))from w_eq_bool (w_res rfl) w_lit) rfl
theorem N8 {l:OpenLaw}{n:Nat}{q:Program}{loose:List Str}{XP:(Str->Option Value)->Heap->Prop}{YP:World->Heap->Prop}{d:DefRec}
    (hn:l.most=some n) (hdf:d.params.defaults=[])
    (call:∀(w:World) (s₀ s₁:Shared) (mg mb:Str->Option Value) (fa:Addr) (o:Obj) (pm cd doc:Value) (a:Addr) (vs:List Value) (ns:List Int),
      Ground q loose [] XP w s₀ mg mb s₁.heap->YP w s₁.heap->
      s₁.heap.get? fa=some o->o.data= .func (docDef d.name d.params d.body d.scope pm cd doc)->s₁.heap.CodeRec cd d.name->mg d.name=some (.ref fa)->
      s₁.heap.get? a=some { cls:= .type "list",data:= .seq vs.toArray}->IntsAre vs ns->ns.length<=n->s₁.gens= #[]->
      codeAny (model l.prog w) callerA (.call (.ref fa) ⟨[.ref a],[]⟩) (fun r s'=>r= .ok (.ret (.bool true))/\OldK s₁.heap s'.heap/\s'.os=s₁.os/\AllBare s'.gens) s₁):
    WalkO q loose XP YP l.row.toRowW d [] (fun f vs=>PySem.call f vs):=by
  intro w s₀ s₁ mg mb G Y fa o pm cd doc dV kV ho hd hcd hD hmg hg args vals as hpre hlay hrd hwl hlo
  obtain rfl:dV= .none:=Dflts.none hD hdf
  obtain rfl:kV= .none:=Dflts.noKw hD
  obtain⟨a,vs,ns,rfl,rfl,hobj,hints,hlen⟩:=Rx hn hpre hwl
  refine enter_call (codeAny_mono (call w s₀ s₁ mg mb fa o pm cd doc a vs ns G Y ho (fd_plain hd) hcd hmg hobj hints hlen hg) fun r s' hq=> ?_)
  obtain⟨rfl,h2,h3,h4⟩:=hq
  exact⟨.inl ⟨.bool true,.bool true,[],rfl,fun _=>rfl,.bool true,Q7 l _,fun _=>⟨List.Pairwise.nil,fun _ hm=>(nomatch hm)⟩⟩,h2,h3,h4⟩
end Att
namespace L2
open PySem PySem.Spec PyProof.Rows
theorem Ni:∀ {vs:List Value}{ns:List Int},IntsAre vs ns->Vals (ns.map V.int) vs
  | _,_,.nil=> .nil
  | _,_,.cons n t h=> .cons ⟨t,rfl⟩ (Ni h)
def Only (H:Hp):Prop:=∀b,H b=none\/∃o xs,H b=some (.frz o (.lst xs))
theorem U9 {P:Program}{w:World}{K:PySem.W.Frag}{mg mb:Str->Option Value}{CX:CXT}{k:Nat}{fa a:Addr}{fd:FuncData}{x:Str}{sp:Sp}{s₁:Shared}{vs:List Value}{ns:List Int}
    (KX:K.In s₁.heap) (hns:s₁.heap.Ns mainGlobals mg) (hb:s₁.heap.Ns builtinsNs mb) (hbb:∀x:Str,x≠"__name__"->mb x=bootBuiltins x) (hlim:s₁.heap.NoLimit) (hg:s₁.gens= #[])
    (ha:s₁.heap.get? a=some { cls:= .type "list",data:= .seq vs.toArray}) (hi:IntsAre vs ns) (hl:ns.length<=sizeLine) (hr:Fv k callerA)
    (F:∀base:Heap,K.In base->base.Ns mainGlobals mg->J0 P w K mg base CX k fa fd [x] sp) (hbind:∀(s:Shared) (u:Value),BindsTo s fd ⟨[u],[]⟩ [(x,u)])
    (hsp:∀H:Hp,Only H->SqL K H a (ns.map V.int)->sp [.ref a] H (fun v _=>v= .bl true) fun _ _ _=>False)
    (hCX:∀H e s',CX [] H s₁ (fun _ _ _=>False) e s'->False):
    codeAny (model P w) callerA (.call (.ref fa) ⟨[.ref a],[]⟩) (fun r s'=>r= .ok (.ret (.bool true))/\OldK s₁.heap s'.heap/\s'.os=s₁.os/\AllBare s'.gens) s₁:=by
  have rv:=Ni hi
  have lenV:=hi.length
  have core:∀H:Hp,Only H->SqL K H a (ns.map V.int)->HOk P w H s₁.heap->(∀b,H b≠none->b=a)->(H a≠none->K.lookup a=none)->
      codeAny (model P w) callerA (.call (.ref fa) ⟨[.ref a],[]⟩) (fun r s'=>r= .ok (.ret (.bool true))/\OldK s₁.heap s'.heap/\s'.os=s₁.os/\AllBare s'.gens) s₁:=by
    intro H hO hS hok hA hK
    have base_of:∀ {b:Addr}{o:Obj},s₁.heap.get? b=some o->H b=none->(Vd s₁.heap H).get? b=some o:=fun e n=>Ue e n
    have noA:∀ {b:Addr}{o:Obj}{es:Array DictEntry}{ep:Nat},s₁.heap.get? b=some o->o.data= .dict es ep->H b=none:=fun {b o es ep} e d=>by
      cases q:H b with
      | none=>rfl
      | some u=>
        have e':b=a:=hA b (by rw [q];simp)
        subst e'
        rw [ha]at e;cases e
        have d':Data.seq vs.toArray _=Data.dict es ep:=d
        cases d'
    have nsK:∀ {b:Addr}{m:Str->Option Value},s₁.heap.Ns b m->(Vd s₁.heap H).Ns b m:=fun {b m} ⟨o,es,ep,e,d,r⟩=>⟨o,es,ep,base_of e (noA e d),d,r⟩
    have hKb:K.In (Vd s₁.heap H):=fun b o e=>base_of (KX b o e) (by
      cases q:H b with
      | none=>rfl
      | some u=>
        have e':b=a:=hA b (by rw [q];simp)
        subst e'
        rw [hK (by rw [q];simp)]at e;cases e)
    have hM:Mod K mg (Vd s₁.heap H):=⟨hKb,nsK hns,⟨mb,nsK hb,hbb⟩,let ⟨mc,h1,h2⟩:=hlim;⟨mc,nsK h1,h2⟩⟩
    have e0:T4 P w K mg (Vd s₁.heap H) callerA [] s₁ H:=⟨rfl,hM,fun b o e=>Wj e,Nat.le_of_eq (Sg _ _),trivial,fun b hb=>absurd (show b∈([]:List Addr)from hb) (by simp),hok,.of_eq hg⟩
    refine codeAny_mono ((F _ hKb (nsK hns)).run callerA [] s₁ H ⟨[.ref a],[]⟩ [.ref a] [.ref a] _ _ hr e0 (hbind s₁ (.ref a)) (.cons rfl .nil) (hsp H hO hS)) fun r s' h=> ?_
    cases r with
    | error e=>exact(hCX H e s' h).elim
    | ok fl=>
      cases fl with
      | next=>exact False.elim h
      | brk=>exact False.elim h
      | cont=>exact False.elim h
      | ret u=>
        obtain⟨v,H',os,bare,un,hok',r',q⟩:=h
        have q':v= .bl true:=q
        subst q'
        obtain rfl:u=Value.bool true:=r'
        refine⟨rfl,OldK.of_keep fun b o e=> ?_,os,bare⟩
        cases q:H b with
        | none=>exact un.keep b o e q (by intro z;exact absurd (show b∈([]:List Addr)from z) (by simp)) (by simp)
        | some u=>
          rcases hO b with z | ⟨ob,xs,z⟩
          . rw [q]at z;cases z
          . have z2:=un.frzs b ob _ z
            obtain⟨e1,_⟩:=hok b _ z
            obtain⟨e2,_⟩:=hok' b _ z2
            rw [e]at e1;cases e1
            exact e2
  cases hk:K.lookup a with
  | some o=>
    have e:=KX a o hk
    rw [ha]at e
    cases e
    refine core (fun _=>none) (fun _=> .inl rfl) (.inr ⟨_,vs.toArray,_,hk,rfl,rfl,rfl,by rw [List.size_toArray,lenV];exact hl,by simpa using rv⟩) (fun b u z=>by have z':(none:Option HO)=some u:=z;cases z') (fun b z=>absurd rfl z) fun z=>absurd rfl z
  | none=>
    refine core (fun b=>if b=a then some (.frz { cls:= .type "list",data:= .seq vs.toArray} (.lst (ns.map V.int)))else none) (fun b=> ?_) (.inl (.inr ⟨{ cls:= .type "list",data:= .seq vs.toArray},if_pos rfl⟩)) (fun b u z=> ?_) (fun b z=> ?_) fun _=>hk
    . by_cases hb:b=a
      . exact .inr ⟨_,_,if_pos hb⟩
      . exact .inl (if_neg hb)
    . by_cases hb:b=a
      . have z':=(if_pos hb).symm.trans z
        cases z'
        subst hb
        exact⟨ha,by rw [List.length_map];exact hl,vs,_,rv,ha⟩
      . have z':=(if_neg hb).symm.trans z
        cases z'
    . by_cases hb:b=a
      . exact hb
      . exact absurd (if_neg hb) z
end L2
namespace L2
open PySem PySem.Spec PyProof.Rows
theorem Qx {l:PySem.W.OpenLaw}{n k:Nat}{q:Program}{loose:List Str}{XP:(Str->Option Value)->Heap->Prop}{YP:World->Heap->Prop}{d:DefRec}{K:Params->PySem.W.Frag}{CX:World->CXT}{sp:World->Sp}{x:Str}
    (hn:l.most=some n) (hn2:n<=sizeLine) (hdf:d.params.defaults=[]) (hr:Fv k callerA)
    (hY:∀(w:World) (h:Heap),YP w h->(K w.params).In h)
    (F:∀(w:World) (mg:Str->Option Value) (fa:Addr) (h:Heap),(K w.params).In h->h.Ns mainGlobals mg->mg d.name=some (.ref fa)->
      ∃fd:FuncData,(∀(s:Shared) (u:Value),BindsTo s fd ⟨[u],[]⟩ [(x,u)])/\
        ∀base:Heap,(K w.params).In base->base.Ns mainGlobals mg->J0 l.prog w (K w.params) mg base (CX w) k fa fd [x] (sp w))
    (hsp:∀(w:World) (H:Hp) (a:Addr) (ns:List Int),ns.length<=n->Only H->SqL (K w.params) H a (ns.map V.int)->sp w [.ref a] H (fun v _=>v= .bl true) fun _ _ _=>False)
    (hCX:∀(w:World) (H:Hp) (s:Shared) (e:Value) (s':Shared),CX w [] H s (fun _ _ _=>False) e s'->False):
    PySem.W.WalkO q loose XP YP l.row.toRowW d [] (fun f vs=>PySem.call f vs):=by
  refine Att.N8 hn hdf fun w s₀ s₁ mg mb fa o pm cd doc a vs ns G Y ho hd hcd hmg hobj hints hlen hg=> ?_
  have KX:=hY w _ Y
  obtain⟨fd,hb,hF⟩:=F w mg fa _ KX G.T.g hmg
  exact U9 KX G.T.g G.T.b G.T.builtins G.T.nolimit hg hobj hints (Nat.le_trans hlen hn2) hr hF hb (fun H hO hS=>hsp w H a ns hlen hO hS) fun H e s'=>hCX w H s₁ e s'
end L2
/-THE LAST THEOREM (shape;LID,My.*are yours):
   My.Adr:a structure of the addresses that your layer names (classes,functions);My.Txt K t:a structure (Prop) of the equations over K;
   My.txt_mk:{K}{implicit addresses ..} (e1:nsIn K mainGlobals "law"=some (some (.ref f))) (e2:K.lookup f=some ⟨oc,od,.func (fnOf "law" "law" params body scope dV kV doc pm an cdv ct),sl⟩) (e3:codeIn K cdv "law"=true) .. :∃t,My.Txt K t
set_option maxRecDepth 100000 in
set_option maxHeartbeats 0 in
theorem PySem.Challenge.cw_LID_holds : PySem.Challenge.rw_LID.Holds := by
  w_on;o_law;k_head;(case hw=>w_witness2)
  k_fill
  refine L2.Qx (l:=PySem.Challenge.rw_LID) (n:=63) (k:=40) (x:="script") (CX:=fun w=> ..) (sp:=fun _=>My.sp_law) rfl (by decide) rfl ⟨rfl,by decide,by decide⟩ (fun w h Y=>PySem.W.kIn_of Y) ?F ?S ?C
  case F=>
    intro w mg fa h KX G hmg
    have T:∃t,My.Txt (L2.KOf KX) t:=by
      dsimp only [L2.KOf]                          --K must stand as «<heap const>w.params» for k_is
      refine' My.txt_mk ?e1 ?e2 ?e3 ..
      (case e1=>PySem.W.k_is)                    --in the order:a name->its address->its object->its parts
      (case e2=>PySem.W.k_is)
      ..
    obtain⟨t,T⟩:=T
    have e0:=hmg.symm.trans (PySem.W.mg_of KX G T.law)
    cases e0                                       --fa is the law's own address
    exact⟨_,fun s u=> .of_eq rfl,fun base kb nb=>My.law_fn T kb nb⟩     --if «.of_eq rfl» comes too early:refine' ⟨_,?b,fun base kb nb=>My.law_fn T kb nb⟩;exact fun s u=> .of_eq rfl
  case S=>exact fun w H a ns hl hO hS=> ..
  case C=>exact ..
(the tactic k_is has no namespace:write k_is)-/
namespace L2
open PySem PySem.Spec PyProof.Rows
def Ge (s:Stmt):Arguments:=match s with
  | .FunctionDef _ a _ _ _ _ _ _ _ _=>a
  | _=>{ posonlyargs:=[],args:=[],vararg:=none,kwonlyargs:=[],kw_defaults:=[],kwarg:=none,defaults:=[]}
def Dk (s:Stmt):List Stmt:=match s with
  | .FunctionDef _ _ b _ _ _ _ _ _ _=>b
  | _=>[]
def Ah (s:Stmt):Scope:=match s with
  | .FunctionDef _ _ _ _ _ _ sc _ _ _=>sc
  | _=>{ kind:= .function,names:=[],isGenerator:=false,isCoroutine:=false}
abbrev CX0:CXT:=fun _ _ _ _ _ _=>False
abbrev E0:XK:=fun _ _ _=>False
theorem Y8 {X:Cx}:Passes CX0 X E0:=fun _ _ _ _ _ _ _ h=>h.elim
structure Fun (K:PySem.W.Frag) (x qual:Str) (st:Stmt) (f:Addr) (fd:FuncData):Prop where
  ex:∃(oc:Value) (od:Option Addr) (kV doc pm:Value) (an:Option Addr) (cdv ct:Value) (osl:Array (Option Value)),
    fd=PySem.W.fnOf x qual (Ge st) (Dk st) (Ah st) .none kV doc pm an cdv ct/\K.lookup f=some ⟨oc,od,.func fd,osl⟩/\PySem.W.codeIn K cdv qual=true
  kp:PySem.W.keepIn K (.ref f)=true
section
variable {P:Program}{w:World}{K:PySem.W.Frag}{mg:Str->Option Value}{base:Heap}
theorem Fun.ok {x qual:Str}{st:Stmt}{f:Addr}{fd:FuncData}{N ps:List Str}{k:Nat}{sp:Sp} (F:Fun K x qual st f fd) (S:Aq N ps (Ah st)) (len:∀vs H Q E,sp vs H Q E->vs.length=ps.length)
    (hbody:∀(cdv:Value) (A:Around) (outer:List Env) (s:Shared) (H:Hp) (vs:List V) (Q:VK) (E:XK),Fv k (A.deeper (envOfC qual (Ah st) s.heap.objs.size f cdv))->sp vs H Q E->
      ∃t,PSs (Jh CX0 P w K mg base N qual (Ah st) f cdv A outer s H E).nox (Dk st) t/\t { nx:=fun _ H'=>Q .non H',rt:=Q} (start N vs) H):J0 P w K mg base CX0 (k+1) f fd ps sp:=by
  obtain⟨oc,od,kV,doc,pm,an,cdv,ct,osl,rfl,lk,hcd⟩:=F.ex
  refine Xy lk hcd S len fun A outer s H vs Q E hr hsp=> ?_
  obtain⟨t,h,q⟩:=hbody cdv A outer s H vs Q E hr hsp
  exact⟨t,h.nox,q⟩
theorem Fun.binds {x qual:Str}{st:Stmt}{f:Addr}{fd:FuncData}{ps:List Str} (F:Fun K x qual st f fd)
    (h:∀(kV doc pm:Value) (an:Option Addr) (cdv ct:Value) (us:List Value),us.length=ps.length->bindArgs (PySem.W.fnOf x qual (Ge st) (Dk st) (Ah st) .none kV doc pm an cdv ct) ⟨us,[]⟩=pure (ps.zip us)):Binds K fd ps []:=by
  obtain⟨oc,od,kV,doc,pm,an,cdv,ct,osl,rfl,lk,hcd⟩:=F.ex
  exact .all (h kV doc pm an cdv ct)
theorem Vs {x qual:Str}{st:Stmt}{f:Addr}{oc:Value}{od an:Option Addr}{osl:Array (Option Value)}{kV doc pm cdv ct:Value} (l:K.lookup f=some ⟨oc,od,.func (PySem.W.fnOf x qual (Ge st) (Dk st) (Ah st) .none kV doc pm an cdv ct),osl⟩)
    (c:PySem.W.codeIn K cdv qual=true) (k:PySem.W.keepIn K (.ref f)=true):Fun K x qual st f (PySem.W.fnOf x qual (Ge st) (Dk st) (Ah st) .none kV doc pm an cdv ct):=⟨⟨oc,od,kV,doc,pm,an,cdv,ct,osl,rfl,l,c⟩,k⟩
end
section
variable {X:Cx}
theorem pv (i:Nat) {x:Str}{pos:Pos} (hN:X.N[i]? =some x:=by rfl) (hv:Vis X.env.scope x:=by first | exact Or.inl rfl | exact Or.inr (Or.inl rfl) | exact Or.inr (Or.inr rfl)) (hd:(x==("__debug__":Str))=false:=by decide)
    (hcd:(x==("__classdict__":Str))=false:=by decide):PE X (.Name x pos) (Xk i):=X7 hN hv hd hcd
end
def Same (H H':Hp):Prop:=∀b o,H b=some o->H' b=some o
theorem Same.refl (H:Hp):Same H H:=fun _ _ h=>h
theorem Same.trans {H H1 H2:Hp} (a:Same H H1) (b:Same H1 H2):Same H H2:=fun c o h=>b c o (a c o h)
theorem Same.free {H H':Hp} (e:Same H H') {l:Addr} (h:H' l=Option.none):H l=Option.none:=by
  cases q:H l with
  | none=>rfl
  | some o=>
    rw [e l o q]at h
    cases h
theorem Same.seq {K:PySem.W.Frag}{H H':Hp}{a:Addr}{xs:List V} (e:Same H H') (h:SqL K H a xs):SqL K H' a xs:=by
  rcases h with(h | ⟨o,h⟩) | h
  . exact .inl (.inl (e _ _ h))
  . exact .inl (.inr ⟨o,e _ _ h⟩)
  . exact .inr h
end L2
namespace L2
open PySem PySem.Spec PyProof.Rows
def Cal (P:Program) (w:World) (K:PySem.W.Frag) (mg:Str->Option Value) (base:Heap) (k:Nat) (x:Str) (ps:List Str) (sp:Sp):Prop:=
  ∃f fd,J0 P w K mg base CX0 k f fd ps sp/\mg x=some (.ref f)/\PySem.W.keepIn K (.ref f)=true/\Binds K fd ps []
structure Df (K:PySem.W.Frag) (mg:Str->Option Value) (x:Str) (st:Stmt) (ps:List Str) (f:Addr) (fd:FuncData):Prop where
  fn:Fun K x x st f fd
  bd:Binds K fd ps []
  at':mg x=some (.ref f)
theorem Df.cal {P:Program}{w:World}{K:PySem.W.Frag}{mg:Str->Option Value}{base:Heap}{k:Nat}{x:Str}{st:Stmt}{ps:List Str}{f:Addr}{fd:FuncData}{sp:Sp}
    (F:Df K mg x st ps f fd) (G:J0 P w K mg base CX0 k f fd ps sp):Cal P w K mg base k x ps sp:=⟨f,fd,G,F.at',F.fn.kp,F.bd⟩
theorem Cal.imp {P:Program}{w:World}{K:PySem.W.Frag}{mg:Str->Option Value}{base:Heap}{k:Nat}{x:Str}{ps:List Str}{sp sp':Sp}
    (C:Cal P w K mg base k x ps sp) (h:∀vs H Q E,sp' vs H Q E->sp vs H Q E):Cal P w K mg base k x ps sp':=by
  obtain⟨f,fd,G,a,b,c⟩:=C
  exact⟨f,fd,G.imp h,a,b,c⟩
theorem Ub {X:Cx}{k:Nat}{x:Str}{ps:List Str}{sp:Sp}{p pos:Pos}{e:Expr}{es:List Expr}{t:TA}
    (C:Cal X.prog X.w X.K X.mg X.base k x ps sp) (hr:Fv k X.A) (ha:PA X (e::es) t) (hg:Gl X x:=by rfl) (hdb:(x==("__debug__":Str))=false:=by decide)
    (he:starEach (e::es) X.env=(false,eval e X.env)::starEach es X.env:=by rfl) (hpl:(backTo pos (starEach es X.env)).any (·.1)=false:=by rfl):
    PE X (.Call (.Name x p) (e::es) [] pos) (Od sp [] E0 t):=by
  obtain⟨f,fd,G,a,b,c⟩:=C
  exact Sy G hr hg a b c .nil Y8 ha hdb he hpl
def Sz (n:Nat) (a:Int):Prop:=a.natAbs<2^n
theorem Sz.mono {m n:Nat}{a:Int} (h:Sz m a) (l:m<=n):Sz n a:=Nat.lt_of_lt_of_le h (Nat.pow_le_pow_right (by decide) l)
theorem Sz.mul {m n:Nat}{a b:Int} (h:Sz m a) (g:Sz n b):Sz (m+n) (a*b):=by
  unfold Sz at*
  rw [Int.natAbs_mul,Nat.pow_add]
  exact Nat.mul_lt_mul'' h g
theorem Sz.add {m n:Nat}{a b:Int} (h:Sz m a) (g:Sz n b):Sz (max m n+1) (a+b):=by
  have h1:Sz (max m n) a:=h.mono (Nat.le_max_left _ _)
  have h2:Sz (max m n) b:=g.mono (Nat.le_max_right _ _)
  unfold Sz at*
  have:=Int.natAbs_add_le a b
  rw [Nat.pow_succ]
  omega
theorem Sz.neg {n:Nat}{a:Int} (h:Sz n a):Sz n (-a):=by
  unfold Sz at*
  rw [Int.natAbs_neg]
  exact h
theorem Sz.sub {m n:Nat}{a b:Int} (h:Sz m a) (g:Sz n b):Sz (max m n+1) (a-b):=by
  rw [Int.sub_eq_add_neg]
  exact h.add g.neg
theorem Sz.of_abs {n:Nat}{a b:Int} (h:Sz n b) (l:a.natAbs<=b.natAbs):Sz n a:=Nat.lt_of_le_of_lt l h
theorem Sz.mulOk {m n:Nat}{a b:Int} (h:Sz m a) (g:Sz n b) (l:m+n<=134217728):IntMulOk a b:=
  IntMulOk.of_le (PySem.intBits_le_iff.mpr h) (PySem.intBits_le_iff.mpr g) l
theorem Sz.log2 {n:Nat}{a:Int} (h:Sz n a) (h0:a≠0) (l:n<=9000):a.natAbs.log2<9000:=
  Nat.lt_of_lt_of_le ((Nat.log2_lt (by omega)).mpr h) l
section
variable {X:Cx}{a b:Expr}{ta tb:TE}{pos:Pos}
theorem Av:OpR X (binaryOp .Mult) (rI IntMulOk fun i j=> .int (i*j)):=opI fun _ _ _ _ _ _ _ hc q=>mul_int q hc
def V8 (_ j:Int):Prop:=j≠0/\j.natAbs.log2<9000
theorem O7:OpR X (binaryOp .FloorDiv) (rI V8 fun i j=> .int (i.fdiv j)):=opI fun _ _ _ _ _ _ _ hc q=>floordiv_int hc.1 q (.inl (PyProof.noPylong_of_log2 hc.2))
end
mutual
inductive RdD (K:PySem.W.Frag) (H:Hp):V->PyData->Prop where
  | non:RdD K H .non .none
  | bl (b:Bool):RdD K H (.bl b) (.bool b)
  | int (i:Int):RdD K H (.int i) (.int i)
  | str (x:Str):RdD K H (.str x) (.str x)
  | tup {a:Addr}{xs:List V}{ds:List PyData}:SqT K H a xs->Ol K H xs ds->RdD K H (.ref a) (.tuple ds)
  | lst {a:Addr}{xs:List V}{ds:List PyData}:SqL K H a xs->Ol K H xs ds->RdD K H (.ref a) (.list ds)
inductive Ol (K:PySem.W.Frag) (H:Hp):List V->List PyData->Prop where
  | nil:Ol K H [] []
  | cons {x:V}{d:PyData}{xs:List V}{ds:List PyData}:RdD K H x d->Ol K H xs ds->Ol K H (x::xs) (d::ds)
end
section
variable {X:Cx}{pins:List (Addr × Obj)}{σ:St}{H:Hp}{s:Shared}
mutual
theorem RdD.reads (I:Inv X pins σ H s):∀ {x:V}{d:PyData}{u:Value},RdD X.K H x d->RelV x u->∃as,Reads s.heap u d as
  | _,_,_,.non,r=>by cases r;exact⟨_,.none⟩
  | _,_,_,.bl b,r=>by cases r;exact⟨_,.bool b⟩
  | _,_,_,.int i,r=>by obtain⟨t,rfl⟩:=r;exact⟨_,.int i t⟩
  | _,_,_,.str x,r=>by obtain⟨t,rfl⟩:=r;exact⟨_,.str x t⟩
  | _,_,_,.tup hq hr,r=>by
    cases r
    obtain⟨its,rv,pl,hz⟩:=I.tuple hq
    obtain⟨as,q⟩:=Ol.reads I hr rv
    obtain⟨o,ho,hc,n,hd⟩:=pl
    exact⟨_,.tuple ho hc hd (by simpa using q)⟩
  | _,_,_,.lst hq hr,r=>by
    cases r
    obtain⟨its,rv,pl,hz⟩:=I.list hq
    obtain⟨as,q⟩:=Ol.reads I hr rv
    obtain⟨o,ho,hc,n,hd⟩:=pl.isList
    exact⟨_,.list ho hc hd (by simpa using q)⟩
theorem Ol.reads (I:Inv X pins σ H s):∀ {xs:List V}{ds:List PyData}{us:List Value},Ol X.K H xs ds->Vals xs us->∃as,ReadsAll s.heap us ds as
  | _,_,_,.nil,r=>by cases r;exact⟨_,.nil⟩
  | _,_,_,.cons h t,r=>by
    cases r with
    | cons r1 r2=>
      obtain⟨as,q⟩:=RdD.reads I h r1
      obtain⟨bs,p⟩:=Ol.reads I t r2
      exact⟨_,.cons q p⟩
end
end
theorem Ol.ints {K:PySem.W.Frag}{H:Hp}:∀ns:List Int,Ol K H (ns.map V.int) (ns.map PyData.int)
  | []=> .nil
  | n::r=> .cons (.int n) (Ol.ints r)
theorem RdD.ints {K:PySem.W.Frag}{H:Hp}{a:Addr}{ns:List Int} (h:SqT K H a (ns.map V.int)):RdD K H (.ref a) (.tuple (ns.map PyData.int)):= .tup h (.ints ns)
theorem Pg:∀ns ms:List Int,PyData.eqvAll (ns.map PyData.int) (ms.map PyData.int)=decide (ns=ms)
  | [],[]=>by simp [PyData.eqvAll]
  | [],_::_=>by simp [PyData.eqvAll]
  | _::_,[]=>by simp [PyData.eqvAll]
  | a::r,b::t=>by
    simp only [List.map_cons,PyData.eqvAll,PyData.eqv,Pg r t]
    by_cases h:a=b<;>by_cases h':r=t<;>simp [h,h']
theorem shaped_ints (ns:List Int):SeqAt.shaped (.tuple (ns.map PyData.int))=true:=by
  simp [SeqAt.shaped,PyData.canLay0,PyData.depth,PySem.W.ke_canLayAll0,PySem.W.ke_depthAll]
section
variable {X:Cx}
def Xv (K:PySem.W.Frag) (f:Bool->Bool):R2:=fun x y H Q=>∃d e,RdD K H x d/\RdD K H y e/\SeqAt.shaped d=true/\SeqAt.shaped e=true/\Q (.bl (f (PyData.eqv d e))) H
theorem X8 (hu:X.A.units+64<cLine):OpR X (compareOp .Eq) (Xv X.K fun b=>b):=by
  intro pins s σ H x y v u Q I rx ry h
  obtain⟨d,e,hd,he,s1,s2,q⟩:=h
  obtain⟨as,r1⟩:=RdD.reads I hd rx
  obtain⟨bs,r2⟩:=RdD.reads I he ry
  exact eq_dataH r1 r2 s1 s2 hu ⟨.bl _,H,I,rfl,q⟩
theorem J6 (hu:X.A.units+64<cLine):OpR X (compareOp .NotEq) (Xv X.K fun b=> !b):=by
  intro pins s σ H x y v u Q I rx ry h
  obtain⟨d,e,hd,he,s1,s2,q⟩:=h
  obtain⟨as,r1⟩:=RdD.reads I hd rx
  obtain⟨bs,r2⟩:=RdD.reads I he ry
  exact ne_dataH r1 r2 s1 s2 hu ⟨.bl _,H,I,rfl,q⟩
def Z4 (K:PySem.W.Frag) (f:Bool->Bool):R2:=fun x y H Q=>∃(a b:Addr) (ns ms:List Int),x= .ref a/\y= .ref b/\SqT K H a (ns.map V.int)/\SqT K H b (ms.map V.int)/\Q (.bl (f (decide (ns=ms)))) H
theorem Yg (hu:X.A.units+64<cLine):OpR X (compareOp .NotEq) (Z4 X.K fun b=> !b):=by
  intro pins s σ H x y v u Q I rx ry h
  obtain⟨a,b,ns,ms,rfl,rfl,ha,hb,q⟩:=h
  exact J6 hu pins s σ H _ _ v u Q I rx ry ⟨_,_,.ints ha,.ints hb,shaped_ints _,shaped_ints _,by rw [PyData.eqv,Pg];exact q⟩
theorem K7:Fj X (.builtin "isinstance") (fun xs H Q=>∃x t T b,xs=[x,.ty T]/\Nq X.K H x t/\PySem.W.kitOne X.K t (.type T)=some b/\Q (.bl b) H):=by
  intro pins s σ H xs us Q I r h
  obtain⟨x,t,T,b,rfl,ht,hk,q⟩:=h
  obtain⟨u,c,rfl,ru,rc⟩:=vals2 r
  cases rc
  exact Tq I ru ht hk fun tk=>⟨.bl b,H,I.tok tk,rfl,q⟩
end
theorem Same.tup {K:PySem.W.Frag}{H H':Hp}{a:Addr}{xs:List V} (e:Same H H') (h:SqT K H a xs):SqT K H' a xs:=by
  rcases h with(h | ⟨o,h⟩) | h
  . exact .inl (.inl (e _ _ h))
  . exact .inl (.inr ⟨o,e _ _ h⟩)
  . exact .inr h
theorem Same.upd {H:Hp}{p:Addr} (h:H p=none) (o:HO):Same H (upd H p o):=fun b u q=>by
  rw [Ba (Bb q h)]
  exact q
end L2
namespace L2
open PySem PySem.Spec PyProof.Rows
section
variable {X:Cx}{K:PySem.W.Frag}{σ:St}{H:Hp}{Q:VK}{D:Ends}{B:Bool->Hp->Prop}
theorem Lg {t u:TS}:Y5 t u D σ H=t { D with nx:=u D} σ H:=rfl
theorem Hi:W8 D σ H=D.nx σ H:=rfl
theorem Mj {c:TT}{t u:TS}:Zh c t u D σ H=c σ H (fun b H1=>if b=true then t D σ H1 else u D σ H1):=rfl
theorem Mv {te:TE}:Y9 te D σ H=te σ H D.rt:=rfl
theorem Hs {te:TE}:Ws te D σ H=te σ H (fun _ H1=>D.nx σ H1):=rfl
theorem Ng {te:TE}{g:TG}:X6 te g D σ H=te σ H (fun x H1=>g x σ H1 D.nx):=rfl
theorem Ds {i:Nat}{v:V}{R:St->Hp->Prop}:Oi i v σ H R=R (σ.set i (some v)) H:=rfl
theorem Lr {i j:Nat}{ta:TA}:Zd i j ta D σ H=ta σ H (fun vs H1=>∃v w,vs=[v,w]/\D.nx ((σ.set i (some v)).set j (some w)) H1):=rfl
theorem G4 {v:V}{r:St}:Xk 0 (some v::r) H Q=Q v H:=propext ⟨fun⟨_,e,h⟩=>by cases e;exact h,fun h=>⟨v,rfl,h⟩⟩
theorem Il {i:Nat}{o:Option V}{r:St}:Xk (i+1) (o::r) H Q=Xk i r H Q:=rfl
theorem z_c {v:V}:tC v σ H Q=Q v H:=rfl
theorem T3 {r:R2}{ta tb:TE}:tOp r ta tb σ H Q=ta σ H (fun x H1=>tb σ H1 fun y H2=>r x y H2 Q):=rfl
theorem Vm {r:V->Hp->VK->Prop}{ta:TE}:tUn r ta σ H Q=ta σ H (fun x H1=>r x H1 Q):=rfl
theorem Vu {C:Int->Int->Prop}{g:Int->Int->V}{i j:Int}:rI C g (.int i) (.int j) H Q=(C i j/\Q (g i j) H):=
  propext ⟨fun⟨_,_,e,f,h⟩=>by cases e;cases f;exact h,fun h=>⟨i,j,rfl,rfl,h⟩⟩
theorem Ly {g:Int->Int->V}{i j:Int}:rI0 g (.int i) (.int j) H Q=Q (g i j) H:=
  propext ⟨fun⟨_,_,e,f,h⟩=>by cases e;cases f;exact h,fun h=>⟨i,j,rfl,rfl,h⟩⟩
theorem Vy {g:Int->V}{i:Int}:rU g (.int i) H Q=Q (g i) H:=propext ⟨fun⟨_,e,h⟩=>by cases e;exact h,fun h=>⟨i,rfl,h⟩⟩
theorem Lp {i j:Int}:rEq (.int i) (.int j) H Q=Q (.bl (decide (i=j))) H:=by
  unfold rEq
  simp only [Xj,V.int.injEq,true_and]
theorem Lz {i j:Int}:rNe (.int i) (.int j) H Q=Q (.bl (!decide (i=j))) H:=by
  unfold rNe
  simp only [Xj,V.int.injEq,true_and]
theorem Np {i j:Bool}:rEq (.bl i) (.bl j) H Q=Q (.bl (decide (i=j))) H:=by
  unfold rEq
  simp only [Xj,V.bl.injEq,true_and]
theorem Nm {i j:Bool}:rNe (.bl i) (.bl j) H Q=Q (.bl (!decide (i=j))) H:=by
  unfold rNe
  simp only [Xj,V.bl.injEq,true_and]
theorem Fw {t:TE}:Wo t σ H B=t σ H (fun x H'=>∃k,x= .bl k/\B k H'):=rfl
theorem Vn {t:TE}:tB t σ H B=t σ H (fun x H'=>∃k,x= .bl k/\B k H'):=rfl
theorem Mz {b:Bool}{p:Bool->Prop}:(∃k,V.bl b= .bl k/\p k)=p b:=propext ⟨fun⟨_,e,h⟩=>by cases e;exact h,fun h=>⟨b,rfl,h⟩⟩
theorem Nb {b:Int}{p:Int->Prop}:(∃k,V.int b= .int k/\p k)=p b:=propext ⟨fun⟨_,e,h⟩=>by cases e;exact h,fun h=>⟨b,rfl,h⟩⟩
theorem Ml {a b:V}{p:V->V->Prop}:(∃v w,[a,b]=[v,w]/\p v w)=p a b:=propext ⟨fun⟨_,_,e,h⟩=>by cases e;exact h,fun h=>⟨a,b,rfl,h⟩⟩
theorem G7 {b:Int}{p:Int->Prop}:(∃k,[V.int b]=[.int k]/\p k)=p b:=propext ⟨fun⟨_,e,h⟩=>by cases e;exact h,fun h=>⟨b,rfl,h⟩⟩
theorem Ib {a b:Int}{p:Int->Int->Prop}:(∃i j,[V.int a,V.int b]=[.int i,.int j]/\p i j)=p a b:=propext ⟨fun⟨_,_,e,h⟩=>by cases e;exact h,fun h=>⟨a,b,rfl,h⟩⟩
theorem M8 {t:TT}:Zi t σ H B=t σ H (fun c H1=>B (!c) H1):=rfl
theorem Ms {t u:TT}:Zm t u σ H B=t σ H (fun c H1=>if c=true then u σ H1 B else B false H1):=rfl
theorem V5 {t u:TT}:tOr t u σ H B=t σ H (fun c H1=>if c=true then B true H1 else u σ H1 B):=rfl
theorem Ht {ta tb:TE}:W3 ta tb σ H Q=ta σ H (fun x H1=>∃c,x= .bl c/\if c=true then tb σ H1 Q else Q (.bl false) H1):=rfl
theorem Lx {ta tb:TE}:Aan ta tb σ H Q=ta σ H (fun x H1=>∃c,x= .bl c/\if c=true then Q (.bl true) H1 else tb σ H1 Q):=rfl
theorem Hj {ta:TE}:Wm ta σ H Q=ta σ H (fun x H1=>∃c,x= .bl c/\Q (.bl (!c)) H1):=rfl
theorem Vh {t:TT}{ta tb:TE}:tIf t ta tb σ H Q=t σ H (fun c H1=>if c=true then ta σ H1 Q else tb σ H1 Q):=rfl
theorem Hv {sp:Sp}{dvs:List V}{E:XK}{t:TA}:Od sp dvs E t σ H Q=t σ H (fun vs H1=>sp (vs++dvs) H1 Q E):=rfl
theorem Mh {R:List V->Hp->Prop}:Zt σ H R=R [] H:=rfl
theorem Ir {te:TE}{t:TA}{R:List V->Hp->Prop}:Um te t σ H R=te σ H (fun x H1=>t σ H1 fun xs H2=>R (x::xs) H2):=rfl
theorem V3 {r:List V->Hp->VK->Prop}{t:TA}:tCB r t σ H Q=t σ H (fun vs H1=>r vs H1 Q):=rfl
theorem Mr {t:TA}:Zq t σ H Q=t σ H (fun xs H1=>xs.length<=sizeLine/\∀p,H1 p=none->Q (.ref p) (upd H1 p (.tup xs))):=rfl
theorem Ls {t:TA}:Zv t σ H Q=t σ H (fun xs H1=>xs.length<=sizeLine/\∀p,H1 p=none->Q (.ref p) (upd H1 p (.lst xs))):=rfl
theorem Ed {r r':R2}{ta tb tc:TE}:Yp r r' ta tb tc σ H Q=ta σ H (fun x H1=>tb σ H1 fun y H2=>r x y H2 fun z H3=>∃k,z= .bl k/\(if k=true then tc σ H3 fun w' H4=>r' y w' H4 Q else Q (.bl false) H3)):=rfl
theorem Dj {a:Addr}{xs:List V}{i:Int}{v:V} (h:SqT K H a xs) (e:atI xs i=some v) (q:Q v H):Zr K (.ref a) (.int i) H Q:=⟨a,xs,i,v,rfl,rfl,h,e,q⟩
theorem Ua {a:Addr}{xs:List V}{i:Int}{v:V} (h:SqL K H a xs) (e:atI xs i=some v) (q:Q v H):Aaa K (.ref a) (.int i) H Q:=⟨a,xs,i,v,rfl,rfl,h,e,q⟩
end
def Yr (_ j:Int):Prop:=0<j/\j.natAbs.log2<9000
theorem Bh {X:Cx}:OpR X (binaryOp .FloorDiv) (rI Yr fun i j=> .int (i/j)):=opI fun i j _ _ _ _ _ hc q=>by
  have h:j≠0:=by have:=hc.1;omega
  refine floordiv_int h ?_ (.inl (PyProof.noPylong_of_log2 hc.2))
  rw [Int.fdiv_eq_ediv_of_nonneg _ (Int.le_of_lt hc.1)]
  exact q
theorem Hz:(1:Nat)<=sizeLine:=by decide
theorem Hw:(2:Nat)<=sizeLine:=by decide
end L2
namespace L2
open PySem PySem.Spec PyProof.Rows
def clF (env:Env) (cs:List (Str × Addr)) (x:Str × NameKind):List (Str × Addr):=if x.2== .free then(x.1,(env.cells.lookup x.1).getD 0)::cs else cs
theorem Qs {scope:Scope}{env:Env} (h:∀x∈scope.names,x.2= .free->∃c,env.cells.lookup x.1=some c):closureFor scope env=pure (scope.names.foldl (clF env) []):=by
  unfold closureFor
  have key:∀(names:List (Str × NameKind)) (init:List (Str × Addr)),(∀x∈names,x.2= .free->∃c,env.cells.lookup x.1=some c)->
      (forIn names init (fun(x:Str × NameKind) (cs:List (Str × Addr))=>(if x.2== .free then(do let c<-cellOf env x.1;pure (ForInStep.yield ((x.1,c)::cs)))else pure (ForInStep.yield cs):Sem (ForInStep (List (Str × Addr))))))=(pure (names.foldl (clF env) init):Sem (List (Str × Addr))):=by
    intro names
    induction names with
    | nil=>intro init _;rfl
    | cons x r ih=>
      intro init hx
      rw [List.forIn_cons,List.foldl_cons]
      by_cases hf:x.2= .free
      . obtain⟨c,hc⟩:=hx x List.mem_cons_self hf
        have e1:cellOf env x.1=pure c:=by unfold cellOf;rw [hc]
        have e2:clF env init x=(x.1,c)::init:=by unfold clF;rw [hf,hc];rfl
        rw [e2,<-ih _ fun y hy=>hx y (List.mem_cons_of_mem _ hy)]
        rw [hf,e1]
        rfl
      . have e0:(x.2==NameKind.free)=false:=by simpa using hf
        have e2:clF env init x=init:=by unfold clF;rw [e0];rfl
        rw [e2,<-ih _ fun y hy=>hx y (List.mem_cons_of_mem _ hy),e0]
        rfl
  exact(congrArg (fun m=>m>>=fun r=>pure r) (key scope.names [] h)).trans (by rfl)
theorem Pb {env:Env}:∀(names:List (Str × NameKind)) (init:List (Str × Addr)) (y:Str) (c:Addr),(∀x∈names,x.2= .free->∃c,env.cells.lookup x.1=some c)->(names.foldl (clF env) init).lookup y=some c->init.lookup y=some c\/env.cells.lookup y=some c
  | [],_,_,_,_,h=> .inl h
  | x::r,init,y,c,hx,h=>by
    rw [List.foldl_cons]at h
    rcases Pb r _ y c (fun z hz=>hx z (List.mem_cons_of_mem _ hz)) h with h1 | h1
    . unfold clF at h1
      by_cases hf:x.2= .free
      . obtain⟨d,hd⟩:=hx x List.mem_cons_self hf
        rw [hf,hd]at h1
        change List.lookup y ((x.1,d)::init)=some c at h1
        rw [List.lookup_cons]at h1
        cases hy:y==x.1 with
        | true=>
          rw [hy]at h1
          have:y=x.1:=by simpa using hy
          subst this
          exact .inr (hd.trans h1)
        | false=>
          rw [hy]at h1
          exact .inl h1
      . have e0:(x.2==NameKind.free)=false:=by simpa using hf
        rw [e0]at h1
        exact .inl h1
    . exact .inr h1
theorem Og {env:Env}:∀(names:List (Str × NameKind)) (init:List (Str × Addr)) (y:Str),((∃x∈names,x.2= .free/\x.1=y)\/∃c,init.lookup y=some c)->∃c,(names.foldl (clF env) init).lookup y=some c
  | [],_,_,h=>by
    rcases h with⟨_,h,_⟩ | h
    . cases h
    . exact h
  | x::r,init,y,h=>by
    rw [List.foldl_cons]
    apply Og r
    rcases h with⟨z,hz,hf,rfl⟩ | ⟨c,hc⟩
    . rcases List.mem_cons.mp hz with rfl | hz
      . refine .inr ⟨(env.cells.lookup z.1).getD 0,?_⟩
        unfold clF
        rw [hf]
        show List.lookup z.1 ((z.1,_)::init)=_
        rw [List.lookup_cons]
        simp
      . exact .inl ⟨z,hz,hf,rfl⟩
    . refine .inr ?_
      unfold clF
      by_cases hf:x.2= .free
      . rw [hf]
        show ∃c,List.lookup y ((x.1,_)::init)=some c
        rw [List.lookup_cons]
        cases y==x.1 with
        | true=>exact⟨_,rfl⟩
        | false=>exact⟨c,hc⟩
      . have e0:(x.2==NameKind.free)=false:=by simpa using hf
        rw [e0]
        exact⟨c,hc⟩
theorem Mw {prog:Program}{w:World}{A:Around}{R:Result->Shared->Prop}{s:Shared}{elt target iter:Expr}{ifs:List Expr}{scope:Scope}{pos:Pos}{it acc:Value}{env:Env} (I:Nat->Shared->Prop)
    (turn:∀n s,I n s->wpAny (model prog w) A (pyNext it) (fun r s₁=>match r with
      | none=>R (.ok .next) s₁
      | some v=>wpAny (model prog w) A (letOwnedTupleGo target it v) (fun _ s₀=>wpAny (model prog w) A (assign target env v) (fun _ s₂=>
          wpAny (model prog w) A (forIn ifs true fun c r=>if r=true then do let ok<-isTrue c env (eval c env);pure (ForInStep.yield ok)else pure (ForInStep.yield r)) (fun ok s₃=>
            if ok=true then wpAny (model prog w) A (eval elt env) (fun x s₄=>
              wpAny (model prog w) A (call (.builtin "list.append") [acc,x]) (fun _ s₅=>∃m,m<n/\I m s₅) (fun _ _=>False) s₄) (fun _ _=>False) s₃
            else ∃m,m<n/\I m s₃) (fun _ _=>False) s₂) (fun _ _=>False) s₀) (fun _ _=>False) s₁) (fun _ _=>False) s)
    (n:Nat) (h:I n s):
    codeAny (model prog w) A (.compLoop (.ListComp elt [⟨target,iter,ifs,0⟩] scope pos) 0 it acc env) R s:=by
  have no:∀(x:Value) (s':Shared),False->notedBy (model prog w) A env (fun e s'=>R (.error e) s') x s':=fun _ _ z=>z.elim
  refine codeAny_loop rfl I (fun n s hI=> ?_) n h
  show wpAny _ A ((compTurn (.ListComp elt [⟨target,iter,ifs,0⟩] scope pos) 0 it acc env).onRaise (fun x=>do noteFrame x env;theTreesLotGoes x)) _ _ s
  refine wpAny_noted ?_
  rw [compTurn_list]
  refine wpAny_bind (wpAny_standAt (wpAny_bind (wpAny_mono (turn n s hI) (fun r s₁ h₁=> ?_) no)))
  cases r with
  | none=>exact wpAny_pure h₁
  | some v=>
    refine wpAny_bind (wpAny_mono h₁ (fun _ s₀ h₀=> ?_) no)
    refine wpAny_bind (wpAny_mono h₀ (fun _ s₂ h₂=>wpAny_bind (wpAny_mono h₂ (fun ok s₃ h₃=> ?_) no)) no)
    cases ok with
    | false=>exact wpAny_pure ⟨rfl,h₃⟩
    | true=>
      exact wpAny_bind (wpAny_bind (wpAny_mono h₃ (fun x s₄ h₄=>wpAny_bind (wpAny_mono h₄ (fun _ s₅ h₅=>wpAny_pure (wpAny_pure ⟨rfl,h₅⟩)) no)) no))
def cxC (X:Cx) (N:List Str) (scope:Scope) (ex:List Addr) (s:Shared) (H:Hp):Cx where
  prog:=X.prog
  w:=X.w
  K:=X.K
  mg:=X.mg
  base:=X.base
  A:=X.A
  N:=N
  s₀:=s
  H₀:=H
  env:=compEnvC scope (scope.names.foldl (clF X.env) []) s.heap.objs.size X.env
  outer:=X.stack
  stack:=X.stack
  ex:=ex
  fn:=fun _=>false
  calm:=X.calm
  pn:=[]
  xe:=fun _ _=>False
structure Bg (X:Cx) (ts:List Str) (fs:List (Nat × Str)) (scope:Scope):Prop where
  kind:scope.kind= .function
  cell:∀y∈scope.names,y.2≠ .cell
  names:∀y∈scope.names,y.2= .local ->scope.names.lookup y.1=some .local
  free:∀y∈scope.names,y.2= .free->X.env.kindOf y.1=some .cell\/X.env.kindOf y.1=some .free
  at':∀p∈fs,X.N[p.1]? =some p.2/\(p.2,NameKind.free)∈scope.names/\((relabel scope X.env).names.lookup p.2=some .cell\/(relabel scope X.env).names.lookup p.2=some .free)
def rlb (sc scope:Scope):List (Str × NameKind):=scope.names.map fun(n,k)=>if(k==NameKind.free&&sc.kind== .function&&sc.names.lookup n==some .cell)then(n,NameKind.cell)else(n,k)
def Aak (sc:Scope) (N:List Str) (fs:List (Nat × Str)) (scope:Scope):Bool:=
  (scope.kind== .function)&&(scope.names.all fun y=>y.2 != .cell)&&(scope.names.all fun y=>y.2 != .local ||scope.names.lookup y.1==some .local)&&
  (scope.names.all fun y=>y.2 != .free||(sc.names.lookup y.1==some .cell||sc.names.lookup y.1==some .free))&&
  fs.all fun p=>N[p.1]? ==some p.2&&(scope.names.contains (p.2,NameKind.free)&&((rlb sc scope).lookup p.2==some .cell||(rlb sc scope).lookup p.2==some .free))
theorem Bg.of {X:Cx}{ts:List Str}{fs:List (Nat × Str)}{scope sc:Scope}{N:List Str} (e1:X.env.scope=sc) (e2:X.N=N) (h:Aak sc N fs scope=true):Bg X ts fs scope:=by
  unfold Aak at h
  simp only [Bool.and_eq_true,List.all_eq_true,Bool.or_eq_true,bne_iff_ne,beq_iff_eq,List.contains_iff_mem]at h
  obtain⟨⟨⟨⟨h1,h2⟩,h3⟩,h4⟩,h5⟩:=h
  refine⟨h1,h2,fun y hy e=> ?_,fun y hy e=> ?_,fun p hp=> ?_⟩
  . rcases h3 y hy with z | z
    . exact absurd e z
    . exact z
  . rcases h4 y hy with z | z
    . exact absurd e z
    . show X.env.scope.names.lookup y.1=_\/X.env.scope.names.lookup y.1=_
      rw [e1]
      exact z
  . obtain⟨a,b,c⟩:=h5 p hp
    refine⟨by rw [e2];exact a,b,?_⟩
    subst e1
    exact c
def cpN (ts:List Str) (fs:List (Nat × Str)):List Str:=ts++fs.map (·.2)
def cpσ (n:Nat) (fs:List (Nat × Str)) (σ:St):St:=List.replicate n none++fs.map fun p=>(σ[p.1]?).join
theorem Ea {env:Env}{x:Str}{k':NameKind}:∀ {names:List (Str × NameKind)},(names.map fun(n,k)=>if(k==NameKind.free&&env.scope.kind== .function&&env.kindOf n==some .cell)then(n,NameKind.cell)else(n,k)).lookup x=some k'->
    ∃k,(x,k)∈names/\(k'=k\/(k= .free/\k'= .cell))
  | [],h=>by simp at h
  | (n,k)::r,h=>by
    rw [List.map_cons]at h
    dsimp only at h
    by_cases hc:(k==NameKind.free&&env.scope.kind== .function&&env.kindOf n==some .cell)=true
    . rw [if_pos hc,List.lookup_cons]at h
      cases hx:x==n with
      | true=>
        rw [hx]at h
        have e:x=n:=by simpa using hx
        subst e
        have hk:k= .free:=by
          rw [Bool.and_eq_true,Bool.and_eq_true]at hc
          simpa using hc.1.1
        exact⟨k,List.mem_cons_self,.inr ⟨hk,(Option.some.inj h).symm⟩⟩
      | false=>
        rw [hx]at h
        obtain⟨k2,h1,h2⟩:=Ea h
        exact⟨k2,List.mem_cons_of_mem _ h1,h2⟩
    . rw [if_neg hc,List.lookup_cons]at h
      cases hx:x==n with
      | true=>
        rw [hx]at h
        have e:x=n:=by simpa using hx
        subst e
        exact⟨k,List.mem_cons_self,.inl (Option.some.inj h).symm⟩
      | false=>
        rw [hx]at h
        obtain⟨k2,h1,h2⟩:=Ea h
        exact⟨k2,List.mem_cons_of_mem _ h1,h2⟩
def PTs (X:Cx) (ifs:List Expr) (t:TT):Prop:=
  ∀(pins:List (Addr × Obj)) (s:Shared) (σ:St) (H:Hp) (B:Bool->Hp->Prop),Inv X pins σ H s->t σ H B->
    wpAny (model X.prog X.w) X.A (forIn ifs true fun c r=>if r=true then do let ok<-isTrue c X.env (eval c X.env);pure (ForInStep.yield ok)else pure (ForInStep.yield r)) (TP X pins σ B) X.xe s
def Oh:TT:=fun _ H B=>B true H
theorem Jl {X:Cx}:PTs X [] Oh:=fun _ _ _ H _ I h=>wpAny_pure ⟨H,I,h⟩
theorem G3 {X:Cx}{c:Expr}{t:TT} (h:PT X c t):PTs X [c] t:=by
  intro pins s σ H B I hw
  rw [List.forIn_cons]
  simp only [if_true]
  refine wpAny_bind (wpAny_bind (thn (h pins s σ H B I hw) fun b s1 q=>wpAny_pure ?_))
  exact wpAny_pure q
def Kp (σ σ':St):Prop:=σ'.length=σ.length/\∀(i:Nat) v,σ[i]? =some (some v)->σ'[i]? =some (some v)
def cIn (J:It) (cσ:St) (g:TG) (tt:TT) (te:TE) (Q:VK) (H1:Hp) (p:Addr):Prop:=∃W:Nat->Nat->List V->Hp->Prop,(∃m,W 0 m [] (upd H1 p (.lst [])))/\∀i m acc H2,W i m acc H2->
  (J.stop i H2/\Q (.ref p) H2)\/(J.go i H2/\∀x H3,J.yld i H2 x H3->g x cσ H3 fun σ4 H4=>Kp cσ σ4/\tt σ4 H4 fun b H5=>
    if b=true then te σ4 H5 fun y H6=>H6 p=some (.lst acc)/\acc.length<sizeLine/\∃m',m'<m/\W (i+1) m' (acc++ [y]) (upd H6 p (.lst (acc++ [y])))else ∃m',m'<m/\W (i+1) m' acc H5)
def U5 (n:Nat) (fs:List (Nat × Str)) (wi:TI) (g:TG) (tt:TT) (te:TE):TE:=fun σ H Q=>wi σ H fun J H1=>∀p,H1 p=none->cIn J (cpσ n fs σ) g tt te Q H1 p
section
variable {X:Cx}{elt tg iter:Expr}{ifs:List Expr}{scope:Scope}{pos:Pos}{wi:TI}{g:TG}{tt:TT}{te:TE}{ts:List Str}{fs:List (Nat × Str)}
theorem Bg.clos (S:Bg X ts fs scope) (ok:X.Ok):∀x∈scope.names,x.2= .free->∃c,X.env.cells.lookup x.1=some c:=fun x hx hf=>ok.has x.1 (S.free x hx hf)
theorem Bg.sub (S:Bg X ts fs scope) (ok:X.Ok) {y:Str}{c:Addr} (h:(scope.names.foldl (clF X.env) []).lookup y=some c):X.env.cells.lookup y=some c:=by
  rcases Pb scope.names [] y c (S.clos ok) h with z | z
  . simp at z
  . exact z
theorem Qh {pins:List (Addr × Obj)}{σ:St}{H:Hp}{s3 s4:Shared}{ex:List Addr} (S:Bg X ts fs scope) (I:Inv X pins σ H s3)
    (hex:∀b∈ex,Pu X pins H b/\∃o,s3.heap.get? b=some o) (hos:s4.os=s3.os) (hg:s4.gens=s3.gens) (hk:∀b u,s3.heap.get? b=some u->s4.heap.get? b=some u)
    (hn:s4.heap.Ns s3.heap.objs.size fun _=>none):Inv (cxC X (cpN ts fs) scope ex s3 H) [] (cpσ ts.length fs σ) H s4:=by
  have ok:=I.ok
  have noC:∀b∈ex,b≠s3.heap.objs.size:=fun b hb=>by
    obtain⟨_,o,ho⟩:=hex b hb
    exact Nat.ne_of_lt (Heap.lt_size ho)
  refine⟨⟨ok.mod,S.kind,ok.glob,ok.blt,Nat.le_refl _,fun y z c h1 h2=>ok.inj y z c (S.sub ok h1) (S.sub ok h2),fun y hy=> ?_,fun y c h _=>absurd h (by intro z;cases z),ok.hd,ok.frames,.inl rfl,fun b hb=>⟨noC b hb,fun x c e=>(hex b hb).1.2.2.2.2.1 x c (S.sub ok e)⟩,
    I.bs,Nat.le_trans ok.bsz I.sz,fun b o e hb=> ?_,fun b hb=> ?_,I.stack,I.stkFree⟩,hos,by rw [hg];exact I.bare,Un.kept hk,⟨_,hn,fun i x v h1 h2 h3=> ?_⟩,fun y c e=> ?_,I.hok.fresh (Nat.le_refl _),fun y c e=>I.freeC y c (S.sub ok e),
    fun p hp=>absurd (show p∈([]:List (Addr × Obj))from hp) (by simp),I.hok.kept hk,?_⟩
  . have z:∃k',(k'=NameKind.cell\/k'= .free)/\(scope.names.map fun(n,k)=>if(k==NameKind.free&&X.env.scope.kind== .function&&X.env.kindOf n==some .cell)then(n,NameKind.cell)else(n,k)).lookup y=some k':=by
      rcases hy with hy | hy
      . exact⟨_,.inl rfl,hy⟩
      . exact⟨_,.inr rfl,hy⟩
    obtain⟨k',hk',hl⟩:=z
    obtain⟨k,hm,h2⟩:=Ea hl
    have hf:k= .free:=by
      rcases h2 with e | ⟨e,_⟩
      . subst e
        rcases hk' with e | e
        . exact absurd e (S.cell _ hm)
        . exact e
      . exact e
    exact Og scope.names [] y (.inl ⟨_,hm,hf,rfl⟩)
  . rcases(hex b hb).1.2.2.2.1 with z | z
    . exact ok.noex b o e z
    . exact absurd (Nat.lt_of_lt_of_le (Heap.lt_size e) (Nat.le_trans ok.bsz z)) (Nat.lt_irrefl _)
  . intro hb2
    rcases List.mem_cons.mp (I.stkSub b hb2)with e | e
    . exact(hex b hb).1.2.1 e
    . exact(hex b hb).1.2.2.1 e
  . unfold cpσ at h2
    by_cases hi:i<ts.length
    . rw [List.getElem?_append_left (by simpa using hi),List.getElem?_replicate]at h2
      split at h2<;>cases h2
    . rw [List.getElem?_append_right (by simpa using hi),List.length_replicate]at h2
      have h1':(cpN ts fs)[i]? =some x:=h1
      unfold cpN at h1'
      rw [List.getElem?_append_right (by omega)]at h1'
      rw [List.getElem?_map]at h1' h2
      cases e:fs[i-ts.length]? with
      | none=>rw [e]at h1';cases h1'
      | some p=>
        rw [e]at h1' h2
        have ex':p.2=x:=Option.some.inj h1'
        have e2:(σ[p.1]?).join=some v:=Option.some.inj h2
        have e3:σ[p.1]? =some (some v):=by
          cases q:σ[p.1]? with
          | none=>rw [q]at e2;cases e2
          | some o=>rw [q]at e2;cases o with | none=>cases e2 | some v'=>cases e2;rfl
        obtain⟨a1,a2,a3⟩:=S.at' p (List.mem_of_getElem? e)
        obtain⟨m,_,hl⟩:=I.loc
        have kd:=S.free _ a2 rfl
        have vis:Vis X.env.scope p.2:=by
          rcases kd with z | z
          . exact .inr (.inl z)
          . exact .inr (.inr z)
        obtain⟨u,r,l⟩:=hl p.1 p.2 v a1 e3 vis
        refine⟨u,r,?_⟩
        rcases l with⟨z,_⟩ | ⟨_,c,hc,hcell⟩
        . rcases kd with q | q
          . rw [q]at z;cases z
          . rw [q]at z;cases z
        . obtain⟨c',hc'⟩:=Og (env:=X.env) scope.names [] p.2 (.inl ⟨_,a2,rfl,rfl⟩)
          have ec:c'=c:=Option.some.inj ((S.sub ok hc').symm.trans hc)
          subst ec
          subst ex'
          refine .inr ⟨?_,c',hc',?_⟩
          . exact a3
          . obtain⟨o,ho,hd⟩:=hcell
            exact⟨o,hk _ _ ho,hd⟩
  . obtain⟨v,o,ho,hd⟩:=I.cell y c (S.sub ok e)
    exact⟨v,o,hk _ _ ho,hd⟩
  . unfold cpσ
    show _=(cpN ts fs).length
    unfold cpN
    simp
theorem Va {pins:List (Addr × Obj)}{σ σ':St}{H H':Hp}{s3 s5:Shared}{h':Heap}{ex:List Addr} (S:Bg X ts fs scope) (I:Inv X pins σ H s3) (hex:∀b∈ex,Pu X pins H b)
    (J:Inv (cxC X (cpN ts fs) scope ex s3 H) [] σ' H' s5) (sb:Heap.SameBut s3.heap.objs.size s5.heap h'):Inv X pins σ H' { s5 with heap:=h'}:=by
  have nC:H' s3.heap.objs.size=none:=J.free
  have old:∀b o,b≠s3.heap.objs.size->s5.heap.get? b=some o->h'.get? b=some o:=fun b o hb e=>sb.extBut b o hb e
  have lt:∀b o,s3.heap.get? b=some o->b≠s3.heap.objs.size:=fun b o e=>Nat.ne_of_lt (Heap.lt_size e)
  have u:Un (frs X.stack) ex H H' s3.heap s5.heap:=J.base
  have u2:Un (frs X.stack) ex H H' s3.heap h':=
    ⟨fun b o e n hb hx=>old b o (lt b o e) (u.keep b o e n hb hx),fun b o e n hb hx=>by
      obtain⟨sl,q⟩:=u.slot b o e n hb hx
      exact⟨sl,old b _ (lt b o e) q⟩,u.free,fun b o e hx=>by
      obtain⟨o',q⟩:=u.there b o e hx
      exact⟨o',old b o' (lt b o e) q⟩,u.tups,u.frzs,u.tbls⟩
  have hok:HOk X.prog X.w H' h':=fun b o e=>by
    have nb:b≠s3.heap.objs.size:=fun z=>by rw [z,nC]at e;cases e
    refine(J.hok b o e).stay (fun c v hc q=>old c v ?_ q) (fun _ q=>q) fun _ _ q=>q
    rcases hc with z | z
    . rw [z];exact nb
    . intro z2;rw [z2,nC]at z;cases z
  exact I.call' (s':={ s5 with heap:=h'}) (ch:=ex) J.os u2 hok J.bare fun b hb=>⟨(hex b hb).2.2.2.1,(hex b hb).2.1,(hex b hb).2.2.2.2.1,(hex b hb).2.2.2.2.2⟩
theorem Inv.fade {pins:List (Addr × Obj)}{σ σ':St}{H:Hp}{s:Shared} (I:Inv X pins σ' H s) (k:Kp σ σ'):Inv X pins σ H s:=by
  refine⟨I.ok,I.os,I.bare,I.base,?_,I.cell,I.free,I.freeC,I.pin,I.hok,k.1.symm.trans I.len⟩
  obtain⟨m,hn,hl⟩:=I.loc
  exact⟨m,hn,fun i x v h1 h2 h3=>hl i x v h1 (k.2 i v h2) h3⟩
theorem Ui {pins:List (Addr × Obj)}{σ:St}{H3:Hp}{s3 s4:Shared}{Q:VK}{R:Result->Shared->Prop}{fp:List Addr}{it p:Addr}{tn:Nat->Heap->Prop}{J:It}{W:Nat->Nat->List V->Hp->Prop}{m0:Nat} (hc:X.calm=true) (S:Bg X ts fs scope)
    (hg:∀ex s H,PG (cxC X (cpN ts fs) scope ex s H) tg g) (ht:∀ex s H,PTs (cxC X (cpN ts fs) scope ex s H) ifs tt) (he:∀ex s H,PE (cxC X (cpN ts fs) scope ex s H) elt te)
    (I3:Inv X pins σ H3 s3) (T:Turn X.prog X.w X.K tg J fp it tn) (hex:∀b∈fp,Pu X pins H3 b) (lt:∀b∈fp,b<s3.heap.objs.size)
    (I4:Inv (cxC X (cpN ts fs) scope fp s3 H3) [] (cpσ ts.length fs σ) H3 s4) (st4:tn 0 s4.heap) (w0:W 0 m0 [] H3)
    (fin:∀H5 s6,Inv (cxC X (cpN ts fs) scope fp s3 H3) [] (cpσ ts.length fs σ) H5 s6->Q (.ref p) H5->R (.ok .next) s6)
    (turn:∀i m acc H2,W i m acc H2->(J.stop i H2/\Q (.ref p) H2)\/(J.go i H2/\∀x H3,J.yld i H2 x H3->g x (cpσ ts.length fs σ) H3 fun σ4 H4=>Kp (cpσ ts.length fs σ) σ4/\tt σ4 H4 fun b H5=>
      if b=true then te σ4 H5 fun y H6=>H6 p=some (.lst acc)/\acc.length<sizeLine/\∃m',m'<m/\W (i+1) m' (acc++ [y]) (upd H6 p (.lst (acc++ [y])))else ∃m',m'<m/\W (i+1) m' acc H5)):
    codeAny (model X.prog X.w) X.A (.compLoop (.ListComp elt [⟨tg,iter,ifs,0⟩] scope pos) 0 (.ref it) (.ref p) (cxC X (cpN ts fs) scope fp s3 H3).env) R s4:=by
  have stat:∀ {H':Hp},(∀b∈fp,H' b=none)->∀b∈fp,Pu (cxC X (cpN ts fs) scope fp s3 H3) [] H' b:=fun hn b hb=>
    ⟨hn b hb,Nat.ne_of_lt (lt b hb),fun z=>(List.mem_cons.mp (I3.stkSub b z)).elim (hex b hb).2.1 (hex b hb).2.2.1,.inl hb,fun x c e=>(hex b hb).2.2.2.2.1 x c (S.sub I3.ok e),fun q hq=>absurd (show q∈([]:List (Addr × Obj))from hq) (by simp)⟩
  refine Mw (fun n s'=>∃i acc H',Inv (cxC X (cpN ts fs) scope fp s3 H3) [] (cpσ ts.length fs σ) H' s'/\tn i s'.heap/\(∀b∈fp,H' b=none)/\W i n acc H') ?_ m0 ⟨0,[],H3,I4,st4,fun b hb=>(hex b hb).1,w0⟩
  rintro n s5 ⟨i,acc,H5,I5,st5,fr5,w5⟩
  rcases turn i n acc H5 w5 with⟨stop,q⟩ | ⟨go,step⟩
  . refine thn (T.done (cxC X (cpN ts fs) scope fp s3 H3) rfl rfl rfl hc i [] s5 _ H5 _ I5 (stat fr5) st5 stop) fun r s6 ⟨hr,I6⟩=> ?_
    subst hr
    exact fin H5 s6 I6 q
  . refine thn (T.item (cxC X (cpN ts fs) scope fp s3 H3) rfl rfl rfl hc i [] s5 _ H5 _ I5 (stat fr5) st5 go) fun r s6 ⟨u,hr,h6⟩=> ?_
    subst hr
    refine thn h6 fun _ s7 ⟨x,H7,I7,r7,y7,st7,fr7⟩=> ?_
    have I7':=I7.pinned (stat fr7) (T.obj _ _ st7)
    refine thn (hg fp s3 H3 _ s7 _ H7 x u _ I7' r7 (step x H7 y7)) fun _ s8 ⟨σ8,H8,I8,kp,q8⟩=> ?_
    have again:∀ {H9:Hp}{s9:Shared}{acc':List V}{m':Nat},Inv (cxC X (cpN ts fs) scope fp s3 H3) ([]++M6 fp s7.heap) σ8 H9 s9->m'<n->W (i+1) m' acc' H9->
        ∃m,m<n/\∃i acc H',Inv (cxC X (cpN ts fs) scope fp s3 H3) [] (cpσ ts.length fs σ) H' s9/\tn i s9.heap/\(∀b∈fp,H' b=none)/\W i m acc H':=fun {H9 s9 acc' m'} I9 hm w9=>by
      refine⟨m',hm,i+1,acc',H9,(I9.fade kp).unpinned,T.keep _ _ _ st7 fun b hb o e=>(I9.pin (b,o) (List.mem_append_right _ (List.mem_append_right _ (Ey hb e)))).1,fun b hb=> ?_,w9⟩
      obtain⟨o,e,d⟩:=T.obj _ _ st7 b hb
      exact(I9.pin (b,o) (List.mem_append_right _ (List.mem_append_right _ (Ey hb e)))).2.1
    refine thn (ht fp s3 H3 _ s8 σ8 H8 _ I8 q8) fun ok s9 ⟨H9,I9,q9⟩=> ?_
    cases ok with
    | false=>
      rw [if_neg Bool.false_ne_true]at q9 ⊢
      obtain⟨m',hm,w9⟩:=q9
      exact again I9 hm w9
    | true=>
      rw [if_pos rfl]at q9 ⊢
      refine thn (he fp s3 H3 _ s9 σ8 H9 _ I9 q9) fun y s10 ⟨yv,H10,I10,r10,hp10,hlen,m',hm,w10⟩=> ?_
      exact thn (Ji _ s10 σ8 H10 (.ref p) [yv] (.ref p) [y] _ I10 rfl (.cons r10 .nil) ⟨p,acc,yv,rfl,rfl,hp10,hlen,w10⟩) fun _ s11 ⟨_,H11,I11,_,w11⟩=>again I11 hm w11
set_option maxHeartbeats 2000000 in
theorem Qu {pos':Pos}{pins:List (Addr × Obj)}{σ:St}{H:Hp}{s:Shared}{Q:VK}{QQ:Value->Shared->Prop}{use:Option (Value->Sem Unit)} (hc:X.calm=true) (S:Bg X ts fs scope) (hi:PI X tg iter wi) (hg:∀ex s H,PG (cxC X (cpN ts fs) scope ex s H) tg g) (ht:∀ex s H,PTs (cxC X (cpN ts fs) scope ex s H) ifs tt)
    (he:∀ex s H,PE (cxC X (cpN ts fs) scope ex s H) elt te) (hs:∀x,foldedSetIterable iter X.env x=pure x) (I:Inv X pins σ H s) (h:U5 ts.length fs wi g tt te σ H Q)
    (fin:∀(H3:Hp) (s3:Shared) (fp:List Addr) (p:Addr) (H5:Hp) (s6:Shared),Inv X pins σ H3 s3->(∀b∈fp,Pu X pins H3 b)->Inv (cxC X (cpN ts fs) scope fp s3 H3) [] (cpσ ts.length fs σ) H5 s6->Q (.ref p) H5->compPost (model X.prog X.w) X.A X.xe use QQ (.ref p) s3.heap.objs.size (.ok .next) s6):
    wpAny (model X.prog X.w) X.A (comprehension (.ListComp elt [⟨tg,iter,ifs,0⟩] scope pos) scope X.env pos' (newList []) false (eval iter X.env) use) QQ X.xe s:=by
  refine wpAny_comprehension_free (use:=use) rfl hs (Qs (S.clos I.ok)) S.kind S.names (thn (hi pins s σ H _ I h) fun v s1 h1=>thn h1 fun itv s2 h2=> ?_)
  obtain⟨it,fp,tn,J,H2,rfl,I2,T,st2,f2,hw⟩:=h2
  refine wpAny_newObj_type (wpAny_newFunctionEnv S.cell (by intro y hy;simp at hy) (fun h₁ hns₁ hsb₁=> ?_) S.kind)
  dsimp only at hns₁ hsb₁ ⊢
  have I3:=I2.lnew (its:=[]) (ys:=[]) (t':=s2.toks) .nil (Nat.zero_le _)
  have hD:H2 s2.heap.objs.size=none:=I2.fresh
  obtain⟨W,⟨m0,w0⟩,turn⟩:=hw _ hD
  have up:∀b o,s2.heap.get? b=some o->(s2.heap.push { cls:= .type "list",data:= .seq ([]:List Value).toArray}).get? b=some o:=fun b o e=>Heap.get?_push_of_some _ e
  have hex:∀b∈fp,Pu X pins (upd H2 s2.heap.objs.size (.lst [])) b/\∃o,(s2.heap.push { cls:= .type "list",data:= .seq ([]:List Value).toArray}).get? b=some o:=fun b hb=>by
    obtain⟨o,ho,_⟩:=T.obj _ _ st2 b hb
    have nb:b≠s2.heap.objs.size:=Nat.ne_of_lt (Heap.lt_size ho)
    exact⟨⟨by rw [Ba nb];exact(f2 b hb).1,(f2 b hb).2⟩,o,up b o ho⟩
  have hk4:∀b u,(s2.heap.push { cls:= .type "list",data:= .seq ([]:List Value).toArray}).get? b=some u->h₁.get? b=some u:=fun b u e=>
    hsb₁.extBut b u (Nat.ne_of_lt (Heap.lt_size e)) (Heap.get?_push_of_some _ e)
  have I4:=Qh (s4:={ s2 with heap:=h₁,toks:=s2.toks}) S I3 hex rfl rfl hk4 hns₁
  have st4:tn 0 h₁:=T.keep _ _ _ st2 fun b _ o e=>hk4 b o (up b o e)
  have run:=Ui (elt:=elt) (iter:=iter) (pos:=pos) hc S hg ht he I3 T (fun b hb=>(hex b hb).1) (fun b hb=>Heap.lt_size (hex b hb).2.choose_spec) I4 st4 w0 (fun H5 s6 I6 q=>fin _ _ fp _ H5 s6 I3 (fun b hb=>(hex b hb).1) I6 q) turn
  exact codeAny_compStart_list run (T.self X.A 0 _ _ _ st4 run)
theorem Dh (hc:X.calm=true) (S:Bg X ts fs scope) (hi:PI X tg iter wi) (hg:∀ex s H,PG (cxC X (cpN ts fs) scope ex s H) tg g) (ht:∀ex s H,PTs (cxC X (cpN ts fs) scope ex s H) ifs tt)
    (he:∀ex s H,PE (cxC X (cpN ts fs) scope ex s H) elt te) (hs:∀x,foldedSetIterable iter X.env x=pure x:=by intro _;rfl):
    PE X (.ListComp elt [⟨tg,iter,ifs,0⟩] scope pos) (U5 ts.length fs wi g tt te):=by
  intro pins s σ H Q I h
  rw [eval_ListComp]
  refine Qu (use:=none) hc S hi hg ht he hs I h fun H3 s3 fp p H5 s6 I3 hex I6 q=> ?_
  obtain⟨m,hn,_⟩:=I6.loc
  exact⟨m,hn,fun h' sb=>⟨.ref p,H5,Va S I3 hex I6 sb,rfl,q⟩⟩
end
section
variable {K:PySem.W.Frag}{H1:Hp}{p:Addr}{cσ:St}{g:TG}{te:TE}{Q:VK}{α:Type}{es:List α}{inj:α->V}
def Wk (J:It) (H1:Hp) (es:List α) (inj:α->V):Prop:=∀i H',Same H1 H'->(es[i]? =none->J.stop i H')/\∀e,es[i]? =some e->J.go i H'/\∀x H3,J.yld i H' x H3->H3=H'/\x=inj e
theorem Kv {a:Addr} (h:SqL K H1 a (es.map inj)):Wk (Itl K a) H1 es inj:=fun i H' s=>by
  have h':=s.seq h
  refine⟨fun e=>⟨_,h',?_⟩,fun e he=>⟨⟨_,inj e,h',by rw [List.getElem?_map,he];rfl⟩,fun x H3 ⟨e1,e2⟩=>⟨e1,?_⟩⟩⟩
  . rw [List.length_map]
    exact List.getElem?_eq_none_iff.mp e
  . have z:=e2 _ h'
    rw [List.getElem?_map,he]at z
    exact(Option.some.inj z).symm
theorem Pk {a:Addr} (h:SqT K H1 a (es.map inj)):Wk (Itt K a) H1 es inj:=fun i H' s=>by
  have h':=s.tup h
  refine⟨fun e=>⟨_,h',?_⟩,fun e he=>⟨⟨_,inj e,h',by rw [List.getElem?_map,he];rfl⟩,fun x H3 ⟨e1,e2⟩=>⟨e1,?_⟩⟩⟩
  . rw [List.length_map]
    exact List.getElem?_eq_none_iff.mp e
  . have z:=e2 _ h'
    rw [List.getElem?_map,he]at z
    exact(Option.some.inj z).symm
theorem Uq {lo:Int}{n:Nat}:Wk (Itr lo n) H1 (List.range n) (fun i=> .int (lo+(i:Nat))):=fun i H' s=>by
  refine⟨fun e=> ?_,fun e he=> ?_⟩
  . have:=List.getElem?_eq_none_iff.mp e
    show n<=i
    simpa using this
  . obtain⟨h,z⟩:=List.getElem?_eq_some_iff.mp he
    have hi:i<n:=by simpa using h
    have z':i=e:=by simpa using z
    subst z'
    exact⟨hi,fun x H3 ⟨e1,e2⟩=>⟨e1,e2⟩⟩
theorem Ow {J:It} (f:α->V) (hz:es.length<=sizeLine) (hp:H1 p=none) (hJ:Wk J H1 es inj)
    (step:∀e H' R,e∈es->Same H1 H'->(∀H6,Same H' H6->R (f e) H6)->g (inj e) cσ H' fun σ4 H4=>Kp cσ σ4/\te σ4 H4 R)
    (done:∀H',Same H1 H'->H' p=some (.lst (es.map f))->Q (.ref p) H'):cIn J cσ g Oh te Q H1 p:=by
  have su:∀ {H':Hp}{o:HO},Same H1 H'->Same H1 (upd H' p o):=fun {H' o} s b u e=>by
    rw [Ba (Bb e hp)]
    exact s b u e
  refine⟨fun i m acc H'=>m=es.length-i/\i<=es.length/\acc=(es.take i).map f/\H' p=some (.lst acc)/\Same H1 H',⟨es.length,by simp,Nat.zero_le _,by simp,Ag,su (Same.refl _)⟩,?_⟩
  rintro i m acc H' ⟨rfl,hi,rfl,hH,s⟩
  cases he:es[i]? with
  | none=>
    have hl:=List.getElem?_eq_none_iff.mp he
    have e:i=es.length:=Nat.le_antisymm hi hl
    subst e
    rw [List.take_length]at hH
    exact .inl ⟨(hJ _ _ s).1 he,done _ s hH⟩
  | some e=>
    obtain⟨go,yl⟩:=(hJ _ _ s).2 e he
    refine .inr ⟨go,fun x H3 y=> ?_⟩
    obtain⟨rfl,rfl⟩:=yl x H3 y
    obtain⟨hlt,e'⟩:=List.getElem?_eq_some_iff.mp he
    have tk:es.take (i+1)=es.take i++ [e]:=by rw [List.take_succ,he];rfl
    have q:=step e H3 (fun y H6=>H6 p=some (.lst ((es.take i).map f))/\((es.take i).map f).length<sizeLine/\∃m',m'<es.length-i/\m'=es.length-(i+1)/\i+1<=es.length/\(es.take i).map f++ [y]=(es.take (i+1)).map f/\
        upd H6 p (.lst ((es.take i).map f++ [y])) p=some (.lst ((es.take i).map f++ [y]))/\Same H1 (upd H6 p (.lst ((es.take i).map f++ [y])))) (List.mem_of_getElem? he) s
      (fun H6 s6=>⟨s6 _ _ hH,by rw [List.length_map,List.length_take];omega,_,by omega,rfl,hlt,by rw [tk,List.map_append];rfl,Ag,su (s.trans s6)⟩)
    have eq:∀(R:VK) (B:Hp->Prop),(fun σ4 H4=>Kp cσ σ4/\Oh σ4 H4 fun b H5=>if b=true then te σ4 H5 R else B H5)=(fun σ4 H4=>Kp cσ σ4/\te σ4 H4 R):=fun R B=>by
      funext σ4 H4
      show(Kp cσ σ4/\if true=true then te σ4 H4 R else B H4)=_
      rw [if_pos rfl]
    rw [eq]
    exact q
end
section
variable {X:Cx}{K:PySem.W.Frag}{σ:St}{H:Hp}{Q:VK}{R:It->Hp->Prop}
theorem Ii {n:Nat}{fs:List (Nat × Str)}{wi:TI}{g:TG}{tt:TT}{te:TE}:U5 n fs wi g tt te σ H Q=wi σ H (fun J H1=>∀p,H1 p=none->cIn J (cpσ n fs σ) g tt te Q H1 p):=rfl
theorem Ie {ta:TA}:Xe ta σ H R=ta σ H (fun vs H1=>∃j:Int,vs=[.int j]/\ -(2^62)<=j/\j<2^62/\R (Itr 0 j.toNat) H1):=rfl
theorem Hl {ta:TA}:Z2 ta σ H R=ta σ H (fun vs H1=>∃i j:Int,vs=[.int i,.int j]/\(-(2^62)<=i/\i<2^62/\ -(2^62)<=j/\j<2^62)/\R (Itr i (j-i).toNat) H1):=rfl
theorem Eb {tl:TE}:Xd K tl σ H R=tl σ H (fun x H1=>∃a,x= .ref a/\(∃xs,SqL K H1 a xs)/\R (Itl K a) H1):=rfl
theorem G5 {tl:TE}:Zb K tl σ H R=tl σ H (fun x H1=>∃a,x= .ref a/\(∃xs,SqT K H1 a xs)/\R (Itt K a) H1):=rfl
theorem Mq {a:Addr}{p:Addr->Prop}:(∃b,V.ref a= .ref b/\p b)=p a:=propext ⟨fun⟨_,e,h⟩=>by cases e;exact h,fun h=>⟨a,rfl,h⟩⟩
theorem Le {v:Option V}{r:St}:Kp (none::r) (v::r)=True:=by
  refine eq_true ⟨rfl,fun i u e=> ?_⟩
  cases i with
  | zero=>cases e
  | succ i=>exact e
theorem Mi {v v':Option V}{r:St}:Kp (none::none::r) (v::v'::r)=True:=by
  refine eq_true ⟨rfl,fun i u e=> ?_⟩
  cases i with
  | zero=>cases e
  | succ i=>
    cases i with
    | zero=>cases e
    | succ i=>exact e
theorem Iv {k:Bool}{p:Int->Prop}{q:Bool->Prop}:((∃i,[V.bl k]=[V.int i]/\p i)\/∃k',[V.bl k]=[V.bl k']/\q k')=q k:=
  propext ⟨fun h=>h.elim (fun⟨_,e,_⟩=>by cases e) fun⟨_,e,h⟩=>by cases e;exact h,fun h=> .inr ⟨k,rfl,h⟩⟩
end
end L2
namespace L2
open PySem PySem.Spec PyProof.Rows
def FI (J:It) (g:TG) (tb:TS) (D:Ends) (σ:St) (H:Hp):Prop:=∃W:Nat->Nat->St->Hp->Prop,(∃m,W 0 m σ H)/\∀i m σ H,W i m σ H->
  (J.stop i H/\D.nx σ H)\/(J.go i H/\∃N:St->Hp->Prop,(∀σ' H',N σ' H'->∃m',m'<m/\W (i+1) m' σ' H')/\∀x H',J.yld i H x H'->g x σ H' fun σ2 H2=>tb { D with nx:=N,ct:=N,bk:=D.nx} σ2 H2)
theorem Ma {wi:TI}{g:TG}{tb:TS}{D:Ends}{σ:St}{H:Hp}:Z1 wi g tb D σ H=wi σ H (fun J H1=>FI J g tb D σ H1):=rfl
section
variable {K:PySem.W.Frag}{σ:St}{H:Hp}{g:TG}{tb:TS}{D:Ends}{α:Type}{es:List α}{inj:α->V}
def Yc (J:It) (H:Hp) (es:List α) (inj:α->V):Prop:=∀i,(es[i]? =none->J.stop i H)/\∀e,es[i]? =some e->J.go i H/\∀x H3,J.yld i H x H3->H3=H/\x=inj e
theorem Gm {a:Addr} (h:SqL K H a (es.map inj)):Yc (Itl K a) H es inj:=fun i=>Kv h i H (Same.refl _)
theorem Jz {lo:Int}{n:Nat}:Yc (Itr lo n) H (List.range n) (fun i=> .int (lo+(i:Nat))):=fun i=>Uq i H (Same.refl _)
theorem Qt {J:It} (Pv:List α->St->Hp->Prop) (h0:Pv [] σ H) (hw:∀pre σ H,Pv pre σ H->Yc J H es inj)
    (hs:∀pre e post σ H,es=pre++e::post->Pv pre σ H->g (inj e) σ H fun σ2 H2=>tb { D with nx:=Pv (pre++ [e]),ct:=Pv (pre++ [e]),bk:=D.nx} σ2 H2) (hd:∀σ H,Pv es σ H->D.nx σ H):FI J g tb D σ H:=by
  refine⟨fun i m σ H=>m=es.length-i/\i<=es.length/\Pv (es.take i) σ H,⟨es.length,by simp,Nat.zero_le _,h0⟩,?_⟩
  rintro i m σ H ⟨rfl,hi,p⟩
  have w:=hw _ _ _ p i
  cases he:es[i]? with
  | none=>
    have e:i=es.length:=Nat.le_antisymm hi (List.getElem?_eq_none_iff.mp he)
    subst e
    rw [List.take_length]at p
    exact .inl ⟨w.1 he,hd _ _ p⟩
  | some e=>
    obtain⟨hlt,ee⟩:=List.getElem?_eq_some_iff.mp he
    have tk:es.take (i+1)=es.take i++ [e]:=by rw [List.take_succ,he];rfl
    have sp:es=es.take i++e::es.drop (i+1):=by
      rw [<-ee,<-List.drop_eq_getElem_cons hlt,List.take_append_drop]
    refine .inr ⟨(w.2 e he).1,Pv (es.take i++ [e]),fun σ' H' q=>⟨es.length-(i+1),by omega,rfl,hlt,by rw [tk];exact q⟩,fun x H' y=> ?_⟩
    obtain⟨rfl,rfl⟩:=(w.2 e he).2 x H' y
    exact hs _ e _ σ H' sp p
end
end L2
namespace L2
open PySem PySem.Spec PyProof.Rows
section
variable {K:PySem.W.Frag}{σ:St}{H:Hp}{Q:VK}
theorem V0 {r:V->Option Int->Option Int->Hp->VK->Prop}{te:TE}{tl th:TO}:tSl r te tl th σ H Q=te σ H (fun x H1=>tl σ H1 fun l H2=>th σ H2 fun u H3=>r x l u H3 Q):=rfl
theorem Cw {R:Option Int->Hp->Prop}:Om σ H R=R none H:=rfl
theorem Hg {t:TE}{R:Option Int->Hp->Prop}:Wa t σ H R=t σ H (fun x H1=>∃i,x= .int i/\R (some i) H1):=rfl
theorem Lj {T:String}{r:V->List V->Hp->VK->Prop}{to:TE}:Zy K T r to σ H Q=to σ H (fun x H1=>tyV K T x H1/\r x [] H1 Q):=rfl
theorem Vk {T:String}{r:V->List V->Hp->VK->Prop}{to:TE}{t:TA}:tBM K T r to t σ H Q=to σ H (fun x H1=>tyV K T x H1/\t σ H1 fun xs H2=>r x xs H2 Q):=rfl
def Zo:V->List V->Hp->VK->Prop:=fun x vs H Q=>∃i,x= .int i/\vs=[]/\Q (.int ((Builtin.Int.intBits i:Nat):Int)) H
theorem Wn {X:Cx}:MtR X "int.bit_length" Zo:=by
  intro pins s σ H x xs v us Q I rx rv h
  obtain⟨i,rfl,rfl,q⟩:=h
  obtain⟨t,rfl⟩:=rx
  have hus:=rv.zero
  subst hus
  refine call_gives F.slot_int_bit_length (typeIs_int s i t) F.entry_int_bit_length (F.args_int_bit_length_1 _) (AutoIntG2.int_bit_length_int_0 i t) ?_
  exact⟨.int _,H,I.tok _,⟨_,rfl⟩,q⟩
end
section
variable {CX:CXT}{P:Program}{w:World}{K:PySem.W.Frag}{mg:Str->Option Value}{base:Heap}{N:List Str}{qual:Str}{scope:Scope}{f:Addr}{cd:Value}{A:Around}{outer:List Env}{s:Shared}{H H1 H2:Hp}{E:XK}{Q:VK}{a b:Addr}{ns ms:List Int}{g:Bool->Bool}
theorem Mf:(Jh CX P w K mg base N qual scope f cd A outer s H E).K=K:=rfl
theorem Hh:(Jh CX P w K mg base N qual scope f cd A outer s H E).nox.K=K:=rfl
end
end L2
namespace L2
open PySem PySem.Spec PyProof.Rows
theorem Io {a:Addr}{p:Addr->Prop}:(∃b,[V.ref a]=[.ref b]/\p b)=p a:=propext ⟨fun⟨_,e,h⟩=>by cases e;exact h,fun h=>⟨a,rfl,h⟩⟩
section
variable {K:PySem.W.Frag}{σ:St}{H:Hp}{Q:St->Hp->Prop}{R:VK}{p a b:Addr}{v w:V}{i j:Nat}{xs:List V}{ns ms:List Int}{f:Bool->Bool}
theorem Dy (h:SqT K H p [v,w]) (q:Q ((σ.set i (some v)).set j (some w)) H):Ys K 2 (T6 (Oi i) (T6 (Oi j) Z8)) (.ref p) σ H Q:=⟨p,_,rfl,h,rfl,v,_,rfl,w,_,rfl,rfl,q⟩
theorem Im {to ti:TE}{t:Aab}:Aay to ti t v σ H Q=to σ H (fun o H1=>ti σ H1 fun i H2=>t o i v H2 fun H3=>Q σ H3):=rfl
theorem Ug (ha:SqT K H a (ns.map V.int)) (hb:SqT K H b (ms.map V.int)) (h:R (.bl (f (decide (ns=ms)))) H):Z4 K f (.ref a) (.ref b) H R:=⟨a,b,ns,ms,rfl,rfl,ha,hb,h⟩
end
end L2
namespace L2
open PySem PySem.Spec PyProof.Rows
section
variable {prog:Program}{w:World}{A:Around}{E:Value->Shared->Prop}{s:Shared}{j u:Addr}{i:Nat}{xs:Array Value}
theorem nextT {y:Value}{Q:Value->Shared->Prop} (hj:s.heap.IsTupleIter j u i) (hu:s.heap.IsTuple u xs) (hy:xs[i]? =some y)
    (k:∀g,g.IsTupleIter j u (i+1)->Heap.SameBut j s.heap g->Q y { s with heap:=g}):wpAny (model prog w) A (Builtin.SmallTypes.nextOf (.ref j)) Q E s:=by
  obtain⟨oj,ej,cj,dj⟩:=id hj
  obtain⟨ou,eu,_,nu,du⟩:=hu
  unfold Builtin.SmallTypes.nextOf
  refine wpAny_bind (wpAny_callSpecial?_slot (name:=Str.ofString "__next__") hj.typeIs F.slot_tuple_iterator_next (wpAny_call_entry F.slot_tuple_iterator_next hj.typeIs F.entry_tuple_iterator_next ?_ (F.args_tuple_iterator_next_1 _)))
  show wpAny _ _ (field (.ref j) 0>>=_) _ _ s
  refine wpAny_bind (wpAny_field ej dj (x:= .ref u) rfl ?_)
  show wpAny _ _ (if(Value.ref u==Value.none)=true then _ else _) _ _ s
  rw [if_neg (show ¬((Value.ref u==Value.none)=true)from Bool.false_ne_true)]
  show wpAny _ _ (field (.ref j) 1>>=_) _ _ s
  refine wpAny_bind (wpAny_field ej dj (x:= .int i 0) rfl ?_)
  show wpAny _ _ (seqItems? (.ref u)>>=_) _ _ s
  refine wpAny_bind (wpAny_seqItems eu du ?_)
  simp only [hy,Int.toNat_natCast]
  refine wpAny_bind (wpAny_setField ej dj (by simp) (wpAny_pure ⟨y,rfl,wpAny_pure (k _ ?_ (Heap.SameBut.update ..))⟩))
  exact⟨_,Heap.get?_update_self _ ej (Obj.isFreed_of_fields (Obj.data_mapFields dj _)),(Obj.cls_mapFields ..).trans cj,by rw [Obj.data_mapFields dj];simp [rawInt]⟩
theorem Rn {Q:Value->Shared->Prop} (hh:A.handled=none) (hj:s.heap.IsTupleIter j u i) (hu:s.heap.IsTuple u xs) (hy:xs[i]? =none)
    (k:∀g e,Heap.ExtBut j s.heap g->(∃o,g.get? e=some o/\o.cls= .type "StopIteration")->E (.ref e) { s with heap:=g}):wpAny (model prog w) A (Builtin.SmallTypes.nextOf (.ref j)) Q E s:=by
  obtain⟨oj,ej,cj,dj⟩:=id hj
  obtain⟨ou,eu,_,nu,du⟩:=hu
  unfold Builtin.SmallTypes.nextOf
  refine wpAny_bind (wpAny_callSpecial?_slot (name:=Str.ofString "__next__") hj.typeIs F.slot_tuple_iterator_next (wpAny_call_entry F.slot_tuple_iterator_next hj.typeIs F.entry_tuple_iterator_next ?_ (F.args_tuple_iterator_next_1 _)))
  show wpAny _ _ (field (.ref j) 0>>=_) _ _ s
  refine wpAny_bind (wpAny_field ej dj (x:= .ref u) rfl ?_)
  show wpAny _ _ (if(Value.ref u==Value.none)=true then _ else _) _ _ s
  rw [if_neg (show ¬((Value.ref u==Value.none)=true)from Bool.false_ne_true)]
  show wpAny _ _ (field (.ref j) 1>>=_) _ _ s
  refine wpAny_bind (wpAny_field ej dj (x:= .int i 0) rfl ?_)
  show wpAny _ _ (seqItems? (.ref u)>>=_) _ _ s
  refine wpAny_bind (wpAny_seqItems eu du ?_)
  simp only [hy,Int.toNat_natCast]
  refine wpAny_bind (wpAny_rule (wpAny_bind (wpAny_setField ej dj (by simp) ?_)))
  show wpAny _ A.in1 (newExc (.type "StopIteration") []>>=_) _ _ _
  refine wpAny_bind ?_
  simp only [newTuple,newExc]
  refine wpAny_bind (wpAny_newObj_type ?_ (by size_fits))
  refine wpAny_bind (m:=firstArgMember _ _) (wpAny_of_eq (a:=Value.none) (by first | rfl | (simp only [firstArgMember];rfl)) ?_)
  refine(wpAny_newObj_type ?_ (by size_fits))
  simp only [raiseNew]
  refine wpAny_bind (wpAny_handled ?_)
  first | rw [show A.in1.handled=none from hh] | (rw [hh])
  refine wpAny_bind (wpAny_pure (wpAny_throw ?_))
  exact k _ _ (((Heap.SameBut.update ..).extBut.push _).push _) ⟨_,Heap.get?_push_size _ rfl,rfl⟩
end
open AutoSeq1 (wpAny_loadPart')in
section
variable {X:Cx}{pins:List (Addr × Obj)}{σ:St}{H:Hp}{s:Shared}{h':Heap}
theorem Inv.turnL {t':Nat}{fp:List Addr} (I:Inv X pins σ H s) (k:∀b o,b∉fp->s.heap.get? b=some o->h'.get? b=some o) (hf:∀b∈fp,Pu X pins H b):Inv X pins σ H { s with heap:=h',toks:=t'}:=by
  have nf:∀b u,H b=some u->b∉fp:=fun b u e z=>by
    have:=(hf b z).1
    rw [this]at e
    cases e
  refine I.step (g':=s.gens) (d':=s.drawn) (ch:=fp) (fun b hb=>⟨(hf b hb).2.2.2.1,(hf b hb).2.1,(hf b hb).2.2.2.2.1,(hf b hb).2.2.2.2.2⟩) (fun b o _ _ hc e _=>k b o hc e) (fun b o _ _ hc e _=>⟨o.slots,k b o hc e⟩) (fun _ _ _ _ n=>n)
    (fun b o hc e=>⟨o,k b o hc e⟩) (fun _ _ e=>e) (fun _ _ _ e=>e) (fun b ps e=>⟨#[],by rw [e];simp⟩) (fun m hm=> ?_) (fun b u e=> ?_) I.bare
  . obtain⟨o,es,ep,ho,r⟩:=hm
    exact⟨o,es,ep,k _ o (fun z=>(hf _ z).2.1 rfl) ho,r⟩
  . refine(I.hok b u e).stay (fun c v hc q=>k c v ?_ q) (fun _ q=>q) fun _ _ q=>q
    rcases hc with z | z
    . rw [z]
      exact nf b u e
    . exact nf c _ z
end
def Ite (K:PySem.W.Frag) (a:Addr):It:=
  ⟨fun i H=>∃xs x,SqT K H a xs/\xs[i]? =some x,fun i H x H'=>∃p v,(∀xs,SqT K H a xs->xs[i]? =some v)/\H p=none/\x= .ref p/\H'=upd H p (.tup [.int (i:Nat),v]),fun i H=>∃xs,SqT K H a xs/\xs.length<=i⟩
section
variable {X:Cx}{a:Expr}{ta:TA}{el:List Expr}{x1}{tp p pos:Pos}
def iEn (K:PySem.W.Frag) (ta:TA):TI:=fun σ H R=>ta σ H fun vs H1=>∃a,vs=[.ref a]/\(∃xs,SqT K H1 a xs)/\R (Ite K a) H1
end
theorem Ln {K:PySem.W.Frag}{σ:St}{H:Hp}{ta:TA}{R:It->Hp->Prop}:iEn K ta σ H R=ta σ H (fun vs H1=>∃a,vs=[.ref a]/\(∃xs,SqT K H1 a xs)/\R (Ite K a) H1):=rfl
end L2
namespace L2
open PySem PySem.Spec PyProof.Rows
section
variable {X:Cx}
def Z7 (K:PySem.W.Frag):R2:=fun x y H Q=>∃a b xs ys,x= .ref a/\y= .ref b/\SqT K H a xs/\SqT K H b ys/\xs.length+ys.length<=sizeLine/\∀z H',Same H H'->SqT K H' z (xs++ys)->Q (.ref z) H'
theorem R4:OpR X (binaryOp .Add) (Z7 X.K):=by
  intro pins s σ H x y v u Q I rx ry h
  obtain⟨a,b,xs,ys,rfl,rfl,ha,hb,hz,q⟩:=h
  by_cases hx:xs=[]
  . subst hx
    cases rx
    cases ry
    obtain⟨its,r1,p1,_⟩:=I.tuple ha
    obtain⟨its2,r2,p2,_⟩:=I.tuple hb
    cases r1
    obtain⟨⟨c1,d1,t1,l1⟩,ho,hc,n,hd⟩:=(show s.heap.IsTuple a ([]:List Value).toArray from p1)
    obtain⟨⟨c2,d2,t2,l2⟩,ho2,hc2,n2,hd2⟩:=(show s.heap.IsTuple b its2.toArray from p2)
    simp only at hc hd hc2 hd2
    subst hc hd hc2 hd2
    exact concat_meets ⟨_,ho,rfl⟩ ⟨_,ho2,rfl⟩ noFill_tuple_add seq_tuple_add PySem.F.slot_tuple_add PySem.F.entry_tuple_add (PySem.F.args_tuple_add_2 _ _)
      (tuple_addW0 a b #[] its2.toArray n n2 d1 d2 l1 l2 rfl) ⟨ho,ho2,⟨.ref b,H,I,rfl,q b H (Same.refl _) hb⟩⟩
  . exact Xh pins s σ H _ _ v u Q I rx ry ⟨a,b,xs,ys,rfl,rfl,ha,hb,hx,hz,fun e=>q a H (Same.refl _) (by rw [e,List.append_nil];exact ha),fun _ p hp=>q p _ (Same.upd hp _) (.of Ag)⟩
theorem Kh (hc:X.calm=true):Fj X (.builtin "all") (fun xs H Q=>∃(a:Addr) (bs:List Bool),xs=[.ref a]/\SqL X.K H a (bs.map V.bl)/\Q (.bl (bs.all id)) H):=by
  intro pins s σ H xs us Q I r h
  obtain⟨a,bs,rfl,ha,q⟩:=h
  obtain⟨u,rfl,ru⟩:=vals1 r
  cases ru
  obtain⟨its,rv,p,hz⟩:=I.list ha
  have hl:s.heap.IsList a its.toArray:=p.isList
  have lt:a<s.heap.objs.size:=by
    obtain⟨_,e,_⟩:=hl
    exact Heap.lt_size e
  have ln:its.length=bs.length:=by
    have:=rv.length
    rw [List.length_map]at this
    exact this.symm
  refine call_all_walk (wpAny_pyIter_list hl ?_)
  refine⟨s.heap.objs.size,[s.heap.objs.size,a],[s.heap.objs.size],its.toArray.size,_,_,fun i=>(bs[i]?).getD true,rfl,Walks.list (A:=X.A.in1) (I.ok.hd hc) _ a (Nat.ne_of_lt lt) its.toArray,
    ⟨⟨_,Heap.get?_push_size _ rfl,rfl,rfl⟩,hl.push _⟩,fun i v s' Q' E' hP hQ=> ?_,fun g tk hk=> ?_⟩
  . have hv:its[i]? =some v:=by simpa using hP
    have hi:i<its.length:=(List.getElem?_eq_some_iff.mp hv).1
    have hb:bs[i]? =some bs[i]:=List.getElem?_eq_getElem (by omega)
    obtain⟨w',hw,rw'⟩:=rv.get (show(bs.map V.bl)[i]? =some (V.bl bs[i])by rw [List.getElem?_map,hb];rfl)
    rw [hv]at hw
    cases hw
    cases rw'
    simp only [hb,Option.getD_some]at hQ
    exact wpAny_truthy_bool hQ
  . have e:((List.range its.toArray.size).all fun i=>(bs[i]?).getD true)=bs.all id:=by
      rw [List.size_toArray,ln,Bool.eq_iff_iff,List.all_eq_true,List.all_eq_true]
      constructor
      . intro h x hx
        obtain⟨i,hi,ei⟩:=List.getElem_of_mem hx
        have:=h i (List.mem_range.mpr hi)
        rw [List.getElem?_eq_getElem hi,ei]at this
        exact this
      . intro h i hi
        have hi':=List.mem_range.mp hi
        rw [List.getElem?_eq_getElem hi']
        exact h _ (List.getElem_mem hi')
    rw [e]
    exact⟨.bl _,H,I.kept (t':=tk) fun b o q'=>hk b o (fun hm=>by rw [List.mem_singleton.mp hm]at q';exact Nat.lt_irrefl _ (Heap.lt_size q')) (Heap.get?_push_of_some _ q'),rfl,q⟩
end
open AutoSeq1 (wpAny_loadPart')in
open AutoSeq1 (wpAny_loadPart')in
open AutoSeq1 (wpAny_loadPart')in
section
variable {X:Cx}
theorem Jg (K:PySem.W.Frag) (h:X.K=K:=by rfl):IxR X (Zr K):=by subst h;exact Bw
theorem Ww (K:PySem.W.Frag) (hu:X.A.units+64<cLine) (h:X.K=K:=by rfl):OpR X (compareOp .NotEq) (Z4 K fun b=> !b):=by subst h;exact Yg hu
end
section
variable {X:Cx}
theorem T5:Fj X (.builtin "isinstance") (fun xs H Q=>∃(a:Addr) (ys:List V) (T:String) (b:Bool),xs=[.ref a,.ty T]/\SqT X.K H a ys/\PySem.W.kitOne X.K (.type "tuple") (.type T)=some b/\Q (.bl b) H):=by
  intro pins s σ H xs us Q I r h
  obtain⟨a,ys,T,b,rfl,ht,hk,q⟩:=h
  obtain⟨u,c,rfl,ru,rc⟩:=vals2 r
  cases rc
  cases ru
  obtain⟨its,rv,p,_⟩:=I.tuple ht
  obtain⟨o,h1,h2,_⟩:=(show s.heap.IsTuple a its.toArray from p)
  exact PySem.W.kia_one PySem.W.kitx_tuple I.kIn ⟨o,h1,h2⟩ hk (fun z=>nomatch z) fun tk=>⟨.bl b,H,I.tok tk,rfl,q⟩
end
section
variable {prog:Program}{w:World}{A:Around}{E:Value->Shared->Prop}{s:Shared}
theorem Rg {t sl:Addr}{ys:Array Value}{vl vu:Value}{lo hi:Option Int}{Q:Value->Shared->Prop} (ht:IsTup s.heap t ys) (hs:s.heap.IsSliceOf sl vl vu .none) (pl:IsPart vl lo) (pu:IsPart vu hi)
    (w1:HT.sIx ys.size 0 lo=0) (w2:HT.sIx ys.size ys.size hi=ys.size) (h:Q (.ref t) s):wpAny (model prog w) A (getItem (.ref t) (.ref sl)) Q E s:=by
  obtain⟨os,eos,cs,ds⟩:=id hs
  have ty:s.TypeIs (.ref sl) "slice":=⟨os,eos,cs⟩
  unfold getItem
  try with_reducible refine(wpAny_holding ?_)
  first | refine(wpAny_bind (wpAny_pure ?_)) | skip
  refine wpAny_bind (wpAny_sequenceKey ht.typeIs (by decide) (?_))
  refine wpAny_bind (wpAny_callSpecial?_slot (name:=Str.ofString "__getitem__") ht.typeIs PyProof.Rows.slot_tuple_getitem (wpAny_call_entry PyProof.Rows.slot_tuple_getitem ht.typeIs entry_tuple_getitem ?_ (args_tuple_getitem _ _)))
  show wpAny _ A.in1 (Builtin.Tuple.tupleItemsOf (.ref t)>>=_) _ _ s
  refine wpAny_bind (tupleItemsOf_ ht (?_))
  refine wpAny_bind (wpAny_typeOf ty ?_)
  rw [if_pos (by decide)]
  refine wpAny_bind (HT.Dt hs pl pu ?_)
  have yes:(((HT.sIx ys.size 0 lo:Nat):Int)==0&&(1:Int)==1&&(HT.sIx ys.size ys.size hi-HT.sIx ys.size 0 lo)==ys.size)=true:=by
    rw [w1,w2]
    simp
  show wpAny _ A.in1 (if(((HT.sIx ys.size 0 lo:Nat):Int)==0&&(1:Int)==1&&(HT.sIx ys.size ys.size hi-HT.sIx ys.size 0 lo)==ys.size)=true then _ else _) _ _ s
  rw [if_pos yes]
  refine wpAny_bind ?_
  unfold Builtin.Tuple.tupleIsExact
  refine wpAny_bind (wpAny_typeOf ht.typeIs (wpAny_pure ?_))
  rw [if_pos (by decide)]
  exact wpAny_bind (wpAny_rule (wpAny_pure ⟨_,rfl,wpAny_pure h⟩))
end
section
variable {X:Cx}
def Aao (K:PySem.W.Frag):V->Option Int->Option Int->Hp->VK->Prop:=fun x lo hi H Q=>∃a xs,x= .ref a/\SqT K H a xs/\∀z H',Same H H'->SqT K H' z (Uk xs lo hi)->Q (.ref z) H'
theorem Xg:SlR X (Aao X.K):=by
  intro pins s σ H x v vl vu lo hi sl Q I rx hs pl pu h
  obtain⟨a,xs,rfl,hx,q⟩:=h
  by_cases hw:HT.sIx xs.length 0 lo=0/\HT.sIx xs.length xs.length hi=xs.length
  . cases rx
    obtain⟨its,r,ht,hz⟩:=I.tuple hx
    have hlen:its.toArray.size=xs.length:=by rw [List.size_toArray];exact r.length.symm
    refine⟨"tuple",_,PyProof.Rows.slot_tuple_getitem.lookup,ht.typeIs,Rg ht hs pl pu (by rw [hlen];exact hw.1) (by rw [hlen];exact hw.2) ⟨.ref a,H,I,rfl,q a H (Same.refl _) ?_⟩⟩
    have e:Uk xs lo hi=xs:=by
      unfold Uk
      rw [hw.1,hw.2,List.drop_zero,Nat.sub_zero,List.take_length]
    rw [e]
    exact hx
  . exact Xp pins s σ H _ v vl vu lo hi sl Q I rx hs pl pu ⟨a,xs,rfl,hx,hw,fun p hp=>q p _ (Same.upd hp _) (.of Ag)⟩
end
end L2
namespace L2
open PySem PySem.Spec PyProof.Rows
theorem Te {α β:Type}{f:α->Option β}{g:α->β}:∀ {l:List α},(∀k∈l,f k=some (g k))->l.filterMap f=l.map g
  | [],_=>rfl
  | a::r,h=>by rw [List.filterMap_cons,h a List.mem_cons_self,List.map_cons,Te fun k hk=>h k (List.mem_cons_of_mem _ hk)]
theorem Rr (xs:List Value):((List.range xs.length).filterMap fun(k:Nat)=>xs.toArray[(((xs.length:Nat):Int)-1+(k:Int)*(-1)).toNat]?)=xs.reverse:=by
  have h:∀k∈List.range xs.length,xs.toArray[(((xs.length:Nat):Int)-1+(k:Int)*(-1)).toNat]? =some (xs.reverse.getD k .none):=fun k hk=>by
    have hk':=List.mem_range.mp hk
    have e:((((xs.length:Nat):Int)-1+(k:Int)*(-1)).toNat)=xs.length-1-k:=by omega
    rw [e,List.getElem?_toArray,List.getD_eq_getElem?_getD,List.getElem?_reverse hk',List.getElem?_eq_getElem (by omega)]
    rfl
  rw [Te h]
  refine List.ext_getElem (by simp) fun i h1 h2=> ?_
  have hi:i<xs.length:=by simpa using h2
  simp [List.getD_eq_getElem?_getD,hi]
section
variable {X:Cx}{e st:Expr}{te tst:TE}{pos p2:Pos}
def Aas (K:PySem.W.Frag) (te tst:TE):TE:=fun σ H Q=>te σ H fun x H1=>tst σ H1 fun y H2=>∃a xs,x= .ref a/\y= .int (-1)/\SqT K H2 a xs/\∀p,H2 p=none->Q (.ref p) (upd H2 p (.tup xs.reverse))
theorem Vals.rev {xs:List V}{us:List Value} (h:Vals xs us):Vals xs.reverse us.reverse:=by
  induction h with
  | nil=>exact .nil
  | cons r _ ih=>
    rw [List.reverse_cons,List.reverse_cons]
    exact ih.append (.cons r .nil)
theorem Nk {K:PySem.W.Frag}{σ:St}{H:Hp}{Q:VK}:Aas K te tst σ H Q=te σ H (fun x H1=>tst σ H1 fun y H2=>∃a xs,x= .ref a/\y= .int (-1)/\SqT K H2 a xs/\∀p,H2 p=none->Q (.ref p) (upd H2 p (.tup xs.reverse))):=rfl
end
theorem J4 {H1:Hp}{p:Addr}{cσ:St}{g:TG}{tt:TT}{te:TE}{Q:VK}{α:Type}{es:List α}{inj:α->V}{J:It} (pf:α->Bool) (f:α->V) (hz:es.length<=sizeLine) (hp:H1 p=none) (hJ:Wk J H1 es inj)
    (step:∀(e:α) (H':Hp) (R:VK) (RF:Hp->Prop),e∈es->Same H1 H'->(pf e=true->∀H6,Same H' H6->R (f e) H6)->(pf e=false->∀H6,Same H' H6->RF H6)->g (inj e) cσ H' fun σ4 H4=>Kp cσ σ4/\tt σ4 H4 fun b H5=>if b=true then te σ4 H5 R else RF H5)
    (done:∀H',Same H1 H'->H' p=some (.lst ((es.filter pf).map f))->Q (.ref p) H'):cIn J cσ g tt te Q H1 p:=by
  have su:∀ {H':Hp}{o:HO},Same H1 H'->Same H1 (upd H' p o):=fun {H' o} s b u e=>by
    rw [Ba (Bb e hp)]
    exact s b u e
  refine⟨fun i m acc H'=>m=es.length-i/\i<=es.length/\acc=((es.take i).filter pf).map f/\H' p=some (.lst acc)/\Same H1 H',⟨es.length,by simp,Nat.zero_le _,by simp,Ag,su (Same.refl _)⟩,?_⟩
  rintro i m acc H' ⟨rfl,hi,rfl,hH,s⟩
  cases he:es[i]? with
  | none=>
    have e:i=es.length:=Nat.le_antisymm hi (List.getElem?_eq_none_iff.mp he)
    subst e
    rw [List.take_length]at hH
    exact .inl ⟨(hJ _ _ s).1 he,done _ s hH⟩
  | some e=>
    obtain⟨go,yl⟩:=(hJ _ _ s).2 e he
    refine .inr ⟨go,fun x H3 y=> ?_⟩
    obtain⟨rfl,rfl⟩:=yl x H3 y
    obtain⟨hlt,_⟩:=List.getElem?_eq_some_iff.mp he
    have tk:es.take (i+1)=es.take i++ [e]:=by rw [List.take_succ,he];rfl
    have fl:((es.take i).filter pf).length<=i:=Nat.le_trans (List.length_filter_le _ _) (by rw [List.length_take];omega)
    refine step e H3 _ _ (List.mem_of_getElem? he) s (fun hpf H6 s6=>⟨s6 _ _ hH,by rw [List.length_map];omega,_,by omega,rfl,hlt,?_,Ag,su (s.trans s6)⟩) (fun hpf H6 s6=>⟨_,by omega,rfl,hlt,?_,?_,s.trans s6⟩)
    . rw [tk,List.filter_append,List.map_append]
      simp [hpf]
    . rw [tk,List.filter_append,List.map_append]
      simp [hpf]
    . exact s6 _ _ hH
end L2
namespace L2
open PySem PySem.Spec PyProof.Rows
set_option maxRecDepth 100000
open AutoSeq1 (wpAny_loadPart')in
def Itv (K:PySem.W.Frag) (a:Addr) (n:Nat):It:=
  ⟨fun i H=>∃xs x,SqT K H a xs/\xs.length=n/\xs.reverse[i]? =some x,fun i H x H'=>H'=H/\∀xs,SqT K H a xs->xs.reverse[i]? =some x,fun i _=>n<=i⟩
section
variable {X:Cx}{a:Expr}{ta:TA}{tg:Expr}{p pos:Pos}
def iRv (K:PySem.W.Frag) (ta:TA):TI:=fun σ H R=>ta σ H fun vs H1=>∃a,vs=[.ref a]/\∃xs,SqT K H1 a xs/\R (Itv K a xs.length) H1
end
theorem M5 {K:PySem.W.Frag}{σ:St}{H:Hp}{ta:TA}{R:It->Hp->Prop}:iRv K ta σ H R=ta σ H (fun vs H1=>∃a,vs=[.ref a]/\∃xs,SqT K H1 a xs/\R (Itv K a xs.length) H1):=rfl
theorem Gy {X:Cx}{es:List Expr}{k:Nat}{pos:Pos}{t:TGs} (K:PySem.W.Frag) (n:Nat) (hK:X.K=K) (hc:X.calm=true) (h:PGs X es t)
    (hn:(assignEach es X.env).length=n:=by rfl) (hst:(assignEach es X.env).findIdx? (·.1)=none:=by rfl):PG X (.Tuple es k pos) (Ys K n t):=by
  subst hK
  exact El hc h hn hst
end L2
namespace L2
open PySem PySem.Spec PyProof.Rows
set_option maxRecDepth 100000
theorem Bs.has {P:Program}{w:World}{H:Hp}{h:Heap}{a:Addr}{o:HO} (x:Bs P w H h a o):∃ob,h.get? a=some ob:=by
  cases o with
  | lst xs=>obtain⟨_,_,_,_,e⟩:=x;exact⟨_,e⟩
  | tup xs=>obtain⟨_,_,_,ob,e,_⟩:=x;exact⟨_,e⟩
  | dK kvs=>obtain⟨_,_,_,_,o,_,_,e,_⟩:=x;exact⟨_,e⟩
  | dT kvs=>obtain⟨_,_,_,_,o,_,_,e,_⟩:=x;exact⟨_,e⟩
  | set S n=>obtain⟨o,_,_,_,e,_⟩:=x;exact⟨_,e⟩
  | ins C dx fs=>obtain⟨_,_,_,e,_⟩:=x;exact⟨_,e⟩
  | own y=>exact x
  | xd fs=>obtain⟨_,⟨_,_,_,e,_⟩,_⟩:=x;exact⟨_,e⟩
  | rng lo hi=>obtain⟨_,_,_,e⟩:=x;exact⟨_,e⟩
  | frz ob u=>obtain⟨e,_⟩:=x;exact⟨_,e⟩
  | tbl ps=>exact⟨_,show h.get? a=some _ from x⟩
  | met f y=>exact⟨_,show h.get? a=some _ from x⟩
  | ext φ=>exact x.2.1
structure FX (P:Program) (w:World) (fr:List Addr) (H:Hp) (h0:Heap) (B:Heap) (H':Hp) (h:Heap):Prop where
  stay:B.StaysIn h
  k1:∀b o,h0.get? b=some o->b∉fr->∃o',B.get? b=some o'/\(H b=none->o'=o)
  k2:∀b u,H' b=some u->∃o,B.get? b=some o
  fr0:∀b∈fr,H b=none/\∃o,h0.get? b=some o/\∀vs,o.data≠ .fields vs
  un:Un fr [] H H' h0 h
  hok:HOk P w H' h
theorem FX.step {P:Program}{w:World}{fr:List Addr}{H H':Hp}{h0 B h h':Heap} (x:FX P w fr H h0 B H' h) (k:B.StaysIn h') (u:h.UpToSlots h'):FX P w fr H h0 B H' h':=by
  have slot:∀b o,h0.get? b=some o->H b=none->b∈fr->∃sl,h'.get? b=some { o with slots:=sl}:=fun b o e n hb=>by
    obtain⟨sl,e1⟩:=x.un.slot b o e n hb (by simp)
    obtain⟨_,o2,e2,hf⟩:=x.fr0 b hb
    rw [e]at e2;cases e2
    obtain⟨sl',e3⟩:=u b _ e1 hf
    exact⟨sl',e3⟩
  refine⟨k,x.k1,x.k2,x.fr0,⟨fun b o e n hb _=> ?_,fun b o e n hb _=>slot b o e n hb,x.un.free,fun b o e _=> ?_,x.un.tups,x.un.frzs,x.un.tbls⟩,fun b v e=>(x.hok b v e).stay (fun c z hc q=> ?_) (fun _ q=>q) fun _ _ q=>q⟩
  . obtain⟨o',e1,e2⟩:=x.k1 b o e hb
    rw [e2 n]at e1
    exact k b o e1
  . by_cases hb:b∈fr
    . obtain⟨sl,e1⟩:=slot b o e (x.fr0 b hb).1 hb
      exact⟨_,e1⟩
    . obtain⟨o',e1,_⟩:=x.k1 b o e hb
      exact⟨o',k b o' e1⟩
  . have t:∃o,B.get? c=some o:=by
      rcases hc with z | z
      . rw [z];exact x.k2 _ _ e
      . exact x.k2 _ _ z
    obtain⟨o,eo⟩:=t
    have:=x.stay c o eo
    rw [q]at this;cases this
    exact k c _ eo
section
variable {X:Cx}{pins:List (Addr × Obj)}{σ:St}{H H':Hp}{s s':Shared}{B:Heap}
theorem Inv.old (I:Inv X pins σ H s) {b:Addr}{o:Obj} (e:X.s₀.heap.get? b=some o) (hb:b∉X.fs):b∉frs X.stack:=fun z=>by
  rcases List.mem_cons.mp (I.stkSub b z)with q | q
  . exact absurd (Nat.lt_of_lt_of_le (Heap.lt_size e) I.ok.above) (by rw [q];exact Nat.lt_irrefl _)
  . exact hb q
theorem Inv.fr0 (I:Inv X pins σ H s):∀b∈X.fs,X.H₀ b=none/\∃o,X.s₀.heap.get? b=some o/\∀vs,o.data≠ .fields vs:=fun b hb=>by
  obtain⟨_,o,ho,hd⟩:=I.ok.funs.mem hb
  exact⟨I.ok.frf b hb,o,ho,hd⟩
theorem Inv.one (I:Inv X pins σ H s) (hex:X.ex=[]) {b:Addr}{o:Obj} (e:X.s₀.heap.get? b=some o) (hb:b∉X.fs):∃o',s.heap.get? b=some o'/\(X.H₀ b=none->o'=o/\H b=none):=by
  by_cases n:X.H₀ b=none
  . exact⟨o,I.base.keep b o e n hb (by rw [hex];simp),fun _=>⟨rfl,I.base.free b o e n (by rw [hex];simp)⟩⟩
  . obtain⟨o',e1⟩:=I.base.there b o e (by rw [hex];simp)
    exact⟨o',e1,fun z=>absurd z n⟩
theorem Inv.fx (I:Inv X pins σ H s) (hex:X.ex=[]):FX X.prog X.w X.fs X.H₀ X.s₀.heap (PySem.W.hideAll s.heap (frs X.stack)) H s.heap:=by
  refine⟨fun b o q=>PySem.W.of_hideAll _ q,fun b o e hb=> ?_,fun b u e=> ?_,I.fr0,hex▸I.base,I.hok⟩
  . obtain⟨o',e1,e2⟩:=I.one hex e hb
    exact⟨o',PySem.W.hideAll_get _ e1 (I.old e hb),fun n=>(e2 n).1⟩
  . obtain⟨o,eo⟩:=(I.hok b u e).has
    exact⟨o,PySem.W.hideAll_get _ eo fun z=>by have:=I.stkFree b z;rw [e]at this;cases this⟩
theorem Inv.fxOn (I:Inv X pins σ H s) (hex:X.ex=[]) (os:s'.os=s.os) (bare:AllBare s'.gens) (x:FX X.prog X.w (frs X.stack) H s.heap B H' s'.heap):FX X.prog X.w X.fs X.H₀ X.s₀.heap B H' s'.heap:=by
  have J:Inv X pins σ H' s':=I.call' (ch:=[]) os x.un x.hok bare fun b z=>absurd z (by simp)
  refine⟨x.stay,fun b o e hb=> ?_,x.k2,I.fr0,hex▸J.base,x.hok⟩
  obtain⟨o1,e1,n1⟩:=I.one hex e hb
  obtain⟨o',e2,n2⟩:=x.k1 b o1 e1 (I.old e hb)
  exact⟨o',e2,fun n=>(n2 (n1 n).2).trans (n1 n).1⟩
end
def CXE (P:Program) (w:World):CXT:=fun outer H s E e s'=>∃(x C:Addr) (a0:Value) (B:Heap) (H':Hp),e= .ref x/\s'.os=s.os/\AllBare s'.gens/\Heap.FlyingW B outer x (.ref C) a0 s'.heap/\FX P w (frs outer) H s.heap B H' s'.heap/\E (.ref C) none H'
abbrev VE:List Value:=[.type "ValueError",.type "Exception",.type "BaseException",.type "object"]
def Q0 (K:PySem.W.Frag) (C:Addr):Prop:=PySem.W.excIn K C VE "ValueError.__new__"=true
def cA (K:PySem.W.Frag) (x:Str):Addr:=match PySem.W.nsIn K mainGlobals x with
  | some (some (.ref C))=>C
  | _=>0
theorem Uh {K:PySem.W.Frag}{x:Str}{C:Addr} (e:PySem.W.nsIn K mainGlobals x=some (some (.ref C))):cA K x=C:=by
  unfold cA
  rw [e]
def Aax (h:Heap) (C:Addr):Prop:=∃bm N nm q bs hdct sn sub ab col dd k0 k1 k2 k3 k5 mN,h.get? C=some (excClassObj nm q C N bs bm hdct sn sub ab col dd k0 k1 k2 k3 k5 "ValueError.__new__")/\h.Ns N mN/\mN "__init__"=none/\OwnTail h VE bm
theorem Q0.obj {K:PySem.W.Frag}{C:Addr}{h:Heap} (q:Q0 K C) (X:K.In h):Aax h C:=by
  unfold Q0 PySem.W.excIn at q
  cases e:K.lookup C with
  | none=>rw [e]at q;cases q
  | some ob=>
    rw [e]at q
    have eX:=X _ _ e
    split at q
    . rename_i dd cd sl z
      cases z
      split at q
      . rename_i C1 bm a0 a1 a2 a3 n a5 hm hs
        rw [Bool.and_eq_true,Bool.and_eq_true,Bool.and_eq_true,Bool.and_eq_true,Bool.and_eq_true]at q
        obtain⟨⟨⟨⟨⟨z1,z2⟩,z3⟩,z4⟩,z5⟩,z6⟩:=q
        have y1:C1=C:=by simpa using z1
        have y2:n="ValueError.__new__":=by simpa using z2
        have y3:cd.hasDel=false:=by simpa using z3
        have y6:PySem.W.nsIn K cd.ns "__init__"=some none:=by simpa using z6
        obtain⟨c1,c2,c3,c4,c5,c6,c7,c8,c9,c10,c11⟩:=cd
        have hl:sl= #[a0,a1,a2,a3,some (.builtin n),a5]:=by
          cases sl
          exact congrArg Array.mk hs
        dsimp only at hm y3 y6 z5
        rw [hl,hm,y1,y2,y3]at eX
        exact⟨bm,c4,c1,c5,c2,c6,c7,c8,c9,c10,dd,a0,a1,a2,a3,a5,_,eX,Heap.Ns.of_isNs (PySem.W.isNs_of_in X z5),PySem.W.nsMap_none_of_in X z5 y6,PySem.W.tail_of_in X z4⟩
      . cases q
    . cases q
section
variable {P:Program}{w:World}{K:PySem.W.Frag}{mg:Str->Option Value}{base:Heap}{N:List Str}{qual:Str}{scope:Scope}{f:Addr}{cd:Value}{A:Around}{outer:List Env}{s0:Shared}{H0:Hp}{E:XK}
theorem Ze:Passes (CXE P w) (Jh (CXE P w) P w K mg base N qual scope f cd A outer s0 H0 E) E:=by
  intro pins σ H s e s' I h
  obtain⟨x,C,a0,B,H',rfl,os,bare,fl,fx,q⟩:=h
  show wpAny _ _ (leaving _ (.ref x)) _ _ s'
  refine wpAny_leaves_onW I.ok.frames rfl fl fun h' fl' up=> ?_
  exact⟨x,C,a0,B,H',rfl,os.trans I.os,bare,fl',(I.fxOn rfl os bare fx).step fl'.1 up,q⟩
def Sv (C:Addr) (E:XK) (t:TA):TS:=fun _ σ H=>t σ H fun vs H1=>vs.length<=sizeLine/\E (.ref C) none H1
theorem Cm {C:Addr}{x:Str}{np cpos pos:Pos}{e:Expr}{es:List Expr}{t:TA} (hq:Q0 K C) (hm:mg x=some (.ref C))
    (ha:PA (Jh (CXE P w) P w K mg base N qual scope f cd A outer s0 H0 E) (e::es) t) (hg:Gl (Jh (CXE P w) P w K mg base N qual scope f cd A outer s0 H0 E) x:=by rfl) (hdb:(x==("__debug__":Str))=false:=by decide)
    (he:starEach (e::es) (envOfC qual scope s0.heap.objs.size f cd)=(false,eval e (envOfC qual scope s0.heap.objs.size f cd))::starEach es (envOfC qual scope s0.heap.objs.size f cd):=by rfl)
    (hpl:(backTo cpos (starEach es (envOfC qual scope s0.heap.objs.size f cd))).any (·.1)=false:=by rfl):
    PS (Jh (CXE P w) P w K mg base N qual scope f cd A outer s0 H0 E) (.Raise (some (.Call (.Name x np) (e::es) [] cpos)) none pos) (Sv C E t):=by
  intro pins s σ H D I h
  obtain⟨bm,N',nm,q,bs,hdct,sn,sub,ab,col,dd,k0,k1,k2,k3,k5,mN,hC,hN,hni,TL⟩:=hq.obj I.mod.kin
  refine wpAny_Raise_call_subT (nm:=nm) (q:=q) (C:=C) (N:=N') (bs:=bs) (bm:=bm) (hdct:=hdct) (sn:=sn) (sub:=sub) (ab:=ab) (col:=col) (dd:=dd) (k0:=k0) (k1:=k1) (k2:=k2) (k3:=k3) (k5:=k5) PySem.F.excBase_ValueError (TL.hasType (by decide)) (I.ok.hd rfl) (by
    show(backTo cpos (starEach (e::es) (envOfC qual scope s0.heap.objs.size f cd))).any (·.1)=false
    rw [he]
    show(false||(backTo cpos (starEach es _)).any (·.1))=false
    rw [hpl];rfl) hni (Jr I hg hm ⟨rfl,?_⟩ hdb)
  have ha':=ha cpos pins s σ H _ I h
  show wpAny _ _ (evalArgs (.ref C) true (backTo cpos (starEach (e::es) (envOfC qual scope s0.heap.objs.size f cd))) []) _ _ s
  have ha2:wpAny (model P w) (A.deeper (envOfC qual scope s0.heap.objs.size f cd)) (spliced (backTo cpos (starEach (e::es) (envOfC qual scope s0.heap.objs.size f cd)))) _ _ s:=ha'
  rw [he]at ha2 ⊢
  refine Calls.evalArgs_plain (thn ha2 fun us s2 ⟨vs,H2,I2,r,z,q2⟩=>⟨rfl,by rw [<-r.length];exact z,I2.bk _ _ hC,hN.keeps I2.bk,TL.keeps I2.bk,fun h' x' hm'=> ?_⟩)
  show wpAny _ _ (leaving _ (.ref x')) _ _ _
  refine wpAny_leaves_madeW (base:=PySem.W.hideAll s2.heap (frs (envOfC qual scope s0.heap.objs.size f cd::outer))) (h:=s2.heap) I2.ok.frames rfl (fun b o q=>PySem.W.of_hideAll _ q) (PySem.W.funFrames_hide I2.stack fun env he b hb=>List.mem_filterMap.mpr ⟨env,he,hb⟩) hm' fun h'' t' fl _ _ up=> ?_
  exact⟨x',C,.ref t',_,H2,rfl,I2.os,I2.bare,fl,(I2.fx rfl).step fl.1 ((Heap.UpToSlots.of_keeps hm'.keeps).trans up),q2⟩
end
theorem Ep {C:Addr}{E:XK}{t:TA}{D:Ends}{σ:St}{H:Hp}:Sv C E t D σ H=t σ H (fun vs H1=>vs.length<=sizeLine/\E (.ref C) none H1):=rfl
theorem PS.nox {X:Cx}{st:Stmt}{t:TS} (h:PS X.nox st t):PS X st t:=fun pins s σ H D I hw=>
  wpAny_mono (h pins s σ H D (I.wish _) hw) (fun _ _ q=>q.unwish) fun _ _ z=>False.elim z
theorem Fun.okE {P:Program}{w:World}{K:PySem.W.Frag}{mg:Str->Option Value}{base:Heap}{x qual:Str}{st:Stmt}{f:Addr}{fd:FuncData}{N ps:List Str}{k:Nat}{sp:Sp} (F:Fun K x qual st f fd) (S:Aq N ps (Ah st)) (len:∀vs H Q E,sp vs H Q E->vs.length=ps.length)
    (hbody:∀(cdv:Value) (A:Around) (outer:List Env) (s:Shared) (H:Hp) (vs:List V) (Q:VK) (E:XK),Fv k (A.deeper (envOfC qual (Ah st) s.heap.objs.size f cdv))->sp vs H Q E->
      ∃t,PSs (Jh (CXE P w) P w K mg base N qual (Ah st) f cdv A outer s H E) (Dk st) t/\t { nx:=fun _ H'=>Q .non H',rt:=Q} (start N vs) H):J0 P w K mg base (CXE P w) (k+1) f fd ps sp:=by
  obtain⟨oc,od,kV,doc,pm,an,cdv,ct,osl,rfl,lk,hcd⟩:=F.ex
  exact Xy lk hcd S len fun A outer s H vs Q E hr hsp=>hbody cdv A outer s H vs Q E hr hsp
def Qv (P:Program) (w:World) (K:PySem.W.Frag) (mg:Str->Option Value) (base:Heap) (k:Nat) (x:Str) (ps:List Str) (sp:Sp):Prop:=
  ∃f fd,J0 P w K mg base (CXE P w) k f fd ps sp/\mg x=some (.ref f)/\PySem.W.keepIn K (.ref f)=true/\Binds K fd ps []
theorem Df.calE {P:Program}{w:World}{K:PySem.W.Frag}{mg:Str->Option Value}{base:Heap}{k:Nat}{x:Str}{st:Stmt}{ps:List Str}{f:Addr}{fd:FuncData}{sp:Sp}
    (F:Df K mg x st ps f fd) (G:J0 P w K mg base (CXE P w) k f fd ps sp):Qv P w K mg base k x ps sp:=⟨f,fd,G,F.at',F.fn.kp,F.bd⟩
theorem Qv.calm {P:Program}{w:World}{K:PySem.W.Frag}{mg:Str->Option Value}{base:Heap}{k:Nat}{x:Str}{ps:List Str}{sp sp':Sp}
    (C:Qv P w K mg base k x ps sp) (h:∀vs H Q E,sp' vs H Q E->sp vs H Q E0):Cal P w K mg base k x ps sp':=by
  obtain⟨f,fd,G,a,b,c⟩:=C
  refine⟨f,fd,⟨fun vs H Q E z=>G.len vs H Q E0 (h _ _ _ _ z),fun A outer s H args us vs Q E hr he hb hv hs=> ?_⟩,a,b,c⟩
  refine codeAny_mono (G.run A outer s H args us vs Q E0 hr he hb hv (h _ _ _ _ hs)) fun r s' q=> ?_
  cases r with
  | ok fl=>cases fl<;>exact q
  | error e=>
    obtain⟨_,_,_,_,_,_,_,_,_,_,z⟩:=q
    exact z.elim
section
variable {P:Program}{w:World}{K:PySem.W.Frag}{mg:Str->Option Value}{base:Heap}{N:List Str}{qual:Str}{scope:Scope}{f:Addr}{cd:Value}{A:Around}{outer:List Env}{s0:Shared}{H0:Hp}{E:XK}
theorem Dn {k:Nat}{x:Str}{ps:List Str}{sp:Sp}{p pos:Pos}{e:Expr}{es:List Expr}{t:TA}
    (C:Qv P w K mg base k x ps sp) (hr:Fv k (A.deeper (envOfC qual scope s0.heap.objs.size f cd))) (ha:PA (Jh (CXE P w) P w K mg base N qual scope f cd A outer s0 H0 E) (e::es) t) (hg:Gl (Jh (CXE P w) P w K mg base N qual scope f cd A outer s0 H0 E) x:=by rfl) (hdb:(x==("__debug__":Str))=false:=by decide)
    (he:starEach (e::es) (envOfC qual scope s0.heap.objs.size f cd)=(false,eval e (envOfC qual scope s0.heap.objs.size f cd))::starEach es (envOfC qual scope s0.heap.objs.size f cd):=by rfl)
    (hpl:(backTo pos (starEach es (envOfC qual scope s0.heap.objs.size f cd))).any (·.1)=false:=by rfl):
    PE (Jh (CXE P w) P w K mg base N qual scope f cd A outer s0 H0 E) (.Call (.Name x p) (e::es) [] pos) (Od sp [] E t):=by
  obtain⟨f',fd,G,a,b,c⟩:=C
  exact Sy (X:=Jh (CXE P w) P w K mg base N qual scope f cd A outer s0 H0 E) G hr hg a b c .nil Ze ha hdb he hpl
end
end L2
namespace L2
open PySem PySem.Spec PyProof.Rows
set_option maxRecDepth 100000
abbrev Cx.caught (X:Cx) (x:Addr) (oe:Obj):Cx:={ X with A:=X.A.mark (some (.ref x)),calm:=false,pn:=(x,oe)::X.pn,xe:=fun _ _=>False}
section
variable {X:Cx}{pins:List (Addr × Obj)}{σ:St}{H:Hp}{s:Shared}{x:Addr}{oe:Obj}
theorem Cx.Ok.caught (ok:X.Ok) (x:Addr) (oe:Obj):(X.caught x oe).Ok:=
  ⟨ok.mod,ok.kind,ok.glob,ok.blt,ok.above,ok.inj,ok.has,ok.cab,(fun z=>nomatch z),ok.frames,ok.stk,ok.exf,ok.bs,ok.bsz,ok.noex,ok.exfs,ok.funs,ok.frf⟩
theorem Inv.caught (I:Inv X pins σ H s) (e:s.heap.get? x=some oe) (n:H x=none) (l:x≠X.env.locals) (f:x∉X.fs) (d:∀v,oe.data≠ .cell v):Inv (X.caught x oe) pins σ H s:=
  ⟨I.ok.caught x oe,I.os,I.bare,I.base,I.loc,I.cell,I.free,I.freeC,fun p hp=>(List.mem_cons.mp hp).elim (fun z=>by rw [z];exact⟨e,n,l,f,d⟩) (I.pin p),I.hok,I.len⟩
theorem Inv.uncaught (ok:X.Ok) (I:Inv (X.caught x oe) pins σ H s):Inv X pins σ H s:=
  ⟨ok,I.os,I.bare,I.base,I.loc,I.cell,I.free,I.freeC,fun p hp=>I.pin p (List.mem_cons_of_mem _ hp),I.hok,I.len⟩
theorem Inv.gone {i:Nat}{n:Str}{m:Str->Option Value}{v:Option Value}{h':Heap}{t':Nat} (I:Inv X pins σ H s) (hN:X.N.Nodup) (hi:X.N[i]? =some n)
    (hl:∀(i:Nat) (x:Str) (v:V),X.N[i]? =some x->σ[i]? =some (some v)->Vis X.env.scope x->∃u,RelV v u/\Look X.env s.heap m x u) (hn:s.heap.Ns X.env.locals m)
    (hn':h'.Ns X.env.locals (fun x=>if x=n then v else m x)) (hs:Heap.SameBut X.env.locals s.heap h'):Inv X pins (σ.set i none) H { s with heap:=h',toks:=t'}:=by
  obtain⟨oL,_,_,hoL,_⟩:=id hn
  have cne:=I.cne
  have up:∀ {b:Addr}{o:Obj},X.s₀.heap.get? b=some o->b≠X.env.locals:=fun e=>Nat.ne_of_lt (Nat.lt_of_lt_of_le (Heap.lt_size e) I.ok.above)
  refine⟨I.ok,I.os,I.bare,⟨fun b o e n hb hx=>(hs.2 b (up e)).trans (I.base.keep b o e n hb hx),fun b o e n hb hx=> ?_,I.base.free,fun b o e hx=> ?_,I.base.tups,I.base.frzs,I.base.tbls⟩,⟨_,hn',fun j y v' e1 e2 e3=> ?_⟩,fun y c e=> ?_,I.free,I.freeC,fun p hp=> ?_,fun b ob e=> ?_,by simpa using I.len⟩
  . obtain⟨sl,e1⟩:=I.base.slot b o e n hb hx
    exact⟨sl,(hs.2 b (up e)).trans e1⟩
  . obtain⟨o',e1⟩:=I.base.there b o e hx
    exact⟨o',(hs.2 b (up e)).trans e1⟩
  . have hj:j≠i:=fun z=>by
      subst z
      rw [List.getElem?_set]at e2
      simp at e2
    rw [List.getElem?_set_ne (Ne.symm hj)]at e2
    obtain⟨u',r',q⟩:=hl j y v' e1 e2 e3
    refine⟨u',r',?_⟩
    rcases q with⟨k,e⟩ | ⟨k,c,e,z⟩
    . refine .inl ⟨k,?_⟩
      have:y≠n:=fun e=>hj (K4 hN e1 (e▸hi))
      simp [this,e]
    . exact .inr ⟨k,c,e,z.sameBut hs (cne y c e)⟩
  . obtain⟨w',z⟩:=I.cell y c e
    exact⟨w',z.sameBut hs (cne y c e)⟩
  . obtain⟨e,n,ne,nf,d⟩:=I.pin p hp
    exact⟨(hs.2 p.1 ne).trans e,n,ne,nf,d⟩
  . refine(I.hok b ob e).stay (fun c w' hc q=>(hs.2 c ?_).trans q) (fun _ q=>q) fun _ _ q=>q
    rintro rfl
    rcases hc with rfl | hc
    . rw [I.free]at e;cases e
    . rw [I.free]at hc;cases hc
end
def O9 (X:Cx) (st:Stmt) (e:Expr) (g:V->St->St):Prop:=∀(pins:List (Addr × Obj)) (s:Shared) (σ:St) (H:Hp) (E:Value->Shared->Prop) (Q:VK) (R:Flow->Shared->Prop),Inv X pins σ H s->
  wpAny (model X.prog X.w) X.A (eval e X.env) (EP X pins σ Q) E s->(∀v H1 s1,Q v H1->Inv X pins (g v σ) H1 s1->R .next s1)->wpAny (model X.prog X.w) X.A (exec st X.env) R E s
theorem Gi {X:Cx}{e:Expr}{pos:Pos} (hs:swapsWith e none pos.line X.env=pure false:=by rfl):O9 X (.Expr e pos) e (fun _ σ=>σ):=by
  intro pins s σ H E Q R I h k
  exact wpAny_Expr_any (thn h fun v s1 ⟨y,H1,I1,_,q1⟩=>k y H1 s1 q1 I1) I.quiet hs
def R5 (sp:Sp) (C:Addr) (g:V->St->St) (i:Nat) (ta:TA) (ts:Addr->Obj->TS):TS:=fun D σ H=>ta σ H fun vs H1=>sp vs H1 (fun v H2=>D.nx (g v σ) H2)
  (fun c _ H2=>c= .ref C/\∀x oe,oe.cls= .ref C->ts x oe { nx:=fun σ' H'=>D.nx (σ'.set i none) H',rt:=D.rt,bk:=fun σ' H'=>D.bk (σ'.set i none) H',ct:=fun σ' H'=>D.ct (σ'.set i none) H'} (σ.set i (some (.ref x))) H2)
def Aap (sp:Sp) (C:Addr) (g:V->St->St) (ta:TA) (ts:Addr->Obj->TS):TS:=fun D σ H=>ta σ H fun vs H1=>sp vs H1 (fun v H2=>D.nx (g v σ) H2)
  (fun c _ H2=>c= .ref C/\∀x oe,oe.cls= .ref C->ts x oe D σ H2)
theorem Ec {sp:Sp}{C:Addr}{g:V->St->St}{i:Nat}{ta:TA}{ts:Addr->Obj->TS}{D:Ends}{σ:St}{H:Hp}:R5 sp C g i ta ts D σ H=ta σ H (fun vs H1=>sp vs H1 (fun v H2=>D.nx (g v σ) H2)
  (fun c _ H2=>c= .ref C/\∀x oe,oe.cls= .ref C->ts x oe { nx:=fun σ' H'=>D.nx (σ'.set i none) H',rt:=D.rt,bk:=fun σ' H'=>D.bk (σ'.set i none) H',ct:=fun σ' H'=>D.ct (σ'.set i none) H'} (σ.set i (some (.ref x))) H2)):=rfl
theorem Nf {sp:Sp}{C:Addr}{g:V->St->St}{ta:TA}{ts:Addr->Obj->TS}{D:Ends}{σ:St}{H:Hp}:Aap sp C g ta ts D σ H=ta σ H (fun vs H1=>sp vs H1 (fun v H2=>D.nx (g v σ) H2)
  (fun c _ H2=>c= .ref C/\∀x oe,oe.cls= .ref C->ts x oe D σ H2)):=rfl
section
variable {X:Cx}{pins:List (Addr × Obj)}{σ:St}{H:Hp}{s s':Shared}{C:Addr}{e:Value}{cx n:Str}{np pos hpos:Pos}{b0:Stmt}{suite:List Stmt}{D:Ends}{i:Nat}{ts:Addr->Obj->TS}
theorem looked {R:Flow->Shared->Prop}{E2:Hp->Prop}{nm:Option Str}{body:List Stmt} (I:Inv X pins σ H s) (h:CXE X.prog X.w X.stack H s (fun c _ H2=>c= .ref C/\E2 H2) e s') (hq:Q0 X.K C) (hm:X.mg cx=some (.ref C)) (hst:X.stack=X.env::X.outer) (hf:X.env.frame=some X.env.locals) (hg:Gl X cx) (hdb:(cx==("__debug__":Str))=false)
    (k:∀x oe H' h6 (g':Array GenState) d' t' o',oe.cls= .ref C->E2 H'->Inv (X.caught x oe) pins σ H' ⟨h6,g',d',t',o'⟩->∀B a0 h5,Heap.FlyingW B X.stack x (.ref C) a0 h5->(∀h7,Heap.FlyingW B X.stack x (.ref C) a0 h7->h5.UpToSlots h7->∃oe',oe'.cls= .ref C/\Inv (X.caught x oe') pins σ H' ⟨h7,g',d',t',o'⟩)->
      codeAny (model X.prog X.w) (X.A.mark (some (.ref x))) (.handlers (.ref x) [.ExceptHandler none nm body hpos] X.env) (fun r s₂=>match r with
          | .ok f=>(match nm with
            | none=>R f s₂
            | some n=>wpAny (model X.prog X.w) X.A (do bindName X.env n .none;unbindBehindTheSuite X.env n hpos) (fun _ s₃=>R f s₃) X.xe s₂)
          | .error y=>cameBackBy (model X.prog X.w) X.A X.env X.xe y s₂) ⟨h5,g',d',t',o'⟩):
    wpAny (model X.prog X.w) X.A (noteFrame e X.env) (fun _ s₂=>wpAny (model X.prog X.w) X.A (setFlight e none) (fun _ s₃=>wpAny (model X.prog X.w) X.A (handleBy e X.env [.ExceptHandler (some (.Name cx np)) nm body hpos]) R X.xe s₃) X.xe s₂) X.xe s':=by
  obtain⟨x,C',a0,B,H',rfl,os,bare,fl,fx,⟨eC,q⟩⟩:=h
  cases eC
  obtain⟨hh,gg,dd,tt,oo⟩:=s'
  have cau:∀h7,Heap.FlyingW B X.stack x (.ref C) a0 h7->FX X.prog X.w (frs X.stack) H s.heap B H' h7->∃oe',oe'.cls= .ref C/\Inv (X.caught x oe') pins σ H' ⟨h7,gg,dd,tt,oo⟩:=fun h7 fl7 fx7=>by
    have J:Inv X pins σ H' ⟨h7,gg,dd,tt,oo⟩:=I.call' (s':=⟨h7,gg,dd,tt,oo⟩) (ch:=[]) os fx7.un fx7.hok bare fun b z=>absurd z (by simp)
    obtain⟨oe,vs,hoe,hc,hd,_⟩:=fl7.first
    have hx:x∉frs X.stack:=fun z=>by
      obtain⟨_,o,ho,hnf⟩:=fl7.2.2.1.mem z
      rw [hoe]at ho;cases ho
      exact hnf vs hd
    refine⟨oe,hc,J.caught hoe ?_ ?_ ?_ fun v z=>by rw [hd]at z;cases z⟩
    . cases z:H' x with
      | none=>rfl
      | some u=>
        obtain⟨o,eo⟩:=fx7.k2 x u z
        rw [fl7.2.1]at eo;cases eo
    . intro z
      exact hx (by rw [hst,z];unfold frs;rw [List.filterMap_cons,hf];exact List.mem_cons_self)
    . intro z
      exact hx (by rw [hst];unfold frs;rw [List.filterMap_cons,hf];exact List.mem_cons_of_mem _ z)
  have fl0:=fl
  rw [hst]at fl0
  refine wpAny_looks_onW (hst▸I.ok.frames) hf fl0 fun h4 held4 up4=> ?_
  refine wpAny_landsW held4 fun h5 fl5 up5=> ?_
  have fx5:=(fx.step held4.1 up4).step fl5.1 up5
  rw [<-hst]at fl5
  obtain⟨oe5,hc5,J5⟩:=cau h5 fl5 fx5
  refine wpAny_handleBy_cons (codeAny_handlers_test (Jr J5 hg hm ?_ hdb)) (by intro q;cases q)
  obtain⟨bm,N',nm',q',bs,hdct,sn,sub,ab,col,dd',k0,k1,k2,k3,k5,mN,hC,hN,hni,TL⟩:=hq.obj J5.kIn
  obtain⟨ob,hob,hobc⟩:=fl5.there
  refine wpAny_excMatches_sub_self hC hob hobc (TL.hasType (by decide)) ?_
  exact k x oe5 H' h5 gg dd tt oo hc5 q J5 B a0 h5 fl5 fun h7 fl7 up7=>cau h7 fl7 (fx5.step fl7.1 up7)
theorem SP.uncaught {x:Addr}{oe:Obj} (ok:X.Ok) {f:Flow} (h:SP (X.caught x oe) pins D f s):SP X pins D f s:=by
  cases f with
  | next=>obtain⟨σ',H',I,q⟩:=h;exact⟨σ',H',I.uncaught ok,q⟩
  | brk=>obtain⟨σ',H',I,q⟩:=h;exact⟨σ',H',I.uncaught ok,q⟩
  | cont=>obtain⟨σ',H',I,q⟩:=h;exact⟨σ',H',I.uncaught ok,q⟩
  | ret u=>obtain⟨v,σ',H',I,r,q⟩:=h;exact⟨v,σ',H',I.uncaught ok,r,q⟩
theorem tried {k:Nat}{f:Str}{ps:List Str}{sp:Sp}{a:Expr}{as:List Expr}{ta:TA}{E:XK}{Q:VK}{XE:Value->Shared->Prop}{p cpos:Pos} (Ca:Qv X.prog X.w X.K X.mg X.base k f ps sp) (hr:Fv k X.A) (ha:PA X.nox (a::as) ta) (I:Inv X pins σ H s)
    (h:ta σ H fun vs H1=>sp vs H1 Q E) (hx:∀s1 H1 e s',Inv X pins σ H1 s1->CXE X.prog X.w X.stack H1 s1 E e s'->XE e s') (hg:Gl X f) (hdb:(f==("__debug__":Str))=false) (he:starEach (a::as) X.env=(false,eval a X.env)::starEach as X.env) (hpl:(backTo cpos (starEach as X.env)).any (·.1)=false):
    wpAny (model X.prog X.w) X.A (eval (.Call (.Name f p) (a::as) [] cpos) X.env) (EP X pins σ Q) XE s:=by
  obtain⟨f',fd,G,hm,hk,hb⟩:=Ca
  refine wpAny_Call_Name_kw (Jr I hg hm ?_ hdb)
  refine PySem.W.callWith_K (h₀:=X.base) I.ok.mod.kin hk (wpAny_mono (ha cpos pins s σ H _ (I.wish _) h) (fun us s1 ⟨vs,H1,I1,r,q⟩=>⟨I1.unwish.kIn,?_⟩) fun _ _ z=>False.elim z) he hpl
  have I1:Inv X pins σ H1 s1:=I1.unwish
  have hl:us.length=ps.length:=by rw [<-r.length];exact G.len _ _ _ _ q
  have hb':=hb s1 us I1.kIn (by rw [List.append_nil];exact hl)
  rw [List.append_nil]at hb'
  refine wpAny_call (codeAny_mono (G.run X.A X.stack s1 H1 ⟨us,[]⟩ us vs Q E hr I1.env0 hb' r q) fun r s' hq=> ?_)
  cases r with
  | error e=>exact hx s1 H1 e s' I1 hq
  | ok fl=>
    cases fl with
    | ret u=>exact I1.after hq
    | next=>exact False.elim hq
    | brk=>exact False.elim hq
    | cont=>exact False.elim hq
end
section
variable {X:Cx}{C:Addr}{cx n f:Str}{np p cpos pos hpos:Pos}{b0 st:Stmt}{suite:List Stmt}{i k:Nat}{ts:Addr->Obj->TS}{ps:List Str}{sp:Sp}{a:Expr}{as:List Expr}{ta:TA}{g:V->St->St}
theorem Bk (Ca:Qv X.prog X.w X.K X.mg X.base k f ps sp) (hr:Fv k X.A) (ha:PA X.nox (a::as) ta) (hb:O9 X st (.Call (.Name f p) (a::as) [] cpos) g) (hq:Q0 X.K C) (hm:X.mg cx=some (.ref C))
    (hs:∀x oe,oe.cls= .ref C->PSs (X.caught x oe) (b0::suite) (ts x oe)) (hN:X.N.Nodup) (hi:X.N[i]? =some n) (hst:X.stack=X.env::X.outer:=by rfl) (hf:X.env.frame=some X.env.locals:=by rfl) (hgc:Gl X cx:=by rfl) (hdc:(cx==("__debug__":Str))=false:=by decide)
    (hg:Gl X f:=by rfl) (hdb:(f==("__debug__":Str))=false:=by decide) (he:starEach (a::as) X.env=(false,eval a X.env)::starEach as X.env:=by rfl) (hpl:(backTo cpos (starEach as X.env)).any (·.1)=false:=by rfl) (hn:X.env.kindOf n=some .local :=by rfl) (hln:Loc X.env.scope n:=by exact Or.inl rfl) (hfn:X.env.scope.names.lookup n=some .local :=by rfl):
    PS X (.Try [st] [.ExceptHandler (some (.Name cx np)) (some n) (b0::suite) hpos] [] [] pos) (R5 sp C g i ta ts):=by
  intro pins s σ H D I h
  refine wpAny_Try_except (wpAny_execs_cons (hb pins s σ H _ (fun v H2=>D.nx (g v σ) H2) _ I (tried Ca hr ha I h (fun s1 H1 e s' I1 z=> ?_) hg hdb he hpl) fun v H1 s1 q I1=>wpAny_execs_nil (wpAny_execs_nil ⟨_,_,I1,q⟩)))
  refine looked I1 z hq hm hst hf hgc hdc fun x oe H' h6 g' d' t' o' hc q J B a0 h5 fl nxt=> ?_
  refine codeAny_handlers_suite_as ?_
  refine lands_againW fl fun h7 fl7 up7=> ?_
  obtain⟨oe',hc',J7⟩:=nxt h7 fl7 up7
  refine Gj (X:=X.caught x oe') J7 hN hi hln (v:= .ref x) (u:= .ref x) rfl (fun s8 I8=> ?_) (.inr hfn)
  refine wpAny_mono (hs x oe' hc' pins s8 _ H' _ I8 (q x oe' hc')) (fun fl s9 q9=> ?_) fun _ _ z=>False.elim z
  have go:∀ {σ':St}{H'':Hp}{R:Unit->Shared->Prop},Inv (X.caught x oe') pins σ' H'' s9->(∀s10,Inv X pins (σ'.set i none) H'' s10->R () s10)->wpAny (model X.prog X.w) X.A (do bindName X.env n .none;unbindBehindTheSuite X.env n hpos) R X.xe s9:=fun {σ' H'' R} J k=>by
    have J':=J.uncaught I.ok
    obtain⟨m,hn',hl⟩:=id J'.loc
    refine wpAny_nameGoes_keeps hn hn' (by rw [I.ok.kind];rfl) fun h' v hv hsb=>k _ ?_
    exact J'.gone hN hi hl hn' hv hsb
  cases fl with
  | next=>obtain⟨σ',H'',J9,q⟩:=q9;exact go J9 fun s10 J=>⟨_,_,J,q⟩
  | brk=>obtain⟨σ',H'',J9,q⟩:=q9;exact go J9 fun s10 J=>⟨_,_,J,q⟩
  | cont=>obtain⟨σ',H'',J9,q⟩:=q9;exact go J9 fun s10 J=>⟨_,_,J,q⟩
  | ret u=>obtain⟨v,σ',H'',J9,r,q⟩:=q9;exact go J9 fun s10 J=>⟨v,_,_,J,r,q⟩
end
end L2
namespace L2
open PySem PySem.Spec PyProof.Rows
set_option maxRecDepth 100000
structure Rv (K:PySem.W.Frag) (C:Addr):Prop where
  ga:PySem.W.findIn K (.ref C) "__getattribute__"=some (some (.builtin "BaseException.__getattribute__"))
  gn:PySem.W.findIn K (.ref C) "__getattr__"=some none
  cl:PySem.W.findIn K (.ref C) "__class__"=some (some (.builtin "object.__class__"))
  ob:PySem.W.mroIn K C (.type "object")=some true
  be:PySem.W.mroIn K C (.type "BaseException")=some true
theorem Rv.is {K:PySem.W.Frag}{C:Addr} (Z:Rv K C):(PySem.W.clsIn K C).isSome=true:=by
  obtain⟨cd,a,_⟩:=Option.bind_eq_some_iff.mp Z.ob
  rw [a];rfl
section
variable {prog:Program}{w:World}{A:Around}{E:Value->Shared->Prop}{K:PySem.W.Frag}{x C:Addr}{oe:Obj}{h:Heap}{g:Array GenState}{d:Drawn}{t:Nat}{os:OsState}
theorem Vq {M:Model} (hx:h.get? x=some oe) (hc:oe.cls= .ref C):PySem.W.Looks M h (typeOf (.ref x)) (.ref C):=hc▸(PySem.W.Looks.ld hx).andThen .now
theorem Us {R:Result->Shared->Prop} (X:K.In h) (Z:Rv K C) (hx:h.get? x=some oe) (hc:oe.cls= .ref C) (q:R (.ok (.ret (.ref C))) ⟨h,g,d,t,os⟩):
    codeAny (model prog w) A (.call (.builtin "getset_descriptor.__get__") ⟨[.builtin "object.__class__",.ref x,.ref C],[]⟩) R ⟨h,g,d,t,os⟩:=by
  have l0:=Vq (M:=model prog w) hx hc
  have l1:=PySem.W.looks_mroIn (M:=model prog w) X Z.ob
  have tg:(⟨h,g,d,t,os⟩:Shared).TypeIs (.builtin "object.__class__") "getset_descriptor":=PySem.W.KF.type_class
  have ow:(".".intercalate ("object.__class__".cutAt '.').dropLast)="object":=by decide+kernel
  refine codeAny_call_builtin PySem.F.slot_gs_get.plain PySem.F.entry_gs_get (PySem.F.slot_gs_get.check _ _ _ _ _ _ _ _ tg (PySem.F.args_gs_get _ _ _) ?_)
  repeat (any_goals (first | assumption | (with_reducible refine wpAny_loadPart_at hx ?_;rw [hc]) | (rw [ow];with_reducible refine l1.at ?_) | wp_step))
  refine⟨Code.quiet_builtin _ (by decide+kernel),codeAny_builtin PySem.W.KF.entry_class ?_⟩
  unfold Builtin.«object.__class__» shownTypeOf
  repeat (any_goals (first | assumption | (with_reducible refine wpAny_loadPart_at hx ?_;rw [hc]) | wp_step))
theorem U6 {tk:Tok}{Q:Fin->Shared->Prop} (X:K.In h) (Z:Rv K C) (hx:h.get? x=some oe) (hc:oe.cls= .ref C) (q:Q (.done (.ret (.ref C))) ⟨h,g,d,t,os⟩):
    wpAny (model prog w) A (Builtin.«object.__getattribute__» ⟨[.ref x,.str "__class__" tk],[]⟩) Q E ⟨h,g,d,t,os⟩:=by
  have tg:(⟨h,g,d,t,os⟩:Shared).TypeIs (.builtin "object.__class__") "getset_descriptor":=PySem.W.KF.type_class
  have l2:=PySem.W.looks_findIn (M:=model prog w) X Z.cl
  have f5:=PySem.W.KF.type_class
  have f6:=PySem.F.slot_gs_get.lookup
  have f7:=PySem.F.slot_gs_set.lookup
  repeat (any_goals (first | assumption | (with_reducible refine wpAny_loadPart_at hx ?_;rw [hc]) | with_reducible refine l2.at ?_ | wp_step))
  refine Us X Z hx hc ?_
  repeat (any_goals (first | assumption | wp_step))
theorem Uu {M:Model}{nv:Value}{Q:Unit->Shared->Prop} (X:K.In h) (Z:Rv K C) (hx:h.get? x=some oe) (hc:oe.cls= .ref C) (q:Q () ⟨h,g,d,t,os⟩):wpAny M A (checkBuiltinCall "BaseException.__getattribute__" ⟨[.ref x,nv],[]⟩) Q E ⟨h,g,d,t,os⟩:=by
  have k1:builtinKind "BaseException.__getattribute__"=some .slot:=by decide+kernel
  have k2:splitId "BaseException.__getattribute__"=some ("BaseException","__getattribute__"):=by decide+kernel
  have l1:=PySem.W.looks_mroIn (M:=M) X Z.be
  have ar:=PySem.F.args_bexc_ga (.ref x) nv
  simp only [checkBuiltinCall,k1,k2]
  refine wpAny_bind ?_
  unfold isInstance
  repeat (any_goals (first | assumption | (with_reducible refine wpAny_loadPart_at hx ?_;rw [hc]) | with_reducible refine l1.at ?_ | wp_step))
theorem Wb {tk:Tok}{Q:Value->Shared->Prop} (X:K.In h) (Z:Rv K C) (hx:h.get? x=some oe) (hc:oe.cls= .ref C) (q:Q (.ref C) ⟨h,g,d,t,os⟩):
    wpAny (model prog w) A (getAttrBy (.ref x) (.str "__class__" tk) false) Q E ⟨h,g,d,t,os⟩:=by
  have f3:=PySem.F.attr_ValueError.ga.bind (.ref x)
  have y0:(false&&onTheHeap (Value.builtin "BaseException.__getattribute__"))=false:=rfl
  have y1:(onTheHeap (Value.ref C)&&Value.builtin "BaseException.__getattribute__"==Value.builtin "object.__getattribute__")=false:=by
    rw [show(Value.builtin "BaseException.__getattribute__"==Value.builtin "object.__getattribute__")=false by decide+kernel];rfl
  have l2:=PySem.W.looks_findIn (M:=model prog w) X Z.ga
  have l3:=PySem.W.looks_findIn (M:=model prog w) X Z.gn
  repeat (any_goals (first | assumption | (with_reducible refine wpAny_loadPart_at hx ?_;rw [hc]) | with_reducible refine l2.at ?_ | with_reducible refine l3.at ?_ | wp_step))
  refine codeAny_call_builtin PySem.F.attr_ValueError.ga.plain PySem.F.entry_bexc_ga (Uu X Z hx hc (U6 X Z hx hc ?_))
  repeat (any_goals (first | assumption | wp_step))
theorem Ti {Q:Option Value->Shared->Prop} (X:K.In h) (Z:Rv K C) (hx:h.get? x=some oe) (hc:oe.cls= .ref C) (q:Q (some (.ref C)) ⟨h,g,d,t+1,os⟩):
    wpAny (model prog w) A (getAttr? (.ref x) "__class__") Q E ⟨h,g,d,t,os⟩:=by
  unfold getAttr? getAttrBy?
  repeat (any_goals (first | assumption | with_reducible apply Wb X Z hx hc | wp_step))
theorem Pj (Z:Rv K C) (hc:oe.cls= .ref C):PySem.W.KitX K (.ref x) (.ref C) (fun h=>h.get? x=some oe) where
  ty:=fun _ _ _ hx=>Vq hx hc
  it:=fun M h X _=>by
    obtain⟨cd,e⟩:=Option.isSome_iff_exists.mp Z.is
    unfold PySem.W.clsIn at e
    split at e
    . rename_i c1 d1 cd1 sl1 ho
      intro A' Q' E' s' k q
      unfold isType loadHead
      exact wpAny_bind (wpAny_loadPart (k _ _ (X _ _ ho)) (wpAny_pure q))
    . cases e
  ne:=fun h tp dd its n sl X htp=>by
    obtain⟨cd,e⟩:=Option.isSome_iff_exists.mp Z.is
    refine Bool.eq_false_iff.mpr fun q=> ?_
    cases Value.ref.inj (beq_iff_eq.mp q)
    unfold PySem.W.clsIn at e
    split at e
    . rename_i c1 d1 cd1 sl1 ho
      cases(X _ _ ho).symm.trans htp
    . cases e
  ca:=fun {_ _ _ _ _ s} X hx q=>by
    obtain⟨h,g,d,t,os⟩:=s
    exact Ti X Z hx hc q
end
theorem Jd {X:Cx}{x C:Addr}{oe:Obj} (hp:(x,oe)∈X.pn) (hc:oe.cls= .ref C) (Z:Rv X.K C):Fj X (.builtin "isinstance") (fun xs H Q=>∃b,((∃C2,xs=[.ref x,.ref C2]/\PySem.W.kitOne X.K (.ref C) (.ref C2)=some b)\/∃T,xs=[.ref x,.ty T]/\PySem.W.kitOne X.K (.ref C) (.type T)=some b)/\Q (.bl b) H):=by
  intro pins s σ H xs us Q I r h
  obtain⟨b,h,q⟩:=h
  have hx:=(I.pin (x,oe) (List.mem_append_left _ hp)).1
  rcases h with⟨C2,rfl,e⟩ | ⟨T,rfl,e⟩
  . obtain⟨u,c,rfl,ru,rc⟩:=vals2 r
    cases ru;cases rc
    exact PySem.W.kia_one (Pj Z hc) I.kIn hx e (fun z=>nomatch z) fun tk=>⟨.bl b,H,I.tok tk,rfl,q⟩
  . obtain⟨u,c,rfl,ru,rc⟩:=vals2 r
    cases ru;cases rc
    exact PySem.W.kia_one (Pj Z hc) I.kIn hx e (fun z=>nomatch z) fun tk=>⟨.bl b,H,I.tok tk,rfl,q⟩
theorem nw {H H':Hp}{p:Addr}{o:HO} (hp:H p=none) (e:upd H p o=H'):Same H H'/\H' p=some o:=by
  subst e
  exact⟨Same.upd hp _,Ag⟩
end L2
namespace L2
open PySem PySem.Spec PyProof.Rows
def Bp:Expr->Bool
  | .Starred _ _=>false
  | _=>true
theorem Fb {e:Expr}{es:List Expr}{env:Env} (h:Bp e=true):starEach (e::es) env=(false,eval e env)::starEach es env:=by
  cases e<;>first | rfl | cases h
theorem Gp {env:Env}{pos:Pos}:∀ {es:List Expr},es.all Bp=true->(backTo pos (starEach es env)).any (·.1)=false
  | [],_=>rfl
  | e::es,h=>by
    rw [List.all_cons,Bool.and_eq_true]at h
    rw [Fb h.1]
    have ih:=Gp (env:=env) (pos:=pos) h.2
    unfold backTo at ih ⊢
    rw [List.map_cons,List.any_cons,ih]
    rfl
section
variable {X:Cx}{e:Expr}{es:List Expr}{te:TE}{t:TA}{x:Str}{p pos:Pos}{id T:String}{r:List V->Hp->VK->Prop}{k:Nat}{ps:List Str}{sp:Sp}
theorem Aa (ha:PE X e te) (hr:PA X es t) (h:Bp e=true:=by rfl):PA X (e::es) (Um te t):=Wr ha hr (Fb h)
theorem Br (hc:Fj X (.builtin id) r) (hg:Gl X x) (hm:X.mg x=none) (hv:bootBuiltins x=some (.builtin id)) (ha:PA X (e::es) t) (h1:Bp e=true:=by rfl) (h2:es.all Bp=true:=by rfl) (hn:x≠"__name__":=by decide) (hdb:(x==("__debug__":Str))=false:=by decide):
    PE X (.Call (.Name x p) (e::es) [] pos) (tCB r t):=Ur hc hg hm hv ha hn hdb (Fb h1) (Gp h2)
theorem Ei (hc:Fj X (.type T) r) (hg:Gl X x) (hm:X.mg x=none) (hv:bootBuiltins x=some (.type T)) (ha:PA X (e::es) t) (h1:Bp e=true:=by rfl) (h2:es.all Bp=true:=by rfl) (hn:x≠"__name__":=by decide) (hdb:(x==("__debug__":Str))=false:=by decide):
    PE X (.Call (.Name x p) (e::es) [] pos) (tCB r t):=R0 hc hg hm hv ha hn hdb (Fb h1) (Gp h2)
theorem Bf (C:Cal X.prog X.w X.K X.mg X.base k x ps sp) (hr:Fv k X.A) (ha:PA X (e::es) t) (h1:Bp e=true:=by rfl) (h2:es.all Bp=true:=by rfl) (hg:Gl X x:=by rfl) (hdb:(x==("__debug__":Str))=false:=by decide):
    PE X (.Call (.Name x p) (e::es) [] pos) (Od sp [] E0 t):=Ub C hr ha hg hdb (Fb h1) (Gp h2)
end
end L2
namespace L2
open PySem PySem.Spec PyProof.Rows
def Itd (lo:Int) (n:Nat):It:=⟨fun i _=>i<n,fun i H x H'=>H'=H/\x= .int (lo-i),fun i _=>n<=i⟩
theorem S5 {P:Program}{w:World}{K:PySem.W.Frag}{tg:Expr} (it:Addr) (lo:Int) (n:Nat):Turn P w K tg (Itd lo n) [it] it (fun i h=>IsRangeIter h it (lo+(i:Nat)*(-1)) ((n:Int)-(i:Nat)) (-1)) where
  mem:=by simp
  obj:=fun i h st b hb=>by
    have e:b=it:=by simpa using hb
    subst e
    exact⟨_,st,fun v z=>by
      have z':Data.fields _=Data.cell v:=z
      cases z'⟩
  keep:=fun i h h' st k=>k it (by simp) _ st
  item:=by
    intro X hP hw hK hc i pins s σ H E I hf st hg
    subst hP hw hK
    obtain⟨f0,f1,f2,f3,f4,f5⟩:=hf it (by simp)
    have W:=Walks.range (prog:=X.prog) (w:=X.w) (I.ok.hd hc) it lo (-1) n
    refine W.item i s _ _ hg st fun v h' tk hv st' kk=> ?_
    obtain⟨t,rfl⟩:=hv
    have I1:Inv X pins σ H { s with heap:=h',toks:=tk}:=I.turned (fun b o hb e=>kk b o (by simpa using hb) e) f0 f1 f3 f4 f5
    refine⟨_,rfl,Uw (s:={ s with heap:=h',toks:=tk}) (n:="range_iterator") st' rfl rfl (by decide) ⟨.int (lo-i),H,I1,⟨t,?_⟩,⟨rfl,rfl⟩,st',fun b hb=>(hf b hb).1⟩⟩
    rw [Int.mul_neg,Int.mul_one,<-Int.sub_eq_add_neg]
  done:=by
    intro X hP hw hK hc i pins s σ H E I hf st hg
    subst hP hw hK
    obtain⟨f0,f1,f2,f3,f4,f5⟩:=hf it (by simp)
    exact wpAny_pyNext_range_end (I.ok.hd hc) st (by have:n<=i:=hg;omega) fun h' eb=>⟨rfl,I.turned (t':=s.toks) (fun b o hb e=>eb b o hb e) f0 f1 f3 f4 f5⟩
  self:=fun _ _ _ _ _ st h=>wpAny_pyIter_rangeiter st h
section
variable {X:Cx}{tg:Expr}
theorem Wx {pins:List (Addr × Obj)}{σ:St}{H:Hp}{s:Shared}{R:It->Hp->Prop}{E:Value->Shared->Prop}{lo hi:Int}{t u v:Tok}{tk:Nat} (I:Inv X pins σ H s) (h1: -(2^62)<=lo) (h2:lo<2^62) (h3: -(2^62)<=hi) (h4:hi<2^62)
    (q:R (Itd lo (lo-hi).toNat) H):wpAny (model X.prog X.w) X.A (pyIter (.ref s.heap.objs.size)) (PIE X pins σ tg R) E { s with heap:=s.heap.push { cls:= .type "range",data:= .fields #[.int lo t,.int hi u,.int (-1) v]},toks:=tk}:=by
  refine wpAny_pyIter_range (IsRange.new ..) (PySem.W.small_down h1 h2 h3 h4) ?_
  have I1:Inv X pins σ H { s with heap:=s.heap.push { cls:= .type "range",data:= .fields #[.int lo t,.int hi u,.int (-1) v]},toks:=tk}:=I.kept fun b o e=>Heap.get?_push_of_some _ e
  refine⟨(s.heap.push { cls:= .type "range",data:= .fields #[.int lo t,.int hi u,.int (-1) v]}).objs.size,[(s.heap.push { cls:= .type "range",data:= .fields #[.int lo t,.int hi u,.int (-1) v]}).objs.size],_,_,H,rfl,
    I1.kept (t':=tk) fun b o e=>Heap.get?_push_of_some _ e,S5 _ lo (lo-hi).toNat,?_,fun b hb=> ?_,q⟩
  . have e1:lo+((0:Nat):Int)*(-1)=lo:=by simp
    have e2:(((lo-hi).toNat:Nat):Int)-((0:Nat):Int)=Builtin.Range.rangeSize lo hi (-1):=by rw [PySem.W.rangeSize_downNat];omega
    show IsRangeIter _ _ (lo+((0:Nat):Int)*(-1)) ((((lo-hi).toNat:Nat):Int)-((0:Nat):Int)) (-1)
    rw [e1,e2]
    exact Heap.get?_push_size _ rfl
  . have e:b=(s.heap.push { cls:= .type "range",data:= .fields #[.int lo t,.int hi u,.int (-1) v]}).objs.size:=by simpa using hb
    subst e
    exact I1.fpOk (Nat.le_refl _) (I1.hok.fresh (Nat.le_refl _))
def Wv (ta:TA):TI:=fun σ H R=>ta σ H fun vs H1=>∃i j:Int,vs=[.int i,.int j,.int (-1)]/\(-(2^62)<=i/\i<2^62/\ -(2^62)<=j/\j<2^62)/\R (Itd i (i-j).toNat) H1
theorem Jc {a b c:Expr}{ta:TA}{p pos:Pos} (hg:Gl X "range") (hm:X.mg "range"=none) (ha:PA X [a,b,c] ta) (h1:Bp a=true:=by rfl) (h2:[b,c].all Bp=true:=by rfl):
    PI X tg (.Call (.Name "range" p) [a,b,c] [] pos) (Wv ta):=by
  intro pins s σ H R I h
  refine Call_ (Kd I hg hm boot_range (PyProof.Rows.callWith_type1 (thn (ha pos pins s σ H _ I h) fun us s1 ⟨vs,H1,I1,r1,q1⟩=> ?_) (Fb h1) (Gp h2)))
  obtain⟨i,j,e,⟨q1,q2,q3,q4⟩,q⟩:=q1
  subst e
  cases r1 with
  | cons r rr=>
    cases rr with
    | cons r' rr=>
      cases rr with
      | cons r'' rr=>
        cases rr
        obtain⟨t,rfl⟩:=r
        obtain⟨t',rfl⟩:=r'
        obtain⟨t'',rfl⟩:=r''
        exact call_range_3 (by decide) (Wx I1 q1 q2 q3 q4 q) (.inl (PyProof.noPylong_of_log2 (by decide+kernel)))
theorem Hu {ta:TA}{σ:St}{H:Hp}{R:It->Hp->Prop}:Wv ta σ H R=ta σ H (fun vs H1=>∃i j:Int,vs=[.int i,.int j,.int (-1)]/\(-(2^62)<=i/\i<2^62/\ -(2^62)<=j/\j<2^62)/\R (Itd i (i-j).toNat) H1):=rfl
theorem M4 {i j:Int}{G:Int->Int->Prop}:(∃i' j':Int,[V.int i,.int j,.int (-1)]=[.int i',.int j',.int (-1)]/\G i' j')=G i j:=propext ⟨fun⟨_,_,e,h⟩=>by cases e;exact h,fun h=>⟨i,j,rfl,h⟩⟩
end
theorem Q9 {H:Hp}{lo:Int}{n:Nat}:Yc (Itd lo n) H (List.range n) (fun i=> .int (lo-(i:Nat))):=fun i=>by
  refine⟨fun e=> ?_,fun e h=> ?_⟩
  . have:=List.getElem?_eq_none_iff.mp e
    rw [List.length_range]at this
    exact this
  . obtain⟨h1,h2⟩:=List.getElem?_eq_some_iff.mp h
    rw [List.length_range]at h1
    rw [List.getElem_range]at h2
    subst h2
    exact⟨h1,fun x H3 ⟨a,b⟩=>⟨a,b⟩⟩
end L2
namespace L2
open PySem PySem.Spec PyProof.Rows
theorem Q8 (n:Nat):sliceRange ((n:Int)-1) (-1) (-1)=(List.range n).map fun(k:Nat)=>((n:Int)-1+(k:Int)*(-1)).toNat:=by
  unfold sliceRange
  dsimp only
  rw [if_neg (by decide)]
  have e:(if(n:Int)-1> -1 then((n:Int)-1- -1- -1-1)/(- -1)else 0).toNat=n:=by
    split
    . rw [show(- -1:Int)=1 from rfl,Int.ediv_one];omega
    . omega
  rw [e]
  refine List.map_congr_left fun k _=> ?_
  omega
theorem Rq (its:List Value):slicePick its.toArray none none (some (-1))=its.reverse.toArray:=by
  unfold slicePick
  have e:(sliceBounds none none (some (-1)) its.toArray.size)=((its.length:Int)-1,-1,-1):=by
    unfold sliceBounds
    simp
  rw [e]
  dsimp only
  rw [Q8,List.filterMap_map]
  exact congrArg List.toArray (Rr its)
section
variable {X:Cx}{e st:Expr}{te tst:TE}{pos p2:Pos}
def W0 (K:PySem.W.Frag) (te tst:TE):TE:=fun σ H Q=>te σ H fun x H1=>tst σ H1 fun y H2=>∃a xs,x= .ref a/\y= .int (-1)/\SqL K H2 a xs/\∀p,H2 p=none->Q (.ref p) (upd H2 p (.lst xs.reverse))
theorem N5 (he:PE X e te) (hst:PE X st tst):PE X (.Subscript e (.Slice none none (some st) p2) pos) (W0 X.K te tst):=by
  intro pins s σ H Q I h
  refine Subscript_ (thn (he pins s σ H _ I h) fun v s1 ⟨x,H1,I1,r1,q1⟩=> ?_)
  refine wpAny_Slice ?_
  rw [evalPart_none]
  refine wpAny_pure (wpAny_pure ?_)
  rw [evalPart_some]
  refine thn (hst pins s1 σ H1 _ I1 q1) fun u s3 ⟨y,H3,I3,r3,q3⟩=> ?_
  obtain⟨a,xs,rfl,rfl,hq,q⟩:=q3
  obtain⟨tk,rfl⟩:=r3
  cases r1
  have I4:Inv X pins σ H3 { s3 with heap:=s3.heap.push { cls:= .type "slice",data:= .fields #[.none,.none,.int (-1) tk]}}:=I3.kept (t':=s3.toks) fun b ob q=>Heap.get?_push_of_some _ q
  obtain⟨its,r,ht,hz⟩:=I4.list hq
  have hlen:=r.length
  show wpAny (model X.prog X.w) X.A (subscriptTail e (.Slice none none (some st) p2) (.ref a) (.ref s3.heap.objs.size)) (EP X pins σ Q) X.xe { s3 with heap:=s3.heap.push { cls:= .type "slice",data:= .fields #[.none,.none,.int (-1) tk]}}
  refine tail_any (ops:=[.ref a,.ref s3.heap.objs.size]) ht.isList.typeIs slot_list_getitem.lookup (wpAny_getItem_list_slice (st:=some (-1)) ht.isList ⟨_,Heap.get?_push_size _ rfl,rfl,rfl⟩ .none .none (.int _ _) (by decide) ?_ (by rw [List.size_toArray,<-hlen];exact hz)) (by with_unfolding_all rfl)
  rw [Rq]
  exact⟨.ref _,_,I4.laid (t':=s3.toks) (o:= .lst xs.reverse) (fun b ob q=>Heap.get?_push_of_some _ q) (Nat.le_refl _) ⟨by rw [List.length_reverse];exact hz,_,0,r.rev,Heap.get?_push_size _ rfl⟩,rfl,q _ I4.fresh⟩
theorem Hr {K:PySem.W.Frag}{σ:St}{H:Hp}{Q:VK}:W0 K te tst σ H Q=te σ H (fun x H1=>tst σ H1 fun y H2=>∃a xs,x= .ref a/\y= .int (-1)/\SqL K H2 a xs/\∀p,H2 p=none->Q (.ref p) (upd H2 p (.lst xs.reverse))):=rfl
end
end L2
namespace L2
open PySem PySem.Spec PyProof.Rows
theorem Aaj {σ:St}{H:Hp}{g:TG}{tb:TS}{D:Ends}{J:It} (n:Nat) (inj:Nat->V) (Pv:Nat->St->Hp->Prop) (h0:Pv 0 σ H) (hw:∀i σ H,Pv i σ H->Yc J H (List.range n) inj)
    (hs:∀i σ H,i<n->Pv i σ H->g (inj i) σ H fun σ2 H2=>tb { D with nx:=Pv (i+1),ct:=Pv (i+1),bk:=D.nx} σ2 H2) (hd:∀σ H,Pv n σ H->D.nx σ H):FI J g tb D σ H:=by
  refine Qt (es:=List.range n) (inj:=inj) (fun pre=>Pv pre.length) h0 (fun pre σ H p=>hw pre.length σ H p) (fun pre e post σ H he p=> ?_) (fun σ H p=>hd σ H (by rw [List.length_range]at p;exact p))
  have hl:=congrArg List.length he
  rw [List.length_range,List.length_append,List.length_cons]at hl
  have ee:e=pre.length:=by
    have:=congrArg (fun l=>l[pre.length]?) he
    simp only [List.getElem?_append_right (Nat.le_refl _),Nat.sub_self,List.getElem?_cons_zero]at this
    rw [List.getElem?_range (by omega)]at this
    exact(Option.some.inj this).symm
  subst ee
  have:=hs pre.length σ H (by omega) p
  rw [List.length_append,List.length_singleton]
  exact this
theorem Same.put {H H':Hp}{p:Addr}{o:HO} (s:Same H H') (hp:H p=none):Same H (L2.upd H' p o):=fun b u e=>by
  rw [Ba (Bb e hp)]
  exact s b u e
end L2
namespace L2
open PySem PySem.Spec PyProof.Rows
def Aaq (K:PySem.W.Frag) (tl:TE):TI:=fun σ H R=>tl σ H fun x H1=>∃a,x= .ref a/\(((∃xs,SqL K H1 a xs)/\R (Itl K a) H1)\/((∃xs,SqT K H1 a xs)/\R (Itt K a) H1))
theorem Hy {K:PySem.W.Frag}{tl:TE}{σ:St}{H:Hp}{R:It->Hp->Prop}:Aaq K tl σ H R=tl σ H (fun x H1=>∃a,x= .ref a/\(((∃xs,SqL K H1 a xs)/\R (Itl K a) H1)\/((∃xs,SqT K H1 a xs)/\R (Itt K a) H1))):=rfl
end L2
namespace L2
theorem Bj {t u:TS}{D:Ends}{σ:St}{H:Hp} (P:St->Hp->Prop) (h1:∀N:St->Hp->Prop,(∀σ' H',P σ' H'->N σ' H')->t { D with nx:=N} σ H) (h2:∀σ' H',P σ' H'->u D σ' H'):Y5 t u D σ H:=h1 (u D) h2
end L2
namespace L2
open PySem PySem.Spec PyProof.Rows
def Itz (K:PySem.W.Frag) (a b:Addr):It:=
  ⟨fun i H=>∃xs ys x y,SqL K H a xs/\SqL K H b ys/\xs[i]? =some x/\ys[i]? =some y,
   fun i H x H'=>∃p u v,(∀xs,SqL K H a xs->xs[i]? =some u)/\(∀ys,SqL K H b ys->ys[i]? =some v)/\H p=none/\x= .ref p/\H'=upd H p (.tup [u,v]),
   fun i H=>∃xs ys,SqL K H a xs/\SqL K H b ys/\(xs.length<=i\/ys.length<=i)⟩
section
variable {X:Cx}{a b:Expr}{ta:TA}{el:List Expr}{x1}{tp p pos:Pos}
def Aat (K:PySem.W.Frag) (ta:TA):TI:=fun σ H R=>ta σ H fun vs H1=>∃a b,vs=[.ref a,.ref b]/\(∃xs,SqL K H1 a xs)/\(∃ys,SqL K H1 b ys)/\R (Itz K a b) H1
end
theorem Iu {K:PySem.W.Frag}{ta:TA}{σ:St}{H:Hp}{R:It->Hp->Prop}:Aat K ta σ H R=ta σ H (fun vs H1=>∃a b,vs=[.ref a,.ref b]/\(∃xs,SqL K H1 a xs)/\(∃ys,SqL K H1 b ys)/\R (Itz K a b) H1):=rfl
end L2
namespace L2
open PySem PySem.SeqAt PySem.Spec PyProof.Rows
section
variable {X:Cx}
theorem Tc:OpR X (compareOp .IsNot) (fun x y H Q=>∃a b:Bool,x= .bl a/\y= .bl b/\Q (.bl (a != b)) H):=by
  intro pins s σ H x y v u Q I rx ry h
  obtain⟨a,b,rfl,rfl,q⟩:=h
  cases rx
  cases ry
  exact isnot_bool ⟨.bl _,H,I,rfl,q⟩
open Classical in
def V9:TE:=fun _ H Q=>∀p,H p=none->Q (.ref p) (upd H p (.dK []))
theorem Kq {pos:Pos}:PE X (.Dict [] [] pos) V9:=fun pins s σ H Q I h=>by
  have hb:sysModules<s.heap.objs.size:=Nat.lt_trans (by decide) (show mainGlobals<s.heap.objs.size from(I.mod.glob.keeps I.bk).lt)
  exact wpAny_Dict_empty ⟨.ref s.heap.objs.size,_,I.laid (a:=s.heap.objs.size) (o:= .dK []) (t':=s.toks) (fun _ _ q=>Heap.get?_push_of_some _ q) (Nat.le_refl _) ⟨Nat.zero_le _,beq_eq_false_iff_ne.mpr (Ne.symm (Nat.ne_of_lt hb)),[],.nil,Heap.DictOf.new s.heap⟩,rfl,h _ (I.hok.fresh (Nat.le_refl _))⟩
theorem Ia {σ:St}{H:Hp}{Q:VK}:V9 σ H Q=∀p,H p=none->Q (.ref p) (upd H p (.dK [])):=rfl
end
end L2
namespace L2
open PySem PySem.Spec PyProof.Rows
def tCV (i:Nat) (a:Addr) (sp:Sp) (E:XK) (t:TA):TE:=fun σ H Q=>σ[i]? =some (some (.ref a))/\t σ H fun vs H1=>sp vs H1 Q E
theorem V2 {i:Nat}{a:Addr}{sp:Sp}{E:XK}{t:TA}{σ:St}{H:Hp}{Q:VK}:tCV i a sp E t σ H Q=(σ[i]? =some (some (.ref a))/\t σ H fun vs H1=>sp vs H1 Q E):=rfl
theorem Cv {X:Cx}{x:Str}{v:V}{pos:Pos} (hg:Gl X x) (h:∃u,X.mg x=some u/\RelV v u) (hd:(x==("__debug__":Str))=false:=by decide):PE X (.Name x pos) (tC v):=by
  obtain⟨u,a,b⟩:=h
  exact Ga hg a b hd
end L2
namespace L2
open PySem PySem.Spec PyProof.Rows
def Aag (K:PySem.W.Frag) (a:Addr):It:=
  ⟨fun i H=>∃xs x,SqL K H a xs/\xs[i]? =some x,fun i H x H'=>∃p v,(∀xs,SqL K H a xs->xs[i]? =some v)/\H p=none/\x= .ref p/\H'=upd H p (.tup [.int (i:Nat),v]),fun i H=>∃xs,SqL K H a xs/\xs.length<=i⟩
section
variable {X:Cx}{a:Expr}{ta:TA}{el:List Expr}{x1}{tp p pos:Pos}
def Aa2 (K:PySem.W.Frag) (ta:TA):TI:=fun σ H R=>ta σ H fun vs H1=>∃a,vs=[.ref a]/\(∃xs,SqL K H1 a xs)/\R (Aag K a) H1
end
theorem Ij {K:PySem.W.Frag}{σ:St}{H:Hp}{ta:TA}{R:It->Hp->Prop}:Aa2 K ta σ H R=ta σ H (fun vs H1=>∃a,vs=[.ref a]/\(∃xs,SqL K H1 a xs)/\R (Aag K a) H1):=rfl
end L2
namespace L2
open PySem PySem.Spec PyProof.Rows
def Zk (sp:Sp) (Cs:List Addr) (g:V->St->St) (i:Nat) (ta:TA) (ts:Addr->Addr->Obj->TS):TS:=fun D σ H=>ta σ H fun vs H1=>sp vs H1 (fun v H2=>D.nx (g v σ) H2)
  (fun c _ H2=>∃C,c= .ref C/\C∈Cs/\∀x oe,oe.cls= .ref C->ts C x oe { nx:=fun σ' H'=>D.nx (σ'.set i none) H',rt:=D.rt,bk:=fun σ' H'=>D.bk (σ'.set i none) H',ct:=fun σ' H'=>D.ct (σ'.set i none) H'} (σ.set i (some (.ref x))) H2)
theorem Hq {sp:Sp}{Cs:List Addr}{g:V->St->St}{i:Nat}{ta:TA}{ts:Addr->Addr->Obj->TS}{D:Ends}{σ:St}{H:Hp}:Zk sp Cs g i ta ts D σ H=ta σ H (fun vs H1=>sp vs H1 (fun v H2=>D.nx (g v σ) H2)
  (fun c _ H2=>∃C,c= .ref C/\C∈Cs/\∀x oe,oe.cls= .ref C->ts C x oe { nx:=fun σ' H'=>D.nx (σ'.set i none) H',rt:=D.rt,bk:=fun σ' H'=>D.bk (σ'.set i none) H',ct:=fun σ' H'=>D.ct (σ'.set i none) H'} (σ.set i (some (.ref x))) H2)):=rfl
def Z5 (sp:Sp) (Cs:List Addr) (g:V->St->St) (ta:TA) (ts:Addr->Addr->Obj->TS):TS:=fun D σ H=>ta σ H fun vs H1=>sp vs H1 (fun v H2=>D.nx (g v σ) H2)
  (fun c _ H2=>∃C,c= .ref C/\C∈Cs/\∀x oe,oe.cls= .ref C->ts C x oe D σ H2)
theorem G6 {sp:Sp}{Cs:List Addr}{g:V->St->St}{ta:TA}{ts:Addr->Addr->Obj->TS}{D:Ends}{σ:St}{H:Hp}:Z5 sp Cs g ta ts D σ H=ta σ H (fun vs H1=>sp vs H1 (fun v H2=>D.nx (g v σ) H2)
  (fun c _ H2=>∃C,c= .ref C/\C∈Cs/\∀x oe,oe.cls= .ref C->ts C x oe D σ H2)):=rfl
section
variable {c:TT}{tb:TS}{D:Ends}{σ:St}{H:Hp}
def WM (Pv:Nat->St->Hp->Prop) (tb:TS) (D:Ends) (m:Nat) (σ:St) (H:Hp):Prop:=∃N:St->Hp->Prop,(∀σ' H',N σ' H'->∃m',m'<m/\Pv m' σ' H')/\tb { D with nx:=N,ct:=N,bk:=D.nx} σ H
theorem Yu {Pv:Nat->St->Hp->Prop}{m:Nat} (h:tb { D with nx:=fun σ' H'=>∃m',m'<m/\Pv m' σ' H',ct:=fun σ' H'=>∃m',m'<m/\Pv m' σ' H',bk:=D.nx} σ H):WM Pv tb D m σ H:=⟨_,fun _ _ z=>z,h⟩
theorem Q5 (Pv:Nat->St->Hp->Prop) (m0:Nat) (h0:Pv m0 σ H) (hs:∀m σ H,Pv m σ H->c σ H fun b H1=>if b=true then WM Pv tb D m σ H1 else D.nx σ H1):Pq c tb D σ H:=⟨Pv,⟨m0,h0⟩,hs⟩
end
end L2
namespace L2
open PySem PySem.Spec PyProof.Rows
def It1 (t:Bool) (h:Heap) (j u:Addr) (k:Nat):Prop:=if t=true then h.IsTupleIter j u k else h.IsListIter j u k
def Sq1 (t:Bool) (h:Heap) (u:Addr) (xs:Array Value):Prop:=if t=true then h.IsTuple u xs else h.IsList u xs
theorem It1.ext {t:Bool}{h g:Heap}{j u b:Addr}{k:Nat} (x:It1 t h j u k) (e:Heap.ExtBut b h g) (n:j≠b):It1 t g j u k:=by
  cases t
  . exact Heap.IsListIter.extBut x e n
  . exact Heap.IsTupleIter.extBut x e n
theorem It1.to {t:Bool}{h g:Heap}{j u:Addr}{k:Nat} (x:It1 t h j u k) (e:∀o,h.get? j=some o->g.get? j=some o):It1 t g j u k:=by
  cases t
  . exact Heap.IsListIter.at x e
  . exact Heap.IsTupleIter.at x e
theorem Sq1.ext {t:Bool}{h g:Heap}{u b:Addr}{xs:Array Value} (x:Sq1 t h u xs) (e:Heap.ExtBut b h g) (n:u≠b):Sq1 t g u xs:=by
  cases t
  . exact Heap.IsList.extBut x e n
  . exact Heap.IsTuple.extBut x e n
theorem It1.there {t:Bool}{h:Heap}{j u:Addr}{k:Nat} (x:It1 t h j u k):∃o,h.get? j=some o/\∀v,o.data≠ .cell v:=by
  cases t
  . obtain⟨o,e,_,d⟩:=(show h.IsListIter j u k from x)
    exact⟨o,e,fun v z=>by rw [d]at z;cases z⟩
  . obtain⟨o,e,_,d⟩:=(show h.IsTupleIter j u k from x)
    exact⟨o,e,fun v z=>by rw [d]at z;cases z⟩
section
variable {prog:Program}{w:World}{A:Around}{E:Value->Shared->Prop}{s:Shared}
theorem Wy {t:Bool}{j u:Addr}{k:Nat}{xs:Array Value}{y:Value}{Q:Value->Shared->Prop} (hj:It1 t s.heap j u k) (hu:Sq1 t s.heap u xs) (hy:xs[k]? =some y)
    (c:∀g,It1 t g j u (k+1)->Heap.SameBut j s.heap g->Q y { s with heap:=g}):wpAny (model prog w) A (Builtin.SmallTypes.nextOf (.ref j)) Q E s:=by
  cases t
  . exact wpAny_nextOf_list_item hj hu hy c
  . exact nextT hj hu hy c
theorem Mt {t:Bool}{j u:Addr}{k:Nat}{xs:Array Value}{Q:Value->Shared->Prop} (hh:A.handled=none) (hj:It1 t s.heap j u k) (hu:Sq1 t s.heap u xs) (hy:xs[k]? =none)
    (c:∀g e,Heap.ExtBut j s.heap g->(∃o,g.get? e=some o/\o.cls= .type "StopIteration")->E (.ref e) { s with heap:=g}):wpAny (model prog w) A (Builtin.SmallTypes.nextOf (.ref j)) Q E s:=by
  cases t
  . exact wpAny_nextOf_list_end hh hj hu hy c
  . exact Rn hh hj hu hy c
theorem Tw {t1 t2:Bool}{zz TI TO i1 i2 u1 u2:Addr}{k1 k2:Nat}{xs ys:Array Value}{x y p q:Value}{Q:Value->Shared->Prop} (D:ZipApart zz TI TO i1 i2 u1 u2)
    (hz:IsZip s.heap zz TI TO .none) (hTI:IsPair s.heap TI (.ref i1) (.ref i2)) (hTO:IsPair s.heap TO p q) (j1:It1 t1 s.heap i1 u1 k1) (j2:It1 t2 s.heap i2 u2 k2) (a1:Sq1 t1 s.heap u1 xs) (a2:Sq1 t2 s.heap u2 ys) (hx:xs[k1]? =some x) (hy:ys[k2]? =some y)
    (c:∀g,IsZip g zz TI TO (rawInt s.heap.objs.size)->IsPair g TO x y->It1 t1 g i1 u1 (k1+1)->It1 t2 g i2 u2 (k2+1)->IsPair g s.heap.objs.size x y->g.objs.size=s.heap.objs.size+1->
      (∀b o,b≠zz->b≠TO->b≠i1->b≠i2->s.heap.get? b=some o->g.get? b=some o)->Q (.ref s.heap.objs.size) { s with heap:=g}):
    wpAny (model prog w) A (Builtin.«zip.__next__» ⟨[.ref zz],[]⟩) (fun fin s'=>∃v,fin= .done (.ret v)/\Q v s') E s:=by
  show wpAny _ _ (field (.ref zz) 2>>=_) _ _ s
  refine wpAny_bind (wpAny_field hz rfl (x:= .bool false) rfl ?z1)
  case z1=>
  show wpAny _ _ (field (.ref zz) 3>>=_) _ _ s
  refine wpAny_bind (wpAny_field hz rfl (x:= .ref TI) rfl (wpAny_bind (wpAny_seqItems hTI rfl ?z2)))
  case z2=>
  show wpAny _ _ (Builtin.SmallTypes.ownedTupleIsFree (.ref zz)>>=_) _ _ s
  refine wpAny_bind (m:=Builtin.SmallTypes.ownedTupleIsFree (.ref zz)) ?z3
  case z3=>
  unfold Builtin.SmallTypes.ownedTupleIsFree;refine wpAny_bind (wpAny_field hz rfl (x:= .none) rfl (wpAny_pure ?z4))
  case z4=>
  simp only [if_true];refine wpAny_bind (wpAny_rule (wpAny_bind (wpAny_field hz rfl (x:= .ref TO) rfl (wpAny_bind (wpAny_setField_rec hz (by simp) fun g1 (z1:IsZip g1 zz TI TO .ellipsis) b1=> ?z5)))))
  case z5=>
  refine wpAny_bind ?z6
  case z6=>
  simp only [List.forIn_cons,List.forIn_nil,List.zipIdx_cons,List.zipIdx_nil]
  refine wpAny_bind (wpAny_bind (wpAny_onRaise ?z7))
  case z7=>
  show wpAny _ _ (Builtin.SmallTypes.nextOf (.ref i1)>>=_) _ _ { s with heap:=g1}
  refine wpAny_bind (Wy (j1.ext b1.extBut D.i1z) (a1.ext b1.extBut D.l1z) hx fun g2 n1 b2=>wpAny_pure ?z8)
  case z8=>
  have o2:IsPair g2 TO p q:=b2.extBut _ _ D.TOi1 (b1.extBut _ _ D.TOz hTO)
  refine wpAny_bind (wpAny_seqItems o2 rfl (wpAny_bind (wpAny_updateSeq_pair o2 fun g3 (o3:IsPair g3 TO x q) b3=>wpAny_bind (wpAny_letGo (wpAny_pure (wpAny_bind (wpAny_bind (wpAny_onRaise ?z9))))))))
  case z9=>
  show wpAny _ _ (Builtin.SmallTypes.nextOf (.ref i2)>>=_) _ _ { s with heap:=g3}
  refine wpAny_bind (Wy (((j2.ext b1.extBut D.i2z).ext b2.extBut D.i12.symm).ext b3.extBut D.TOi2.symm) (((a2.ext b1.extBut D.l2z).ext b2.extBut D.l2i1).ext b3.extBut D.l2TO) hy fun g4 n2 b4=>wpAny_pure ?z10)
  case z10=>
  have o4:IsPair g4 TO x q:=b4.extBut _ _ D.TOi2 o3
  refine wpAny_bind (wpAny_seqItems o4 rfl (wpAny_bind (wpAny_updateSeq_pair o4 fun g5 (o5:IsPair g5 TO x y) b5=>wpAny_bind (wpAny_letGo (wpAny_pure (wpAny_pure (wpAny_bind (wpAny_seqItems o5 rfl (wpAny_bind (wpAny_newTuple ?z11))))))))))
  case z11=>
  have sz:g5.objs.size=s.heap.objs.size:=by rw [b5.1,b4.1,b3.1,b2.1,b1.1]
  have z5:IsZip g5 zz TI TO .ellipsis:=b5.extBut _ _ D.TOz.symm (b4.extBut _ _ D.i2z.symm (b3.extBut _ _ D.TOz.symm (b2.extBut _ _ D.i1z.symm z1)))
  have k5:∀b o,b≠zz->b≠TO->b≠i1->b≠i2->s.heap.get? b=some o->g5.get? b=some o:=fun b o c1 c2 c3 c4 e=>b5.extBut _ _ c2 (b4.extBut _ _ c4 (b3.extBut _ _ c2 (b2.extBut _ _ c3 (b1.extBut _ _ c1 e))))
  have m1:It1 t1 g5 i1 u1 (k1+1):=((n1.ext b3.extBut D.TOi1.symm).ext b4.extBut D.i12).ext b5.extBut D.TOi1.symm
  have m2:It1 t2 g5 i2 u2 (k2+1):=n2.ext b5.extBut D.TOi2.symm
  have zlt:zz<g5.objs.size:=Heap.lt_size z5
  show wpAny _ _ (Builtin.SmallTypes.ownedTupleHandOut (.ref zz) (.ref g5.objs.size)>>=_) _ _ _
  refine wpAny_bind (m:=Builtin.SmallTypes.ownedTupleHandOut (.ref zz) (.ref g5.objs.size)) ?z12
  case z12=>
  unfold Builtin.SmallTypes.ownedTupleHandOut
  have z6:IsZip (g5.push { cls:= .type "tuple",data:= .seq #[x,y]}) zz TI TO .ellipsis:=Heap.get?_push_of_some _ z5
  refine wpAny_bind (wpAny_setField_rec z6 (by simp) fun g7 (z7:IsZip g7 zz TI TO (rawInt g5.objs.size)) b7=>wpAny_setField_rec z7 (by simp) fun g8 (z8:IsZip g8 zz TI TO (rawInt g5.objs.size)) b8=> ?z13)
  case z13=>
  have up:∀b o,b≠zz->g5.get? b=some o->g8.get? b=some o:=fun b o c1 e=>b8.extBut _ _ c1 (b7.extBut _ _ c1 (Heap.get?_push_of_some _ e))
  have t8:IsPair g8 g5.objs.size x y:=b8.extBut _ _ (Nat.ne_of_gt zlt) (b7.extBut _ _ (Nat.ne_of_gt zlt) (Heap.get?_push_size _ rfl))
  have w8:g8.objs.size=g5.objs.size+1:=by rw [b8.1,b7.1,Heap.size_push]
  rw [sz]at z8 t8 w8
  refine wpAny_pure ⟨_,rfl,?z14⟩
  case z14=>
  show Q (.ref g5.objs.size) _
  rw [sz]
  exact c g8 z8 (up _ _ D.TOz o5) (m1.to fun o e=>up _ o D.i1z e) (m2.to fun o e=>up _ o D.i2z e) t8 w8 fun b o c1 c2 c3 c4 e=>up b o c1 (k5 b o c1 c2 c3 c4 e)
theorem Uj {t1 t2:Bool}{zz TI TO i1 i2 u1 u2:Addr}{k1 k2:Nat}{xs ys:Array Value}{p q:Value}{Q:Fin->Shared->Prop} (hh:A.handled=none) (D:ZipApart zz TI TO i1 i2 u1 u2)
    (hz:IsZip s.heap zz TI TO .none) (hTI:IsPair s.heap TI (.ref i1) (.ref i2)) (hTO:IsPair s.heap TO p q) (j1:It1 t1 s.heap i1 u1 k1) (j2:It1 t2 s.heap i2 u2 k2) (a1:Sq1 t1 s.heap u1 xs) (a2:Sq1 t2 s.heap u2 ys) (he:xs[k1]? =none\/ys[k2]? =none)
    (c:∀g e,(∀b o,b≠zz->b≠TO->b≠i1->b≠i2->s.heap.get? b=some o->g.get? b=some o)->(∃o,g.get? e=some o/\o.cls= .type "StopIteration")->E (.ref e) { s with heap:=g}):
    wpAny (model prog w) A (Builtin.«zip.__next__» ⟨[.ref zz],[]⟩) Q E s:=by
  show wpAny _ _ (field (.ref zz) 2>>=_) _ _ s
  refine wpAny_bind (wpAny_field hz rfl (x:= .bool false) rfl ?z1)
  case z1=>
  show wpAny _ _ (field (.ref zz) 3>>=_) _ _ s
  refine wpAny_bind (wpAny_field hz rfl (x:= .ref TI) rfl (wpAny_bind (wpAny_seqItems hTI rfl ?z2)))
  case z2=>
  show wpAny _ _ (Builtin.SmallTypes.ownedTupleIsFree (.ref zz)>>=_) _ _ s
  refine wpAny_bind (m:=Builtin.SmallTypes.ownedTupleIsFree (.ref zz)) ?z3
  case z3=>
  unfold Builtin.SmallTypes.ownedTupleIsFree;refine wpAny_bind (wpAny_field hz rfl (x:= .none) rfl (wpAny_pure ?z4))
  case z4=>
  simp only [if_true];refine wpAny_bind (wpAny_rule (wpAny_bind (wpAny_field hz rfl (x:= .ref TO) rfl (wpAny_bind (wpAny_setField_rec hz (by simp) fun g1 (z1:IsZip g1 zz TI TO .ellipsis) b1=> ?z5)))))
  case z5=>
  refine wpAny_bind ?z6
  case z6=>
  simp only [List.forIn_cons,List.forIn_nil,List.zipIdx_cons,List.zipIdx_nil]
  refine wpAny_bind (wpAny_bind (wpAny_onRaise ?z7))
  case z7=>
  show wpAny _ _ (Builtin.SmallTypes.nextOf (.ref i1)>>=_) _ _ { s with heap:=g1}
  cases hx:xs[k1]? with
  | none=>
    refine wpAny_bind (Mt hh (j1.ext b1.extBut D.i1z) (a1.ext b1.extBut D.l1z) hx fun g2 e b2 ⟨oe,hoe,hce⟩=> ?_)
    have z2:IsZip g2 zz TI TO .ellipsis:=b2 _ _ D.i1z.symm z1
    have ne:e≠zz:=fun y=>by subst y;rw [z2]at hoe;cases hoe;simp at hce
    exact wpAny_setField_rec z2 (by simp) fun g3 _ b3=>c g3 e (fun b o c1 _ c3 _ y=>b3.extBut _ _ c1 (b2 _ _ c3 (b1.extBut _ _ c1 y))) ⟨oe,b3.extBut _ _ ne hoe,hce⟩
  | some x=>
    have hy:ys[k2]? =none:=by
      rcases he with h | h
      . rw [hx]at h;cases h
      . exact h
    refine wpAny_bind (Wy (j1.ext b1.extBut D.i1z) (a1.ext b1.extBut D.l1z) hx fun g2 n1 b2=>wpAny_pure ?_)
    have o2:IsPair g2 TO p q:=b2.extBut _ _ D.TOi1 (b1.extBut _ _ D.TOz hTO)
    refine wpAny_bind (wpAny_seqItems o2 rfl (wpAny_bind (wpAny_updateSeq_pair o2 fun g3 o3 b3=>wpAny_bind (wpAny_letGo (wpAny_pure (wpAny_bind (wpAny_bind (wpAny_onRaise ?z9))))))))
    case z9=>
    show wpAny _ _ (Builtin.SmallTypes.nextOf (.ref i2)>>=_) _ _ { s with heap:=g3}
    refine wpAny_bind (Mt hh (((j2.ext b1.extBut D.i2z).ext b2.extBut D.i12.symm).ext b3.extBut D.TOi2.symm) (((a2.ext b1.extBut D.l2z).ext b2.extBut D.l2i1).ext b3.extBut D.l2TO) hy fun g4 e b4 ⟨oe,hoe,hce⟩=> ?_)
    have z4:IsZip g4 zz TI TO .ellipsis:=b4 _ _ D.i2z.symm (b3.extBut _ _ D.TOz.symm (b2.extBut _ _ D.i1z.symm z1))
    have ne:e≠zz:=fun y=>by subst y;rw [z4]at hoe;cases hoe;simp at hce
    exact wpAny_setField_rec z4 (by simp) fun g5 _ b5=>c g5 e (fun b o c1 c2 c3 c4 y=>b5.extBut _ _ c1 (b4 _ _ c4 (b3.extBut _ _ c2 (b2.extBut _ _ c3 (b1.extBut _ _ c1 y))))) ⟨oe,b5.extBut _ _ ne hoe,hce⟩
theorem Tn {t1 t2:Bool}{zz TI TO i1 i2 u1 u2:Addr}{k1 k2:Nat}{xs ys:Array Value}{x y p q:Value}{Q:Option Value->Shared->Prop} (D:ZipApart zz TI TO i1 i2 u1 u2)
    (hz:IsZip s.heap zz TI TO .none) (hTI:IsPair s.heap TI (.ref i1) (.ref i2)) (hTO:IsPair s.heap TO p q) (j1:It1 t1 s.heap i1 u1 k1) (j2:It1 t2 s.heap i2 u2 k2) (a1:Sq1 t1 s.heap u1 xs) (a2:Sq1 t2 s.heap u2 ys) (hx:xs[k1]? =some x) (hy:ys[k2]? =some y)
    (c:∀g,IsZip g zz TI TO (rawInt s.heap.objs.size)->IsPair g TO x y->It1 t1 g i1 u1 (k1+1)->It1 t2 g i2 u2 (k2+1)->IsPair g s.heap.objs.size x y->g.objs.size=s.heap.objs.size+1->
      (∀b o,b≠zz->b≠TO->b≠i1->b≠i2->s.heap.get? b=some o->g.get? b=some o)->Q (some (.ref s.heap.objs.size)) { s with heap:=g}):wpAny (model prog w) A (pyNext (.ref zz)) Q E s:=by
  have ty:s.TypeIs (.ref zz) "zip":=⟨_,hz,rfl⟩
  unfold pyNext
  exact wpAny_bind (wpAny_attempt (wpAny_callSpecial?_slot (name:=Str.ofString "__next__") ty F.slot_zip_next (wpAny_call_entry F.slot_zip_next ty F.entry_zip_next
    (Tw D hz hTI hTO j1 j2 a1 a2 hx hy fun g b1 b2 b3 b4 b5 b6 b7=>wpAny_pure (c g b1 b2 b3 b4 b5 b6 b7)) (F.args_zip_next_1 _))))
theorem Sx {t1 t2:Bool}{zz TI TO i1 i2 u1 u2:Addr}{k1 k2:Nat}{xs ys:Array Value}{p q:Value}{Q:Option Value->Shared->Prop} (hh:A.handled=none) (D:ZipApart zz TI TO i1 i2 u1 u2)
    (hz:IsZip s.heap zz TI TO .none) (hTI:IsPair s.heap TI (.ref i1) (.ref i2)) (hTO:IsPair s.heap TO p q) (j1:It1 t1 s.heap i1 u1 k1) (j2:It1 t2 s.heap i2 u2 k2) (a1:Sq1 t1 s.heap u1 xs) (a2:Sq1 t2 s.heap u2 ys) (he:xs[k1]? =none\/ys[k2]? =none)
    (c:∀g,(∀b o,b≠zz->b≠TO->b≠i1->b≠i2->s.heap.get? b=some o->g.get? b=some o)->Q none { s with heap:=g}):wpAny (model prog w) A (pyNext (.ref zz)) Q E s:=by
  have ty:s.TypeIs (.ref zz) "zip":=⟨_,hz,rfl⟩
  unfold pyNext
  refine wpAny_bind (wpAny_attempt (wpAny_callSpecial?_slot (name:=Str.ofString "__next__") ty F.slot_zip_next (wpAny_call_entry F.slot_zip_next ty F.entry_zip_next (Uj hh D hz hTI hTO j1 j2 a1 a2 he fun g e hk ⟨o,ho,hc⟩=> ?_) (F.args_zip_next_1 _))))
  exact wpAny_bind (wpAny_isInstance (T:="StopIteration") (b:=true) ⟨o,ho,hc⟩ isSubtype_stop (wpAny_pure (c _ hk)))
end
def Yy (t:Bool):String:=if t=true then "tuple_iterator" else "list_iterator"
abbrev Oq (t:Bool) (u:Addr):Obj:={ cls:= .type (Yy t),data:= .fields #[.ref u,.int 0 0]}
theorem iter1 {prog:Program}{w:World}{A:Around}{E:Value->Shared->Prop}{s:Shared}{t:Bool}{u:Addr}{xs:Array Value}{Q:Value->Shared->Prop} (h:Sq1 t s.heap u xs) (q:Q (.ref s.heap.objs.size) { s with heap:=s.heap.push (Oq t u)}):wpAny (model prog w) A (pyIter (.ref u)) Q E s:=by
  cases t
  . exact wpAny_pyIter_list h q
  . exact wpAny_pyIter_tuple h q
theorem S9 {t:Bool}{u j:Addr}{g:Heap} (e:g.get? j=some (Oq t u)):It1 t g j u 0:=by
  cases t
  . exact⟨_,e,rfl,rfl⟩
  . exact⟨_,e,rfl,rfl⟩
theorem Sq1.push {t:Bool}{h:Heap}{u:Addr}{xs:Array Value} (x:Sq1 t h u xs) (o:Obj):Sq1 t (h.push o) u xs:=by
  cases t
  . exact Heap.IsList.push x _
  . obtain⟨ob,e,r⟩:=(show h.IsTuple u xs from x)
    exact⟨ob,Heap.get?_push_of_some _ e,r⟩
abbrev zA1 (t1:Bool) (h:Heap) (u1:Addr):Heap:=h.push (Oq t1 u1)
abbrev zA2 (t1 t2:Bool) (h:Heap) (u1 u2:Addr):Heap:=(zA1 t1 h u1).push (Oq t2 u2)
abbrev zA3 (t1 t2:Bool) (h:Heap) (u1 u2:Addr):Heap:=(zA2 t1 t2 h u1 u2).push { cls:= .type "tuple",data:= .seq #[.ref h.objs.size,.ref (zA1 t1 h u1).objs.size]}
abbrev zA4 (t1 t2:Bool) (h:Heap) (u1 u2:Addr):Heap:=(zA3 t1 t2 h u1 u2).push { cls:= .type "tuple",data:= .seq #[.none,.none]}
abbrev zA5 (t1 t2:Bool) (h:Heap) (u1 u2:Addr):Heap:=(zA4 t1 t2 h u1 u2).push { cls:= .type "zip",data:= .fields #[.none,.bool false,.bool false,.ref (zA2 t1 t2 h u1 u2).objs.size,.ref (zA3 t1 t2 h u1 u2).objs.size]}
theorem Qm (t1 t2:Bool) (u1 u2:Addr) (xs ys:Array Value):
    Meets (Builtin.«zip.__new__» ⟨[.type "zip",.ref u1,.ref u2],[]⟩) (fun _ R s=>Sq1 t1 s.heap u1 xs/\Sq1 t2 s.heap u2 ys/\R (.ok (.ret (.ref (zA4 t1 t2 s.heap u1 u2).objs.size))) { s with heap:=zA5 t1 t2 s.heap u1 u2}):=
  .of_wp fun prog w A R s h=>by
    obtain⟨hp,g,d,tk,os⟩:=s;obtain⟨b1,b2,h⟩:=h
    have su:=sub_zip
    have L1:Sq1 t1 (Shared.heap ⟨hp,g,d,tk,os⟩) u1 xs:=b1
    have L2:Sq1 t2 (Shared.heap ⟨hp.push (Oq t1 u1),g,d,tk,os⟩) u2 ys:=b2.push _
    wp_walk using iter1 L1,iter1 L2
    exact⟨_,rfl,h⟩
theorem Tv {prog:Program}{w:World}{A:Around}{E:Value->Shared->Prop}{s:Shared}{t1 t2:Bool}{u1 u2:Addr}{xs ys:Array Value}{Q:Value->Shared->Prop} (b1:Sq1 t1 s.heap u1 xs) (b2:Sq1 t2 s.heap u2 ys)
    (c:∀g,IsZip g (s.heap.objs.size+4) (s.heap.objs.size+2) (s.heap.objs.size+3) .none->IsPair g (s.heap.objs.size+2) (.ref s.heap.objs.size) (.ref (s.heap.objs.size+1))->IsPair g (s.heap.objs.size+3) .none .none->
      It1 t1 g s.heap.objs.size u1 0->It1 t2 g (s.heap.objs.size+1) u2 0->(∀b o,s.heap.get? b=some o->g.get? b=some o)->Q (.ref (s.heap.objs.size+4)) { s with heap:=g}):wpAny (model prog w) A (call (.type "zip") [.ref u1,.ref u2]) Q E s:=by
  refine callType_new F.called_zip (by decide) (F.typeCall_zip_2 _ _) (F.newCall_zip_2 _ _) (fun obj=>F.args_object_init_3 obj _ _) F.entry_zip_new (Qm t1 t2 u1 u2 xs ys) ⟨b1,b2,?_⟩
  have w1:(zA1 t1 s.heap u1).objs.size=s.heap.objs.size+1:=Heap.size_push ..
  have w2:(zA2 t1 t2 s.heap u1 u2).objs.size=s.heap.objs.size+2:=by rw [Heap.size_push,w1]
  have w3:(zA3 t1 t2 s.heap u1 u2).objs.size=s.heap.objs.size+3:=by rw [Heap.size_push,w2]
  have w4:(zA4 t1 t2 s.heap u1 u2).objs.size=s.heap.objs.size+4:=by rw [Heap.size_push,w3]
  have e5:(zA5 t1 t2 s.heap u1 u2).get? (zA4 t1 t2 s.heap u1 u2).objs.size=some _:=Heap.get?_push_size _ rfl
  have e4:(zA5 t1 t2 s.heap u1 u2).get? (zA3 t1 t2 s.heap u1 u2).objs.size=some _:=Heap.get?_push_of_some _ (Heap.get?_push_size _ rfl)
  have e3:(zA5 t1 t2 s.heap u1 u2).get? (zA2 t1 t2 s.heap u1 u2).objs.size=some _:=Heap.get?_push_of_some _ (Heap.get?_push_of_some _ (Heap.get?_push_size _ rfl))
  have e2:(zA5 t1 t2 s.heap u1 u2).get? (zA1 t1 s.heap u1).objs.size=some (Oq t2 u2):=Heap.get?_push_of_some _ (Heap.get?_push_of_some _ (Heap.get?_push_of_some _ (Heap.get?_push_size _ rfl)))
  have e1:(zA5 t1 t2 s.heap u1 u2).get? s.heap.objs.size=some (Oq t1 u1):=Heap.get?_push_of_some _ (Heap.get?_push_of_some _ (Heap.get?_push_of_some _ (Heap.get?_push_of_some _ (Heap.get?_push_size _ rfl))))
  show _/\_
  rw [w2,w3,w4]at e5
  rw [w1,w2]at e3
  rw [w3]at e4
  rw [w1]at e2
  rw [w4]
  exact⟨⟨_,e5,rfl⟩,c _ e5 e3 e4 (S9 e1) (S9 e2) fun b o x=>Heap.get?_push_of_some _ (Heap.get?_push_of_some _ (Heap.get?_push_of_some _ (Heap.get?_push_of_some _ (Heap.get?_push_of_some _ x))))⟩
def SqB (t:Bool) (K:PySem.W.Frag) (H:Hp) (a:Addr) (xs:List V):Prop:=if t=true then SqT K H a xs else SqL K H a xs
theorem Inv.sqB {X:Cx}{pins:List (Addr × Obj)}{σ:St}{H:Hp}{s:Shared}{t:Bool}{a:Addr}{xs:List V} (I:Inv X pins σ H s) (h:SqB t X.K H a xs):∃its:List Value,Vals xs its/\Sq1 t s.heap a its.toArray:=by
  cases t
  . obtain⟨its,r,p,_⟩:=I.list h
    exact⟨its,r,p.isList⟩
  . obtain⟨its,r,p,_⟩:=I.tuple h
    exact⟨its,r,p⟩
theorem Inv.sqB_inj {X:Cx}{pins:List (Addr × Obj)}{σ:St}{H:Hp}{s:Shared}{t:Bool}{a:Addr}{xs ys:List V} (I:Inv X pins σ H s) (h:SqB t X.K H a xs) (h':SqB t X.K H a ys):xs=ys:=by
  cases t
  . exact I.list_inj h h'
  . exact I.tuple_inj h h'
def Y4 (t1 t2:Bool) (K:PySem.W.Frag) (a b:Addr):It:=
  ⟨fun i H=>∃xs ys x y,SqB t1 K H a xs/\SqB t2 K H b ys/\xs[i]? =some x/\ys[i]? =some y,
   fun i H x H'=>∃p u v,(∀xs,SqB t1 K H a xs->xs[i]? =some u)/\(∀ys,SqB t2 K H b ys->ys[i]? =some v)/\H p=none/\x= .ref p/\H'=upd H p (.tup [u,v]),
   fun i H=>∃xs ys,SqB t1 K H a xs/\SqB t2 K H b ys/\(xs.length<=i\/ys.length<=i)⟩
theorem Rh {P:Program}{w:World}{K:PySem.W.Frag}{el:List Expr}{x1}{tp:Pos} (t1 t2:Bool) (a b z TI TO i1 i2:Addr) (D:ZipApart z TI TO i1 i2 a b):
    Turn P w K (.Tuple el x1 tp) (Y4 t1 t2 K a b) [z,TI,TO,i1,i2] z (fun i h=>IsZip h z TI TO .none/\IsPair h TI (.ref i1) (.ref i2)/\(∃c d,IsPair h TO c d)/\It1 t1 h i1 a i/\It1 t2 h i2 b i) where
  mem:=by simp
  obj:=fun i h st c hc=>by
    obtain⟨hz,hTI,⟨u,v,hTO⟩,h1,h2⟩:=st
    simp only [List.mem_cons,List.not_mem_nil,or_false]at hc
    rcases hc with rfl | rfl | rfl | rfl | rfl
    . exact⟨_,hz,fun v z=>by cases(show Data.fields _=Data.cell v from z)⟩
    . exact⟨_,hTI,fun v z=>by cases(show Data.seq _ _=Data.cell v from z)⟩
    . exact⟨_,hTO,fun v z=>by cases(show Data.seq _ _=Data.cell v from z)⟩
    . exact h1.there
    . exact h2.there
  keep:=fun i h h' st k=>by
    obtain⟨hz,hTI,⟨u,v,hTO⟩,h1,h2⟩:=st
    exact⟨k z (by simp) _ hz,k TI (by simp) _ hTI,⟨u,v,k TO (by simp) _ hTO⟩,h1.to fun o e=>k i1 (by simp) _ e,h2.to fun o e=>k i2 (by simp) _ e⟩
  item:=by
    intro X hP hw hK hc i pins s σ H E I hf st hg
    subst hP hw hK
    obtain⟨xs,ys,x,y,hqx,hqy,hx,hy⟩:=hg
    obtain⟨its,rv,p⟩:=I.sqB hqx
    obtain⟨its2,rv2,p2⟩:=I.sqB hqy
    obtain⟨u,hu,ru⟩:=rv.get hx
    obtain⟨v,hv,rv'⟩:=rv2.get hy
    obtain⟨hz,hTI,⟨c,d,hTO⟩,h1,h2⟩:=st
    refine Tn D hz hTI hTO h1 h2 p p2 (x:=u) (y:=v) (by simpa using hu) (by simpa using hv) fun g a1 a2 a3 a4 a5 a6 hk=>⟨_,rfl,?_⟩
    refine wpAny_letOwnedTupleGo_zip a1 fun g2 hz2 sb2=> ?_
    replace sb2:Heap.SameBut z g g2:=sb2
    have lt:∀b∈ [z,TI,TO,i1,i2],b≠s.heap.objs.size:=fun b hb=>by
      obtain⟨o1,e1,_⟩:=h1.there
      obtain⟨o2,e2,_⟩:=h2.there
      simp only [List.mem_cons,List.not_mem_nil,or_false]at hb
      rcases hb with rfl | rfl | rfl | rfl | rfl
      . exact Nat.ne_of_lt (Heap.lt_size hz)
      . exact Nat.ne_of_lt (Heap.lt_size hTI)
      . exact Nat.ne_of_lt (Heap.lt_size hTO)
      . exact Nat.ne_of_lt (Heap.lt_size e1)
      . exact Nat.ne_of_lt (Heap.lt_size e2)
    have hn:H s.heap.objs.size=none:=I.fresh
    have I1:Inv X pins σ (upd H s.heap.objs.size (.tup [x,y])) { s with heap:=s.heap.push { cls:= .type "tuple",data:= .seq #[u,v]},toks:=s.toks}:=
      I.laid (fun b o q=>Heap.get?_push_of_some _ q) (Nat.le_refl _) ⟨by show 2<=sizeLine;decide,[u,v],.cons ru (.cons rv' .nil),⟨_,Heap.get?_push_size _ rfl,rfl,_,rfl⟩⟩
    have fp':∀b∈ [z,TI,TO,i1,i2],Pu X pins (upd H s.heap.objs.size (.tup [x,y])) b:=fun b hb=>
      ⟨by rw [Ba (lt b hb)];exact(hf b hb).1,(hf b hb).2⟩
    have I2:=I1.turnL (h':=g2) (t':=s.toks) (fp:=[z,TI,TO,i1,i2]) (fun b o hb q=>by
      have n1:b≠z:=fun e=>hb (by simp [e])
      refine(sb2.2 b n1).trans ?_
      rcases Heap.get?_push_cases q with⟨rfl,rfl⟩ | q0
      . exact a5
      . exact hk b o n1 (fun e=>hb (by simp [e])) (fun e=>hb (by simp [e])) (fun e=>hb (by simp [e])) q0) fp'
    refine⟨.ref s.heap.objs.size,_,I2,rfl,⟨_,x,y,fun zs hz=>by rw [I.sqB_inj hz hqx];exact hx,fun zs hz=>by rw [I.sqB_inj hz hqy];exact hy,hn,rfl,rfl⟩,⟨hz2,?_,⟨u,v,sb2.extBut _ _ D.TOz a2⟩,a3.ext sb2.extBut D.i1z,a4.ext sb2.extBut D.i2z⟩,fun b hb=>(fp' b hb).1⟩
    exact sb2.extBut _ _ D.TIz (hk _ _ D.TIz D.TITO D.TIi1 D.TIi2 hTI)
  done:=by
    intro X hP hw hK hc i pins s σ H E I hf st hg
    subst hP hw hK
    obtain⟨xs,ys,hqx,hqy,hxy⟩:=hg
    obtain⟨its,rv,p⟩:=I.sqB hqx
    obtain⟨its2,rv2,p2⟩:=I.sqB hqy
    obtain⟨hz,hTI,⟨c,d,hTO⟩,h1,h2⟩:=st
    have l1:=rv.length
    have l2:=rv2.length
    exact Sx (I.ok.hd hc) D hz hTI hTO h1 h2 p p2 (by
      rcases hxy with h | h
      . exact .inl (by simp;omega)
      . exact .inr (by simp;omega)) fun g hk=>⟨rfl,I.turnL (t':=s.toks) (fp:=[z,TI,TO,i1,i2]) (fun b o hb q=>hk b o (fun e=>hb (by simp [e])) (fun e=>hb (by simp [e])) (fun e=>hb (by simp [e])) (fun e=>hb (by simp [e])) q) hf⟩
  self:=fun _ _ _ _ _ st h=>wpAny_pyIter_zip st.1 h
section
variable {X:Cx}{a b:Expr}{ta:TA}{el:List Expr}{x1}{tp p pos:Pos}
def Wf (t1 t2:Bool) (K:PySem.W.Frag) (ta:TA):TI:=fun σ H R=>ta σ H fun vs H1=>∃a b,vs=[.ref a,.ref b]/\(∃xs,SqB t1 K H1 a xs)/\(∃ys,SqB t2 K H1 b ys)/\R (Y4 t1 t2 K a b) H1
theorem Ja (t1 t2:Bool) (hg:Gl X "zip") (hm:X.mg "zip"=none) (ha:PA X [a,b] ta) (hs:starEach [a,b] X.env=[(false,eval a X.env),(false,eval b X.env)]:=by rfl) (hs2:starEach [b] X.env=[(false,eval b X.env)]:=by rfl):
    PI X (.Tuple el x1 tp) (.Call (.Name "zip" p) [a,b] [] pos) (Wf t1 t2 X.K ta):=by
  intro pins s σ H R I h
  refine Call_ (Kd I hg hm boot_zip (PyProof.Rows.callWith_type1 (thn (ha pos pins s σ H _ I h) fun us s1 ⟨vs,H1,I1,r1,q1⟩=> ?_) (by rw [hs,hs2]) (by rw [hs2];rfl)))
  obtain⟨u,v,rfl,⟨xs,hqx⟩,⟨ys,hqy⟩,q⟩:=q1
  obtain⟨v1,v2,rfl,r1,r2⟩:=vals2 r1
  cases r1
  cases r2
  obtain⟨its,rx,px⟩:=I1.sqB hqx
  obtain⟨its2,ry,py⟩:=I1.sqB hqy
  have lt1:u<s1.heap.objs.size:=by
    cases t1
    . obtain⟨o,e,_⟩:=(show s1.heap.IsList u _ from px)
      exact Heap.lt_size e
    . obtain⟨o,e,_⟩:=(show s1.heap.IsTuple u _ from px)
      exact Heap.lt_size e
  have lt2:v<s1.heap.objs.size:=by
    cases t2
    . obtain⟨o,e,_⟩:=(show s1.heap.IsList v _ from py)
      exact Heap.lt_size e
    . obtain⟨o,e,_⟩:=(show s1.heap.IsTuple v _ from py)
      exact Heap.lt_size e
  refine Tv px py fun h' hz hTI hTO hi1 hi2 hk=> ?_
  have I2:Inv X pins σ H1 { s1 with heap:=h'}:=I1.kept (t':=s1.toks) fun c o' e=>hk c o' e
  refine wpAny_pyIter_zip hz ⟨s1.heap.objs.size+4,[s1.heap.objs.size+4,s1.heap.objs.size+2,s1.heap.objs.size+3,s1.heap.objs.size,s1.heap.objs.size+1],_,_,H1,rfl,I2,Rh t1 t2 u v _ _ _ _ _ (zipApart_new lt1 lt2),⟨hz,hTI,⟨_,_,hTO⟩,hi1,hi2⟩,fun c hcm=> ?_,q⟩
  have hge:s1.heap.objs.size<=c:=by
    simp only [List.mem_cons,List.not_mem_nil,or_false]at hcm
    rcases hcm with rfl | rfl | rfl | rfl | rfl
    . exact Nat.le_add_right _ 4
    . exact Nat.le_add_right _ 2
    . exact Nat.le_add_right _ 3
    . exact Nat.le_refl _
    . exact Nat.le_add_right _ 1
  exact I1.fpOk hge (I1.hok.fresh hge)
end
theorem Ej {t1 t2:Bool}{K:PySem.W.Frag}{ta:TA}{σ:St}{H:Hp}{R:It->Hp->Prop}:Wf t1 t2 K ta σ H R=ta σ H (fun vs H1=>∃a b,vs=[.ref a,.ref b]/\(∃xs,SqB t1 K H1 a xs)/\(∃ys,SqB t2 K H1 b ys)/\R (Y4 t1 t2 K a b) H1):=rfl
end L2
namespace L2
open PySem PySem.Spec PyProof.Rows
set_option maxRecDepth 100000
abbrev TB:=St->Hp->(St->Hp->Prop)->XK->Prop
def Zx (sp:Sp) (g:V->St->St) (ta:TA):TB:=fun σ H N E=>ta σ H fun vs H1=>sp vs H1 (fun v H2=>N (g v σ) H2) E
def bIf (tc:TT) (t u:TB):TB:=fun σ H N E=>tc σ H fun b H1=>if b=true then t σ H1 N E else u σ H1 N E
def Z9 (C:Addr) (i:Nat) (tb:TB) (ts:Addr->Obj->TS):TS:=fun D σ H=>tb σ H (fun σ' H'=>D.nx σ' H')
  (fun c _ H2=>c= .ref C/\∀x oe,oe.cls= .ref C->ts x oe { nx:=fun σ' H'=>D.nx (σ'.set i none) H',rt:=D.rt,bk:=fun σ' H'=>D.bk (σ'.set i none) H',ct:=fun σ' H'=>D.ct (σ'.set i none) H'} (σ.set i (some (.ref x))) H2)
theorem Ef {sp:Sp}{g:V->St->St}{ta:TA}{σ:St}{H:Hp}{N:St->Hp->Prop}{E:XK}:Zx sp g ta σ H N E=ta σ H fun vs H1=>sp vs H1 (fun v H2=>N (g v σ) H2) E:=rfl
theorem Nh {tc:TT}{t u:TB}{σ:St}{H:Hp}{N:St->Hp->Prop}{E:XK}:bIf tc t u σ H N E=tc σ H fun b H1=>if b=true then t σ H1 N E else u σ H1 N E:=rfl
theorem Ho {C:Addr}{i:Nat}{tb:TB}{ts:Addr->Obj->TS}{D:Ends}{σ:St}{H:Hp}:Z9 C i tb ts D σ H=tb σ H (fun σ' H'=>D.nx σ' H')
  (fun c _ H2=>c= .ref C/\∀x oe,oe.cls= .ref C->ts x oe { nx:=fun σ' H'=>D.nx (σ'.set i none) H',rt:=D.rt,bk:=fun σ' H'=>D.bk (σ'.set i none) H',ct:=fun σ' H'=>D.ct (σ'.set i none) H'} (σ.set i (some (.ref x))) H2):=rfl
end L2
namespace L2
open PySem PySem.Spec PySem.Calls PyProof.Rows
theorem J3:∀ {ns:List Int}{us:List Value},IntsAre us ns->Vals (ns.map V.int) us
  | _,_,.nil=> .nil
  | _,_,.cons _ t r=> .cons ⟨t,rfl⟩ (J3 r)
theorem O8:∀ {ns:List Int}{vs:List Value},vs.length=ns.length->(∀(j:Nat) (v:Value),vs[j]? =some v->∃(i:Int) (t:Tok),ns[j]? =some i/\v= .int i t)->IntsAre vs ns
  | [],[],_,_=> .nil
  | [],_::_,h,_=>by simp at h
  | _::_,[],h,_=>by simp at h
  | n::ns,v::vs,h,k=>by
    obtain⟨i,t,e1,rfl⟩:=k 0 v rfl
    have e2:n=i:=by simpa using e1
    subst e2
    exact .cons n t (O8 (by simpa using h) fun j u hu=>by
      obtain⟨i,t,e,e'⟩:=k (j+1) u (by simpa using hu)
      exact⟨i,t,by simpa using e,e'⟩)
theorem KV.keysL {kvs:List (Key × V)}{vs:List (Key × Value)} (r:KV kvs vs):kvs.map (·.1)=vs.map (·.1):=by
  unfold KV at r
  induction r with
  | nil=>rfl
  | cons h _ ih=>rw [List.map_cons,List.map_cons,h.1,ih]
theorem J2 {X:Cx} (hc:X.calm=true):Fj X (.builtin "sorted") (fun xs H Q=>∃(d:Addr) (kvs:List (Key × V)) (ns:List Int),xs=[.ref d]/\H d=some (.dK kvs)/\kvs.map (·.1)=ns.map Sum.inl/\ns.length<64/\∀(l:Addr) (ms:List Int),H l=none->ms.Perm ns->ms.Pairwise (· <= ·)->Q (.ref l) (upd H l (.lst (ms.map V.int)))):=by
  intro pins s σ H xs us Q I r h
  obtain⟨d,kvs,ns,rfl,hd,hk,h64,q⟩:=h
  obtain⟨u,rfl,ru⟩:=vals1 r
  cases ru
  obtain⟨hz,lo,vs,rel,dd⟩:kvs.length<=sizeLine/\(d==sysModules)=false/\∃vs,KV kvs vs/\s.heap.DictOf (Bl X.prog X.w) d vs:=I.hok d _ hd
  obtain⟨ep,hat⟩:=dd.dictAt
  have ek:vs.map (·.1)=ns.map Sum.inl:=by rw [<-rel.keysL,hk]
  have hn:vs.length=ns.length:=by
    have:=congrArg List.length ek
    simpa using this
  have hs:vs.length<=sizeLine:=by rw [hn];exact Nat.le_trans (Nat.le_of_lt h64) (by decide)
  refine call_function_entry kind_sorted plain_sorted entry_sorted (args_sorted1 _) ?_
  unfold Builtin.«sorted»
  refine wpAny_bind (m:=checkCount "sorted" 1 1 _) (wpAny_pure ?_)
  refine wpAny_bind (PySem.W.kdu_collect (PySem.W.kdl_dict (knd:=Bl X.prog X.w) (kvs:=vs) (ep:=ep) lo) (I.ok.hd hc) hat hs fun h' tk acc hkeep hacc=> ?_)
  have hl:acc.toList.length=ns.length:=by rw [Array.length_toList,<-hn];exact hacc.1
  have hI:IntsAre acc.toList ns:=O8 hl fun j v e=>by
    obtain⟨k,x,hx,hv⟩:=hacc.2 j v (by rw [<-Array.getElem?_toList];exact e)
    have e1:(vs.map (·.1))[j]? =some k:=by rw [List.getElem?_map,hx];rfl
    rw [ek,List.getElem?_map]at e1
    obtain⟨i,hi,rfl⟩:=Option.map_eq_some_iff.mp e1
    obtain⟨t,rfl⟩:=Value.isInt_shape (k:=i) (v:=v) hv
    exact⟨i,t,hi,rfl⟩
  refine wpAny_bind (wpAny_newList ?_ (by rw [hl,<-hn];exact hs))
  have hoL:(h'.push (seqObj "list" acc.toList.toArray 0)).get? h'.objs.size=some (seqObj "list" acc.toList.toArray 0):=Heap.get?_push_size _ rfl
  refine wpAny_bind (wpAny_holding (wpAny_call_entry slot_list_sort ⟨_,hoL,rfl⟩ entry_list_sort (list_sort_tree hoL hI (by rw [hl];exact h64) fun out ns' a1 a2 a3=>⟨_,rfl,?_⟩) (args_list_sort _)))
  refine wpAny_pure ⟨_,rfl,?_⟩
  obtain⟨e,he⟩:=sortedHeap_at (out:=out) hoL
  have hlen:ns'.length=ns.length:=a2.length_eq
  have I1:Inv X pins σ H { s with heap:=h',toks:=tk}:=I.kept hkeep
  have kp:∀b o,h'.get? b=some o->(sortedHeap (h'.push (seqObj "list" acc.toList.toArray 0)) h'.objs.size acc.toList out).get? b=some o:=fun b o e1=>by
    have lt:b<h'.objs.size:=Heap.lt_size e1
    rw [sortedHeap_old (Nat.ne_of_lt lt) (by rw [size_push'];exact Nat.lt_succ_of_lt lt),Heap.get?_push_ne _ _ _ (Nat.ne_of_lt lt)]
    exact e1
  exact⟨.ref h'.objs.size,_,I1.laid (a:=h'.objs.size) (t':=tk) kp (Nat.le_refl _) (show Bs X.prog X.w _ _ _ (.lst (ns'.map V.int))from⟨by rw [List.length_map,hlen,<-hn];exact hs,out.toList,e,J3 a1,he⟩),rfl,q _ ns' (I1.hok.fresh (Nat.le_refl _)) a2 a3⟩
end L2
namespace L2
open PySem PySem.Spec PyProof.Rows
section
variable {κ:Type} [DecidableEq κ]
def Dl (kvs:List (κ × V)) (k:κ):Option V:=(kvs.find? fun kv=>decide (kv.1=k)).map (·.2)
def putK (kvs:List (κ × V)) (k:κ) (v:V):List (κ × V):=
  if(kvs.any fun kv=>decide (kv.1=k))=true then kvs.map (fun kv=>if kv.1=k then(kv.1,v)else kv)else kvs++ [(k,v)]
def Ym (kvs:List (κ × V)) (k:κ):List (κ × V):=kvs.filter fun kv=>decide (kv.1≠k)
theorem Bu {p:κ × V}{r:List (κ × V)}{k:κ} (e:p.1=k):Dl (p::r) k=some p.2:=by simp [Dl,List.find?_cons,e]
theorem Bt {p:κ × V}{r:List (κ × V)}{k:κ} (e:¬p.1=k):Dl (p::r) k=Dl r k:=by simp [Dl,List.find?_cons,e]
theorem Cr (k:κ):∀kvs:List (κ × V),(kvs.any fun kv=>decide (kv.1=k))=(Dl kvs k).isSome
  | []=>rfl
  | p::r=>by
    rw [List.any_cons]
    by_cases e:p.1=k
    . simp only [Bu e,decide_eq_true e,Bool.true_or,Option.isSome_some]
    . rw [Bt e,decide_eq_false e,Bool.false_or];exact Cr k r
theorem O6 (k j:κ) (y:V):∀kvs:List (κ × V),Dl (kvs.map fun kv=>if kv.1=k then(kv.1,y)else kv) j=(Dl kvs j).map fun x=>if j=k then y else x
  | []=>rfl
  | p::r=>by
    have ih:=O6 k j y r
    rw [List.map_cons]
    by_cases h:p.1=k
    . rw [if_pos h]
      by_cases e:p.1=j
      . rw [Bu (p:=(p.1,y)) e,Bu e,Option.map_some,if_pos (e.symm.trans h)]
      . rw [Bt (p:=(p.1,y)) e,Bt e,ih]
    . rw [if_neg h]
      by_cases e:p.1=j
      . rw [Bu (p:=p) e,Bu e,Option.map_some,if_neg (fun z=>h (e.trans z))]
      . rw [Bt (p:=p) e,Bt e,ih]
theorem Lq (k j:κ) (y:V):∀kvs:List (κ × V),Dl kvs k=none->Dl (kvs++ [(k,y)]) j=if j=k then some y else Dl kvs j
  | [],_=>by
    by_cases e:k=j
    . rw [if_pos e.symm];exact Bu (p:=(k,y)) e
    . rw [if_neg (fun z=>e z.symm)];exact Bt (p:=(k,y)) e
  | p::r,hn=>by
    rw [List.cons_append]
    have hk:¬p.1=k:=fun z=>by rw [Bu z]at hn;cases hn
    rw [Bt hk]at hn
    have ih:=Lq k j y r hn
    by_cases e:p.1=j
    . rw [Bu e,Bu e,if_neg (fun z=>hk (e.trans z))]
    . rw [Bt e,Bt e,ih]
theorem Ud (kvs:List (κ × V)) (k j:κ) (y:V):Dl (putK kvs k y) j=if j=k then some y else Dl kvs j:=by
  unfold putK
  by_cases a:(kvs.any fun kv=>decide (kv.1=k))=true
  . rw [if_pos a,O6]
    rw [Cr]at a
    by_cases e:j=k
    . obtain⟨x,hx⟩:=Option.isSome_iff_exists.mp a
      rw [if_pos e,e,hx,Option.map_some,if_pos rfl]
    . rw [if_neg e]
      cases Dl kvs j with
      | none=>rfl
      | some x=>rw [Option.map_some,if_neg e]
  . rw [if_neg a]
    refine Lq k j y kvs ?_
    rw [Cr]at a
    cases q:Dl kvs k with
    | none=>rfl
    | some x=>rw [q]at a;exact(a rfl).elim
theorem Jj (kvs:List (κ × V)) (k:κ) (v:V):(putK kvs k v).length<=kvs.length+1:=by
  unfold putK
  split
  . rw [List.length_map];omega
  . rw [List.length_append,List.length_cons,List.length_nil];omega
theorem U4 {kvs:List (κ × V)}{k:κ} (v:V) (h:Dl kvs k=none):putK kvs k v=kvs++ [(k,v)]:=by
  unfold putK
  rw [Cr,h]
  exact if_neg (by decide)
theorem P0.isSome_eq {o:Option V}{u:Option Value} (r:P0 o u):o.isSome=u.isSome:=by
  cases o with
  | none=>cases u with
    | none=>rfl
    | some _=>exact(show False from r).elim
  | some _=>cases u with
    | none=>exact(show False from r).elim
    | some _=>rfl
theorem P0.getD {o:Option V}{u:Option Value}{d:V}{d':Value} (r:P0 o u) (rd:RelV d d'):RelV (o.getD d) (u.getD d'):=by
  cases o with
  | none=>cases u with
    | none=>exact rd
    | some _=>exact(show False from r).elim
  | some _=>cases u with
    | none=>exact(show False from r).elim
    | some _=>exact r
theorem KV.val {kvs:List (κ × V)}{vs:List (κ × Value)} (r:KV kvs vs) (k:κ):P0 (Dl kvs k) (valueAt vs k):=by
  unfold KV at r
  induction r with
  | nil=>exact True.intro
  | @cons p q ps qs h t ih=>
    obtain⟨h1,h2⟩:=h
    by_cases e:p.1=k
    . have e':q.1=k:=h1.symm.trans e
      have b:valueAt (q::qs) k=some q.2:=by simp [valueAt,List.find?_cons,e']
      rw [Bu e,b];exact h2
    . have e':¬q.1=k:=fun z=>e (h1.trans z)
      have b:valueAt (q::qs) k=valueAt qs k:=by simp [valueAt,List.find?_cons,e']
      rw [Bt e,b];exact ih
theorem KV.any {kvs:List (κ × V)}{vs:List (κ × Value)} (r:KV kvs vs) (k:κ):(kvs.any fun kv=>decide (kv.1=k))=vs.any fun kv=>decide (kv.1=k):=by
  unfold KV at r
  induction r with
  | nil=>rfl
  | cons h t ih=>rw [List.any_cons,List.any_cons,ih,h.1]
theorem KV.repl {kvs:List (κ × V)}{vs:List (κ × Value)} (r:KV kvs vs) (k:κ) {y:V}{u:Value} (ry:RelV y u):
    KV (kvs.map fun kv=>if kv.1=k then(kv.1,y)else kv) (vs.map fun kv=>if kv.1=k then(kv.1,u)else kv):=by
  unfold KV at r ⊢
  induction r with
  | nil=>exact .nil
  | @cons p q ps qs h t ih=>
    rw [List.map_cons,List.map_cons]
    refine .cons ?_ ih
    obtain⟨h1,h2⟩:=h
    by_cases e:p.1=k
    . rw [if_pos e,if_pos (h1.symm.trans e)];exact⟨h1,ry⟩
    . rw [if_neg e,if_neg (fun z=>e (h1.trans z))];exact⟨h1,h2⟩
theorem KV.put {kvs:List (κ × V)}{vs:List (κ × Value)} (r:KV kvs vs) (k:κ) {y:V}{u:Value} (ry:RelV y u):KV (putK kvs k y) (stored vs k u):=by
  unfold putK stored
  rw [r.any k]
  by_cases e:(vs.any fun kv=>decide (kv.1=k))=true
  . rw [if_pos e,if_pos e];exact r.repl k ry
  . rw [if_neg e,if_neg e];exact Paired.snoc r ⟨rfl,ry⟩
theorem KV.drop {kvs:List (κ × V)}{vs:List (κ × Value)} (r:KV kvs vs) (k:κ):KV (Ym kvs k) (without vs k):=by
  unfold KV at r ⊢
  unfold Ym without
  induction r with
  | nil=>exact .nil
  | @cons p q ps qs h t ih=>
    obtain⟨h1,h2⟩:=h
    rw [List.filter_cons,List.filter_cons]
    by_cases e:p.1=k
    . have a:¬decide (p.1≠k)=true:=by simp [e]
      have b:¬decide (q.1≠k)=true:=by simp [h1.symm.trans e]
      rw [if_neg a,if_neg b];exact ih
    . have e':¬q.1=k:=fun z=>e (h1.trans z)
      have a:decide (p.1≠k)=true:=by simp [e]
      have b:decide (q.1≠k)=true:=by simp [e']
      rw [if_pos a,if_pos b];exact .cons ⟨h1,h2⟩ ih
theorem KV.length {kvs:List (κ × V)}{vs:List (κ × Value)} (r:KV kvs vs):kvs.length=vs.length:=Paired.length r
end
theorem U7 {P:Program}{w:World}{k:Key}{u:Value} (r:RelV (kV k) u):(Bl P w).is k u=true:=by
  cases k with
  | inl i=>obtain⟨t,e⟩:=(show ∃t,u=Value.int i t from r);subst e;exact Nu P w i t
  | inr x=>obtain⟨t,e⟩:=(show ∃t,u=Value.str x t from r);subst e;exact Oc P w x t
theorem Mu {P:Program}{w:World}:∀ {ks:List Key}{us:List Value},Vals (ks.map kV) us->ItemsAre (Bl P w) ks us
  | [],_,r=>by rw [List.map_nil]at r;cases r;exact .nil
  | k::ks,_,r=>by
    rw [List.map_cons]at r
    cases r with
    | cons h t=>exact .cons (U7 h) (Mu t)
abbrev KT (H:Hp):List (List Key × V)->List (List Key × Addr × Value)->Prop:=Paired fun p q=>p.1=q.1/\H q.2.1=some (.tup (p.1.map kV))/\RelV p.2 q.2.2
theorem KT.val {H:Hp}{kvs:List (List Key × V)}{xs:List (List Key × Addr × Value)} (r:KT H kvs xs) (k:List Key):P0 (Dl kvs k) ((atKey xs k).map (·.2)):=by
  induction r with
  | nil=>exact True.intro
  | @cons p q ps qs h t ih=>
    obtain⟨h1,_,h2⟩:=h
    by_cases e:p.1=k
    . have e':q.1=k:=h1.symm.trans e
      have b:atKey (q::qs) k=some q.2:=by simp [atKey,List.find?_cons,e']
      rw [Bu e,b];exact h2
    . have e':¬q.1=k:=fun z=>e (h1.trans z)
      have b:atKey (q::qs) k=atKey qs k:=by simp [atKey,List.find?_cons,e']
      rw [Bt e,b];exact ih
theorem KT.repl {H:Hp}{kvs:List (List Key × V)}{xs:List (List Key × Addr × Value)} (r:KT H kvs xs) (k:List Key) {y:V}{u:Value} (ry:RelV y u):
    KT H (kvs.map fun kv=>if kv.1=k then(kv.1,y)else kv) (xs.map (putAt k u)):=by
  induction r with
  | nil=>exact .nil
  | @cons p q ps qs h t ih=>
    rw [List.map_cons,List.map_cons]
    refine .cons ?_ ih
    obtain⟨h1,h2,h3⟩:=h
    unfold putAt
    by_cases e:p.1=k
    . rw [if_pos e,if_pos (h1.symm.trans e)];exact⟨h1,h2,ry⟩
    . rw [if_neg e,if_neg (fun z=>e (h1.trans z))];exact⟨h1,h2,h3⟩
theorem KT.put {H:Hp}{kvs:List (List Key × V)}{xs:List (List Key × Addr × Value)} (r:KT H kvs xs) (k:List Key) {b:Addr}{y:V}{u:Value} (hb:H b=some (.tup (k.map kV))) (ry:RelV y u):
    KT H (putK kvs k y) (storedH xs k b u):=by
  have e:(kvs.any fun kv=>decide (kv.1=k))=(atKey xs k).isSome:=by
    rw [Cr,(r.val k).isSome_eq,Option.isSome_map]
  unfold putK storedH
  rw [e]
  by_cases q:(atKey xs k).isSome=true
  . rw [if_pos q,if_pos q];exact r.repl k ry
  . rw [if_neg q,if_neg q];exact Paired.snoc r ⟨rfl,hb,ry⟩
theorem KT.keeps {H H':Hp}{kvs:List (List Key × V)}{xs:List (List Key × Addr × Value)} (r:KT H kvs xs) (ht:∀b ys,H b=some (.tup ys)->H' b=some (.tup ys)):KT H' kvs xs:=
  Paired.mapP r fun _ _ z=>⟨z.1,ht _ _ z.2.1,z.2.2⟩
section
variable {P:Program}{w:World}{H:Hp}{h:Heap}{a:Addr}
theorem Yl {u:HO} (ok:HOk P w H h) (e:Rd H a u):Bs P w H h a u:=e.ok ok
theorem Ss {kvs:List (Key × V)} (ok:HOk P w H h) (e:Rd H a (.dK kvs)):kvs.length<=sizeLine/\(a==sysModules)=false/\∃vs,KV kvs vs/\h.DictOf (Bl P w) a vs:=
  show Bs P w H h a (.dK kvs)from Yl ok e
theorem Zj {kvs:List (Key × V)} (ok:HOk P w H h) (e:H a=some (.dK kvs)):kvs.length<=sizeLine/\(a==sysModules)=false/\∃vs,KV kvs vs/\h.DictOf (Bl P w) a vs:=Ss ok (.inl e)
theorem Pr {ks:List Key} (ok:HOk P w H h) (e:H a=some (.tup (ks.map kV))):(tupleKind (Bl P w)).is h ks a:=by
  obtain⟨_,its,r,o,h1,h2,n,h3⟩:=(show Bs P w H h a (.tup (ks.map kV))from ok a _ e)
  exact⟨o,its.toArray,n,h1,h2,h3,by simpa using Mu r⟩
theorem R9 {kvs:List (List Key × V)} (ok:HOk P w H h) (e:Rd H a (.dT kvs)):kvs.length<=sizeLine/\(a==sysModules)=false/\
    ∃xs,KT H kvs xs/\h.DictOfH (tupleKind (Bl P w)) a xs:=by
  obtain⟨z,y,xs,r,o,es,ep,h1,h2,h3,h4,h5⟩:=(show Bs P w H h a (.dT kvs)from Yl ok e)
  refine⟨z,y,xs,r,o,es,ep,h1,h2,h3,h4,fun x hx=> ?_,h5⟩
  have all:∀ {l:List (List Key × V)}{m:List (List Key × Addr × Value)},KT H l m->∀x∈m,(tupleKind (Bl P w)).is h x.1 x.2.1:=by
    intro l m q
    induction q with
    | nil=>intro x hx;exact nomatch hx
    | @cons p q ps qs hq t ih=>
      intro x hx
      rcases List.mem_cons.mp hx with e | hx
      . subst e
        exact Pr ok (by rw [<-hq.1];exact hq.2.1)
      . exact ih x hx
  exact all r x hx
theorem Zc {kvs:List (List Key × V)} (ok:HOk P w H h) (e:H a=some (.dT kvs)):kvs.length<=sizeLine/\(a==sysModules)=false/\
    ∃xs,KT H kvs xs/\h.DictOfH (tupleKind (Bl P w)) a xs:=R9 ok (.inl e)
end
def Qj (H:Hp) (a:Addr) (y:V) (r:Option V):Prop:=
  (∃kvs k,Rd H a (.dK kvs)/\y=kV k/\r=Dl kvs k)\/∃kvs k b,Rd H a (.dT kvs)/\y= .ref b/\H b=some (.tup (k.map kV))/\r=Dl kvs k
def V1 (H:Hp) (a:Addr) (y v:V) (H':Hp):Prop:=
  (∃kvs k,H a=some (.dK kvs)/\y=kV k/\kvs.length<sizeLine/\H'=upd H a (.dK (putK kvs k v)))\/
  ∃kvs k b,H a=some (.dT kvs)/\y= .ref b/\H b=some (.tup (k.map kV))/\kvs.length<sizeLine/\H'=upd H a (.dT (putK kvs k v))
theorem Qj.k {H:Hp}{a:Addr}{kvs:List (Key × V)}{k:Key} (e:H a=some (.dK kvs)):Qj H a (kV k) (Dl kvs k):= .inl ⟨kvs,k,.inl e,rfl,rfl⟩
theorem Qj.t {H:Hp}{a b:Addr}{kvs:List (List Key × V)}{k:List Key} (e:H a=some (.dT kvs)) (eb:H b=some (.tup (k.map kV))):Qj H a (.ref b) (Dl kvs k):= .inr ⟨kvs,k,b,.inl e,rfl,eb,rfl⟩
theorem V1.k {H:Hp}{a:Addr}{kvs:List (Key × V)}{k:Key}{v:V} (e:H a=some (.dK kvs)) (hl:kvs.length<sizeLine):V1 H a (kV k) v (upd H a (.dK (putK kvs k v))):= .inl ⟨kvs,k,e,rfl,hl,rfl⟩
theorem V1.t {H:Hp}{a b:Addr}{kvs:List (List Key × V)}{k:List Key}{v:V} (e:H a=some (.dT kvs)) (eb:H b=some (.tup (k.map kV))) (hl:kvs.length<sizeLine):
    V1 H a (.ref b) v (upd H a (.dT (putK kvs k v))):= .inr ⟨kvs,k,b,e,rfl,eb,hl,rfl⟩
section
variable {X:Cx}{pins:List (Addr × Obj)}{σ:St}{H:Hp}{s:Shared}{a:Addr}{y v:V}{u r:Value}{o:Option V}{A:Around}{E:Value->Shared->Prop}
theorem Inv.big (I:Inv X pins σ H s):sysModules<s.heap.objs.size:=by
  have h:mainGlobals<s.heap.objs.size:=(I.mod.glob.keeps I.bk).lt
  exact Nat.lt_trans (by decide) h
theorem Rw {Q:Value->Shared->Prop} (hu:A.units+1<cLine) (I:Inv X pins σ H s) (g:Qj H a y (some v)) (ry:RelV y u) (h:∀w' s',Inv X pins σ H s'->RelV v w'->Q w' s'):
    wpAny (model X.prog X.w) A (getItem (.ref a) u) Q E s:=by
  rcases g with⟨kvs,k,e,ey,l⟩ | ⟨kvs,k,b,e,ey,eb,l⟩
  . subst ey
    obtain⟨z,hd,vs,rel,dd⟩:=Ss I.hok e
    obtain⟨w',hw,rw'⟩:=P0.some_of (v:=v) (o:=valueAt vs k) (by rw [l];exact rel.val k)
    exact wpAny_getItem_of (U7 ry) dd.mapOf hw (h w' _ (I.tok _) rw')
  . subst ey
    cases(show u=Value.ref b from ry)
    obtain⟨z,hd,xs,rel,dd⟩:=R9 I.hok e
    obtain⟨w',hw,rw'⟩:=P0.some_of (v:=v) (o:=(atKey xs k).map (·.2)) (by rw [l];exact rel.val k)
    obtain⟨p,hp,hp2⟩:=Option.map_eq_some_iff.mp hw
    refine wpAny_getItem_heap (tupleKind_room_in1 hu) (Pr I.hok eb) dd hp ?_
    rw [hp2]
    exact h w' _ (I.tok _) rw'
theorem Rm {h':Heap}{t':Nat}{ob:HO} (I:Inv X pins σ H s) (mu:Mut (H a)) (hs:Heap.SameBut a s.heap h') (he:∃q,h'.get? a=some q) (new:Bs X.prog X.w (upd H a ob) h' a ob):
    Inv X pins σ (upd H a ob) { s with heap:=h',toks:=t'}:=
  I.write (x:=a) (e:=a) mu (.inl rfl) (fun b q hb z=>(hs.2 b hb).trans z) he new
theorem Yo {P:Program}{w:World}{H':Hp}{h':Heap}{kvs:List (Key × V)}{vs:List (Key × Value)} (z:kvs.length<=sizeLine) (hd:(a==sysModules)=false) (rel:KV kvs vs) (dd:h'.DictOf (Bl P w) a vs):
    Bs P w H' h' a (.dK kvs):=⟨z,hd,vs,rel,dd⟩
theorem Sq {H':Hp}{Q:Unit->Shared->Prop} (hu:A.units+1<cLine) (I:Inv X pins σ H s) (g:V1 H a y v H') (ry:RelV y u) (rv:RelV v r) (h:∀s',Inv X pins σ H' s'->Q () s'):
    wpAny (model X.prog X.w) A (setItem (.ref a) u r) Q E s:=by
  rcases g with⟨kvs,k,e,ey,l,eH⟩ | ⟨kvs,k,b,e,ey,eb,l,eH⟩
  . subst ey eH
    obtain⟨z,hd,vs,rel,dd⟩:=Zj I.hok e
    have hz:vs.length<=sizeLine:=by rw [<-rel.length];exact z
    have hl:(putK kvs k v).length<=sizeLine:=by have:=Jj kvs k v;omega
    refine wpAny_setItem_pairs (hsz:=hz) (U7 ry) dd fun h' dd' hs=>h _ ?_
    have he:∃q,h'.get? a=some q:=let ⟨q,_,_,hq,_⟩:=dd';⟨q,hq⟩
    exact Rm I (by rw [e];exact True.intro) hs he (Yo hl hd (rel.put k rv) dd')
  . subst ey eH
    cases(show u=Value.ref b from ry)
    obtain⟨z,hd,xs,rel,dd⟩:=Zc I.hok e
    have hz:xs.length<=sizeLine:=by rw [<-Paired.length rel];exact z
    have hl:(putK kvs k v).length<=sizeLine:=by have:=Jj kvs k v;omega
    refine wpAny_setItem_heap (hsz:=hz) (tupleKind_room_in1 hu) (Pr I.hok eb) dd fun h' dd' hs=>h _ ?_
    obtain⟨q,es,ep,hq,h2,h3,h4,_,h5⟩:=dd'
    refine Rm I (by rw [e];exact True.intro) hs ⟨q,hq⟩ ⟨hl,hd,_,(rel.put k eb rv).keeps fun c ys ec=> ?_,q,es,ep,hq,h2,h3,h4,h5⟩
    rw [Ba (Zg ec e (fun z=>nomatch z))]
    exact ec
end
def Zf (i:Expr):Prop:=∀ov iv,subscripted i false ov iv=operate [ov,iv] (getItem ov iv)
theorem W7 {prog:Program}{w:World}{A:Around}{E:Value->Shared->Prop}{s:Shared}{env:Env}{value slice:Expr}{pos:Pos}{T id:String}{Q:Value->Shared->Prop}
    (hl:typeLookup (.type T) "__getitem__"=pure (some (.builtin id))) (hs:Zf slice)
    (h:wpAny (model prog w) A (eval value env) (fun o s₁=>wpAny (model prog w) A (eval slice env) (fun i s₂=>s₂.TypeIs o T/\wpAny (model prog w) A (getItem o i) Q E s₂) E s₁) E s):
    wpAny (model prog w) A (eval (.Subscript value slice pos) env) Q E s:=by
  refine Subscript_ (wpAny_mono h (fun o s₁ h₁=>wpAny_mono h₁ (fun i s₂ h₂=> ?_) fun _ _ x=>x) fun _ _ x=>x)
  obtain⟨hT,h₂⟩:=h₂
  unfold subscriptTail
  refine wpAny_bind ?_
  rw [getitemInPython_of_ne hT.not_modules]
  refine wpAny_bind (wpAny_specialOf hT hl ?_)
  have fin:wpAny (model prog w) A (subscripted slice false o i) (fun r s₃=>wpAny (model prog w) A (letTemporaryGo value o r>>=fun _=>pure r) Q E s₃) E s₂:=by
    rw [hs o i]
    exact wpAny_operating (wpAny_mono h₂ (fun r s₃ h₃=>wpAny_bind (wpAny_letTemporaryGo (wpAny_pure h₃))) fun _ _ x=>x)
  first
    | exact wpAny_pure (wpAny_bind fin)
    | exact wpAny_bind (wpAny_pure (wpAny_bind fin))
    | exact wpAny_bind fin
theorem Ob {X:Cx}{pins:List (Addr × Obj)}{σ:St}{H:Hp}{s:Shared}{a:Addr}{y:V}{o:Option V} (I:Inv X pins σ H s) (g:Qj H a y o):s.TypeIs (.ref a) "dict":=by
  rcases g with⟨kvs,k,e,_,_⟩ | ⟨kvs,k,b,e,_,_,_⟩
  . obtain⟨_,_,vs,_,dd⟩:=Ss I.hok e
    exact dd.typeIs
  . obtain⟨_,_,xs,_,dd⟩:=R9 I.hok e
    exact dd.typeIs
def Wg (td ty:TE):TE:=fun σ H Q=>td σ H fun x H1=>ty σ H1 fun y H2=>∃a v,x= .ref a/\Qj H2 a y (some v)/\Q v H2
def W4 (td ty tv:TE):TS:=fun D σ H=>tv σ H fun v H1=>td σ H1 fun x H2=>ty σ H2 fun y H3=>∃a H4,x= .ref a/\V1 H3 a y v H4/\D.nx σ H4
section
variable {X:Cx}{o i e value:Expr}{pos pos' tpos:Pos}{td ty tv:TE}
theorem Gx (hu:X.A.units+1<cLine) (ho:PE X o td) (hi:PE X i ty) (hs:Zf i):PE X (.Subscript o i pos) (Wg td ty):=by
  intro pins s σ H Q I h
  refine W7 PySem.F.slot_dict_getitem.lookup hs (thn (ho pins s σ H _ I h) fun u s1 ⟨x,H1,I1,rx,q1⟩=>thn (hi pins s1 σ H1 _ I1 q1) fun iv s2 ⟨y,H2,I2,ry,a,v,ex,g,q2⟩=> ?_)
  subst ex
  obtain rfl:u=Value.ref a:=rx
  exact⟨Ob I2 g,Rw hu I2 g ry fun w' s3 I3 rw'=>⟨v,H2,I3,rw',q2⟩⟩
theorem K9 (hu:X.A.units+1<cLine) (ho:PE X o td) (hi:PE X i ty) (hv:PE X value tv) (hs:swapsWith value (some (.Subscript o i pos')) pos.line X.env=pure false):
    PS X (.Assign [.Subscript o i pos'] value pos) (W4 td ty tv):=by
  intro pins s σ H D I h
  refine wpAny_Assign_Subscript (thn (hv pins s σ H _ I h) fun r s1 ⟨v,H1,I1,rv,q1⟩=>thn (ho pins s1 σ H1 _ I1 q1) fun u s2 ⟨x,H2,I2,rx,q2⟩=>thn (hi pins s2 σ H2 _ I2 q2) fun iv s3 ⟨y,H3,I3,ry,a,H4,ex,g,q3⟩=> ?_) hs
  subst ex
  obtain rfl:u=Value.ref a:=rx
  exact Sq hu I3 g ry rv fun s4 I4=>⟨σ,H4,I4,q3⟩
end
structure M1 (X:Cx) (o:Expr) (m:Str) (apos:Pos) (e:Expr) (cpos:Pos):Prop where
  base:attributeBase o m X.env (eval o X.env)=eval o X.env
  few:((backTo cpos (starEach [e] X.env)).all (fun x=> !x.1)&&(backToKw cpos (keywordEach [] X.env)).all (fun x=>x.1.isSome)
    &&decide (([e]:List Expr).length+([]:List Keyword).length+(if([]:List Keyword).isEmpty then 0 else 1)<30))=true
  line:(apos.endLine==cpos.line)=true
  trees:backTo cpos (starEach [e] X.env)=[(false,eval e X.env)]
structure M2 (X:Cx) (o:Expr) (m:Str) (apos:Pos) (e f:Expr) (cpos:Pos):Prop where
  base:attributeBase o m X.env (eval o X.env)=eval o X.env
  few:((backTo cpos (starEach [e,f] X.env)).all (fun x=> !x.1)&&(backToKw cpos (keywordEach [] X.env)).all (fun x=>x.1.isSome)
    &&decide (([e,f]:List Expr).length+([]:List Keyword).length+(if([]:List Keyword).isEmpty then 0 else 1)<30))=true
  line:(apos.endLine==cpos.line)=true
  trees:backTo cpos (starEach [e,f] X.env)=[(false,eval e X.env),(false,eval f X.env)]
def IsD (H:Hp) (a:Addr):Prop:=(∃kvs,Rd H a (.dK kvs))\/∃kvs,Rd H a (.dT kvs)
theorem Xn {X:Cx}{pins:List (Addr × Obj)}{σ:St}{H:Hp}{s:Shared}{a:Addr} (I:Inv X pins σ H s) (d:IsD H a):
    s.TypeIs (.ref a) "dict"/\(∀b,Value.ref a= .ref b->∃ob,s.heap.get? b=some ob/\ob.dict=none)/\(a==sysModules)=false:=by
  rcases d with⟨kvs,e⟩ | ⟨kvs,e⟩
  . obtain⟨_,hd,vs,_,dd⟩:=Ss I.hok e
    refine⟨dd.typeIs,fun b q=> ?_,hd⟩
    cases q
    obtain⟨ob,_,_,h1,h2,_⟩:=dd
    exact⟨ob,h1,h2.2.1⟩
  . obtain⟨_,hd,xs,_,dd⟩:=R9 I.hok e
    refine⟨dd.typeIs,fun b q=> ?_,hd⟩
    cases q
    obtain⟨ob,_,_,h1,h2,_⟩:=dd
    exact⟨ob,h1,h2.2.1⟩
section
variable {X:Cx}{pins:List (Addr × Obj)}{σ:St}{H:Hp}{s:Shared}{a:Addr}{y d:V}{u r:Value}{o:Option V}{A:Around}{E:Value->Shared->Prop}
theorem Ye {Q:Value->Shared->Prop} (hu:A.units+1<cLine) (I:Inv X pins σ H s) (g:Qj H a y o) (ry:RelV y u) (rd:RelV d r) (h:∀w' s',Inv X pins σ H s'->RelV (o.getD d) w'->Q w' s'):
    wpAny (model X.prog X.w) A (call (.builtin "dict.get") [.ref a,u,r]) Q E s:=by
  rcases g with⟨kvs,k,e,ey,l⟩ | ⟨kvs,k,b,e,ey,eb,l⟩
  . subst ey
    obtain⟨z,hd,vs,rel,dd⟩:=Ss I.hok e
    refine call_meetsIn PySem.F.slot_dict_get dd.typeIs PySem.F.entry_dict_get (PySem.F.args_dict_get_3 _ _ _) (meets_dict_get_default (Bl X.prog X.w) a (U7 ry) hd r) ⟨_,dd.mapOf,h _ _ (I.tok _) ?_⟩
    rw [l]
    exact(rel.val k).getD rd
  . subst ey
    cases(show u=Value.ref b from ry)
    obtain⟨z,hd,xs,rel,dd⟩:=R9 I.hok e
    refine call_meetsIn PySem.F.slot_dict_get dd.typeIs PySem.F.entry_dict_get (PySem.F.args_dict_get_3 _ _ _) (meetsH_dict_get_default (tupleKind (Bl X.prog X.w)) a b hd r) ⟨tupleKind_room_in1 hu,k,xs,Pr I.hok eb,dd,h _ _ (I.tok _) ?_⟩
    rw [l]
    exact(rel.val k).getD rd
end
def Tg (td ty tx:TE):TE:=fun σ H Q=>td σ H fun x H1=>∃a,x= .ref a/\IsD H1 a/\ty σ H1 fun y H2=>tx σ H2 fun z H3=>∃o,Qj H3 a y o/\Q (o.getD z) H3
section
variable {X:Cx}{o e f:Expr}{apos cpos:Pos}{td ty tx:TE}
theorem Iz (hu:X.A.units+1<cLine) (ho:PE X o td) (he:PE X e ty) (hf:PE X f tx) (m:M2 X o "get" apos e f cpos):PE X (.Call (.Attribute o "get" apos) [e,f] [] cpos) (Tg td ty tx):=by
  intro pins s σ H Q I h
  refine wpAny_Call_method m.base m.few m.line PySem.F.plainAttrs_dict PySem.F.slot_dict_get PySem.F.type_dict_get (thn (ho pins s σ H _ I h) fun u s1 ⟨x,H1,I1,rx,a,ex,d,q1⟩=> ?_)
  subst ex
  obtain rfl:u=Value.ref a:=rx
  obtain⟨t1,t2,_⟩:=Xn I1 d
  refine⟨t1,t2,?_⟩
  rw [m.trees]
  refine Calls.callWith_builtin rfl (Calls.evalArgs_plain (Calls.spliced_cons (thn (he pins s1 σ H1 _ I1 q1) fun iv s2 ⟨y,H2,I2,ry,q2⟩=>
    Calls.spliced_cons (thn (hf pins s2 σ H2 _ I2 q2) fun fv s3 ⟨z,H3,I3,rz,ov,g,q3⟩=>Calls.spliced_nil ?_))))
  exact Ye hu I3 g ry rz fun w' s4 I4 rw'=>⟨_,H3,I4,rw',q3⟩
end
end L2
namespace L2
open PySem PySem.Spec PyProof.Rows
section
variable {κ:Type} [DecidableEq κ]
theorem U0 {kvs:List (κ × V)}{k:κ} (h:Dl kvs k=none):¬k∈kvs.map (·.1):=by
  intro m
  obtain⟨p,hp,e⟩:=List.mem_map.mp m
  have q:(kvs.any fun kv=>decide (kv.1=k))=true:=List.any_eq_true.mpr ⟨p,hp,decide_eq_true e⟩
  rw [Cr,h]at q
  exact absurd q (by simp)
theorem V6 {kvs:List (κ × V)}{k:κ}{v:V} (h:Dl kvs k=some v):k∈kvs.map (·.1):=by
  have q:(kvs.any fun kv=>decide (kv.1=k))=true:=by
    rw [Cr,h]
    all_goals rfl
  obtain⟨p,hp,e⟩:=List.any_eq_true.mp q
  exact List.mem_map.mpr ⟨p,hp,of_decide_eq_true e⟩
theorem S7:∀ {l:List κ}{k:κ},l.Nodup->¬k∈l->(l++ [k]).Nodup
  | [],k,_,_=>by simp
  | a::r,k,h,hk=>by
    obtain⟨h1,h2⟩:=List.nodup_cons.mp h
    show(a::(r++ [k])).Nodup
    refine List.nodup_cons.mpr ⟨fun m=> ?_,S7 h2 fun m=>hk (List.mem_cons.mpr (Or.inr m))⟩
    rcases List.mem_append.mp m with q | q
    . exact h1 q
    . exact hk (List.mem_cons.mpr (Or.inl (List.mem_singleton.mp q).symm))
end
end L2
namespace L2
open PySem PySem.Spec PyProof.Rows
theorem hu1 {A:Around} (h:A.units+64<cLine):A.units+1<cLine:=Nat.lt_of_le_of_lt (Nat.add_le_add_left (by decide:1<=64) _) h
section
variable {td ty tx tv:TE}{σ:St}{H:Hp}{Q:VK}{D:Ends}
theorem Ig:Wg td ty σ H Q=td σ H fun x H1=>ty σ H1 fun y H2=>∃a v,x= .ref a/\Qj H2 a y (some v)/\Q v H2:=rfl
theorem Eu:Tg td ty tx σ H Q=td σ H fun x H1=>∃a,x= .ref a/\IsD H1 a/\ty σ H1 fun y H2=>tx σ H2 fun z H3=>∃o,Qj H3 a y o/\Q (o.getD z) H3:=rfl
theorem Ih:W4 td ty tv D σ H=tv σ H fun v H1=>td σ H1 fun x H2=>ty σ H2 fun y H3=>∃a H4,x= .ref a/\V1 H3 a y v H4/\D.nx σ H4:=rfl
end
theorem Ul {H:Hp}{a:Addr}{kvs:List (Key × V)}{i:Int}{v:V} (e:H a=some (.dK kvs)) (h:Dl kvs (.inl i)=some v):Qj H a (.int i) (some v):= .inl ⟨kvs,.inl i,.inl e,rfl,h.symm⟩
theorem Xm {H:Hp}{a:Addr}{kvs:List (Key × V)}{i:Int} (e:H a=some (.dK kvs)):Qj H a (.int i) (Dl kvs (.inl i)):= .inl ⟨kvs,.inl i,.inl e,rfl,rfl⟩
theorem Yv {H:Hp}{a:Addr}{kvs:List (Key × V)}{i:Int}{v:V} (e:H a=some (.dK kvs)) (hl:kvs.length<sizeLine):V1 H a (.int i) v (upd H a (.dK (putK kvs (.inl i) v))):= .inl ⟨kvs,.inl i,e,rfl,hl,rfl⟩
end L2
namespace L2
open PySem PySem.Spec PyProof.Rows
theorem Jk {H1:Hp}{p:Addr}{cσ:St}{g:TG}{tt:TT}{te:TE}{Q:VK}{α:Type}{es:List α}{inj:α->V}{J:It} (pf:α->Bool) (Rl:α->V->Hp->Prop)
    (mono:∀e v H H',Rl e v H->Same H H'->Rl e v H') (put:∀e v H ys zs,Rl e v H->H p=some (.lst ys)->Rl e v (upd H p (.lst zs))) (hz:es.length<=sizeLine) (hp:H1 p=none) (hJ:Wk J H1 es inj)
    (step:∀(e:α) (H':Hp) (R:VK) (RF:Hp->Prop),e∈es->Same H1 H'->(pf e=true->∀v H6,Same H' H6->Rl e v H6->R v H6)->(pf e=false->∀H6,Same H' H6->RF H6)->g (inj e) cσ H' fun σ4 H4=>Kp cσ σ4/\tt σ4 H4 fun b H5=>if b=true then te σ4 H5 R else RF H5)
    (done:∀H' (vs:List (V × α)),Same H1 H'->H' p=some (.lst (vs.map (·.1)))->vs.map (·.2)=es.filter pf->(∀x∈vs,Rl x.2 x.1 H')->Q (.ref p) H'):cIn J cσ g tt te Q H1 p:=by
  have su:∀ {H':Hp}{o:HO},Same H1 H'->Same H1 (upd H' p o):=fun {H' o} s b u e=>by
    rw [Ba (Bb e hp)]
    exact s b u e
  refine⟨fun i m acc H'=>∃vs:List (V × α),m=es.length-i/\i<=es.length/\acc=vs.map (·.1)/\vs.map (·.2)=(es.take i).filter pf/\(∀x∈vs,Rl x.2 x.1 H')/\H' p=some (.lst acc)/\Same H1 H',⟨es.length,[],by simp,Nat.zero_le _,rfl,by simp,by simp,Ag,su (Same.refl _)⟩,?_⟩
  rintro i m acc H' ⟨vs,rfl,hi,rfl,hv,hr,hH,s⟩
  cases he:es[i]? with
  | none=>
    have e:i=es.length:=Nat.le_antisymm hi (List.getElem?_eq_none_iff.mp he)
    subst e
    rw [List.take_length]at hv
    exact .inl ⟨(hJ _ _ s).1 he,done _ vs s hH hv hr⟩
  | some e=>
    obtain⟨go,yl⟩:=(hJ _ _ s).2 e he
    refine .inr ⟨go,fun x H3 y=> ?_⟩
    obtain⟨rfl,rfl⟩:=yl x H3 y
    obtain⟨hlt,_⟩:=List.getElem?_eq_some_iff.mp he
    have tk:es.take (i+1)=es.take i++ [e]:=by rw [List.take_succ,he];rfl
    have fl:vs.length<=i:=by
      have h1:=congrArg List.length hv
      rw [List.length_map]at h1
      rw [h1]
      exact Nat.le_trans (List.length_filter_le _ _) (by rw [List.length_take];omega)
    refine step e H3 _ _ (List.mem_of_getElem? he) s (fun hpf v H6 s6 r6=>⟨s6 _ _ hH,by rw [List.length_map];omega,_,by omega,vs++ [(v,e)],rfl,hlt,by rw [List.map_append];rfl,?_,?_,Ag,su (s.trans s6)⟩) (fun hpf H6 s6=>⟨_,by omega,vs,rfl,hlt,rfl,?_,fun x hx=>mono _ _ _ _ (hr x hx) s6,s6 _ _ hH,s.trans s6⟩)
    . rw [tk,List.filter_append,List.map_append,hv]
      simp [hpf]
    . intro x hx
      rcases List.mem_append.mp hx with hx | hx
      . exact put _ _ _ _ _ (mono _ _ _ _ (hr x hx) s6) (s6 _ _ hH)
      . have:x=(v,e):=by simpa using hx
        rw [this]
        exact put _ _ _ _ _ r6 (s6 _ _ hH)
    . rw [tk,List.filter_append,hv]
      simp [hpf]
end L2
namespace L2
open PySem PySem.Spec PyProof.Rows
theorem Uo {t1 t2:Bool}{K:PySem.W.Frag}{a b:Addr}{xs ys:List V}{H1:Hp}{p:Addr}{cσ:St}{g:TG}{te:TE}{Q:VK} (n:Nat) (hn:n=min xs.length ys.length) (f:Nat->V) (hz:n<=sizeLine) (hp:H1 p=none)
    (wx:∀H',Same H1 H'->SqB t1 K H' a xs) (wy:∀H',Same H1 H'->SqB t2 K H' b ys)
    (step:∀(i:Nat) (H':Hp) (q:Addr) (R:VK),i<n->Same H1 H'->H' q=some (.tup [xs.getD i .non,ys.getD i .non])->(∀H6,Same H' H6->R (f i) H6)->g (.ref q) cσ H' fun σ4 H4=>Kp cσ σ4/\te σ4 H4 R)
    (done:∀H',Same H1 H'->H' p=some (.lst ((List.range n).map f))->Q (.ref p) H'):cIn (Y4 t1 t2 K a b) cσ g Oh te Q H1 p:=by
  have su:∀ {H':Hp}{o:HO},Same H1 H'->Same H1 (upd H' p o):=fun {H' o} s b u e=>by
    rw [Ba (Bb e hp)]
    exact s b u e
  refine⟨fun i m acc H'=>m=n-i/\i<=n/\acc=(List.range i).map f/\H' p=some (.lst acc)/\Same H1 H',⟨n,by simp,Nat.zero_le _,by simp,Ag,su (Same.refl _)⟩,?_⟩
  rintro i m acc H' ⟨rfl,hi,rfl,hH,s⟩
  by_cases he:i=n
  . subst he
    exact .inl ⟨⟨xs,ys,wx _ s,wy _ s,by omega⟩,done _ s hH⟩
  . have hl:i<n:=by omega
    have ex:xs[i]? =some (xs.getD i .non):=by rw [List.getD_eq_getElem?_getD,List.getElem?_eq_getElem (by omega)];rfl
    have ey:ys[i]? =some (ys.getD i .non):=by rw [List.getD_eq_getElem?_getD,List.getElem?_eq_getElem (by omega)];rfl
    refine .inr ⟨⟨xs,ys,_,_,wx _ s,wy _ s,ex,ey⟩,fun x H3 y=> ?_⟩
    obtain⟨q,u,v,hu,hv,hq,rfl,rfl⟩:=y
    have eu:=hu _ (wx _ s)
    have ev:=hv _ (wy _ s)
    rw [ex]at eu
    rw [ey]at ev
    cases eu
    cases ev
    have sq:=Same.upd hq (.tup [xs.getD i .non,ys.getD i .non])
    have q0:=step i (upd H' q (.tup [xs.getD i .non,ys.getD i .non])) q (fun y H6=>H6 p=some (.lst ((List.range i).map f))/\((List.range i).map f).length<sizeLine/\∃m',m'<n-i/\m'=n-(i+1)/\i+1<=n/\(List.range i).map f++ [y]=(List.range (i+1)).map f/\
        upd H6 p (.lst ((List.range i).map f++ [y])) p=some (.lst ((List.range i).map f++ [y]))/\Same H1 (upd H6 p (.lst ((List.range i).map f++ [y])))) hl (s.trans sq) Ag
      (fun H6 s6=>⟨s6 _ _ (sq _ _ hH),by rw [List.length_map,List.length_range];omega,_,by omega,rfl,hl,by rw [List.range_succ,List.map_append];rfl,Ag,su ((s.trans sq).trans s6)⟩)
    have eq:∀(R:VK) (B:Hp->Prop),(fun σ4 H4=>Kp cσ σ4/\Oh σ4 H4 fun b H5=>if b=true then te σ4 H5 R else B H5)=(fun σ4 H4=>Kp cσ σ4/\te σ4 H4 R):=fun R B=>by
      funext σ4 H4
      simp only [Oh,if_pos]
    rw [eq]
    exact q0
end L2
namespace L2.S
open PySem L2
@[irreducible] def PE (X:Cx) (e:Expr) (t:TE):Prop:=L2.PE X e t
@[irreducible] def PT (X:Cx) (e:Expr) (t:TT):Prop:=L2.PT X e t
@[irreducible] def PW (X:Cx) (e:Expr) (t:TT):Prop:=L2.PW X e t
@[irreducible] def PA (X:Cx) (es:List Expr) (t:TA):Prop:=L2.PA X es t
@[irreducible] def PS (X:Cx) (st:Stmt) (t:TS):Prop:=L2.PS X st t
@[irreducible] def PSs (X:Cx) (st:List Stmt) (t:TS):Prop:=L2.PSs X st t
@[irreducible] def PG (X:Cx) (target:Expr) (t:TG):Prop:=L2.PG X target t
@[irreducible] def PGs (X:Cx) (ts:List Expr) (t:TGs):Prop:=L2.PGs X ts t
@[irreducible] def PI (X:Cx) (tg iter:Expr) (wi:TI):Prop:=L2.PI X tg iter wi
@[irreducible] def PO (X:Cx) (e:Option Expr) (t:TO):Prop:=L2.PO X e t
@[irreducible] def PTs (X:Cx) (ifs:List Expr) (t:TT):Prop:=L2.PTs X ifs t
theorem out {X:Cx}{b:List Stmt}{t:TS} (h:PSs X b t):L2.PSs X b t:=by unfold PSs at h;exact h
theorem pv:∀ {X:Cx} (i:Nat) {x:Str}{pos:Pos},autoParam ((Cx.N X)[i]? =Option.some x) L2.pv._auto_1->autoParam (Vis (Env.scope (Cx.env X)) x) L2.pv._auto_2->autoParam ((x==("__debug__":Str))=Bool.false) L2.pv._auto_3->autoParam ((x==("__classdict__":Str))=Bool.false) L2.pv._auto_4->S.PE X (Expr.Name x pos) (Xk i):=by with_unfolding_all exact @L2.pv
theorem Dg:∀ {X:Cx}{x:Str}{v:V}{u:Value}{pos:Pos},Gl X x->Cx.mg X x=Option.none->bootBuiltins x=Option.some u->RelV v u->autoParam (x≠("__name__":Str)) L2.Dg._auto_1->autoParam ((x==("__debug__":Str))=Bool.false) L2.Dg._auto_2->S.PE X (Expr.Name x pos) (tC v):=by with_unfolding_all exact @L2.Dg
theorem Ga:∀ {X:Cx}{x:Str}{v:V}{u:Value}{pos:Pos},Gl X x->Cx.mg X x=Option.some u->RelV v u->autoParam ((x==("__debug__":Str))=Bool.false) L2.Ga._auto_1->S.PE X (Expr.Name x pos) (tC v):=by with_unfolding_all exact @L2.Ga
theorem Ab:∀ {X:Cx}{i:Int}{j:Nat}{pos:Pos},S.PE X (Expr.Constant (Const.int i) j pos) (tC (V.int i)):=by with_unfolding_all exact @L2.Ab
theorem Gg:∀ {X:Cx}{b:Bool}{j:Nat}{pos:Pos},S.PE X (Expr.Constant (Const.bool b) j pos) (tC (V.bl b)):=by with_unfolding_all exact @L2.Gg
theorem Qy:∀ {X:Cx}{j:Nat}{pos:Pos},S.PE X (Expr.Constant Const.none j pos) (tC V.non):=by with_unfolding_all exact @L2.Qy
theorem O5:∀ {X:Cx}{x:Str}{j:Nat}{pos:Pos},S.PE X (Expr.Constant (Const.str x) j pos) (tC (V.str x)):=by with_unfolding_all exact @L2.O5
theorem Ai:∀ {X:Cx}{a b:Expr}{ta tb:TE}{pos:Pos}{op:Operator}{r:R2},OpR X (binaryOp op) r->S.PE X a ta->S.PE X b tb->S.PE X (Expr.BinOp a op b pos) (tOp r ta tb):=by with_unfolding_all exact @L2.Ai
theorem Li:∀ {X:Cx}{a:Expr}{ta:TE}{pos:Pos},S.PE X a ta->S.PE X (Expr.UnaryOp UnaryOp.Not a pos) (Wm ta):=by with_unfolding_all exact @L2.Li
theorem Lw:∀ {X:Cx}{a:Expr}{ta:TE}{pos:Pos}{op:UnaryOp}{r:V->Hp->VK->Prop},UnR X (unaryOp op) r->S.PE X a ta->S.PE X (Expr.UnaryOp op a pos) (tUn r ta):=by with_unfolding_all exact @L2.Lw
theorem Bx:∀ {X:Cx}{a b:Expr}{ta tb:TE}{pos:Pos}{op:CmpOp}{r:R2},OpR X (compareOp op) r->S.PE X a ta->S.PE X b tb->behindInMarks op b=Bool.false->S.PE X (Expr.Compare a [op] [b] pos) (tOp r ta tb):=by with_unfolding_all exact @L2.Bx
theorem Dv:∀ {X:Cx}{a b:Expr}{ta tb:TE}{pos:Pos}{rest:List Expr},S.PE X a ta->S.PE X (Expr.BoolOp BoolOp.And (b::rest) pos) tb->S.PE X (Expr.BoolOp BoolOp.And (a::b::rest) pos) (W3 ta tb):=by with_unfolding_all exact @L2.Dv
theorem Ip:∀ {X:Cx}{a:Expr}{pos:Pos}{op:BoolOp}{t:TE},S.PE X a t->S.PE X (Expr.BoolOp op [a] pos) t:=by with_unfolding_all exact @L2.Ip
theorem Ku:∀ {X:Cx}{a b:Expr}{ta tb:TE}{pos:Pos}{tA:TT}{c:Expr},S.PT X c tA->S.PE X a ta->S.PE X b tb->S.PE X (Expr.IfExp c a b pos) (tIf tA ta tb):=by with_unfolding_all exact @L2.Ku
theorem Af:∀ {X:Cx}{es:List Expr}{t:TA}{pos:Pos}{x1:Nat},S.PA X es t->S.PE X (Expr.Tuple es x1 pos) (Zq t):=by with_unfolding_all exact @L2.Af
theorem Et:∀ {X:Cx}{es:List Expr}{t:TA}{pos:Pos},S.PA X es t->S.PE X (Expr.List es pos) (Zv t):=by with_unfolding_all exact @L2.Et
theorem N5:∀ {X:Cx}{e st:Expr}{te tst:TE}{pos p2:Pos},S.PE X e te->S.PE X st tst->S.PE X (Expr.Subscript e (Expr.Slice Option.none Option.none (Option.some st) p2) pos) (W0 (Cx.K X) te tst):=by with_unfolding_all exact @L2.N5
theorem Km:∀ {X:Cx}{e:Expr}{te:TE}{lo hi:Option Expr}{tl th:TO}{pos p2:Pos}{r:V->Option Int->Option Int->Hp->VK->Prop},SlR X r->S.PE X e te->S.PO X lo tl->S.PO X hi th->S.PE X (Expr.Subscript e (Expr.Slice lo hi Option.none p2) pos) (tSl r te tl th):=by with_unfolding_all exact @L2.Km
theorem O1:∀ {X:Cx},S.PO X Option.none Om:=by with_unfolding_all exact @L2.O1
theorem Oz:∀ {X:Cx}{e:Expr}{te:TE},S.PE X e te->S.PO X (Option.some e) (Wa te):=by with_unfolding_all exact @L2.Oz
theorem Bv:∀ {X:Cx}{a b:Expr}{ta tb:TE}{pos:Pos}{r:R2},IxR X r->S.PE X a ta->S.PE X b tb->Qw b->S.PE X (Expr.Subscript a b pos) (tOp r ta tb):=by with_unfolding_all exact @L2.Bv
theorem Kq:∀ {X:Cx}{pos:Pos},S.PE X (Expr.Dict [] [] pos) V9:=by with_unfolding_all exact @L2.Kq
theorem Gx:∀ {X:Cx}{o i:Expr}{pos:Pos}{td ty:TE},Around.units (Cx.A X)+(1:Nat)<cLine->S.PE X o td->S.PE X i ty->Zf i->S.PE X (Expr.Subscript o i pos) (Wg td ty):=by with_unfolding_all exact @L2.Gx
theorem Iz:∀ {X:Cx}{o e f:Expr}{apos cpos:Pos}{td ty tx:TE},Around.units (Cx.A X)+(1:Nat)<cLine->S.PE X o td->S.PE X e ty->S.PE X f tx->M2 X o (("get":Str)) apos e f cpos->S.PE X (Expr.Call (Expr.Attribute o (("get":Str)) apos) [e,f] [] cpos) (Tg td ty tx):=by with_unfolding_all exact @L2.Iz
theorem Dh:∀ {X:Cx}{elt tg iter:Expr}{ifs:List Expr}{scope:Scope}{pos:Pos}{wi:TI}{g:TG}{tt:TT}{te:TE}{ts:List Str}{fs:List (Nat × Str)},Cx.calm X=Bool.true->Bg X ts fs scope->S.PI X tg iter wi->(∀(ex:List Addr) (s:Shared) (H:Hp),S.PG (cxC X (cpN ts fs) scope ex s H) tg g)->(∀(ex:List Addr) (s:Shared) (H:Hp),S.PTs (cxC X (cpN ts fs) scope ex s H) ifs tt)->(∀(ex:List Addr) (s:Shared) (H:Hp),S.PE (cxC X (cpN ts fs) scope ex s H) elt te)->autoParam (∀(x:Value),foldedSetIterable iter (Cx.env X) x=Pure.pure x) L2.Dh._auto_1->S.PE X (Expr.ListComp elt [{ target:=tg,iter:=iter,ifs:=ifs,is_async:=(0:Int)}] scope pos) (U5 (List.length ts) fs wi g tt te):=by with_unfolding_all exact @L2.Dh
theorem Dn:∀ {P:Program}{w:World}{K:W.Frag}{mg:Str->Option Value}{base:Heap}{N:List Str}{qual:Str}{scope:Scope}{f:Addr}{cd:Value}{A:Around}{outer:List Env}{s0:Shared}{H0:Hp}{E:XK}{k:Nat}{x:Str}{ps:List Str}{sp:Sp}{p pos:Pos}{e:Expr}{es:List Expr}{t:TA},Qv P w K mg base k x ps sp->Fv k (Around.deeper A (PyProof.Rows.envOfC qual scope (Array.size (Heap.objs (Shared.heap s0))) f cd))->S.PA (Jh (CXE P w) P w K mg base N qual scope f cd A outer s0 H0 E) (e::es) t->autoParam (Gl (Jh (CXE P w) P w K mg base N qual scope f cd A outer s0 H0 E) x) L2.Dn._auto_1->autoParam ((x==("__debug__":Str))=Bool.false) L2.Dn._auto_2->autoParam (starEach (e::es) (PyProof.Rows.envOfC qual scope (Array.size (Heap.objs (Shared.heap s0))) f cd)=(Bool.false,eval e (PyProof.Rows.envOfC qual scope (Array.size (Heap.objs (Shared.heap s0))) f cd))::starEach es (PyProof.Rows.envOfC qual scope (Array.size (Heap.objs (Shared.heap s0))) f cd)) L2.Dn._auto_3->autoParam ((List.any (backTo pos (starEach es (PyProof.Rows.envOfC qual scope (Array.size (Heap.objs (Shared.heap s0))) f cd))) fun(x:Bool × Sem Value) ↦ Prod.fst x)=Bool.false) L2.Dn._auto_4->S.PE (Jh (CXE P w) P w K mg base N qual scope f cd A outer s0 H0 E) (Expr.Call (Expr.Name x p) (e::es) [] pos) (Od sp [] E t):=by with_unfolding_all exact @L2.Dn
theorem Br:∀ {X:Cx}{e:Expr}{es:List Expr}{t:TA}{x:Str}{p pos:Pos}{id:String}{r:List V->Hp->VK->Prop},Fj X (Value.builtin id) r->Gl X x->Cx.mg X x=Option.none->bootBuiltins x=Option.some (Value.builtin id)->S.PA X (e::es) t->autoParam (Bp e=Bool.true) L2.Br._auto_1->autoParam (List.all es Bp=Bool.true) L2.Br._auto_2->autoParam (x≠("__name__":Str)) L2.Br._auto_3->autoParam ((x==("__debug__":Str))=Bool.false) L2.Br._auto_4->S.PE X (Expr.Call (Expr.Name x p) (e::es) [] pos) (tCB r t):=by with_unfolding_all exact @L2.Br
theorem Ei:∀ {X:Cx}{e:Expr}{es:List Expr}{t:TA}{x:Str}{p pos:Pos}{T:String}{r:List V->Hp->VK->Prop},Fj X (Value.type T) r->Gl X x->Cx.mg X x=Option.none->bootBuiltins x=Option.some (Value.type T)->S.PA X (e::es) t->autoParam (Bp e=Bool.true) L2.Ei._auto_1->autoParam (List.all es Bp=Bool.true) L2.Ei._auto_2->autoParam (x≠("__name__":Str)) L2.Ei._auto_3->autoParam ((x==("__debug__":Str))=Bool.false) L2.Ei._auto_4->S.PE X (Expr.Call (Expr.Name x p) (e::es) [] pos) (tCB r t):=by with_unfolding_all exact @L2.Ei
theorem Bf:∀ {X:Cx}{e:Expr}{es:List Expr}{t:TA}{x:Str}{p pos:Pos}{k:Nat}{ps:List Str}{sp:Sp},Cal (Cx.prog X) (Cx.w X) (Cx.K X) (Cx.mg X) (Cx.base X) k x ps sp->Fv k (Cx.A X)->S.PA X (e::es) t->autoParam (Bp e=Bool.true) L2.Bf._auto_1->autoParam (List.all es Bp=Bool.true) L2.Bf._auto_2->autoParam (Gl X x) L2.Bf._auto_3->autoParam ((x==("__debug__":Str))=Bool.false) L2.Bf._auto_4->S.PE X (Expr.Call (Expr.Name x p) (e::es) [] pos) (Od sp [] E0 t):=by with_unfolding_all exact @L2.Bf
theorem Cv:∀ {X:Cx}{x:Str}{v:V}{pos:Pos},Gl X x->(∃(u:Value),Cx.mg X x=Option.some u/\RelV v u)->autoParam ((x==("__debug__":Str))=Bool.false) L2.Cv._auto_1->S.PE X (Expr.Name x pos) (tC v):=by with_unfolding_all exact @L2.Cv
theorem Kz:∀ {X:Cx}{o e:Expr}{es:List Expr}{to:TE}{t:TA}{name:Str}{apos cpos:Pos}{T id:String}{r:V->List V->Hp->VK->Prop},PlainAttrs T->Slot T name id->typeOf (Value.builtin id)=Pure.pure (Value.type "method_descriptor")->MtR X id r->S.PE X o to->S.PA X (e::es) t->autoParam (attributeBase o name (Cx.env X) (eval o (Cx.env X))=eval o (Cx.env X)) L2.Kz._auto_1->autoParam ((((List.all (backTo cpos (starEach (e::es) (Cx.env X))) fun(x:Bool × Sem Value) ↦ !Prod.fst x)&&List.all (backToKw cpos (keywordEach [] (Cx.env X))) fun(x:Option Str × Sem Value) ↦ Option.isSome (Prod.fst x))&&Decidable.decide ((List.length (e::es)+List.length ([]:List Keyword)+if List.isEmpty ([]:List Keyword)=Bool.true then(0:Nat)else(1:Nat))<(30:Nat)))=Bool.true) L2.Kz._auto_2->autoParam ((Pos.endLine apos==Pos.line cpos)=Bool.true) L2.Kz._auto_3->autoParam (starEach (e::es) (Cx.env X)=(Bool.false,eval e (Cx.env X))::starEach es (Cx.env X)) L2.Kz._auto_4->autoParam ((List.any (backTo cpos (starEach es (Cx.env X))) fun(x:Bool × Sem Value) ↦ Prod.fst x)=Bool.false) L2.Kz._auto_5->S.PE X (Expr.Call (Expr.Attribute o name apos) (e::es) [] cpos) (tBM (Cx.K X) T r to t):=by with_unfolding_all exact @L2.Kz
theorem Mx:∀ {X:Cx}{o:Expr}{to:TE}{name:Str}{apos cpos:Pos}{T id:String}{r:V->List V->Hp->VK->Prop},PlainAttrs T->Slot T name id->typeOf (Value.builtin id)=Pure.pure (Value.type "method_descriptor")->MtR X id r->S.PE X o to->autoParam (attributeBase o name (Cx.env X) (eval o (Cx.env X))=eval o (Cx.env X)) L2.Mx._auto_1->autoParam ((Pos.endLine apos==Pos.line cpos)=Bool.true) L2.Mx._auto_2->S.PE X (Expr.Call (Expr.Attribute o name apos) [] [] cpos) (Zy (Cx.K X) T r to):=by with_unfolding_all exact @L2.Mx
theorem Ja:∀ {X:Cx}{a b:Expr}{ta:TA}{el:List Expr}{x1:Nat}{tp p pos:Pos} (t1 t2:Bool),Gl X (("zip":Str))->Cx.mg X (("zip":Str))=Option.none->S.PA X [a,b] ta->autoParam (starEach [a,b] (Cx.env X)=[(Bool.false,eval a (Cx.env X)),(Bool.false,eval b (Cx.env X))]) L2.Ja._auto_1->autoParam (starEach [b] (Cx.env X)=[(Bool.false,eval b (Cx.env X))]) L2.Ja._auto_2->S.PI X (Expr.Tuple el x1 tp) (Expr.Call (Expr.Name (("zip":Str)) p) [a,b] [] pos) (Wf t1 t2 (Cx.K X) ta):=by with_unfolding_all exact @L2.Ja
theorem Jc:∀ {X:Cx}{tg a b c:Expr}{ta:TA}{p pos:Pos},Gl X (("range":Str))->Cx.mg X (("range":Str))=Option.none->S.PA X [a,b,c] ta->autoParam (Bp a=Bool.true) L2.Jc._auto_1->autoParam (List.all [b,c] Bp=Bool.true) L2.Jc._auto_2->S.PI X tg (Expr.Call (Expr.Name (("range":Str)) p) [a,b,c] [] pos) (Wv ta):=by with_unfolding_all exact @L2.Jc
theorem Eh:∀ {X:Cx}{tg a:Expr}{ta:TA}{p pos:Pos},Gl X (("range":Str))->Cx.mg X (("range":Str))=Option.none->S.PA X [a] ta->autoParam (starEach [a] (Cx.env X)=[(Bool.false,eval a (Cx.env X))]) L2.Eh._auto_1->S.PI X tg (Expr.Call (Expr.Name (("range":Str)) p) [a] [] pos) (Xe ta):=by with_unfolding_all exact @L2.Eh
theorem Dp:∀ {X:Cx}{tg l:Expr}{tl:TE},S.PE X l tl->S.PI X tg l (Xd (Cx.K X) tl):=by with_unfolding_all exact @L2.Dp
theorem Lh:∀ {X:Cx}{tg l:Expr}{tl:TE},S.PE X l tl->S.PI X tg l (Zb (Cx.K X) tl):=by with_unfolding_all exact @L2.Lh
theorem Jl:∀ {X:Cx},S.PTs X [] Oh:=by with_unfolding_all exact @L2.Jl
theorem G3:∀ {X:Cx}{c:Expr}{t:TT},S.PT X c t->S.PTs X [c] t:=by with_unfolding_all exact @L2.G3
theorem Ak:∀ {X:Cx}{a b:Expr}{ta tb:TE}{pos:Pos}{op:CmpOp}{r:R2},OpR X (compareOp op) r->S.PE X a ta->S.PE X b tb->behindInMarks op b=Bool.false->S.PT X (Expr.Compare a [op] [b] pos) (Wo (tOp r ta tb)):=by with_unfolding_all exact @L2.Ak
theorem Fq:∀ {X:Cx}{a:Expr}{pos:Pos}{tA:TT},S.PT X a tA->S.PT X (Expr.UnaryOp UnaryOp.Not a pos) (Zi tA):=by with_unfolding_all exact @L2.Fq
theorem Sd:∀ {X:Cx}{a b:Expr}{pos:Pos}{tA tB':TT}{rest:List Expr},S.PT X a tA->S.PW X (Expr.BoolOp BoolOp.And (b::rest) pos) tB'->S.PW X (Expr.BoolOp BoolOp.And (a::b::rest) pos) (Zm tA tB'):=by with_unfolding_all exact @L2.Sd
theorem Jo:∀ {X:Cx}{a b:Expr}{pos:Pos}{tA tB':TT}{rest:List Expr},S.PT X a tA->S.PW X (Expr.BoolOp BoolOp.Or (b::rest) pos) tB'->S.PW X (Expr.BoolOp BoolOp.Or (a::b::rest) pos) (tOr tA tB'):=by with_unfolding_all exact @L2.Jo
theorem Ou:∀ {X:Cx}{a:Expr}{pos:Pos}{tA:TT},S.PT X a tA->S.PW X (Expr.BoolOp BoolOp.And [a] pos) tA:=by with_unfolding_all exact @L2.Ou
theorem Ik:∀ {X:Cx}{a:Expr}{pos:Pos}{tA:TT},S.PT X a tA->S.PW X (Expr.BoolOp BoolOp.Or [a] pos) tA:=by with_unfolding_all exact @L2.Ik
theorem Oj:∀ {X:Cx}{e:Expr}{t:TT},S.PW X e t->S.PT X e t:=by with_unfolding_all exact @L2.PW.pt
theorem En:∀ {X:Cx}{e:Expr}{t:TE},S.PE X e t->autoParam (∀(whole:Sem Value),isTrue e (Cx.env X) whole=do let v<-whole;standAt (Expr.pos e);holding [v] (truthy v)) L2.En._auto_1->S.PT X e (tB t):=by with_unfolding_all exact @L2.En
theorem Ac:∀ {X:Cx},S.PA X [] Zt:=by with_unfolding_all exact @L2.Ac
theorem Aa:∀ {X:Cx}{e:Expr}{es:List Expr}{te:TE}{t:TA},S.PE X e te->S.PA X es t->autoParam (Bp e=Bool.true) L2.Aa._auto_1->S.PA X (e::es) (Um te t):=by with_unfolding_all exact @L2.Aa
theorem Az:∀ {X:Cx},S.PSs X [] W8:=by with_unfolding_all exact @L2.Az
theorem Ae:∀ {X:Cx}{st:Stmt}{t:TS},S.PS X st t->S.PSs X [st] t:=by with_unfolding_all exact @L2.Ae
theorem Ad:∀ {X:Cx}{st:Stmt}{rest:List Stmt}{t u:TS},S.PS X st t->S.PSs X rest u->S.PSs X (st::rest) (Y5 t u):=by with_unfolding_all exact @L2.Ad
theorem Am:∀ {X:Cx}{pos:Pos}{i:Nat}{x:Str},List.Nodup (Cx.N X)->(Cx.N X)[i]? =Option.some x->Loc (Env.scope (Cx.env X)) x->∀(hf:autoParam (Cx.fn X x=Bool.true\/List.lookup x (Scope.names (Env.scope (Cx.env X)))=Option.some NameKind.local) L2.Am._auto_1),S.PG X (Expr.Name x pos) (Oi i):=by with_unfolding_all exact @L2.Am
theorem Cz:∀ {X:Cx},S.PGs X [] Z8:=by with_unfolding_all exact @L2.Cz
theorem Ar:∀ {X:Cx}{e:Expr}{es:List Expr}{t:TG}{u:TGs},S.PG X e t->S.PGs X es u->autoParam (List.map (fun(x:Bool × (Value->Sem Unit)) ↦ Prod.snd x) (assignEach (e::es) (Cx.env X))=assign e (Cx.env X)::List.map (fun(x:Bool × (Value->Sem Unit)) ↦ Prod.snd x) (assignEach es (Cx.env X))) L2.Ar._auto_1->S.PGs X (e::es) (T6 t u):=by with_unfolding_all exact @L2.Ar
theorem Gy:∀ {X:Cx}{es:List Expr}{k:Nat}{pos:Pos}{t:TGs} (K:W.Frag) (n:Nat),Cx.K X=K->Cx.calm X=Bool.true->S.PGs X es t->autoParam (List.length (assignEach es (Cx.env X))=n) L2.Gy._auto_1->autoParam (List.findIdx? (fun(x:Bool × (Value->Sem Unit)) ↦ Prod.fst x) (assignEach es (Cx.env X))=Option.none) L2.Gy._auto_2->S.PG X (Expr.Tuple es k pos) (Ys K n t):=by with_unfolding_all exact @L2.Gy
theorem El:∀ {X:Cx}{pos:Pos}{es:List Expr}{k:Nat}{t:TGs}{n:Nat},Cx.calm X=Bool.true->S.PGs X es t->autoParam (List.length (assignEach es (Cx.env X))=n) L2.El._auto_1->autoParam (List.findIdx? (fun(x:Bool × (Value->Sem Unit)) ↦ Prod.fst x) (assignEach es (Cx.env X))=Option.none) L2.El._auto_2->S.PG X (Expr.Tuple es k pos) (Ys (Cx.K X) n t):=by with_unfolding_all exact @L2.El
theorem Kl:∀ {X:Cx}{st:Stmt},S.PS X st Vj:=by with_unfolding_all exact @L2.Kl
theorem Aj:∀ {X:Cx}{pos:Pos}{i:Nat}{x:Str}{e:Expr}{te:TE}{pos':Pos},List.Nodup (Cx.N X)->(Cx.N X)[i]? =Option.some x->Loc (Env.scope (Cx.env X)) x->S.PE X e te->autoParam (swapsWith e (Option.some (Expr.Name x pos')) (Pos.line pos) (Cx.env X)=Pure.pure Bool.false) L2.Aj._auto_1->autoParam (Cx.fn X x=Bool.true\/List.lookup x (Scope.names (Env.scope (Cx.env X)))=Option.some NameKind.local) L2.Aj._auto_2->S.PS X (Stmt.Assign [Expr.Name x pos'] e pos) (X6 te (Oi i)):=by with_unfolding_all exact @L2.Aj
theorem K9:∀ {X:Cx}{o i value:Expr}{pos pos':Pos}{td ty tv:TE},Around.units (Cx.A X)+(1:Nat)<cLine->S.PE X o td->S.PE X i ty->S.PE X value tv->swapsWith value (Option.some (Expr.Subscript o i pos')) (Pos.line pos) (Cx.env X)=Pure.pure Bool.false->S.PS X (Stmt.Assign [Expr.Subscript o i pos'] value pos) (W4 td ty tv):=by with_unfolding_all exact @L2.K9
theorem Pa:∀ {X:Cx}{pos:Pos}{i j:Nat}{x y:Str}{a b:Expr}{ta:TA}{px py pt:Pos}{kt k2:Nat}{pt2:Pos},Cx.calm X=Bool.true->List.Nodup (Cx.N X)->(Cx.N X)[i]? =Option.some x->(Cx.N X)[j]? =Option.some y->i≠j->List.lookup x (Scope.names (Env.scope (Cx.env X)))=Option.some NameKind.local->List.lookup y (Scope.names (Env.scope (Cx.env X)))=Option.some NameKind.local->S.PA X [a,b] ta->swappedStores [Expr.Tuple [Expr.Name x px,Expr.Name y py] kt pt] (Expr.Tuple [a,b] k2 pt2) (Cx.env X)=Pure.pure (Option.some [x,y])->autoParam (swapsWithSole [Expr.Tuple [Expr.Name x px,Expr.Name y py] kt pt] (Expr.Tuple [a,b] k2 pt2) (Pos.line pos) (Cx.env X)=Pure.pure Bool.false) L2.Pa._auto_1->S.PS X (Stmt.Assign [Expr.Tuple [Expr.Name x px,Expr.Name y py] kt pt] (Expr.Tuple [a,b] k2 pt2) pos) (Zd i j ta):=by with_unfolding_all exact @L2.Pa
theorem Hf:∀ {X:Cx}{pos:Pos}{tg e:Expr}{te:TE}{g:TG},S.PE X e te->S.PG X tg g->autoParam (swapsWithSole [tg] e (Pos.line pos) (Cx.env X)=Pure.pure Bool.false) L2.Hf._auto_1->autoParam (swappedStores [tg] e (Cx.env X)=Pure.pure Option.none) L2.Hf._auto_2->autoParam (List.map (fun(x:Bool × (Value->Sem Unit)) ↦ Prod.snd x) (assignEach [tg] (Cx.env X))=[assign tg (Cx.env X)]) L2.Hf._auto_3->S.PS X (Stmt.Assign [tg] e pos) (X6 te g):=by with_unfolding_all exact @L2.Hf
theorem Ao:∀ {X:Cx}{e:Expr}{te:TE}{pos:Pos},S.PE X e te->S.PS X (Stmt.Return (Option.some e) pos) (Y9 te):=by with_unfolding_all exact @L2.Ao
theorem Dd:∀ {X:Cx}{t u:TS}{pos:Pos}{c:Expr}{a b:List Stmt}{tc:TT},S.PT X c tc->S.PSs X a t->S.PSs X b u->S.PS X (Stmt.If c a b pos) (Zh tc t u):=by with_unfolding_all exact @L2.Dd
theorem Cm:∀ {P:Program}{w:World}{K:W.Frag}{mg:Str->Option Value}{base:Heap}{N:List Str}{qual:Str}{scope:Scope}{f:Addr}{cd:Value}{A:Around}{outer:List Env}{s0:Shared}{H0:Hp}{E:XK}{C:Addr}{x:Str}{np cpos pos:Pos}{e:Expr}{es:List Expr}{t:TA},Q0 K C->mg x=Option.some (Value.ref C)->S.PA (Jh (CXE P w) P w K mg base N qual scope f cd A outer s0 H0 E) (e::es) t->autoParam (Gl (Jh (CXE P w) P w K mg base N qual scope f cd A outer s0 H0 E) x) L2.Cm._auto_1->autoParam ((x==("__debug__":Str))=Bool.false) L2.Cm._auto_2->autoParam (starEach (e::es) (PyProof.Rows.envOfC qual scope (Array.size (Heap.objs (Shared.heap s0))) f cd)=(Bool.false,eval e (PyProof.Rows.envOfC qual scope (Array.size (Heap.objs (Shared.heap s0))) f cd))::starEach es (PyProof.Rows.envOfC qual scope (Array.size (Heap.objs (Shared.heap s0))) f cd)) L2.Cm._auto_3->autoParam ((List.any (backTo cpos (starEach es (PyProof.Rows.envOfC qual scope (Array.size (Heap.objs (Shared.heap s0))) f cd))) fun(x:Bool × Sem Value) ↦ Prod.fst x)=Bool.false) L2.Cm._auto_4->S.PS (Jh (CXE P w) P w K mg base N qual scope f cd A outer s0 H0 E) (Stmt.Raise (Option.some (Expr.Call (Expr.Name x np) (e::es) [] cpos)) Option.none pos) (Sv C E t):=by with_unfolding_all exact @L2.Cm
theorem Bk:∀ {X:Cx}{C:Addr}{cx n f:Str}{np p cpos pos hpos:Pos}{b0 st:Stmt}{suite:List Stmt}{i k:Nat}{ts:Addr->Obj->TS}{ps:List Str}{sp:Sp}{a:Expr}{as:List Expr}{ta:TA}{g:V->St->St},Qv (Cx.prog X) (Cx.w X) (Cx.K X) (Cx.mg X) (Cx.base X) k f ps sp->Fv k (Cx.A X)->S.PA (Cx.nox X) (a::as) ta->O9 X st (Expr.Call (Expr.Name f p) (a::as) [] cpos) g->Q0 (Cx.K X) C->Cx.mg X cx=Option.some (Value.ref C)->(∀(x:Addr) (oe:Obj),Obj.cls oe=Value.ref C->S.PSs (Cx.caught X x oe) (b0::suite) (ts x oe))->List.Nodup (Cx.N X)->(Cx.N X)[i]? =Option.some n->autoParam (Cx.stack X=Cx.env X::Cx.outer X) L2.Bk._auto_1->autoParam (Env.frame (Cx.env X)=Option.some (Env.locals (Cx.env X))) L2.Bk._auto_2->autoParam (Gl X cx) L2.Bk._auto_3->autoParam ((cx==("__debug__":Str))=Bool.false) L2.Bk._auto_4->autoParam (Gl X f) L2.Bk._auto_5->autoParam ((f==("__debug__":Str))=Bool.false) L2.Bk._auto_6->autoParam (starEach (a::as) (Cx.env X)=(Bool.false,eval a (Cx.env X))::starEach as (Cx.env X)) L2.Bk._auto_7->autoParam ((List.any (backTo cpos (starEach as (Cx.env X))) fun(x:Bool × Sem Value) ↦ Prod.fst x)=Bool.false) L2.Bk._auto_8->autoParam (Env.kindOf (Cx.env X) n=Option.some NameKind.local) L2.Bk._auto_9->autoParam (Loc (Env.scope (Cx.env X)) n) L2.Bk._auto_10->autoParam (List.lookup n (Scope.names (Env.scope (Cx.env X)))=Option.some NameKind.local) L2.Bk._auto_11->S.PS X (Stmt.Try [st] [ExceptHandler.ExceptHandler (Option.some (Expr.Name cx np)) (Option.some n) (b0::suite) hpos] [] [] pos) (R5 sp C g i ta ts):=by with_unfolding_all exact @L2.Bk
theorem Gi:∀ {X:Cx}{e:Expr}{pos:Pos},autoParam (swapsWith e Option.none (Pos.line pos) (Cx.env X)=Pure.pure Bool.false) L2.Gi._auto_1->O9 X (Stmt.Expr e pos) e fun(x:V) (σ:St) ↦ σ:=by with_unfolding_all exact @L2.Gi
theorem Vv:∀ {X:Cx}{st:Stmt}{t:TS},S.PS (Cx.nox X) st t->S.PS X st t:=by with_unfolding_all exact @L2.PS.nox
theorem Fi:∀ {X:Cx}{pos:Pos}{c:Expr}{body:List Stmt}{tc:TT}{tb:TS},PassesOwn (model (Cx.prog X) (Cx.w X)) (Cx.A X) (Cx.env X) (Cx.xe X)->S.PT X c tc->S.PSs X body tb->S.PS X (Stmt.While c body [] pos) (Pq tc tb):=by with_unfolding_all exact @L2.Fi
theorem Ft:∀ {X:Cx}{tg iter:Expr}{body:List Stmt}{wi:TI}{g:TG}{tb:TS}{pos:Pos},PassesOwn (model (Cx.prog X) (Cx.w X)) (Cx.A X) (Cx.env X) (Cx.xe X)->Cx.calm X=Bool.true->S.PI X tg iter wi->S.PG X tg g->S.PSs X body tb->autoParam (∀(x:Value),foldedSetIterable iter (Cx.env X) x=Pure.pure x) L2.Ft._auto_1->S.PS X (Stmt.For tg iter body [] pos) (Z1 wi g tb):=by with_unfolding_all exact @L2.Ft
theorem Ju:∀ {X:Cx}{e:Expr}{te:TE}{pos:Pos},S.PE X e te->autoParam (swapsWith e Option.none (Pos.line pos) (Cx.env X)=Pure.pure Bool.false) L2.Ju._auto_1->S.PS X (Stmt.Expr e pos) (Ws te):=by with_unfolding_all exact @L2.Ju
theorem Bq {X:Cx}{b:List Stmt}{φ:TS->Prop} (h:∃t,PSs X b t/\φ t):∃t,L2.PSs X b t/\φ t:=by
  obtain⟨t,h1,h2⟩:=h
  exact⟨t,out h1,h2⟩
end L2.S
namespace Z
theorem La {a b:Int} (h:0<b):a.fdiv (Int.gcd a b:Int)=(Rat.divInt a b).num/\b.fdiv (Int.gcd a b:Int)=((Rat.divInt a b).den:Int):=by
  have g0:(0:Int)<=(Int.gcd a b:Int):=Int.natCast_nonneg _
  rw [Int.fdiv_eq_ediv_of_nonneg _ g0,Int.fdiv_eq_ediv_of_nonneg _ g0,Rat.num_divInt,Rat.den_divInt]
  rw [if_neg (by omega),Int.sign_eq_one_of_pos h,Int.one_mul,Int.gcd_comm b a]
  refine⟨rfl,?_⟩
  rw [Int.natCast_ediv]
  congr 1
  omega
theorem Px {a b:Int} (h:b<0):a.fdiv (-(Int.gcd a b:Int))=(Rat.divInt a b).num/\b.fdiv (-(Int.gcd a b:Int))=((Rat.divInt a b).den:Int):=by
  have e:Rat.divInt a b=Rat.divInt (-a) (-b):=(Rat.neg_divInt_neg a b).symm
  have p:=La (a:= -a) (b:= -b) (by omega)
  have hg:Int.gcd (-a) (-b)=Int.gcd a b:=by rw [Int.gcd_neg,Int.neg_gcd]
  rw [hg]at p
  rw [e,<-p.1,<-p.2]
  constructor
  . rw [<-Int.neg_fdiv_neg (-a),Int.neg_neg]
  . rw [<-Int.neg_fdiv_neg (-b),Int.neg_neg]
theorem Aac (p q:Rat):Rat.divInt (p.num*q.den+q.num*p.den) (p.den*q.den)=p+q:=by
  rw [Rat.add_def',<-Rat.divInt_ofNat];congr 1
theorem Aaz (p q:Rat):Rat.divInt (p.num*q.den-q.num*p.den) (p.den*q.den)=p-q:=by
  rw [Rat.sub_def',<-Rat.divInt_ofNat];congr 1
theorem Aai (p q:Rat):Rat.divInt (p.num*q.num) (p.den*q.den)=p*q:=by
  rw [Rat.mul_def',<-Rat.divInt_ofNat];congr 1
theorem Yx (a b:Int):(Rat.divInt a b).num.natAbs<=a.natAbs:=by
  rw [Rat.num_divInt]
  refine Nat.le_trans (Int.natAbs_ediv_le_natAbs _ _) ?_
  rw [Int.natAbs_mul]
  have:b.sign.natAbs<=1:=by
    rcases Int.lt_trichotomy b 0 with h | h | h
    . rw [Int.sign_eq_neg_one_of_neg h];decide
    . subst h;decide
    . rw [Int.sign_eq_one_of_pos h];decide
  calc b.sign.natAbs*a.natAbs<=1*a.natAbs:=Nat.mul_le_mul_right _ this
    _=a.natAbs:=Nat.one_mul _
theorem Xz {a b:Int} (h:b≠0):(Rat.divInt a b).den<=b.natAbs:=by
  rw [Rat.den_divInt,if_neg h]
  exact Nat.div_le_self _ _
theorem abs_eq (i:Int):(if i<0 then-i else i)=((i.natAbs:Nat):Int):=by
  split<;>omega
theorem Vb (x y:Nat):Nat.gcd y (x%y)=Nat.gcd x y:=by
  rw [Nat.gcd_comm y (x%y),<-Nat.gcd_rec,Nat.gcd_comm]
def sg (q:Rat):Int:=if q=0 then 0 else if 0<q then 1 else-1
end Z
theorem Zz (a:Int):0<=a*a:=by
  rcases Int.le_total 0 a with h | h
  . exact Int.mul_nonneg h h
  . have:=Int.mul_nonneg (Int.neg_nonneg_of_nonpos h) (Int.neg_nonneg_of_nonpos h)
    rwa [Int.neg_mul_neg]at this
theorem Yq {n g:Int} (hg:0<g) (hn:0<=n):n<((g+n/g)/2+1)*((g+n/g)/2+1):=by
  have h1:n<g*(n/g+1):=by
    have:=Int.lt_mul_ediv_self_add (x:=n) hg
    rw [Int.mul_add,Int.mul_one]
    exact this
  have hq:0<=n/g:=Int.ediv_nonneg hn (Int.le_of_lt hg)
  generalize n/g=q at*
  have h2:g+q+1<=2*((g+q)/2+1):=by omega
  have hc:0<=(g+q)/2+1:=by omega
  generalize (g+q)/2+1=c at*
  have h3:(g+q+1)*(g+q+1)<=(2*c)*(2*c):=Int.mul_le_mul h2 h2 (by omega) (by omega)
  have h4:=Zz (g-(q+1))
  grind
theorem Qn {n g:Int} (hg:0<g) (h:¬(g+n/g)/2<g):g*g<=n:=by
  have h1:g<=n/g:=by omega
  have h2:g*(n/g)<=n:=Int.mul_ediv_self_le (by omega)
  exact Int.le_trans (Int.mul_le_mul_of_nonneg_left h1 (by omega)) h2
theorem Qp {n g:Int} (hg:0<g) (hn:0<n):0<(g+n/g)/2\/¬(g+n/g)/2<g:=by
  by_cases h:g=1
  . subst h;rw [Int.ediv_one];omega
  . have:=Int.ediv_nonneg (Int.le_of_lt hn) (Int.le_of_lt hg)
    omega
theorem Ro {n:Int}{b:Nat} (h0:0<=n) (h:n.natAbs<2^b):n<((2:Int)^((b+1)/2)+1)*(2^((b+1)/2)+1):=by
  have h1:(2:Nat)^b<=2^((b+1)/2)*2^((b+1)/2):=by
    rw [<-Nat.pow_add];exact Nat.pow_le_pow_right (by decide) (by omega)
  have e:((2:Int)^((b+1)/2))=((2^((b+1)/2):Nat):Int):=by simp
  rw [e]
  generalize 2^((b+1)/2)=t at*
  have h2:n.natAbs<t*t:=by omega
  have h3:n<(t*t:Nat):=by omega
  have e2:((t*t:Nat):Int)=(t:Int)*t:=by simp
  rw [e2]at h3
  have:(0:Int)<=t:=by omega
  grind
namespace Z
def SF (n:Nat):Prop:=∀u,2<=u->¬u*u∣n
theorem V4 {s m t:Nat} (h:SF m) (s0:0<s) (m0:0<m) (ht:t*t∣s*s*m):t∣s:=by
  have g0:0<Nat.gcd t s:=Nat.gcd_pos_of_pos_right _ s0
  obtain⟨t',et⟩:=Nat.gcd_dvd_left t s
  obtain⟨s',es⟩:=Nat.gcd_dvd_right t s
  have cp:Nat.Coprime t' s':=by
    have:=Nat.gcd_mul_left (Nat.gcd t s) t' s'
    rw [<-et,<-es]at this
    exact Nat.eq_of_mul_eq_mul_left g0 (by omega)
  generalize Nat.gcd t s=g at*
  subst et es
  have hd:t'*t'∣s'*s'*m:=by
    refine Nat.dvd_of_mul_dvd_mul_left (Nat.mul_pos g0 g0) ?_
    have e1:g*t'*(g*t')=g*g*(t'*t'):=by grind
    have e2:g*s'*(g*s')*m=g*g*(s'*s'*m):=by grind
    rw [e1,e2]at ht
    exact ht
  have c2:Nat.Coprime (t'*t') (s'*s'):=(cp.mul_left cp).mul_right (cp.mul_left cp)
  have hm:=c2.dvd_of_dvd_mul_left hd
  have t1:t'=1:=by
    have a:¬2<=t':=fun z=>h t' z hm
    have b:t'≠0:=fun z=>by
      subst z
      have:=Nat.eq_zero_of_zero_dvd (by simpa using hm)
      omega
    omega
  subst t1
  exact⟨s',by grind⟩
theorem Vp {a b:Nat} (ha:SF a) (hb:SF b) (c:Nat.Coprime a b):SF (a*b):=by
  intro u h2 hu
  by_cases g:Nat.gcd u a=1
  . have c2:Nat.Coprime (u*u) a:=Nat.Coprime.mul_left g g
    exact hb u h2 (c2.dvd_of_dvd_mul_left hu)
  . have gu:Nat.gcd u a∣u:=Nat.gcd_dvd_left u a
    have ga:Nat.gcd u a∣a:=Nat.gcd_dvd_right u a
    have g0:0<Nat.gcd u a:=Nat.gcd_pos_of_pos_left _ (by omega)
    generalize Nat.gcd u a=v at*
    have cv:Nat.Coprime v b:=Nat.Coprime.coprime_dvd_left ga c
    have c2:Nat.Coprime (v*v) b:=cv.mul_left cv
    exact ha v (by omega) (c2.dvd_of_dvd_mul_right (Nat.dvd_trans (Nat.mul_dvd_mul gu gu) hu))
structure SqS (d f l t:Nat):Prop where
  t2:2<=t
  f0:0<f
  l0:0<l
  le:f*f*l<=d
  eq:∃r,f*f*l*r=d/\0<r/\SF r/\Nat.Coprime r l
  low:∀u,2<=u->u<t->¬u∣l
theorem SqS.start {d:Nat} (h:0<d):SqS d 1 d 2:=⟨by decide,by decide,h,by omega,⟨1,by omega,by decide,fun u h2 hd=>by
  have:=Nat.le_of_dvd (by decide) hd
  have:2*2<=u*u:=Nat.mul_le_mul h2 h2
  omega,Nat.gcd_one_left _⟩,fun u h1 h2=>by omega⟩
theorem SqS.inner {d f l t:Nat} (h:SqS d f l t) (hd:l%(t*t)=0):SqS d (f*t) (l/(t*t)) t/\l/(t*t)<l:=by
  obtain⟨k,rfl⟩:=Nat.dvd_of_mod_eq_zero hd
  have tt:0<t*t:=Nat.mul_pos (by have:=h.t2;omega) (by have:=h.t2;omega)
  have tb:2*2<=t*t:=Nat.mul_le_mul h.t2 h.t2
  have k0:0<k:=by
    have:=h.l0
    exact Nat.pos_of_mul_pos_left this
  rw [Nat.mul_div_cancel_left _ tt]
  obtain⟨r,e,r0,sf,cp⟩:=h.eq
  have e2:f*t*(f*t)*k=f*f*(t*t*k):=by grind
  refine⟨⟨h.t2,Nat.mul_pos h.f0 (by have:=h.t2;omega),k0,by rw [e2];exact h.le,⟨r,by rw [e2];exact e,r0,sf,Nat.Coprime.coprime_dvd_right ⟨t*t,by grind⟩ cp⟩,fun u h1 h2 hu=>h.low u h1 h2 (Nat.dvd_trans hu ⟨t*t,by grind⟩)⟩,?_⟩
  have:1*k<t*t*k:=Nat.mul_lt_mul_of_pos_right (by omega) k0
  omega
theorem SqS.step {d f l t:Nat} (h:SqS d f l t) (hn:¬l%(t*t)=0):SqS d f (if l%t=0 then l/t else l) (t+1):=by
  have t2:=h.t2
  by_cases hd:l%t=0
  . rw [if_pos hd]
    obtain⟨k,rfl⟩:=Nat.dvd_of_mod_eq_zero hd
    rw [Nat.mul_div_cancel_left _ (by omega)]
    have k0:0<k:=Nat.pos_of_mul_pos_left h.l0
    obtain⟨r,e,r0,sf,cp⟩:=h.eq
    have ntk:¬t∣k:=fun⟨j,ej⟩=>hn (Nat.mod_eq_zero_of_dvd ⟨j,by rw [ej];grind⟩)
    have only:∀v,v∣t->v=1\/v=t:=fun v hv=>by
      have vt:=Nat.le_of_dvd (by omega) hv
      have v0:v≠0:=fun z=>by
        subst z
        have:=Nat.eq_zero_of_zero_dvd hv
        omega
      by_cases v1:v=1
      . exact .inl v1
      . refine .inr (Nat.le_antisymm vt (Nat.le_of_not_lt fun lt=>h.low v (by omega) lt (Nat.dvd_trans hv ⟨k,rfl⟩)))
    have crt:Nat.Coprime r t:=Nat.Coprime.coprime_dvd_right ⟨k,rfl⟩ cp
    have crk:Nat.Coprime r k:=Nat.Coprime.coprime_dvd_right ⟨t,by grind⟩ cp
    have ctk:Nat.Coprime t k:=by
      rcases only _ (Nat.gcd_dvd_left t k)with g | g
      . exact g
      . exact absurd (by have:=Nat.gcd_dvd_right t k;rw [g]at this;exact this) ntk
    have sft:SF t:=fun u h2 hu=>by
      have ut:u∣t:=Nat.dvd_trans ⟨u,rfl⟩ hu
      rcases only u ut with z | z
      . omega
      . subst z
        have:=Nat.le_of_dvd (by omega) hu
        have:2*u<=u*u:=Nat.mul_le_mul_right u h2
        omega
    refine⟨by omega,h.f0,k0,Nat.le_trans (Nat.mul_le_mul_left _ ?_) h.le,⟨r*t,by rw [<-e];grind,Nat.mul_pos r0 (by omega),Vp sf sft crt,Nat.Coprime.mul_left crk ctk⟩,fun u h1 h2 hu=> ?_⟩
    . have:1*k<=t*k:=Nat.mul_le_mul_right k (by omega)
      omega
    . by_cases ut:u=t
      . subst ut
        exact ntk hu
      . exact h.low u h1 (by omega) (Nat.dvd_trans hu ⟨t,by grind⟩)
  . rw [if_neg hd]
    refine⟨by omega,h.f0,h.l0,h.le,h.eq,fun u h1 h2 hu=> ?_⟩
    by_cases ut:u=t
    . subst ut
      exact hd (Nat.mod_eq_zero_of_dvd hu)
    . exact h.low u h1 (by omega) hu
theorem SqS.last {d f l t r0:Nat} (h:SqS d f l t) (hl:l<t*t*t) (h1:r0*r0<=l) (h2:l<(r0+1)*(r0+1)):∃m,SF m/\0<m/\(if r0*r0=l then f*r0 else f)*(if r0*r0=l then f*r0 else f)*m=d/\0<(if r0*r0=l then f*r0 else f):=by
  obtain⟨r,e,rp,sf,cp⟩:=h.eq
  have l0:=h.l0
  by_cases hr:r0*r0=l
  . rw [if_pos hr]
    refine⟨r,sf,rp,by rw [<-e,<-hr];grind,Nat.mul_pos h.f0 (Nat.pos_of_ne_zero fun z=> ?_)⟩
    subst z
    omega
  . rw [if_neg hr]
    refine⟨l*r,Vp (fun u u2 hu=> ?_) sf cp.symm,Nat.mul_pos l0 rp,by rw [<-e];grind,h.f0⟩
    obtain⟨k,ek⟩:=hu
    have ut:t<=u:=Nat.le_of_not_lt fun lt=>h.low u u2 lt ⟨u*k,by rw [ek];grind⟩
    have k0:k≠0:=fun z=>by
      subst z
      omega
    by_cases k1:k=1
    . subst k1
      have e1:u*u=l:=by omega
      have a:¬u<=r0:=fun z=>by
        have:=Nat.mul_le_mul z z
        have:r0*r0=l:=by omega
        exact hr this
      have b:(r0+1)*(r0+1)<=u*u:=Nat.mul_le_mul (by omega) (by omega)
      omega
    . have kt:t<=k:=Nat.le_of_not_lt fun lt=>h.low k (by omega) lt ⟨u*u,by rw [ek];grind⟩
      have:t*t*t<=u*u*k:=Nat.mul_le_mul (Nat.mul_le_mul ut ut) kt
      omega
end Z
namespace Z
open PySem L2
local macro_rules | `(tactic| contradiction)=> `(tactic| simp only [Lg,Hi,Mj,Mv,Hs,Ng,Ds,Lr,G4,Il,z_c,T3,Vm,Vu,Ly,Vy,Lp,Lz,Np,Nm,Fw,Vn,Mz,Nb,Ml,G7,Ib,M8,Ms,V5,Ht,Lx,Hj,Vh,Hv,Mh,Ir,V3,Mr,Ls,Ed,Ii,Ie,Hl,Eb,G5,Mq,Le,Mi,Ma,V0,Cw,Hg,Lj,Vk,Mf,Hh,Nk,Ln,Ij,M5,Im,Io,Iv,Ep,Nf,Ec,Hq,G6,Ho,Ef,Nh,Hu,M4,Hr,Hy,Iu,Ej,Ia,Ig,Eu,Ih,V2,cpσ,List.getElem?_cons_zero,List.getElem?_cons_succ,Option.join_some,List.set_cons_zero,List.set_cons_succ,List.append_nil,decide_eq_true_eq,Bool.not_eq_true',decide_eq_false_iff_not,Bool.not_not,ite_not,Bool.false_eq_true,Bool.true_eq_false,if_false,if_true,if_pos,List.length_cons,List.length_nil,Nat.zero_add,Nat.reduceAdd,Hz,Hw,true_and,and_true,L2.start,List.map_cons,List.map_nil,Bool.not_true,Bool.not_false,Nat.reduceSub,List.replicate_succ,List.replicate_zero,List.cons_append,List.nil_append])
def top (i:Nat):Stmt:=PySem.Challenge.pw_rootcourt_k64_root_sums_told.main.body.getD i (.Pass ⟨0,0,0,0⟩)
abbrev Gw:Stmt:=top 6
theorem Nt:Aq ["thing"] ["thing"] (Ah Gw):=⟨rfl,rfl,rfl,by decide+kernel,rfl,by decide+kernel,by decide+kernel⟩
abbrev Je:Stmt:=top 7
theorem Fg:Aq ["one","other","greater","lesser"] ["one","other"] (Ah Je):=⟨rfl,rfl,rfl,by decide+kernel,rfl,by decide+kernel,by decide+kernel⟩
abbrev Er:Stmt:=top 8
theorem Bc:Aq ["number","guess","bit","better"] ["number"] (Ah Er):=⟨rfl,rfl,rfl,by decide+kernel,rfl,by decide+kernel,by decide+kernel⟩
abbrev Dr:Stmt:=top 10
theorem Di:Aq ["thing","top","bottom"] ["thing"] (Ah Dr):=⟨rfl,rfl,rfl,by decide+kernel,rfl,by decide+kernel,by decide+kernel⟩
abbrev Gz:Stmt:=top 11
theorem Gf:Aq ["top","bottom","shared"] ["top","bottom"] (Ah Gz):=⟨rfl,rfl,rfl,by decide+kernel,rfl,by decide+kernel,by decide+kernel⟩
abbrev Tp:Stmt:=top 12
theorem Xf:Aq ["one","other"] ["one","other"] (Ah Tp):=⟨rfl,rfl,rfl,by decide+kernel,rfl,by decide+kernel,by decide+kernel⟩
abbrev Nr:Stmt:=top 13
theorem Ux:Aq ["one","other"] ["one","other"] (Ah Nr):=⟨rfl,rfl,rfl,by decide+kernel,rfl,by decide+kernel,by decide+kernel⟩
abbrev Bo:Stmt:=top 17
theorem Jv:Aq ["thing"] ["thing"] (Ah Bo):=⟨rfl,rfl,rfl,by decide+kernel,rfl,by decide+kernel,by decide+kernel⟩
abbrev Dc:Stmt:=top 18
theorem Cd:Aq ["thing","d","c"] ["thing"] (Ah Dc):=⟨rfl,rfl,rfl,by decide+kernel,rfl,by decide+kernel,by decide+kernel⟩
abbrev Ew:Stmt:=top 19
theorem Ov:Aq ["one"] ["one"] (Ah Ew):=⟨rfl,rfl,rfl,by decide+kernel,rfl,by decide+kernel,by decide+kernel⟩
abbrev Gh:Stmt:=top 20
theorem Ay:Aq ["d","found","left","trial","root"] ["d"] (Ah Gh):=⟨rfl,rfl,rfl,by decide+kernel,rfl,by decide+kernel,by decide+kernel⟩
abbrev Gv:Stmt:=top 21
theorem Cg:Aq ["terms","told","d","c","s"] ["terms"] (Ah Gv):=⟨rfl,rfl,rfl,by decide+kernel,rfl,by decide+kernel,by decide+kernel⟩
abbrev Fe:Stmt:=top 22
theorem Ce:Aq ["terms","sums","found","d","c"] ["terms"] (Ah Fe):=⟨rfl,rfl,rfl,by decide+kernel,rfl,by decide+kernel,by decide+kernel⟩
abbrev Fy:Stmt:=top 24
theorem Ld:Aq ["_law_script","_law_k"] ["_law_script","_law_k"] (Ah Fy):=⟨rfl,rfl,rfl,by decide+kernel,rfl,by decide+kernel,by decide+kernel⟩
abbrev Jp:Stmt:=top 25
theorem Ax:Aq ["_law_script","_law_some","_law_found","_law_k","_law_cell","_law_d","_law_draw","_law_size","_law_m","_law_by"] ["_law_script"] (Ah Jp):=⟨rfl,rfl,rfl,by decide+kernel,rfl,by decide+kernel,by decide+kernel⟩
abbrev Cy:Stmt:=top 26
theorem Em:Aq ["_law_d","_law_by"] ["_law_d"] (Ah Cy):=⟨rfl,rfl,rfl,by decide+kernel,rfl,by decide+kernel,by decide+kernel⟩
abbrev Kw:Stmt:=top 27
theorem Ez:Aq ["_law_terms_here","_law_found","_law_d","_law_c","_law_by","_law_m"] ["_law_terms_here"] (Ah Kw):=⟨rfl,rfl,rfl,by decide+kernel,rfl,by decide+kernel,by decide+kernel⟩
abbrev Fz:Stmt:=top 28
theorem Cu:Aq ["_law_terms_here","_law_good","e"] ["_law_terms_here"] (Ah Fz):=⟨rfl,rfl,rfl,by decide+kernel,rfl,by decide+kernel,by decide+kernel⟩
abbrev Gu:Stmt:=top 29
theorem Cj:Aq ["_law_found","_law_cell","_law_pair","_law_some"] ["_law_found","_law_cell"] (Ah Gu):=⟨rfl,rfl,rfl,by decide+kernel,rfl,by decide+kernel,by decide+kernel⟩
abbrev K5:Stmt:=top 30
theorem Kc:Aq ["_law_script","_law_terms_here","_law_handed","_law_due_here","_law_found","_law_thing"] ["_law_script"] (Ah K5):=⟨rfl,rfl,rfl,by decide+kernel,rfl,by decide+kernel,by decide+kernel⟩
def U8 (K:PySem.W.Frag):Sp:=fun vs H Q _=>∃(a:Addr) (ns:List Int),vs=[.ref a]/\SqL K H a (ns.map V.int)/\ns.length<=63/\∀H',Q (.bl true) H'
def IsQ (K:PySem.W.Frag) (H:Hp) (v:V) (q:Rat):Prop:=∃a,v= .ref a/\SqT K H a [.int q.num,.int (q.den:Int)]
def Szq (n:Nat) (q:Rat):Prop:=Sz n q.num/\Sz n (q.den:Int)
theorem IsQ.mono {K:PySem.W.Frag}{H H':Hp}{v:V}{q:Rat} (h:IsQ K H v q) (s:Same H H'):IsQ K H' v q:=by
  obtain⟨a,e,t⟩:=h
  exact⟨a,e,s.tup t⟩
theorem Szq.of {n:Nat}{a b:Int} (h:Sz n a) (g:Sz n b) (hb:b≠0):Szq n (Rat.divInt a b):=
  ⟨h.of_abs (Yx a b),g.of_abs (by have:=Xz (a:=a) hb;omega)⟩
theorem Szq.mono {m n:Nat}{q:Rat} (h:Szq m q) (l:m<=n):Szq n q:=⟨h.1.mono l,h.2.mono l⟩
theorem Fx (q:Rat):((q.den:Nat):Int)≠0:=by have:=q.den_nz;omega
theorem den_pos (q:Rat):0<((q.den:Nat):Int):=by have:=q.den_nz;omega
theorem Szq.add {m n:Nat}{p q:Rat} (h:Szq m p) (g:Szq n q):Szq (m+n+1) (p+q):=by
  rw [<-Aac]
  refine Szq.of ?_ ?_ (Int.mul_ne_zero (Fx p) (Fx q))
  . have z:=(h.1.mul g.2).add (g.1.mul h.2)
    exact z.mono (by omega)
  . exact(h.2.mul g.2).mono (by omega)
theorem Szq.sub {m n:Nat}{p q:Rat} (h:Szq m p) (g:Szq n q):Szq (m+n+1) (p-q):=by
  rw [<-Aaz]
  refine Szq.of ?_ ?_ (Int.mul_ne_zero (Fx p) (Fx q))
  . have z:=(h.1.mul g.2).sub (g.1.mul h.2)
    exact z.mono (by omega)
  . exact(h.2.mul g.2).mono (by omega)
theorem Szq.mul {m n:Nat}{p q:Rat} (h:Szq m p) (g:Szq n q):Szq (m+n) (p*q):=by
  rw [<-Aai]
  exact Szq.of (h.1.mul g.1) (h.2.mul g.2) (Int.mul_ne_zero (Fx p) (Fx q))
def cell (ns:List Int) (k:Int):Int:=ns.getD k.toNat 0
def Ck (K:PySem.W.Frag):Sp:=fun vs H Q _=>∃(a:Addr) (ns:List Int) (k:Int),vs=[.ref a,.int k]/\SqL K H a (ns.map V.int)/\0<=k/\Q (.int (cell ns k)) H
def Zn:Sp:=fun vs H Q _=>∃a b:Int,vs=[.int a,.int b]/\Q (.int (Int.gcd a b:Int)) H
def Gq (_:PySem.W.Frag):Sp:=Zn
def Xw (K:PySem.W.Frag):Sp:=fun vs H Q _=>∃a b:Int,vs=[.int a,.int b]/\b≠0/\Sz 8000 b/\∀z H',Same H H'->IsQ K H' z (Rat.divInt a b)->Q z H'
def Dq (K:PySem.W.Frag):Sp:=Xw K
def Aah (f:Rat->Rat->Rat) (K:PySem.W.Frag):Sp:=fun vs H Q _=>∃(x y:V) (p q:Rat),vs=[x,y]/\IsQ K H x p/\IsQ K H y q/\Szq 3000 p/\Szq 3000 q/\∀z H',Same H H'->IsQ K H' z (f p q)->Q z H'
def Ox (K:PySem.W.Frag):Sp:=Aah (fun p q=>p+q) K
def K8 (K:PySem.W.Frag):Sp:=Aah (fun p q=>p*q) K
theorem at0 {α:Type} (x:α) (r:List α):atI (x::r) 0=some x:=Nz (j:=0) rfl
theorem at1 {α:Type} (x y:α) (r:List α):atI (x::y::r) 1=some y:=Nz (j:=1) rfl
section
variable {P:Program}{w:World}{K:PySem.W.Frag}{mg:Str->Option Value}{base:Heap}
theorem Nj {f:Addr}{fd:FuncData} (F:Df K mg "_law_cell_at" Fy ["_law_script","_law_k"] f fd) (z_len:mg "len"=none)   :Cal P w K mg base 1 "_law_cell_at" ["_law_script","_law_k"] (Ck K):=by
  refine F.cal (F.fn.ok Ld (fun vs H Q E h=> ?_) (fun cdv A outer s H vs Q E hr h=> ?_))
  . obtain⟨a,ns,k,rfl,_⟩:=h
    rfl
  obtain⟨a,ns,k,rfl,hS,hk,q⟩:=h
  refine S.Bq ⟨_,(S.Ad (S.Dd (S.Ak U3 (S.pv 1) (S.Br Bm rfl z_len PySem.boot_len (S.Aa (S.pv 0) S.Ac)) (Al _)) (S.Ae (S.Ao (S.Bv Ks (S.pv 0) (S.pv 1) (fun _ _=>rfl)))) S.Az)
      (S.Ae (S.Ao S.Ab))),?_⟩
  contradiction
  refine⟨a,_,rfl,.inl hS,?_⟩
  rw [List.length_map]
  split
  . rename_i h
    have hk':k.toNat<ns.length:=by omega
    refine Ua hS (v:= .int (cell ns k)) ?_ q
    have e:=Nz (xs:=ns.map V.int) (j:=k.toNat) (v:= .int (cell ns k)) (by
      rw [List.getElem?_map,List.getElem?_eq_getElem hk']
      unfold cell
      rw [List.getD_eq_getElem?_getD,List.getElem?_eq_getElem hk']
      rfl)
    rw [Int.toNat_of_nonneg hk]at e
    exact e
  . rename_i h
    have e:cell ns k=0:=by
      unfold cell
      rw [List.getD_eq_getElem?_getD,List.getElem?_eq_none (by omega)]
      rfl
    rw [e]at q
    exact q
theorem Qg {f:Addr}{fd:FuncData} (F:Df K mg "divisor" Je ["one","other"] f fd) (z_abs:mg "abs"=none)   :Cal P w K mg base 1 "divisor" ["one","other"] (Gq K):=by
  refine F.cal (F.fn.ok Fg (fun vs H Q E h=> ?_) (fun cdv A outer s H vs Q E hr h=> ?_))
  . obtain⟨a,b,rfl,_⟩:=h
    rfl
  obtain⟨a,b,rfl,q⟩:=h
  refine S.Bq ⟨_,(S.Ad (S.Aj (i:=2) Fg.nd rfl (Or.inl rfl) (S.Br Pn rfl z_abs PyProof.Rows.boot_abs (S.Aa (S.pv 0) S.Ac)))
      (S.Ad (S.Aj (i:=3) Fg.nd rfl (Or.inl rfl) (S.Br Pn rfl z_abs PyProof.Rows.boot_abs (S.Aa (S.pv 1) S.Ac)))
      (S.Ad (S.Fi PassesOwn.never (S.Ak Tr (S.pv 3) S.Ab (Al _)) (S.Ae (S.Pa (i:=2) (j:=3) rfl Fg.nd rfl rfl (by decide) rfl rfl (S.Aa (S.pv 3) (S.Aa (S.Ai Cp (S.pv 2) (S.pv 3)) S.Ac)) rfl)))
      (S.Ae (S.Ao (S.pv 2)))))),?_⟩
  simp only [Lg,Hi,Mj,Mv,Hs,Ng,Ds,Lr,G4,Il,z_c,T3,Vm,Vu,Ly,Vy,Lp,Lz,Np,Nm,Fw,Vn,Mz,Nb,Ml,G7,Ib,M8,Ms,V5,Ht,Lx,Hj,Vh,Hv,Mh,Ir,V3,Mr,Ls,Ed,Ii,Ie,Hl,Eb,G5,Mq,Le,Mi,Ma,V0,Cw,Hg,Lj,Vk,Mf,Hh,Nk,Ln,Ij,M5,Im,Io,Iv,Ep,Nf,Ec,Hq,G6,Ho,Ef,Nh,Hu,M4,Hr,Hy,Iu,Ej,Ia,Ig,Eu,Ih,V2,cpσ,List.getElem?_cons_zero,List.getElem?_cons_succ,Option.join_some,List.set_cons_zero,List.set_cons_succ,List.append_nil,decide_eq_true_eq,Bool.not_eq_true',decide_eq_false_iff_not,Bool.not_not,ite_not,Bool.false_eq_true,Bool.true_eq_false,if_false,if_true,if_pos,List.length_cons,List.length_nil,Nat.zero_add,Nat.reduceAdd,Hz,Hw,true_and,and_true,L2.start,List.map_cons,List.map_nil,Bool.not_true,Bool.not_false,Nat.reduceSub,List.replicate_succ,List.replicate_zero,List.cons_append,List.nil_append,abs_eq]
  refine O4 (fun σ H'=>H'=H/\∃x y:Nat,σ=[some (.int a),some (.int b),some (.int x),some (.int y)]/\Nat.gcd x y=Nat.gcd a.natAbs b.natAbs)
    (fun σ _=>match σ with | [_,_,_,some (.int y)]=>y.toNat | _=>0) ⟨rfl,_,_,rfl,rfl⟩ ?_ ?_
  . rintro σ H' ⟨rfl,x,y,rfl,e⟩
    contradiction
    by_cases hy:(y:Int)=0
    . rw [if_pos hy]
      have hy':y=0:=by omega
      subst hy'
      rw [Nat.gcd_zero_right]at e
      subst e
      exact q
    . rw [if_neg hy]
      refine⟨by omega,⟨y,x%y,by rw [Int.natCast_emod],by rw [Vb];exact e⟩,?_⟩
      show((x:Int)%(y:Int)).toNat<(y:Int).toNat
      rw [<-Int.natCast_emod,Int.toNat_natCast,Int.toNat_natCast]
      exact Nat.mod_lt _ (by omega)
  . intro σ H' Q1 Q2 h12
    simp only [Fw,T3]
    rintro⟨v,e1,hs⟩
    exact⟨v,e1,by
      obtain⟨s1,k,e2,h3⟩:=hs
      exact⟨s1,k,e2,h12 _ _ h3⟩⟩
theorem N6 {f:Addr}{fd:FuncData} (F:Df K mg "fraction" Gz ["top","bottom"] f fd)   (c_divisor:Cal P w K mg base 1 "divisor" ["one","other"] (Gq K)):Cal P w K mg base 2 "fraction" ["top","bottom"] (Dq K):=by
  refine F.cal (F.fn.ok Gf (fun vs H Q E h=> ?_) (fun cdv A outer s H vs Q E hr h=> ?_))
  . obtain⟨a,b,rfl,_⟩:=h
    rfl
  obtain⟨a,b,rfl,hb,hz,q⟩:=h
  refine S.Bq ⟨_,(S.Ad (S.Dd (S.Ak Ko (S.pv 1) S.Ab (Al _)) (S.Ae S.Kl) S.Az)
      (S.Ad (S.Aj (i:=2) Gf.nd rfl (Or.inl rfl) (S.Bf c_divisor (hr.mono (by decide)) (S.Aa (S.pv 0) (S.Aa (S.pv 1) S.Ac))))
      (S.Ad (S.Dd (S.Ak U3 (S.pv 1) S.Ab (Al _)) (S.Ae (S.Aj (i:=2) Gf.nd rfl (Or.inl rfl) (S.Lw Ke (S.pv 2)))) S.Az)
      (S.Ae (S.Ao (S.Af (S.Aa (S.Ai O7 (S.pv 0) (S.pv 2)) (S.Aa (S.Ai O7 (S.pv 1) (S.pv 2)) S.Ac)))))))),?_⟩
  simp only [Lg,Hi,Mj,Mv,Hs,Ng,Ds,Lr,G4,Il,z_c,T3,Vm,Vu,Ly,Vy,Lp,Lz,Np,Nm,Fw,Vn,Mz,Nb,Ml,G7,Ib,M8,Ms,V5,Ht,Lx,Hj,Vh,Hv,Mh,Ir,V3,Mr,Ls,Ed,Ii,Ie,Hl,Eb,G5,Mq,Le,Mi,Ma,V0,Cw,Hg,Lj,Vk,Mf,Hh,Nk,Ln,Ij,M5,Im,Io,Iv,Ep,Nf,Ec,Hq,G6,Ho,Ef,Nh,Hu,M4,Hr,Hy,Iu,Ej,Ia,Ig,Eu,Ih,V2,cpσ,List.getElem?_cons_zero,List.getElem?_cons_succ,Option.join_some,List.set_cons_zero,List.set_cons_succ,List.append_nil,decide_eq_true_eq,Bool.not_eq_true',decide_eq_false_iff_not,Bool.not_not,ite_not,Bool.false_eq_true,Bool.true_eq_false,if_false,if_true,if_pos,List.length_cons,List.length_nil,Nat.zero_add,Nat.reduceAdd,Hz,Hw,true_and,and_true,L2.start,List.map_cons,List.map_nil,Bool.not_true,Bool.not_false,Nat.reduceSub,List.replicate_succ,List.replicate_zero,List.cons_append,List.nil_append]
  rw [if_neg hb]
  refine⟨a,b,rfl,?_⟩
  contradiction
  have hg0:((Int.gcd a b:Nat):Int)≠0:=by
    have:=Int.gcd_pos_of_ne_zero_right a hb
    omega
  have hgz:Sz 8000 ((Int.gcd a b:Nat):Int):=hz.of_abs (by
    have:=Nat.le_of_dvd (by omega) (Int.gcd_dvd_natAbs_right a b)
    omega)
  split
  . rename_i hneg
    have hc:V8 a (-((Int.gcd a b:Nat):Int)):=⟨by omega,hgz.neg.log2 (by omega) (by decide)⟩
    refine⟨hc,hc,fun p hp=> ?_⟩
    rw [(Px hneg).1,(Px hneg).2]
    exact q _ _ (Same.upd hp _) ⟨p,rfl,.of Ag⟩
  . rename_i hneg
    have hc:V8 a ((Int.gcd a b:Nat):Int):=⟨hg0,hgz.log2 hg0 (by decide)⟩
    have hpos:0<b:=by omega
    refine⟨hc,hc,fun p hp=> ?_⟩
    rw [(La hpos).1,(La hpos).2]
    exact q _ _ (Same.upd hp _) ⟨p,rfl,.of Ag⟩
theorem W5 {f:Addr}{fd:FuncData} (F:Df K mg "plus" Tp ["one","other"] f fd)   (c_fraction:Cal P w K mg base 2 "fraction" ["top","bottom"] (Dq K)):Cal P w K mg base 3 "plus" ["one","other"] (Ox K):=by
  refine F.cal (F.fn.ok Xf (fun vs H Q E h=> ?_) (fun cdv A outer s H vs Q E hr h=> ?_))
  . obtain⟨x,y,p,q,rfl,_⟩:=h
    rfl
  obtain⟨x,y,p,q,rfl,⟨a,rfl,ha⟩,⟨b,rfl,hb⟩,sp,sq,k⟩:=h
  refine S.Bq ⟨_,(S.Ae (S.Ao (S.Bf c_fraction (hr.mono (by decide)) (S.Aa (S.Ai Ci (S.Ai Av (S.Bv Bw (S.pv 0) S.Ab (fun _ _=>rfl)) (S.Bv Bw (S.pv 1) S.Ab (fun _ _=>rfl))) (S.Ai Av (S.Bv Bw (S.pv 1) S.Ab (fun _ _=>rfl)) (S.Bv Bw (S.pv 0) S.Ab (fun _ _=>rfl)))) (S.Aa (S.Ai Av (S.Bv Bw (S.pv 0) S.Ab (fun _ _=>rfl)) (S.Bv Bw (S.pv 1) S.Ab (fun _ _=>rfl))) S.Ac))))),?_⟩
  contradiction
  refine Dj ha (at0 _ _) (Dj hb (at1 _ _ _) ?_)
  simp only [Lg,Hi,Mj,Mv,Hs,Ng,Ds,Lr,G4,Il,z_c,T3,Vm,Vu,Ly,Vy,Lp,Lz,Np,Nm,Fw,Vn,Mz,Nb,Ml,G7,Ib,M8,Ms,V5,Ht,Lx,Hj,Vh,Hv,Mh,Ir,V3,Mr,Ls,Ed,Ii,Ie,Hl,Eb,G5,Mq,Le,Mi,Ma,V0,Cw,Hg,Lj,Vk,Mf,Hh,Nk,Ln,Ij,M5,Im,Io,Iv,Ep,Nf,Ec,Hq,G6,Ho,Ef,Nh,Hu,M4,Hr,Hy,Iu,Ej,Ia,Ig,Eu,Ih,V2,cpσ,List.getElem?_cons_zero,List.getElem?_cons_succ,Option.join_some,List.set_cons_zero,List.set_cons_succ,List.append_nil,decide_eq_true_eq,Bool.not_eq_true',decide_eq_false_iff_not,Bool.not_not,ite_not,Bool.false_eq_true,Bool.true_eq_false,if_false,if_true,if_pos,List.length_cons,List.length_nil,Nat.zero_add,Nat.reduceAdd,Hz,Hw,true_and,and_true,L2.start,List.map_cons,List.map_nil,Bool.not_true,Bool.not_false,Nat.reduceSub,List.replicate_succ,List.replicate_zero,List.cons_append,List.nil_append]
  refine⟨sp.1.mulOk sq.2 (by decide),Dj hb (at0 _ _) (Dj ha (at1 _ _ _) ?_)⟩
  simp only [Lg,Hi,Mj,Mv,Hs,Ng,Ds,Lr,G4,Il,z_c,T3,Vm,Vu,Ly,Vy,Lp,Lz,Np,Nm,Fw,Vn,Mz,Nb,Ml,G7,Ib,M8,Ms,V5,Ht,Lx,Hj,Vh,Hv,Mh,Ir,V3,Mr,Ls,Ed,Ii,Ie,Hl,Eb,G5,Mq,Le,Mi,Ma,V0,Cw,Hg,Lj,Vk,Mf,Hh,Nk,Ln,Ij,M5,Im,Io,Iv,Ep,Nf,Ec,Hq,G6,Ho,Ef,Nh,Hu,M4,Hr,Hy,Iu,Ej,Ia,Ig,Eu,Ih,V2,cpσ,List.getElem?_cons_zero,List.getElem?_cons_succ,Option.join_some,List.set_cons_zero,List.set_cons_succ,List.append_nil,decide_eq_true_eq,Bool.not_eq_true',decide_eq_false_iff_not,Bool.not_not,ite_not,Bool.false_eq_true,Bool.true_eq_false,if_false,if_true,if_pos,List.length_cons,List.length_nil,Nat.zero_add,Nat.reduceAdd,Hz,Hw,true_and,and_true,L2.start,List.map_cons,List.map_nil,Bool.not_true,Bool.not_false,Nat.reduceSub,List.replicate_succ,List.replicate_zero,List.cons_append,List.nil_append]
  refine⟨sq.1.mulOk sp.2 (by decide),Dj ha (at1 _ _ _) (Dj hb (at1 _ _ _) ?_)⟩
  simp only [Lg,Hi,Mj,Mv,Hs,Ng,Ds,Lr,G4,Il,z_c,T3,Vm,Vu,Ly,Vy,Lp,Lz,Np,Nm,Fw,Vn,Mz,Nb,Ml,G7,Ib,M8,Ms,V5,Ht,Lx,Hj,Vh,Hv,Mh,Ir,V3,Mr,Ls,Ed,Ii,Ie,Hl,Eb,G5,Mq,Le,Mi,Ma,V0,Cw,Hg,Lj,Vk,Mf,Hh,Nk,Ln,Ij,M5,Im,Io,Iv,Ep,Nf,Ec,Hq,G6,Ho,Ef,Nh,Hu,M4,Hr,Hy,Iu,Ej,Ia,Ig,Eu,Ih,V2,cpσ,List.getElem?_cons_zero,List.getElem?_cons_succ,Option.join_some,List.set_cons_zero,List.set_cons_succ,List.append_nil,decide_eq_true_eq,Bool.not_eq_true',decide_eq_false_iff_not,Bool.not_not,ite_not,Bool.false_eq_true,Bool.true_eq_false,if_false,if_true,if_pos,List.length_cons,List.length_nil,Nat.zero_add,Nat.reduceAdd,Hz,Hw,true_and,and_true,L2.start,List.map_cons,List.map_nil,Bool.not_true,Bool.not_false,Nat.reduceSub,List.replicate_succ,List.replicate_zero,List.cons_append,List.nil_append]
  refine⟨sp.2.mulOk sq.2 (by decide),_,_,rfl,Int.mul_ne_zero (Fx p) (Fx q),(sp.2.mul sq.2).mono (by decide),?_⟩
  rw [Aac]
  exact k
theorem Uc {f:Addr}{fd:FuncData} (F:Df K mg "times" Nr ["one","other"] f fd)   (c_fraction:Cal P w K mg base 2 "fraction" ["top","bottom"] (Dq K)):Cal P w K mg base 3 "times" ["one","other"] (K8 K):=by
  refine F.cal (F.fn.ok Ux (fun vs H Q E h=> ?_) (fun cdv A outer s H vs Q E hr h=> ?_))
  . obtain⟨x,y,p,q,rfl,_⟩:=h
    rfl
  obtain⟨x,y,p,q,rfl,⟨a,rfl,ha⟩,⟨b,rfl,hb⟩,sp,sq,k⟩:=h
  refine S.Bq ⟨_,(S.Ae (S.Ao (S.Bf c_fraction (hr.mono (by decide)) (S.Aa (S.Ai Av (S.Bv Bw (S.pv 0) S.Ab (fun _ _=>rfl)) (S.Bv Bw (S.pv 1) S.Ab (fun _ _=>rfl))) (S.Aa (S.Ai Av (S.Bv Bw (S.pv 0) S.Ab (fun _ _=>rfl)) (S.Bv Bw (S.pv 1) S.Ab (fun _ _=>rfl))) S.Ac))))),?_⟩
  contradiction
  refine Dj ha (at0 _ _) (Dj hb (at0 _ _) ?_)
  simp only [Lg,Hi,Mj,Mv,Hs,Ng,Ds,Lr,G4,Il,z_c,T3,Vm,Vu,Ly,Vy,Lp,Lz,Np,Nm,Fw,Vn,Mz,Nb,Ml,G7,Ib,M8,Ms,V5,Ht,Lx,Hj,Vh,Hv,Mh,Ir,V3,Mr,Ls,Ed,Ii,Ie,Hl,Eb,G5,Mq,Le,Mi,Ma,V0,Cw,Hg,Lj,Vk,Mf,Hh,Nk,Ln,Ij,M5,Im,Io,Iv,Ep,Nf,Ec,Hq,G6,Ho,Ef,Nh,Hu,M4,Hr,Hy,Iu,Ej,Ia,Ig,Eu,Ih,V2,cpσ,List.getElem?_cons_zero,List.getElem?_cons_succ,Option.join_some,List.set_cons_zero,List.set_cons_succ,List.append_nil,decide_eq_true_eq,Bool.not_eq_true',decide_eq_false_iff_not,Bool.not_not,ite_not,Bool.false_eq_true,Bool.true_eq_false,if_false,if_true,if_pos,List.length_cons,List.length_nil,Nat.zero_add,Nat.reduceAdd,Hz,Hw,true_and,and_true,L2.start,List.map_cons,List.map_nil,Bool.not_true,Bool.not_false,Nat.reduceSub,List.replicate_succ,List.replicate_zero,List.cons_append,List.nil_append]
  refine⟨sp.1.mulOk sq.1 (by decide),Dj ha (at1 _ _ _) (Dj hb (at1 _ _ _) ?_)⟩
  simp only [Lg,Hi,Mj,Mv,Hs,Ng,Ds,Lr,G4,Il,z_c,T3,Vm,Vu,Ly,Vy,Lp,Lz,Np,Nm,Fw,Vn,Mz,Nb,Ml,G7,Ib,M8,Ms,V5,Ht,Lx,Hj,Vh,Hv,Mh,Ir,V3,Mr,Ls,Ed,Ii,Ie,Hl,Eb,G5,Mq,Le,Mi,Ma,V0,Cw,Hg,Lj,Vk,Mf,Hh,Nk,Ln,Ij,M5,Im,Io,Iv,Ep,Nf,Ec,Hq,G6,Ho,Ef,Nh,Hu,M4,Hr,Hy,Iu,Ej,Ia,Ig,Eu,Ih,V2,cpσ,List.getElem?_cons_zero,List.getElem?_cons_succ,Option.join_some,List.set_cons_zero,List.set_cons_succ,List.append_nil,decide_eq_true_eq,Bool.not_eq_true',decide_eq_false_iff_not,Bool.not_not,ite_not,Bool.false_eq_true,Bool.true_eq_false,if_false,if_true,if_pos,List.length_cons,List.length_nil,Nat.zero_add,Nat.reduceAdd,Hz,Hw,true_and,and_true,L2.start,List.map_cons,List.map_nil,Bool.not_true,Bool.not_false,Nat.reduceSub,List.replicate_succ,List.replicate_zero,List.cons_append,List.nil_append]
  refine⟨sp.2.mulOk sq.2 (by decide),_,_,rfl,Int.mul_ne_zero (Fx p) (Fx q),(sp.2.mul sq.2).mono (by decide),?_⟩
  rw [Aai]
  exact k
def Gk (_:PySem.W.Frag):Sp:=fun vs H Q _=>∃n:Int,vs=[.int n]/\0<=n/\Sz 2000 n/\∀r:Int,0<=r->Sz 2001 r->r*r<=n->n<(r+1)*(r+1)->Q (.int r) H
theorem K6 {f:Addr}{fd:FuncData} (F:Df K mg "root_floor" Er ["number"] f fd) (z_range:mg "range"=none)   :Cal P w K mg base 1 "root_floor" ["number"] (Gk K):=by
  refine F.cal (F.fn.ok Bc (fun vs H Q E h=> ?_) (fun cdv A outer s H vs Q E hr h=> ?_))
  . obtain⟨n,rfl,_⟩:=h
    rfl
  obtain⟨n,rfl,hn,sn,q⟩:=h
  refine S.Bq ⟨_,(S.Ad (S.Dd (S.Ak Ko (S.pv 0) S.Ab (Al _)) (S.Ae (S.Ao S.Ab)) S.Az)
      (S.Ad (S.Aj (i:=1) Bc.nd rfl (Or.inl rfl) S.Ab)
      (S.Ad (S.Ft PassesOwn.never rfl (S.Eh rfl z_range (S.Aa (S.Ai Bh (S.Ai Ci (S.Mx PySem.F.plainAttrs_int PySem.F.slot_int_bit_length PySem.F.type_int_bit_length Wn (S.pv 0)) S.Ab) S.Ab) S.Ac)) (S.Am (i:=2) Bc.nd rfl (Or.inl rfl)) (S.Ae (S.Aj (i:=1) Bc.nd rfl (Or.inl rfl) (S.Ai Av (S.pv 1) S.Ab))))
      (S.Ad (S.Aj (i:=3) Bc.nd rfl (Or.inl rfl) (S.Ai Bh (S.Ai Ci (S.pv 1) (S.Ai Bh (S.pv 0) (S.pv 1))) S.Ab))
      (S.Ad (S.Fi PassesOwn.never (S.Ak U3 (S.pv 3) (S.pv 1) (Al _)) (S.Ad (S.Aj (i:=1) Bc.nd rfl (Or.inl rfl) (S.pv 3))
      (S.Ae (S.Aj (i:=3) Bc.nd rfl (Or.inl rfl) (S.Ai Bh (S.Ai Ci (S.pv 1) (S.Ai Bh (S.pv 0) (S.pv 1))) S.Ab)))))
      (S.Ae (S.Ao (S.pv 1)))))))),?_⟩
  contradiction
  by_cases h0:n=0
  . rw [if_pos h0]
    subst h0
    exact q 0 (by decide) (by unfold Sz;decide) (by decide) (by decide)
  rw [if_neg h0]
  refine⟨rfl,n,rfl,rfl,?_⟩
  have hB:Builtin.Int.intBits n<=2000:=PySem.intBits_le_iff.mpr sn
  have hB2:n.natAbs<2^Builtin.Int.intBits n:=PySem.intBits_le_iff.mp (Nat.le_refl _)
  generalize Builtin.Int.intBits n=B at*
  contradiction
  refine⟨⟨by decide,by decide⟩,by omega,by omega,?_⟩
  have hj:(((B:Int)+1)/2).toNat=(B+1)/2:=by omega
  rw [hj]
  have pz:∀k:Nat,Sz (k+1) ((2:Int)^k):=fun k=>by
    unfold Sz
    rw [Int.natAbs_pow]
    exact Nat.pow_lt_pow_right (by decide) (by omega)
  have pp:∀k:Nat,(0:Int)<2^k:=fun k=>Int.pow_pos (by decide)
  refine Qt (es:=List.range ((B+1)/2)) (inj:=fun i=> .int (0+(i:Nat))) (fun pre σ H'=>H'=H/\pre.length<=1100/\∃o,σ=[some (.int n),some (.int (2^pre.length)),o,none]) ⟨rfl,by decide,_,rfl⟩ ?_ ?_ ?_
  . rintro pre σ H' _
    exact Jz
  . rintro pre e post σ H' he ⟨rfl,hl,o,rfl⟩
    have hlen:=congrArg List.length he
    rw [List.length_range,List.length_append,List.length_cons]at hlen
    contradiction
    refine⟨(pz pre.length).mulOk (by unfold Sz;decide:Sz 2 (2:Int)) (by omega),?_⟩
    rw [List.length_append]
    refine⟨by simp only [List.length_cons,List.length_nil];omega,some (.int (0+(e:Int))),?_⟩
    rw [show pre.length+ [e].length=pre.length+1 from rfl,Int.pow_succ]
  . rintro σ H' ⟨rfl,hl,o,rfl⟩
    rw [List.length_range]at*
    have g0:=pp ((B+1)/2)
    have gz:=(pz ((B+1)/2)).mono (show(B+1)/2+1<=1100 by omega)
    have gb:=Ro hn hB2
    generalize (2:Int)^((B+1)/2)=g1 at*
    contradiction
    refine⟨⟨g0,gz.log2 (by omega) (by decide)⟩,⟨by decide,by decide⟩,?_⟩
    refine O4 (fun σ H2=>H2=H'/\∃(g:Int) (o:Option V),σ=[some (.int n),some (.int g),o,some (.int ((g+n/g)/2))]/\0<g/\n<(g+1)*(g+1)/\Sz 1100 g)
      (fun σ _=>match σ with | [_,some (.int g),_,_]=>g.toNat | _=>0) ⟨rfl,_,_,rfl,g0,gb,gz⟩ ?_ ?_
    . rintro σ H2 ⟨rfl,g,o,rfl,hg,hn',sg⟩
      contradiction
      by_cases hlt:(g+n/g)/2<g
      . rw [if_pos hlt]
        have pos:0<(g+n/g)/2:=(Qp hg (by omega)).resolve_right (fun z=>z hlt)
        have sz:Sz 1100 ((g+n/g)/2):=sg.of_abs (by omega)
        exact⟨⟨pos,sz.log2 (by omega) (by decide)⟩,⟨by decide,by decide⟩,⟨_,_,rfl,pos,Yq hg hn,sz⟩,by omega⟩
      . rw [if_neg hlt]
        exact q g (by omega) (sg.mono (by decide)) (Qn hg hlt) hn'
    . intro σ H' Q1 Q2 h12
      simp only [Fw,T3]
      rintro⟨v,e1,u,e2,i,j,ei,ej,k,ek,h3⟩
      exact⟨v,e1,u,e2,i,j,ei,ej,k,ek,h12 _ _ h3⟩
def Eo (_:PySem.W.Frag):Sp:=fun vs H Q _=>∃d:Nat,vs=[.int (d:Nat)]/\0<d/\d<=1000000000000/\∀s m:Nat,s*s*m=d->SF m->0<s->0<m->Q (.int (s:Nat)) H
theorem Vc {a b:Nat} (h:a<=2000000000000):IntMulOk (a:Int) (b:Int):= .of_left (Nat.le_trans (PySem.intBits_le_iff.mpr (by omega:((a:Nat):Int).natAbs<2^41)) (by decide))
theorem Zw {a b:Nat} (h:b<=2000000000000):IntMulOk (a:Int) (b:Int):= .of_right (Nat.le_trans (PySem.intBits_le_iff.mpr (by omega:((b:Nat):Int).natAbs<2^41)) (by decide))
theorem Y7 {b:Nat} (h:b<=1000000000000) (b0:0<b) (a:Int):Yr a (b:Int):=⟨by omega,(show Sz 41 ((b:Nat):Int)by unfold Sz;omega).log2 (by omega) (by decide)⟩
theorem Wc {t l:Nat} (h:t*t*t<=l) (t0:0<t):t<=l/\t*t<=l:=by
  have a:t*t*1<=t*t*t:=Nat.mul_le_mul_left _ t0
  have b:t*1<=t*t:=Nat.mul_le_mul_left _ t0
  omega
theorem SqS.small {d f l t:Nat} (h:SqS d f l t):l<=d/\f<=d:=by
  have f0:=h.f0
  have l0:=h.l0
  have le:=h.le
  have a:1*l<=f*f*l:=Nat.mul_le_mul_right l (Nat.mul_pos f0 f0)
  have b:f*1<=f*f:=Nat.mul_le_mul_left f f0
  have c:f*f*1<=f*f*l:=Nat.mul_le_mul_left _ l0
  omega
theorem Lf {f:Addr}{fd:FuncData} (F:Df K mg "square_in" Gh ["d"] f fd)   (c_root_floor:Cal P w K mg base 1 "root_floor" ["number"] (Gk K)):Cal P w K mg base 2 "square_in" ["d"] (Eo K):=by
  refine F.cal (F.fn.ok Ay (fun vs H Q E h=> ?_) (fun cdv A outer s H vs Q E hr h=> ?_))
  . obtain⟨d,rfl,_⟩:=h
    rfl
  obtain⟨d,rfl,d0,d1,k⟩:=h
  refine S.Bq ⟨_,(S.Ad (S.Aj (i:=1) Ay.nd rfl (Or.inl rfl) S.Ab)
      (S.Ad (S.Aj (i:=2) Ay.nd rfl (Or.inl rfl) (S.pv 0))
      (S.Ad (S.Aj (i:=3) Ay.nd rfl (Or.inl rfl) S.Ab)
      (S.Ad (S.Fi PassesOwn.never (S.Ak Uz (S.Ai Av (S.Ai Av (S.pv 3) (S.pv 3)) (S.pv 3)) (S.pv 2) (Al _)) (S.Ad (S.Fi PassesOwn.never (S.Ak Ko (S.Ai Cp (S.pv 2) (S.Ai Av (S.pv 3) (S.pv 3))) S.Ab (Al _)) (S.Ad (S.Aj (i:=2) Ay.nd rfl (Or.inl rfl) (S.Ai Bh (S.pv 2) (S.Ai Av (S.pv 3) (S.pv 3))))
      (S.Ae (S.Aj (i:=1) Ay.nd rfl (Or.inl rfl) (S.Ai Av (S.pv 1) (S.pv 3))))))
      (S.Ad (S.Dd (S.Ak Ko (S.Ai Cp (S.pv 2) (S.pv 3)) S.Ab (Al _)) (S.Ae (S.Aj (i:=2) Ay.nd rfl (Or.inl rfl) (S.Ai Bh (S.pv 2) (S.pv 3)))) S.Az)
      (S.Ae (S.Aj (i:=3) Ay.nd rfl (Or.inl rfl) (S.Ai Ci (S.pv 3) S.Ab))))))
      (S.Ad (S.Aj (i:=4) Ay.nd rfl (Or.inl rfl) (S.Bf c_root_floor (hr.mono (by decide)) (S.Aa (S.pv 2) S.Ac)))
      (S.Ae (S.Ao (S.Ku (S.Ak Ko (S.Ai Av (S.pv 4) (S.pv 4)) (S.pv 2) (Al _)) (S.Ai Av (S.pv 1) (S.pv 4)) (S.pv 1))))))))),?_⟩
  contradiction
  refine Q5 (fun m σ' H'=>H'=H/\∃f l t:Nat,σ'=[some (.int (d:Nat)),some (.int (f:Nat)),some (.int (l:Nat)),some (.int (t:Nat)),none]/\m=d+2-t/\t<=d+1/\SqS d f l t) _ ⟨rfl,1,d,2,rfl,rfl,by omega,.start d0⟩ ?_
  rintro m σ' H' ⟨rfl,f,l,t,rfl,rfl,td1,h⟩
  contradiction
  have t2:=h.t2
  have lf:=h.small
  have e1:((t:Nat):Int)*(t:Nat)=((t*t:Nat):Int):=by rw [Int.natCast_mul]
  have e2:((t*t:Nat):Int)*(t:Nat)=((t*t*t:Nat):Int):=by rw [Int.natCast_mul (t*t) t]
  rw [e1,e2]
  refine⟨Vc (by omega),Zw (by omega),?_⟩
  by_cases hc:t*t*t<=l
  . have tl:=Wc hc (by omega)
    have tt0:0<t*t:=Nat.mul_pos (by omega) (by omega)
    have td:t<=d:=by omega
    rw [if_pos (show((t*t*t:Nat):Int)<=(l:Nat)by omega)]
    refine Yu ?_
    refine Bj (fun σ' H''=>H''=H'/\∃f l:Nat,σ'=[some (.int (d:Nat)),some (.int (f:Nat)),some (.int (l:Nat)),some (.int (t:Nat)),none]/\SqS d f l t/\¬l%(t*t)=0) (fun M hM=> ?_) ?_
    . refine Q5 (fun m σ' H''=>H''=H'/\∃f:Nat,σ'=[some (.int (d:Nat)),some (.int (f:Nat)),some (.int (m:Nat)),some (.int (t:Nat)),none]/\SqS d f m t) _ ⟨rfl,f,rfl,h⟩ ?_
      rintro l2 σ' H'' ⟨rfl,f2,rfl,h2⟩
      have lf2:=h2.small
      contradiction
      rw [e1]
      refine⟨Vc (by omega),by omega,?_⟩
      rw [<-Int.natCast_emod]
      by_cases hd:l2%(t*t)=0
      . rw [if_pos (show((l2%(t*t):Nat):Int)=0 by omega)]
        refine Yu ?_
        obtain⟨h3,lt3⟩:=h2.inner hd
        contradiction
        rw [e1]
        refine⟨Vc (by omega),Y7 (by omega) tt0 _,Vc (by omega),_,lt3,f2*t,?_,h3⟩
        rw [Int.natCast_mul f2 t,Int.natCast_ediv]
      . rw [if_neg (show ¬((l2%(t*t):Nat):Int)=0 by omega)]
        exact hM _ _ ⟨rfl,f2,l2,rfl,h2,hd⟩
    clear h lf
    rintro _ _ ⟨rfl,f,l,rfl,h,hn⟩
    have h3:=h.step hn
    have lf:=h.small
    contradiction
    rw [<-Int.natCast_emod]
    refine⟨by omega,?_⟩
    by_cases hd:l%t=0
    . rw [if_pos (show((l%t:Nat):Int)=0 by omega)]
      rw [if_pos hd]at h3
      refine⟨Y7 (by omega) (by omega) _,_,?_,f,l/t,t+1,?_,rfl,by omega,h3⟩
      . omega
      . rw [Int.natCast_ediv,Int.natCast_add]
        rfl
    . rw [if_neg (show ¬((l%t:Nat):Int)=0 by omega)]
      rw [if_neg hd]at h3
      refine⟨_,?_,f,l,t+1,?_,rfl,by omega,h3⟩
      . omega
      . rw [Int.natCast_add]
        rfl
  . rw [if_neg (show ¬((t*t*t:Nat):Int)<=(l:Nat)by omega)]
    try contradiction
    refine⟨_,rfl,by omega,(show Sz 41 ((l:Nat):Int)by unfold Sz;omega).mono (by decide),fun r r0 _ h1 h2=> ?_⟩
    obtain⟨n,rfl⟩:=Int.eq_ofNat_of_zero_le r0
    have e3:((n:Nat):Int)*(n:Nat)=((n*n:Nat):Int):=by rw [Int.natCast_mul]
    have e4:(((n:Nat):Int)+1)*((n:Nat)+1)=(((n+1)*(n+1):Nat):Int):=by
      rw [Int.natCast_mul,Int.natCast_add]
      rfl
    rw [e3]at h1
    rw [e4]at h2
    obtain⟨m,sf,m0,em,p0⟩:=h.last (by omega) (r0:=n) (by omega) (by omega)
    have nl:n<=l:=by
      have:n*1<=n*n\/n=0:=by
        by_cases z:n=0
        . exact .inr z
        . exact .inl (Nat.mul_le_mul_left n (by omega))
      omega
    try contradiction
    rw [e3]
    refine⟨Vc (by omega),?_⟩
    have kk:=k _ m em sf p0 m0
    by_cases hq:n*n=l
    . rw [if_pos (show((n*n:Nat):Int)=(l:Nat)by omega)]
      rw [if_pos hq]at kk
      refine⟨Vc (by omega),?_⟩
      rw [<-Int.natCast_mul]
      exact kk
    . rw [if_neg (show ¬((n*n:Nat):Int)=(l:Nat)by omega)]
      rw [if_neg hq]at kk
      exact kk
def tot:List (Int × Rat)->Int->Rat
  | [],_=>0
  | e::r,i=>(if e.1=i then e.2 else 0)+tot r i
theorem Lb (e:Int × Rat) (i:Int):∀ts:List (Int × Rat),tot (ts++ [e]) i=tot ts i+(if e.1=i then e.2 else 0)
  | []=>by
    show(if e.1=i then e.2 else 0)+0=0+(if e.1=i then e.2 else 0)
    grind
  | x::r=>by
    show(if x.1=i then x.2 else 0)+tot (r++ [e]) i=(if x.1=i then x.2 else 0)+tot r i+(if e.1=i then e.2 else 0)
    rw [Lb e i r]
    grind
theorem Rp (i:Int):∀ts:List (Int × Rat),tot ts.reverse i=tot ts i
  | []=>rfl
  | x::r=>by
    rw [List.reverse_cons,Lb,Rp i r]
    show tot r i+_=(if x.1=i then x.2 else 0)+tot r i
    grind
theorem Jt {i:Int}:∀ {ts:List (Int × Rat)},(∀e∈ts,e.1≠i)->tot ts i=0
  | [],_=>rfl
  | x::r,h=>by
    show(if x.1=i then x.2 else 0)+tot r i=0
    rw [if_neg (h x (by simp)),Jt fun e he=>h e (by simp [he])]
    grind
theorem Szq.zero {n:Nat} (h:1<=n):Szq n 0:=⟨by
  show Sz n 0
  unfold Sz
  exact Nat.two_pow_pos n,by
  show Sz n ((1:Nat):Int)
  unfold Sz
  exact Nat.one_lt_two_pow (by omega)⟩
theorem O2 {n:Nat} (n1:1<=n) (i:Int):∀ {ts:List (Int × Rat)},(∀e∈ts,Szq n e.2)->Szq ((n+1)*ts.length+1) (tot ts i)
  | [],_=>Szq.zero (by omega)
  | x::r,h=>by
    have a:=O2 n1 i (ts:=r) fun e he=>h e (by simp [he])
    have b:Szq n (if x.1=i then x.2 else 0):=by
      split
      . exact h x (by simp)
      . exact Szq.zero n1
    refine(b.add a).mono ?_
    rw [List.length_cons,Nat.mul_add]
    omega
def Rt (n:Nat) (K:PySem.W.Frag) (H:Hp) (v:V) (e:Int × Rat):Prop:=∃a x,v= .ref a/\SqT K H a [.int e.1,x]/\IsQ K H x e.2/\Szq n e.2
theorem Rt.mono {n:Nat}{H H':Hp}{v:V}{e:Int × Rat} (h:Rt n K H v e) (s:Same H H'):Rt n K H' v e:=by
  obtain⟨a,x,rfl,h1,h2,h3⟩:=h
  exact⟨a,x,rfl,s.tup h1,h2.mono s,h3⟩
def kof (kvs:List (Key × V)) (ks:List Int):Prop:=kvs.map (·.1)=ks.map Sum.inl
structure DcI (K:PySem.W.Frag) (H:Hp) (l:Addr) (kvs:List (Key × V)) (ks:List Int) (ts:List (Int × Rat)):Prop where
  it:H l=some (.dK kvs)
  ky:kof kvs ks
  nd:ks.Nodup
  le:ks.length<=ts.length
  mem:∀i,i∈ks↔ ∃e∈ts,e.1=i
  vl:∀i v,Dl kvs (.inl i)=some v->IsQ K H v (tot ts i)
theorem DcI.hasNo {H:Hp}{l:Addr}{kvs:List (Key × V)}{ks:List Int}{ts:List (Int × Rat)} (h:DcI K H l kvs ks ts) {i:Int} (hn:Dl kvs (.inl i)=none):tot ts i=0/\¬i∈ks:=by
  have a:¬i∈ks:=fun m=>U0 hn (by
    have e:=h.ky
    unfold kof at e
    rw [e]
    exact List.mem_map.mpr ⟨i,m,rfl⟩)
  exact⟨Jt fun e he ei=>a ((h.mem i).mpr ⟨e,he,ei⟩),a⟩
theorem DcI.has {H:Hp}{l:Addr}{kvs:List (Key × V)}{ks:List Int}{ts:List (Int × Rat)} (h:DcI K H l kvs ks ts) {i:Int} (hi:i∈ks):∃v,Dl kvs (.inl i)=some v/\IsQ K H v (tot ts i):=by
  cases e:Dl kvs (.inl i)with
  | none=>exact absurd hi (h.hasNo e).2
  | some v=>exact⟨v,rfl,h.vl i v e⟩
theorem Xc {H:Hp}{a l:Addr}{xs:List V}{kvs:List (Key × V)}{o:HO} (h:SqT K H a xs) (hl:H l=some (.dK kvs)):SqT K (upd H l o) a xs:=by
  rcases h with(h | ⟨u,h⟩) | h
  . refine .inl (.inl ?_)
    rw [Ba (by rintro rfl;rw [hl]at h;cases h)]
    exact h
  . refine .inl (.inr ⟨u,?_⟩)
    rw [Ba (by rintro rfl;rw [hl]at h;cases h)]
    exact h
  . exact .inr h
theorem IsQ.putD {H:Hp}{l:Addr}{v:V}{q:Rat}{kvs:List (Key × V)}{o:HO} (h:IsQ K H v q) (hl:H l=some (.dK kvs)):IsQ K (upd H l o) v q:=by
  obtain⟨a,e,t⟩:=h
  exact⟨a,e,Xc t hl⟩
theorem Rj {kvs:List (Key × V)}{k:Key}{v w:V} (h:Dl kvs k=some w):(putK kvs k v).map (·.1)=kvs.map (·.1):=by
  unfold putK
  rw [Cr,h,Option.isSome_some,if_pos rfl,List.map_map]
  refine List.map_congr_left fun p _=> ?_
  show(if p.1=k then(p.1,v)else p).1=p.1
  split<;>rfl
theorem DcI.mono {H H':Hp}{l:Addr}{kvs:List (Key × V)}{ks:List Int}{ts:List (Int × Rat)} (h:DcI K H l kvs ks ts) (s:Same H H'):DcI K H' l kvs ks ts:=⟨s _ _ h.it,h.ky,h.nd,h.le,h.mem,fun i v e=>(h.vl i v e).mono s⟩
theorem DcI.put {H:Hp}{l:Addr}{kvs:List (Key × V)}{ks:List Int}{ts:List (Int × Rat)} (h:DcI K H l kvs ks ts) {d:Int}{c:Rat}{v:V} (hv:IsQ K H v (tot ts d+c)):∃ks',DcI K (upd H l (.dK (putK kvs (.inl d) v))) l (putK kvs (.inl d) v) ks' (ts++ [(d,c)]):=by
  have vl:∀i u,Dl (putK kvs (.inl d) v) (.inl i)=some u->IsQ K (upd H l (.dK (putK kvs (.inl d) v))) u (tot (ts++ [(d,c)]) i):=fun i u e=>by
    rw [Ud]at e
    rw [Lb]
    by_cases hi:i=d
    . subst hi
      rw [if_pos rfl]at e
      cases e
      rw [if_pos rfl]
      exact hv.putD h.it
    . rw [if_neg (fun z=>hi (Sum.inl.inj z))]at e
      rw [if_neg (fun z:d=i=>hi z.symm)]
      have e0:tot ts i+0=tot ts i:=by grind
      rw [e0]
      exact(h.vl i u e).putD h.it
  cases e:Dl kvs (.inl d)with
  | none=>
    have ek:kof (putK kvs (.inl d) v) (ks++ [d]):=by
      have:=h.ky
      unfold kof at*
      rw [U4 v e,List.map_append,List.map_append,this]
      rfl
    refine⟨ks++ [d],Ag,ek,S7 h.nd (h.hasNo e).2,by have:=h.le;simp;omega,fun i=> ?_,vl⟩
    rw [List.mem_append,h.mem i]
    constructor
    . rintro(⟨x,hx,rfl⟩ | hx)
      . exact⟨x,by simp [hx],rfl⟩
      . have:i=d:=by simpa using hx
        exact⟨(d,c),by simp,this.symm⟩
    . rintro⟨x,hx,rfl⟩
      rcases List.mem_append.mp hx with hx | hx
      . exact .inl ⟨x,hx,rfl⟩
      . have:x=(d,c):=by simpa using hx
        exact .inr (by rw [this];simp)
  | some w=>
    have dk:d∈ks:=by
      have m:=V6 e
      have ky:=h.ky
      unfold kof at ky
      rw [ky]at m
      obtain⟨j,hj,ej⟩:=List.mem_map.mp m
      cases ej
      exact hj
    have ek:kof (putK kvs (.inl d) v) ks:=by
      have:=h.ky
      unfold kof at*
      rw [Rj e,this]
    refine⟨ks,Ag,ek,h.nd,by have:=h.le;simp;omega,fun i=> ?_,vl⟩
    rw [h.mem i]
    constructor
    . rintro⟨x,hx,rfl⟩
      exact⟨x,by simp [hx],rfl⟩
    . rintro⟨x,hx,rfl⟩
      rcases List.mem_append.mp hx with hx | hx
      . exact⟨x,hx,rfl⟩
      . have ex:x=(d,c):=by simpa using hx
        rw [ex]
        exact(h.mem d).mp dk
structure NF (ts R:List (Int × Rat)):Prop where
  up:R.Pairwise fun a b=>a.1<b.1
  mem:∀e,e∈R↔e.2=tot ts e.1/\e.2≠0
theorem Vt:∀ {R S:List (Int × Rat)},(R.Pairwise fun a b=>a.1<b.1)->(S.Pairwise fun a b=>a.1<b.1)->(∀e,e∈R↔e∈S)->R=S
  | [],[],_,_,_=>rfl
  | [],b::S,_,_,h=>by
    have:=(h b).mpr (by simp)
    simp at this
  | a::R,[],_,_,h=>by
    have:=(h a).mp (by simp)
    simp at this
  | a::R,b::S,h1,h2,h=>by
    obtain⟨a1,a2⟩:=List.pairwise_cons.mp h1
    obtain⟨b1,b2⟩:=List.pairwise_cons.mp h2
    have e:a=b:=by
      rcases List.mem_cons.mp ((h a).mp (by simp))with e | e
      . exact e
      . rcases List.mem_cons.mp ((h b).mpr (by simp))with e' | e'
        . exact e'.symm
        . have:=b1 a e
          have:=a1 b e'
          omega
    subst e
    rw [Vt a2 b2 fun x=> ?_]
    constructor
    . intro hx
      rcases List.mem_cons.mp ((h x).mp (by simp [hx]))with e | e
      . have:=a1 x hx
        rw [e]at this
        omega
      . exact e
    . intro hx
      rcases List.mem_cons.mp ((h x).mpr (by simp [hx]))with e | e
      . have:=b1 x hx
        rw [e]at this
        omega
      . exact e
theorem NF.uniq {ts us R S:List (Int × Rat)} (a:NF ts R) (b:NF us S) (e:∀i,tot ts i=tot us i):R=S:=
  Vt a.up b.up fun x=>by rw [a.mem,b.mem,e]
theorem NF.make {ts:List (Int × Rat)}{ks ms:List Int} (nd:ks.Nodup) (mem:∀i,i∈ks↔ ∃e∈ts,e.1=i) (pm:ms.Perm ks) (up:ms.Pairwise (· <= ·)):NF ts ((ms.filter fun i=>decide (tot ts i≠0)).map fun i=>(i,tot ts i)):=by
  have nm:ms.Nodup:=pm.nodup_iff.mpr nd
  have lt:ms.Pairwise (· < ·):=by
    have:=List.Pairwise.and up nm
    exact this.imp fun⟨h1,h2⟩=>by omega
  refine⟨?_,fun e=> ?_⟩
  . rw [List.pairwise_map]
    exact lt.filter _
  . rw [List.mem_map]
    constructor
    . rintro⟨i,hi,rfl⟩
      have:=(List.mem_filter.mp hi).2
      exact⟨rfl,by simpa using this⟩
    . rintro⟨h1,h2⟩
      refine⟨e.1,List.mem_filter.mpr ⟨pm.mem_iff.mpr ((mem e.1).mpr ?_),by rw [<-h1];simpa using h2⟩,by rw [<-h1]⟩
      refine Classical.byContradiction fun z=>h2 ?_
      rw [h1]
      exact Jt fun x hx ex=>z ⟨x,hx,ex⟩
def Gb (K:PySem.W.Frag):Sp:=fun vs H Q _=>∃(a:Addr) (es:List (V × (Int × Rat))) (n:Nat),vs=[.ref a]/\SqT K H a (es.map (·.1))/\(∀e∈es,Rt n K H e.1 e.2)/\es.length<=64/\∀z H',Same H H'->H' z=some (.lst ((es.filter fun e=>decide (1<e.2.1)).map (·.1)))->Q (.ref z) H'
theorem Oa {f:Addr}{fd:FuncData} (F:Df K mg "roots_in" Ew ["one"] f fd)    :Cal P w K mg base 1 "roots_in" ["one"] (Gb K):=by
  refine F.cal (F.fn.ok Ov (fun vs H Q E h=> ?_) (fun cdv A outer s H vs Q E hr h=> ?_))
  . obtain⟨a,es,n,rfl,_⟩:=h
    rfl
  obtain⟨a,es,n,rfl,ha,he,hl,k⟩:=h
  refine S.Bq ⟨_,(S.Ae (S.Ao (S.Dh (ts:=["term"]) (fs:=[]) rfl (Bg.of (sc:=Ah Ew) (N:=["one"]) rfl rfl (by decide+kernel)) (S.Lh (S.pv 0)) (fun _ _ _=>(S.Am (i:=0) (show List.Nodup (["term"]:List Str)by decide+kernel) rfl (Or.inl rfl))) (fun _ _ _=>(S.G3 (S.Ak Qc (S.Bv (Jg K) (S.pv 0) S.Ab (fun _ _=>rfl)) S.Ab (Al _)))) (fun _ _ _=>(S.pv 0))))),?_⟩
  contradiction
  refine⟨⟨_,ha⟩,fun p1 hp1=>J4 (es:=es) (inj:=(·.1)) (fun e=>decide (1<e.2.1)) (·.1) (Nat.le_trans hl (by decide)) hp1 (Pk ha) ?_ ?_⟩
  . intro e H2 R RF hm s2 hR hF
    obtain⟨b,x,eb,h1,h2,h3⟩:=(he e hm).mono s2
    contradiction
    rw [eb]
    refine Dj h1 (at0 _ _) ?_
    try contradiction
    by_cases hc:1<e.2.1
    . rw [if_pos hc]
      rw [<-eb]
      exact hR (by simpa using hc) _ (Same.refl _)
    . rw [if_neg hc]
      exact hF (by simpa using hc) _ (Same.refl _)
  intro H2 s2 h2
  exact k _ _ s2 h2
theorem Kr {H:Hp}{a l:Addr}{xs ys:List V}{o:HO} (h:SqT K H a xs) (hl:H l=some (.lst ys)):SqT K (upd H l o) a xs:=by
  rcases h with(h | ⟨u,h⟩) | h
  . refine .inl (.inl ?_)
    rw [Ba (by rintro rfl;rw [hl]at h;cases h)]
    exact h
  . refine .inl (.inr ⟨u,?_⟩)
    rw [Ba (by rintro rfl;rw [hl]at h;cases h)]
    exact h
  . exact .inr h
theorem Wu (q:Rat):decide ([q.num,(q.den:Int)]=[0,1])= !decide (q≠0):=by
  by_cases h:q=0
  . subst h
    rfl
  . have:¬ [q.num,(q.den:Int)]=[0,1]:=fun z=>h (by
      have hn:q.num=0:=by
        have:=congrArg (·.head?) z
        simpa using this
      exact Rat.num_eq_zero.mp hn)
    rw [decide_eq_false this,decide_eq_true h]
    rfl
def rD (e:Int × Rat):PyData:= .tuple [.int e.1,.tuple [.int e.2.num,.int (e.2.den:Int)]]
theorem Rt.rd {n:Nat}{H:Hp}{v:V}{e:Int × Rat} (h:Rt n K H v e):RdD K H v (rD e):=by
  obtain⟨a,x,rfl,h1,⟨b,rfl,h2⟩,_⟩:=h
  exact .tup h1 (.cons (.int _) (.cons (RdD.ints (ns:=[e.2.num,(e.2.den:Int)]) h2) .nil))
theorem Oo {n:Nat}{H:Hp}:∀ {es:List (V × (Int × Rat))},(∀e∈es,Rt n K H e.1 e.2)->Ol K H (es.map (·.1)) (es.map fun e=>rD e.2)
  | [],_=> .nil
  | e::r,h=> .cons (h e (by simp)).rd (Oo fun x hx=>h x (by simp [hx]))
theorem R7:∀R:List (Int × Rat),PyData.canLayAll0 (R.map rD)=true
  | []=>by simp [PyData.canLayAll0]
  | e::r=>by
    rw [List.map_cons,PyData.canLayAll0,R7 r]
    simp [rD,PyData.canLay0,PyData.canLayAll0]
theorem Rk:∀R:List (Int × Rat),PyData.depthAll (R.map rD)<=5
  | []=>by simp [PyData.depthAll]
  | e::r=>by
    rw [List.map_cons]
    have:=Rk r
    simp [rD,PyData.depthAll,PyData.depth]
    omega
theorem Tt (R:List (Int × Rat)):SeqAt.shaped (.tuple (R.map rD))=true:=by
  have h1:=R7 R
  have h2:=Rk R
  simp [SeqAt.shaped,PyData.canLay0,PyData.depth,h1]
  omega
theorem T8 {n:Nat}{H:Hp}{a b:Addr}{es:List (V × (Int × Rat))}{Q:VK}{g:Bool->Bool} (ha:SqT K H a (es.map (·.1))) (h:∀e∈es,Rt n K H e.1 e.2) (hb:SqT K H b []) (q:Q (.bl (g (decide (es=[])))) H):Xv K g (.ref a) (.ref b) H Q:=by
  have ed:(es.map fun e=>rD e.2)=(es.map (·.2)).map rD:=by rw [List.map_map];rfl
  refine⟨.tuple (es.map fun e=>rD e.2),.tuple [],.tup ha (Oo h),.tup hb .nil,by rw [ed];exact Tt _,by decide,?_⟩
  have e:PyData.eqv (.tuple (es.map fun e=>rD e.2)) (.tuple [])=decide (es=[]):=by
    rw [PyData.eqv]
    cases es with
    | nil=>simp [PyData.eqvAll]
    | cons d r=>simp [PyData.eqvAll]
  rw [e]
  exact q
def Jx (ts:List (Int × Rat)) (n:Nat):Nat:=(n+1)*ts.length+1
structure Rs (K:PySem.W.Frag) (H:Hp) (z:Addr) (fs:List (V × (Int × Rat))) (n:Nat) (ts:List (Int × Rat)):Prop where
  it:SqT K H z (fs.map (·.1))
  al:∀e∈fs,Rt n K H e.1 e.2
  nf:NF ts (fs.map (·.2))
  le:fs.length<=ts.length
def big (R:List (Int × Rat)):Nat:=(R.filter fun e=>decide (1<e.1)).length
def G8 (K:PySem.W.Frag):Sp:=fun vs H Q E=>∃(l:Addr) (es:List (V × (Int × Rat))) (n:Nat),vs=[.ref l]/\SqL K H l (es.map (·.1))/\(∀e∈es,Rt n K H e.1 e.2)/\(∀e∈es,1<=e.2.1/\e.2.1<=1000000000000)/\es.length<=8/\1<=n/\Jx (es.map (·.2)) n<=2900/\
  (∀R,NF (es.map (·.2)) R->3<big R->∀H',Same H H'->E (.ref (cA K "TooGreat")) none H')/\
  (∀R,NF (es.map (·.2)) R->big R<=3->∀z H' fs,Same H H'->Rs K H' z fs (Jx (es.map (·.2)) n) (es.map (·.2))->Q (.ref z) H')
theorem Nv {f:Addr}{fd:FuncData} (F:Df K mg "added_up" Fe ["terms"] f fd) (z_tuple:mg "tuple"=none) (z_len:mg "len"=none) (z_sorted:mg "sorted"=none) (xc_MOST_ROOTS:∃u,mg "MOST_ROOTS"=some u/\RelV (V.int 3) u) (xc_GREATEST:∃u,mg "GREATEST"=some u/\RelV (V.int 1000000000000) u) (xk_TooGreat:Q0 K (cA K "TooGreat")) (xm_TooGreat:mg "TooGreat"=some (.ref (cA K "TooGreat"))) (c_plus:Cal P w K mg base 3 "plus" ["one","other"] (Ox K)) (c_roots_in:Cal P w K mg base 1 "roots_in" ["one"] (Gb K)):Qv P w K mg base 4 "added_up" ["terms"] (G8 K):=by
  refine F.calE (F.fn.okE Ce (fun vs H Q E h=> ?_) (fun cdv A outer s H vs Q E hr h=> ?_))
  . obtain⟨l,es,n,rfl,_⟩:=h
    rfl
  obtain⟨l,es,n,rfl,hl,he,hd,h8,n1,hn,kE,kQ⟩:=h
  refine S.Bq ⟨_,(S.Ad (S.Aj (i:=1) Ce.nd rfl (Or.inr rfl) S.Kq)
      (S.Ad (S.Vv (S.Ft PassesOwn.never rfl (S.Dp (S.pv 0)) (S.El rfl (S.Ar (S.Am (i:=3) Ce.nd rfl (Or.inl rfl)) (S.Ar (S.Am (i:=4) Ce.nd rfl (Or.inl rfl)) S.Cz))) (S.Ae (S.K9 (hu1 hr.units) (S.pv 1) (S.pv 3) (S.Bf c_plus (hr.mono (by decide)) (S.Aa (S.Iz (hu1 hr.units) (S.pv 1) (S.pv 3) (S.Af (S.Aa S.Ab (S.Aa S.Ab S.Ac))) ⟨rfl,rfl,rfl,rfl⟩) (S.Aa (S.pv 4) S.Ac))) rfl))))
      (S.Ad (S.Aj (i:=2) Ce.nd rfl (Or.inl rfl) (S.Ei K1 rfl z_tuple PyProof.Rows.boot_tuple (S.Aa (S.Dh (ts:=["d"]) (fs:=[(1,"sums")]) rfl (Bg.of (sc:=Ah Fe) (N:=["terms","sums","found","d","c"]) rfl rfl (by decide+kernel)) (S.Dp (S.Br (J2 rfl) rfl z_sorted PyProof.Rows.boot_sorted (S.Aa (S.pv 1) S.Ac))) (fun _ _ _=>(S.Am (i:=0) (show List.Nodup (["d","sums"]:List Str)by decide+kernel) rfl (Or.inl rfl))) (fun _ _ _=>(S.G3 (S.Ak (Ww K hr.units) (S.Gx (hu1 hr.units) (S.pv 1) (S.pv 0) (fun _ _=>rfl)) (S.Af (S.Aa S.Ab (S.Aa S.Ab S.Ac))) (Al _)))) (fun _ _ _=>(S.Af (S.Aa (S.pv 0) (S.Aa (S.Gx (hu1 hr.units) (S.pv 1) (S.pv 0) (fun _ _=>rfl)) S.Ac))))) S.Ac)))
      (S.Ad (S.Dd (S.Ak Qc (S.Br Bm rfl z_len PySem.boot_len (S.Aa (S.Bf c_roots_in (hr.mono (by decide)) (S.Aa (S.pv 2) S.Ac)) S.Ac)) (S.Cv (v:= .int 3) rfl xc_MOST_ROOTS) (Al _)) (S.Ae (S.Cm xk_TooGreat xm_TooGreat (S.Aa S.O5 S.Ac))) S.Az)
      (S.Ad (S.Dd (S.Oj (S.Sd (S.Ak (J6 hr.units) (S.pv 2) (S.Af S.Ac) (Al _)) (S.Ou (S.Ak Qc (S.Bv Bw (S.Bv Bw (S.pv 2) (S.Lw Ke S.Ab) (fun _ _=>rfl)) S.Ab (fun _ _=>rfl)) (S.Cv (v:= .int 1000000000000) rfl xc_GREATEST) (Al _))))) (S.Ae (S.Cm xk_TooGreat xm_TooGreat (S.Aa S.O5 S.Ac))) S.Az)
      (S.Ae (S.Ao (S.pv 2)))))))),?_⟩
  refine Bj (fun σ' H'=>Same H H'/\∃t,H t=none/\σ'=[some (.ref l),some (.ref t),none,none,none]/\DcI K H' t [] [] []) (fun M hM=> ?_) ?_
  . contradiction
    intro t ht
    exact hM _ _ ⟨Same.upd ht _,t,ht,rfl,Ag,rfl,List.nodup_nil,Nat.le_refl _,by simp,by simp [Dl]⟩
  rintro σ H1 ⟨s1,t,nt,rfl,d0⟩
  refine Bj (fun σ' H'=>Same H H'/\∃(kvs:List (Key × V)) (ks:List Int) (o3 o4:Option V),σ'=[some (.ref l),some (.ref t),none,o3,o4]/\DcI K H' t kvs ks (es.map (·.2))) (fun M hM=> ?_) ?_
  . contradiction
    refine⟨⟨_,s1.seq hl⟩,Qt (es:=es) (inj:=(·.1)) (fun pre σ' H'=>Same H H'/\∃(kvs:List (Key × V)) (ks:List Int) (o3 o4:Option V),σ'=[some (.ref l),some (.ref t),none,o3,o4]/\DcI K H' t kvs ks (pre.map (·.2))) ⟨s1,[],[],_,_,rfl,d0⟩ ?_ ?_ ?_⟩
    . rintro pre σ' H' ⟨s2,_⟩
      exact Gm (s2.seq hl)
    . rintro pre e post σ' H' hE ⟨s2,kvs,ks,o3,o4,rfl,di⟩
      have em:e∈es:=by rw [hE];simp
      obtain⟨b,x,eb,hb,hx,zx⟩:=(he e em).mono s2
      have pl:pre.length<es.length:=by rw [hE];simp
      have zt:Szq (Jx (es.map (·.2)) n) (tot (pre.map (·.2)) e.2.1):=(O2 n1 e.2.1 (ts:=pre.map (·.2)) fun y hy=>by
        obtain⟨y',hy',rfl⟩:=List.mem_map.mp hy
        obtain⟨_,_,_,_,_,z⟩:=he y' (by rw [hE];simp [hy'])
        exact z).mono (by
          unfold Jx
          rw [List.length_map,List.length_map]
          exact Nat.add_le_add_right (Nat.mul_le_mul_left _ (Nat.le_of_lt pl)) 1)
      have nle:n<=2900:=by
        unfold Jx at hn
        rw [List.length_map]at hn
        have:(n+1)*1<=(n+1)*es.length:=Nat.mul_le_mul_left _ (by omega)
        omega
      rw [eb]
      refine Dy hb ?_
      contradiction
      refine⟨.inl ⟨kvs,.inl di.it⟩,fun p0 hp0=> ?_⟩
      have sp:=Same.upd hp0 (.tup [V.int 0,V.int 1])
      have gp:upd H' p0 (.tup [V.int 0,V.int 1]) p0=some (.tup [V.int 0,V.int 1]):=Ag
      generalize upd H' p0 (.tup [V.int 0,V.int 1])=H2 at sp gp
      have di2:=di.mono sp
      refine⟨_,Xm di2.it,?_⟩
      have iq:IsQ K H2 ((Dl kvs (.inl e.2.1)).getD (.ref p0)) (tot (pre.map (·.2)) e.2.1):=by
        cases e0:Dl kvs (.inl e.2.1)with
        | none=>
          rw [(di2.hasNo e0).1]
          exact⟨p0,rfl,.of gp⟩
        | some w=>exact di2.vl _ w e0
      refine⟨_,_,_,_,rfl,iq,hx.mono sp,zt.mono (by omega),zx.mono (by omega),fun z H3 s3 iz=> ?_⟩
      have di3:=di2.mono s3
      obtain⟨ks',di4⟩:=di3.put (c:=e.2.2) iz
      refine⟨t,_,rfl,Yv di3.it ?_,?_⟩
      . have e1:=congrArg List.length di3.ky
        rw [List.length_map,List.length_map]at e1
        have:=di3.le
        rw [List.length_map]at this
        rw [e1]
        exact Nat.lt_of_le_of_lt (show ks.length<=8 by omega) (by decide)
      . refine⟨((s2.trans sp).trans s3).put nt,putK kvs (.inl e.2.1) z,ks',_,_,rfl,?_⟩
        rw [List.map_append]
        exact di4
    . rintro σ' H' ⟨s2,kvs,ks,o3,o4,rfl,di⟩
      exact hM _ _ ⟨s2,kvs,ks,o3,o4,rfl,di⟩
  clear d0 s1
  rintro σ H2 ⟨s2,kvs,ks,o3,o4,rfl,di⟩
  contradiction
  have l8:ks.length<=8:=by
    have:=di.le
    rw [List.length_map]at this
    omega
  refine⟨t,kvs,ks,rfl,di.it,di.ky,by omega,fun l3 ms n3 pm up=> ?_⟩
  have s3:=Same.upd n3 (.lst (ms.map V.int))
  have g3:upd H2 l3 (.lst (ms.map V.int)) l3=some (.lst (ms.map V.int)):=Ag
  generalize upd H2 l3 (.lst (ms.map V.int))=H3 at s3 g3
  have di3:=di.mono s3
  have nf:=NF.make (ts:=es.map (·.2)) di.nd di.mem pm up
  have ml:ms.length<=8:=by rw [pm.length_eq];exact l8
  have zall:∀i,Szq (Jx (es.map (·.2)) n) (tot (es.map (·.2)) i):=fun i=>O2 n1 i fun y hy=>by
    obtain⟨y',hy',rfl⟩:=List.mem_map.mp hy
    obtain⟨_,_,_,_,_,z⟩:=he y' hy'
    exact z
  refine⟨⟨_,.of g3⟩,fun p4 n4=>Jk (es:=ms) (inj:=V.int) (fun i=>decide (tot (es.map fun e:V × (Int × Rat)=>e.2) i≠0)) (fun i v H'=>Rt (Jx (es.map fun e:V × (Int × Rat)=>e.2) n) K H' v (i,tot (es.map fun e:V × (Int × Rat)=>e.2) i)) (fun _ _ _ _ h s=>h.mono s) ?_ (Nat.le_trans ml (by decide)) n4 (Kv (.of g3)) ?_ ?_⟩
  . rintro i v Hx ys zs ⟨a,x,rfl,h1,⟨b,rfl,h2⟩,h3⟩ hp
    exact⟨a,_,rfl,Kr h1 hp,⟨b,rfl,Kr h2 hp⟩,h3⟩
  . intro i H4 R RF hi s4 hR hF
    obtain⟨v,hv,iv⟩:=(di3.mono s4).has (pm.mem_iff.mp hi)
    obtain⟨b,rfl,hb⟩:=id iv
    contradiction
    refine⟨t,_,rfl,Ul (di3.mono s4).it hv,fun p5 n5=> ?_⟩
    have s5:=Same.upd n5 (.tup [V.int 0,V.int 1])
    refine Ug (ns:=[_,_]) (ms:=[0,1]) (s5.tup hb) (.of Ag) ?_
    have eq:decide ([(tot (es.map (·.2)) i).num,((tot (es.map (·.2)) i).den:Int)]=[0,1])= !decide (tot (es.map (·.2)) i≠0):=Wu _
    rw [eq]
    generalize upd H4 p5 (.tup [V.int 0,V.int 1])=H5 at s5
    by_cases h0:tot (es.map (·.2)) i≠0
    . rw [decide_eq_true h0]
      try contradiction
      refine⟨t,_,rfl,Ul ((di3.mono s4).mono s5).it hv,fun p6 n6=> ?_⟩
      have s6:=Same.upd n6 (.tup [V.int i,.ref b])
      exact hR (decide_eq_true h0) _ _ (s5.trans s6) ⟨p6,_,rfl,.of Ag,(iv.mono s5).mono s6,zall i⟩
    . rw [decide_eq_false h0]
      try contradiction
      exact hF (decide_eq_false h0) _ s5
  intro H4 vs s4 h4 e4 r4
  have ef:vs.map (fun x=>(x.1,((x.2,tot (es.map (·.2)) x.2):Int × Rat)))=vs.map (fun x=>(x.1,((x.2,tot (es.map (·.2)) x.2):Int × Rat))):=rfl
  generalize hfs:vs.map (fun x=>(x.1,((x.2,tot (es.map (·.2)) x.2):Int × Rat)))=fs at ef
  clear ef
  have f1:fs.map (·.1)=vs.map (·.1):=by rw [<-hfs,List.map_map];rfl
  have f2:fs.map (·.2)=(ms.filter fun i=>decide (tot (es.map (·.2)) i≠0)).map fun i=>(i,tot (es.map (·.2)) i):=by
    rw [<-e4,<-hfs,List.map_map,List.map_map]
    rfl
  have f3:∀e∈fs,Rt (Jx (es.map (·.2)) n) K H4 e.1 e.2:=fun e hm=>by
    rw [<-hfs]at hm
    obtain⟨x,hx,rfl⟩:=List.mem_map.mp hm
    exact r4 x hx
  have f4:fs.length<=(es.map (·.2)).length:=by
    have h1:=congrArg List.length f2
    rw [List.length_map,List.length_map]at h1
    have h2:=List.length_filter_le (fun i=>decide (tot (es.map (·.2)) i≠0)) ms
    have h3:=pm.length_eq
    have h4:=di.le
    omega
  rw [<-f2]at nf
  rw [<-f1]at h4
  have s24:=(s2.trans s3).trans s4
  clear hfs f1 f2 r4 e4
  refine⟨p4,_,rfl,.inl ⟨.of h4,fun p5 n5=> ?_⟩⟩
  have s5:=Same.upd n5 (.tup (fs.map (·.1)))
  have g5:upd H4 p5 (.tup (fs.map (·.1))) p5=some (.tup (fs.map (·.1))):=Ag
  generalize upd H4 p5 (.tup (fs.map (·.1)))=H5 at s5 g5
  have s25:=s24.trans s5
  have f8:fs.length<=8:=by rw [List.length_map]at f4;omega
  refine⟨p5,fs,_,rfl,.of g5,fun e hm=>(f3 e hm).mono s5,by omega,fun p6 H6 s6 h6=> ?_⟩
  have eb:((fs.filter fun e=>decide (1<e.2.1)).map (·.1)).length=big (fs.map (·.2)):=by
    unfold big
    rw [List.length_map,List.filter_map,List.length_map]
    rfl
  try contradiction
  refine⟨p6,_,rfl,.inl (.of h6),?_⟩
  rw [eb]
  by_cases hb:3<big (fs.map (·.2))
  . rw [if_pos (by omega)]
    exact kE _ nf hb _ (s25.trans s6)
  rw [if_neg (by omega)]
  refine⟨by decide,fun p7 n7=> ?_⟩
  have s7:=Same.upd n7 (.tup [])
  have rs:Rs K (upd H6 p7 (.tup [])) p5 fs (Jx (es.map (·.2)) n) (es.map (·.2)):=⟨(s6.trans s7).tup (.of g5),fun e hm=>(f3 e hm).mono ((s5.trans s6).trans s7),nf,f4⟩
  have kk:=kQ _ nf (by omega) p5 _ fs ((s25.trans s6).trans s7) rs
  refine T8 rs.it rs.al (.of Ag) ?_
  by_cases f0:fs=[]
  . rw [decide_eq_true f0]
    try contradiction
    exact kk
  . rw [decide_eq_false f0]
    try contradiction
    obtain⟨ini,e,rfl⟩:∃i x,fs=i++ [x]:=⟨_,_,(List.dropLast_concat_getLast f0).symm⟩
    have em:(ini++ [e]).map (·.1)=ini.map (·.1)++ [e.1]:=by rw [List.map_append];rfl
    obtain⟨b,x,eb2,hb2,_⟩:=rs.al e (by simp)
    refine Dj rs.it (v:=e.1) (by rw [em];exact Uv _ _) ?_
    rw [eb2]
    refine Dj hb2 (at0 _ _) ?_
    try contradiction
    have e12:¬1000000000000<e.2.1:=by
      have hm:=(nf.mem e.2).mp (List.mem_map.mpr ⟨e,by simp,rfl⟩)
      have:∃y∈es.map (·.2),y.1=e.2.1:=Classical.byContradiction fun z=>hm.2 (by
        rw [hm.1]
        exact Jt fun y hy ey=>z ⟨y,hy,ey⟩)
      obtain⟨y,hy,ey⟩:=this
      obtain⟨y',hy',rfl⟩:=List.mem_map.mp hy
      have:=(hd y' hy').2
      omega
    rw [if_neg e12]
    exact kk
structure Sqd (d:Int) (s m:Nat):Prop where
  eq:((s*s*m:Nat):Int)=d
  sf:SF m
  s0:0<s
  m0:0<m
theorem Sqd.uniq {d:Int}{s m s' m':Nat} (a:Sqd d s m) (b:Sqd d s' m'):s=s':=by
  have e:s*s*m=s'*s'*m':=by
    have:=a.eq.trans b.eq.symm
    omega
  exact Nat.dvd_antisymm (V4 b.sf b.s0 b.m0 ⟨m,e.symm⟩) (V4 a.sf a.s0 a.m0 ⟨m',e⟩)
open Classical in
noncomputable def sqs (d:Int):Nat:=if h:∃s m,Sqd d s m then h.choose else 1
theorem Sqd.sqs {d:Int}{s m:Nat} (a:Sqd d s m):sqs d=s:=by
  have h:∃s m,Sqd d s m:=⟨s,m,a⟩
  unfold Z.sqs
  rw [dif_pos h]
  obtain⟨m',b⟩:=h.choose_spec
  exact b.uniq a
noncomputable def red (e:Int × Rat):Int × Rat:=(e.1/((sqs e.1*sqs e.1:Nat):Int),e.2*((sqs e.1:Nat):Rat))
theorem Sqd.red {d:Int}{c:Rat}{s m:Nat} (a:Sqd d s m):red (d,c)=((m:Int),c*((s:Nat):Rat)):=by
  unfold Z.red
  rw [a.sqs]
  refine Prod.ext ?_ rfl
  show d/((s*s:Nat):Int)=(m:Int)
  rw [<-a.eq,<-Int.natCast_ediv,Nat.mul_div_cancel_left _ (Nat.mul_pos a.s0 a.s0)]
def Es (K:PySem.W.Frag):Sp:=fun vs H Q E=>∃(l:Addr) (es:List (V × (Int × Rat))) (n w:Nat),vs=[.ref l]/\SqL K H l (es.map (·.1))/\(∀e∈es,Rt n K H e.1 e.2)/\(∀e∈es,1<=e.2.1/\e.2.1<=1000000000000/\e.2.1<4^w)/\es.length<=8/\1<=n/\Jx (es.map (·.2)) (n+w)<=2900/\
  (∀R,NF (es.map fun e=>red e.2) R->3<big R->∀H',Same H H'->E (.ref (cA K "TooGreat")) none H')/\
  (∀R,NF (es.map fun e=>red e.2) R->big R<=3->∀z H' fs,Same H H'->Rs K H' z fs (Jx (es.map (·.2)) (n+w)) (es.map fun e=>red e.2)->Q (.ref z) H')
theorem Rt.putL {n:Nat}{H:Hp}{v:V}{e:Int × Rat}{l:Addr}{ys:List V}{o:HO} (h:Rt n K H v e) (hl:H l=some (.lst ys)):Rt n K (upd H l o) v e:=by
  obtain⟨a,x,rfl,h1,⟨b,rfl,h2⟩,h3⟩:=h
  exact⟨a,_,rfl,Kr h1 hl,⟨b,rfl,Kr h2 hl⟩,h3⟩
theorem Tj {s w:Nat}{d:Int} (h:((s*s:Nat):Int)<=d) (hd:d<4^w):s<2^w:=by
  refine Nat.lt_of_not_le fun z=> ?_
  have h1:=Nat.mul_le_mul z z
  have h2:(2:Nat)^w*2^w=4^w:=by rw [<-Nat.mul_pow]
  rw [h2]at h1
  have h3:((4^w:Nat):Int)=4^w:=by rw [Int.natCast_pow];rfl
  omega
theorem Nx {f:Addr}{fd:FuncData} (F:Df K mg "root_sum" Gv ["terms"] f fd)   (ce_added_up:Qv P w K mg base 4 "added_up" ["terms"] (G8 K)) (c_square_in:Cal P w K mg base 2 "square_in" ["d"] (Eo K)) (c_times:Cal P w K mg base 3 "times" ["one","other"] (K8 K)):Qv P w K mg base 5 "root_sum" ["terms"] (Es K):=by
  refine F.calE (F.fn.okE Cg (fun vs H Q E h=> ?_) (fun cdv A outer s H vs Q E hr h=> ?_))
  . obtain⟨l,es,n,w,rfl,_⟩:=h
    rfl
  obtain⟨l,es,n,w,rfl,hl,he,hd,h8,n1,hn,kE,kQ⟩:=h
  refine S.Bq ⟨_,(S.Ad (S.Aj (i:=1) Cg.nd rfl (Or.inl rfl) (S.Et S.Ac))
      (S.Ad (S.Vv (S.Ft PassesOwn.never rfl (S.Dp (S.pv 0)) (S.El rfl (S.Ar (S.Am (i:=2) Cg.nd rfl (Or.inl rfl)) (S.Ar (S.Am (i:=3) Cg.nd rfl (Or.inl rfl)) S.Cz))) (S.Ad (S.Aj (i:=4) Cg.nd rfl (Or.inl rfl) (S.Bf c_square_in (hr.mono (by decide)) (S.Aa (S.pv 2) S.Ac)))
      (S.Ae (S.Ju (S.Kz PySem.F.plainAttrs_list PySem.F.slot_list_append PySem.F.type_list_append Ji (S.pv 1) (S.Aa (S.Af (S.Aa (S.Ai Bh (S.pv 2) (S.Ai Av (S.pv 4) (S.pv 4))) (S.Aa (S.Bf c_times (hr.mono (by decide)) (S.Aa (S.pv 3) (S.Aa (S.Af (S.Aa (S.pv 4) (S.Aa S.Ab S.Ac))) S.Ac))) S.Ac))) S.Ac)))))))
      (S.Ae (S.Ao (S.Dn ce_added_up (hr.mono (by decide)) (S.Aa (S.pv 1) S.Ac)))))),?_⟩
  refine Bj (fun σ' H'=>Same H H'/\∃t,H t=none/\σ'=[some (.ref l),some (.ref t),none,none,none]/\H' t=some (.lst [])) (fun M hM=> ?_) ?_
  . contradiction
    refine⟨by decide,fun t ht=> ?_⟩
    exact hM _ _ ⟨Same.upd ht _,t,ht,rfl,Ag⟩
  rintro σ H1 ⟨s1,t,nt,rfl,g1⟩
  refine Bj (fun σ' H'=>Same H H'/\∃(vs:List (V × (Int × Rat))) (o2 o3 o4:Option V),σ'=[some (.ref l),some (.ref t),o2,o3,o4]/\H' t=some (.lst (vs.map (·.1)))/\vs.map (·.2)=es.map (fun e=>red e.2)/\∀x∈vs,Rt (n+w) K H' x.1 x.2/\1<=x.2.1/\x.2.1<=1000000000000) (fun M hM=> ?_) ?_
  . contradiction
    refine⟨⟨_,s1.seq hl⟩,Qt (es:=es) (inj:=(·.1)) (fun pre σ' H'=>Same H H'/\∃(vs:List (V × (Int × Rat))) (o2 o3 o4:Option V),σ'=[some (.ref l),some (.ref t),o2,o3,o4]/\H' t=some (.lst (vs.map (·.1)))/\vs.map (·.2)=pre.map (fun e=>red e.2)/\∀x∈vs,Rt (n+w) K H' x.1 x.2/\1<=x.2.1/\x.2.1<=1000000000000) ⟨s1,[],_,_,_,rfl,g1,rfl,by simp⟩ ?_ ?_ ?_⟩
    . rintro pre σ' H' ⟨s2,_⟩
      exact Gm (s2.seq hl)
    . rintro pre e post σ' H' hE ⟨s2,vs,o2,o3,o4,rfl,g2,ev,hv⟩
      have em:e∈es:=by rw [hE];simp
      obtain⟨b,x,eb,hb,hx,zx⟩:=(he e em).mono s2
      obtain⟨d1,d2,d3⟩:=hd e em
      have vl:vs.length<=8:=by
        have h1:=congrArg List.length ev
        rw [List.length_map,List.length_map]at h1
        have:pre.length<es.length:=by rw [hE];simp
        omega
      rw [eb]
      refine Dy hb ?_
      contradiction
      refine⟨e.2.1.toNat,by rw [Int.toNat_of_nonneg (by omega)],by omega,by omega,fun s0 m0 eq sf p0 q0=> ?_⟩
      have sq:Sqd e.2.1 s0 m0:=⟨by rw [eq];omega,sf,p0,q0⟩
      have s2le:((s0*s0:Nat):Int)<=e.2.1:=by
        rw [<-sq.eq]
        have:s0*s0*1<=s0*s0*m0:=Nat.mul_le_mul_left _ q0
        omega
      have sw:=Tj s2le d3
      have sd:s0<=1000000000000:=by
        have:s0*1<=s0*s0:=Nat.mul_le_mul_left _ p0
        omega
      try contradiction
      have w1:1<=w:=Nat.pos_of_ne_zero fun z=>by
        subst z
        simp at d3
        omega
      have ez:((s0:Nat):Int)*(s0:Nat)=((s0*s0:Nat):Int):=by rw [Int.natCast_mul]
      rw [ez]
      refine⟨.inl ⟨rfl,_,.of g2⟩,Vc (by omega),Y7 (by omega) (Nat.mul_pos p0 p0) _,fun p3 n3=> ?_⟩
      have s3:=Same.upd n3 (.tup [V.int (s0:Nat),V.int 1])
      have g3:upd H' p3 (.tup [V.int (s0:Nat),V.int 1]) p3=some (.tup [V.int (s0:Nat),V.int 1]):=Ag
      generalize upd H' p3 (.tup [V.int (s0:Nat),V.int 1])=H3 at s3 g3
      have zs:Szq w ((s0:Nat):Rat):=⟨by
        show Sz w ((s0:Nat):Int)
        unfold Sz
        omega,by
        show Sz w ((1:Nat):Int)
        unfold Sz
        exact Nat.one_lt_two_pow (by omega)⟩
      have nle:n+w<=2900:=by
        unfold Jx at hn
        rw [List.length_map]at hn
        have:(n+w+1)*1<=(n+w+1)*es.length:=Nat.mul_le_mul_left _ (by rw [hE];simp;omega)
        omega
      refine⟨_,_,e.2.2,((s0:Nat):Rat),rfl,hx.mono s3,⟨p3,rfl,.of g3⟩,zx.mono (by omega),zs.mono (by omega),fun z H4 s4 iz p5 n5=> ?_⟩
      have er:red e.2=((m0:Int),e.2.2*((s0:Nat):Rat)):=sq.red
      have ed:e.2.1/((s0*s0:Nat):Int)=(m0:Int):=by
        rw [<-sq.eq,<-Int.natCast_ediv,Nat.mul_div_cancel_left _ (Nat.mul_pos p0 p0)]
      rw [ed]
      have s5:=Same.upd n5 (.tup [V.int (m0:Nat),z])
      have g5:upd H4 p5 (.tup [V.int (m0:Nat),z]) p5=some (.tup [V.int (m0:Nat),z]):=Ag
      generalize upd H4 p5 (.tup [V.int (m0:Nat),z])=H5 at s5 g5
      have s25:=(s3.trans s4).trans s5
      refine⟨t,_,_,rfl,rfl,s25 _ _ g2,by rw [List.length_map];exact Nat.lt_of_le_of_lt vl (by decide),(s2.trans s25).put nt,vs++ [(.ref p5,red e.2)],_,_,_,rfl,?_,?_,?_⟩
      . rw [Ag,List.map_append]
        rfl
      . rw [List.map_append,List.map_append,ev]
        rfl
      . intro y hy
        rcases List.mem_append.mp hy with hy | hy
        . obtain⟨h1,h2⟩:=hv y hy
          exact⟨(h1.mono s25).putL (s25 _ _ g2),h2⟩
        . have ey:y=(.ref p5,red e.2):=by simpa using hy
          rw [ey,er]
          have ml:m0<=1000000000000:=by
            have:1*m0<=s0*s0*m0:=Nat.mul_le_mul_right _ (Nat.mul_pos p0 p0)
            have:=sq.eq
            omega
          refine⟨Rt.putL (ys:=vs.map (·.1)) ⟨p5,z,rfl,.of g5,iz.mono s5,zx.mul zs⟩ (s25 _ _ g2),?_,?_⟩
          . show 1<=(m0:Int)
            omega
          . show(m0:Int)<=1000000000000
            omega
    . rintro σ' H' ⟨s2,vs,o2,o3,o4,rfl,g2,ev,hv⟩
      exact hM _ _ ⟨s2,vs,o2,o3,o4,rfl,g2,ev,hv⟩
  rintro σ H2 ⟨s2,vs,o2,o3,o4,rfl,g2,ev,hv⟩
  contradiction
  have e2:Jx (vs.map (·.2)) (n+w)=Jx (es.map (·.2)) (n+w):=by
    unfold Jx
    rw [ev,List.length_map,List.length_map]
  have lv:vs.length=es.length:=by
    have h1:=congrArg List.length ev
    rw [List.length_map,List.length_map]at h1
    exact h1
  refine⟨t,vs,n+w,rfl,.of g2,fun e he=>(hv e he).1,fun e he=>(hv e he).2,by omega,by omega,by rw [e2];exact hn,?_,?_⟩
  . rw [ev]
    exact fun R nf hb H' s'=>kE R nf hb H' (s2.trans s')
  . rw [e2,ev]
    exact fun R nf hb z H' fs s' rs=>kQ R nf hb z H' fs (s2.trans s') rs
def Dz (K:PySem.W.Frag):Sp:=fun vs H Q _=>∃d:Int,vs=[.int d]/\1<=d/\d<=10000/\∀(s m:Nat) (z:Addr) (H':Hp),Sqd d s m->Same H H'->SqT K H' z [.int (s:Nat),.int (m:Nat)]->Q (.ref z) H'
theorem Q6 {d b:Nat} (d0:0<d) (d1:d<=10000) (b0:0<b) (hb:d%(b*b)=0) (hi:∀c,b<c->c<=100->¬d%(c*c)=0):Sqd (d:Int) b (d/(b*b)):=by
  obtain⟨k,rfl⟩:=Nat.dvd_of_mod_eq_zero hb
  have bb:=Nat.mul_pos b0 b0
  rw [Nat.mul_div_cancel_left _ bb]
  have k0:0<k:=Nat.pos_of_mul_pos_left d0
  refine⟨rfl,fun u u2 hu=> ?_,b0,k0⟩
  obtain⟨j,rfl⟩:=hu
  have lt:b*1<b*u:=Nat.mul_lt_mul_of_pos_left (by omega) b0
  have dv:b*b*(u*u*j)=(b*u)*(b*u)*j:=by grind
  refine hi (b*u) (by omega) (Nat.le_of_not_lt fun z=> ?_) (by rw [dv];exact Nat.mul_mod_right _ _)
  have z2:101*101<=(b*u)*(b*u):=Nat.mul_le_mul z z
  have j0:0<j:=Nat.pos_of_mul_pos_left k0
  have z3:(b*u)*(b*u)*1<=(b*u)*(b*u)*j:=Nat.mul_le_mul_left _ j0
  rw [dv]at d1
  omega
theorem Js {f:Addr}{fd:FuncData} (F:Df K mg "_law_square_out" Cy ["_law_d"] f fd) (z_range:mg "range"=none)   :Cal P w K mg base 1 "_law_square_out" ["_law_d"] (Dz K):=by
  refine F.cal (F.fn.ok Em (fun vs H Q E h=> ?_) (fun cdv A outer s H vs Q E hr h=> ?_))
  . obtain⟨d,rfl,_⟩:=h
    rfl
  obtain⟨d,rfl,d1,d2,k⟩:=h
  refine S.Bq ⟨_,(S.Ad (S.Ft PassesOwn.never rfl (S.Jc rfl z_range (S.Aa S.Ab (S.Aa S.Ab (S.Aa (S.Lw Ke S.Ab) S.Ac)))) (S.Am (i:=1) Em.nd rfl (Or.inl rfl)) (S.Ae (S.Dd (S.Ak Ko (S.Ai Cp (S.pv 0) (S.Ai Av (S.pv 1) (S.pv 1))) S.Ab (Al _)) (S.Ae (S.Ao (S.Af (S.Aa (S.pv 1) (S.Aa (S.Ai Bh (S.pv 0) (S.Ai Av (S.pv 1) (S.pv 1))) S.Ac))))) S.Az)))
      (S.Ae (S.Ao (S.Af (S.Aa S.Ab (S.Aa (S.pv 0) S.Ac)))))),?_⟩
  obtain⟨n,rfl⟩:∃n:Nat,d=(n:Int):=⟨d.toNat,by omega⟩
  contradiction
  refine⟨⟨by decide,by decide,by decide,by decide⟩,?_⟩
  rw [show((100:Int)-0).toNat=100 from rfl]
  refine Aaj 100 (fun i=> .int (100-(i:Nat))) (fun i σ' H'=>H'=H/\∃o:Option V,σ'=[some (.int (n:Nat)),o]/\∀c,100-i<c->c<=100->¬n%(c*c)=0) ⟨rfl,_,rfl,fun c h1 h2=>by omega⟩ ?_ ?_ ?_
  . rintro i σ' H' _
    exact Q9
  . rintro i σ' H' hi ⟨rfl,o,rfl,hc⟩
    obtain⟨b,eb⟩:∃b:Nat,b=100-i:=⟨_,rfl⟩
    have e1:(100:Int)-(i:Nat)=(b:Int):=by omega
    contradiction
    rw [e1]
    have b0:0<b:=by omega
    have bb:=Nat.mul_pos b0 b0
    have b2:b*b<=100*100:=Nat.mul_le_mul (by omega) (by omega)
    have e2:((b:Nat):Int)*(b:Nat)=((b*b:Nat):Int):=by rw [Int.natCast_mul]
    rw [e2,<-Int.natCast_emod,<-Int.natCast_ediv]
    refine⟨Vc (by omega),by omega,?_⟩
    by_cases hd:n%(b*b)=0
    . rw [if_pos (by omega)]
      refine⟨Vc (by omega),Y7 (by omega) bb _,fun p hp=> ?_⟩
      exact k b _ p _ (Q6 (by omega) (by omega) b0 hd (fun c h1 h2=>hc c (by omega) h2)) (Same.upd hp _) (.of Ag)
    . rw [if_neg (by omega)]
      refine⟨_,rfl,fun c h1 h2=> ?_⟩
      by_cases cb:c=b
      . rw [cb]
        exact hd
      . exact hc c (by omega) h2
  . rintro σ' H' ⟨rfl,o,rfl,hc⟩
    exact absurd (Nat.mod_one n) (hc 1 (by omega) (by omega))
theorem Ph {H H1:Hp}{Q:VK}{E:XK}{a:Addr}{ns:List Int}{j:Int} (hS:SqL K H1 a (ns.map V.int)) (s1:Same H1 H) (h0:0<=j) (h:Q (.int (cell ns j)) H):Ck K [.ref a,.int j] H Q E:=⟨a,ns,j,rfl,s1.seq hS,h0,h⟩
def Kf (K:PySem.W.Frag):Sp:=fun vs H Q _=>∃(a:Addr) (ns:List Int),vs=[.ref a]/\SqL K H a (ns.map V.int)/\∀(l:Addr) (H':Hp) (es:List (V × (Int × Rat))),Same H H'->H' l=some (.lst (es.map (·.1)))->(∀e∈es,Rt 68 K H' e.1 e.2)->(∀e∈es,1<=e.2.1/\e.2.1<=10000)->es.length<=6->Q (.ref l) H'
theorem Ut {x:Int} (h:x.natAbs<2^60):Builtin.Int.intBits x<=64:=Nat.le_trans (PySem.intBits_le_iff.mpr h) (by decide)
structure TmI (K:PySem.W.Frag) (H H':Hp) (f:Addr) (i:Nat) (es:List (V × (Int × Rat))):Prop where
  sm:Same H H'
  it:H' f=some (.lst (es.map (·.1)))
  al:∀e∈es,Rt 68 K H' e.1 e.2
  ky:∀e∈es,1<=e.2.1/\e.2.1<=10000
  le:es.length=i
theorem Qk {f:Addr}{fd:FuncData} (F:Df K mg "_law_terms" Jp ["_law_script"] f fd) (z_range:mg "range"=none)  (c_q_cell_at:Cal P w K mg base 1 "_law_cell_at" ["_law_script","_law_k"] (Ck K)) (c_fraction:Cal P w K mg base 2 "fraction" ["top","bottom"] (Dq K)):Cal P w K mg base 3 "_law_terms" ["_law_script"] (Kf K):=by
  refine F.cal (F.fn.ok Ax (fun vs H Q E h=> ?_) (fun cdv A outer s H vs Q E hr h=> ?_))
  . obtain⟨a,ns,rfl,_⟩:=h
    rfl
  obtain⟨a,ns,rfl,hS,k⟩:=h
  refine S.Bq ⟨_,(S.Ad (S.Aj (i:=1) Ax.nd rfl (Or.inl rfl) (S.Et (S.Aa S.Ab (S.Aa S.Ab (S.Aa S.Ab (S.Aa S.Ab (S.Aa S.Ab (S.Aa S.Ab (S.Aa S.Ab (S.Aa S.Ab (S.Aa S.Ab (S.Aa S.Ab S.Ac))))))))))))
      (S.Ad (S.Aj (i:=2) Ax.nd rfl (Or.inl rfl) (S.Et S.Ac))
      (S.Ad (S.Ft PassesOwn.never rfl (S.Eh rfl z_range (S.Aa (S.Ai Cp (S.Bf c_q_cell_at (hr.mono (by decide)) (S.Aa (S.pv 0) (S.Aa S.Ab S.Ac))) S.Ab) S.Ac)) (S.Am (i:=3) Ax.nd rfl (Or.inl rfl)) (S.Ad (S.Aj (i:=4) Ax.nd rfl (Or.inl rfl) (S.Bf c_q_cell_at (hr.mono (by decide)) (S.Aa (S.pv 0) (S.Aa (S.Ai Ci (S.Ai Av S.Ab (S.pv 3)) S.Ab) S.Ac))))
      (S.Ad (S.Aj (i:=5) Ax.nd rfl (Or.inl rfl) (S.Ai Ci S.Ab (S.Ai Cp (S.Ai Bh (S.pv 4) S.Ab) (S.Ai J1 S.Ab S.Ab))))
      (S.Ad (S.Dd (S.Ak Ko (S.Ai Cp (S.pv 4) S.Ab) S.Ab (Al _)) (S.Ad (S.Aj (i:=8) Ax.nd rfl (Or.inl rfl) (S.Bv Ks (S.pv 1) (S.Ai Cp (S.Ai Bh (S.pv 4) S.Ab) S.Ab) (fun _ _=>rfl)))
      (S.Ad (S.Aj (i:=5) Ax.nd rfl (Or.inl rfl) (S.pv 8))
      (S.Ad (S.Aj (i:=9) Ax.nd rfl (Or.inl rfl) (S.Ai Ci S.Ab (S.Ai Cp (S.Ai Bh (S.pv 4) S.Ab) S.Ab)))
      (S.Ae (S.Dd (S.Ak Uz (S.Ai Av (S.Ai Av (S.pv 8) (S.pv 9)) (S.pv 9)) (S.Ai J1 S.Ab S.Ab) (Al _)) (S.Ae (S.Aj (i:=5) Ax.nd rfl (Or.inl rfl) (S.Ai Av (S.Ai Av (S.pv 8) (S.pv 9)) (S.pv 9)))) S.Az))))) S.Az)
      (S.Ad (S.Aj (i:=6) Ax.nd rfl (Or.inl rfl) (S.Bf c_q_cell_at (hr.mono (by decide)) (S.Aa (S.pv 0) (S.Aa (S.Ai Ci (S.Ai Av S.Ab (S.pv 3)) S.Ab) S.Ac))))
      (S.Ad (S.Aj (i:=7) Ax.nd rfl (Or.inl rfl) (S.Bv Ks (S.Et (S.Aa S.Ab (S.Aa S.Ab (S.Aa (S.Ai J1 S.Ab S.Ab) S.Ac)))) (S.Ai Cp (S.pv 6) S.Ab) (fun _ _=>rfl)))
      (S.Ae (S.Ju (S.Kz PySem.F.plainAttrs_list PySem.F.slot_list_append PySem.F.type_list_append Ji (S.pv 2) (S.Aa (S.Af (S.Aa (S.pv 5) (S.Aa (S.Bf c_fraction (hr.mono (by decide)) (S.Aa (S.Ai Yw (S.Ai Cp (S.Ai Bh (S.pv 6) S.Ab) (S.Ai Ci (S.Ai Av S.Ab (S.pv 7)) S.Ab)) (S.pv 7)) (S.Aa (S.Ai Ci S.Ab (S.Ai Cp (S.Ai Bh (S.pv 6) S.Ab) (S.Bv Ks (S.Et (S.Aa S.Ab (S.Aa S.Ab (S.Aa (S.Ai J1 S.Ab S.Ab) S.Ac)))) (S.Ai Cp (S.pv 6) S.Ab) (fun _ _=>rfl)))) S.Ac))) S.Ac))) S.Ac))))))))))
      (S.Ae (S.Ao (S.pv 2)))))),?_⟩
  refine Bj (fun σ' H'=>Same H H'/\∃m,σ'=[some (.ref a),some (.ref m),none,none,none,none,none,none,none,none]/\H' m=some (.lst [.int 1,.int 2,.int 3,.int 2,.int 6,.int 5,.int 1,.int 30,.int 9999,.int 9998])) (fun M hM=> ?_) ?_
  . contradiction
    exact⟨by decide,fun p hp=>hM _ _ ⟨Same.upd hp _,p,rfl,Ag⟩⟩
  rintro σ H1 ⟨s1,m,rfl,g1⟩
  refine Bj (fun σ' H'=>Same H1 H'/\∃f,H1 f=none/\σ'=[some (.ref a),some (.ref m),some (.ref f),none,none,none,none,none,none,none]/\H' f=some (.lst [])) (fun M hM=> ?_) ?_
  . contradiction
    exact⟨by decide,fun p hp=>hM _ _ ⟨Same.upd hp _,p,hp,rfl,Ag⟩⟩
  rintro σ H2 ⟨s2,f,nf,rfl,g2⟩
  contradiction
  refine Ph hS (s1.trans s2) (by decide) ?_
  try contradiction
  generalize hN:cell ns 0%7=c0
  have c6:0<=c0/\c0<=6:=by omega
  refine⟨by decide,by omega,by omega,?_⟩
  refine Aaj c0.toNat (fun i=> .int (0+(i:Nat))) (fun i σ' H'=>∃(es:List (V × (Int × Rat))) (o3 o4 o5 o6 o7 o8 o9:Option V),σ'=[some (.ref a),some (.ref m),some (.ref f),o3,o4,o5,o6,o7,o8,o9]/\TmI K H1 H' f i es) ⟨[],_,_,_,_,_,_,_,rfl,s2,g2,by simp,by simp,rfl⟩ ?_ ?_ ?_
  . rintro i σ' H' _
    exact Jz
  . rintro i σ' H' hi ⟨es,o3,o4,o5,o6,o7,o8,o9,rfl,ti⟩
    simp only [Ds,List.set_cons_succ,List.set_cons_zero]
    refine Bj (fun σ' H''=>H''=H'/\∃c:Int,σ'=[some (.ref a),some (.ref m),some (.ref f),some (.int (0+(i:Nat))),some (.int c),o5,o6,o7,o8,o9]) (fun M hM=> ?_) ?_
    . contradiction
      refine⟨.of_left (Ut (by decide)),Ph hS (s1.trans ti.sm) (by omega) ?_⟩
      try contradiction
      exact hM _ _ ⟨rfl,_,rfl⟩
    rintro _ H3 ⟨e3,c,rfl⟩
    rw [e3]
    clear e3 H3
    refine Bj (fun σ' H''=>H''=H'/\∃d:Int,1<=d/\d<=10000/\σ'=[some (.ref a),some (.ref m),some (.ref f),some (.int (0+(i:Nat))),some (.int c),some (.int d),o6,o7,o8,o9]) (fun M hM=> ?_) ?_
    . contradiction
      have e4:(10:Int)^Int.toNat 4=10000:=by decide
      rw [e4]
      exact⟨⟨by decide,by decide⟩,⟨by decide,by decide,by decide⟩,by decide,hM _ _ ⟨rfl,_,by omega,by omega,rfl⟩⟩
    rintro _ H3 ⟨e3,d,d1,d2,rfl⟩
    rw [e3]
    clear e3 H3
    refine Bj (fun σ' H''=>H''=H'/\∃(d:Int) (o8 o9:Option V),1<=d/\d<=10000/\σ'=[some (.ref a),some (.ref m),some (.ref f),some (.int (0+(i:Nat))),some (.int c),some (.int d),o6,o7,o8,o9]) (fun M hM=> ?_) ?_
    . contradiction
      refine⟨by decide,?_⟩
      split
      . have menu:∃v:Int,atI [V.int 1,.int 2,.int 3,.int 2,.int 6,.int 5,.int 1,.int 30,.int 9999,.int 9998] (c/2%10)=some (.int v)/\1<=v/\v<=9999:=by
          have:c/2%10=0\/c/2%10=1\/c/2%10=2\/c/2%10=3\/c/2%10=4\/c/2%10=5\/c/2%10=6\/c/2%10=7\/c/2%10=8\/c/2%10=9:=by omega
          rcases this with h | h | h | h | h | h | h | h | h | h<;>rw [h]<;>exact⟨_,rfl,by decide,by decide⟩
        obtain⟨v,ev,v1,v2⟩:=menu
        refine⟨⟨by decide,by decide⟩,by decide,Ua (.of (ti.sm _ _ g1)) ev ?_⟩
        try contradiction
        generalize hb:1+c/20%100=b
        have b1:1<=b/\b<=100:=by omega
        have e4:(10:Int)^Int.toNat 4=10000:=by decide
        rw [e4]
        have bk:∀y:Int,IntMulOk y b:=fun y=> .of_right (Ut (by omega))
        refine⟨⟨by decide,by decide⟩,by decide,bk _,bk _,⟨by decide,by decide,by decide⟩,?_⟩
        have p1:1<=v*b*b:=by
          have h1:1*1<=v*b:=Int.mul_le_mul v1 b1.1 (by decide) (by omega)
          have h2:1*1<=v*b*b:=Int.mul_le_mul (by omega) b1.1 (by decide) (by omega)
          omega
        split
        . exact⟨bk _,bk _,hM _ _ ⟨rfl,_,_,_,p1,by assumption,rfl⟩⟩
        . exact hM _ _ ⟨rfl,_,_,_,v1,by omega,rfl⟩
      . exact hM _ _ ⟨rfl,_,_,_,d1,d2,rfl⟩
    clear d1 d2
    rintro _ H3 ⟨e3,d,o8,o9,d1,d2,rfl⟩
    rw [e3]
    clear e3 H3
    refine Bj (fun σ' H''=>H''=H'/\∃x:Int,σ'=[some (.ref a),some (.ref m),some (.ref f),some (.int (0+(i:Nat))),some (.int c),some (.int d),some (.int x),o7,o8,o9]) (fun M hM=> ?_) ?_
    . contradiction
      refine⟨.of_left (Ut (by decide)),Ph hS (s1.trans ti.sm) (by omega) ?_⟩
      try contradiction
      exact hM _ _ ⟨rfl,_,rfl⟩
    rintro _ H3 ⟨e3,x,rfl⟩
    rw [e3]
    clear e3 H3
    refine Bj (fun σ' H''=>Same H' H''/\∃y:Int,3<=y/\y<=100000000000000000000/\σ'=[some (.ref a),some (.ref m),some (.ref f),some (.int (0+(i:Nat))),some (.int c),some (.int d),some (.int x),some (.int y),o8,o9]) (fun M hM=> ?_) ?_
    . contradiction
      have e20:(10:Int)^Int.toNat 20=100000000000000000000:=by decide
      rw [e20]
      refine⟨⟨by decide,by decide,by decide⟩,by decide,fun p hp=>⟨by decide,?_⟩⟩
      have menu:∃v:Int,atI [V.int 3,.int 100,.int 100000000000000000000] (x%3)=some (.int v)/\3<=v/\v<=100000000000000000000:=by
        have:x%3=0\/x%3=1\/x%3=2:=by omega
        rcases this with h | h | h<;>rw [h]<;>exact⟨_,rfl,by decide,by decide⟩
      obtain⟨v,ev,v1,v2⟩:=menu
      refine Ua (.of Ag) ev ?_
      exact hM _ _ ⟨Same.upd hp _,v,v1,v2,rfl⟩
    rintro _ H3 ⟨s3,y,y1,y2,rfl⟩
    have g3:=s3 _ _ ti.it
    contradiction
    have e9:(10:Int)^Int.toNat 9=1000000000:=by decide
    rw [e9]
    refine⟨.inl ⟨rfl,_,.of g3⟩,⟨by decide,by decide⟩,.of_left (Ut (by decide)),by omega,⟨by decide,by decide⟩,⟨by decide,by decide,by decide⟩,by decide,fun p hp=>⟨by decide,?_⟩⟩
    have s4:=Same.upd hp (.lst [V.int 2,V.int 9,V.int 1000000000])
    have menu:∃v:Int,atI [V.int 2,.int 9,.int 1000000000] (x%3)=some (.int v)/\2<=v/\v<=1000000000:=by
      have:x%3=0\/x%3=1\/x%3=2:=by omega
      rcases this with h | h | h<;>rw [h]<;>exact⟨_,rfl,by decide,by decide⟩
    obtain⟨v,ev,v1,v2⟩:=menu
    refine Ua (.of Ag) ev ?_
    try contradiction
    generalize upd H3 p (.lst [V.int 2,V.int 9,V.int 1000000000])=H4 at s4
    have q0:=Int.emod_nonneg (x/7) (show v≠0 by omega)
    have q1:=Int.emod_lt_of_pos (x/7) (show 0<v by omega)
    have t0:=Int.emod_nonneg (x/3) (show 2*y+1≠0 by omega)
    have t1:=Int.emod_lt_of_pos (x/3) (show 0<2*y+1 by omega)
    generalize x/7%v=r at q0 q1
    generalize x/3%(2*y+1)=u at t0 t1
    have zb:Sz 68 (1+r):=by unfold Sz;omega
    have zt:Sz 68 (u-y):=by unfold Sz;omega
    refine⟨by omega,_,_,rfl,by omega,zb.mono (by decide),fun z H5 s5 iz p6 n6=> ?_⟩
    have s6:=Same.upd n6 (.tup [V.int d,z])
    have g6:upd H5 p6 (.tup [V.int d,z]) p6=some (.tup [V.int d,z]):=Ag
    generalize upd H5 p6 (.tup [V.int d,z])=H6 at s6 g6
    have s36:=(s4.trans s5).trans s6
    have g36:=s36 _ _ g3
    have l6:=ti.le
    refine⟨f,_,_,rfl,rfl,g36,by rw [List.length_map,l6];exact Nat.lt_of_lt_of_le (show i<7 by omega) (by decide),es++ [(.ref p6,(d,Rat.divInt (u-y) (1+r)))],_,_,_,_,_,_,_,rfl,((ti.sm.trans s3).trans s36).put nf,?_,?_,?_,?_⟩
    . rw [Ag,List.map_append]
      rfl
    . intro e he
      rcases List.mem_append.mp he with he | he
      . exact((ti.al e he).mono (s3.trans s36)).putL g36
      . have ee:e=(.ref p6,(d,Rat.divInt (u-y) (1+r))):=by simpa using he
        rw [ee]
        exact Rt.putL (ys:=es.map (·.1)) ⟨p6,z,rfl,.of g6,iz.mono s6,Szq.of zt zb (by omega)⟩ g36
    . intro e he
      rcases List.mem_append.mp he with he | he
      . exact ti.ky e he
      . have ee:e=(.ref p6,(d,Rat.divInt (u-y) (1+r))):=by simpa using he
        rw [ee]
        exact⟨d1,d2⟩
    . rw [List.length_append,l6]
      rfl
  . rintro σ' H' ⟨es,o3,o4,o5,o6,o7,o8,o9,rfl,ti⟩
    contradiction
    exact k _ _ es (s1.trans ti.sm) ti.it ti.al ti.ky (by rw [ti.le];omega)
def Py (K:PySem.W.Frag):Sp:=fun vs H Q _=>∃(l:Addr) (es:List (V × (Int × Rat))),vs=[.ref l]/\SqL K H l (es.map (·.1))/\(∀e∈es,Rt 68 K H e.1 e.2)/\(∀e∈es,1<=e.2.1/\e.2.1<=10000)/\es.length<=6/\∀(z:Addr) (H':Hp) (fs:List (V × (Int × Rat))),Same H H'->H' z=some (.lst (fs.map (·.1)))->(∀e∈fs,Rt 457 K H' e.1 e.2)->fs.length<=8->NF (es.map fun e=>red e.2) (fs.map (·.2))->Q (.ref z) H'
structure DuI (K:PySem.W.Frag) (H H':Hp) (t:Addr) (kvs:List (Key × V)) (ks:List Int) (ts:List (Int × Rat)):Prop where
  sm:Same H H'
  dc:DcI K H' t kvs ks ts
  sz:∀e∈ts,Szq 75 e.2
theorem DuI.tot {H H':Hp}{t:Addr}{kvs:List (Key × V)}{ks:List Int}{ts:List (Int × Rat)} (h:DuI K H H' t kvs ks ts) (l6:ts.length<=6) (i:Int):Szq 457 (tot ts i):=(O2 (by decide) i h.sz).mono (by
  have:(75+1)*ts.length<=(75+1)*6:=Nat.mul_le_mul_left _ l6
  omega)
theorem Ve {f:Addr}{fd:FuncData} (F:Df K mg "_law_due" Kw ["_law_terms_here"] f fd) (z_sorted:mg "sorted"=none)  (c_q_square_out:Cal P w K mg base 1 "_law_square_out" ["_law_d"] (Dz K)) (c_plus:Cal P w K mg base 3 "plus" ["one","other"] (Ox K)) (c_times:Cal P w K mg base 3 "times" ["one","other"] (K8 K)):Cal P w K mg base 4 "_law_due" ["_law_terms_here"] (Py K):=by
  refine F.cal (F.fn.ok Ez (fun vs H Q E h=> ?_) (fun cdv A outer s H vs Q E hr h=> ?_))
  . obtain⟨l,es,rfl,_⟩:=h
    rfl
  obtain⟨l,es,rfl,hl,he,hd,h6,k⟩:=h
  refine S.Bq ⟨_,(S.Ad (S.Aj (i:=1) Ez.nd rfl (Or.inr rfl) S.Kq)
      (S.Ad (S.Ft PassesOwn.never rfl (S.Dp (S.pv 0)) (S.El rfl (S.Ar (S.Am (i:=2) Ez.nd rfl (Or.inl rfl)) (S.Ar (S.Am (i:=3) Ez.nd rfl (Or.inl rfl)) S.Cz))) (S.Ad (S.Hf (S.Bf c_q_square_out (hr.mono (by decide)) (S.Aa (S.pv 2) S.Ac)) (S.El rfl (S.Ar (S.Am (i:=4) Ez.nd rfl (Or.inl rfl)) (S.Ar (S.Am (i:=5) Ez.nd rfl (Or.inl rfl)) S.Cz))))
      (S.Ae (S.K9 (hu1 hr.units) (S.pv 1) (S.pv 5) (S.Bf c_plus (hr.mono (by decide)) (S.Aa (S.Iz (hu1 hr.units) (S.pv 1) (S.pv 5) (S.Af (S.Aa S.Ab (S.Aa S.Ab S.Ac))) ⟨rfl,rfl,rfl,rfl⟩) (S.Aa (S.Bf c_times (hr.mono (by decide)) (S.Aa (S.pv 3) (S.Aa (S.Af (S.Aa (S.pv 4) (S.Aa S.Ab S.Ac))) S.Ac))) S.Ac))) rfl))))
      (S.Ae (S.Ao (S.Dh (ts:=["_law_m"]) (fs:=[(1,"_law_found")]) rfl (Bg.of (sc:=Ah Kw) (N:=["_law_terms_here","_law_found","_law_d","_law_c","_law_by","_law_m"]) rfl rfl (by decide+kernel)) (S.Dp (S.Br (J2 rfl) rfl z_sorted PyProof.Rows.boot_sorted (S.Aa (S.pv 1) S.Ac))) (fun _ _ _=>(S.Am (i:=0) (show List.Nodup (["_law_m","_law_found"]:List Str)by decide+kernel) rfl (Or.inl rfl))) (fun _ _ _=>(S.G3 (S.Ak Tr (S.Bv (Jg K) (S.Gx (hu1 hr.units) (S.pv 1) (S.pv 0) (fun _ _=>rfl)) S.Ab (fun _ _=>rfl)) S.Ab (Al _)))) (fun _ _ _=>(S.Af (S.Aa (S.pv 0) (S.Aa (S.Gx (hu1 hr.units) (S.pv 1) (S.pv 0) (fun _ _=>rfl)) S.Ac))))))))),?_⟩
  contradiction
  intro t nt
  have s1:=Same.upd nt (.dK [])
  have g1:upd H t (.dK []) t=some (.dK []):=Ag
  generalize upd H t (.dK [])=H1 at s1 g1
  have d0:DcI K H1 t [] [] []:=⟨g1,rfl,List.nodup_nil,Nat.le_refl _,by simp,by simp [Dl]⟩
  refine⟨⟨_,s1.seq hl⟩,Qt (es:=es) (inj:=(·.1)) (fun pre σ' H'=>∃(kvs:List (Key × V)) (ks:List Int) (o2 o3 o4 o5:Option V),σ'=[some (.ref l),some (.ref t),o2,o3,o4,o5]/\DuI K H H' t kvs ks (pre.map fun e=>red e.2)) ⟨[],[],_,_,_,_,rfl,s1,d0,by simp⟩ ?_ ?_ ?_⟩
  . rintro pre σ' H' ⟨_,_,_,_,_,_,_,du⟩
    exact Gm (du.sm.seq hl)
  . rintro pre e post σ' H' hE ⟨kvs,ks,o2,o3,o4,o5,rfl,du⟩
    have em:e∈es:=by rw [hE];simp
    obtain⟨b,x,eb,hb,hx,zx⟩:=(he e em).mono du.sm
    obtain⟨d1,d2⟩:=hd e em
    have pl:pre.length<es.length:=by rw [hE];simp
    rw [eb]
    refine Dy hb ?_
    contradiction
    refine⟨e.2.1,rfl,d1,d2,fun s0 m0 z2 H2 sq s2 h2=> ?_⟩
    refine Dy h2 ?_
    have du2:DcI K H2 t kvs ks (pre.map fun e=>red e.2):=du.dc.mono s2
    contradiction
    refine⟨.inl ⟨kvs,.inl du2.it⟩,fun p3 n3=> ?_⟩
    have s3:=Same.upd n3 (.tup [V.int 0,V.int 1])
    have g3:upd H2 p3 (.tup [V.int 0,V.int 1]) p3=some (.tup [V.int 0,V.int 1]):=Ag
    generalize upd H2 p3 (.tup [V.int 0,V.int 1])=H3 at s3 g3
    have du3:=du2.mono s3
    refine⟨_,Xm du3.it,fun p4 n4=> ?_⟩
    have s4:=Same.upd n4 (.tup [V.int (s0:Nat),V.int 1])
    have g4:upd H3 p4 (.tup [V.int (s0:Nat),V.int 1]) p4=some (.tup [V.int (s0:Nat),V.int 1]):=Ag
    generalize upd H3 p4 (.tup [V.int (s0:Nat),V.int 1])=H4 at s4 g4
    have du4:=du3.mono s4
    have s2le:((s0*s0:Nat):Int)<=e.2.1:=by
      rw [<-sq.eq]
      have:s0*s0*1<=s0*s0*m0:=Nat.mul_le_mul_left _ sq.m0
      omega
    have sw:s0<2^7:=Tj s2le (by omega)
    have zs:Szq 7 ((s0:Nat):Rat):=⟨by
      show Sz 7 ((s0:Nat):Int)
      unfold Sz
      omega,by
      show Sz 7 ((1:Nat):Int)
      unfold Sz
      decide⟩
    refine⟨_,_,e.2.2,((s0:Nat):Rat),rfl,((hx.mono s2).mono s3).mono s4,⟨p4,rfl,.of g4⟩,zx.mono (by decide),zs.mono (by decide),fun z5 H5 s5 i5=> ?_⟩
    have du5:=du4.mono s5
    have er:red e.2=((m0:Int),e.2.2*((s0:Nat):Rat)):=sq.red
    have iq:IsQ K H5 ((Dl kvs (.inl (m0:Int))).getD (.ref p3)) (tot (pre.map fun e=>red e.2) (m0:Int)):=by
      cases e0:Dl kvs (.inl (m0:Int))with
      | none=>
        rw [(du5.hasNo e0).1]
        exact⟨p3,rfl,.of ((s4.trans s5) _ _ g3)⟩
      | some w=>exact du5.vl _ w e0
    have zt:=du.tot (by rw [List.length_map];omega) (m0:Int)
    refine⟨_,_,_,_,rfl,iq,i5,zt.mono (by decide),(zx.mul zs).mono (by decide),fun z6 H6 s6 i6=> ?_⟩
    have du6:=du5.mono s6
    obtain⟨ks',du7⟩:=du6.put (c:=e.2.2*((s0:Nat):Rat)) i6
    refine⟨t,_,rfl,Yv du6.it ?_,?_⟩
    . have e1:=congrArg List.length du6.ky
      rw [List.length_map,List.length_map]at e1
      have:=du6.le
      rw [List.length_map]at this
      rw [e1]
      exact Nat.lt_of_le_of_lt (show ks.length<=8 by omega) (by decide)
    . refine⟨putK kvs (.inl (m0:Int)) z6,ks',_,_,_,_,rfl,(du.sm.trans ((((s2.trans s3).trans s4).trans s5).trans s6)).put nt,?_,?_⟩
      . rw [List.map_append]
        show DcI K _ t _ ks' ((pre.map fun e=>red e.2)++ [red e.2])
        rw [er]
        exact du7
      . intro y hy
        rw [List.map_append]at hy
        rcases List.mem_append.mp hy with hy | hy
        . exact du.sz y hy
        . have ey:y=red e.2:=by simpa using hy
          rw [ey,er]
          exact zx.mul zs
  . rintro σ' H2 ⟨kvs,ks,o2,o3,o4,o5,rfl,du⟩
    have di:=du.dc
    contradiction
    obtain⟨ts,ets⟩:∃ts,ts=es.map fun e=>red e.2:=⟨_,rfl⟩
    have tl:ts.length<=6:=by rw [ets,List.length_map];exact h6
    rw [<-ets]at du di k
    have zall:=du.tot tl
    have sm:=du.sm
    clear ets du
    have l8:ks.length<=8:=by
      have:=di.le
      omega
    refine⟨t,kvs,ks,rfl,di.it,di.ky,by omega,fun l3 ms n3 pm up=> ?_⟩
    have s3:=Same.upd n3 (.lst (ms.map V.int))
    have g3:upd H2 l3 (.lst (ms.map V.int)) l3=some (.lst (ms.map V.int)):=Ag
    generalize upd H2 l3 (.lst (ms.map V.int))=H3 at s3 g3
    have di3:=di.mono s3
    have nf:=NF.make (ts:=ts) di.nd di.mem pm up
    have ml:ms.length<=8:=by rw [pm.length_eq];exact l8
    refine⟨⟨_,.of g3⟩,fun p4 n4=>Jk (es:=ms) (inj:=V.int) (fun i=>decide (tot ts i≠0)) (fun i v H'=>Rt 457 K H' v (i,tot ts i)) (fun _ _ _ _ h s=>h.mono s) (fun _ _ _ _ _ h hp=>h.putL hp) (Nat.le_trans ml (by decide)) n4 (Kv (.of g3)) ?_ ?_⟩
    . intro i H4 R RF hi s4 hR hF
      obtain⟨v,hv,iv⟩:=(di3.mono s4).has (pm.mem_iff.mp hi)
      obtain⟨b,rfl,hb⟩:=id iv
      contradiction
      refine⟨t,_,rfl,Ul (di3.mono s4).it hv,Dj hb (at0 _ _) ?_⟩
      try contradiction
      by_cases h0:tot ts i=0
      . have e0:(tot ts i).num=0:=by rw [h0];rfl
        rw [if_pos e0]
        exact hF (by simp [h0]) _ (Same.refl _)
      . have e0:¬(tot ts i).num=0:=fun z=>h0 (Rat.num_eq_zero.mp z)
        rw [if_neg e0]
        refine⟨t,_,rfl,Ul (di3.mono s4).it hv,fun p6 n6=> ?_⟩
        have s6:=Same.upd n6 (.tup [V.int i,.ref b])
        exact hR (by simp [h0]) _ _ s6 ⟨p6,_,rfl,.of Ag,iv.mono s6,zall i⟩
    intro H4 vs s4 h4 e4 r4
    have s24:=(sm.trans s3).trans s4
    refine k p4 H4 (vs.map fun x=>(x.1,((x.2,tot ts x.2):Int × Rat))) s24 ?_ ?_ ?_ ?_
    . rw [List.map_map]
      exact h4
    . intro e hm
      obtain⟨x,hx,rfl⟩:=List.mem_map.mp hm
      exact r4 x hx
    . have h1:=congrArg List.length e4
      rw [List.length_map]at h1
      have h2:=List.length_filter_le (fun i=>decide (tot ts i≠0)) ms
      rw [List.length_map]
      omega
    . have f2:(vs.map fun x=>(x.1,((x.2,tot ts x.2):Int × Rat))).map (·.2)=(ms.filter fun i=>decide (tot ts i≠0)).map fun i=>(i,tot ts i):=by
        rw [<-e4,List.map_map,List.map_map]
        rfl
      rw [f2]
      exact nf
def G9 (K:PySem.W.Frag):Sp:=fun vs H Q _=>∃(l:Addr) (es:List (V × (Int × Rat))) (R:List (Int × Rat)),vs=[.ref l]/\SqL K H l (es.map (·.1))/\(∀e∈es,Rt 68 K H e.1 e.2)/\(∀e∈es,1<=e.2.1/\e.2.1<=10000)/\es.length<=6/\NF (es.map fun e=>red e.2) R/\3<big R/\∀H',Same H H'->Q (.bl true) H'
theorem Mg {f:Addr}{fd:FuncData} (F:Df K mg "_law_refused" Fz ["_law_terms_here"] f fd) (z_isinstance:mg "isinstance"=none) (xk_TooGreat:Q0 K (cA K "TooGreat")) (xm_TooGreat:mg "TooGreat"=some (.ref (cA K "TooGreat"))) (xi_TooGreat:Rv K (cA K "TooGreat")) (xm_CourtError:mg "CourtError"=some (.ref (cA K "CourtError"))) (ki_TooGreat_CourtError:PySem.W.kitOne K (.ref (cA K "TooGreat")) (.ref (cA K "CourtError"))=some true) (xm_NoPart:mg "NoPart"=some (.ref (cA K "NoPart"))) (ki_TooGreat_NoPart:PySem.W.kitOne K (.ref (cA K "TooGreat")) (.ref (cA K "NoPart"))=some false) (xm_NoInverse:mg "NoInverse"=some (.ref (cA K "NoInverse"))) (ki_TooGreat_NoInverse:PySem.W.kitOne K (.ref (cA K "TooGreat")) (.ref (cA K "NoInverse"))=some false) (ce_root_sum:Qv P w K mg base 5 "root_sum" ["terms"] (Es K)):Cal P w K mg base 6 "_law_refused" ["_law_terms_here"] (G9 K):=by
  refine F.cal (F.fn.ok Cu (fun vs H Q E h=> ?_) (fun cdv A outer s H vs Q E hr h=> ?_))
  . obtain⟨l,es,R,rfl,_⟩:=h
    rfl
  obtain⟨l,es,R,rfl,hl,he,hd,h6,nf,hb,k⟩:=h
  refine S.Bq ⟨_,(S.Ad (S.Aj (i:=1) Cu.nd rfl (Or.inl rfl) S.Gg)
      (S.Ad (S.Bk (i:=2) ce_root_sum (hr.mono (by decide)) (S.Aa (S.pv 0) S.Ac) S.Gi xk_TooGreat xm_TooGreat (fun x oe hc=>(S.Ae (S.Aj (i:=1) Cu.nd rfl (Or.inl rfl) (S.Dv (S.Br (Jd (List.mem_cons_self ..) hc xi_TooGreat) rfl z_isinstance PyProof.Rows.boot_isinstance (S.Aa (S.pv 2) (S.Aa (S.Ga (v:= .ref (cA K "CourtError")) rfl xm_CourtError rfl) S.Ac))) (S.Dv (S.Li (S.Br (Jd (List.mem_cons_self ..) hc xi_TooGreat) rfl z_isinstance PyProof.Rows.boot_isinstance (S.Aa (S.pv 2) (S.Aa (S.Ga (v:= .ref (cA K "NoPart")) rfl xm_NoPart rfl) S.Ac)))) (S.Ip (S.Li (S.Br (Jd (List.mem_cons_self ..) hc xi_TooGreat) rfl z_isinstance PyProof.Rows.boot_isinstance (S.Aa (S.pv 2) (S.Aa (S.Ga (v:= .ref (cA K "NoInverse")) rfl xm_NoInverse rfl) S.Ac)))))))))) Cu.nd rfl)
      (S.Ae (S.Ao (S.pv 1))))),?_⟩
  contradiction
  refine⟨l,es,68,7,rfl,hl,he,fun e hm=> ?_,by omega,by decide,?_,fun R' nf' hb' H1 s1=>⟨rfl,fun x oe hc=>⟨true,.inl ⟨_,rfl,ki_TooGreat_CourtError⟩,?_⟩⟩,fun R' nf' hb'=> ?_⟩
  . have:=hd e hm
    exact⟨this.1,by omega,by omega⟩
  . unfold Jx
    rw [List.length_map]
    have:(68+7+1)*es.length<=(68+7+1)*6:=Nat.mul_le_mul_left _ h6
    omega
  . rw [if_pos rfl]
    refine⟨false,.inl ⟨_,rfl,ki_TooGreat_NoPart⟩,?_⟩
    rw [if_pos rfl]
    exact⟨false,.inl ⟨_,rfl,ki_TooGreat_NoInverse⟩,k _ s1⟩
  . have:=nf.uniq nf' fun _=>rfl
    rw [this]at hb
    omega
inductive Wh (K:PySem.W.Frag) (H:Hp):V->Bool->Prop where
  | int (i:Int):Wh K H (.int i) true
  | bl (b:Bool):Wh K H (.bl b) false
  | non:Wh K H .non false
  | str (x:Str):Wh K H (.str x) false
  | tup {a:Addr}{xs:List V} (e:H a=some (.tup xs)):Wh K H (.ref a) false
  | lst {a:Addr}{xs:List V} (e:H a=some (.lst xs)):Wh K H (.ref a) false
def Aal (K:PySem.W.Frag):Sp:=fun vs H Q _=>∃v b,vs=[v]/\Wh K H v b/\Q (.bl b) H
theorem isi {H:Hp}{GB:Bool->Prop}{v:V}{t:Value}{T:String}{b:Bool} (ht:Nq K H v t) (hk:PySem.W.kitOne K t (.type T)=some b) (q:GB b):
    ∃x t' T' b',[v,V.ty T]=[x,V.ty T']/\Nq K H x t'/\PySem.W.kitOne K t' (.type T')=some b'/\GB b':=⟨v,t,T,b,rfl,ht,hk,q⟩
theorem Qe {T U:String}{b:Bool} (h:(if(Value.type T==Value.type U)=true then some true else if PySem.W.kitMeta U=true then PySem.W.subIn [] (.type T) (.type U)else none)=some b):PySem.W.kitOne K (.type T) (.type U)=some b:=h
theorem X4:PySem.W.kitOne K (.type "int") (.type "int")=some true:=Qe (by decide+kernel)
theorem Xo:PySem.W.kitOne K (.type "int") (.type "bool")=some false:=Qe (by decide+kernel)
theorem Yz:PySem.W.kitOne K (.type "bool") (.type "int")=some true:=Qe (by decide+kernel)
theorem Xu:PySem.W.kitOne K (.type "bool") (.type "bool")=some true:=Qe (by decide+kernel)
theorem Yi:PySem.W.kitOne K (.type "NoneType") (.type "int")=some false:=Qe (by decide+kernel)
theorem Yn:PySem.W.kitOne K (.type "str") (.type "int")=some false:=Qe (by decide+kernel)
theorem Xr:PySem.W.kitOne K (.type "tuple") (.type "int")=some false:=Qe (by decide+kernel)
theorem X5:PySem.W.kitOne K (.type "list") (.type "int")=some false:=Qe (by decide+kernel)
def Gd (K:PySem.W.Frag):Sp:=Aal K
theorem Oe {f:Addr}{fd:FuncData} (F:Df K mg "is_whole" Gw ["thing"] f fd) (z_isinstance:mg "isinstance"=none) (z_int:mg "int"=none) (z_bool:mg "bool"=none)   :Cal P w K mg base 1 "is_whole" ["thing"] (Gd K):=by
  refine F.cal (F.fn.ok Nt (fun vs H Q E h=> ?_) (fun cdv A outer s H vs Q E hr h=> ?_))
  . obtain⟨v,b,rfl,_⟩:=h
    rfl
  obtain⟨v,b,rfl,hv,q⟩:=h
  refine S.Bq ⟨_,(S.Ae (S.Ao (S.Dv (S.Br K7 rfl z_isinstance PyProof.Rows.boot_isinstance (S.Aa (S.pv 0) (S.Aa (S.Dg (v:= .ty "int") rfl z_int PyProof.Rows.boot_int rfl) S.Ac))) (S.Ip (S.Li (S.Br K7 rfl z_isinstance PyProof.Rows.boot_isinstance (S.Aa (S.pv 0) (S.Aa (S.Dg (v:= .ty "bool") rfl z_bool PyProof.Rows.boot_bool rfl) S.Ac)))))))),?_⟩
  contradiction
  cases hv with
  | int i=>
    refine isi (.int i) X4 ?_
    contradiction
    refine isi (.int i) Xo ?_
    contradiction
    exact q
  | bl b=>
    refine isi (.bl b) Yz ?_
    contradiction
    refine isi (.bl b) Xu ?_
    contradiction
    exact q
  | non=>
    refine isi .non Yi ?_
    contradiction
    exact q
  | str x=>
    refine isi (.str x) Yn ?_
    contradiction
    exact q
  | tup e=>
    refine isi (.tup e) Xr ?_
    contradiction
    exact q
  | lst e=>
    refine isi (.lst e) X5 ?_
    contradiction
    exact q
theorem Wh.mono {H H':Hp}{v:V}{b:Bool} (h:Wh K H v b) (s:Same H H'):Wh K H' v b:=by
  cases h with
  | int i=>exact .int i
  | bl b=>exact .bl b
  | non=>exact .non
  | str x=>exact .str x
  | tup e=>exact .tup (s _ _ e)
  | lst e=>exact .lst (s _ _ e)
theorem Sw:PySem.W.kitOne K (.type "int") (.type "tuple")=some false:=Qe (by decide+kernel)
theorem Vx:PySem.W.kitOne K (.type "NoneType") (.type "tuple")=some false:=Qe (by decide+kernel)
theorem Xl:PySem.W.kitOne K (.type "str") (.type "tuple")=some false:=Qe (by decide+kernel)
theorem Vl:PySem.W.kitOne K (.type "list") (.type "tuple")=some false:=Qe (by decide+kernel)
theorem Ek:PySem.W.kitOne K (.type "tuple") (.type "tuple")=some true:=Qe (by decide+kernel)
inductive TyA (K:PySem.W.Frag) (H:Hp):V->Value->Prop where
  | of {v:V}{t:Value} (h:Nq K H v t):TyA K H v t
  | tup {a:Addr}{xs:List V} (h:SqT K H a xs):TyA K H (.ref a) (.type "tuple")
theorem Iw {X:Cx}:Fj X (.builtin "isinstance") (fun xs H Q=>∃x t T b,xs=[x,.ty T]/\TyA X.K H x t/\PySem.W.kitOne X.K t (.type T)=some b/\Q (.bl b) H):=by
  intro pins s σ H xs us Q I r h
  obtain⟨x,t,T,b,rfl,ht,hk,q⟩:=h
  cases ht with
  | of ht=>exact K7 pins s σ H _ us Q I r ⟨x,t,T,b,rfl,ht,hk,q⟩
  | tup hs=>exact T5 pins s σ H _ us Q I r ⟨_,_,T,b,rfl,hs,hk,q⟩
theorem isa {H:Hp}{GB:Bool->Prop}{v:V}{t:Value}{T:String}{b:Bool} (ht:TyA K H v t) (hk:PySem.W.kitOne K t (.type T)=some b) (q:GB b):
    ∃x t' T' b',[v,V.ty T]=[x,V.ty T']/\TyA K H x t'/\PySem.W.kitOne K t' (.type T')=some b'/\GB b':=⟨v,t,T,b,rfl,ht,hk,q⟩
def low (t b:Int):Bool:=decide (0<b)&&decide (((Int.gcd t b:Nat):Int)=1)
inductive Tf (K:PySem.W.Frag) (H:Hp):V->Bool->Prop where
  | two {a:Addr}{t b:Int} (h:SqT K H a [.int t,.int b]):Tf K H (.ref a) (low t b)
  | bad {a:Addr}{u v:V}{bu bv:Bool} (h:SqT K H a [u,v]) (hu:Wh K H u bu) (hv:Wh K H v bv) (hb:bu=false\/bv=false):Tf K H (.ref a) false
  | long {a:Addr}{xs:List V} (h:SqT K H a xs) (hl:xs.length≠2):Tf K H (.ref a) false
  | int (i:Int):Tf K H (.int i) false
  | non:Tf K H .non false
  | str (x:Str):Tf K H (.str x) false
  | lst {a:Addr}{xs:List V} (e:H a=some (.lst xs)):Tf K H (.ref a) false
def Aar (K:PySem.W.Frag):Sp:=fun vs H Q _=>∃v b,vs=[v]/\Tf K H v b/\Q (.bl b) H
def Fl (K:PySem.W.Frag):Sp:=Aar K
theorem Tf.mono {H H':Hp}{v:V}{b:Bool} (h:Tf K H v b) (s:Same H H'):Tf K H' v b:=by
  cases h with
  | two h=>exact .two (s.tup h)
  | bad h hu hv hb=>exact .bad (s.tup h) (hu.mono s) (hv.mono s) hb
  | long h hl=>exact .long (s.tup h) hl
  | int i=>exact .int i
  | non=>exact .non
  | str x=>exact .str x
  | lst e=>exact .lst (s _ _ e)
theorem Jw {f:Addr}{fd:FuncData} (F:Df K mg "is_fraction" Dr ["thing"] f fd) (z_isinstance:mg "isinstance"=none) (z_tuple:mg "tuple"=none) (z_len:mg "len"=none)  (c_is_whole:Cal P w K mg base 1 "is_whole" ["thing"] (Gd K)) (c_divisor:Cal P w K mg base 1 "divisor" ["one","other"] (Gq K)):Cal P w K mg base 2 "is_fraction" ["thing"] (Fl K):=by
  refine F.cal (F.fn.ok Di (fun vs H Q E h=> ?_) (fun cdv A outer s H vs Q E hr h=> ?_))
  . obtain⟨v,b,rfl,_⟩:=h
    rfl
  obtain⟨v,b,rfl,hv,k⟩:=h
  refine S.Bq ⟨_,(S.Ad (S.Dd (S.Oj (S.Jo (S.Fq (S.En (S.Br Iw rfl z_isinstance PyProof.Rows.boot_isinstance (S.Aa (S.pv 0) (S.Aa (S.Dg (v:= .ty "tuple") rfl z_tuple PyProof.Rows.boot_tuple rfl) S.Ac))))) (S.Ik (S.Ak Tr (S.Br Bm rfl z_len PySem.boot_len (S.Aa (S.pv 0) S.Ac)) S.Ab (Al _))))) (S.Ae (S.Ao S.Gg)) S.Az)
      (S.Ad (S.Hf (S.pv 0) (S.El rfl (S.Ar (S.Am (i:=1) Di.nd rfl (Or.inl rfl)) (S.Ar (S.Am (i:=2) Di.nd rfl (Or.inl rfl)) S.Cz))))
      (S.Ad (S.Dd (S.Oj (S.Jo (S.Fq (S.En (S.Bf c_is_whole (hr.mono (by decide)) (S.Aa (S.pv 1) S.Ac)))) (S.Ik (S.Fq (S.En (S.Bf c_is_whole (hr.mono (by decide)) (S.Aa (S.pv 2) S.Ac))))))) (S.Ae (S.Ao S.Gg)) S.Az)
      (S.Ae (S.Ao (S.Dv (S.Bx Yt (S.pv 2) S.Ab (Al _)) (S.Ip (S.Bx Ko (S.Bf c_divisor (hr.mono (by decide)) (S.Aa (S.pv 1) (S.Aa (S.pv 2) S.Ac))) S.Ab (Al _))))))))),?_⟩
  contradiction
  cases hv with
  | two h=>
    rename_i t b
    refine isa (.tup h) Ek ?_
    contradiction
    refine⟨_,_,rfl,.inr h,?_⟩
    contradiction
    refine Dy h ?_
    contradiction
    refine⟨_,_,rfl,.int _,?_⟩
    contradiction
    refine⟨_,_,rfl,.int _,?_⟩
    contradiction
    split
    . rename_i h1
      refine⟨_,_,rfl,?_⟩
      contradiction
      unfold low at k
      rw [decide_eq_true (show 0<b by omega),Bool.true_and]at k
      exact k
    . rename_i h1
      unfold low at k
      rw [decide_eq_false (show ¬0<b by omega),Bool.false_and]at k
      exact k
  | bad h hu hv hb=>
    rename_i a u v bu bv
    refine isa (.tup h) Ek ?_
    contradiction
    refine⟨_,_,rfl,.inr h,?_⟩
    contradiction
    refine Dy h ?_
    contradiction
    refine⟨_,_,rfl,hu,?_⟩
    try contradiction
    cases bu with
    | false=>
      try contradiction
      exact k
    | true=>
      try contradiction
      refine⟨_,_,rfl,hv,?_⟩
      rcases hb with hb | hb
      . cases hb
      . subst hb
        try contradiction
        exact k
  | long h hl=>
    rename_i a xs
    refine isa (.tup h) Ek ?_
    contradiction
    refine⟨_,_,rfl,.inr h,?_⟩
    try contradiction
    rw [if_neg (show ¬((xs.length:Nat):Int)=2 by omega)]
    exact k
  | int i=>
    refine isa (.of (.int i)) Sw ?_
    contradiction
    exact k
  | non=>
    refine isa (.of .non) Vx ?_
    contradiction
    exact k
  | str x=>
    refine isa (.of (.str x)) Xl ?_
    contradiction
    exact k
  | lst e=>
    refine isa (.of (.lst e)) Vl ?_
    contradiction
    exact k
inductive Tr1 (K:PySem.W.Frag) (H:Hp):V->Bool->Prop where
  | frac {a c:Addr}{i t b:Int} (h:SqT K H a [.int i,.ref c]) (hc:SqT K H c [.int t,.int b]):Tr1 K H (.ref a) (decide (1<=i)&&(decide (i<=1000000000000)&&(low t b&&decide (t≠0))))
  | notf {a:Addr}{i:Int}{c:V} (h:SqT K H a [.int i,c]) (hc:Tf K H c false):Tr1 K H (.ref a) false
  | notw {a:Addr}{d c:V} (h:SqT K H a [d,c]) (hd:Wh K H d false):Tr1 K H (.ref a) false
  | long {a:Addr}{xs:List V} (h:SqT K H a xs) (hl:xs.length≠2):Tr1 K H (.ref a) false
  | int (i:Int):Tr1 K H (.int i) false
theorem Tr1.mono {H H':Hp}{v:V}{b:Bool} (h:Tr1 K H v b) (s:Same H H'):Tr1 K H' v b:=by
  cases h with
  | frac h hc=>exact .frac (s.tup h) (s.tup hc)
  | notf h hc=>exact .notf (s.tup h) (hc.mono s)
  | notw h hd=>exact .notw (s.tup h) (hd.mono s)
  | long h hl=>exact .long (s.tup h) hl
  | int i=>exact .int i
def Dw (K:PySem.W.Frag):Sp:=fun vs H Q _=>∃v b,vs=[v]/\Tr1 K H v b/\Q (.bl b) H
theorem Jq {f:Addr}{fd:FuncData} (F:Df K mg "is_root_term" Dc ["thing"] f fd) (z_isinstance:mg "isinstance"=none) (z_tuple:mg "tuple"=none) (z_len:mg "len"=none) (xc_GREATEST:∃u,mg "GREATEST"=some u/\RelV (V.int 1000000000000) u) (c_is_whole:Cal P w K mg base 1 "is_whole" ["thing"] (Gd K)) (c_is_fraction:Cal P w K mg base 2 "is_fraction" ["thing"] (Fl K)):Cal P w K mg base 3 "is_root_term" ["thing"] (Dw K):=by
  refine F.cal (F.fn.ok Cd (fun vs H Q E h=> ?_) (fun cdv A outer s H vs Q E hr h=> ?_))
  . obtain⟨v,b,rfl,_⟩:=h
    rfl
  obtain⟨v,b,rfl,hv,k⟩:=h
  refine S.Bq ⟨_,(S.Ad (S.Dd (S.Oj (S.Jo (S.Fq (S.En (S.Br Iw rfl z_isinstance PyProof.Rows.boot_isinstance (S.Aa (S.pv 0) (S.Aa (S.Dg (v:= .ty "tuple") rfl z_tuple PyProof.Rows.boot_tuple rfl) S.Ac))))) (S.Ik (S.Ak Tr (S.Br Bm rfl z_len PySem.boot_len (S.Aa (S.pv 0) S.Ac)) S.Ab (Al _))))) (S.Ae (S.Ao S.Gg)) S.Az)
      (S.Ad (S.Hf (S.pv 0) (S.El rfl (S.Ar (S.Am (i:=1) Cd.nd rfl (Or.inl rfl)) (S.Ar (S.Am (i:=2) Cd.nd rfl (Or.inl rfl)) S.Cz))))
      (S.Ae (S.Ao (S.Dv (S.Bf c_is_whole (hr.mono (by decide)) (S.Aa (S.pv 1) S.Ac)) (S.Dv (S.Bx Yt (S.pv 1) S.Ab (Al _)) (S.Dv (S.Bx Uz (S.pv 1) (S.Cv (v:= .int 1000000000000) rfl xc_GREATEST) (Al _)) (S.Dv (S.Bf c_is_fraction (hr.mono (by decide)) (S.Aa (S.pv 2) S.Ac)) (S.Ip (S.Bx Tr (S.Bv Bw (S.pv 2) S.Ab (fun _ _=>rfl)) S.Ab (Al _))))))))))),?_⟩
  contradiction
  cases hv with
  | int i=>
    refine isa (.of (.int i)) Sw ?_
    try contradiction
    exact k
  | @long a xs h hl=>
    refine isa (.tup h) Ek ?_
    try contradiction
    refine⟨a,_,rfl,.inr h,?_⟩
    try contradiction
    rw [if_neg (show ¬((xs.length:Nat):Int)=2 by omega)]
    exact k
  | @notw a d c h hd=>
    refine isa (.tup h) Ek ?_
    try contradiction
    refine⟨a,_,rfl,.inr h,?_⟩
    try contradiction
    refine Dy h ?_
    try contradiction
    refine⟨_,false,rfl,hd,?_⟩
    try contradiction
    exact k
  | @notf a i c h hc=>
    refine isa (.tup h) Ek ?_
    try contradiction
    refine⟨a,_,rfl,.inr h,?_⟩
    try contradiction
    refine Dy h ?_
    try contradiction
    refine⟨_,true,rfl,.int i,?_⟩
    try contradiction
    split
    . split
      . refine⟨_,false,rfl,hc,?_⟩
        try contradiction
        exact k
      . exact k
    . exact k
  | @frac a c i t b h hc=>
    refine isa (.tup h) Ek ?_
    try contradiction
    refine⟨a,_,rfl,.inr h,?_⟩
    try contradiction
    refine Dy h ?_
    try contradiction
    refine⟨_,true,rfl,.int i,?_⟩
    try contradiction
    by_cases h1:1<=i
    case neg=>
      rw [if_neg h1]
      rw [decide_eq_false h1,Bool.false_and]at k
      exact k
    by_cases h2:i<=1000000000000
    case neg=>
      rw [if_pos h1,if_neg h2]
      rw [decide_eq_true h1,decide_eq_false h2]at k
      exact k
    rw [if_pos h1,if_pos h2]
    rw [decide_eq_true h1,decide_eq_true h2,Bool.true_and,Bool.true_and]at k
    refine⟨_,_,rfl,.two hc,?_⟩
    cases lo:low t b with
    | false=>
      rw [lo]at k
      try contradiction
      exact k
    | true=>
      rw [lo,Bool.true_and]at k
      try contradiction
      refine Dj hc (at0 _ _) ?_
      try contradiction
      by_cases t0:t=0
      . rw [decide_eq_true t0]
        rw [decide_eq_false (fun z:t≠0=>z t0)]at k
        exact k
      . rw [decide_eq_false t0]
        rw [decide_eq_true (show t≠0 from t0)]at k
        exact k
theorem Yk (xs:List V):Uk xs (some 1) none=xs.drop 1:=by
  unfold Uk
  rw [HT.Uy,show(some (1:Int))=some ((1:Nat):Int)from rfl,HT.Wt]
  cases xs with
  | nil=>rfl
  | cons x r=>
    rw [Nat.min_eq_left (by simp),List.take_of_length_le (by simp)]
def upB (R:List (Int × Rat)):Bool:=(List.range (R.length-1)).all fun i=>decide ((R.getD i (0,0)).1<(R.getD (i+1) (0,0)).1)
noncomputable def rsB (R:List (Int × Rat)):Bool:=upB R&&(decide (big R<=3)&&R.all fun e=>decide (sqs e.1=1))
inductive Tr2 (K:PySem.W.Frag) (H:Hp):V->Bool->Prop where
  | int (i:Int):Tr2 K H (.int i) false
  | non:Tr2 K H .non false
  | lst {a:Addr}{xs:List V} (e:H a=some (.lst xs)):Tr2 K H (.ref a) false
  | long {a:Addr}{xs:List V} (h:SqT K H a xs) (hl:4<xs.length):Tr2 K H (.ref a) false
  | bad {a:Addr}{es:List (V × Bool)} (h:SqT K H a (es.map (·.1))) (hl:es.length<=4) (hw:∀e∈es,Tr1 K H e.1 e.2) (hb:(es.map (·.2)).all id=false):Tr2 K H (.ref a) false
  | good {a:Addr}{n:Nat}{fs:List (V × (Int × Rat))} (h:SqT K H a (fs.map (·.1))) (hl:fs.length<=4) (hw:∀e∈fs,Rt n K H e.1 e.2) (hk:∀e∈fs,1<=e.2.1/\e.2.1<=1000000000000/\e.2.2≠0):Tr2 K H (.ref a) (rsB (fs.map (·.2)))
theorem Rt.tr1 {n:Nat}{H:Hp}{v:V}{e:Int × Rat} (h:Rt n K H v e) (hk:1<=e.1/\e.1<=1000000000000/\e.2≠0):Tr1 K H v true:=by
  obtain⟨a,x,rfl,h1,⟨b,rfl,h2⟩,_⟩:=h
  have lo:low e.2.num (e.2.den:Int)=true:=by
    unfold low
    rw [decide_eq_true (den_pos e.2),decide_eq_true]
    . rfl
    . have:=e.2.reduced
      unfold Nat.Coprime at this
      show((Nat.gcd e.2.num.natAbs e.2.den:Nat):Int)=1
      rw [this]
      rfl
  have n0:e.2.num≠0:=fun z=>hk.2.2 (Rat.num_eq_zero.mp z)
  have r:=Tr1.frac h1 h2
  rw [decide_eq_true hk.1,decide_eq_true hk.2.1,lo,decide_eq_true n0]at r
  exact r
def Fp (K:PySem.W.Frag):Sp:=fun vs H Q _=>∃v b,vs=[v]/\Tr2 K H v b/\∀H',Same H H'->Q (.bl b) H'
theorem Jy {f:Addr}{fd:FuncData} (F:Df K mg "is_root_sum" Bo ["thing"] f fd) (z_all:mg "all"=none) (z_isinstance:mg "isinstance"=none) (z_tuple:mg "tuple"=none) (z_len:mg "len"=none) (z_zip:mg "zip"=none) (xc_MOST_ROOTS:∃u,mg "MOST_ROOTS"=some u/\RelV (V.int 3) u) (c_roots_in:Cal P w K mg base 1 "roots_in" ["one"] (Gb K)) (c_is_root_term:Cal P w K mg base 3 "is_root_term" ["thing"] (Dw K)) (c_square_in:Cal P w K mg base 2 "square_in" ["d"] (Eo K)):Cal P w K mg base 4 "is_root_sum" ["thing"] (Fp K):=by
  refine F.cal (F.fn.ok Jv (fun vs H Q E h=> ?_) (fun cdv A outer s H vs Q E hr h=> ?_))
  . obtain⟨v,b,rfl,_⟩:=h
    rfl
  obtain⟨v,b,rfl,hv,k⟩:=h
  refine S.Bq ⟨_,(S.Ad (S.Dd (S.Oj (S.Jo (S.Fq (S.En (S.Br Iw rfl z_isinstance PyProof.Rows.boot_isinstance (S.Aa (S.pv 0) (S.Aa (S.Dg (v:= .ty "tuple") rfl z_tuple PyProof.Rows.boot_tuple rfl) S.Ac))))) (S.Jo (S.Ak Qc (S.Br Bm rfl z_len PySem.boot_len (S.Aa (S.pv 0) S.Ac)) (S.Ai Ci (S.Cv (v:= .int 3) rfl xc_MOST_ROOTS) S.Ab) (Al _)) (S.Ik (S.Fq (S.En (S.Br (Kh rfl) rfl z_all PyProof.Rows.boot_all (S.Aa (S.Dh (ts:=["term"]) (fs:=[]) rfl (Bg.of (sc:=Ah Bo) (N:=["thing"]) rfl rfl (by decide+kernel)) (S.Lh (S.pv 0)) (fun _ _ _=>(S.Am (i:=0) (show List.Nodup (["term"]:List Str)by decide+kernel) rfl (Or.inl rfl))) (fun _ _ _=>S.Jl) (fun _ _ _=>(S.Bf c_is_root_term (hr.mono (by decide)) (S.Aa (S.pv 0) S.Ac)))) S.Ac)))))))) (S.Ae (S.Ao S.Gg)) S.Az)
      (S.Ad (S.Dd (S.Fq (S.En (S.Br (Kh rfl) rfl z_all PyProof.Rows.boot_all (S.Aa (S.Dh (ts:=["one","other"]) (fs:=[]) rfl (Bg.of (sc:=Ah Bo) (N:=["thing"]) rfl rfl (by decide+kernel)) (S.Ja true true rfl z_zip (S.Aa (S.pv 0) (S.Aa (S.Km Xg (S.pv 0) (S.Oz S.Ab) S.O1) S.Ac))) (fun _ _ _=>(S.Gy K 2 rfl rfl (S.Ar (S.Am (i:=0) (show List.Nodup (["one","other"]:List Str)by decide+kernel) rfl (Or.inl rfl) (hf:=Or.inr rfl)) (S.Ar (S.Am (i:=1) (show List.Nodup (["one","other"]:List Str)by decide+kernel) rfl (Or.inl rfl) (hf:=Or.inr rfl)) S.Cz)))) (fun _ _ _=>S.Jl) (fun _ _ _=>(S.Bx U3 (S.Bv (Jg K) (S.pv 0) S.Ab (fun _ _=>rfl)) (S.Bv (Jg K) (S.pv 1) S.Ab (fun _ _=>rfl)) (Al _)))) S.Ac)))) (S.Ae (S.Ao S.Gg)) S.Az)
      (S.Ae (S.Ao (S.Dv (S.Bx Uz (S.Br Bm rfl z_len PySem.boot_len (S.Aa (S.Bf c_roots_in (hr.mono (by decide)) (S.Aa (S.pv 0) S.Ac)) S.Ac)) (S.Cv (v:= .int 3) rfl xc_MOST_ROOTS) (Al _)) (S.Ip (S.Br (Kh rfl) rfl z_all PyProof.Rows.boot_all (S.Aa (S.Dh (ts:=["d","c"]) (fs:=[]) rfl (Bg.of (sc:=Ah Bo) (N:=["thing"]) rfl rfl (by decide+kernel)) (S.Lh (S.pv 0)) (fun _ _ _=>(S.Gy K 2 rfl rfl (S.Ar (S.Am (i:=0) (show List.Nodup (["d","c"]:List Str)by decide+kernel) rfl (Or.inl rfl) (hf:=Or.inr rfl)) (S.Ar (S.Am (i:=1) (show List.Nodup (["d","c"]:List Str)by decide+kernel) rfl (Or.inl rfl) (hf:=Or.inr rfl)) S.Cz)))) (fun _ _ _=>S.Jl) (fun _ _ _=>(S.Bx Ko (S.Bf c_square_in (hr.mono (by decide)) (S.Aa (S.pv 0) S.Ac)) S.Ab (Al _)))) S.Ac)))))))),?_⟩
  contradiction
  cases hv with
  | int i=>
    refine isa (.of (.int i)) Sw ?_
    try contradiction
    exact k _ (Same.refl _)
  | non=>
    refine isa (.of .non) Vx ?_
    try contradiction
    exact k _ (Same.refl _)
  | lst e=>
    refine isa (.of (.lst e)) Vl ?_
    try contradiction
    exact k _ (Same.refl _)
  | @long a xs h hl=>
    refine isa (.tup h) Ek ?_
    try contradiction
    refine⟨a,_,rfl,.inr h,?_⟩
    try contradiction
    rw [if_pos (show(3:Int)+1<((xs.length:Nat):Int)by omega)]
    exact k _ (Same.refl _)
  | @bad a es h hl hw hb=>
    refine isa (.tup h) Ek ?_
    try contradiction
    refine⟨a,_,rfl,.inr h,?_⟩
    rw [List.length_map,if_neg (show ¬(3:Int)+1<((es.length:Nat):Int)by omega)]
    refine⟨⟨_,h⟩,fun p1 hp1=>Ow (es:=es) (inj:=(·.1)) (fun e=> .bl e.2) (Nat.le_trans hl (by decide)) hp1 (Pk h) ?_ ?_⟩
    . intro e H2 R he s2 hR
      contradiction
      exact⟨_,_,rfl,(hw e he).mono s2,hR _ (Same.refl _)⟩
    intro H2 s2 h2
    have em:es.map (fun e=>V.bl e.2)=(es.map (·.2)).map V.bl:=by rw [List.map_map];rfl
    rw [em]at h2
    refine⟨p1,_,rfl,.of h2,?_⟩
    rw [if_pos hb]
    exact k _ s2
  | @good a n fs h hl hw hk=>
    refine isa (.tup h) Ek ?_
    try contradiction
    refine⟨a,_,rfl,.inr h,?_⟩
    rw [List.length_map,if_neg (show ¬(3:Int)+1<((fs.length:Nat):Int)by omega)]
    refine⟨⟨_,h⟩,fun p1 hp1=>Ow (es:=fs) (inj:=(·.1)) (fun _=> .bl true) (Nat.le_trans hl (by decide)) hp1 (Pk h) ?_ ?_⟩
    . intro e H2 R he s2 hR
      contradiction
      exact⟨_,_,rfl,((hw e he).mono s2).tr1 (hk e he),hR _ (Same.refl _)⟩
    intro H2 s2 h2
    have em:fs.map (fun _=>V.bl true)=(fs.map fun _=>true).map V.bl:=by rw [List.map_map];rfl
    rw [em]at h2
    refine⟨p1,_,rfl,.of h2,?_⟩
    rw [if_neg (by simp)]
    refine⟨a,_,rfl,s2.tup h,fun z3 H3 s3 h3=> ?_⟩
    rw [Yk,<-List.map_drop]at h3
    have s23:=s2.trans s3
    refine⟨a,z3,rfl,⟨_,s23.tup h⟩,⟨_,h3⟩,fun p4 n4=>Uo (xs:=fs.map (·.1)) (ys:=(fs.drop 1).map (·.1)) (fs.length-1) (by rw [List.length_map,List.length_map,List.length_drop];omega) (fun i=> .bl (decide (((fs.map (·.2)).getD i (0,0)).1<((fs.map (·.2)).getD (i+1) (0,0)).1))) (Nat.le_trans (show fs.length-1<=4 by omega) (by decide)) n4 (fun H' s'=>(s23.trans s').tup h) (fun H' s'=>s'.tup h3) ?_ ?_⟩
    . intro i H4 q R hi s4 hq hR
      have e1:(fs.map (·.1)).getD i .non=(fs[i]'(by omega)).1:=by
        rw [List.getD_eq_getElem?_getD,List.getElem?_map,List.getElem?_eq_getElem (by omega)]
        rfl
      have e2:((fs.drop 1).map (·.1)).getD i .non=(fs[i+1]'(by omega)).1:=by
        rw [List.getD_eq_getElem?_getD,List.getElem?_map,List.getElem?_drop,Nat.add_comm 1 i,List.getElem?_eq_getElem (by omega)]
        rfl
      have e3:(fs.map (·.2)).getD i (0,0)=(fs[i]'(by omega)).2:=by
        rw [List.getD_eq_getElem?_getD,List.getElem?_map,List.getElem?_eq_getElem (by omega)]
        rfl
      have e4:(fs.map (·.2)).getD (i+1) (0,0)=(fs[i+1]'(by omega)).2:=by
        rw [List.getD_eq_getElem?_getD,List.getElem?_map,List.getElem?_eq_getElem (by omega)]
        rfl
      rw [e1,e2]at hq
      rw [e3,e4]at hR
      obtain⟨b1,x1,f1,g1,_⟩:=(hw _ (List.getElem_mem (show i<fs.length by omega))).mono (s23.trans s4)
      obtain⟨b2,x2,f2,g2,_⟩:=(hw _ (List.getElem_mem (show i+1<fs.length by omega))).mono (s23.trans s4)
      rw [f1,f2]at hq
      refine Dy (.of hq) ?_
      contradiction
      refine Dj g1 (at0 _ _) (Dj g2 (at0 _ _) ?_)
      try contradiction
      exact hR _ (Same.refl _)
    intro H4 s4 h4
    have em4:(List.range (fs.length-1)).map (fun i=>V.bl (decide (((fs.map (·.2)).getD i (0,0)).1<((fs.map (·.2)).getD (i+1) (0,0)).1)))=((List.range (fs.length-1)).map fun i=>decide (((fs.map (·.2)).getD i (0,0)).1<((fs.map (·.2)).getD (i+1) (0,0)).1)).map V.bl:=by rw [List.map_map];rfl
    rw [em4]at h4
    have eu:((List.range (fs.length-1)).map fun i=>decide (((fs.map (·.2)).getD i (0,0)).1<((fs.map (·.2)).getD (i+1) (0,0)).1)).all id=upB (fs.map (·.2)):=by
      unfold upB
      rw [List.all_map,List.length_map]
      rfl
    refine⟨p4,_,rfl,.of h4,?_⟩
    rw [eu]
    unfold rsB at k
    have s24:=s23.trans s4
    cases ub:upB (fs.map (·.2))with
    | false=>
      rw [ub]at k
      exact k _ s24
    | true=>
      rw [ub,Bool.true_and]at k
      rw [if_neg (by simp)]
      refine⟨a,fs,n,rfl,s24.tup h,fun e he=>(hw e he).mono s24,by omega,fun z5 H5 s5 h5=> ?_⟩
      have eb:((fs.filter fun e=>decide (1<e.2.1)).map (·.1)).length=big (fs.map (·.2)):=by
        unfold big
        rw [List.length_map,List.filter_map,List.length_map]
        rfl
      try contradiction
      refine⟨z5,_,rfl,.inl (.of h5),?_⟩
      rw [eb]
      have s25:=s24.trans s5
      by_cases hb:big (fs.map (·.2))<=3
      case neg=>
        rw [if_neg (show ¬((big (fs.map (·.2)):Nat):Int)<=3 by omega)]
        rw [decide_eq_false hb]at k
        exact k _ s25
      rw [if_pos (show((big (fs.map (·.2)):Nat):Int)<=3 by omega)]
      rw [decide_eq_true hb,Bool.true_and]at k
      refine⟨⟨_,s25.tup h⟩,fun p6 n6=>Ow (es:=fs) (inj:=(·.1)) (fun e=> .bl (decide (sqs e.2.1=1))) (Nat.le_trans hl (by decide)) n6 (Pk (s25.tup h)) ?_ ?_⟩
      . intro e H6 R he s6 hR
        obtain⟨b1,x1,f1,g1,_⟩:=(hw e he).mono (s25.trans s6)
        obtain⟨k1,k2,_⟩:=hk e he
        rw [f1]
        refine Dy g1 ?_
        contradiction
        refine⟨e.2.1.toNat,by rw [Int.toNat_of_nonneg (by omega)],by omega,by omega,fun s0 m0 eq sf p0 q0=> ?_⟩
        have sq:Sqd e.2.1 s0 m0:=⟨by rw [eq];omega,sf,p0,q0⟩
        try contradiction
        have hh:=hR _ (Same.refl _)
        rw [sq.sqs]at hh
        rw [show decide (((s0:Nat):Int)=1)=decide (s0=1)from decide_eq_decide.mpr ⟨fun h=>by omega,fun h=>by omega⟩]
        exact hh
      intro H6 s6 h6
      have em6:fs.map (fun e=>V.bl (decide (sqs e.2.1=1)))=(fs.map fun e=>decide (sqs e.2.1=1)).map V.bl:=by rw [List.map_map];rfl
      rw [em6]at h6
      refine⟨p6,_,rfl,.of h6,?_⟩
      have ea:(fs.map fun e=>decide (sqs e.2.1=1)).all id=(fs.map (·.2)).all fun e=>decide (sqs e.1=1):=by
        rw [List.all_map,List.all_map]
        rfl
      rw [ea]
      exact k _ (s25.trans s6)
def Jm (K:PySem.W.Frag):Sp:=fun vs H Q _=>∃(a:Addr) (fs:List (V × (Int × Rat))) (n:Nat) (d:Int),vs=[.ref a,.int d]/\SqT K H a (fs.map (·.1))/\(∀e∈fs,Rt n K H e.1 e.2/\1<=e.2.1/\e.2.1<=1000000000000/\e.2.2≠0)/\fs.length<=60/\∀(l:Addr) (H':Hp) (xs:List V),Same H H'->H' l=some (.lst xs)->xs.length<=64->(∀x∈xs,Tr2 K H' x false)->Q (.ref l) H'
theorem Tr2.mono {H H':Hp}{v:V}{b:Bool} (h:Tr2 K H v b) (s:Same H H'):Tr2 K H' v b:=by
  cases h with
  | int i=>exact .int i
  | non=>exact .non
  | lst e=>exact .lst (s _ _ e)
  | long h hl=>exact .long (s.tup h) hl
  | bad h hl hw hb=>exact .bad (s.tup h) hl (fun e he=>(hw e he).mono s) hb
  | good h hl hw hk=>exact .good (s.tup h) hl (fun e he=>(hw e he).mono s) hk
theorem Ky {H:Hp}{a:Addr}{v:V} (h:SqT K H a [v]) (hv:Tr1 K H v false):Tr2 K H (.ref a) false:=
  .bad (es:=[(v,false)]) h (by show 1<=4;decide) (fun e he=>by
    have:e=(v,false):=by simpa using he
    rw [this]
    exact hv) rfl
theorem Ka {H:Hp}{a b c:Addr}{i t u:Int} (h:SqT K H a [.ref b]) (hb:SqT K H b [.int i,.ref c]) (hc:SqT K H c [.int t,.int u]) (hf:(decide (1<=i)&&(decide (i<=1000000000000)&&(low t u&&decide (t≠0))))=false):Tr2 K H (.ref a) false:=
  Ky h (hf▸Tr1.frac hb hc)
theorem Yb {R:List (Int × Rat)}{x y:Int × Rat} (h:¬x.1<y.1):upB (R++ [x,y])=false:=by
  unfold upB
  rw [List.all_eq_false]
  refine⟨R.length,List.mem_range.mpr (by simp),?_⟩
  have e1:(R++ [x,y]).getD R.length (0,0)=x:=by simp [List.getD_eq_getElem?_getD]
  have e2:(R++ [x,y]).getD (R.length+1) (0,0)=y:=by simp [List.getD_eq_getElem?_getD]
  rw [e1,e2]
  simpa using h
theorem Vi {H:Hp}{a:Addr}{n:Nat}{fs:List (V × (Int × Rat))}{u v:V}{x y:Int × Rat} (h:SqT K H a (fs.map (·.1)++ [u,v])) (hw:∀e∈fs,Rt n K H e.1 e.2) (hk:∀e∈fs,1<=e.2.1/\e.2.1<=1000000000000/\e.2.2≠0) (hu:Rt n K H u x) (hv:Rt n K H v y) (kx:1<=x.1/\x.1<=1000000000000/\x.2≠0) (ky:1<=y.1/\y.1<=1000000000000/\y.2≠0) (hn:¬x.1<y.1):Tr2 K H (.ref a) false:=by
  by_cases hl:fs.length+2<=4
  . have e0:(fs++ [(u,x),(v,y)]).map (·.1)=fs.map (·.1)++ [u,v]:=by rw [List.map_append];rfl
    have r:=Tr2.good (K:=K) (H:=H) (a:=a) (n:=n) (fs:=fs++ [(u,x),(v,y)]) (by rw [e0];exact h) (by simpa using hl) (fun e he=>by
      rcases List.mem_append.mp he with he | he
      . exact hw e he
      . have:e=(u,x)\/e=(v,y):=by simpa using he
        rcases this with rfl | rfl
        . exact hu
        . exact hv) (fun e he=>by
      rcases List.mem_append.mp he with he | he
      . exact hk e he
      . have:e=(u,x)\/e=(v,y):=by simpa using he
        rcases this with rfl | rfl
        . exact kx
        . exact ky)
    have e1:(fs++ [(u,x),(v,y)]).map (·.2)=fs.map (·.2)++ [x,y]:=by rw [List.map_append];rfl
    unfold rsB at r
    rw [e1,Yb hn,Bool.false_and]at r
    exact r
  . exact .long h (by rw [List.length_append,List.length_map];show 4<fs.length+2;omega)
theorem Aa1:sqs 4=2:=Sqd.sqs (m:=1) ⟨rfl,fun u h2 hd=>by
  have:=Nat.le_of_dvd (by decide) hd
  have:2*2<=u*u:=Nat.mul_le_mul h2 h2
  omega,by decide,by decide⟩
theorem V7 {a b c d:Int × Rat} (ha:1<a.1) (hb:1<b.1) (hc:1<c.1) (hd:1<d.1):rsB [a,b,c,d]=false:=by
  have:big [a,b,c,d]=4:=by
    unfold big
    simp [ha,hb,hc,hd]
  unfold rsB
  rw [this]
  simp
theorem Aa0 (c:Rat):rsB [(4,c)]=false:=by
  unfold rsB
  simp [Aa1]
theorem Rt.up {n m:Nat}{H:Hp}{v:V}{e:Int × Rat} (h:Rt n K H v e) (l:n<=m):Rt m K H v e:=by
  obtain⟨a,x,rfl,h1,h2,h3⟩:=h
  exact⟨a,x,rfl,h1,h2,h3.mono l⟩
theorem Gn {n:Nat}{H:Hp}{a b:Addr}{i:Int} (h:SqT K H a [.int i,.ref b]) (hb:SqT K H b [.int 1,.int 1]):Rt (n+1) K H (.ref a) (i,1):=
  ⟨a,_,rfl,h,⟨b,rfl,hb⟩,by
    have:Sz (n+1) 1:=by
      show(1:Int).natAbs<2^(n+1)
      have:=Nat.two_pow_pos n
      rw [Nat.pow_succ]
      show 1<_
      omega
    exact⟨this,this⟩⟩
theorem k3 (i:Int) (h:1<=i) (g:i<=1000000000000):1<=i/\i<=1000000000000/\(1:Rat)≠0:=⟨h,g,by decide⟩
theorem S6 {H:Hp}{a:Addr}{u v:V}{b c:Bool} (h:SqT K H a [u,v]) (hu:Tr1 K H u b) (hv:Tr1 K H v c) (e:(b&&c)=false):Tr2 K H (.ref a) false:=
  .bad (es:=[(u,b),(v,c)]) h (by show 2<=4;decide) (fun x hx=>by
    have:x=(u,b)\/x=(v,c):=by simpa using hx
    rcases this with rfl | rfl
    . exact hu
    . exact hv) (by show(b&&(c&&true))=false;rw [Bool.and_true];exact e)
theorem Wd {H:Hp}{a:Addr}{p q r s:V}{i j m n:Int} (h:SqT K H a [p,q,r,s]) (h1:Rt (0+1) K H p (i,1)) (h2:Rt (0+1) K H q (j,1)) (h3:Rt (0+1) K H r (m,1)) (h4:Rt (0+1) K H s (n,1)) (e1:1<i/\i<=7) (e2:1<j/\j<=7) (e3:1<m/\m<=7) (e4:1<n/\n<=7):Tr2 K H (.ref a) false:=by
  have o:(1:Rat)≠0:=by decide
  have rr:=Tr2.good (K:=K) (n:=0+1) (fs:=[(p,(i,1)),(q,(j,1)),(r,(m,1)),(s,(n,1))]) h (by show 4<=4;decide) (fun e he=>by
    have:e=(p,(i,1))\/e=(q,(j,1))\/e=(r,(m,1))\/e=(s,(n,1)):=by simpa using he
    rcases this with rfl | rfl | rfl | rfl<;>assumption) (fun e he=>by
    have:e=(p,(i,1))\/e=(q,(j,1))\/e=(r,(m,1))\/e=(s,(n,1)):=by simpa using he
    rcases this with rfl | rfl | rfl | rfl<;>refine⟨?_,?_,o⟩<;>dsimp only<;>omega)
  have e:rsB ([(p,((i,1):Int × Rat)),(q,(j,1)),(r,(m,1)),(s,(n,1))].map (·.2))=false:=V7 e1.1 e2.1 e3.1 e4.1
  rw [e]at rr
  exact rr
theorem Ny {f:Addr}{fd:FuncData} (F:Df K mg "_law_others" Gu ["_law_found","_law_cell"] f fd) (z_list:mg "list"=none)   :Cal P w K mg base 1 "_law_others" ["_law_found","_law_cell"] (Jm K):=by
  refine F.cal (F.fn.ok Cj (fun vs H Q E h=> ?_) (fun cdv A outer s H vs Q E hr h=> ?_))
  . obtain⟨a,fs,n,d,rfl,_⟩:=h
    rfl
  obtain⟨a,fs,n,d,rfl,ha,he,h60,k⟩:=h
  refine S.Bq ⟨_,(S.Ad (S.Aj (i:=2) Cj.nd rfl (Or.inl rfl) (S.Af (S.Aa (S.Ai Ci S.Ab (S.Ai Cp (S.pv 1) S.Ab)) (S.Aa (S.Af (S.Aa S.Ab (S.Aa S.Ab S.Ac))) S.Ac))))
      (S.Ad (S.Aj (i:=3) Cj.nd rfl (Or.inl rfl) (S.Et (S.Aa (S.Ei Cq rfl z_list PyProof.Rows.boot_list (S.Aa (S.pv 0) S.Ac)) (S.Aa (S.Ai R4 (S.Ai R4 (S.pv 0) (S.Af (S.Aa (S.Af (S.Aa S.Ab (S.Aa (S.Af (S.Aa S.Ab (S.Aa S.Ab S.Ac))) S.Ac))) S.Ac))) (S.Af (S.Aa (S.Af (S.Aa S.Ab (S.Aa (S.Af (S.Aa S.Ab (S.Aa S.Ab S.Ac))) S.Ac))) S.Ac))) (S.Aa (S.Af (S.Aa (S.Af (S.Aa S.Ab (S.Aa (S.Af (S.Aa S.Ab (S.Aa S.Ab S.Ac))) S.Ac))) S.Ac)) (S.Aa (S.Af (S.Aa (S.Af (S.Aa S.Ab (S.Aa (S.Af (S.Aa S.Ab (S.Aa S.Ab S.Ac))) S.Ac))) S.Ac)) (S.Aa S.Qy (S.Aa S.Ab S.Ac))))))))
      (S.Ad (S.Aj (i:=3) Cj.nd rfl (Or.inl rfl) (S.Ai Rb (S.pv 3) (S.Et (S.Aa (S.Af (S.Aa (S.Af (S.Aa S.Ab (S.Aa (S.Af (S.Aa S.Ab (S.Aa S.Ab S.Ac))) S.Ac))) S.Ac)) (S.Aa (S.Af (S.Aa (S.Af (S.Aa (S.Ai Ci (S.Ai J1 S.Ab S.Ab) S.Ab) (S.Aa (S.Af (S.Aa S.Ab (S.Aa S.Ab S.Ac))) S.Ac))) S.Ac)) (S.Aa (S.Af (S.Aa (S.Af (S.Aa S.Ab (S.Aa (S.Af (S.Aa S.Ab (S.Aa S.Ab S.Ac))) S.Ac))) (S.Aa (S.Af (S.Aa (S.Ai Ci (S.Ai J1 S.Ab S.Ab) S.Ab) (S.Aa (S.Af (S.Aa S.Ab (S.Aa S.Ab S.Ac))) S.Ac))) S.Ac))) S.Ac))))))
      (S.Ad (S.Aj (i:=3) Cj.nd rfl (Or.inl rfl) (S.Ai Rb (S.pv 3) (S.Et (S.Aa (S.Af (S.Aa (S.Af (S.Aa (S.Lw Ke S.Ab) (S.Aa (S.Af (S.Aa S.Ab (S.Aa S.Ab S.Ac))) S.Ac))) S.Ac)) (S.Aa (S.Af (S.Aa (S.Af (S.Aa S.Ab (S.Aa (S.Af (S.Aa S.Ab (S.Aa S.Ab S.Ac))) S.Ac))) S.Ac)) (S.Aa (S.Af (S.Aa (S.Af (S.Aa S.Ab (S.Aa (S.Af (S.Aa S.Ab (S.Aa S.Ab S.Ac))) S.Ac))) (S.Aa (S.Af (S.Aa S.Ab (S.Aa (S.Af (S.Aa S.Ab (S.Aa S.Ab S.Ac))) S.Ac))) S.Ac))) (S.Aa (S.Af (S.Aa (S.Af (S.Aa S.Gg (S.Aa (S.Af (S.Aa S.Ab (S.Aa S.Ab S.Ac))) S.Ac))) S.Ac)) (S.Aa (S.Af (S.Aa (S.Bv Bw (S.pv 2) S.Ab (fun _ _=>rfl)) (S.Aa (S.Bv Bw (S.pv 2) S.Ab (fun _ _=>rfl)) S.Ac))) S.Ac))))))))
      (S.Ae (S.Ao (S.Ai Rb (S.pv 3) (S.Et (S.Aa (S.Af (S.Aa (S.Af (S.Aa S.Ab (S.Aa (S.Af (S.Aa S.Ab (S.Aa S.Ab S.Ac))) S.Ac))) (S.Aa (S.Af (S.Aa S.Ab (S.Aa (S.Af (S.Aa S.Ab (S.Aa S.Ab S.Ac))) S.Ac))) (S.Aa (S.Af (S.Aa S.Ab (S.Aa (S.Af (S.Aa S.Ab (S.Aa S.Ab S.Ac))) S.Ac))) (S.Aa (S.Af (S.Aa S.Ab (S.Aa (S.Af (S.Aa S.Ab (S.Aa S.Ab S.Ac))) S.Ac))) S.Ac))))) (S.Aa (S.Af (S.Aa (S.Af (S.Aa S.Ab (S.Aa S.Ab S.Ac))) S.Ac)) (S.Aa (S.Af (S.Aa (S.Af (S.Aa S.Ab S.Ac)) S.Ac)) (S.Aa (S.Af (S.Aa (S.Af (S.Aa S.Ab (S.Aa (S.Af (S.Aa S.Ab (S.Aa (S.Lw Ke S.Ab) S.Ac))) S.Ac))) S.Ac)) S.Ac)))))))))))),?_⟩
  refine Bj (fun σ' H'=>Same H H'/\∃p1 p2:Addr,σ'=[some (.ref a),some (.int d),some (.ref p2),none]/\H' p2=some (.tup [.int (1+d%50),.ref p1])/\H' p1=some (.tup [.int 1,.int 2])) (fun M hM=> ?_) ?_
  . contradiction
    refine⟨by decide,?_⟩
    (intro q1 hq1;generalize eq1:upd _ q1 _=Gq1;obtain⟨sq1,gq1⟩:=nw hq1 eq1;clear eq1 hq1)
    (intro q2 hq2;generalize eq2:upd _ q2 _=Gq2;obtain⟨sq2,gq2⟩:=nw hq2 eq2;clear eq2 hq2)
    exact hM _ _ ⟨sq1.trans sq2,q1,q2,rfl,gq2,sq2 _ _ gq1⟩
  rintro σ H1 ⟨s1,pa,pb,rfl,gb,ga⟩
  refine Bj (fun σ' H'=>Same H1 H'/\∃(l:Addr) (xs:List V),σ'=[some (.ref a),some (.int d),some (.ref pb),some (.ref l)]/\H' l=some (.lst xs)/\xs.length=6/\∀x∈xs,Tr2 K H' x false) (fun M hM=> ?_) ?_
  . contradiction
    refine⟨a,_,rfl,.inr (s1.tup ha),?_⟩
    (intro q0 hq0;generalize eq0:upd _ q0 _=Gq0;obtain⟨sq0,gq0⟩:=nw hq0 eq0;clear eq0 hq0)
    (intro q1 hq1;generalize eq1:upd _ q1 _=Gq1;obtain⟨sq1,gq1⟩:=nw hq1 eq1;clear eq1 hq1)
    (intro q2 hq2;generalize eq2:upd _ q2 _=Gq2;obtain⟨sq2,gq2⟩:=nw hq2 eq2;clear eq2 hq2)
    (intro q3 hq3;generalize eq3:upd _ q3 _=Gq3;obtain⟨sq3,gq3⟩:=nw hq3 eq3;clear eq3 hq3)
    have s3:=(((s1.trans sq0).trans sq1).trans sq2).trans sq3
    refine⟨a,q3,_,_,rfl,rfl,s3.tup ha,.of gq3,by rw [List.length_map];exact Nat.le_trans (Nat.add_le_add_right h60 1) (by decide),fun z1 Gz1 sz1 hz1=> ?_⟩
    (intro q4 hq4;generalize eq4:upd _ q4 _=Gq4;obtain⟨sq4,gq4⟩:=nw hq4 eq4;clear eq4 hq4)
    (intro q5 hq5;generalize eq5:upd _ q5 _=Gq5;obtain⟨sq5,gq5⟩:=nw hq5 eq5;clear eq5 hq5)
    (intro q6 hq6;generalize eq6:upd _ q6 _=Gq6;obtain⟨sq6,gq6⟩:=nw hq6 eq6;clear eq6 hq6)
    refine⟨z1,q6,_,_,rfl,rfl,((sq4.trans sq5).trans sq6).tup hz1,.of gq6,by rw [List.length_append,List.length_map];exact Nat.le_trans (Nat.add_le_add_right (Nat.add_le_add_right h60 1) 1) (by decide),fun z2 Gz2 sz2 hz2=> ?_⟩
    (intro q7 hq7;generalize eq7:upd _ q7 _=Gq7;obtain⟨sq7,gq7⟩:=nw hq7 eq7;clear eq7 hq7)
    (intro q8 hq8;generalize eq8:upd _ q8 _=Gq8;obtain⟨sq8,gq8⟩:=nw hq8 eq8;clear eq8 hq8)
    (intro q9 hq9;generalize eq9:upd _ q9 _=Gq9;obtain⟨sq9,gq9⟩:=nw hq9 eq9;clear eq9 hq9)
    (intro q10 hq10;generalize eq10:upd _ q10 _=Gq10;obtain⟨sq10,gq10⟩:=nw hq10 eq10;clear eq10 hq10)
    (intro q11 hq11;generalize eq11:upd _ q11 _=Gq11;obtain⟨sq11,gq11⟩:=nw hq11 eq11;clear eq11 hq11)
    (intro q12 hq12;generalize eq12:upd _ q12 _=Gq12;obtain⟨sq12,gq12⟩:=nw hq12 eq12;clear eq12 hq12)
    refine⟨by decide,?_⟩
    (intro q13 hq13;generalize eq13:upd _ q13 _=Gq13;obtain⟨sq13,gq13⟩:=nw hq13 eq13;clear eq13 hq13)
    have tq12:=sq13
    have tq11:=sq12.trans tq12
    have tq10:=sq11.trans tq11
    have tq9:=sq10.trans tq10
    have tq8:=sq9.trans tq9
    have tq7:=sq8.trans tq8
    have tz2:=sq7.trans tq7
    have tq6:=sz2.trans tz2
    have tq5:=sq6.trans tq6
    have tq4:=sq5.trans tq5
    have tz1:=sq4.trans tq4
    have tq3:=sz1.trans tz1
    have tq2:=sq3.trans tq3
    have tq1:=sq2.trans tq2
    have tq0:=sq1.trans tq1
    have tS:=sq0.trans tq0
    rw [List.append_assoc]at hz2
    refine hM _ _ ⟨tS,q13,_,rfl,gq13,rfl,?_⟩
    have sA:=s1.trans tS
    intro x hx
    have hx:x= .ref q0\/x= .ref z2\/x= .ref q9\/x= .ref q12\/x= .non\/x= .int 7:=by simpa using hx
    rcases hx with rfl | rfl | rfl | rfl | rfl | rfl
    . exact .lst (tq0 _ _ gq0)
    . exact Vi (n:=n+1) (x:=(1,1)) (y:=(1,1)) (tz2.tup hz2) (fun e h=>((he e h).1.up (by omega)).mono sA) (fun e h=>(he e h).2) (Gn (.of (tq2 _ _ gq2)) (.of (tq1 _ _ gq1))) (Gn (.of (tq5 _ _ gq5)) (.of (tq4 _ _ gq4))) ⟨by decide,by decide,by decide⟩ ⟨by decide,by decide,by decide⟩ (by decide)
    . exact Ka (.of (tq9 _ _ gq9)) (.of (tq8 _ _ gq8)) (.of (tq7 _ _ gq7)) (by decide)
    . have r:=Tr2.good (K:=K) (n:=0+1) (fs:=[(.ref q11,(4,1))]) (.of (tq12 _ _ gq12)) (by show 1<=4;decide) (fun e h=>by
        have:e=(.ref q11,(4,1)):=by simpa using h
        rw [this]
        exact Gn (.of (tq11 _ _ gq11)) (.of (tq10 _ _ gq10))) (fun e h=>by
        have:e=(.ref q11,(4,1)):=by simpa using h
        rw [this]
        exact k3 4 (by decide) (by decide))
      have e4:rsB ([((.ref q11,(4,1)):V × (Int × Rat))].map (·.2))=false:=Aa0 1
      rw [e4]at r
      exact r
    . exact .non
    . exact .int 7
  rintro σ H2 ⟨s2,l2,xs,rfl,g2,len2,t2⟩
  refine Bj (fun σ' H'=>Same H2 H'/\∃(l:Addr) (xs:List V),σ'=[some (.ref a),some (.int d),some (.ref pb),some (.ref l)]/\H' l=some (.lst xs)/\xs.length=9/\∀x∈xs,Tr2 K H' x false) (fun M hM=> ?_) ?_
  . contradiction
    have e12:(10:Int)^Int.toNat 12=1000000000000:=by decide
    (intro q1 hq1;generalize eq1:upd _ q1 _=Gq1;obtain⟨sq1,gq1⟩:=nw hq1 eq1;clear eq1 hq1)
    (intro q2 hq2;generalize eq2:upd _ q2 _=Gq2;obtain⟨sq2,gq2⟩:=nw hq2 eq2;clear eq2 hq2)
    (intro q3 hq3;generalize eq3:upd _ q3 _=Gq3;obtain⟨sq3,gq3⟩:=nw hq3 eq3;clear eq3 hq3)
    refine⟨⟨by decide,by decide,by decide⟩,?_⟩
    rw [e12]
    (intro q4 hq4;generalize eq4:upd _ q4 _=Gq4;obtain⟨sq4,gq4⟩:=nw hq4 eq4;clear eq4 hq4)
    (intro q5 hq5;generalize eq5:upd _ q5 _=Gq5;obtain⟨sq5,gq5⟩:=nw hq5 eq5;clear eq5 hq5)
    (intro q6 hq6;generalize eq6:upd _ q6 _=Gq6;obtain⟨sq6,gq6⟩:=nw hq6 eq6;clear eq6 hq6)
    (intro q7 hq7;generalize eq7:upd _ q7 _=Gq7;obtain⟨sq7,gq7⟩:=nw hq7 eq7;clear eq7 hq7)
    (intro q8 hq8;generalize eq8:upd _ q8 _=Gq8;obtain⟨sq8,gq8⟩:=nw hq8 eq8;clear eq8 hq8)
    refine⟨⟨by decide,by decide,by decide⟩,?_⟩
    (intro q9 hq9;generalize eq9:upd _ q9 _=Gq9;obtain⟨sq9,gq9⟩:=nw hq9 eq9;clear eq9 hq9)
    (intro q10 hq10;generalize eq10:upd _ q10 _=Gq10;obtain⟨sq10,gq10⟩:=nw hq10 eq10;clear eq10 hq10)
    (intro q11 hq11;generalize eq11:upd _ q11 _=Gq11;obtain⟨sq11,gq11⟩:=nw hq11 eq11;clear eq11 hq11)
    refine⟨by decide,?_⟩
    (intro q12 hq12;generalize eq12:upd _ q12 _=Gq12;obtain⟨sq12,gq12⟩:=nw hq12 eq12;clear eq12 hq12)
    have tq11:=sq12
    have tq10:=sq11.trans tq11
    have tq9:=sq10.trans tq10
    have tq8:=sq9.trans tq9
    have tq7:=sq8.trans tq8
    have tq6:=sq7.trans tq7
    have tq5:=sq6.trans tq6
    have tq4:=sq5.trans tq5
    have tq3:=sq4.trans tq4
    have tq2:=sq3.trans tq3
    have tq1:=sq2.trans tq2
    have tS:=sq1.trans tq1
    refine⟨l2,q12,_,_,rfl,rfl,tS _ _ g2,gq12,by rw [len2];exact(show 9<=sizeLine by decide),?_⟩
    (intro q13 hq13;generalize eq13:upd _ q13 _=Gq13;obtain⟨sq13,gq13⟩:=nw hq13 eq13;clear eq13 hq13)
    refine hM _ _ ⟨tS.trans sq13,q13,_,rfl,gq13,by rw [List.length_append,len2];rfl,?_⟩
    intro x hx
    rcases List.mem_append.mp hx with hx | hx
    . exact(t2 x hx).mono (tS.trans sq13)
    refine Tr2.mono ?_ sq13
    have hx:x= .ref q3\/x= .ref q6\/x= .ref q11:=by simpa using hx
    rcases hx with rfl | rfl | rfl
    . exact Ka (.of (tq3 _ _ gq3)) (.of (tq2 _ _ gq2)) (.of (tq1 _ _ gq1)) (by decide)
    . exact Ka (.of (tq6 _ _ gq6)) (.of (tq5 _ _ gq5)) (.of (tq4 _ _ gq4)) (by decide)
    . exact S6 (.of (tq11 _ _ gq11)) (.frac (.of (tq8 _ _ gq8)) (.of (tq7 _ _ gq7))) (.frac (.of (tq10 _ _ gq10)) (.of (tq9 _ _ gq9))) (by decide)
  rintro σ H3 ⟨s3,l3,xs3,rfl,g3,len3,t3⟩
  refine Bj (fun σ' H'=>Same H3 H'/\∃(l:Addr) (xs:List V),σ'=[some (.ref a),some (.int d),some (.ref pb),some (.ref l)]/\H' l=some (.lst xs)/\xs.length=14/\∀x∈xs,Tr2 K H' x false) (fun M hM=> ?_) ?_
  . contradiction
    (intro q1 hq1;generalize eq1:upd _ q1 _=Gq1;obtain⟨sq1,gq1⟩:=nw hq1 eq1;clear eq1 hq1)
    (intro q2 hq2;generalize eq2:upd _ q2 _=Gq2;obtain⟨sq2,gq2⟩:=nw hq2 eq2;clear eq2 hq2)
    (intro q3 hq3;generalize eq3:upd _ q3 _=Gq3;obtain⟨sq3,gq3⟩:=nw hq3 eq3;clear eq3 hq3)
    (intro q4 hq4;generalize eq4:upd _ q4 _=Gq4;obtain⟨sq4,gq4⟩:=nw hq4 eq4;clear eq4 hq4)
    (intro q5 hq5;generalize eq5:upd _ q5 _=Gq5;obtain⟨sq5,gq5⟩:=nw hq5 eq5;clear eq5 hq5)
    (intro q6 hq6;generalize eq6:upd _ q6 _=Gq6;obtain⟨sq6,gq6⟩:=nw hq6 eq6;clear eq6 hq6)
    (intro q7 hq7;generalize eq7:upd _ q7 _=Gq7;obtain⟨sq7,gq7⟩:=nw hq7 eq7;clear eq7 hq7)
    (intro q8 hq8;generalize eq8:upd _ q8 _=Gq8;obtain⟨sq8,gq8⟩:=nw hq8 eq8;clear eq8 hq8)
    (intro q9 hq9;generalize eq9:upd _ q9 _=Gq9;obtain⟨sq9,gq9⟩:=nw hq9 eq9;clear eq9 hq9)
    (intro q10 hq10;generalize eq10:upd _ q10 _=Gq10;obtain⟨sq10,gq10⟩:=nw hq10 eq10;clear eq10 hq10)
    (intro q11 hq11;generalize eq11:upd _ q11 _=Gq11;obtain⟨sq11,gq11⟩:=nw hq11 eq11;clear eq11 hq11)
    (intro q12 hq12;generalize eq12:upd _ q12 _=Gq12;obtain⟨sq12,gq12⟩:=nw hq12 eq12;clear eq12 hq12)
    (intro q13 hq13;generalize eq13:upd _ q13 _=Gq13;obtain⟨sq13,gq13⟩:=nw hq13 eq13;clear eq13 hq13)
    (intro q14 hq14;generalize eq14:upd _ q14 _=Gq14;obtain⟨sq14,gq14⟩:=nw hq14 eq14;clear eq14 hq14)
    have tq13:=sq14
    have tq12:=sq13.trans tq13
    have tq11:=sq12.trans tq12
    have tq10:=sq11.trans tq11
    have tq9:=sq10.trans tq10
    have tq8:=sq9.trans tq9
    have tq7:=sq8.trans tq8
    have tq6:=sq7.trans tq7
    have tq5:=sq6.trans tq6
    have tq4:=sq5.trans tq5
    have tq3:=sq4.trans tq4
    have tq2:=sq3.trans tq3
    have tq1:=sq2.trans tq2
    have tS:=sq1.trans tq1
    have sB:=(s2.trans s3).trans tS
    refine Dj (.of (sB _ _ gb)) (at0 _ _) (Dj (.of (sB _ _ gb)) (at1 _ _ _) ?_)
    try contradiction
    (intro q15 hq15;generalize eq15:upd _ q15 _=Gq15;obtain⟨sq15,gq15⟩:=nw hq15 eq15;clear eq15 hq15)
    refine⟨by decide,?_⟩
    (intro q16 hq16;generalize eq16:upd _ q16 _=Gq16;obtain⟨sq16,gq16⟩:=nw hq16 eq16;clear eq16 hq16)
    have u15:=sq15.trans sq16
    refine⟨l3,q16,_,_,rfl,rfl,(tS.trans u15) _ _ g3,gq16,by rw [len3];exact(show 14<=sizeLine by decide),?_⟩
    (intro q17 hq17;generalize eq17:upd _ q17 _=Gq17;obtain⟨sq17,gq17⟩:=nw hq17 eq17;clear eq17 hq17)
    refine hM _ _ ⟨(tS.trans u15).trans sq17,q17,_,rfl,gq17,by rw [List.length_append,len3];rfl,?_⟩
    intro x hx
    rcases List.mem_append.mp hx with hx | hx
    . exact(t3 x hx).mono ((tS.trans u15).trans sq17)
    refine Tr2.mono ?_ sq17
    have hx:x= .ref q3\/x= .ref q6\/x= .ref q11\/x= .ref q14\/x= .ref q15:=by simpa using hx
    rcases hx with rfl | rfl | rfl | rfl | rfl
    . exact(Ka (.of (tq3 _ _ gq3)) (.of (tq2 _ _ gq2)) (.of (tq1 _ _ gq1)) (by decide)).mono u15
    . exact(Ka (.of (tq6 _ _ gq6)) (.of (tq5 _ _ gq5)) (.of (tq4 _ _ gq4)) (by decide)).mono u15
    . exact(Vi (n:=0+1) (fs:=[]) (x:=(3,1)) (y:=(2,1)) (.of (tq11 _ _ gq11)) (by simp) (by simp) (Gn (.of (tq8 _ _ gq8)) (.of (tq7 _ _ gq7))) (Gn (.of (tq10 _ _ gq10)) (.of (tq9 _ _ gq9))) ⟨by decide,by decide,by decide⟩ ⟨by decide,by decide,by decide⟩ (by decide)).mono u15
    . exact(Ky (.of gq14) (.notw (.of (tq13 _ _ gq13)) (.bl _))).mono u15
    . exact S6 (.of (sq16 _ _ gq15)) (.int _) (.notf (.of ((sB.trans u15) _ _ ga)) (.int 2)) rfl
  rintro σ H4 ⟨s4,l4,xs4,rfl,g4,len4,t4⟩
  contradiction
  (intro q1 hq1;generalize eq1:upd _ q1 _=Gq1;obtain⟨sq1,gq1⟩:=nw hq1 eq1;clear eq1 hq1)
  (intro q2 hq2;generalize eq2:upd _ q2 _=Gq2;obtain⟨sq2,gq2⟩:=nw hq2 eq2;clear eq2 hq2)
  (intro q3 hq3;generalize eq3:upd _ q3 _=Gq3;obtain⟨sq3,gq3⟩:=nw hq3 eq3;clear eq3 hq3)
  (intro q4 hq4;generalize eq4:upd _ q4 _=Gq4;obtain⟨sq4,gq4⟩:=nw hq4 eq4;clear eq4 hq4)
  (intro q5 hq5;generalize eq5:upd _ q5 _=Gq5;obtain⟨sq5,gq5⟩:=nw hq5 eq5;clear eq5 hq5)
  (intro q6 hq6;generalize eq6:upd _ q6 _=Gq6;obtain⟨sq6,gq6⟩:=nw hq6 eq6;clear eq6 hq6)
  (intro q7 hq7;generalize eq7:upd _ q7 _=Gq7;obtain⟨sq7,gq7⟩:=nw hq7 eq7;clear eq7 hq7)
  (intro q8 hq8;generalize eq8:upd _ q8 _=Gq8;obtain⟨sq8,gq8⟩:=nw hq8 eq8;clear eq8 hq8)
  refine⟨by decide,?_⟩
  (intro q9 hq9;generalize eq9:upd _ q9 _=Gq9;obtain⟨sq9,gq9⟩:=nw hq9 eq9;clear eq9 hq9)
  (intro q10 hq10;generalize eq10:upd _ q10 _=Gq10;obtain⟨sq10,gq10⟩:=nw hq10 eq10;clear eq10 hq10)
  (intro q11 hq11;generalize eq11:upd _ q11 _=Gq11;obtain⟨sq11,gq11⟩:=nw hq11 eq11;clear eq11 hq11)
  (intro q12 hq12;generalize eq12:upd _ q12 _=Gq12;obtain⟨sq12,gq12⟩:=nw hq12 eq12;clear eq12 hq12)
  (intro q13 hq13;generalize eq13:upd _ q13 _=Gq13;obtain⟨sq13,gq13⟩:=nw hq13 eq13;clear eq13 hq13)
  (intro q14 hq14;generalize eq14:upd _ q14 _=Gq14;obtain⟨sq14,gq14⟩:=nw hq14 eq14;clear eq14 hq14)
  (intro q15 hq15;generalize eq15:upd _ q15 _=Gq15;obtain⟨sq15,gq15⟩:=nw hq15 eq15;clear eq15 hq15)
  (intro q16 hq16;generalize eq16:upd _ q16 _=Gq16;obtain⟨sq16,gq16⟩:=nw hq16 eq16;clear eq16 hq16)
  refine⟨by decide,?_⟩
  (intro q17 hq17;generalize eq17:upd _ q17 _=Gq17;obtain⟨sq17,gq17⟩:=nw hq17 eq17;clear eq17 hq17)
  have tq16:=sq17
  have tq15:=sq16.trans tq16
  have tq14:=sq15.trans tq15
  have tq13:=sq14.trans tq14
  have tq12:=sq13.trans tq13
  have tq11:=sq12.trans tq12
  have tq10:=sq11.trans tq11
  have tq9:=sq10.trans tq10
  have tq8:=sq9.trans tq9
  have tq7:=sq8.trans tq8
  have tq6:=sq7.trans tq7
  have tq5:=sq6.trans tq6
  have tq4:=sq5.trans tq5
  have tq3:=sq4.trans tq4
  have tq2:=sq3.trans tq3
  have tq1:=sq2.trans tq2
  have tS:=sq1.trans tq1
  refine⟨l4,q17,_,_,rfl,rfl,tS _ _ g4,gq17,by rw [len4];exact(show 18<=sizeLine by decide),?_⟩
  (intro q18 hq18;generalize eq18:upd _ q18 _=Gq18;obtain⟨sq18,gq18⟩:=nw hq18 eq18;clear eq18 hq18)
  refine k q18 _ _ (((((s1.trans s2).trans s3).trans s4).trans tS).trans sq18) gq18 (by rw [List.length_append,len4];exact(show 18<=64 by decide)) fun x hx=> ?_
  rcases List.mem_append.mp hx with hx | hx
  . exact(t4 x hx).mono (tS.trans sq18)
  refine Tr2.mono ?_ sq18
  have hx:x= .ref q9\/x= .ref q11\/x= .ref q13\/x= .ref q16:=by simpa using hx
  rcases hx with rfl | rfl | rfl | rfl
  . exact Wd (i:=2) (j:=3) (m:=5) (n:=7) (.of (tq9 _ _ gq9)) (Gn (.of (tq2 _ _ gq2)) (.of (tq1 _ _ gq1))) (Gn (.of (tq4 _ _ gq4)) (.of (tq3 _ _ gq3))) (Gn (.of (tq6 _ _ gq6)) (.of (tq5 _ _ gq5))) (Gn (.of (tq8 _ _ gq8)) (.of (tq7 _ _ gq7))) (by decide) (by decide) (by decide) (by decide)
  . exact Ky (.of (tq11 _ _ gq11)) (.notf (.of (tq10 _ _ gq10)) (.int 1))
  . exact Ky (.of (tq13 _ _ gq13)) (.long (.of (tq12 _ _ gq12)) (by show 1≠2;decide))
  . exact Ka (.of (tq16 _ _ gq16)) (.of (tq15 _ _ gq15)) (.of (tq14 _ _ gq14)) (by decide)
theorem Vf:∀(k d:Nat),d<=k->0<d->∃s m,Sqd (d:Int) s m
  | 0,d,h,h0=>by omega
  | k+1,d,h,h0=>by
    by_cases hs:∃u,2<=u/\u*u∣d
    . obtain⟨u,u2,q,hq⟩:=hs
      have q0:0<q:=Nat.pos_of_ne_zero fun z=>by
        rw [z]at hq
        omega
      have ql:4*q<=u*u*q:=Nat.mul_le_mul_right _ (Nat.mul_le_mul u2 u2)
      obtain⟨s,m,h1⟩:=Vf k q (by omega) q0
      refine⟨u*s,m,?_,h1.sf,Nat.mul_pos (by omega) h1.s0,h1.m0⟩
      have e1:s*s*m=q:=by
        have:=h1.eq
        omega
      have e2:u*s*(u*s)*m=d:=by
        rw [hq,<-e1]
        grind
      rw [e2]
    . refine⟨1,d,by rw [Nat.one_mul],fun u h2 hu=>hs ⟨u,h2,hu⟩,by decide,h0⟩
theorem Wz {e:Int × Rat} (h:1<=e.1):1<=(red e).1/\(red e).1<=e.1/\sqs (red e).1=1:=by
  obtain⟨d,c⟩:=e
  replace h:1<=d:=h
  obtain⟨s,m,hs⟩:=Vf d.toNat d.toNat (Nat.le_refl _) (by omega)
  rw [Int.toNat_of_nonneg (by omega)]at hs
  have o:Sqd (m:Int) 1 m:=⟨by rw [Nat.one_mul],hs.sf,by decide,hs.m0⟩
  rw [hs.red]
  have e1:=hs.eq
  have m0:=hs.m0
  have:1*m<=s*s*m:=Nat.mul_le_mul_right _ (Nat.mul_pos hs.s0 hs.s0)
  refine⟨?_,?_,o.sqs⟩
  . show 1<=(m:Int)
    omega
  . show(m:Int)<=d
    omega
theorem Xi {e:Int × Rat} (h:sqs e.1=1):red e=e:=by
  obtain⟨d,c⟩:=e
  unfold red
  rw [h]
  refine Prod.ext ?_ ?_
  . show d/((1*1:Nat):Int)=d
    rw [Nat.one_mul]
    exact Int.ediv_one d
  . show c*((1:Nat):Rat)=c
    exact Rat.mul_one c
theorem NF.key {ts R:List (Int × Rat)} (nf:NF ts R) {e:Int × Rat} (he:e∈R):∃x∈ts,x.1=e.1:=Classical.byContradiction fun z=>by
  have h:=(nf.mem e).mp he
  refine h.2 ?_
  rw [h.1]
  exact Jt fun x hx ex=>z ⟨x,hx,ex⟩
theorem Vz {i:Int}{c:Rat}:∀ {R:List (Int × Rat)},(R.Pairwise fun a b=>a.1<b.1)->(i,c)∈R->tot R i=c
  | [],_,h=>by simp at h
  | x::r,p,h=>by
    obtain⟨p1,p2⟩:=List.pairwise_cons.mp p
    show(if x.1=i then x.2 else 0)+tot r i=c
    rcases List.mem_cons.mp h with h | h
    . rw [<-h,if_pos rfl,Jt fun e he ee=> ?_]
      . exact Rat.add_zero c
      . have:=p1 e he
        rw [<-h]at this
        replace this:i<e.1:=this
        omega
    . have h1:x.1<i:=p1 _ h
      rw [if_neg (by omega),Vz p2 h]
      exact Rat.zero_add c
theorem NF.tot {ts R:List (Int × Rat)} (nf:NF ts R) (i:Int):tot R i=tot ts i:=by
  by_cases h:Z.tot ts i=0
  . rw [h]
    refine Jt fun e he ee=> ?_
    have:=(nf.mem e).mp he
    rw [ee,h]at this
    exact this.2 this.1
  . exact Vz nf.up ((nf.mem (i,Z.tot ts i)).mpr ⟨rfl,h⟩)
theorem NF.len {ts R:List (Int × Rat)} (nf:NF ts R) (h1:∀e∈R,1<=e.1):R.length<=big R+1:=by
  have up:=nf.up
  clear nf
  cases R with
  | nil=>simp
  | cons x r=>
    obtain⟨p1,_⟩:=List.pairwise_cons.mp up
    have:(r.filter fun e=>decide (1<e.1))=r:=List.filter_eq_self.mpr fun e he=>by
      have:=p1 e he
      have:=h1 x (by simp)
      simp
      omega
    unfold big
    rw [List.filter_cons]
    split
    . rw [this]
      simp
    . rw [this]
      simp
theorem NF.upB {ts R:List (Int × Rat)} (nf:NF ts R):upB R=true:=by
  unfold Z.upB
  rw [List.all_eq_true]
  intro i hi
  have hi:=List.mem_range.mp hi
  have e1:R.getD i (0,0)=R[i]'(by omega):=by
    rw [List.getD_eq_getElem?_getD,List.getElem?_eq_getElem (by omega)]
    rfl
  have e2:R.getD (i+1) (0,0)=R[i+1]'(by omega):=by
    rw [List.getD_eq_getElem?_getD,List.getElem?_eq_getElem (by omega)]
    rfl
  rw [e1,e2]
  exact decide_eq_true (List.pairwise_iff_getElem.mp nf.up i (i+1) (by omega) (by omega) (by omega))
theorem NF.rsB {ts R:List (Int × Rat)} (nf:NF ts R) (hb:big R<=3) (hs:∀e∈R,sqs e.1=1):rsB R=true:=by
  unfold Z.rsB
  rw [nf.upB,decide_eq_true hb,Bool.true_and,Bool.true_and,List.all_eq_true]
  intro e he
  exact decide_eq_true (hs e he)
theorem N7:∀R:List (Int × Rat),PyData.eqvAll (R.map rD) (R.map rD)=true
  | []=>by simp [PyData.eqvAll]
  | e::r=>by
    rw [List.map_cons,PyData.eqvAll,N7 r]
    simp [rD,PyData.eqv,PyData.eqvAll]
theorem Vg (R:List (Int × Rat)):SeqAt.shaped (.list (R.map rD))=true:=by
  have h1:=R7 R
  have h2:=Rk R
  simp [SeqAt.shaped,PyData.canLay0,PyData.depth,h1]
  omega
theorem K3 {n:Nat}{H:Hp}{es:List (V × (Int × Rat))} (h:∀e∈es,Rt n K H e.1 e.2):Ol K H (es.map (·.1)) ((es.map (·.2)).map rD):=by
  rw [List.map_map]
  exact Oo h
theorem Vo {n m:Nat}{H:Hp}{a b:Addr}{es fs:List (V × (Int × Rat))}{Q:VK}{g:Bool->Bool} (ha:SqT K H a (es.map (·.1))) (h:∀e∈es,Rt n K H e.1 e.2) (hb:SqT K H b (fs.map (·.1))) (h':∀e∈fs,Rt m K H e.1 e.2) (e:es.map (·.2)=fs.map (·.2)) (q:Q (.bl (g true)) H):Xv K g (.ref a) (.ref b) H Q:=
  ⟨_,_,.tup ha (K3 h),.tup hb (K3 h'),Tt _,Tt _,by rw [e,PyData.eqv,N7];exact q⟩
theorem R8 {n m:Nat}{H:Hp}{a b:Addr}{es fs:List (V × (Int × Rat))}{Q:VK}{g:Bool->Bool} (ha:SqL K H a (es.map (·.1))) (h:∀e∈es,Rt n K H e.1 e.2) (hb:SqL K H b (fs.map (·.1))) (h':∀e∈fs,Rt m K H e.1 e.2) (e:es.map (·.2)=fs.map (·.2)) (q:Q (.bl (g true)) H):Xv K g (.ref a) (.ref b) H Q:=
  ⟨_,_,.lst ha (K3 h),.lst hb (K3 h'),Vg _,Vg _,by rw [e,PyData.eqv,N7];exact q⟩
def Jb (K:PySem.W.Frag):Sp:=fun vs H Q _=>∃(l:Addr) (es:List (V × (Int × Rat))) (n w:Nat) (R:List (Int × Rat)),vs=[.ref l]/\SqL K H l (es.map (·.1))/\(∀e∈es,Rt n K H e.1 e.2)/\(∀e∈es,1<=e.2.1/\e.2.1<=1000000000000/\e.2.1<4^w)/\es.length<=8/\1<=n/\Jx (es.map (·.2)) (n+w)<=2900/\NF (es.map fun e=>red e.2) R/\big R<=3/\
  (∀z H' fs,Same H H'->Rs K H' z fs (Jx (es.map (·.2)) (n+w)) (es.map fun e=>red e.2)->Q (.ref z) H')
theorem Kg (K:PySem.W.Frag):∀vs H Q E,Jb K vs H Q E->Es K vs H Q E0:=by
  rintro vs H Q E ⟨l,es,n,w,R,rfl,hl,he,hd,h8,n1,hn,nf,hb,k⟩
  refine⟨l,es,n,w,rfl,hl,he,hd,h8,n1,hn,fun R' nf' hb'=> ?_,fun _ _ _=>k⟩
  rw [nf.uniq nf' fun _=>rfl]at hb
  omega
structure Tm (K:PySem.W.Frag) (H:Hp) (l:Addr) (es:List (V × (Int × Rat))):Prop where
  it:H l=some (.lst (es.map (·.1)))
  al:∀e∈es,Rt 68 K H e.1 e.2
  ky:∀e∈es,1<=e.2.1/\e.2.1<=10000
  le:es.length<=6
theorem Tm.mono {H H':Hp}{l:Addr}{es:List (V × (Int × Rat))} (h:Tm K H l es) (s:Same H H'):Tm K H' l es:=⟨s _ _ h.it,fun e he=>(h.al e he).mono s,h.ky,h.le⟩
structure Du (K:PySem.W.Frag) (H:Hp) (z:Addr) (fs:List (V × (Int × Rat))) (ts:List (Int × Rat)):Prop where
  it:H z=some (.lst (fs.map (·.1)))
  al:∀e∈fs,Rt 457 K H e.1 e.2
  nf:NF ts (fs.map (·.2))
  le:fs.length<=8
theorem Du.mono {H H':Hp}{z:Addr}{fs:List (V × (Int × Rat))}{ts:List (Int × Rat)} (h:Du K H z fs ts) (s:Same H H'):Du K H' z fs ts:=⟨s _ _ h.it,fun e he=>(h.al e he).mono s,h.nf,h.le⟩
structure Fo (K:PySem.W.Frag) (H:Hp) (z:Addr) (fs:List (V × (Int × Rat))) (ts:List (Int × Rat)):Prop where
  it:SqT K H z (fs.map (·.1))
  al:∀e∈fs,Rt 457 K H e.1 e.2
  nf:NF ts (fs.map (·.2))
  ky:∀e∈fs,1<=e.2.1/\e.2.1<=10000/\sqs e.2.1=1/\e.2.2≠0
  le:fs.length<=4
theorem Fo.mono {H H':Hp}{z:Addr}{fs:List (V × (Int × Rat))}{ts:List (Int × Rat)} (h:Fo K H z fs ts) (s:Same H H'):Fo K H' z fs ts:=⟨s.tup h.it,fun e he=>(h.al e he).mono s,h.nf,h.ky,h.le⟩
theorem Fo.red {H:Hp}{z:Addr}{fs:List (V × (Int × Rat))}{ts:List (Int × Rat)} (h:Fo K H z fs ts):(fs.map fun e=>red e.2)=fs.map (·.2):=List.map_congr_left fun e he=>Xi (h.ky e he).2.2.1
theorem W9 {ts R:List (Int × Rat)} (h:NF ts R):NF R R:=⟨h.up,fun e=>by rw [h.mem,h.tot]⟩
theorem Zu {ts us R:List (Int × Rat)} (h:NF ts R) (e:∀i,tot us i=tot ts i):NF us R:=⟨h.up,fun x=>by rw [h.mem,e]⟩
theorem Tm.big {H:Hp}{l z:Addr}{es fs:List (V × (Int × Rat))}{n:Nat} (h:Tm K H l es) (g:Rs K H z fs n (es.map fun e=>Z.red e.2)) (hn:n<=457) (hb:Z.big (fs.map (·.2))<=3):Fo K H z fs (es.map fun e=>Z.red e.2):=by
  have ky:∀e∈fs,1<=e.2.1/\e.2.1<=10000/\sqs e.2.1=1/\e.2.2≠0:=fun e he=>by
    have hm:e.2∈fs.map (·.2):=List.mem_map.mpr ⟨e,he,rfl⟩
    obtain⟨x,hx,ex⟩:=g.nf.key hm
    obtain⟨y,hy,rfl⟩:=List.mem_map.mp hx
    have h1:=h.ky y hy
    obtain⟨r1,r2,r3⟩:=Wz h1.1
    rw [ex]at r1 r2 r3
    exact⟨r1,by omega,r3,((g.nf.mem e.2).mp hm).2⟩
  refine⟨g.it,fun e he=>(g.al e he).up hn,g.nf,ky,?_⟩
  have:=g.nf.len fun e he=>by
    obtain⟨x,hx,rfl⟩:=List.mem_map.mp he
    exact(ky x hx).1
  rw [List.length_map]at this
  omega
theorem Xb {es:List (V × (Int × Rat))} (h:es.length<=6):Jx (es.map (·.2)) (68+7)<=457:=by
  unfold Jx
  rw [List.length_map]
  omega
theorem X3 {f:Addr}{fd:FuncData} (F:Df K mg "law" K5 ["_law_script"] f fd) (z_list:mg "list"=none) (z_len:mg "len"=none) (z_isinstance:mg "isinstance"=none) (z_tuple:mg "tuple"=none)  (c_q_terms:Cal P w K mg base 3 "_law_terms" ["_law_script"] (Kf K)) (c_q_due:Cal P w K mg base 4 "_law_due" ["_law_terms_here"] (Py K)) (c_root_sum:Cal P w K mg base 5 "root_sum" ["terms"] (Jb K)) (c_q_others:Cal P w K mg base 1 "_law_others" ["_law_found","_law_cell"] (Jm K)) (c_q_cell_at:Cal P w K mg base 1 "_law_cell_at" ["_law_script","_law_k"] (Ck K)) (c_q_refused:Cal P w K mg base 6 "_law_refused" ["_law_terms_here"] (G9 K)) (c_is_root_sum:Cal P w K mg base 4 "is_root_sum" ["thing"] (Fp K)):J0 P w K mg base CX0 7 f fd ["_law_script"] (U8 K):=by
  refine F.fn.ok Kc (fun vs H Q E h=> ?_) (fun cdv A outer s H vs Q E hr h=> ?_)
  . obtain⟨a,ns,rfl,_⟩:=h
    rfl
  obtain⟨a,ns,rfl,hS,h63,k⟩:=h
  refine S.Bq ⟨_,(S.Ad (S.Aj (i:=1) Kc.nd rfl (Or.inl rfl) (S.Bf c_q_terms (hr.mono (by decide)) (S.Aa (S.pv 0) S.Ac)))
      (S.Ad (S.Aj (i:=2) Kc.nd rfl (Or.inl rfl) (S.Ei Cq rfl z_list PyProof.Rows.boot_list (S.Aa (S.pv 1) S.Ac)))
      (S.Ad (S.Aj (i:=3) Kc.nd rfl (Or.inl rfl) (S.Bf c_q_due (hr.mono (by decide)) (S.Aa (S.pv 1) S.Ac)))
      (S.Ad (S.Dd (S.Ak Qc (S.Br Bm rfl z_len PySem.boot_len (S.Aa (S.Dh (ts:=["_law_pair"]) (fs:=[]) rfl (Bg.of (sc:=Ah K5) (N:=["_law_script","_law_terms_here","_law_handed","_law_due_here","_law_found","_law_thing"]) rfl rfl (by decide+kernel)) (S.Dp (S.pv 3)) (fun _ _ _=>(S.Am (i:=0) (show List.Nodup (["_law_pair"]:List Str)by decide+kernel) rfl (Or.inl rfl))) (fun _ _ _=>(S.G3 (S.Ak Qc (S.Bv (Jg K) (S.pv 0) S.Ab (fun _ _=>rfl)) S.Ab (Al _)))) (fun _ _ _=>(S.pv 0))) S.Ac)) S.Ab (Al _)) (S.Ae (S.Ao (S.Dv (S.Bf c_q_refused (hr.mono (by decide)) (S.Aa (S.pv 2) S.Ac)) (S.Ip (S.Bx (X8 hr.units) (S.pv 2) (S.pv 1) (Al _)))))) S.Az)
      (S.Ad (S.Aj (i:=4) Kc.nd rfl (Or.inl rfl) (S.Bf c_root_sum (hr.mono (by decide)) (S.Aa (S.pv 2) S.Ac)))
      (S.Ad (S.Dd (S.Oj (S.Jo (S.Fq (S.En (S.Br Iw rfl z_isinstance PyProof.Rows.boot_isinstance (S.Aa (S.pv 4) (S.Aa (S.Dg (v:= .ty "tuple") rfl z_tuple PyProof.Rows.boot_tuple rfl) S.Ac))))) (S.Jo (S.Ak (J6 hr.units) (S.Ei Cq rfl z_list PyProof.Rows.boot_list (S.Aa (S.pv 4) S.Ac)) (S.pv 3) (Al _)) (S.Jo (S.Ak (J6 hr.units) (S.pv 2) (S.pv 1) (Al _)) (S.Ik (S.Ak Tc (S.Bf c_is_root_sum (hr.mono (by decide)) (S.Aa (S.pv 4) S.Ac)) S.Gg (Al _))))))) (S.Ae (S.Ao S.Gg)) S.Az)
      (S.Ad (S.Dd (S.Oj (S.Jo (S.Ak (J6 hr.units) (S.Bf c_root_sum (hr.mono (by decide)) (S.Aa (S.Ei Cq rfl z_list PyProof.Rows.boot_list (S.Aa (S.pv 4) S.Ac)) S.Ac)) (S.pv 4) (Al _)) (S.Ik (S.Ak (J6 hr.units) (S.Bf c_root_sum (hr.mono (by decide)) (S.Aa (S.N5 (S.pv 1) (S.Lw Ke S.Ab)) S.Ac)) (S.pv 4) (Al _))))) (S.Ae (S.Ao S.Gg)) S.Az)
      (S.Ad (S.Ft PassesOwn.never rfl (S.Dp (S.Bf c_q_others (hr.mono (by decide)) (S.Aa (S.pv 4) (S.Aa (S.Bf c_q_cell_at (hr.mono (by decide)) (S.Aa (S.pv 0) (S.Aa S.Ab S.Ac))) S.Ac)))) (S.Am (i:=5) Kc.nd rfl (Or.inl rfl)) (S.Ae (S.Dd (S.Ak Tc (S.Bf c_is_root_sum (hr.mono (by decide)) (S.Aa (S.pv 5) S.Ac)) S.Gg (Al _)) (S.Ae (S.Ao S.Gg)) S.Az)))
      (S.Ae (S.Ao S.Gg)))))))))),?_⟩
  refine Bj (fun σ' H'=>Same H H'/\∃(l1:Addr) (es:List (V × (Int × Rat))),σ'=[some (.ref a),some (.ref l1),none,none,none,none]/\Tm K H' l1 es) (fun M hM=> ?_) ?_
  . contradiction
    exact⟨a,ns,rfl,hS,fun l1 H1 es s1 g1 al ky h6=>hM _ _ ⟨s1,l1,es,rfl,g1,al,ky,h6⟩⟩
  rintro σ H1 ⟨s1,l1,es,rfl,tm⟩
  refine Bj (fun σ' H'=>Same H1 H'/\∃(l2:Addr),σ'=[some (.ref a),some (.ref l1),some (.ref l2),none,none,none]/\Tm K H' l2 es) (fun M hM=> ?_) ?_
  . contradiction
    refine⟨l1,_,rfl,.inl (.of tm.it),?_⟩
    (intro l2 hl2;generalize el2:upd _ l2 _=Gl2;obtain⟨sl2,gl2⟩:=nw hl2 el2;clear el2 hl2)
    exact hM _ _ ⟨sl2,l2,rfl,gl2,fun e he=>(tm.al e he).mono sl2,tm.ky,tm.le⟩
  rintro σ H2 ⟨s2,l2,rfl,tn⟩
  replace tm:=tm.mono s2
  replace s1:=s1.trans s2
  clear s2
  refine Bj (fun σ' H'=>Same H2 H'/\∃(z:Addr) (fs:List (V × (Int × Rat))),σ'=[some (.ref a),some (.ref l1),some (.ref l2),some (.ref z),none,none]/\Du K H' z fs (es.map fun e=>red e.2)) (fun M hM=> ?_) ?_
  . contradiction
    exact⟨l1,es,rfl,.of tm.it,tm.al,tm.ky,tm.le,fun z3 H3 fs s3 g3 al3 fl nf=>hM _ _ ⟨s3,z3,fs,rfl,g3,al3,nf,fl⟩⟩
  rintro σ H3 ⟨s3,z3,fs,rfl,du⟩
  replace tm:=tm.mono s3
  replace tn:=tn.mono s3
  replace s1:=s1.trans s3
  clear s3
  refine Bj (fun σ' H'=>Same H3 H'/\σ'=[some (.ref a),some (.ref l1),some (.ref l2),some (.ref z3),none,none]/\big (fs.map (·.2))<=3) (fun M hM=> ?_) ?_
  . contradiction
    refine⟨⟨_,.of du.it⟩,fun p4 n4=>J4 (es:=fs) (inj:=(·.1)) (fun e=>decide (1<e.2.1)) (·.1) (Nat.le_trans du.le (by decide)) n4 (Kv (.of du.it)) ?_ ?_⟩
    . intro e H4 R RF hm s4 hR hF
      obtain⟨b,x,eb,h1,h2,h3⟩:=(du.al e hm).mono s4
      contradiction
      rw [eb]
      refine Dj h1 (at0 _ _) ?_
      try contradiction
      by_cases hc:1<e.2.1
      . rw [if_pos hc]
        rw [<-eb]
        exact hR (by simpa using hc) _ (Same.refl _)
      . rw [if_neg hc]
        exact hF (by simpa using hc) _ (Same.refl _)
    intro H4 s4 h4
    have eb:((fs.filter fun e=>decide (1<e.2.1)).map (·.1)).length=big (fs.map (·.2)):=by
      unfold big
      rw [List.length_map,List.filter_map,List.length_map]
      rfl
    refine⟨p4,_,rfl,.inl (.of h4),?_⟩
    rw [eb]
    by_cases hb:3<big (fs.map (·.2))
    . rw [if_pos (by omega)]
      refine⟨l2,es,_,rfl,.of (tn.mono s4).it,(tn.mono s4).al,tn.ky,tn.le,du.nf,hb,fun H5 s5=> ?_⟩
      try contradiction
      have s45:=s4.trans s5
      refine R8 (.of (tn.mono s45).it) (tn.mono s45).al (.of (tm.mono s45).it) (tm.mono s45).al rfl ?_
      try contradiction
      exact k _
    . rw [if_neg (by omega)]
      exact hM _ _ ⟨s4,rfl,by omega⟩
  rintro σ H4 ⟨s4,rfl,hb⟩
  replace tm:=tm.mono s4
  replace tn:=tn.mono s4
  replace du:=du.mono s4
  replace s1:=s1.trans s4
  clear s4
  refine Bj (fun σ' H'=>Same H4 H'/\∃(z:Addr) (gs:List (V × (Int × Rat))),σ'=[some (.ref a),some (.ref l1),some (.ref l2),some (.ref z3),some (.ref z),none]/\Fo K H' z gs (es.map fun e=>red e.2)/\gs.map (·.2)=fs.map (·.2)) (fun M hM=> ?_) ?_
  . contradiction
    refine⟨l2,es,68,7,_,rfl,.of tn.it,tn.al,fun e he=> ?_,?_,by decide,?_,du.nf,hb,fun z H5 gs s5 rs=> ?_⟩
    . have:=tn.ky e he
      exact⟨this.1,by omega,by omega⟩
    . have:=tn.le
      omega
    . have:=Xb tn.le
      omega
    . have e:=rs.nf.uniq du.nf fun _=>rfl
      exact hM _ _ ⟨s5,z,gs,rfl,(tn.mono s5).big rs (Xb tn.le) (by rw [e];exact hb),e⟩
  rintro σ H5 ⟨s5,z,gs,rfl,fo,ef⟩
  replace tm:=tm.mono s5
  replace tn:=tn.mono s5
  replace du:=du.mono s5
  replace s1:=s1.trans s5
  clear s5
  rw [<-ef]at hb
  refine Bj (fun σ' H'=>Same H5 H'/\σ'=[some (.ref a),some (.ref l1),some (.ref l2),some (.ref z3),some (.ref z),none]) (fun M hM=> ?_) ?_
  . contradiction
    refine isa (.tup fo.it) Ek ?_
    try contradiction
    refine⟨z,_,rfl,.inr fo.it,?_⟩
    (intro l6 hl6;generalize el6:upd _ l6 _=Gl6;obtain⟨sl6,gl6⟩:=nw hl6 el6;clear el6 hl6)
    refine R8 (.of gl6) (fo.mono sl6).al (.of (du.mono sl6).it) (du.mono sl6).al ef ?_
    try contradiction
    refine R8 (.of (tn.mono sl6).it) (tn.mono sl6).al (.of (tm.mono sl6).it) (tm.mono sl6).al rfl ?_
    try contradiction
    have f6:=fo.mono sl6
    have r:rsB (gs.map (·.2))=true:=fo.nf.rsB hb fun e he=>by
      obtain⟨x,hx,rfl⟩:=List.mem_map.mp he
      exact(fo.ky x hx).2.2.1
    have tr:=Tr2.good f6.it f6.le f6.al fun e he=>⟨(f6.ky e he).1,by have:=(f6.ky e he).2.1;omega,(f6.ky e he).2.2.2⟩
    rw [r]at tr
    refine⟨_,true,rfl,tr,fun H7 s7=> ?_⟩
    exact⟨true,true,rfl,rfl,hM _ _ ⟨sl6.trans s7,rfl⟩⟩
  rintro σ H6 ⟨s6,rfl⟩
  replace tm:=tm.mono s6
  replace fo:=fo.mono s6
  replace s1:=s1.trans s6
  clear s6 tn du
  refine Bj (fun σ' H'=>Same H6 H'/\σ'=[some (.ref a),some (.ref l1),some (.ref l2),some (.ref z3),some (.ref z),none]) (fun M hM=> ?_) ?_
  . contradiction
    refine⟨z,_,rfl,.inr fo.it,?_⟩
    (intro l7 hl7;generalize el7:upd _ l7 _=Gl7;obtain⟨sl7,gl7⟩:=nw hl7 el7;clear el7 hl7)
    have f7:=fo.mono sl7
    refine⟨l7,gs,457,7,_,rfl,.of gl7,f7.al,fun e he=> ?_,?_,by decide,?_,by rw [f7.red];exact W9 f7.nf,hb,fun y H8 hs s8 rs=> ?_⟩
    . have:=f7.ky e he
      exact⟨this.1,by omega,by omega⟩
    . have:=f7.le
      omega
    . unfold Jx
      rw [List.length_map]
      have:=f7.le
      omega
    have f8:=f7.mono s8
    rw [f7.red]at rs
    refine Vo rs.it rs.al f8.it f8.al (rs.nf.uniq f8.nf fun i=>f8.nf.tot i) ?_
    try contradiction
    have t8:=tm.mono (sl7.trans s8)
    refine⟨l1,_,rfl,.of t8.it,?_⟩
    (intro l9 hl9;generalize el9:upd _ l9 _=Gl9;obtain⟨sl9,gl9⟩:=nw hl9 el9;clear el9 hl9)
    have f9:=f8.mono sl9
    have t9:=t8.mono sl9
    rw [<-List.map_reverse]at gl9
    have er:∀i,tot (es.reverse.map fun e=>red e.2) i=tot (es.map fun e=>red e.2) i:=fun i=>by rw [List.map_reverse,Rp]
    refine⟨l9,es.reverse,68,7,_,rfl,.of gl9,fun e he=>t9.al e (List.mem_reverse.mp he),fun e he=> ?_,?_,by decide,?_,Zu f9.nf er,hb,fun y2 H10 hs2 s10 rs2=> ?_⟩
    . have:=t9.ky e (List.mem_reverse.mp he)
      exact⟨this.1,by omega,by omega⟩
    . have:=t9.le
      rw [List.length_reverse]
      omega
    . have:=t9.le
      have:=Xb (es:=es.reverse) (by rw [List.length_reverse];exact t9.le)
      omega
    have f10:=f9.mono s10
    refine Vo rs2.it rs2.al f10.it f10.al (rs2.nf.uniq f10.nf er) ?_
    exact⟨false,rfl,hM _ _ ⟨((sl7.trans s8).trans sl9).trans s10,rfl⟩⟩
  rintro σ H7 ⟨s7,rfl⟩
  replace fo:=fo.mono s7
  replace s1:=s1.trans s7
  refine Bj (fun σ' H'=>True) (fun M hM=> ?_) ?_
  . contradiction
    refine Ph hS s1 (by decide) ?_
    try contradiction
    refine⟨z,gs,457,_,rfl,fo.it,fun e he=>⟨fo.al e he,(fo.ky e he).1,by have:=(fo.ky e he).2.1;omega,(fo.ky e he).2.2.2⟩,by have:=fo.le;omega,fun l H8 xs s8 g8 h64 tr=> ?_⟩
    try contradiction
    refine⟨⟨_,.of g8⟩,Qt (es:=xs) (inj:=id) (fun pre σ' H'=>Same H8 H'/\∃o5:Option V,σ'=[some (.ref a),some (.ref l1),some (.ref l2),some (.ref z3),some (.ref z),o5]) ⟨Same.refl _,_,rfl⟩ ?_ ?_ ?_⟩
    . rintro pre σ' H' ⟨t5,_⟩
      exact Gm (inj:=id) (by rw [List.map_id];exact .of (t5 _ _ g8))
    . rintro pre e post σ' H' he ⟨t5,o5,rfl⟩
      contradiction
      refine⟨_,false,rfl,(tr e (by rw [he];simp)).mono t5,fun H9 s9=> ?_⟩
      exact⟨false,false,rfl,rfl,t5.trans s9,_,rfl⟩
    . rintro σ' H' _
      exact hM _ _ trivial
  rintro σ H8 _
  contradiction
  exact k _
end
abbrev Fd (K:PySem.W.Frag) (x:Str) (st:Stmt):Prop:=∃(f:Addr) (od an:Option Addr) (sl:Array (Option Value)) (oc kV dc pm cd ct:Value),PySem.W.nsIn K mainGlobals x=some (some (.ref f))/\K.lookup f=some ⟨oc,od,.func (PySem.W.fnOf x x (Ge st) (Dk st) (Ah st) .none kV dc pm an cd ct),sl⟩/\PySem.W.codeIn K cd x=true/\PySem.W.keepIn K (.ref f)=true
theorem Dm {K:PySem.W.Frag}{h:Heap}{mg:Str->Option Value}{x:Str}{st:Stmt} (X:K.In h) (G:h.Ns mainGlobals mg) (d:Fd K x st) (ps:List Str) (hb:∀(kV doc pm:Value) (an:Option Addr) (cdv ct:Value) (us:List Value),us.length=ps.length->bindArgs (PySem.W.fnOf x x (Ge st) (Dk st) (Ah st) .none kV doc pm an cdv ct) ⟨us,[]⟩=pure (ps.zip us)):∃f fd,Df K mg x st ps f fd:=by
  obtain⟨f,_,_,_,_,_,_,_,_,_,a,l,c,k⟩:=d
  have F:=Vs (st:=st) l c k
  exact⟨_,_,F,F.binds hb,PySem.W.mg_of X G a⟩
theorem all_mk {l:PySem.W.OpenLaw}{w:World}{K:PySem.W.Frag}{h:Heap}{mg:Str->Option Value}{fa:Addr} (X:K.In h) (G:h.Ns mainGlobals mg) (hfa:mg "law"=some (.ref fa))
    (d1:Fd K "_law_cell_at" Fy) (d2:Fd K "divisor" Je) (d3:Fd K "fraction" Gz) (d4:Fd K "_law_terms" Jp) (d5:Fd K "_law_square_out" Cy) (d6:Fd K "plus" Tp) (d7:Fd K "times" Nr) (d8:Fd K "_law_due" Kw) (d9:Fd K "roots_in" Ew) (d10:Fd K "added_up" Fe) (d11:Fd K "root_floor" Er) (d12:Fd K "square_in" Gh) (d13:Fd K "root_sum" Gv) (d14:Fd K "_law_others" Gu) (d15:Fd K "_law_refused" Fz) (d16:Fd K "is_whole" Gw) (d17:Fd K "is_fraction" Dr) (d18:Fd K "is_root_term" Dc) (d19:Fd K "is_root_sum" Bo) (d20:Fd K "law" K5)
    {qTooGreat:Addr} (aTooGreat:PySem.W.nsIn K mainGlobals "TooGreat"=some (some (.ref qTooGreat)))
    {qCourtError:Addr} (aCourtError:PySem.W.nsIn K mainGlobals "CourtError"=some (some (.ref qCourtError)))
    {qNoPart:Addr} (aNoPart:PySem.W.nsIn K mainGlobals "NoPart"=some (some (.ref qNoPart)))
    {qNoInverse:Addr} (aNoInverse:PySem.W.nsIn K mainGlobals "NoInverse"=some (some (.ref qNoInverse)))
    {tMOST_ROOTS:Tok}
    {tGREATEST:Tok}
    (xcMOST_ROOTS:PySem.W.nsIn K mainGlobals "MOST_ROOTS"=some (some (.int 3 tMOST_ROOTS)))
    (xcGREATEST:PySem.W.nsIn K mainGlobals "GREATEST"=some (some (.int 1000000000000 tGREATEST)))
    (xkTooGreat:PySem.W.excIn K qTooGreat [.type "ValueError",.type "Exception",.type "BaseException",.type "object"] "ValueError.__new__"=true)
    (xigetattributeTooGreat:PySem.W.findIn K (.ref qTooGreat) "__getattribute__"=some (some (.builtin "BaseException.__getattribute__")))
    (xigetattrTooGreat:PySem.W.findIn K (.ref qTooGreat) "__getattr__"=some none)
    (xiclassTooGreat:PySem.W.findIn K (.ref qTooGreat) "__class__"=some (some (.builtin "object.__class__")))
    (xiobjectTooGreat:PySem.W.mroIn K qTooGreat (.type "object")=some true)
    (xiBaseExceptionTooGreat:PySem.W.mroIn K qTooGreat (.type "BaseException")=some true)
    (kiTooGreatCourtError:PySem.W.kitOne K (.ref qTooGreat) (.ref qCourtError)=some true)
    (kiTooGreatNoPart:PySem.W.kitOne K (.ref qTooGreat) (.ref qNoPart)=some false)
    (kiTooGreatNoInverse:PySem.W.kitOne K (.ref qTooGreat) (.ref qNoInverse)=some false)
    (zlen:PySem.W.nsIn K mainGlobals "len"=some none) (zabs:PySem.W.nsIn K mainGlobals "abs"=some none) (zrange:PySem.W.nsIn K mainGlobals "range"=some none) (zsorted:PySem.W.nsIn K mainGlobals "sorted"=some none) (ztuple:PySem.W.nsIn K mainGlobals "tuple"=some none) (zlist:PySem.W.nsIn K mainGlobals "list"=some none) (zisinstance:PySem.W.nsIn K mainGlobals "isinstance"=some none) (zint:PySem.W.nsIn K mainGlobals "int"=some none) (zbool:PySem.W.nsIn K mainGlobals "bool"=some none) (zall:PySem.W.nsIn K mainGlobals "all"=some none) (zzip:PySem.W.nsIn K mainGlobals "zip"=some none):
    ∃fd:FuncData,(∀(s:Shared) (v:Value),BindsTo s fd ⟨[v],[]⟩ [("_law_script",v)])/\∀base:Heap,K.In base->base.Ns mainGlobals mg->J0 l.prog w K mg base CX0 7 fa fd ["_law_script"] (U8 K):=by
  obtain⟨f20,_,an,sl,oc,kV,dc,pm,cd,ct,a20,l20,c20,k20⟩:=d20
  have e:=hfa.symm.trans (PySem.W.mg_of X G a20)
  cases e
  have z_len:=PySem.W.mg_none_of X G zlen
  have z_abs:=PySem.W.mg_none_of X G zabs
  have z_range:=PySem.W.mg_none_of X G zrange
  have z_sorted:=PySem.W.mg_none_of X G zsorted
  have z_tuple:=PySem.W.mg_none_of X G ztuple
  have z_list:=PySem.W.mg_none_of X G zlist
  have z_isinstance:=PySem.W.mg_none_of X G zisinstance
  have z_int:=PySem.W.mg_none_of X G zint
  have z_bool:=PySem.W.mg_none_of X G zbool
  have z_all:=PySem.W.mg_none_of X G zall
  have z_zip:=PySem.W.mg_none_of X G zzip
  have eTooGreat:=Uh aTooGreat
  have eCourtError:=Uh aCourtError
  have eNoPart:=Uh aNoPart
  have eNoInverse:=Uh aNoInverse
  have xc_MOST_ROOTS:∃u,mg "MOST_ROOTS"=some u/\RelV (V.int 3) u:=⟨_,PySem.W.mg_of X G xcMOST_ROOTS,⟨_,rfl⟩⟩
  have xc_GREATEST:∃u,mg "GREATEST"=some u/\RelV (V.int 1000000000000) u:=⟨_,PySem.W.mg_of X G xcGREATEST,⟨_,rfl⟩⟩
  have xk_TooGreat:Q0 K (cA K "TooGreat"):=by rw [eTooGreat];exact xkTooGreat
  have xm_TooGreat:mg "TooGreat"=some (.ref (cA K "TooGreat")):=by rw [eTooGreat];exact PySem.W.mg_of X G aTooGreat
  have xi_TooGreat:Rv K (cA K "TooGreat"):=by rw [eTooGreat];exact⟨xigetattributeTooGreat,xigetattrTooGreat,xiclassTooGreat,xiobjectTooGreat,xiBaseExceptionTooGreat⟩
  have xm_CourtError:mg "CourtError"=some (.ref (cA K "CourtError")):=by rw [eCourtError];exact PySem.W.mg_of X G aCourtError
  have ki_TooGreat_CourtError:PySem.W.kitOne K (.ref (cA K "TooGreat")) (.ref (cA K "CourtError"))=some true:=by rw [eTooGreat];rw [eCourtError];exact kiTooGreatCourtError
  have xm_NoPart:mg "NoPart"=some (.ref (cA K "NoPart")):=by rw [eNoPart];exact PySem.W.mg_of X G aNoPart
  have ki_TooGreat_NoPart:PySem.W.kitOne K (.ref (cA K "TooGreat")) (.ref (cA K "NoPart"))=some false:=by rw [eTooGreat];rw [eNoPart];exact kiTooGreatNoPart
  have xm_NoInverse:mg "NoInverse"=some (.ref (cA K "NoInverse")):=by rw [eNoInverse];exact PySem.W.mg_of X G aNoInverse
  have ki_TooGreat_NoInverse:PySem.W.kitOne K (.ref (cA K "TooGreat")) (.ref (cA K "NoInverse"))=some false:=by rw [eTooGreat];rw [eNoInverse];exact kiTooGreatNoInverse
  obtain⟨_,_,D1⟩:=Dm X G d1 ["_law_script","_law_k"] fun _ _ _ _ _ _ us hl=>match us,hl with | [_,_],_=>rfl
  obtain⟨_,_,D2⟩:=Dm X G d2 ["one","other"] fun _ _ _ _ _ _ us hl=>match us,hl with | [_,_],_=>rfl
  obtain⟨_,_,D3⟩:=Dm X G d3 ["top","bottom"] fun _ _ _ _ _ _ us hl=>match us,hl with | [_,_],_=>rfl
  obtain⟨_,_,D4⟩:=Dm X G d4 ["_law_script"] fun _ _ _ _ _ _ us hl=>match us,hl with | [_],_=>rfl
  obtain⟨_,_,D5⟩:=Dm X G d5 ["_law_d"] fun _ _ _ _ _ _ us hl=>match us,hl with | [_],_=>rfl
  obtain⟨_,_,D6⟩:=Dm X G d6 ["one","other"] fun _ _ _ _ _ _ us hl=>match us,hl with | [_,_],_=>rfl
  obtain⟨_,_,D7⟩:=Dm X G d7 ["one","other"] fun _ _ _ _ _ _ us hl=>match us,hl with | [_,_],_=>rfl
  obtain⟨_,_,D8⟩:=Dm X G d8 ["_law_terms_here"] fun _ _ _ _ _ _ us hl=>match us,hl with | [_],_=>rfl
  obtain⟨_,_,D9⟩:=Dm X G d9 ["one"] fun _ _ _ _ _ _ us hl=>match us,hl with | [_],_=>rfl
  obtain⟨_,_,D10⟩:=Dm X G d10 ["terms"] fun _ _ _ _ _ _ us hl=>match us,hl with | [_],_=>rfl
  obtain⟨_,_,D11⟩:=Dm X G d11 ["number"] fun _ _ _ _ _ _ us hl=>match us,hl with | [_],_=>rfl
  obtain⟨_,_,D12⟩:=Dm X G d12 ["d"] fun _ _ _ _ _ _ us hl=>match us,hl with | [_],_=>rfl
  obtain⟨_,_,D13⟩:=Dm X G d13 ["terms"] fun _ _ _ _ _ _ us hl=>match us,hl with | [_],_=>rfl
  obtain⟨_,_,D14⟩:=Dm X G d14 ["_law_found","_law_cell"] fun _ _ _ _ _ _ us hl=>match us,hl with | [_,_],_=>rfl
  obtain⟨_,_,D15⟩:=Dm X G d15 ["_law_terms_here"] fun _ _ _ _ _ _ us hl=>match us,hl with | [_],_=>rfl
  obtain⟨_,_,D16⟩:=Dm X G d16 ["thing"] fun _ _ _ _ _ _ us hl=>match us,hl with | [_],_=>rfl
  obtain⟨_,_,D17⟩:=Dm X G d17 ["thing"] fun _ _ _ _ _ _ us hl=>match us,hl with | [_],_=>rfl
  obtain⟨_,_,D18⟩:=Dm X G d18 ["thing"] fun _ _ _ _ _ _ us hl=>match us,hl with | [_],_=>rfl
  obtain⟨_,_,D19⟩:=Dm X G d19 ["thing"] fun _ _ _ _ _ _ us hl=>match us,hl with | [_],_=>rfl
  have F20:=Vs (st:=K5) l20 c20 k20
  have D20:Df K mg "law" K5 ["_law_script"] _ _:=⟨F20,F20.binds (ps:=["_law_script"]) fun _ _ _ _ _ _ us hl=>match us,hl with | [_],_=>rfl,PySem.W.mg_of X G a20⟩
  refine⟨PySem.W.fnOf "law" "law" (Ge K5) (Dk K5) (Ah K5) .none kV dc pm an cd ct,fun s v=> .of_eq rfl,fun base _ _=> ?_⟩
  have C_q_cell_at:=Nj (P:=l.prog) (w:=w) (base:=base) D1 z_len
  have C_divisor:=Qg (P:=l.prog) (w:=w) (base:=base) D2 z_abs
  have C_fraction:=N6 (P:=l.prog) (w:=w) (base:=base) D3 C_divisor
  have C_q_terms:=Qk (P:=l.prog) (w:=w) (base:=base) D4 z_range C_q_cell_at C_fraction
  have C_q_square_out:=Js (P:=l.prog) (w:=w) (base:=base) D5 z_range
  have C_plus:=W5 (P:=l.prog) (w:=w) (base:=base) D6 C_fraction
  have C_times:=Uc (P:=l.prog) (w:=w) (base:=base) D7 C_fraction
  have C_q_due:=Ve (P:=l.prog) (w:=w) (base:=base) D8 z_sorted C_q_square_out C_plus C_times
  have C_roots_in:=Oa (P:=l.prog) (w:=w) (base:=base) D9
  have CE_added_up:=Nv (P:=l.prog) (w:=w) (base:=base) D10 z_tuple z_len z_sorted xc_MOST_ROOTS xc_GREATEST xk_TooGreat xm_TooGreat C_plus C_roots_in
  have C_root_floor:=K6 (P:=l.prog) (w:=w) (base:=base) D11 z_range
  have C_square_in:=Lf (P:=l.prog) (w:=w) (base:=base) D12 C_root_floor
  have CE_root_sum:=Nx (P:=l.prog) (w:=w) (base:=base) D13 CE_added_up C_square_in C_times
  have C_root_sum:=CE_root_sum.calm (Kg K)
  have C_q_others:=Ny (P:=l.prog) (w:=w) (base:=base) D14 z_list
  have C_q_refused:=Mg (P:=l.prog) (w:=w) (base:=base) D15 z_isinstance xk_TooGreat xm_TooGreat xi_TooGreat xm_CourtError ki_TooGreat_CourtError xm_NoPart ki_TooGreat_NoPart xm_NoInverse ki_TooGreat_NoInverse CE_root_sum
  have C_is_whole:=Oe (P:=l.prog) (w:=w) (base:=base) D16 z_isinstance z_int z_bool
  have C_is_fraction:=Jw (P:=l.prog) (w:=w) (base:=base) D17 z_isinstance z_tuple z_len C_is_whole C_divisor
  have C_is_root_term:=Jq (P:=l.prog) (w:=w) (base:=base) D18 z_isinstance z_tuple z_len xc_GREATEST C_is_whole C_is_fraction
  have C_is_root_sum:=Jy (P:=l.prog) (w:=w) (base:=base) D19 z_all z_isinstance z_tuple z_len z_zip xc_MOST_ROOTS C_roots_in C_is_root_term C_square_in
  exact X3 (P:=l.prog) (w:=w) (base:=base) D20 z_list z_len z_isinstance z_tuple C_q_terms C_q_due C_root_sum C_q_others C_q_cell_at C_q_refused C_is_root_sum
theorem walk {l:PySem.W.OpenLaw}{q:Program}{loose:List Str}{XP:(Str->Option Value)->Heap->Prop}{YP:World->Heap->Prop}{d:DefRec}{K:Params->PySem.W.Frag} (hn:l.most=some 63) (hdf:d.params.defaults=[])
    (hY:∀(w:World) (h:Heap),YP w h->(K w.params).In h)
    (F:∀(w:World) (mg:Str->Option Value) (fa:Addr) (h:Heap),(K w.params).In h->h.Ns mainGlobals mg->mg d.name=some (.ref fa)->
      ∃fd:FuncData,(∀(s:Shared) (u:Value),BindsTo s fd ⟨[u],[]⟩ [("_law_script",u)])/\∀base:Heap,(K w.params).In base->base.Ns mainGlobals mg->J0 l.prog w (K w.params) mg base CX0 7 fa fd ["_law_script"] (U8 (K w.params))):
    PySem.W.WalkO q loose XP YP l.row.toRowW d [] (fun f vs=>PySem.call f vs):=
  L2.Qx (n:=63) (k:=7) (x:="_law_script") (CX:=fun _=>CX0) (sp:=fun w=>U8 (K w.params)) hn (by decide) hdf ⟨rfl,by decide,by decide⟩ hY F (fun _ _ a ns hl _ hS=>⟨a,ns,rfl,hS,hl,fun _=>rfl⟩) fun _ _ _ _ _ z=>z
end Z
namespace PySem.W.Fast
def tw10011346878359536722:=()
def tw10014979059132883599:=()
def tw10031548908849837609:=()
def tw10183264851911317721:=()
def tw10242277248866346315:=()
def tw10328968143563570984:=()
def tw10417189505362258621:=()
def tw10520612747830240262:=()
def tw1073005340410793884:=()
def tw10742359261712426275:=()
def tw10778640719863826460:=()
def tw10818875294980865749:=()
def tw11055662008205335764:=()
def tw11069220575900733852:=()
def tw11117863820236410551:=()
def tw11127051402015056423:=()
def tw11175470905672917359:=()
def tw11668045555310636789:=()
def tw11807384504120015755:=()
def tw11819600949520845065:=()
def tw11829733099723281513:=()
def tw119916289019268278:=()
def tw12157019486014681175:=()
def tw12323305851179931605:=()
def tw12492871971631911308:=()
def tw1260881396433372149:=()
def tw12700195002696075661:=()
def tw12732503367317036106:=()
def tw12744187596850742795:=()
def tw12762381269298237777:=()
def tw12863003003108568416:=()
def tw12873160457021579175:=()
def tw12898003559632151787:=()
def tw12949487138980388035:=()
def tw13012773177934270056:=()
def tw13168953338290267244:=()
def tw13391237862109160444:=()
def tw13417782506924756775:=()
def tw13516394550269787976:=()
def tw13900042211289736653:=()
def tw14174962858317029569:=()
def tw14176589702118688975:=()
def tw14302527331926675985:=()
def tw14390098873127271141:=()
def tw14424420793309999857:=()
def tw14457170943616786936:=()
def tw14526804447015824468:=()
def tw14589020984100917782:=()
def tw145986626351492943:=()
def tw14604093871759025109:=()
def tw14977879593136200483:=()
def tw14989134908177639519:=()
def tw14998181975928547084:=()
def tw15061091562485671553:=()
def tw15143004015809688942:=()
def tw1526582038557198654:=()
def tw15364551868566781145:=()
def tw15396412744959560219:=()
def tw15520390066048765925:=()
def tw158526500227825771:=()
def tw15854297947868200550:=()
def tw15885029279056143956:=()
def tw16029670008740803658:=()
def tw16033411242492132048:=()
def tw16114024442993883381:=()
def tw16139332358147218:=()
def tw1615142563598558214:=()
def tw16181696265475979581:=()
def tw16246064000426397640:=()
def tw16431792727180248714:=()
def tw16470568631393117197:=()
def tw16491060460803450066:=()
def tw16491756334078330118:=()
def tw16585385740576231393:=()
def tw16590455286872464457:=()
def tw16628649741863538225:=()
def tw1665593277943840969:=()
def tw16698713221361247090:=()
def tw1675529818286976238:=()
def tw16867290727311839525:=()
def tw16983080682644222227:=()
def tw17018124067604503735:=()
def tw17250758142981910467:=()
def tw17480050333630590961:=()
def tw17506565288485676431:=()
def tw17542872975359203596:=()
def tw17768333442859033828:=()
def tw1782891582489329407:=()
def tw17900139452056211418:=()
def tw18035817648342869087:=()
def tw18186476685890239966:=()
def tw18272970546483575100:=()
def tw1844515899548094148:=()
def tw1858591222462566352:=()
def tw1877448873998677381:=()
def tw1976971554510771535:=()
def tw2008380108713335438:=()
def tw2083858961565003972:=()
def tw2184941184508865156:=()
def tw2204272237633983842:=()
def tw2240650249505343338:=()
def tw2324125667617349257:=()
def tw2325032343523157802:=()
def tw2416776583403732271:=()
def tw2483017954065350495:=()
def tw248752121668632746:=()
def tw2544381473499438279:=()
def tw2731027915211575064:=()
def tw290693391164466238:=()
def tw3016625559526515429:=()
def tw3018549169116729387:=()
def tw3309508200844331157:=()
def tw3421638790361439857:=()
def tw3425648574537550816:=()
def tw3442852610073457258:=()
def tw3450139108037446340:=()
def tw3785066787675881273:=()
def tw3824618724657261998:=()
def tw4034474187635102287:=()
def tw4248146264955422225:=()
def tw4497775655129966947:=()
def tw4549116868168307617:=()
def tw4674845045477254977:=()
def tw4681523023127704543:=()
def tw4750423357360693748:=()
def tw4806251308140818304:=()
def tw4824102914812976850:=()
def tw4926216810712512533:=()
def tw5149556663064058271:=()
def tw5195008915828944662:=()
def tw5217320058015555921:=()
def tw5258031200873408468:=()
def tw5350817795526470520:=()
def tw5425388993176189643:=()
def tw5449546459951463408:=()
def tw5640219177081964562:=()
def tw5692520218335603187:=()
def tw5799275323953678316:=()
def tw586365975278430202:=()
def tw591004305749010267:=()
def tw5922632521678174938:=()
def tw5926138384688280022:=()
def tw5990234233810514212:=()
def tw6215454811128240339:=()
def tw6246324253289941795:=()
def tw6417207978416884779:=()
def tw6652094660046395047:=()
def tw6678509797608559894:=()
def tw6754116455045159353:=()
def tw6957985294019802443:=()
def tw7017614854303179471:=()
def tw7065959996973737793:=()
def tw7135453277413828192:=()
def tw7401317544308716774:=()
def tw7493304834433380564:=()
def tw7670987665368020412:=()
def tw7722970984628727871:=()
def tw7827096788856825633:=()
def tw7833555762085389821:=()
def tw787924504301805513:=()
def tw7901118081059485706:=()
def tw800362721545059652:=()
def tw8020030441692247171:=()
def tw8048783934266760269:=()
def tw8253524749971064032:=()
def tw8274985448746262926:=()
def tw8278007634009682678:=()
def tw8329901088028433409:=()
def tw8346939421072943946:=()
def tw8432303652406353884:=()
def tw8461305609049248063:=()
def tw8632576837315139748:=()
def tw8892314119889956199:=()
def tw8904929054675758356:=()
def tw8950485733784772868:=()
def tw8974655373740859672:=()
def tw9041383877137264744:=()
def tw9093740855567477557:=()
def tw9133627800447362570:=()
def tw9253895078216507392:=()
def tw9705722507882582225:=()
def tw9719736031493662010:=()
def tw9721872354879599794:=()
def tw9738478960818875551:=()
def tw9866893596523933930:=()
end PySem.W.Fast
open PySem PySem.W PyProof.Rows
set_option maxRecDepth 100000 in
set_option maxHeartbeats 0 in
theorem PySem.Challenge.cw_rootcourt_k64_root_sums_told_holds : PySem.Challenge.rw_rootcourt_k64_root_sums_told.Holds := by
  w_on;o_law;k_head;(case hw=>w_witness2)
  k_fill
  refine Z.walk (l:=PySem.Challenge.rw_rootcourt_k64_root_sums_told) rfl rfl (fun w h Y=>PySem.W.kIn_of Y) ?F
  case F=>
    intro w mg fa h KX G hmg
    refine' Z.all_mk KX G hmg ?d1 ?d2 ?d3 ?d4 ?d5 ?d6 ?d7 ?d8 ?d9 ?d10 ?d11 ?d12 ?d13 ?d14 ?d15 ?d16 ?d17 ?d18 ?d19 ?d20 ?aTooGreat ?aCourtError ?aNoPart ?aNoInverse ?xcMOST_ROOTS ?xcGREATEST ?xkTooGreat ?xigetattributeTooGreat ?xigetattrTooGreat ?xiclassTooGreat ?xiobjectTooGreat ?xiBaseExceptionTooGreat ?kiTooGreatCourtError ?kiTooGreatNoPart ?kiTooGreatNoInverse ?zlen ?zabs ?zrange ?zsorted ?ztuple ?zlist ?zisinstance ?zint ?zbool ?zall ?zzip
    (case aTooGreat=>k_is);(case aCourtError=>k_is);(case aNoPart=>k_is);(case aNoInverse=>k_is);(case xcMOST_ROOTS=>k_is);(case xcGREATEST=>k_is);(case xkTooGreat=>k_exc);(case xigetattributeTooGreat=>k_is);(case xigetattrTooGreat=>k_is);(case xiclassTooGreat=>k_is);(case xiobjectTooGreat=>k_is);(case xiBaseExceptionTooGreat=>k_is);(case kiTooGreatCourtError=>kit_is);(case kiTooGreatNoPart=>kit_is);(case kiTooGreatNoInverse=>kit_is)
    all_goals first | k_is | exact⟨_,_,_,_,_,_,_,_,_,_,by k_is,by k_is,by k_is,by k_is⟩
