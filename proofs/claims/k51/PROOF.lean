import PyProof.Rows.All
import Wide.All
import OpenK.AllK
import Wide.FinOn
import Lean
import PyProof.EqAt
import PyProof.EqKinds
import PyProof.TupleCall
import PySem.Challenge.RW_rootcourt_k51_divisions_by_a_number
set_option maxHeartbeats 4000000
set_option Elab.async false
set_option linter.all false
set_option compiler.extract_closed false
set_option maxRecDepth 100000
namespace L2
open PySem PySem.Spec PyProof.Rows
noncomputable abbrev Key:=Sum Int Str
noncomputable def Abb:Key->Value->Bool
 | .inl k,v=>Value.isInt k v
 | .inr x,v=>Value.isStrOf x v
noncomputable def Afd (w:World):Key->Int
 | .inl k=>hashInt k
 | .inr x=>hashStr w x
theorem Cr:∀ {k:Key}{v:Value},Abb k v=true->(∃i t,k=Sum.inl i/\v=Value.int i t)\/(∃x t,k=Sum.inr x/\v=Value.str x t)
 | .inl i,v,h=>by
   obtain⟨t,e⟩:=Value.isInt_shape (k:=i) (v:=v) h
   exact .inl ⟨i,t,rfl,e⟩
 | .inr x,v,h=>by
   obtain⟨t,e⟩:=Value.isStrOf_shape (x:=x) (v:=v) h
   exact .inr ⟨x,t,rfl,e⟩
theorem Abd (a b:Int):decide ((Sum.inl a:Key)=Sum.inl b)=(a==b):=by
 by_cases e:a=b
 . subst e;simp
 . have h:¬(Sum.inl a:Key)=Sum.inl b:=fun q=>e (Sum.inl.inj q)
   rw [decide_eq_false h]
   exact(beq_eq_false_iff_ne.mpr e).symm
theorem Abg (a b:Str):decide ((Sum.inr a:Key)=Sum.inr b)=decide (a=b):=by
 by_cases e:a=b
 . subst e;simp
 . have h:¬(Sum.inr a:Key)=Sum.inr b:=fun q=>e (Sum.inr.inj q)
   rw [decide_eq_false h,decide_eq_false e]
theorem Abe (a:Int) (b:Str):decide ((Sum.inl a:Key)=Sum.inr b)=false:=decide_eq_false (fun q=>nomatch q)
theorem Abf (a:Str) (b:Int):decide ((Sum.inr a:Key)=Sum.inl b)=false:=decide_eq_false (fun q=>nomatch q)
noncomputable def Vd (prog:Program) (w:World):PySem.KeyKind prog w Key where
 is:=Abb
 hash:=Afd w
 inj:=fun v a b ha hb=>by
  rcases Cr ha with⟨i,t,rfl,rfl⟩ | ⟨x,t,rfl,rfl⟩
  . rcases Cr hb with⟨j,u,rfl,e⟩ | ⟨y,u,rfl,e⟩
    . injection e with e1 _;rw [e1]
    . exact nomatch e
  . rcases Cr hb with⟨j,u,rfl,e⟩ | ⟨y,u,rfl,e⟩
    . exact nomatch e
    . injection e with e1 _;rw [e1]
 byValue:=fun k v h=>by
  rcases Cr h with⟨i,t,rfl,rfl⟩ | ⟨x,t,rfl,rfl⟩<;>rfl
 pyHash:=fun hv h=>by
  rcases Cr hv with⟨i,t,rfl,rfl⟩ | ⟨x,t,rfl,rfl⟩
  . exact wpAny_pyHash_int h
  . exact wpAny_pyHash_str h
 eqBool:=fun hu hv h=>by
  rcases Cr hu with⟨i,t,rfl,rfl⟩ | ⟨x,t,rfl,rfl⟩
  . rcases Cr hv with⟨j,u,rfl,rfl⟩ | ⟨y,u,rfl,rfl⟩
    . rw [Abd]at h;exact wpAny_eqBool_int h
    . rw [Abe]at h;exact SeqAt.EqAt.int_str i t y u _ _ _ _ h
  . rcases Cr hv with⟨j,u,rfl,rfl⟩ | ⟨y,u,rfl,rfl⟩
    . rw [Abf]at h;exact SeqAt.EqAt.str_int x t j u _ _ _ _ h
    . rw [Abg]at h;exact wpAny_eqBool_str h
 «strs» :=fun k x t v h=>by
  rcases Cr h with⟨i,u,rfl,e⟩ | ⟨y,u,rfl,e⟩
  . exact nomatch e
  . injection e with e1 _
    subst e1
    cases v<;>rfl
end L2
namespace L2
open PySem PySem.Spec PyProof.Rows
inductive V where
 | non | bl (b:Bool) | int (i:Int) | str (x:Str) | byt (b:Array UInt8) | flt (b:UInt64) | ref (a:Addr) | ty (n:String)
 deriving DecidableEq
noncomputable def RelV:V->Value->Prop
 | .non,u=>u=Value.none
 | .bl b,u=>u=Value.bool b
 | .int i,u=>∃t,u=Value.int i t
 | .str x,u=>∃t,u=Value.str x t
 | .byt b,u=>∃t,u=Value.bytes b t
 | .flt b,u=>∃t,u=Value.float b t
 | .ref a,u=>u=Value.ref a
 | .ty n,u=>u=Value.type n
noncomputable abbrev Vals:List V->List Value->Prop:=Paired RelV
theorem Vals.length {xs:List V}{us:List Value} (r:Vals xs us):xs.length=us.length:=Paired.length r
theorem Vals.get:∀ {xs:List V}{us:List Value}{i:Nat}{x:V},Vals xs us->xs[i]? =some x->∃u,us[i]? =some u/\RelV x u
 | _,_,_,_,.nil,e=>by simp at e
 | _,_,0,_,.cons r _,e=>by simp at e;subst e;exact⟨_,rfl,r⟩
 | _,_,i+1,x,.cons _ t,e=>by
   obtain⟨u,h1,h2⟩:=Vals.get (i:=i) (x:=x) t (by simpa using e)
   exact⟨u,by simpa using h1,h2⟩
theorem Vals.set {x:V}{u:Value} (r:RelV x u):∀ {xs:List V}{us:List Value} (i:Nat),Vals xs us->Vals (xs.set i x) (us.set i u)
 | _,_,_,.nil=> .nil
 | _,_,0,.cons _ t=> .cons r t
 | _,_,i+1,.cons q t=> .cons q (Vals.set r i t)
theorem Vals.append:∀ {xs ys:List V}{us ws:List Value},Vals xs us->Vals ys ws->Vals (xs++ys) (us++ws)
 | _,_,_,_,.nil,s=>s
 | _,_,_,_,.cons r t,s=> .cons r (Vals.append t s)
theorem Vals.take:∀ {xs:List V}{us:List Value} (n:Nat),Vals xs us->Vals (xs.take n) (us.take n)
 | _,_,0,_=> .nil
 | _,_,_+1,.nil=> .nil
 | _,_,n+1,.cons r t=> .cons r (Vals.take n t)
theorem Vals.drop:∀ {xs:List V}{us:List Value} (n:Nat),Vals xs us->Vals (xs.drop n) (us.drop n)
 | _,_,0,r=>r
 | _,_,_+1,.nil=> .nil
 | _,_,n+1,.cons _ t=>Vals.drop n t
noncomputable def Wu:Option V->Option Value->Prop
 | some v,some u=>RelV v u
 | none,none=>True
 | _,_=>False
noncomputable def KV {κ:Type}:List (κ × V)->List (κ × Value)->Prop:=Paired fun(p:κ × V) (q:κ × Value)=>p.1=q.1/\RelV p.2 q.2
noncomputable def kV:Key->V
 | .inl i=> .int i
 | .inr x=> .str x
inductive HO where
 | lst (xs:List V)
 | tup (xs:List V)
 | dK (kvs:List (Key × V)) | dT (kvs:List (List Key × V))
 | set (S:Int->Bool) (n:Nat)
 | ins (C dx:Addr) (fs:List (Str × V))
 | own (x:Addr)
 | xd (fs:List (Str × V))
 | met (f x:Addr)
 | rng (lo hi:Int)
 | frz (o:Obj) (u:HO)
 | tbl (ps:Array Value)
 | ext (φ:Heap->Prop)
noncomputable abbrev Hp:=Addr->Option HO
noncomputable def upd (H:Hp) (a:Addr) (o:HO):Hp:=fun b=>if b=a then some o else H b
theorem Ah {H:Hp}{a:Addr}{o:HO}:upd H a o a=some o:=by unfold upd;rw [if_pos rfl]
theorem Bb {H:Hp}{a b:Addr}{o:HO} (h:b≠a):upd H a o b=H b:=by unfold upd;rw [if_neg h]
theorem Bj {H:Hp}{a b:Addr}{o:HO} (h:H a=some o) (h':H b=none):a≠b:=by
 intro e;subst e;rw [h]at h';cases h'
section
variable (P:Program) (w:World)
noncomputable def Fj (H:Hp) (h:Heap) (a:Addr):HO->Prop
 | .lst xs=>xs.length<=sizeLine/\∃(its:List Value) (n:Nat),Vals xs its/\h.get? a=some { cls:= .type "list",data:= .seq its.toArray n}
 | .tup xs=>xs.length<=sizeLine/\∃its:List Value,Vals xs its/\IsTup h a its.toArray
 | .dK kvs=>kvs.length<=sizeLine/\(a==sysModules)=false/\∃vs,KV kvs vs/\h.DictOf (Vd P w) a vs
 | .dT kvs=>kvs.length<=sizeLine/\(a==sysModules)=false/\∃xs:List (List Key × Addr × Value),
    Paired (fun(p:List Key × V) (q:List Key × Addr × Value)=>p.1=q.1/\H q.2.1=some (.tup (p.1.map kV))/\RelV p.2 q.2.2) kvs xs/\
    ∃o es ep,h.get? a=some o/\o.ExactDict/\o.data= .dict es ep/\es.toList=xs.map (entryOfKey (tupleKind (Vd P w)))/\(xs.map (·.1)).Nodup
 | .set S n=>h.SetOf (intKind P w) a S n
 | .ins C dx fs=>H dx=some (.own a)/\fs.length<=1000/\dx≠a/\h.get? a=some (PySem.W.instObj C dx)/\
    ∃mA,h.Ns1 dx mA/\(∀f,Wu (fs.lookup f) (mA f))/\PySem.Within mA (fs.map (·.1))
 | .own _=>∃o,h.get? a=some o
 | .xd fs=>∃mA,h.Ns1 a mA/\∀f,Wu (fs.lookup f) (mA f)
 | .rng lo hi=>∃t u v,h.get? a=some { cls:= .type "range",data:= .fields #[.int lo t,.int hi u,.int 1 v]}
 | .frz o u=>h.get? a=some o/\Fj H h a u
 | .tbl ps=>h.get? a=some { cls:= .none,data:= .fields ps}
 | .met f x=>h.get? a=some (PySem.W.methodObj (.ref f) (.ref x))
 | .ext φ=>φ h/\(∃o,h.get? a=some o)/\∀h1 h2:Heap,φ h1->(∀o,h1.get? a=some o->h2.get? a=some o)->φ h2
noncomputable def HOk (H:Hp) (h:Heap):Prop:=∀a o,H a=some o->Fj P w H h a o
end
section
variable {P:Program}{w:World}{H H':Hp}{h h':Heap}{a:Addr}{o:HO}
theorem Fj.lt (x:Fj P w H h a o):a<h.objs.size:=by
 cases o with
 | lst xs=>obtain⟨_,_,_,_,e⟩:=x;exact Heap.lt_size e
 | tup xs=>obtain⟨_,_,_,p⟩:=x;exact p.lt
 | dK kvs=>obtain⟨_,_,_,_,o,_,_,e,_⟩:=x;exact Heap.lt_size e
 | dT kvs=>obtain⟨_,_,_,_,o,_,_,e,_⟩:=x;exact Heap.lt_size e
 | set S n=>obtain⟨o,_,_,_,e,_⟩:=x;exact Heap.lt_size e
 | ins C dx fs=>obtain⟨_,_,_,e,_⟩:=x;exact Heap.lt_size e
 | own y=>obtain⟨_,e⟩:=x;exact Heap.lt_size e
 | xd fs=>obtain⟨_,⟨_,_,_,e,_⟩,_⟩:=x;exact Heap.lt_size e
 | rng lo hi=>obtain⟨_,_,_,e⟩:=x;exact Heap.lt_size e
 | frz ob u=>obtain⟨e,_⟩:=x;exact Heap.lt_size e
 | tbl ps=>exact Heap.lt_size (show h.get? a=some _ from x)
 | met f y=>exact Heap.lt_size (show h.get? a=some _ from x)
 | ext φ=>obtain⟨_,⟨_,e⟩,_⟩:=x;exact Heap.lt_size e
theorem Paired.mapP {α β:Type}{F G:α->β->Prop}:∀ {l₁:List α}{l₂:List β},Paired F l₁ l₂->(∀a b,F a b->G a b)->Paired G l₁ l₂
 | _,_,.nil,_=> .nil
 | _,_,.cons r t,f=> .cons (f _ _ r) (Paired.mapP t f)
theorem Fj.stay (x:Fj P w H h a o) (k:∀b u,(b=a\/H b=some (.own a))->h.get? b=some u->h'.get? b=some u)
 (ho:∀b,H b=some (.own a)->H' b=some (.own a)) (ht:∀b xs,H b=some (.tup xs)->H' b=some (.tup xs)):Fj P w H' h' a o:=by
 induction o with
 | lst xs=>obtain⟨z,its,n,r,e⟩:=x;exact⟨z,its,n,r,k _ _ (.inl rfl) e⟩
 | tup xs=>obtain⟨z,its,r,ob,e,c⟩:=x;exact⟨z,its,r,ob,k _ _ (.inl rfl) e,c⟩
 | dK kvs=>obtain⟨z,y,vs,r,ob,es,ep,e,c⟩:=x;exact⟨z,y,vs,r,ob,es,ep,k _ _ (.inl rfl) e,c⟩
 | dT kvs=>
   obtain⟨z,y,xs,r,ob,es,ep,e,c⟩:=x
   exact⟨z,y,xs,Paired.mapP r fun p q z=>⟨z.1,ht _ _ z.2.1,z.2.2⟩,ob,es,ep,k _ _ (.inl rfl) e,c⟩
 | set S n=>obtain⟨ob,es,ep,t,e,c⟩:=x;exact⟨ob,es,ep,t,k _ _ (.inl rfl) e,c⟩
 | ins C dx fs=>
   obtain⟨d,z,ne,e,mA,⟨od,es,ep,e2,c⟩,r⟩:=x
   exact⟨ho _ d,z,ne,k _ _ (.inl rfl) e,mA,⟨od,es,ep,k _ _ (.inr d) e2,c⟩,r⟩
 | own y=>obtain⟨ob,e⟩:=x;exact⟨ob,k _ _ (.inl rfl) e⟩
 | xd fs=>obtain⟨mA,⟨od,es,ep,e,c⟩,r⟩:=x;exact⟨mA,⟨od,es,ep,k _ _ (.inl rfl) e,c⟩,r⟩
 | rng lo hi=>obtain⟨t,u,v,e⟩:=x;exact⟨t,u,v,k _ _ (.inl rfl) e⟩
 | frz ob u ih=>obtain⟨e,q⟩:=x;exact⟨k _ _ (.inl rfl) e,ih q⟩
 | tbl ps=>
   have e:h.get? a=some { cls:= .none,data:= .fields ps}:=x
   show h'.get? a=some { cls:= .none,data:= .fields ps}
   exact k a _ (.inl rfl) e
 | met f y=>
   have e:h.get? a=some (PySem.W.methodObj (.ref f) (.ref y)):=x
   show h'.get? a=some (PySem.W.methodObj (.ref f) (.ref y))
   exact k a _ (.inl rfl) e
 | ext φ=>obtain⟨p,⟨o,e⟩,st⟩:=x;exact⟨st _ _ p fun o q=>k _ _ (.inl rfl) q,⟨o,k _ _ (.inl rfl) e⟩,st⟩
theorem HOk.lt (x:HOk P w H h) (e:H a=some o):a<h.objs.size:=(x a o e).lt
theorem HOk.fresh (x:HOk P w H h) (e:h.objs.size<=a):H a=none:=by
 cases q:H a with
 | none=>rfl
 | some u=>exact absurd (Nat.lt_of_lt_of_le (x.lt q) e) (Nat.lt_irrefl _)
theorem HOk.kept (x:HOk P w H h) (k:∀b u,h.get? b=some u->h'.get? b=some u):HOk P w H h':=fun a o e=>
 (x a o e).stay (fun b u _ q=>k b u q) (fun _ q=>q) fun _ _ q=>q
theorem HOk.laid (x:HOk P w H h) (k:∀b u,h.get? b=some u->h'.get? b=some u) (hp:h.objs.size<=a) (new:Fj P w (upd H a o) h' a o):HOk P w (upd H a o) h':=fun b u e=>by
 have hn:=x.fresh hp
 by_cases hb:b=a
 . subst hb;rw [Ah]at e;cases e;exact new
 . rw [Bb hb]at e
   exact(x b u e).stay (fun c v _ q=>k c v q) (fun c q=>by rw [Bb (Bj q hn)];exact q) fun c xs q=>by rw [Bb (Bj q hn)];exact q
end
noncomputable def Rd (H:Hp) (a:Addr) (u:HO):Prop:=H a=some u\/∃o,H a=some (.frz o u)
theorem Rd.of {H:Hp}{a:Addr}{u:HO} (h:H a=some u):Rd H a u:= .inl h
theorem Rd.ok {P:Program}{w:World}{H:Hp}{h:Heap}{a:Addr}{u:HO} (r:Rd H a u) (x:HOk P w H h):Fj P w H h a u:=by
 rcases r with r | ⟨o,r⟩
 . exact x a u r
 . obtain⟨_,q⟩:=x a _ r
   exact q
noncomputable def Mut:Option HO->Prop
 | some (.lst _)=>True
 | some (.dK _)=>True
 | some (.dT _)=>True
 | some (.set _ _)=>True
 | some (.ins _ _ _)=>True
 | some (.ext _)=>True
 | _=>False
section
variable {P:Program}{w:World}{H:Hp}{h h':Heap}{x e:Addr}{o':HO}
theorem HOk.write (ok:HOk P w H h) (mu:Mut (H x)) (he:e=x\/H e=some (.own x)) (k:∀b u,b≠e->h.get? b=some u->h'.get? b=some u) (heo:∃u,h'.get? e=some u)
 (new:Fj P w (upd H x o') h' x o'):HOk P w (upd H x o') h':=fun b u q=>by
 have nown:∀c y,H c=some (.own y)->c≠x:=fun c y r z=>by subst z;rw [r]at mu;exact mu
 have ntup:∀c xs,H c=some (.tup xs)->c≠x:=fun c xs r z=>by subst z;rw [r]at mu;exact mu
 by_cases hb:b=x
 . subst hb;rw [Ah]at q;cases q;exact new
 . rw [Bb hb]at q
   by_cases hbe:b=e
   . have q':H b=some (.own x):=by
      rcases he with z | z
      . exact absurd (hbe.trans z) hb
      . rw [hbe];exact z
     rw [q]at q';cases q'
     obtain⟨v,hv⟩:=heo
     exact⟨v,by rw [hbe];exact hv⟩
   . refine(ok b u q).stay (fun c v hc r=>k c v ?_ r) (fun c r=>by rw [Bb (nown c b r)];exact r) fun c xs r=>by rw [Bb (ntup c xs r)];exact r
     rcases hc with rfl | hc
     . exact hbe
     . rintro rfl
       rcases he with z | z
       . exact nown c b hc z
       . rw [hc]at z;cases z;exact hb rfl
end
structure Un (fs ex:List Addr) (H H':Hp) (h h':Heap):Prop where
 keep:∀b o,h.get? b=some o->H b=none->b∉fs->b∉ex->h'.get? b=some o
 slot:∀b o,h.get? b=some o->H b=none->b∈fs->b∉ex->∃sl,h'.get? b=some { o with slots:=sl}
 free:∀b o,h.get? b=some o->H b=none->b∉ex->H' b=none
 there:∀b o,h.get? b=some o->b∉ex->∃o',h'.get? b=some o'
 tups:∀b xs,H b=some (.tup xs)->H' b=some (.tup xs)
 frzs:∀b o u,H b=some (.frz o u)->H' b=some (.frz o u)
 tbls:∀b ps,H b=some (.tbl ps)->∃more,H' b=some (.tbl (ps++more))
section
variable {fs fs' ex ex':List Addr}{H H1 H2:Hp}{h h1 h2 h':Heap}{a x e:Addr}{o:HO}
theorem Un.any (u:Un fs ex H H1 h h1) {b:Addr}{ob:Obj} (q:h.get? b=some ob) (n:H b=none) (hx:b∉ex):∃sl,h1.get? b=some { ob with slots:=sl}:=by
 by_cases hb:b∈fs
 . exact u.slot b ob q n hb hx
 . exact⟨ob.slots,u.keep b ob q n hb hx⟩
theorem Un.trans (a:Un fs ex H H1 h h1) (b:Un fs ex H1 H2 h1 h2):Un fs ex H H2 h h2 where
 keep:=fun c ob q n hc hx=>b.keep c ob (a.keep c ob q n hc hx) (a.free c ob q n hx) hc hx
 slot:=fun c ob q n hc hx=>by
  obtain⟨sl,e1⟩:=a.slot c ob q n hc hx
  obtain⟨sl',e2⟩:=b.slot c _ e1 (a.free c ob q n hx) hc hx
  exact⟨sl',e2⟩
 free:=fun c ob q n hx=>by
  obtain⟨o',e1⟩:=a.there c ob q hx
  exact b.free c o' e1 (a.free c ob q n hx) hx
 there:=fun c ob q hx=>by
  obtain⟨o',e1⟩:=a.there c ob q hx
  exact b.there c o' e1 hx
 tups:=fun c xs q=>b.tups c xs (a.tups c xs q)
 frzs:=fun c ob xs q=>b.frzs c ob xs (a.frzs c ob xs q)
 tbls:=fun c ps q=>by
  obtain⟨m1,e1⟩:=a.tbls c ps q
  obtain⟨m2,e2⟩:=b.tbls c _ e1
  exact⟨m1++m2,by rw [e2,Array.append_assoc]⟩
theorem Un.kept (k:∀b u,h.get? b=some u->h'.get? b=some u):Un fs ex H H h h':=
 ⟨fun b ob q _ _ _=>k b ob q,fun b ob q _ _ _=>⟨ob.slots,k b ob q⟩,fun _ _ _ n _=>n,fun b ob q _=>⟨ob,k b ob q⟩,fun _ _ q=>q,fun _ _ _ q=>q,fun _ ps q=>⟨#[],by rw [q];simp⟩⟩
theorem Un.refl:Un fs ex H H h h:=Un.kept fun _ _ q=>q
theorem Un.laid (k:∀b u,h.get? b=some u->h'.get? b=some u) (hp:h.objs.size<=a) (hn:H a=none):Un fs ex H (upd H a o) h h' where
 keep:=fun b u q _ _ _=>k b u q
 slot:=fun b u q _ _ _=>⟨u.slots,k b u q⟩
 free:=fun b u q n _=>by rw [Bb (Nat.ne_of_lt (Nat.lt_of_lt_of_le (Heap.lt_size q) hp))];exact n
 there:=fun b u q _=>⟨u,k b u q⟩
 tups:=fun b xs q=>by rw [Bb (Bj q hn)];exact q
 frzs:=fun b u xs q=>by rw [Bb (Bj q hn)];exact q
 tbls:=fun b ps q=>⟨#[],by rw [Bb (Bj q hn),q];simp⟩
theorem Un.write (mu:Mut (H x)) (he:e=x\/H e=some (.own x)) (k:∀b u,b≠e->h.get? b=some u->h'.get? b=some u) (heo:∃u,h'.get? e=some u):Un fs ex H (upd H x o) h h':=by
 have hx:∀b,H b=none->b≠x:=fun b n z=>by subst z;rw [n]at mu;exact mu
 have hb:∀b,H b=none->b≠e:=fun b n z=>by
  subst z
  rcases he with r | r
  . exact hx b n r
  . rw [n]at r;cases r
 have hm:∀b u,H b=some u->¬Mut (some u)->b≠x:=fun b u q nm z=>by subst z;rw [q]at mu;exact nm mu
 refine⟨fun b u q n _ _=>k b u (hb b n) q,fun b u q n _ _=>⟨u.slots,k b u (hb b n) q⟩,fun b u q n _=>by rw [Bb (hx b n)];exact n,fun b u q _=> ?_,
  fun b xs q=>by rw [Bb (hm b _ q fun z=>z)];exact q,fun b u xs q=>by rw [Bb (hm b _ q fun z=>z)];exact q,fun b ps q=>⟨#[],by rw [Bb (hm b _ q fun z=>z),q];simp⟩⟩
 by_cases hbe:b=e
 . subst hbe;exact heo
 . exact⟨u,k b u hbe q⟩
theorem Un.mono (u:Un fs ex H H1 h h1) (hs:∀b∈fs,b∈fs') (hx:∀b∈ex,b∈ex'):Un fs' ex' H H1 h h1:=
 ⟨fun b ob q n hb he=>u.keep b ob q n (fun z=>hb (hs b z)) fun z=>he (hx b z),fun _ _ q n _ he=>u.any q n fun z=>he (hx _ z),fun b ob q n he=>u.free b ob q n fun z=>he (hx b z),fun b ob q he=>u.there b ob q fun z=>he (hx b z),u.tups,u.frzs,u.tbls⟩
end
noncomputable def trk (h:Heap) (H:Hp):List Addr:=(List.range h.objs.size).filter fun a=>(H a).isSome
noncomputable def U4 (h:Heap) (H:Hp):Heap:=PySem.W.hideAll h (trk h H)
theorem U5 (h:Heap) (H:Hp):(U4 h H).objs.size=h.objs.size:=PySem.W.hideAll_size _ _
theorem Rr {h:Heap}{H:Hp}{b:Addr}{o:Obj} (e:h.get? b=some o) (n:H b=none):(U4 h H).get? b=some o:=
 PySem.W.hideAll_get _ e fun hm=>by
  have q:(H b).isSome=true:=(List.mem_filter.mp hm).2
  rw [n]at q;simp at q
theorem Zy {h:Heap}{H:Hp}{b:Addr}{o:Obj} (e:(U4 h H).get? b=some o):h.get? b=some o/\H b=none:=by
 have e':h.get? b=some o:=PySem.W.of_hideAll (trk h H) e
 refine⟨e',?_⟩
 cases q:H b with
 | none=>rfl
 | some x=>
   have hm:b∈trk h H:=List.mem_filter.mpr ⟨List.mem_range.mpr (Heap.lt_size e'),by simp [q]⟩
   have z:(U4 h H).get? b=none:=PySem.W.hideAll_none (trk h H) hm
   rw [z]at e;cases e
noncomputable def Zd (g h:Heap) (L:Addr):List (Addr × Obj):=(List.range h.objs.size).filterMap fun a=>if a=L\/(g.get? a).isSome=true then none else(h.get? a).map fun o=>(a,o)
noncomputable def rest (g h:Heap) (L d:Addr):List (Addr × Obj):=(Zd g h L).filter fun p=>decide (p.1≠d)
end L2
namespace L2
open PySem PySem.Spec PyProof.Rows
structure Mod (K:PySem.W.Frag) (mg:Str->Option Value) (base:Heap):Prop where
 kin:K.In base
 glob:base.Ns mainGlobals mg
 blt:∃mb,base.Ns builtinsNs mb/\∀x:Str,x≠"__name__"->mb x=bootBuiltins x
 nolimit:base.NoLimit
structure Cx where
 prog:Program
 w:World
 K:PySem.W.Frag
 mg:Str->Option Value
 base:Heap
 A:Around
 N:List Str
 s₀:Shared
 H₀:Hp
 env:Env
 outer:List Env
 stack:List Env
 ex:List Addr
 fn:Str->Bool
 calm:Bool
 pn:List (Addr × Obj)
 xe:Value->Shared->Prop
noncomputable def frs (l:List Env):List Addr:=l.filterMap (·.frame)
noncomputable abbrev Cx.fs (X:Cx):List Addr:=frs X.outer
noncomputable def Vis (sc:Scope) (x:Str):Prop:=sc.names.lookup x=some .local \/sc.names.lookup x=some .cell\/sc.names.lookup x=some .free
noncomputable def Loc (sc:Scope) (x:Str):Prop:=sc.names.lookup x=some .local \/sc.names.lookup x=some .cell
noncomputable def Look (env:Env) (h:Heap) (m:Str->Option Value) (x:Str) (u:Value):Prop:=
 (env.kindOf x=some .local /\m x=some u)\/((env.kindOf x=some .cell\/env.kindOf x=some .free)/\∃c,env.cells.lookup x=some c/\h.IsCell c (some u))
structure Cx.Ok (X:Cx):Prop where
 mod:Mod X.K X.mg X.base
 kind:X.env.scope.kind= .function
 glob:X.env.globals=mainGlobals
 blt:X.env.builtins=builtinsNs
 above:X.s₀.heap.objs.size<=X.env.locals
 inj:∀x y c,X.env.cells.lookup x=some c->X.env.cells.lookup y=some c->x=y
 has:∀x,(X.env.kindOf x=some .cell\/X.env.kindOf x=some .free)->∃c,X.env.cells.lookup x=some c
 cab:∀x c,X.fn x=true->X.env.cells.lookup x=some c->X.s₀.heap.objs.size<=c
 hd:X.calm=true->X.A.handled=none
 frames:X.A.frames=some X.stack
 stk:X.stack=X.outer\/(X.stack=X.env::X.outer/\X.env.frame=some X.env.locals)
 exf:∀b∈X.ex,b≠X.env.locals/\∀x c,X.env.cells.lookup x=some c->c≠b
 bs:∀b o,X.base.get? b=some o->X.s₀.heap.get? b=some o/\X.H₀ b=none
 bsz:X.base.objs.size<=X.s₀.heap.objs.size
 noex:∀b o,X.base.get? b=some o->b∉X.ex
 exfs:∀b∈X.ex,b∉X.fs
 funs:X.s₀.heap.FunFrames X.base X.outer
 frf:∀b∈X.fs,X.H₀ b=none
structure Inv (X:Cx) (pins:List (Addr × Obj)) (σ:List (Option V)) (H:Hp) (s:Shared):Prop where
 ok:X.Ok
 os:s.os=X.s₀.os
 bare:AllBare s.gens
 base:Un X.fs X.ex X.H₀ H X.s₀.heap s.heap
 loc:∃m,s.heap.Ns X.env.locals m/\∀(i:Nat) (x:Str) (v:V),X.N[i]? =some x->σ[i]? =some (some v)->Vis X.env.scope x->∃u,RelV v u/\Look X.env s.heap m x u
 cell:∀x c,X.env.cells.lookup x=some c->∃v,s.heap.IsCell c v
 free:H X.env.locals=none
 freeC:∀x c,X.env.cells.lookup x=some c->H c=none
 pin:∀p∈X.pn++pins,s.heap.get? p.1=some p.2/\H p.1=none/\p.1≠X.env.locals/\p.1∉X.fs/\∀v,p.2.data≠ .cell v
 hok:HOk X.prog X.w H s.heap
 len:σ.length=X.N.length
section
variable {X:Cx}{pins:List (Addr × Obj)}{σ:List (Option V)}{H H':Hp}{s:Shared}{h':Heap}
theorem Cx.Ok.nofr (ok:X.Ok) {b:Addr}{o:Obj} (e:X.base.get? b=some o):b∉X.fs:=fun hb=>by
 have:=(ok.funs.mem hb).1
 rw [e]at this;cases this
theorem Inv.bs (I:Inv X pins σ H s):∀b o,X.base.get? b=some o->s.heap.get? b=some o/\H b=none:=fun b o e=>
 ⟨I.base.keep b o (I.ok.bs b o e).1 (I.ok.bs b o e).2 (I.ok.nofr e) (I.ok.noex b o e),I.base.free b o (I.ok.bs b o e).1 (I.ok.bs b o e).2 (I.ok.noex b o e)⟩
theorem Inv.bk (I:Inv X pins σ H s):∀b o,X.base.get? b=some o->s.heap.get? b=some o:=fun b o e=>(I.bs b o e).1
theorem Inv.mod (I:Inv X pins σ H s):Mod X.K X.mg X.base:=I.ok.mod
theorem Inv.kIn (I:Inv X pins σ H s):X.K.In s.heap:=I.ok.mod.kin.keeps I.bk
theorem Inv.nolimit (I:Inv X pins σ H s):s.heap.NoLimit:=I.ok.mod.nolimit.keeps I.bk
theorem Inv.fr (I:Inv X pins σ H s):∃m,Fr X.base X.env.locals s.heap m:=
 let ⟨m,hn,_⟩:=I.loc
 ⟨m,hn,I.bk,Nat.le_trans I.ok.bsz I.ok.above⟩
theorem Inv.lt (I:Inv X pins σ H s):X.env.locals<s.heap.objs.size:=let ⟨_,hn,_⟩:=I.loc;hn.lt
theorem Inv.sz (I:Inv X pins σ H s):X.s₀.heap.objs.size<=s.heap.objs.size:=Nat.le_trans I.ok.above (Nat.le_of_lt I.lt)
theorem Inv.nofs (I:Inv X pins σ H s) {a:Addr} (h:s.heap.objs.size<=a):a∉X.fs:=fun hb=>by
 obtain⟨_,o,ho,_⟩:=I.ok.funs.mem hb
 exact absurd (Nat.lt_of_lt_of_le (Heap.lt_size ho) (Nat.le_trans I.sz h)) (Nat.lt_irrefl _)
theorem Inv.cne (I:Inv X pins σ H s):∀x c,X.env.cells.lookup x=some c->c≠X.env.locals:=fun x c e z=>by
 obtain⟨v,o,ho,hd⟩:=I.cell x c e
 obtain⟨m,⟨o',es,ep,ho',hd',_⟩,_⟩:=I.loc
 rw [z,ho']at ho;cases ho;rw [hd']at hd;cases hd
theorem Inv.funs (I:Inv X pins σ H s):s.heap.FunFrames X.base X.outer:=by
 have all:∀(l:List Env),(∀b∈frs l,b∈X.fs)->X.s₀.heap.FunFrames X.base l->s.heap.FunFrames X.base l:=by
  intro l
  induction l with
  | nil=>intro _ _;trivial
  | cons env r ih=>
    intro hs hl
    obtain⟨hk,⟨L,o,hf,hn,ho,hd⟩,hr⟩:=hl
    have hL:L∈X.fs:=hs L (by unfold frs;rw [List.filterMap_cons,hf];exact List.mem_cons_self)
    obtain⟨sl,e⟩:=I.base.slot L o ho (I.ok.frf L hL) hL fun z=>I.ok.exfs L z hL
    exact⟨hk,⟨L,_,hf,hn,e,hd⟩,ih (fun b hb=>hs b (by unfold frs;rw [List.filterMap_cons,hf];exact List.mem_cons_of_mem _ hb)) hr⟩
 exact all X.outer (fun _ hb=>hb) I.ok.funs
theorem Inv.stack (I:Inv X pins σ H s):s.heap.FunFrames X.base X.stack:=by
 rcases I.ok.stk with e | ⟨e,hf⟩
 . rw [e];exact I.funs
 . rw [e]
   obtain⟨m,hn,_⟩:=I.loc
   refine .cons (by rw [I.ok.kind];decide) hf hn ?_ I.funs
   exact Heap.get?_none_of_le (Nat.le_trans I.ok.bsz I.ok.above)
theorem Inv.stkSub (I:Inv X pins σ H s):∀b∈frs X.stack,b∈X.env.locals::X.fs:=fun b hb=>by
 rcases I.ok.stk with e | ⟨e,hf⟩
 . rw [e]at hb;exact List.mem_cons_of_mem _ hb
 . rw [e]at hb
   unfold frs at hb
   rw [List.filterMap_cons,hf]at hb
   exact hb
theorem Inv.stkFree (I:Inv X pins σ H s):∀b∈frs X.stack,H b=none:=fun b hb=>by
 rcases List.mem_cons.mp (I.stkSub b hb)with e | hb
 . rw [e];exact I.free
 . obtain⟨_,o,ho,_⟩:=I.ok.funs.mem hb
   exact I.base.free b o ho (I.ok.frf b hb) fun z=>I.ok.exfs b z hb
theorem Inv.step {g':Array GenState}{t':Nat}{d':Drawn}{ch:List Addr} (I:Inv X pins σ H s)
 (hch:∀b∈ch,(b∈X.ex\/X.s₀.heap.objs.size<=b)/\b≠X.env.locals/\(∀x c,X.env.cells.lookup x=some c->c≠b)/\∀p∈X.pn++pins,p.1≠b)
 (keep:∀b o,b≠X.env.locals->b∉X.fs->b∉ch->s.heap.get? b=some o->H b=none->h'.get? b=some o)
 (slot:∀b o,b≠X.env.locals->b∈X.fs->b∉ch->s.heap.get? b=some o->H b=none->∃sl,h'.get? b=some { o with slots:=sl}) (free:∀b o,b∉ch->s.heap.get? b=some o->H b=none->H' b=none)
 (there:∀b o,b∉ch->s.heap.get? b=some o->∃o',h'.get? b=some o')
 (tups:∀b xs,H b=some (.tup xs)->H' b=some (.tup xs)) (frzs:∀b o u,H b=some (.frz o u)->H' b=some (.frz o u)) (tbls:∀b ps,H b=some (.tbl ps)->∃more,H' b=some (.tbl (ps++more)))
 (ns:∀m,s.heap.Ns X.env.locals m->h'.Ns X.env.locals m) (hok:HOk X.prog X.w H' h') (hg:AllBare g'):
 Inv X pins σ H' { s with heap:=h',gens:=g',drawn:=d',toks:=t'}:=by
 have neL:∀b o,X.s₀.heap.get? b=some o->b≠X.env.locals:=fun b o e=>Nat.ne_of_lt (Nat.lt_of_lt_of_le (Heap.lt_size e) I.ok.above)
 have neC:∀b o,X.s₀.heap.get? b=some o->b∉X.ex->b∉ch:=fun b o e hx hb=>by
  rcases(hch b hb).1 with z | z
  . exact hx z
  . exact absurd (Nat.lt_of_lt_of_le (Heap.lt_size e) z) (Nat.lt_irrefl _)
 have cellK:∀x c,X.env.cells.lookup x=some c->∀v,s.heap.IsCell c v->h'.IsCell c v:=fun x c e v ⟨o,ho,hd⟩=>by
  have nch:c∉ch:=fun z=>(hch c z).2.2.1 x c e rfl
  by_cases hc:c∈X.fs
  . obtain⟨sl,q⟩:=slot c o (I.cne x c e) hc nch ho (I.freeC x c e)
    exact⟨_,q,hd⟩
  . exact⟨o,keep c o (I.cne x c e) hc nch ho (I.freeC x c e),hd⟩
 refine⟨I.ok,I.os,hg,⟨fun b o e n hb hx=> ?_,fun b o e n hb hx=> ?_,fun b o e n hx=> ?_,fun b o e hx=> ?_,fun b xs e=>tups b xs (I.base.tups b xs e),fun b o xs e=>frzs b o xs (I.base.frzs b o xs e),fun b ps e=> ?_⟩,?_,fun x c e=> ?_,?_,fun x c e=> ?_,fun p hp=> ?_,hok,I.len⟩
 . exact keep b o (neL b o e) hb (neC b o e hx) (I.base.keep b o e n hb hx) (I.base.free b o e n hx)
 . obtain⟨sl,e1⟩:=I.base.slot b o e n hb hx
   obtain⟨sl',e2⟩:=slot b _ (neL b o e) hb (neC b o e hx) e1 (I.base.free b o e n hx)
   exact⟨sl',e2⟩
 . obtain⟨o',e1⟩:=I.base.there b o e hx
   exact free b o' (neC b o e hx) e1 (I.base.free b o e n hx)
 . obtain⟨o',e1⟩:=I.base.there b o e hx
   exact there b o' (neC b o e hx) e1
 . obtain⟨m1,e1⟩:=I.base.tbls b ps e
   obtain⟨m2,e2⟩:=tbls b _ e1
   exact⟨m1++m2,by rw [e2,Array.append_assoc]⟩
 . obtain⟨m,hn,hl⟩:=I.loc
   refine⟨m,ns m hn,fun i x v e1 e2 e3=> ?_⟩
   obtain⟨u,r,l⟩:=hl i x v e1 e2 e3
   refine⟨u,r,?_⟩
   rcases l with l | ⟨k,c,e,z⟩
   . exact .inl l
   . exact .inr ⟨k,c,e,cellK x c e _ z⟩
 . obtain⟨v,z⟩:=I.cell x c e
   exact⟨v,cellK x c e v z⟩
 . obtain⟨m,⟨o,_,_,ho,_⟩,_⟩:=I.loc
   exact free _ o (fun z=>(hch _ z).2.1 rfl) ho I.free
 . obtain⟨v,o,ho,hd⟩:=I.cell x c e
   exact free c o (fun z=>(hch c z).2.2.1 x c e rfl) ho (I.freeC x c e)
 . obtain⟨e,n,ne,nf,d⟩:=I.pin p hp
   have nch:p.1∉ch:=fun z=>(hch p.1 z).2.2.2 p hp rfl
   exact⟨keep p.1 p.2 ne nf nch e n,free p.1 p.2 nch e n,ne,nf,d⟩
theorem Inv.un {t':Nat} (I:Inv X pins σ H s) (u:Un X.fs [] H H' s.heap h') (hok:HOk X.prog X.w H' h'):Inv X pins σ H' { s with heap:=h',toks:=t'}:=by
 obtain⟨m,⟨o,es,ep,ho,r⟩,_⟩:=id I.loc
 obtain⟨sl,hL⟩:=u.any ho I.free (by simp)
 exact I.step (g':=s.gens) (d':=s.drawn) (ch:=[]) (fun _ z=>nomatch z) (fun b o _ hb _ e n=>u.keep b o e n hb (by simp)) (fun b o _ hb _ e n=>u.slot b o e n hb (by simp)) (fun b o _ e n=>u.free b o e n (by simp)) (fun b o _ e=>u.there b o e (by simp)) u.tups u.frzs u.tbls (fun m' hm=>by
  obtain⟨o',es',ep',ho',r'⟩:=hm
  rw [ho]at ho';cases ho'
  exact⟨_,es',ep',hL,r'⟩) hok I.bare
theorem Inv.call {g':Array GenState}{t':Nat}{d':Drawn}{ch:List Addr} (I:Inv X pins σ H s) (u:Un (frs X.stack) ch H H' s.heap h') (hok:HOk X.prog X.w H' h') (hg:AllBare g')
 (hch:∀b∈ch,(b∈X.ex\/X.s₀.heap.objs.size<=b)/\b≠X.env.locals/\(∀x c,X.env.cells.lookup x=some c->c≠b)/\∀p∈X.pn++pins,p.1≠b):
 Inv X pins σ H' { s with heap:=h',gens:=g',drawn:=d',toks:=t'}:=by
 obtain⟨m,⟨o,es,ep,ho,r⟩,_⟩:=id I.loc
 obtain⟨sl,hL⟩:=u.any ho I.free fun z=>(hch _ z).2.1 rfl
 exact I.step (ch:=ch) hch (fun b o hL hb hc e n=>u.keep b o e n (fun z=>(List.mem_cons.mp (I.stkSub b z)).elim hL hb) hc) (fun b o _ _ hc e n=>u.any e n hc) (fun b o hc e n=>u.free b o e n hc) (fun b o hc e=>u.there b o e hc) u.tups u.frzs u.tbls (fun m' hm=>by
  obtain⟨o',es',ep',ho',r'⟩:=hm
  rw [ho]at ho';cases ho'
  exact⟨_,es',ep',hL,r'⟩) hok hg
theorem Inv.turned {t':Nat}{it:Addr} (I:Inv X pins σ H s) (k:∀b o,b≠it->s.heap.get? b=some o->h'.get? b=some o) (hn:H it=none) (hL:it≠X.env.locals)
 (h1:it∈X.ex\/X.s₀.heap.objs.size<=it) (h2:∀x c,X.env.cells.lookup x=some c->c≠it) (h3:∀p∈X.pn++pins,p.1≠it):Inv X pins σ H { s with heap:=h',toks:=t'}:=by
 have nit:∀b u,H b=some u->b≠it:=fun b u e z=>by rw [z,hn]at e;cases e
 refine I.step (g':=s.gens) (d':=s.drawn) (ch:=[it]) (fun b hb=> ?_) (fun b o _ _ hc e _=>k b o (fun z=>hc (by simp [z])) e) (fun b o _ _ hc e _=>⟨o.slots,k b o (fun z=>hc (by simp [z])) e⟩) (fun _ _ _ _ n=>n)
  (fun b o hc e=>⟨o,k b o (fun z=>hc (by simp [z])) e⟩) (fun _ _ e=>e) (fun _ _ _ e=>e) (fun b ps e=>⟨#[],by rw [e];simp⟩) (fun m hm=> ?_) (fun b u e=> ?_) I.bare
 . have e:b=it:=by simpa using hb
   subst e
   exact⟨h1,hL,h2,h3⟩
 . obtain⟨o,es,ep,ho,r⟩:=hm
   exact⟨o,es,ep,k _ o (Ne.symm hL) ho,r⟩
 . refine(I.hok b u e).stay (fun c v hc q=>k c v ?_ q) (fun _ q=>q) fun _ _ q=>q
   rcases hc with z | z
   . rw [z];exact nit b u e
   . exact nit c _ z
theorem Inv.tok (I:Inv X pins σ H s) (t:Nat):Inv X pins σ H { s with toks:=t}:=I.un (h':=s.heap) (t':=t) Un.refl I.hok
theorem Inv.kept {t':Nat} (I:Inv X pins σ H s) (k:∀b u,s.heap.get? b=some u->h'.get? b=some u):Inv X pins σ H { s with heap:=h',toks:=t'}:=I.un (Un.kept k) (I.hok.kept k)
theorem Inv.laid {a:Addr}{o:HO}{t':Nat} (I:Inv X pins σ H s) (k:∀b u,s.heap.get? b=some u->h'.get? b=some u) (hp:s.heap.objs.size<=a) (new:Fj X.prog X.w (upd H a o) h' a o):
 Inv X pins σ (upd H a o) { s with heap:=h',toks:=t'}:=I.un (Un.laid k hp (I.hok.fresh hp)) (I.hok.laid k hp new)
theorem Inv.write {x e:Addr}{o:HO}{t':Nat} (I:Inv X pins σ H s) (mu:Mut (H x)) (he:e=x\/H e=some (.own x)) (k:∀b u,b≠e->s.heap.get? b=some u->h'.get? b=some u) (heo:∃u,h'.get? e=some u)
 (new:Fj X.prog X.w (upd H x o) h' x o):Inv X pins σ (upd H x o) { s with heap:=h',toks:=t'}:=I.un (Un.write mu he k heo) (I.hok.write mu he k heo new)
theorem Inv.pins_of {pins':List (Addr × Obj)} (I:Inv X pins σ H s) (h:∀p∈pins',s.heap.get? p.1=some p.2/\H p.1=none/\p.1≠X.env.locals/\p.1∉X.fs/\∀v,p.2.data≠ .cell v):Inv X pins' σ H s:=
 ⟨I.ok,I.os,I.bare,I.base,I.loc,I.cell,I.free,I.freeC,fun p hp=>(List.mem_append.mp hp).elim (fun z=>I.pin p (List.mem_append_left _ z)) (h p),I.hok,I.len⟩
theorem M6 {N:List Str} (hN:N.Nodup) {i j:Nat}{x:Str} (a:N[i]? =some x) (b:N[j]? =some x):i=j:=by
 obtain⟨h1,e1⟩:=List.getElem?_eq_some_iff.mp a
 obtain⟨h2,e2⟩:=List.getElem?_eq_some_iff.mp b
 exact(List.getElem_inj hN).mp (e1.trans e2.symm)
theorem Wc {M:Model}{A:Around}{E:Value->Shared->Prop}{i:Nat}{x:Str}{v:V}{u:Value}{Q:Unit->Shared->Prop} (I:Inv X pins σ H s) (hN:X.N.Nodup) (hi:X.N[i]? =some x) (hx:Loc X.env.scope x) (r:RelV v u)
 (h:∀s',Inv X pins (σ.set i (some v)) H s'->(∃a,Heap.SameBut a s.heap s'.heap/\(a=X.env.locals\/X.env.cells.lookup x=some a))->Q () s') (hf:X.fn x=true\/X.env.scope.names.lookup x=some .local :=by first | exact .inl rfl | exact .inr rfl | assumption):wpAny M A (storeName X.env x u) Q E s:=by
 obtain⟨m,hn,hl⟩:=id I.loc
 have hcls:(X.env.scope.kind== .class||(X.env.scope.kind== .module&&X.env.locals != X.env.globals))=false:=by rw [I.ok.kind];rfl
 have hiσ:i<σ.length:=by rw [I.len];exact(List.getElem?_eq_some_iff.mp hi).1
 have cne:=I.cne
 have tracked:∀ {a:Addr}{h':Heap},(∃o,s.heap.get? a=some o/\H a=none)->Heap.SameBut a s.heap h'->HOk X.prog X.w H h':=fun {a h'} ha hs b ob e=>by
  obtain⟨_,_,hfree⟩:=ha
  refine(I.hok b ob e).stay (fun c w' hc q=>(hs.2 c ?_).trans q) (fun _ q=>q) fun _ _ q=>q
  rintro rfl
  rcases hc with rfl | hc
  . rw [hfree]at e;cases e
  . rw [hfree]at hc;cases hc
 rcases hx with hk | hk
 . refine wpAny_storeName_local hk hn (fun h' hn' hs=> ?_) hcls
   obtain⟨oL,_,_,hoL,_⟩:=id hn
   refine h _ ⟨I.ok,I.os,I.bare,⟨fun b o e n hb hx=> ?_,fun b o e n hb hx=> ?_,I.base.free,fun b o e hx=> ?_,I.base.tups,I.base.frzs,I.base.tbls⟩,⟨_,hn',fun j y v' e1 e2 e3=> ?_⟩,fun y c e=> ?_,I.free,I.freeC,fun p hp=> ?_,tracked ⟨oL,hoL,I.free⟩ hs,by simpa using I.len⟩ ⟨_,hs,.inl rfl⟩
   . exact(hs.2 b (Nat.ne_of_lt (Nat.lt_of_lt_of_le (Heap.lt_size e) I.ok.above))).trans (I.base.keep b o e n hb hx)
   . obtain⟨sl,e1⟩:=I.base.slot b o e n hb hx
     exact⟨sl,(hs.2 b (Nat.ne_of_lt (Nat.lt_of_lt_of_le (Heap.lt_size e) I.ok.above))).trans e1⟩
   . obtain⟨o',e1⟩:=I.base.there b o e hx
     exact⟨o',(hs.2 b (Nat.ne_of_lt (Nat.lt_of_lt_of_le (Heap.lt_size e) I.ok.above))).trans e1⟩
   . by_cases hj:j=i
     . subst hj
       rw [hi]at e1;cases e1
       rw [List.getElem?_set_self hiσ]at e2
       cases e2
       exact⟨u,r,.inl ⟨hk,by simp⟩⟩
     . rw [List.getElem?_set_ne (Ne.symm hj)]at e2
       obtain⟨u',r',q⟩:=hl j y v' e1 e2 e3
       refine⟨u',r',?_⟩
       rcases q with⟨k,e⟩ | ⟨k,c,e,z⟩
       . refine .inl ⟨k,?_⟩
         have:y≠x:=fun e=>hj (M6 hN e1 (e▸hi))
         simp [this,e]
       . exact .inr ⟨k,c,e,z.sameBut hs (cne y c e)⟩
   . obtain⟨w',z⟩:=I.cell y c e
     exact⟨w',z.sameBut hs (cne y c e)⟩
   . obtain⟨e,n,ne,nf,d⟩:=I.pin p hp
     exact⟨(hs.2 p.1 ne).trans e,n,ne,nf,d⟩
 . have hfn:X.fn x=true:=by
    rcases hf with z | z
    . exact z
    . rw [z]at hk;cases hk
   obtain⟨c,hc⟩:=I.ok.has x (.inl hk)
   obtain⟨w',z⟩:=I.cell x c hc
   refine wpAny_storeName_cell I.ok.kind hk hc z (fun h' hc' hs=> ?_)
   obtain⟨oc,hoc,hocd⟩:=id z
   refine h { s with heap:=h'} ⟨I.ok,I.os,I.bare,⟨fun b o e n hb hx=> ?_,fun b o e n hb hx=> ?_,I.base.free,fun b o e hx=> ?_,I.base.tups,I.base.frzs,I.base.tbls⟩,⟨m,hn.sameBut hs (Ne.symm (cne x c hc)),fun j y v' e1 e2 e3=> ?_⟩,fun y c' e=> ?_,I.free,I.freeC,fun p hp=> ?_,tracked ⟨oc,hoc,I.freeC x c hc⟩ hs,by simpa using I.len⟩ ⟨c,hs,.inr hc⟩
   . exact(hs.2 b (Nat.ne_of_lt (Nat.lt_of_lt_of_le (Heap.lt_size e) (I.ok.cab x c hfn hc)))).trans (I.base.keep b o e n hb hx)
   . obtain⟨sl,e1⟩:=I.base.slot b o e n hb hx
     exact⟨sl,(hs.2 b (Nat.ne_of_lt (Nat.lt_of_lt_of_le (Heap.lt_size e) (I.ok.cab x c hfn hc)))).trans e1⟩
   . obtain⟨o',e1⟩:=I.base.there b o e hx
     exact⟨o',(hs.2 b (Nat.ne_of_lt (Nat.lt_of_lt_of_le (Heap.lt_size e) (I.ok.cab x c hfn hc)))).trans e1⟩
   . by_cases hj:j=i
     . subst hj
       rw [hi]at e1;cases e1
       rw [List.getElem?_set_self hiσ]at e2
       cases e2
       exact⟨u,r,.inr ⟨.inl hk,c,hc,hc'⟩⟩
     . rw [List.getElem?_set_ne (Ne.symm hj)]at e2
       obtain⟨u',r',q⟩:=hl j y v' e1 e2 e3
       refine⟨u',r',?_⟩
       rcases q with q | ⟨k,c',e,z'⟩
       . exact .inl q
       . refine .inr ⟨k,c',e,z'.sameBut hs ?_⟩
         rintro rfl
         exact hj (M6 hN e1 (I.ok.inj _ _ _ e hc▸hi))
   . by_cases hcc:c'=c
     . subst hcc;exact⟨_,hc'⟩
     . obtain⟨w2,z2⟩:=I.cell y c' e
       exact⟨w2,z2.sameBut hs hcc⟩
   . obtain⟨e,n,ne,nf,d⟩:=I.pin p hp
     refine⟨(hs.2 p.1 ?_).trans e,n,ne,nf,d⟩
     intro q
     rw [q,hoc]at e
     have q':oc=p.2:=Option.some.inj e
     exact d w' (by rw [<-q'];exact hocd)
theorem Hz {M:Model}{A:Around}{E:Value->Shared->Prop}{i:Nat}{x:Str}{v:V}{u:Value}{Q:Unit->Shared->Prop} (I:Inv X pins σ H s) (hN:X.N.Nodup) (hi:X.N[i]? =some x) (hx:Loc X.env.scope x) (r:RelV v u)
 (h:∀s',Inv X pins (σ.set i (some v)) H s'->Q () s') (hf:X.fn x=true\/X.env.scope.names.lookup x=some .local :=by first | exact .inl rfl | exact .inr rfl | assumption):wpAny M A (storeName X.env x u) Q E s:=
 Wc I hN hi hx r (fun s' I' _=>h s' I') hf
theorem Inv.call' {s':Shared}{ch:List Addr} (I:Inv X pins σ H s) (ho:s'.os=s.os) (u:Un (frs X.stack) ch H H' s.heap s'.heap) (hok:HOk X.prog X.w H' s'.heap) (hg:AllBare s'.gens)
 (hch:∀b∈ch,(b∈X.ex\/X.s₀.heap.objs.size<=b)/\b≠X.env.locals/\(∀x c,X.env.cells.lookup x=some c->c≠b)/\∀p∈X.pn++pins,p.1≠b):Inv X pins σ H' s':=by
 obtain⟨h',g',d',t',o'⟩:=s'
 have e:o'=s.os:=ho
 subst e
 exact I.call (g':=g') (t':=t') (d':=d') u hok hg hch
end
noncomputable abbrev XK:=Value->Option Addr->Hp->Prop
noncomputable abbrev St:=List (Option V)
noncomputable abbrev VK:=V->Hp->Prop
noncomputable abbrev TE:=St->Hp->VK->Prop
noncomputable abbrev TT:=St->Hp->(Bool->Hp->Prop)->Prop
noncomputable abbrev TA:=St->Hp->(List V->Hp->Prop)->Prop
structure Ends where
 nx:St->Hp->Prop
 rt:VK
 bk:St->Hp->Prop:=fun _ _=>False
 ct:St->Hp->Prop:=fun _ _=>False
noncomputable abbrev TS:=Ends->St->Hp->Prop
noncomputable def EP (X:Cx) (pins:List (Addr × Obj)) (σ:St) (Q:VK) (u:Value) (s':Shared):Prop:=∃v H',Inv X pins σ H' s'/\RelV v u/\Q v H'
noncomputable def TP (X:Cx) (pins:List (Addr × Obj)) (σ:St) (Q:Bool->Hp->Prop) (b:Bool) (s':Shared):Prop:=∃H',Inv X pins σ H' s'/\Q b H'
noncomputable def AP (X:Cx) (pins:List (Addr × Obj)) (σ:St) (Q:List V->Hp->Prop) (us:List Value) (s':Shared):Prop:=∃vs H',Inv X pins σ H' s'/\Vals vs us/\Q vs H'
noncomputable def SP (X:Cx) (pins:List (Addr × Obj)) (D:Ends) (f:Flow) (s':Shared):Prop:=
 match f with
 | .next=>∃σ' H',Inv X pins σ' H' s'/\D.nx σ' H'
 | .brk=>∃σ' H',Inv X pins σ' H' s'/\D.bk σ' H'
 | .cont=>∃σ' H',Inv X pins σ' H' s'/\D.ct σ' H'
 | .ret u=>∃v σ' H',Inv X pins σ' H' s'/\RelV v u/\D.rt v H'
noncomputable def PE (X:Cx) (e:Expr) (t:TE):Prop:=
 ∀(pins:List (Addr × Obj)) (s:Shared) (σ:St) (H:Hp) (Q:VK),Inv X pins σ H s->t σ H Q->wpAny (model X.prog X.w) X.A (eval e X.env) (EP X pins σ Q) X.xe s
noncomputable def PT (X:Cx) (e:Expr) (t:TT):Prop:=
 ∀(pins:List (Addr × Obj)) (s:Shared) (σ:St) (H:Hp) (Q:Bool->Hp->Prop),Inv X pins σ H s->t σ H Q->wpAny (model X.prog X.w) X.A (isTrue e X.env (eval e X.env)) (TP X pins σ Q) X.xe s
noncomputable def PW (X:Cx) (e:Expr) (t:TT):Prop:=
 ∀(whole:Sem Value) (pins:List (Addr × Obj)) (s:Shared) (σ:St) (H:Hp) (Q:Bool->Hp->Prop),Inv X pins σ H s->t σ H Q->wpAny (model X.prog X.w) X.A (isTrue e X.env whole) (TP X pins σ Q) X.xe s
theorem PW.pt {X:Cx}{e:Expr}{t:TT} (h:PW X e t):PT X e t:=h _
noncomputable def PA (X:Cx) (es:List Expr) (t:TA):Prop:=
 ∀(pos:Pos) (pins:List (Addr × Obj)) (s:Shared) (σ:St) (H:Hp) (Q:List V->Hp->Prop),Inv X pins σ H s->t σ H Q->wpAny (model X.prog X.w) X.A (spliced (backTo pos (starEach es X.env))) (AP X pins σ Q) X.xe s
noncomputable def PS (X:Cx) (st:Stmt) (t:TS):Prop:=
 ∀(pins:List (Addr × Obj)) (s:Shared) (σ:St) (H:Hp) (D:Ends),Inv X pins σ H s->t D σ H->wpAny (model X.prog X.w) X.A (exec st X.env) (SP X pins D) X.xe s
noncomputable def PSs (X:Cx) (st:List Stmt) (t:TS):Prop:=
 ∀(pins:List (Addr × Obj)) (s:Shared) (σ:St) (H:Hp) (D:Ends),Inv X pins σ H s->t D σ H->wpAny (model X.prog X.w) X.A (execs st X.env) (SP X pins D) X.xe s
theorem thn {α:Type}{t:Sem α}{Q Q':α->Shared->Prop}{M:Model}{A:Around}{E:Value->Shared->Prop}{s:Shared} (h:wpAny M A t Q E s) (hQ:∀a s,Q a s->Q' a s):wpAny M A t Q' E s:=wpAny_mono h hQ fun _ _ x=>x
end L2
namespace L2
open PySem PySem.Spec PyProof.Rows
section
variable {X:Cx}
noncomputable def Y7 (i:Nat):TE:=fun σ H Q=>∃v,σ[i]? =some (some v)/\Q v H
noncomputable def tC (v:V):TE:=fun _ H Q=>Q v H
theorem Abt {i:Nat}{x:Str}{pos:Pos} (hN:X.N[i]? =some x) (hv:Vis X.env.scope x) (hd:(x==("__debug__":Str))=false:=by decide) (hcd:(x==("__classdict__":Str))=false:=by decide):PE X (.Name x pos) (Y7 i):=by
 intro pins s σ H Q I h
 obtain⟨v,e,h⟩:=h
 obtain⟨m,hn,hl⟩:=I.loc
 obtain⟨u,r,l⟩:=hl i x v hN e hv
 have fin:EP X pins σ Q u s:=⟨v,H,I,r,h⟩
 rcases l with⟨hk,hm⟩ | ⟨hk,c,hc,hcell⟩
 . exact wpAny_Name (wpAny_loadName_local I.ok.kind hk hn hm fin) hd
 . rcases hk with hk | hk
   . exact wpAny_Name (wpAny_loadName_cell I.ok.kind hk hc hcell fin) hd
   . exact wpAny_Name (wpAny_loadName_free I.ok.kind hk hc hcell fin hcd) hd
theorem Yn {i j pos}:PE X (.Constant (.int i) j pos) (tC (.int i)):=fun _ _ _ H _ I h=>wpAny_Constant_int ⟨.int i,H,I.tok _,⟨_,rfl⟩,h⟩
theorem Adp {b j pos}:PE X (.Constant (.bool b) j pos) (tC (.bl b)):=fun _ _ _ H _ I h=>Constant_bool ⟨.bl b,H,I,rfl,h⟩
theorem Abq {j pos}:PE X (.Constant .none j pos) (tC .non):=fun _ _ _ H _ I h=>Constant_none ⟨.non,H,I,rfl,h⟩
theorem Abs {x j pos}:PE X (.Constant (.str x) j pos) (tC (.str x)):=fun _ _ _ H _ I h=>Calls.Constant_str ⟨.str x,H,I.tok _,⟨_,rfl⟩,h⟩
noncomputable def Gl (X:Cx) (x:Str):Prop:=X.env.kindOf x=some .globalImplicit
theorem Jh {E:Value->Shared->Prop}{pins:List (Addr × Obj)}{s:Shared}{σ:St}{H:Hp}{x:Str}{u:Value}{pos:Pos}{Q:Value->Shared->Prop} (I:Inv X pins σ H s) (hg:Gl X x) (hm:X.mg x=some u) (h:Q u s)
 (hd:(x==("__debug__":Str))=false:=by decide):wpAny (model X.prog X.w) X.A (eval (.Name x pos) X.env) Q E s:=
 Calls.Name_function_global I.ok.kind hg (Calls.loadGlobal_global (by rw [I.ok.glob];exact I.mod.glob.keeps I.bk) hm h) hd
theorem Jv {E:Value->Shared->Prop}{pins:List (Addr × Obj)}{s:Shared}{σ:St}{H:Hp}{x:Str}{u:Value}{pos:Pos}{Q:Value->Shared->Prop} (I:Inv X pins σ H s) (hg:Gl X x) (hm:X.mg x=none) (hv:bootBuiltins x=some u) (h:Q u s)
 (hn:x≠"__name__":=by decide) (hd:(x==("__debug__":Str))=false:=by decide):wpAny (model X.prog X.w) X.A (eval (.Name x pos) X.env) Q E s:=by
 obtain⟨mb,h1,h2⟩:=I.mod.blt
 exact Calls.Name_function_global I.ok.kind hg (Calls.loadGlobal_builtin (by rw [I.ok.glob];exact I.mod.glob.keeps I.bk) hm (by rw [I.ok.blt];exact h1.keeps I.bk) ((h2 x hn).trans hv) h) hd
theorem Vx {x:Str}{v:V}{u:Value}{pos:Pos} (hg:Gl X x) (hm:X.mg x=some u) (r:RelV v u) (hd:(x==("__debug__":Str))=false:=by decide):PE X (.Name x pos) (tC v):=
 fun _ _ _ H _ I h=>Jh I hg hm ⟨v,H,I,r,h⟩ hd
theorem Qt {x:Str}{v:V}{u:Value}{pos:Pos} (hg:Gl X x) (hm:X.mg x=none) (hv:bootBuiltins x=some u) (r:RelV v u) (hn:x≠"__name__":=by decide) (hd:(x==("__debug__":Str))=false:=by decide):PE X (.Name x pos) (tC v):=
 fun _ _ _ H _ I h=>Jv I hg hm hv ⟨v,H,I,r,h⟩ hn hd
variable {a b:Expr}{ta tb:TE}{pos:Pos}
noncomputable def tB (t:TE):TT:=fun σ H Q=>t σ H fun x H1=>∃c,x= .bl c/\Q c H1
theorem Yv {e:Expr}{t:TE} (h:PE X e t) (he:∀whole,isTrue e X.env whole=(do let v<-whole;standAt e.pos;holding [v] (truthy v)):=by intro _;rfl):PT X e (tB t):=by
 intro pins s σ H Q I hw
 refine isTrue_plain (thn (h pins s σ H _ I hw) fun v s1 ⟨x,H1,I1,r1,q1⟩=> ?_) (he _)
 obtain⟨d,rfl,q⟩:=q1
 cases r1
 exact wpAny_truthy_bool ⟨H1,I1,q⟩
variable {tA tB':TT}{rest:List Expr}
noncomputable def Adz (t u:TT):TT:=fun σ H Q=>t σ H fun c H1=>if c=true then u σ H1 Q else Q false H1
noncomputable def tOr (t u:TT):TT:=fun σ H Q=>t σ H fun c H1=>if c=true then Q true H1 else u σ H1 Q
noncomputable def Ad5 (t:TT):TT:=fun σ H Q=>t σ H fun c H1=>Q (!c) H1
theorem Aac (ha:PT X a tA):PW X (.BoolOp .And [a] pos) tA:=by
 intro wh pins s σ H Q I h
 refine isTrue_and (thn (ha pins s σ H Q I h) fun c s1 e=> ?_)
 cases c with
 | true=>exact isTrue_and_nil e
 | false=>exact e
theorem Ab0 (ha:PT X a tA):PW X (.BoolOp .Or [a] pos) tA:=by
 intro wh pins s σ H Q I h
 refine isTrue_or (thn (ha pins s σ H Q I h) fun c s1 e=> ?_)
 cases c with
 | false=>exact isTrue_or_nil e
 | true=>exact e
theorem Abz (ha:PT X a tA) (hb:PW X (.BoolOp .And (b::rest) pos) tB'):PW X (.BoolOp .And (a::b::rest) pos) (Adz tA tB'):=by
 intro wh pins s σ H Q I h
 refine isTrue_and (thn (ha pins s σ H _ I h) fun c s1 ⟨H1,I1,q1⟩=> ?_)
 cases c with
 | true=>exact hb wh pins s1 σ H1 Q I1 q1
 | false=>exact⟨H1,I1,q1⟩
theorem Adw (ha:PT X a tA) (hb:PW X (.BoolOp .Or (b::rest) pos) tB'):PW X (.BoolOp .Or (a::b::rest) pos) (tOr tA tB'):=by
 intro wh pins s σ H Q I h
 refine isTrue_or (thn (ha pins s σ H _ I h) fun c s1 ⟨H1,I1,q1⟩=> ?_)
 cases c with
 | true=>exact⟨H1,I1,q1⟩
 | false=>exact hb wh pins s1 σ H1 Q I1 q1
theorem Aby (ha:PT X a tA):PT X (.UnaryOp .Not a pos) (Ad5 tA):=by
 intro pins s σ H Q I h
 exact isTrue_not (ha pins s σ H (fun c H1=>Q (!c) H1) I h)
noncomputable def Aah (ta tb:TE):TE:=fun σ H Q=>ta σ H fun x H1=>∃c,x= .bl c/\if c=true then tb σ H1 Q else Q (.bl false) H1
theorem Abr {op}{t:TE} (h:PE X a t):PE X (.BoolOp op [a] pos) t:=fun pins s σ H Q I hw=>BoolOp_one (h pins s σ H Q I hw)
theorem Abo (ha:PE X a ta) (hb:PE X (.BoolOp .And (b::rest) pos) tb):PE X (.BoolOp .And (a::b::rest) pos) (Aah ta tb):=by
 intro pins s σ H Q I h
 refine BoolOp_and (thn (ha pins s σ H _ I h) fun v s1 ⟨x,H1,I1,r1,q1⟩=> ?_)
 obtain⟨c,rfl,q1⟩:=q1
 cases r1
 refine wpAny_truthy_bool ?_
 cases c with
 | true=>exact hb pins s1 σ H1 Q I1 q1
 | false=>exact⟨.bl false,H1,I1,rfl,q1⟩
end
end L2
namespace L2
open PySem PySem.Spec PyProof.Rows
noncomputable def SqL (K:PySem.W.Frag) (H:Hp) (a:Addr) (xs:List V):Prop:=
 Rd H a (.lst xs)\/
  ∃(o:Obj) (its:Array Value) (n:Nat),K.lookup a=some o/\o.cls= .type "list"/\o.dict=none/\o.data= .seq its n/\its.size<=sizeLine/\Vals xs its.toList
noncomputable def SqT (K:PySem.W.Frag) (H:Hp) (a:Addr) (xs:List V):Prop:=
 Rd H a (.tup xs)\/
  ∃(o:Obj) (its:Array Value) (n:Nat),K.lookup a=some o/\o.cls= .type "tuple"/\o.data= .seq its n/\its.size<=sizeLine/\Vals xs its.toList
noncomputable def Afc:Value->Option V
 | .none=>some .non
 | .bool b=>some (.bl b)
 | .int i _=>some (.int i)
 | .str x _=>some (.str x)
 | .bytes b _=>some (.byt b)
 | .float b _=>some (.flt b)
 | .ref a=>some (.ref a)
 | .type n=>some (.ty n)
 | _=>none
theorem RelV.abs {x:V}{u:Value} (r:RelV x u):Afc u=some x:=by
 cases x with
 | non=>cases r;rfl
 | bl _=>cases r;rfl
 | int _=>obtain⟨t,rfl⟩:=r;rfl
 | str _=>obtain⟨t,rfl⟩:=r;rfl
 | byt _=>obtain⟨t,rfl⟩:=r;rfl
 | flt _=>obtain⟨t,rfl⟩:=r;rfl
 | ref _=>cases r;rfl
 | ty _=>cases r;rfl
theorem RelV.inj {x y:V}{u:Value} (r:RelV x u) (q:RelV y u):x=y:=Option.some.inj (r.abs.symm.trans q.abs)
theorem Vals.inj:∀ {xs ys:List V}{us:List Value},Vals xs us->Vals ys us->xs=ys
 | _,_,_,.nil,.nil=>rfl
 | _,_,_,.cons r t,.cons r' t'=>by rw [r.inj r',Vals.inj t t']
section
variable {X:Cx}{pins:List (Addr × Obj)}{σ:St}{H:Hp}{s:Shared}{a:Addr}{xs ys:List V}
theorem SqL.of {K:PySem.W.Frag} (h:H a=some (.lst xs)):SqL K H a xs:= .inl (.inl h)
theorem SqT.of {K:PySem.W.Frag} (h:H a=some (.tup xs)):SqT K H a xs:= .inl (.inl h)
theorem Inv.list (I:Inv X pins σ H s) (h:SqL X.K H a xs):∃its:List Value,Vals xs its/\PlainL s.heap a its.toArray/\xs.length<=sizeLine:=by
 rcases h with h | ⟨o,its,n,hk,hc,hd,hs,hz,r⟩
 . obtain⟨z,its,n,r,e⟩:=h.ok I.hok
   exact⟨its,r,⟨_,n,e,rfl,rfl,rfl⟩,z⟩
 . refine⟨its.toList,r,⟨o,n,I.kIn a o hk,hc,hd,by simpa using hs⟩,?_⟩
   have e:=r.length
   simp only [Array.length_toList]at e
   omega
theorem Inv.tuple (I:Inv X pins σ H s) (h:SqT X.K H a xs):∃its:List Value,Vals xs its/\IsTup s.heap a its.toArray/\xs.length<=sizeLine:=by
 rcases h with h | ⟨o,its,n,hk,hc,hs,hz,r⟩
 . obtain⟨z,its,r,p⟩:=h.ok I.hok
   exact⟨its,r,p,z⟩
 . refine⟨its.toList,r,⟨o,I.kIn a o hk,hc,n,by simpa using hs⟩,?_⟩
   have e:=r.length
   simp only [Array.length_toList]at e
   omega
theorem Inv.list_inj (I:Inv X pins σ H s) (h:SqL X.K H a xs) (h':SqL X.K H a ys):xs=ys:=by
 obtain⟨its,r,⟨o,n,e,_,_,d⟩,_⟩:=I.list h
 obtain⟨its',r',⟨o',n',e',_,_,d'⟩,_⟩:=I.list h'
 rw [e]at e';cases e'
 rw [d]at d'
 injection d' with d1 _
 have:its=its':=by simpa using congrArg Array.toList d1
 subst this
 exact r.inj r'
theorem Inv.tuple_inj (I:Inv X pins σ H s) (h:SqT X.K H a xs) (h':SqT X.K H a ys):xs=ys:=by
 obtain⟨its,r,⟨o,e,_,n,d⟩,_⟩:=I.tuple h
 obtain⟨its',r',⟨o',e',_,n',d'⟩,_⟩:=I.tuple h'
 rw [e]at e';cases e'
 rw [d]at d'
 injection d' with d1 _
 have:its=its':=by simpa using congrArg Array.toList d1
 subst this
 exact r.inj r'
end
noncomputable abbrev Cx.wish (X:Cx) (E:Value->Shared->Prop):Cx:={ X with xe:=E}
noncomputable abbrev Cx.nox (X:Cx):Cx:=X.wish fun _ _=>False
theorem Cx.Ok.wish {X:Cx} (ok:X.Ok) (E:Value->Shared->Prop):(X.wish E).Ok:=
 ⟨ok.mod,ok.kind,ok.glob,ok.blt,ok.above,ok.inj,ok.has,ok.cab,ok.hd,ok.frames,ok.stk,ok.exf,ok.bs,ok.bsz,ok.noex,ok.exfs,ok.funs,ok.frf⟩
theorem Cx.Ok.unwish {X:Cx}{E:Value->Shared->Prop} (ok:(X.wish E).Ok):X.Ok:=
 ⟨ok.mod,ok.kind,ok.glob,ok.blt,ok.above,ok.inj,ok.has,ok.cab,ok.hd,ok.frames,ok.stk,ok.exf,ok.bs,ok.bsz,ok.noex,ok.exfs,ok.funs,ok.frf⟩
section
variable {X:Cx}{pins:List (Addr × Obj)}{σ:St}{H:Hp}{s:Shared}{E:Value->Shared->Prop}
theorem Inv.wish (I:Inv X pins σ H s) (E:Value->Shared->Prop):Inv (X.wish E) pins σ H s:=⟨I.ok.wish E,I.os,I.bare,I.base,I.loc,I.cell,I.free,I.freeC,I.pin,I.hok,I.len⟩
theorem Inv.unwish (I:Inv (X.wish E) pins σ H s):Inv X pins σ H s:=⟨I.ok.unwish,I.os,I.bare,I.base,I.loc,I.cell,I.free,I.freeC,I.pin,I.hok,I.len⟩
theorem SP.unwish {D:Ends}{f:Flow}{s':Shared} (h:SP (X.wish E) pins D f s'):SP X pins D f s':=by
 cases f with
 | next=>obtain⟨σ',H',I,q⟩:=h;exact⟨σ',H',I.unwish,q⟩
 | brk=>obtain⟨σ',H',I,q⟩:=h;exact⟨σ',H',I.unwish,q⟩
 | cont=>obtain⟨σ',H',I,q⟩:=h;exact⟨σ',H',I.unwish,q⟩
 | ret u=>obtain⟨v,σ',H',I,r,q⟩:=h;exact⟨v,σ',H',I.unwish,r,q⟩
theorem PE.nox {e:Expr}{t:TE} (h:PE X.nox e t):PE X e t:=fun pins s σ H Q I hw=>
 wpAny_mono (h pins s σ H Q (I.wish _) hw) (fun _ _ ⟨v,H',I',r,q⟩=>⟨v,H',I'.unwish,r,q⟩) fun _ _ z=>False.elim z
theorem PT.nox {e:Expr}{t:TT} (h:PT X.nox e t):PT X e t:=fun pins s σ H Q I hw=>
 wpAny_mono (h pins s σ H Q (I.wish _) hw) (fun _ _ ⟨H',I',q⟩=>⟨H',I'.unwish,q⟩) fun _ _ z=>False.elim z
theorem PSs.nox {st:List Stmt}{t:TS} (h:PSs X.nox st t):PSs X st t:=fun pins s σ H D I hw=>
 wpAny_mono (h pins s σ H D (I.wish _) hw) (fun _ _ q=>q.unwish) fun _ _ z=>False.elim z
end
section
variable {X:Cx}{st:Stmt}{rest:List Stmt}{t u:TS}{e:Expr}{te:TE}{pos:Pos}
noncomputable def Aaj:TS:=fun D σ H=>D.nx σ H
noncomputable def Ac7 (t u:TS):TS:=fun D σ H=>t { D with nx:=u D} σ H
theorem Z9:PSs X [] Aaj:=fun _ _ σ H _ I h=>wpAny_execs_nil ⟨σ,H,I,h⟩
theorem Xp (h1:PS X st t) (h2:PSs X rest u):PSs X (st::rest) (Ac7 t u):=by
 intro pins s σ H D I h
 refine wpAny_execs_cons (thn (h1 pins s σ H { D with nx:=u D} I h) fun f s1 q=> ?_)
 cases f with
 | next=>
   obtain⟨σ',H',I',q⟩:=q
   exact h2 pins s1 σ' H' D I' q
 | ret v=>exact q
 | brk=>exact q
 | cont=>exact q
theorem V4 (h1:PS X st t):PSs X [st] t:=by
 intro pins s σ H D I h
 refine wpAny_execs_cons (thn (h1 pins s σ H D I h) fun f s1 q=> ?_)
 cases f with
 | next=>exact wpAny_execs_nil q
 | ret v=>exact q
 | brk=>exact q
 | cont=>exact q
theorem Inv.quiet {pins:List (Addr × Obj)}{σ:St}{H:Hp}{s:Shared} (I:Inv X pins σ H s):interactive X.env=false:=by simp [interactive,I.ok.kind]
noncomputable def Aai (te:TE):TS:=fun D σ H=>te σ H fun _ H1=>D.nx σ H1
theorem V2 (he:PE X e te) (hs:swapsWith e none pos.line X.env=pure false:=by rfl):PS X (.Expr e pos) (Aai te):=by
 intro pins s σ H D I h
 exact wpAny_Expr_any (thn (he pins s σ H _ I h) fun v s1 ⟨x,H1,I1,r1,q1⟩=>⟨σ,H1,I1,q1⟩) I.quiet hs
noncomputable def Ad7 (te:TE):TS:=fun D σ H=>te σ H D.rt
theorem Yu (he:PE X e te):PS X (.Return (some e) pos) (Ad7 te):=by
 intro pins s σ H D I h
 exact wpAny_Return_some (thn (he pins s σ H _ I h) fun v s1 ⟨x,H1,I1,r1,q1⟩=>⟨x,σ,H1,I1,r1,q1⟩)
noncomputable def Ad2 (c:TT) (t u:TS):TS:=fun D σ H=>c σ H fun b H1=>if b=true then t D σ H1 else u D σ H1
theorem Adv {c:Expr}{a b:List Stmt}{tc:TT} (hc:PT X c tc) (ha:PSs X a t) (hb:PSs X b u):PS X (.If c a b pos) (Ad2 tc t u):=by
 intro pins s σ H D I h
 refine wpAny_If (thn (hc pins s σ H _ I h) fun d s1 ⟨H1,I1,q1⟩=> ?_)
 cases d with
 | true=>exact ha pins s1 σ H1 D I1 q1
 | false=>exact hb pins s1 σ H1 D I1 q1
end
noncomputable abbrev TG:=V->St->Hp->(St->Hp->Prop)->Prop
noncomputable abbrev TGs:=List V->St->Hp->(St->Hp->Prop)->Prop
noncomputable def PG (X:Cx) (target:Expr) (t:TG):Prop:=
 ∀(pins:List (Addr × Obj)) (s:Shared) (σ:St) (H:Hp) (v:V) (u:Value) (Q:St->Hp->Prop),Inv X pins σ H s->RelV v u->t v σ H Q->
   wpAny (model X.prog X.w) X.A (assign target X.env u) (fun _ s'=>∃σ' H',Inv X pins σ' H' s'/\Q σ' H') X.xe s
noncomputable def PGs (X:Cx) (ts:List Expr) (t:TGs):Prop:=
 ∀(pins:List (Addr × Obj)) (s:Shared) (σ:St) (H:Hp) (vs:List V) (us:List Value) (Q:St->Hp->Prop),Inv X pins σ H s->Vals vs us->t vs σ H Q->
   wpAny (model X.prog X.w) X.A (assignInOrder ((assignEach ts X.env).map (·.2)) us) (fun _ s'=>∃σ' H',Inv X pins σ' H' s'/\Q σ' H') X.xe s
noncomputable abbrev Aaz:=V->V->V->Hp->(Hp->Prop)->Prop
noncomputable def Ada (X:Cx) (t:Aaz):Prop:=
 ∀(pins:List (Addr × Obj)) (s:Shared) (σ:St) (H:Hp) (o i v:V) (ov iv u:Value) (Q:Hp->Prop),Inv X pins σ H s->RelV o ov->RelV i iv->RelV v u->t o i v H Q->
   wpAny (model X.prog X.w) X.A (setItem ov iv u) (fun _ s'=>∃H',Inv X pins σ H' s'/\Q H') X.xe s
section
variable {X:Cx}{pos:Pos}
noncomputable def Ig (i:Nat):TG:=fun v σ H Q=>Q (σ.set i (some v)) H
theorem Qu {i:Nat}{x:Str} (hN:X.N.Nodup) (hi:X.N[i]? =some x) (hx:Loc X.env.scope x) (hf:X.fn x=true\/X.env.scope.names.lookup x=some .local :=by first | exact .inl rfl | exact .inr rfl | assumption):PG X (.Name x pos) (Ig i):=by
 intro pins s σ H v u Q I r h
 exact wpAny_assign_Name (Hz I hN hi hx r (fun s' I'=>⟨_,H,I',h⟩) hf)
noncomputable def Ac3:TGs:=fun vs σ H Q=>vs=[]/\Q σ H
noncomputable def Ot (t:TG) (u:TGs):TGs:=fun vs σ H Q=>∃v r,vs=v::r/\t v σ H fun σ' H'=>u r σ' H' Q
theorem Z5:PGs X [] Ac3:=by
 intro pins s σ H vs us Q I r h
 obtain⟨e,h⟩:=h
 subst e
 cases r
 exact assignInOrder_nil ⟨σ,H,I,h⟩
theorem R4 {e:Expr}{es:List Expr}{t:TG}{u:TGs} (h1:PG X e t) (h2:PGs X es u)
 (hs:(assignEach (e::es) X.env).map (·.2)=assign e X.env::(assignEach es X.env).map (·.2):=by rfl):PGs X (e::es) (Ot t u):=by
 intro pins s σ H vs us Q I r h
 obtain⟨v,vr,e1,h⟩:=h
 subst e1
 cases r with
 | cons r rr=>
   rw [hs]
   refine assignInOrder_cons (thn (h1 pins s σ H _ _ _ I r h) fun _ s1 ⟨σ1,H1,I1,q1⟩=> ?_)
   exact h2 pins s1 σ1 H1 _ _ Q I1 rr q1
noncomputable def Ac4 (K:PySem.W.Frag) (n:Nat) (t:TGs):TG:=fun v σ H Q=>∃a xs,v= .ref a/\SqT K H a xs/\xs.length=n/\t xs σ H Q
theorem Vy {es:List Expr}{k:Nat}{t:TGs}{n:Nat} (hc:X.calm=true) (h:PGs X es t)
 (hn:(assignEach es X.env).length=n:=by rfl) (hst:(assignEach es X.env).findIdx? (·.1)=none:=by rfl):PG X (.Tuple es k pos) (Ac4 X.K n t):=by
 intro pins s σ H v u Q I r hw
 obtain⟨a,xs,e1,hq,hl,hw⟩:=hw
 subst e1
 cases r
 obtain⟨its,rv,ht,hz⟩:=I.tuple hq
 refine assign_Tuple_tuple (I.ok.hd hc) ht (by simp [hn,<-hl,rv.length]) hst fun h' hx=> ?_
 have I1:Inv X pins σ H { s with heap:=h'}:=I.kept (t':=s.toks) fun b o e=>hx b o (Nat.ne_of_lt (Heap.lt_size e)) e
 exact h pins _ σ H xs _ Q I1 (by simpa using rv) hw
noncomputable def Adh (to ti:TE) (t:Aaz):TG:=fun v σ H Q=>to σ H fun o H1=>ti σ H1 fun i H2=>t o i v H2 fun H3=>Q σ H3
theorem Yp {o i:Expr}{to ti:TE}{t:Aaz} (ho:PE X o to) (hi:PE X i ti) (hs:Ada X t)
 (ha:∀v,assign (.Subscript o i pos) X.env v=(do
   let ov<-holding [v] (eval o X.env)
   let iv<-holding [v,ov] (eval i X.env)
   standAt pos
   holding [v,ov,iv] (setItem ov iv v)
   release [v,ov,iv] []):=by intro _;rfl):PG X (.Subscript o i pos) (Adh to ti t):=by
 intro pins s σ H v u Q I r h
 rw [ha]
 refine wpAny_bind (wpAny_holding (thn (ho pins s σ H _ I h) fun ov s1 ⟨x,H1,I1,r1,q1⟩=> ?_))
 refine wpAny_bind (wpAny_holding (thn (hi pins s1 σ H1 _ I1 q1) fun iv s2 ⟨y,H2,I2,r2,q2⟩=> ?_))
 refine wpAny_bind (wpAny_standAt (wpAny_bind (wpAny_holding (thn (hs pins s2 σ H2 x y v ov iv u _ I2 r1 r2 r q2) fun _ s3 ⟨H3,I3,q3⟩=> ?_))))
 exact wpAny_release ⟨σ,H3,I3,q3⟩
noncomputable def Xu (te:TE) (g:TG):TS:=fun D σ H=>te σ H fun x H1=>g x σ H1 D.nx
theorem R7 {tg e:Expr}{te:TE}{g:TG} (he:PE X e te) (hg:PG X tg g) (hs:swapsWithSole [tg] e pos.line X.env=pure false:=by rfl) (hw:swappedStores [tg] e X.env=pure none:=by rfl)
 (h1:(assignEach [tg] X.env).map (·.2)=[assign tg X.env]:=by rfl):PS X (.Assign [tg] e pos) (Xu te g):=by
 intro pins s σ H D I h
 refine wpAny_Assign_stores (thn (he pins s σ H _ I h) fun v s1 ⟨x,H1,I1,r1,q1⟩=> ?_) hs hw
 rw [h1]
 exact thn (hg pins s1 σ H1 x v _ I1 r1 q1) fun _ s2 q=>q
theorem R8 {i:Nat}{x:Str}{e:Expr}{te:TE}{pos':Pos} (hN:X.N.Nodup) (hi:X.N[i]? =some x) (hx:Loc X.env.scope x) (he:PE X e te) (hs:swapsWith e (some (.Name x pos')) pos.line X.env=pure false:=by rfl) (hf:X.fn x=true\/X.env.scope.names.lookup x=some .local :=by first | exact .inl rfl | exact .inr rfl | assumption):
 PS X (.Assign [.Name x pos'] e pos) (Xu te (Ig i)):=by
 intro pins s σ H D I h
 refine wpAny_Assign_Name (thn (he pins s σ H _ I h) fun v s1 ⟨y,H1,I1,r1,q1⟩=> ?_) hs
 exact Hz I1 hN hi hx r1 (fun s2 I2=>⟨_,H1,I2,q1⟩) hf
noncomputable def Ad6 (i j:Nat) (ta:TA):TS:=fun D σ H=>ta σ H fun vs H1=>∃v w,vs=[v,w]/\D.nx ((σ.set i (some v)).set j (some w)) H1
theorem Yt {i j:Nat}{x y:Str}{a b:Expr}{ta:TA}{px py pt:Pos}{kt k2 pt2} (hc:X.calm=true) (hN:X.N.Nodup) (hi:X.N[i]? =some x) (hj:X.N[j]? =some y) (hij:i≠j)
 (hx:X.env.scope.names.lookup x=some .local) (hy:X.env.scope.names.lookup y=some .local) (ha:PA X [a,b] ta)
 (hw:swappedStores [.Tuple [.Name x px,.Name y py] kt pt] (.Tuple [a,b] k2 pt2) X.env=pure (some [x,y]))
 (hs:swapsWithSole [.Tuple [.Name x px,.Name y py] kt pt] (.Tuple [a,b] k2 pt2) pos.line X.env=pure false:=by rfl):
 PS X (.Assign [.Tuple [.Name x px,.Name y py] kt pt] (.Tuple [a,b] k2 pt2) pos) (Ad6 i j ta):=by
 intro pins s σ H D I h
 rw [exec_Assign_arm]
 refine wpAny_bind (wpAny_standAt ?_)
 rw [hs]
 refine wpAny_bind (wpAny_pure ?_)
 rw [if_neg (by decide)]
 refine wpAny_bind (Tuple_ (thn (ha _ pins s σ H _ I h) fun us s1 ⟨vs,H1,I1,r1,q1⟩=> ?_))
 obtain⟨v,w,e1,q1⟩:=q1
 subst e1
 obtain⟨u1,u2,rfl,rv,rw'⟩:∃u1 u2,us=[u1,u2]/\RelV v u1/\RelV w u2:=by
  cases r1 with
  | cons p q=>
    cases q with
    | cons p' q'=>
      cases q'
      exact⟨_,_,rfl,p,p'⟩
 refine wpAny_newObj_type ?_ (by show 2<=sizeLine;decide)
 have I2:Inv X pins σ H1 { s1 with heap:=s1.heap.push { cls:= .type "tuple",data:= .seq [u1,u2].toArray}}:=I1.kept (t':=s1.toks) fun b o e=>Heap.get?_push_of_some _ e
 rw [hw]
 refine wpAny_bind (wpAny_pure ?_)
 show wpAny (model X.prog X.w) X.A (do rule "assign.swapped-stores";let items<-unpackItems (.ref s1.heap.objs.size) 2 none;assignInOrder [fun v=>bindName X.env y v,fun v=>bindName X.env x v] items.reverse;pure Flow.next) _ _ _
 refine wpAny_bind (wpAny_rule (wpAny_bind (unpackItems_tuple (items:= #[u1,u2]) (I.ok.hd hc) (IsTup.new s1.heap _) fun h' hx'=> ?_)))
 have I3:=I2.kept (h':=h') (t':=s1.toks) fun b o e=>hx' b o (Nat.ne_of_lt (Heap.lt_size e)) e
 show wpAny _ _ (assignInOrder [fun v=>bindName X.env y v,fun v=>bindName X.env x v] [u2,u1]>>=fun _=>pure Flow.next) _ _ _
 refine wpAny_bind (assignInOrder_cons (wpAny_bindName (Hz I3 hN hj (.inl hy) rw' (fun s2 I4=> ?_) (.inr hy))))
 refine assignInOrder_cons (wpAny_bindName (Hz I4 hN hi (.inl hx) rv (fun s3 I5=>assignInOrder_nil (wpAny_pure ?_)) (.inr hx)))
 rw [List.set_comm _ _ (Ne.symm hij)]at I5
 exact⟨_,H1,I5,q1⟩
end
section
variable {X:Cx}{pos:Pos}
noncomputable def Sw (c:TT) (tb:TS):TS:=fun D σ H=>∃W:Nat->St->Hp->Prop,(∃m,W m σ H)/\∀m σ H,W m σ H->
 c σ H fun b H1=>if b=true then ∃N:St->Hp->Prop,(∀σ' H',N σ' H'->∃m',m'<m/\W m' σ' H')/\tb { D with nx:=N,ct:=N,bk:=D.nx} σ H1 else D.nx σ H1
theorem Xo {c:Expr}{body:List Stmt}{tc:TT}{tb:TS} (hp:PassesOwn (model X.prog X.w) X.A X.env X.xe) (hc:PT X c tc) (hb:PSs X body tb):PS X (.While c body [] pos) (Sw tc tb):=by
 intro pins s σ H D I h
 obtain⟨W,⟨m0,w0⟩,turn⟩:=h
 refine wpAny_While (codeAny_whileLoop (fun n s'=>∃σ' H',Inv X pins σ' H' s'/\W n σ' H') ?_ m0 ⟨σ,H,I,w0⟩)
 rintro n s1 ⟨σ1,H1,I1,w1⟩
 refine wpAny_passesOwn hp (thn (hc pins s1 σ1 H1 _ I1 (turn n σ1 H1 w1)) fun b s2 ⟨H2,I2,q2⟩=> ?_)
 cases b with
 | true=>
   obtain⟨N,hN,q2⟩:=q2
   rw [if_pos rfl]
   refine wpAny_passesOwn hp (thn (hb pins s2 σ1 H2 _ I2 q2) fun f s3 q3=> ?_)
   cases f with
   | next=>
     obtain⟨σ3,H3,I3,n3⟩:=q3
     obtain⟨m',hm,w3⟩:=hN σ3 H3 n3
     exact⟨m',hm,σ3,H3,I3,w3⟩
   | cont=>
     obtain⟨σ3,H3,I3,n3⟩:=q3
     obtain⟨m',hm,w3⟩:=hN σ3 H3 n3
     exact⟨m',hm,σ3,H3,I3,w3⟩
   | brk=>exact q3
   | ret v=>exact q3
 | false=>
   rw [if_neg Bool.false_ne_true]
   exact wpAny_execs_nil ⟨σ1,H2,I2,q2⟩
end
structure It where
 go:Nat->Hp->Prop
 yld:Nat->Hp->V->Hp->Prop
 stop:Nat->Hp->Prop
noncomputable def N6 (X:Cx) (pins:List (Addr × Obj)) (H:Hp) (b:Addr):Prop:=
 H b=none/\b≠X.env.locals/\b∉X.fs/\(b∈X.ex\/X.s₀.heap.objs.size<=b)/\(∀x c,X.env.cells.lookup x=some c->c≠b)/\∀p∈X.pn++pins,p.1≠b
theorem Inv.fpOk {X:Cx}{pins:List (Addr × Obj)}{σ:St}{H H':Hp}{s:Shared}{b:Addr} (I:Inv X pins σ H s) (hb:s.heap.objs.size<=b) (hn:H' b=none):N6 X pins H' b:=by
 refine⟨hn,Nat.ne_of_gt (Nat.lt_of_lt_of_le I.lt hb),I.nofs hb,.inr (Nat.le_trans I.sz hb),fun x c e z=> ?_,fun p hp z=> ?_⟩
 . obtain⟨v,q⟩:=I.cell x c e
   exact absurd (Nat.lt_of_lt_of_le q.lt (by rw [z];exact hb)) (Nat.lt_irrefl _)
 . exact absurd (Nat.lt_of_lt_of_le (Heap.lt_size (I.pin p hp).1) (by rw [z];exact hb)) (Nat.lt_irrefl _)
structure Turn (P:Program) (w:World) (K:PySem.W.Frag) (tg:Expr) (J:It) (fp:List Addr) (it:Addr) (tn:Nat->Heap->Prop):Prop where
 mem:it∈fp
 obj:∀i h,tn i h->∀b∈fp,∃o,h.get? b=some o/\∀v,o.data≠ .cell v
 keep:∀i h h',tn i h->(∀b∈fp,∀o,h.get? b=some o->h'.get? b=some o)->tn i h'
 item:∀(X:Cx),X.prog=P->X.w=w->X.K=K->X.calm=true->∀(i:Nat) (pins:List (Addr × Obj)) (s:Shared) (σ:St) (H:Hp) (E:Value->Shared->Prop),Inv X pins σ H s->(∀b∈fp,N6 X pins H b)->tn i s.heap->J.go i H->
  wpAny (model P w) X.A (pyNext (.ref it)) (fun r s1=>∃u,r=some u/\
   wpAny (model P w) X.A (letOwnedTupleGo tg (.ref it) u) (fun _ s2=>∃x H',Inv X pins σ H' s2/\RelV x u/\J.yld i H x H'/\tn (i+1) s2.heap/\∀b∈fp,H' b=none) E s1) E s
 done:∀(X:Cx),X.prog=P->X.w=w->X.K=K->X.calm=true->∀(i:Nat) (pins:List (Addr × Obj)) (s:Shared) (σ:St) (H:Hp) (E:Value->Shared->Prop),Inv X pins σ H s->(∀b∈fp,N6 X pins H b)->tn i s.heap->J.stop i H->
  wpAny (model P w) X.A (pyNext (.ref it)) (fun r s1=>r=none/\Inv X pins σ H s1) E s
 self:∀(A:Around) (i:Nat) (s:Shared) (Q:Value->Shared->Prop) (E:Value->Shared->Prop),tn i s.heap->Q (.ref it) s->wpAny (model P w) A (pyIter (.ref it)) Q E s
noncomputable abbrev TI:=St->Hp->(It->Hp->Prop)->Prop
noncomputable def PIE (X:Cx) (pins:List (Addr × Obj)) (σ:St) (tg:Expr) (R:It->Hp->Prop) (itv:Value) (s2:Shared):Prop:=
 ∃(it:Addr) (fp:List Addr) (tn:Nat->Heap->Prop) (J:It) (H':Hp),itv= .ref it/\Inv X pins σ H' s2/\Turn X.prog X.w X.K tg J fp it tn/\tn 0 s2.heap/\(∀b∈fp,N6 X pins H' b)/\R J H'
noncomputable def PI (X:Cx) (tg iter:Expr) (wi:TI):Prop:=
 ∀(pins:List (Addr × Obj)) (s:Shared) (σ:St) (H:Hp) (R:It->Hp->Prop),Inv X pins σ H s->wi σ H R->
   wpAny (model X.prog X.w) X.A (eval iter X.env) (fun v s1=>wpAny (model X.prog X.w) X.A (pyIter v) (PIE X pins σ tg R) X.xe s1) X.xe s
theorem Xd {M:Model}{A:Around}{E:Value->Shared->Prop}{s:Shared}{tg:Expr}{it:Addr}{u:Value}{o:Obj}{n:String}{vs:Array Value}{Q:Unit->Shared->Prop} (ho:s.heap.get? it=some o) (hc:o.cls= .type n) (hd:o.data= .fields vs)
 (hn:["enumerate","zip","dict_itemiterator","dict_reverseitemiterator","odict_iterator","itertools.zip_longest","itertools.pairwise"].contains n=false) (hQ:Q () s):wpAny M A (letOwnedTupleGo tg (.ref it) u) Q E s:=by
 unfold letOwnedTupleGo
 cases tg<;>first
  | exact wpAny_pure hQ
  | (cases u<;>first
      | exact wpAny_pure hQ
      | (refine wpAny_bind (wpAny_load ho ?_)
         rw [hc,hd]
         show wpAny M A (if(["enumerate","zip","dict_itemiterator","dict_reverseitemiterator","odict_iterator","itertools.zip_longest","itertools.pairwise"].contains n&&vs[0]? ==some (rawInt _))=true then _ else _) Q E s
         rw [if_neg (by intro h;rw [hn,Bool.false_and]at h;cases h)]
         exact wpAny_pure hQ))
noncomputable def Itl (K:PySem.W.Frag) (a:Addr):It:=
 ⟨fun i H=>∃xs x,SqL K H a xs/\xs[i]? =some x,fun i H x H'=>H'=H/\∀xs,SqL K H a xs->xs[i]? =some x,fun i H=>∃xs,SqL K H a xs/\xs.length<=i⟩
noncomputable def Itt (K:PySem.W.Frag) (a:Addr):It:=
 ⟨fun i H=>∃xs x,SqT K H a xs/\xs[i]? =some x,fun i H x H'=>H'=H/\∀xs,SqT K H a xs->xs[i]? =some x,fun i H=>∃xs,SqT K H a xs/\xs.length<=i⟩
noncomputable def Itr (lo:Int) (n:Nat):It:=⟨fun i _=>i<n,fun i H x H'=>H'=H/\x= .int (lo+i),fun i _=>n<=i⟩
theorem Py {P:Program}{w:World}{K:PySem.W.Frag}{tg:Expr} (a it:Addr):Turn P w K tg (Itl K a) [it] it (fun i h=>h.IsListIter it a i) where
 mem:=by simp
 obj:=fun i h st b hb=>by
  have e:b=it:=by simpa using hb
  subst e
  obtain⟨o,e,c,d⟩:=st
  exact⟨o,e,fun v z=>by rw [d]at z;cases z⟩
 keep:=fun i h h' st k=>st.at fun o e=>k it (by simp) o e
 item:=by
  intro X hP hw hK hc i pins s σ H E I hf st hg
  subst hP hw hK
  obtain⟨xs,x,hq,hx⟩:=hg
  obtain⟨its,rv,p,hz⟩:=I.list hq
  obtain⟨u,hu,ru⟩:=rv.get hx
  obtain⟨f0,f1,f2,f3,f4,f5⟩:=hf it (by simp)
  refine wpAny_pyNext_list_item st p.isList (x:=u) (by simpa using hu) fun h' st' sb=> ?_
  have I1:Inv X pins σ H { s with heap:=h'}:=I.turned (t':=s.toks) (fun b o hb e=>(sb.2 b hb).trans e) f0 f1 f3 f4 f5
  obtain⟨o,e,c,d⟩:=id st'
  exact⟨u,rfl,Xd (s:={ s with heap:=h'}) e c d (by decide) ⟨x,H,I1,ru,⟨rfl,fun ys hy=>by rw [I.list_inj hy hq];exact hx⟩,st',fun b hb=>(hf b hb).1⟩⟩
 done:=by
  intro X hP hw hK hc i pins s σ H E I hf st hg
  subst hP hw hK
  obtain⟨xs,hq,hx⟩:=hg
  obtain⟨its,rv,p,hz⟩:=I.list hq
  obtain⟨f0,f1,f2,f3,f4,f5⟩:=hf it (by simp)
  have hl:=rv.length
  exact wpAny_pyNext_list_end (I.ok.hd hc) st p.isList (by simp;omega) fun h' eb=>⟨rfl,I.turned (t':=s.toks) (fun b o hb e=>eb b o hb e) f0 f1 f3 f4 f5⟩
 self:=fun _ _ _ _ _ st h=>wpAny_pyIter_listiter st h
theorem Ml {P:Program}{w:World}{K:PySem.W.Frag}{tg:Expr} (a it:Addr):Turn P w K tg (Itt K a) [it] it (fun i h=>h.IsTupleIter it a i) where
 mem:=by simp
 obj:=fun i h st b hb=>by
  have e:b=it:=by simpa using hb
  subst e
  obtain⟨o,e,c,d⟩:=st
  exact⟨o,e,fun v z=>by rw [d]at z;cases z⟩
 keep:=fun i h h' st k=>st.at fun o e=>k it (by simp) o e
 item:=by
  intro X hP hw hK hc i pins s σ H E I hf st hg
  subst hP hw hK
  obtain⟨xs,x,hq,hx⟩:=hg
  obtain⟨its,rv,p,hz⟩:=I.tuple hq
  obtain⟨u,hu,ru⟩:=rv.get hx
  obtain⟨f0,f1,f2,f3,f4,f5⟩:=hf it (by simp)
  refine wpAny_pyNext_tuple_item st (show s.heap.IsTuple a its.toArray from p) (x:=u) (by simpa using hu) fun h' st' sb=> ?_
  have I1:Inv X pins σ H { s with heap:=h'}:=I.turned (t':=s.toks) (fun b o hb e=>(sb.2 b hb).trans e) f0 f1 f3 f4 f5
  obtain⟨o,e,c,d⟩:=id st'
  exact⟨u,rfl,Xd (s:={ s with heap:=h'}) e c d (by decide) ⟨x,H,I1,ru,⟨rfl,fun ys hy=>by rw [I.tuple_inj hy hq];exact hx⟩,st',fun b hb=>(hf b hb).1⟩⟩
 done:=by
  intro X hP hw hK hc i pins s σ H E I hf st hg
  subst hP hw hK
  obtain⟨xs,hq,hx⟩:=hg
  obtain⟨its,rv,p,hz⟩:=I.tuple hq
  obtain⟨f0,f1,f2,f3,f4,f5⟩:=hf it (by simp)
  have hl:=rv.length
  exact wpAny_pyNext_tuple_end (I.ok.hd hc) st (show s.heap.IsTuple a its.toArray from p) (by simp;omega) fun h' eb=>⟨rfl,I.turned (t':=s.toks) (fun b o hb e=>eb b o hb e) f0 f1 f3 f4 f5⟩
 self:=fun _ _ _ _ _ st h=>wpAny_pyIter_tupleiter st h
theorem T8 {P:Program}{w:World}{K:PySem.W.Frag}{tg:Expr} (it:Addr) (lo:Int) (n:Nat):Turn P w K tg (Itr lo n) [it] it (fun i h=>IsRangeIter h it (lo+(i:Nat)*1) ((n:Int)-(i:Nat)) 1) where
 mem:=by simp
 obj:=fun i h st b hb=>by
  have e:b=it:=by simpa using hb
  subst e
  exact⟨_,st,fun v z=>by
   have z':Data.fields _=Data.cell v:=z
   cases z'⟩
 keep:=fun i h h' st k=>k it (by simp) _ st
 item:=by
  intro X hP hw hK hc i pins s σ H E I hf st hg
  subst hP hw hK
  obtain⟨f0,f1,f2,f3,f4,f5⟩:=hf it (by simp)
  have W:=Walks.range (prog:=X.prog) (w:=X.w) (I.ok.hd hc) it lo 1 n
  refine W.item i s _ _ hg st fun v h' tk hv st' kk=> ?_
  obtain⟨t,rfl⟩:=hv
  have I1:Inv X pins σ H { s with heap:=h',toks:=tk}:=I.turned (fun b o hb e=>kk b o (by simpa using hb) e) f0 f1 f3 f4 f5
  refine⟨_,rfl,Xd (s:={ s with heap:=h',toks:=tk}) (n:="range_iterator") st' rfl rfl (by decide) ⟨.int (lo+i),H,I1,⟨t,?_⟩,⟨rfl,rfl⟩,st',fun b hb=>(hf b hb).1⟩⟩
  rw [Int.mul_one]
 done:=by
  intro X hP hw hK hc i pins s σ H E I hf st hg
  subst hP hw hK
  obtain⟨f0,f1,f2,f3,f4,f5⟩:=hf it (by simp)
  exact wpAny_pyNext_range_end (I.ok.hd hc) st (by have:n<=i:=hg;omega) fun h' eb=>⟨rfl,I.turned (t':=s.toks) (fun b o hb e=>eb b o hb e) f0 f1 f3 f4 f5⟩
 self:=fun _ _ _ _ _ st h=>wpAny_pyIter_rangeiter st h
end L2
namespace L2
open PySem PySem.Spec PyProof.Rows
section
variable {X:Cx}{tg:Expr}
noncomputable def Zo (K:PySem.W.Frag) (tl:TE):TI:=fun σ H R=>tl σ H fun x H1=>∃a,x= .ref a/\(∃xs,SqL K H1 a xs)/\R (Itl K a) H1
noncomputable def Adl (K:PySem.W.Frag) (tl:TE):TI:=fun σ H R=>tl σ H fun x H1=>∃a,x= .ref a/\(∃xs,SqT K H1 a xs)/\R (Itt K a) H1
theorem Z6 {l:Expr}{tl:TE} (hl:PE X l tl):PI X tg l (Zo X.K tl):=by
 intro pins s σ H R I h
 refine thn (hl pins s σ H _ I h) fun v s1 ⟨x,H1,I1,r1,q1⟩=> ?_
 obtain⟨a,e,⟨xs,hq⟩,q⟩:=q1
 subst e
 cases r1
 obtain⟨its,rv,p,hz⟩:=I1.list hq
 refine wpAny_pyIter_list p.isList ?_
 refine⟨s1.heap.objs.size,[s1.heap.objs.size],_,_,H1,rfl,I1.kept (t':=s1.toks) fun b o e=>Heap.get?_push_of_some _ e,Py a _,⟨_,Heap.get?_push_size _ rfl,rfl,rfl⟩,fun b hb=> ?_,q⟩
 have e:b=s1.heap.objs.size:=by simpa using hb
 subst e
 exact I1.fpOk (Nat.le_refl _) (I1.hok.fresh (Nat.le_refl _))
theorem Abw {l:Expr}{tl:TE} (hl:PE X l tl):PI X tg l (Adl X.K tl):=by
 intro pins s σ H R I h
 refine thn (hl pins s σ H _ I h) fun v s1 ⟨x,H1,I1,r1,q1⟩=> ?_
 obtain⟨a,e,⟨xs,hq⟩,q⟩:=q1
 subst e
 cases r1
 obtain⟨its,rv,p,hz⟩:=I1.tuple hq
 refine wpAny_pyIter_tuple (show s1.heap.IsTuple a its.toArray from p) ?_
 refine⟨s1.heap.objs.size,[s1.heap.objs.size],_,_,H1,rfl,I1.kept (t':=s1.toks) fun b o e=>Heap.get?_push_of_some _ e,Ml a _,⟨_,Heap.get?_push_size _ rfl,rfl,rfl⟩,fun b hb=> ?_,q⟩
 have e:b=s1.heap.objs.size:=by simpa using hb
 subst e
 exact I1.fpOk (Nat.le_refl _) (I1.hok.fresh (Nat.le_refl _))
theorem R9 {pins:List (Addr × Obj)}{σ:St}{H:Hp}{s:Shared}{R:It->Hp->Prop}{E:Value->Shared->Prop}{lo hi:Int}{t u v:Tok}{tk:Nat} (I:Inv X pins σ H s) (h1: -(2^62)<=lo) (h2:lo<2^62) (h3: -(2^62)<=hi) (h4:hi<2^62)
 (q:R (Itr lo (hi-lo).toNat) H):wpAny (model X.prog X.w) X.A (pyIter (.ref s.heap.objs.size)) (PIE X pins σ tg R) E { s with heap:=s.heap.push { cls:= .type "range",data:= .fields #[.int lo t,.int hi u,.int 1 v]},toks:=tk}:=by
 refine wpAny_pyIter_range (IsRange.new ..) (small_one h1 h2 h3 h4) ?_
 have I1:Inv X pins σ H { s with heap:=s.heap.push { cls:= .type "range",data:= .fields #[.int lo t,.int hi u,.int 1 v]},toks:=tk}:=I.kept fun b o e=>Heap.get?_push_of_some _ e
 refine⟨(s.heap.push { cls:= .type "range",data:= .fields #[.int lo t,.int hi u,.int 1 v]}).objs.size,[(s.heap.push { cls:= .type "range",data:= .fields #[.int lo t,.int hi u,.int 1 v]}).objs.size],_,_,H,rfl,
  I1.kept (t':=tk) fun b o e=>Heap.get?_push_of_some _ e,T8 _ lo (hi-lo).toNat,?_,fun b hb=> ?_,q⟩
 . have e1:lo+((0:Nat):Int)*1=lo:=by simp
   have e2:(((hi-lo).toNat:Nat):Int)-((0:Nat):Int)=Builtin.Range.rangeSize lo hi 1:=by rw [rangeSize_one];split<;>omega
   show IsRangeIter _ _ (lo+((0:Nat):Int)*1) ((((hi-lo).toNat:Nat):Int)-((0:Nat):Int)) 1
   rw [e1,e2]
   exact Heap.get?_push_size _ rfl
 . have e:b=(s.heap.push { cls:= .type "range",data:= .fields #[.int lo t,.int hi u,.int 1 v]}).objs.size:=by simpa using hb
   subst e
   exact I1.fpOk (Nat.le_refl _) (I1.hok.fresh (Nat.le_refl _))
noncomputable def Zq (ta:TA):TI:=fun σ H R=>ta σ H fun vs H1=>∃j:Int,vs=[.int j]/\ -(2^62)<=j/\j<2^62/\R (Itr 0 j.toNat) H1
noncomputable def Zr (ta:TA):TI:=fun σ H R=>ta σ H fun vs H1=>∃i j:Int,vs=[.int i,.int j]/\(-(2^62)<=i/\i<2^62/\ -(2^62)<=j/\j<2^62)/\R (Itr i (j-i).toNat) H1
theorem O8 {a:Expr}{ta:TA}{p pos:Pos} (hg:Gl X "range") (hm:X.mg "range"=none) (ha:PA X [a] ta) (hs:starEach [a] X.env=[(false,eval a X.env)]:=by rfl):PI X tg (.Call (.Name "range" p) [a] [] pos) (Zq ta):=by
 intro pins s σ H R I h
 refine Call_ (Jv I hg hm boot_range (PyProof.Rows.callWith_type1 (thn (ha pos pins s σ H _ I h) fun us s1 ⟨vs,H1,I1,r1,q1⟩=> ?_) hs rfl))
 obtain⟨j,e,q1,q2,q⟩:=q1
 subst e
 cases r1 with
 | cons r rr=>
   cases rr
   obtain⟨t,rfl⟩:=r
   exact call_range_1 (R9 I1 (by omega) (by omega) q1 q2 (by simpa using q))
theorem K1 {a b:Expr}{ta:TA}{p pos:Pos} (hg:Gl X "range") (hm:X.mg "range"=none) (ha:PA X [a,b] ta) (hs:starEach [a,b] X.env=[(false,eval a X.env),(false,eval b X.env)]:=by rfl) (hs2:starEach [b] X.env=[(false,eval b X.env)]:=by rfl):
 PI X tg (.Call (.Name "range" p) [a,b] [] pos) (Zr ta):=by
 intro pins s σ H R I h
 refine Call_ (Jv I hg hm boot_range (PyProof.Rows.callWith_type1 (thn (ha pos pins s σ H _ I h) fun us s1 ⟨vs,H1,I1,r1,q1⟩=> ?_) (by rw [hs,hs2]) (by rw [hs2];rfl)))
 obtain⟨i,j,e,⟨q1,q2,q3,q4⟩,q⟩:=q1
 subst e
 cases r1 with
 | cons r rr=>
   cases rr with
   | cons r' rr=>
     cases rr
     obtain⟨t,rfl⟩:=r
     obtain⟨t',rfl⟩:=r'
     exact call_range_2 (R9 I1 q1 q2 q3 q4 q)
noncomputable def Ad1 (wi:TI) (g:TG) (tb:TS):TS:=fun D σ H=>wi σ H fun J H1=>∃W:Nat->Nat->St->Hp->Prop,(∃m,W 0 m σ H1)/\∀i m σ H,W i m σ H->
 (J.stop i H/\D.nx σ H)\/(J.go i H/\∃N:St->Hp->Prop,(∀σ' H',N σ' H'->∃m',m'<m/\W (i+1) m' σ' H')/\∀x H',J.yld i H x H'->g x σ H' fun σ2 H2=>tb { D with nx:=N,ct:=N,bk:=D.nx} σ2 H2)
noncomputable def O9 (fp:List Addr) (h:Heap):List (Addr × Obj):=fp.filterMap fun b=>(h.get? b).map fun o=>(b,o)
theorem Gf {fp:List Addr}{h:Heap}{b:Addr}{o:Obj} (hb:b∈fp) (e:h.get? b=some o):(b,o)∈O9 fp h:=List.mem_filterMap.mpr ⟨b,hb,by rw [e];rfl⟩
theorem Vk {fp:List Addr}{h:Heap}{p:Addr × Obj} (hp:p∈O9 fp h):p.1∈fp/\h.get? p.1=some p.2:=by
 obtain⟨b,hb,e⟩:=List.mem_filterMap.mp hp
 cases q:h.get? b with
 | none=>rw [q]at e;cases e
 | some o=>
   rw [q]at e
   have e':(b,o)=p:=Option.some.inj e
   subst e'
   exact⟨hb,q⟩
theorem Inv.pinned {pins:List (Addr × Obj)}{σ:St}{H:Hp}{s:Shared}{fp:List Addr} (I:Inv X pins σ H s) (hf:∀b∈fp,N6 X pins H b) (ho:∀b∈fp,∃o,s.heap.get? b=some o/\∀v,o.data≠ .cell v):Inv X (pins++O9 fp s.heap) σ H s:=
 I.pins_of fun p hp=>(List.mem_append.mp hp).elim (fun z=>I.pin p (List.mem_append_right _ z)) fun z=>by
  obtain⟨hb,e⟩:=Vk z
  obtain⟨f0,f1,f2,_⟩:=hf p.1 hb
  obtain⟨o,e',d⟩:=ho p.1 hb
  rw [e]at e';cases e'
  exact⟨e,f0,f1,f2,d⟩
theorem Inv.unpinned {pins pl:List (Addr × Obj)}{σ:St}{H:Hp}{s:Shared} (I:Inv X (pins++pl) σ H s):Inv X pins σ H s:=I.pins_of fun p hp=>I.pin p (List.mem_append_right _ (List.mem_append_left _ hp))
theorem Ys {iter:Expr}{body:List Stmt}{wi:TI}{g:TG}{tb:TS}{pos:Pos} (hp:PassesOwn (model X.prog X.w) X.A X.env X.xe) (hc:X.calm=true) (hi:PI X tg iter wi) (hg:PG X tg g) (hb:PSs X body tb)
 (hs:∀x,foldedSetIterable iter X.env x=pure x:=by intro _;rfl):PS X (.For tg iter body [] pos) (Ad1 wi g tb):=by
 intro pins s σ H D I h
 refine wpAny_For (thn (hi pins s σ H _ I h) fun v s1 h1=>thn h1 fun itv s2 h2=> ?_) hs
 obtain⟨it,fp,tn,J,H2,e,I2,T,st2,f2,W,⟨m0,w0⟩,turn⟩:=h2
 subst e
 have stat:∀ {H':Hp},(∀b∈fp,H' b=none)->∀b∈fp,N6 X pins H' b:=fun hn b hb=>⟨hn b hb,(f2 b hb).2⟩
 refine codeAny_forLoop_any (fun n s'=>∃i σ' H',Inv X pins σ' H' s'/\tn i s'.heap/\(∀b∈fp,H' b=none)/\W i n σ' H') ?_ m0 ⟨0,σ,H2,I2,st2,fun b hb=>(f2 b hb).1,w0⟩
 rintro n s3 ⟨i,σ3,H3,I3,st3,fr3,w3⟩
 rcases turn i n σ3 H3 w3 with⟨stop,qn⟩ | ⟨go,N,hN,step⟩
 . refine wpAny_passesOwn hp (thn (T.done X rfl rfl rfl hc i pins s3 σ3 H3 X.xe I3 (stat fr3) st3 stop) fun r s4 ⟨hr,I4⟩=> ?_)
   subst hr
   exact wpAny_execs_nil ⟨σ3,H3,I4,qn⟩
 . refine wpAny_passesOwn hp (thn (T.item X rfl rfl rfl hc i pins s3 σ3 H3 X.xe I3 (stat fr3) st3 go) fun r s4 ⟨u,hr,h4⟩=> ?_)
   subst hr
   refine wpAny_passesOwn hp (thn h4 fun _ s5 ⟨x,H5,I5,r5,y5,st5,fr5⟩=> ?_)
   have I5':=I5.pinned (stat fr5) (T.obj _ _ st5)
   refine wpAny_passesOwn hp (thn (hg _ s5 σ3 H5 x u _ I5' r5 (step x H5 y5)) fun _ s6 ⟨σ6,H6,I6,q6⟩=> ?_)
   refine wpAny_passesOwn hp (thn (hb _ s6 σ6 H6 _ I6 q6) fun f s7 q7=> ?_)
   have again:∀ {σ7:St}{H7:Hp},Inv X (pins++O9 fp s5.heap) σ7 H7 s7->N σ7 H7->∃m,m<n/\∃i σ' H',Inv X pins σ' H' s7/\tn i s7.heap/\(∀b∈fp,H' b=none)/\W i m σ' H':=fun {σ7 H7} I7 n7=>by
    obtain⟨m',hm,w7⟩:=hN σ7 H7 n7
    refine⟨m',hm,i+1,σ7,H7,I7.unpinned,T.keep _ _ _ st5 fun b hb o e=>(I7.pin (b,o) (List.mem_append_right _ (List.mem_append_right _ (Gf hb e)))).1,fun b hb=> ?_,w7⟩
    obtain⟨o,e,d⟩:=T.obj _ _ st5 b hb
    exact(I7.pin (b,o) (List.mem_append_right _ (List.mem_append_right _ (Gf hb e)))).2.1
   cases f with
   | next=>obtain⟨σ7,H7,I7,n7⟩:=q7;exact again I7 n7
   | cont=>obtain⟨σ7,H7,I7,n7⟩:=q7;exact again I7 n7
   | brk=>obtain⟨σ7,H7,I7,q7⟩:=q7;exact⟨σ7,H7,I7.unpinned,q7⟩
   | ret v=>obtain⟨x7,σ7,H7,I7,r7,q7⟩:=q7;exact⟨x7,σ7,H7,I7.unpinned,r7,q7⟩
end
end L2
namespace L2
open PySem PySem.Spec PyProof.Rows
noncomputable abbrev R2:=V->V->Hp->VK->Prop
noncomputable def OpR (X:Cx) (f:Value->Value->Sem Value) (r:R2):Prop:=
 ∀(pins:List (Addr × Obj)) (s:Shared) (σ:St) (H:Hp) (x y:V) (v u:Value) (Q:VK),Inv X pins σ H s->RelV x v->RelV y u->r x y H Q->
   wpAny (model X.prog X.w) X.A (f v u) (EP X pins σ Q) X.xe s
noncomputable def UnR (X:Cx) (f:Value->Sem Value) (r:V->Hp->VK->Prop):Prop:=
 ∀(pins:List (Addr × Obj)) (s:Shared) (σ:St) (H:Hp) (x:V) (v:Value) (Q:VK),Inv X pins σ H s->RelV x v->r x H Q->
   wpAny (model X.prog X.w) X.A (f v) (EP X pins σ Q) X.xe s
noncomputable def Gm (X:Cx) (f:Value) (r:List V->Hp->VK->Prop):Prop:=
 ∀(pins:List (Addr × Obj)) (s:Shared) (σ:St) (H:Hp) (xs:List V) (us:List Value) (Q:VK),Inv X pins σ H s->Vals xs us->r xs H Q->
   wpAny (model X.prog X.w) X.A (call f us) (EP X pins σ Q) X.xe s
noncomputable def tOp (r:R2) (ta tb:TE):TE:=fun σ H Q=>ta σ H fun x H1=>tb σ H1 fun y H2=>r x y H2 Q
noncomputable def tUn (r:V->Hp->VK->Prop) (ta:TE):TE:=fun σ H Q=>ta σ H fun x H1=>r x H1 Q
noncomputable def rI (C:Int->Int->Prop) (g:Int->Int->V):R2:=fun x y H Q=>∃i j,x= .int i/\y= .int j/\C i j/\Q (g i j) H
noncomputable def rI0 (g:Int->Int->V):R2:=fun x y H Q=>∃i j,x= .int i/\y= .int j/\Q (g i j) H
noncomputable def rU (g:Int->V):V->Hp->VK->Prop:=fun x H Q=>∃i,x= .int i/\Q (g i) H
section
variable {X:Cx}{a b c:Expr}{ta tb tc:TE}{pos:Pos}
theorem Adc (ha:PE X a ta) (hb:PE X b tb) {pins:List (Addr × Obj)}{s:Shared}{σ:St}{H:Hp}{R:V->V->Hp->Prop} (I:Inv X pins σ H s)
 (h:ta σ H fun x H1=>tb σ H1 fun y H2=>R x y H2) {Q:Value->Shared->Prop}{f:Value->Value->Sem Value}
 (hf:∀v u s2 x y H2,Inv X pins σ H2 s2->RelV x v->RelV y u->R x y H2->wpAny (model X.prog X.w) X.A (f v u) Q X.xe s2):
 wpAny (model X.prog X.w) X.A (eval a X.env) (fun v s₁=>wpAny (model X.prog X.w) X.A (eval b X.env) (fun u s₂=>wpAny (model X.prog X.w) X.A (f v u) Q X.xe s₂) X.xe s₁) X.xe s:=by
 refine thn (ha pins s σ H _ I h) fun v s1 ⟨x,H1,I1,r1,q1⟩=> ?_
 refine thn (hb pins s1 σ H1 _ I1 q1) fun u s2 ⟨y,H2,I2,r2,q2⟩=> ?_
 exact hf v u s2 x y H2 I2 r1 r2 q2
theorem Adt {op:Operator}{r:R2} (ho:OpR X (binaryOp op) r) (ha:PE X a ta) (hb:PE X b tb):PE X (.BinOp a op b pos) (tOp r ta tb):=by
 intro pins s σ H Q I h
 exact wpAny_BinOp (Adc ha hb I h fun v u s2 x y H2 I2 rx ry q=>ho pins s2 σ H2 x y v u Q I2 rx ry q)
theorem Adu {op:UnaryOp}{r:V->Hp->VK->Prop} (ho:UnR X (unaryOp op) r) (ha:PE X a ta):PE X (.UnaryOp op a pos) (tUn r ta):=by
 intro pins s σ H Q I h
 exact UnaryOp_ (thn (ha pins s σ H _ I h) fun v s1 ⟨x,H1,I1,r1,q1⟩=>ho pins s1 σ H1 x v Q I1 r1 q1)
theorem opI {f:Value->Value->Sem Value}{C:Int->Int->Prop}{g:Int->Int->Int}
 (rule:∀(i j:Int) (t u:Tok) (s:Shared) (Q:Value->Shared->Prop) (E:Value->Shared->Prop),C i j->Q (.int (g i j) s.toks) { s with toks:=s.toks+1}->wpAny (model X.prog X.w) X.A (f (.int i t) (.int j u)) Q E s):
 OpR X f (rI C fun i j=> .int (g i j)):=by
 intro pins s σ H x y v u Q I rx ry h
 obtain⟨i,j,rfl,rfl,hc,q⟩:=h
 obtain⟨t,rfl⟩:=rx
 obtain⟨t',rfl⟩:=ry
 exact rule i j t t' s _ _ hc ⟨.int (g i j),H,I.tok _,⟨_,rfl⟩,q⟩
theorem Ae8 {f:Value->Value->Sem Value}{g:Int->Int->Int}
 (rule:∀(i j:Int) (t u:Tok) (s:Shared) (Q:Value->Shared->Prop) (E:Value->Shared->Prop),Q (.int (g i j) s.toks) { s with toks:=s.toks+1}->wpAny (model X.prog X.w) X.A (f (.int i t) (.int j u)) Q E s):
 OpR X f (rI0 fun i j=> .int (g i j)):=by
 intro pins s σ H x y v u Q I rx ry h
 obtain⟨i,j,rfl,rfl,q⟩:=h
 obtain⟨t,rfl⟩:=rx
 obtain⟨t',rfl⟩:=ry
 exact rule i j t t' s _ _ ⟨.int (g i j),H,I.tok _,⟨_,rfl⟩,q⟩
theorem Adm {f:Value->Value->Sem Value}{g:Int->Int->Bool}
 (rule:∀(i j:Int) (t u:Tok) (s:Shared) (Q:Value->Shared->Prop) (E:Value->Shared->Prop),Q (.bool (g i j)) s->wpAny (model X.prog X.w) X.A (f (.int i t) (.int j u)) Q E s):
 OpR X f (rI0 fun i j=> .bl (g i j)):=by
 intro pins s σ H x y v u Q I rx ry h
 obtain⟨i,j,rfl,rfl,q⟩:=h
 obtain⟨t,rfl⟩:=rx
 obtain⟨t',rfl⟩:=ry
 exact rule i j t t' s _ _ ⟨.bl (g i j),H,I,rfl,q⟩
noncomputable def Afb (i j:Int):Prop:=0<=j/\j<=1000000/\i.natAbs<2^64
noncomputable def Aez (i j:Int):Prop:=(-(2^64)<i/\i<2^64)\/(-(2^64)<j/\j<2^64)
theorem Aez.ok {i j:Int} (h:Aez i j):IntMulOk i j:=by
 rcases h with⟨h1,h2⟩ | ⟨h1,h2⟩
 . exact .of_left (intBits_le_64 h1 h2)
 . exact .of_right (intBits_le_64 h1 h2)
theorem Cm:OpR X (binaryOp .Add) (rI0 fun i j=> .int (i+j)):=Ae8 fun _ _ _ _ _ _ _ q=>add_int q
theorem Dw:OpR X (binaryOp .Sub) (rI0 fun i j=> .int (i-j)):=Ae8 fun _ _ _ _ _ _ _ q=>sub_int q
theorem Cz:OpR X (binaryOp .Mod) (rI (fun _ j=>0<j) fun i j=> .int (i%j)):=opI fun i j _ _ _ _ _ hc q=>by
 have h1:(0:Int)<j:=hc
 exact mod_int' (by omega) (by rw [Int.fmod_eq_emod_of_nonneg i (by omega)];exact q)
theorem Yl:OpR X (binaryOp .Pow) (rI Afb fun i j=> .int (i^j.toNat)):=opI fun _ _ _ _ _ _ _ hc q=>pow_int_small hc.1 hc.2.1 hc.2.2 q
theorem unI {f:Value->Sem Value}{g:Int->Int}
 (rule:∀(i:Int) (t:Tok) (s:Shared) (Q:Value->Shared->Prop) (E:Value->Shared->Prop),Q (.int (g i) s.toks) { s with toks:=s.toks+1}->wpAny (model X.prog X.w) X.A (f (.int i t)) Q E s):
 UnR X f (rU fun i=> .int (g i)):=by
 intro pins s σ H x v Q I rx h
 obtain⟨i,rfl,q⟩:=h
 obtain⟨t,rfl⟩:=rx
 exact rule i t s _ _ ⟨.int (g i),H,I.tok _,⟨_,rfl⟩,q⟩
theorem Fz:UnR X (unaryOp .USub) (rU fun i=> .int (-i)):=unI fun _ _ _ _ _ q=>neg_int q
end
noncomputable def Yz:V->V->Bool
 | .non,.non=>true | .non,.int _=>true | .int _,.non=>true | .non,.bl _=>true | .bl _,.non=>true | .non,.str _=>true | .str _,.non=>true
 | .int _,.int _=>true | .bl _,.bl _=>true | .str _,.str _=>true | .byt _,.byt _=>true
 | .int _,.str _=>true | .str _,.int _=>true | .bl _,.str _=>true | .str _,.bl _=>true
 | _,_=>false
noncomputable def rEq:R2:=fun x y H Q=>Yz x y=true/\Q (.bl (decide (x=y))) H
noncomputable def rNe:R2:=fun x y H Q=>Yz x y=true/\Q (.bl (!decide (x=y))) H
theorem Ut {i j:Int}:decide (V.int i=V.int j)=(i==j):=by
 rw [Bool.eq_iff_iff]
 simp
theorem Ye {i j:Bool}:decide (V.bl i=V.bl j)=(i==j):=by
 rw [Bool.eq_iff_iff]
 simp
theorem Uu {i j:Str}:decide (V.str i=V.str j)=(i==j):=by
 rw [Bool.eq_iff_iff]
 simp
theorem Us {i j:Array UInt8}:decide (V.byt i=V.byt j)=(i.toList==j.toList):=by
 rw [Bool.eq_iff_iff]
 cases i
 cases j
 simp
section
variable {X:Cx}{a b c:Expr}{ta tb tc:TE}{pos:Pos}
theorem Bu {pins:List (Addr × Obj)}{σ:St}{H:Hp}{s:Shared}{Q:VK}{k k':Bool} (I:Inv X pins σ H s) (q:Q (.bl k) H) (e:k=k'):EP X pins σ Q (.bool k') s:=by
 subst e
 exact⟨.bl k,H,I,rfl,q⟩
theorem Lp:OpR X (compareOp .Eq) rEq:=by
 intro pins s σ H x y v u Q I rx ry h
 obtain⟨hs,q⟩:=h
 cases x with
 | non=>
   cases rx
   cases y with
   | non=>cases ry;exact PySem.EqNone.eq_none_none (Bu I q (by simp))
   | bl j=>cases ry;exact PySem.EqNone.eq_none_bool (Bu I q (by simp))
   | int j=>obtain⟨t',rfl⟩:=ry;exact PySem.EqNone.eq_none_int (Bu I q (by simp))
   | str j=>obtain⟨t',rfl⟩:=ry;exact PySem.EqNone.eq_none_str (Bu I q (by simp))
   | _=>exact absurd (show false=true from hs) Bool.false_ne_true
 | bl i=>
   cases rx
   cases y with
   | non=>cases ry;exact PySem.EqNone.eq_bool_none (Bu I q (by simp))
   | bl j=>cases ry;exact eq_bool (Bu I q Ye)
   | str j=>obtain⟨t',rfl⟩:=ry;exact PySem.EqMixed.eq_bool_str (Bu I q (by simp))
   | _=>exact absurd (show false=true from hs) Bool.false_ne_true
 | int i=>
   obtain⟨t,rfl⟩:=rx
   cases y with
   | non=>cases ry;exact PySem.EqNone.eq_int_none (Bu I q (by simp))
   | int j=>obtain⟨t',rfl⟩:=ry;exact eq_int (Bu I q Ut)
   | str j=>obtain⟨t',rfl⟩:=ry;exact PySem.EqMixed.eq_int_str (Bu I q (by simp))
   | _=>exact absurd (show false=true from hs) Bool.false_ne_true
 | str i=>
   obtain⟨t,rfl⟩:=rx
   cases y with
   | non=>cases ry;exact PySem.EqNone.eq_str_none (Bu I q (by simp))
   | bl j=>cases ry;exact PySem.EqMixed.eq_str_bool (Bu I q (by simp))
   | int j=>obtain⟨t',rfl⟩:=ry;exact PySem.EqMixed.eq_str_int (Bu I q (by simp))
   | str j=>obtain⟨t',rfl⟩:=ry;exact eq_str (Bu I q Uu)
   | _=>exact absurd (show false=true from hs) Bool.false_ne_true
 | byt i=>
   obtain⟨t,rfl⟩:=rx
   cases y with
   | byt j=>obtain⟨t',rfl⟩:=ry;exact PySem.W.eq_bytes (Bu I q Us)
   | _=>exact absurd (show false=true from hs) Bool.false_ne_true
 | _=>cases y<;>exact absurd (show false=true from hs) Bool.false_ne_true
theorem M8:OpR X (compareOp .NotEq) rNe:=by
 intro pins s σ H x y v u Q I rx ry h
 obtain⟨hs,q⟩:=h
 cases x with
 | non=>
   cases rx
   cases y with
   | non=>cases ry;exact PySem.EqNone.ne_none_none (Bu I q (by simp))
   | bl j=>cases ry;exact PySem.EqNone.ne_none_bool (Bu I q (by simp))
   | int j=>obtain⟨t',rfl⟩:=ry;exact PySem.EqNone.ne_none_int (Bu I q (by simp))
   | str j=>obtain⟨t',rfl⟩:=ry;exact PySem.EqNone.ne_none_str (Bu I q (by simp))
   | _=>exact absurd (show false=true from hs) Bool.false_ne_true
 | bl i=>
   cases rx
   cases y with
   | non=>cases ry;exact PySem.EqNone.ne_bool_none (Bu I q (by simp))
   | bl j=>cases ry;exact ne_bool (Bu I q (congrArg not Ye))
   | str j=>obtain⟨t',rfl⟩:=ry;exact PySem.EqMixed.ne_bool_str (Bu I q (by simp))
   | _=>exact absurd (show false=true from hs) Bool.false_ne_true
 | int i=>
   obtain⟨t,rfl⟩:=rx
   cases y with
   | non=>cases ry;exact PySem.EqNone.ne_int_none (Bu I q (by simp))
   | int j=>obtain⟨t',rfl⟩:=ry;exact ne_int (Bu I q (congrArg not Ut))
   | str j=>obtain⟨t',rfl⟩:=ry;exact PySem.EqMixed.ne_int_str (Bu I q (by simp))
   | _=>exact absurd (show false=true from hs) Bool.false_ne_true
 | str i=>
   obtain⟨t,rfl⟩:=rx
   cases y with
   | non=>cases ry;exact PySem.EqNone.ne_str_none (Bu I q (by simp))
   | bl j=>cases ry;exact PySem.EqMixed.ne_str_bool (Bu I q (by simp))
   | int j=>obtain⟨t',rfl⟩:=ry;exact PySem.EqMixed.ne_str_int (Bu I q (by simp))
   | str j=>obtain⟨t',rfl⟩:=ry;exact ne_str (Bu I q (congrArg not Uu))
   | _=>exact absurd (show false=true from hs) Bool.false_ne_true
 | byt i=>
   obtain⟨t,rfl⟩:=rx
   cases y with
   | byt j=>obtain⟨t',rfl⟩:=ry;exact PySem.W.ne_bytes (Bu I q (congrArg not Us))
   | _=>exact absurd (show false=true from hs) Bool.false_ne_true
 | _=>cases y<;>exact absurd (show false=true from hs) Bool.false_ne_true
theorem Adn:OpR X (compareOp .Lt) (rI0 fun i j=> .bl (decide (i<j))):=Adm fun _ _ _ _ _ _ _ q=>lt_int q
theorem O5:OpR X (compareOp .Gt) (rI0 fun i j=> .bl (decide (j<i))):=Adm fun _ _ _ _ _ _ _ q=>gt_int q
theorem Z0:OpR X (compareOp .GtE) (rI0 fun i j=> .bl (decide (j<=i))):=Adm fun _ _ _ _ _ _ _ q=>ge_int q
theorem OpR.or {f:Value->Value->Sem Value}{r r':R2} (h:OpR X f r) (h':OpR X f r'):OpR X f (fun x y H Q=>r x y H Q\/r' x y H Q):=by
 intro pins s σ H x y v u Q I rx ry q
 rcases q with q | q
 . exact h pins s σ H x y v u Q I rx ry q
 . exact h' pins s σ H x y v u Q I rx ry q
theorem Az (b:Expr) {op:CmpOp} (h:op≠ .In:=by decide) (h2:op≠ .NotIn:=by decide):behindInMarks op b=false:=by
 have e1:(op==CmpOp.In)=false:=by cases op<;>first | rfl | exact absurd rfl h
 have e2:(op==CmpOp.NotIn)=false:=by cases op<;>first | rfl | exact absurd rfl h2
 cases b<;>simp [behindInMarks,e1,e2]
theorem Z4 {op:CmpOp}{r:R2} (ho:OpR X (compareOp op) r) (ha:PE X a ta) (hb:PE X b tb) (hm:behindInMarks op b=false):PE X (.Compare a [op] [b] pos) (tOp r ta tb):=by
 intro pins s σ H Q I h
 exact wpAny_Compare1 (Adc ha hb I h fun v u s2 x y H2 I2 rx ry q=>ho pins s2 σ H2 x y v u Q I2 rx ry q) hm
noncomputable def Aal (t:TE):TT:=fun σ H Q=>t σ H fun x H'=>∃k,x= .bl k/\Q k H'
theorem Aaa {op:CmpOp}{r:R2} (ho:OpR X (compareOp op) r) (ha:PE X a ta) (hb:PE X b tb) (hm:behindInMarks op b=false):PT X (.Compare a [op] [b] pos) (Aal (tOp r ta tb)):=by
 intro pins s σ H Q I h
 refine wpAny_isTrue_Compare1 (thn (ha pins s σ H _ I h) fun v s1 ⟨x,H1,I1,r1,q1⟩=>thn (hb pins s1 σ H1 _ I1 q1) fun u s2 ⟨y,H2,I2,r2,q2⟩=>
  thn (ho pins s2 σ H2 x y v u _ I2 r1 r2 q2) fun c s3 ⟨z,H3,I3,r3,k,e,q3⟩=> ?_) hm
 subst e
 cases r3
 exact wpAny_truthy_bool ⟨H3,I3,q3⟩
theorem Rw:(sizeLine:Nat)<2^63:=by rw [sizeLine_eq];decide
theorem vals1 {x:V}{us:List Value} (r:Vals [x] us):∃u,us=[u]/\RelV x u:=by
 cases r with
 | cons r1 r2=>cases r2;exact⟨_,rfl,r1⟩
theorem vals2 {x y:V}{us:List Value} (r:Vals [x,y] us):∃u w',us=[u,w']/\RelV x u/\RelV y w':=by
 cases r with
 | cons r1 r2=>
   cases r2 with
   | cons r3 r4=>cases r4;exact⟨_,_,rfl,r1,r3⟩
theorem Wy:Gm X (.builtin "abs") (fun xs H Q=>∃i,xs=[.int i]/\Q (.int (if i<0 then-i else i)) H):=by
 intro pins s σ H xs us Q I r h
 obtain⟨i,rfl,q⟩:=h
 obtain⟨u,rfl,t,rfl⟩:=vals1 r
 exact call_abs_int fun u tk=>⟨.int (if i<0 then-i else i),H,I.tok _,⟨_,rfl⟩,q⟩
theorem Om (hc:X.calm=true):Gm X (.builtin "max") (fun xs H Q=>∃i j,xs=[.int i,.int j]/\Q (.int (if j>i then j else i)) H):=by
 intro pins s σ H xs us Q I r h
 obtain⟨i,j,rfl,q⟩:=h
 obtain⟨u,w',rfl,⟨t,rfl⟩,⟨t',rfl⟩⟩:=vals2 r
 refine max_two_ints (I.ok.hd hc) fun h' tk k=>⟨_,H,I.kept k,?_,q⟩
 by_cases hj:j>i
 . rw [if_pos hj,if_pos hj];exact⟨_,rfl⟩
 . rw [if_neg hj,if_neg hj];exact⟨_,rfl⟩
end
end L2
namespace L2
open PySem PySem.Spec PyProof.Rows
structure Ac9 (h:Heap) (x dx C:Addr) (mA:Str->Option Value):Prop where
 obj:h.get? x=some (PySem.W.instObj C dx)
 ns:h.Ns1 dx mA
 ne:dx≠x
theorem Vb {h:Heap}{dx:Addr}{mA:Str->Option Value} (n:h.Ns1 dx mA):∃od,h.get? dx=some od/\∀name,PySem.W.lookIn name od=some (mA name):=by
 obtain⟨o,es,ep,ho,hd,hk,_,hm⟩:=n
 refine⟨o,ho,fun name=> ?_⟩
 have e:=hm name
 unfold nsFind findBy at e
 rw [<-Array.find?_toList]at e
 unfold PySem.W.lookIn
 rw [hd]
 dsimp only
 split
 . rename_i y q
   rw [q]at e
   exact congrArg some e
 . rename_i q
   rw [q]at e
   have a:es.toList.any (·.refKey)=false:=by
    rw [List.any_eq_false]
    intro y hy
    obtain⟨z,t,hkey⟩:=hk y (Array.mem_toList_iff.mp hy)
    simp [DictEntry.refKey,hkey]
   have a':¬es.toList.any (·.refKey)=true:=by rw [a];exact Bool.false_ne_true
   rw [if_neg a']
   exact congrArg some e
theorem Ac9.look {h:Heap}{x dx C:Addr}{mA:Str->Option Value} (I:Ac9 h x dx C mA):∃od,PySem.W.InstAt h x (PySem.W.instObj C dx) C (some od)/\∀name,PySem.W.lookIn name od=some (mA name):=
 let ⟨od,ho,hl⟩:=Vb I.ns
 ⟨od,⟨I.obj,rfl,rfl,ho⟩,hl⟩
section
variable {P:Program}{w:World}{H H':Hp}{h h':Heap}{a C dx:Addr}{fs fs':List (Str × V)}
theorem Zt (hok:HOk P w H h) (e:H a=some (.ins C dx fs)):∃mA,Ac9 h a dx C mA/\(∀f,Wu (fs.lookup f) (mA f))/\PySem.Within mA (fs.map (·.1))/\fs.length<=1000/\H dx=some (.own a):=by
 obtain⟨d,z,ne,ob,mA,n,r,q⟩:=(show Fj P w H h a (.ins C dx fs)from hok a _ e)
 exact⟨mA,⟨ob,n,ne⟩,r,q,z,d⟩
end
structure Cls (K:PySem.W.Frag) (C:Addr):Prop where
 pg:PySem.W.plainGet K C Str.empty=true
 hd:PySem.W.hasDictIn K C=true
 po:PySem.W.plainOver K C=true
 sa:PySem.W.findIn K (.ref C) "__setattr__"=some (some (.builtin "object.__setattr__"))
theorem Cls.get {K:PySem.W.Frag}{C:Addr} (c:Cls K C) (f:Str):PySem.W.plainGet K C f=true:=c.pg
structure Con (K:PySem.W.Frag) (C:Addr) (f:Str) (v:V) (u:Value):Prop where
 at_:PySem.W.findIn K (.ref C) f=some (some u)
 rel:RelV v u
 get:PySem.W.specialIn K u "__get__"=some none
 cp:PySem.W.copiedNames.contains f=false
structure Meth (K:PySem.W.Frag) (C:Addr) (m:Str) (f:Addr):Prop where
 at_:PySem.W.findIn K (.ref C) m=some (some (.ref f))
 fn:PySem.W.isFn K (.ref f)=true
 kp:PySem.W.keepIn K (.ref f)=true
section
variable {X:Cx}{pins:List (Addr × Obj)}{σ:St}{H:Hp}{s:Shared}{A:Around}{E:Value->Shared->Prop}{Q:Value->Shared->Prop}{c:Value}{b:Bool}
inductive Rk (K:PySem.W.Frag) (H:Hp):V->Value->Prop where
 | non:Rk K H .non (.type "NoneType")
 | bl (x:Bool):Rk K H (.bl x) (.type "bool")
 | int (i:Int):Rk K H (.int i) (.type "int")
 | str (x:Str):Rk K H (.str x) (.type "str")
 | flt (x:UInt64):Rk K H (.flt x) (.type "float")
 | lst {a:Addr}{xs:List V} (e:H a=some (.lst xs)):Rk K H (.ref a) (.type "list")
 | frz {a:Addr}{o:Obj}{xs:List V} (e:H a=some (.frz o (.lst xs))):Rk K H (.ref a) (.type "list")
 | tup {a:Addr}{xs:List V} (e:H a=some (.tup xs)):Rk K H (.ref a) (.type "tuple")
 | dK {a:Addr}{kvs:List (Key × V)} (e:H a=some (.dK kvs)):Rk K H (.ref a) (.type "dict")
 | dT {a:Addr}{kvs:List (List Key × V)} (e:H a=some (.dT kvs)):Rk K H (.ref a) (.type "dict")
 | ins {a C dx:Addr}{fs:List (Str × V)} (e:H a=some (.ins C dx fs)) (cl:Cls K C) (ha:PySem.W.findIn K (.ref C) "__class__"=some (some (.builtin "object.__class__")))
    (hn:PySem.W.specialIn K (.builtin "object.__class__") "__get__"=some (some (.builtin "getset_descriptor.__get__"))) (htk:PySem.W.takesIn K (.builtin "object.__class__")=some true)
    (hm:PySem.W.mroIn K C (.type "object")=some true):Rk K H (.ref a) (.ref C)
theorem U7 {x:V}{u t:Value} (I:Inv X pins σ H s) (rx:RelV x u) (ty:Rk X.K H x t) (e:PySem.W.kitOne X.K t c=some b) (h:∀tk,Q (.bool b) { s with toks:=tk}):
 wpAny (model X.prog X.w) A (call (.builtin "isinstance") [u,c]) Q E s:=by
 cases ty with
 | non=>cases(show u=Value.none from rx);exact PySem.W.kia_one PySem.W.kitx_none I.kIn True.intro e (fun z=>nomatch z) h
 | bl y=>cases(show u=Value.bool y from rx);exact PySem.W.kia_one PySem.W.kitx_bool I.kIn True.intro e (fun z=>nomatch z) h
 | int i=>obtain⟨t,q⟩:=(show ∃t,u=Value.int i t from rx);cases q;exact PySem.W.kia_one PySem.W.kitx_int I.kIn True.intro e (fun z=>nomatch z) h
 | str y=>obtain⟨t,q⟩:=(show ∃t,u=Value.str y t from rx);cases q;exact PySem.W.kia_one PySem.W.kitx_str I.kIn True.intro e (fun z=>nomatch z) h
 | flt y=>obtain⟨t,q⟩:=(show ∃t,u=Value.float y t from rx);cases q;exact PySem.W.kia_one PySem.W.kitx_float I.kIn True.intro e (fun z=>nomatch z) h
 | @lst a xs ea=>
   cases(show u=Value.ref a from rx)
   obtain⟨_,_,n,_,h1⟩:=(show Fj X.prog X.w H s.heap a (.lst xs)from I.hok a _ ea)
   exact PySem.W.kia_one PySem.W.kitx_list I.kIn ⟨_,h1,rfl⟩ e (fun z=>nomatch z) h
 | @frz a ob xs ea=>
   cases(show u=Value.ref a from rx)
   obtain⟨_,_,_,n,_,h1⟩:=(show Fj X.prog X.w H s.heap a (.frz ob (.lst xs))from I.hok a _ ea)
   exact PySem.W.kia_one PySem.W.kitx_list I.kIn ⟨_,h1,rfl⟩ e (fun z=>nomatch z) h
 | @tup a xs ea=>
   cases(show u=Value.ref a from rx)
   obtain⟨_,_,_,p⟩:=(show Fj X.prog X.w H s.heap a (.tup xs)from I.hok a _ ea)
   obtain⟨o,h1,h2,_⟩:=p
   exact PySem.W.kia_one PySem.W.kitx_tuple I.kIn ⟨o,h1,h2⟩ e (fun z=>nomatch z) h
 | @dK a kvs ea=>
   cases(show u=Value.ref a from rx)
   obtain⟨_,_,vs,_,p⟩:=(show Fj X.prog X.w H s.heap a (.dK kvs)from I.hok a _ ea)
   obtain⟨o,es,ep,h1,h2,_⟩:=p
   exact PySem.W.kia_one PySem.W.kitx_dict I.kIn ⟨o,h1,h2.1⟩ e (fun z=>nomatch z) h
 | @dT a kvs ea=>
   cases(show u=Value.ref a from rx)
   obtain⟨_,_,xs,_,o,es,ep,h1,h2,_⟩:=(show Fj X.prog X.w H s.heap a (.dT kvs)from I.hok a _ ea)
   exact PySem.W.kia_one PySem.W.kitx_dict I.kIn ⟨o,h1,h2.1⟩ e (fun z=>nomatch z) h
 | @ins a C dx fs ea cl ha hn htk hm=>
   cases(show u=Value.ref a from rx)
   obtain⟨mA,O,_⟩:=Zt I.hok ea
   obtain⟨od,J,_⟩:=O.look
   exact PySem.W.kia_one (PySem.W.kitx_own (cl.get _) cl.hd ha hn htk hm) I.kIn J e (fun z=>nomatch z) h
end
end L2
namespace L2
open PySem PySem.Spec PyProof.Rows
structure Gn (k:Nat) (A:Around):Prop where
 hd:A.handled=none
 dp:A.depth+3*k+5<recursionLimit
 un:A.units+16*k+200<cLine
theorem Gn.mono {j k:Nat}{A:Around} (r:Gn k A) (h:j<=k):Gn j A:=⟨r.hd,by have:=r.dp;omega,by have:=r.un;omega⟩
theorem Gn.deeper {k:Nat}{A:Around} (r:Gn (k+1) A) (env:Env):Gn k (A.deeper env):=
 ⟨r.hd,by have:=r.dp;show A.depth+1+3*k+5<_;omega,by have:=r.un;show A.units+3+16*k+200<_;omega⟩
theorem Gn.in1 {k:Nat}{A:Around} (r:Gn (k+1) A):Gn k A.in1:=
 ⟨r.hd,by have:=r.dp;show A.depth+3*k+5<_;omega,by have:=r.un;show A.units+1+16*k+200<_;omega⟩
theorem Gn.depth {k:Nat}{A:Around} (r:Gn k A):A.depth<recursionLimit:=by have:=r.dp;omega
theorem Gn.units {k:Nat}{A:Around} (r:Gn k A):A.units+64<cLine:=by have:=r.un;omega
noncomputable def Ad4:TA:=fun _ H Q=>Q [] H
noncomputable def Wd (ta:TE) (tr:TA):TA:=fun σ H Q=>ta σ H fun x H1=>tr σ H1 fun xs H2=>Q (x::xs) H2
section
variable {X:Cx}{e:Expr}{es:List Expr}{te:TE}{t:TA}{pos:Pos}
theorem Mf:PA X [] Ad4:=fun _ _ _ _ H Q I h=>Calls.spliced_nil ⟨[],H,I,.nil,h⟩
theorem Ei (ha:PE X e te) (hr:PA X es t) (hs:starEach (e::es) X.env=(false,eval e X.env)::starEach es X.env:=by rfl):PA X (e::es) (Wd te t):=by
 intro pos pins s σ H Q I h
 rw [hs]
 show wpAny _ _ (spliced ((false,eval e X.env)::backTo pos (starEach es X.env))) _ _ s
 refine Calls.spliced_cons (thn (ha pins s σ H _ I h) fun u s1 ⟨x,H1,I1,r1,q1⟩=> ?_)
 exact thn (hr pos pins s1 σ H1 _ I1 q1) fun us s2 ⟨xs,H2,I2,r2,q2⟩=>⟨x::xs,H2,I2,.cons r1 r2,q2⟩
noncomputable def Ad8 (t:TA):TE:=fun σ H Q=>t σ H fun xs H1=>xs.length<=sizeLine/\∀p,H1 p=none->Q (.ref p) (upd H1 p (.tup xs))
noncomputable def Ad3 (t:TA):TE:=fun σ H Q=>t σ H fun xs H1=>xs.length<=sizeLine/\∀p,H1 p=none->Q (.ref p) (upd H1 p (.lst xs))
theorem Yo {x1} (h:PA X es t):PE X (.Tuple es x1 pos) (Ad8 t):=by
 intro pins s σ H Q I hq
 refine wpAny_Tuple_spliced (thn (h pos pins s σ H _ I hq) fun us s1 ⟨xs,H1,I1,r,z,q⟩=>⟨by rw [<-r.length];exact z,?_⟩)
 have hf:H1 s1.heap.objs.size=none:=I1.hok.fresh (Nat.le_refl _)
 refine⟨.ref s1.heap.objs.size,upd H1 s1.heap.objs.size (.tup xs),I1.laid (t':=s1.toks) (fun b u e=>Heap.get?_push_of_some _ e) (Nat.le_refl _) ?_,rfl,q _ hf⟩
 exact⟨z,us,r,⟨_,Heap.get?_push_size _ rfl,rfl,_,rfl⟩⟩
theorem Abp (h:PA X es t):PE X (.List es pos) (Ad3 t):=by
 intro pins s σ H Q I hq
 refine wpAny_List_spliced (thn (h pos pins s σ H _ I hq) fun us s1 ⟨xs,H1,I1,r,z,q⟩=>⟨by rw [<-r.length];exact z,?_⟩)
 have hf:H1 s1.heap.objs.size=none:=I1.hok.fresh (Nat.le_refl _)
 refine⟨.ref s1.heap.objs.size,upd H1 s1.heap.objs.size (.lst xs),I1.laid (t':=s1.toks) (fun b u e=>Heap.get?_push_of_some _ e) (Nat.le_refl _) ?_,rfl,q _ hf⟩
 exact⟨z,us,0,r,Heap.get?_push_size _ rfl⟩
end
noncomputable abbrev Sp:=List V->Hp->VK->XK->Prop
noncomputable abbrev CXT:=List Env->Hp->Shared->XK->Value->Shared->Prop
structure Ws (P:Program) (w:World) (K:PySem.W.Frag) (mg:Str->Option Value) (base:Heap) (A:Around) (outer:List Env) (s:Shared) (H:Hp):Prop where
 frames:A.frames=some outer
 mod:Mod K mg base
 bs:∀b o,base.get? b=some o->s.heap.get? b=some o/\H b=none
 bsz:base.objs.size<=s.heap.objs.size
 funs:s.heap.FunFrames base outer
 frf:∀b∈frs outer,H b=none
 hok:HOk P w H s.heap
 bare:AllBare s.gens
noncomputable def CE (outer:List Env) (P:Program) (w:World) (H:Hp) (s:Shared) (Q:VK) (u:Value) (s':Shared):Prop:=
 ∃v H',s'.os=s.os/\AllBare s'.gens/\Un (frs outer) [] H H' s.heap s'.heap/\HOk P w H' s'.heap/\RelV v u/\Q v H'
noncomputable def CR (CX:CXT) (outer:List Env) (P:Program) (w:World) (H:Hp) (s:Shared) (Q:VK) (E:XK) (r:Result) (s':Shared):Prop:=
 match r with
 | .ok (.ret u)=>CE outer P w H s Q u s'
 | .ok _=>False
 | .error e=>CX outer H s E e s'
structure J1 (P:Program) (w:World) (K:PySem.W.Frag) (mg:Str->Option Value) (base:Heap) (CX:CXT) (k:Nat) (f:Addr) (fd:FuncData) (ps:List Str) (sp:Sp):Prop where
 len:∀vs H Q E,sp vs H Q E->vs.length=ps.length
 run:∀(A:Around) (outer:List Env) (s:Shared) (H:Hp) (args:Args) (us:List Value) (vs:List V) (Q:VK) (E:XK),Gn k A->Ws P w K mg base A outer s H->BindsTo s fd args (ps.zip us)->Vals vs us->sp vs H Q E->
  codeAny (model P w) A (.call (.ref f) args) (CR CX outer P w H s Q E) s
theorem J1.mono {P:Program}{w:World}{K:PySem.W.Frag}{mg:Str->Option Value}{base:Heap}{CX:CXT}{j k:Nat}{f:Addr}{fd:FuncData}{ps:List Str}{sp:Sp} (F:J1 P w K mg base CX j f fd ps sp) (h:j<=k):
 J1 P w K mg base CX k f fd ps sp:=⟨F.len,fun A outer s H args us vs Q E hr=>F.run A outer s H args us vs Q E (hr.mono h)⟩
theorem J1.imp {P:Program}{w:World}{K:PySem.W.Frag}{mg:Str->Option Value}{base:Heap}{CX:CXT}{k:Nat}{f:Addr}{fd:FuncData}{ps:List Str}{sp sp':Sp} (F:J1 P w K mg base CX k f fd ps sp)
 (h:∀vs H Q E,sp' vs H Q E->sp vs H Q E):J1 P w K mg base CX k f fd ps sp':=
 ⟨fun vs H Q E q=>F.len vs H Q E (h _ _ _ _ q),fun A outer s H args us vs Q E hr he hb hv hs=>F.run A outer s H args us vs Q E hr he hb hv (h _ _ _ _ hs)⟩
theorem Ws.in1 {P:Program}{w:World}{K:PySem.W.Frag}{mg:Str->Option Value}{base:Heap}{A:Around}{outer:List Env}{s:Shared}{H:Hp} (e:Ws P w K mg base A outer s H):
 Ws P w K mg base A.in1 outer s H:=⟨e.frames,e.mod,e.bs,e.bsz,e.funs,e.frf,e.hok,e.bare⟩
section
variable {X:Cx}{pins:List (Addr × Obj)}{σ:St}{H:Hp}{s s':Shared}
theorem Inv.env0 (I:Inv X pins σ H s):Ws X.prog X.w X.K X.mg X.base X.A X.stack s H:=
 ⟨I.ok.frames,I.ok.mod,I.bs,Nat.le_trans I.ok.bsz I.sz,I.stack,I.stkFree,I.hok,I.bare⟩
theorem Inv.after {Q:VK}{u:Value} (I:Inv X pins σ H s) (h:CE X.stack X.prog X.w H s Q u s'):EP X pins σ Q u s':=by
 obtain⟨v,H',os,bare,un,hok,r,q⟩:=h
 obtain⟨hh,g,d,t,os'⟩:=s'
 obtain rfl:os'=s.os:=os
 exact⟨v,H',I.call (h':=hh) (g':=g) (d':=d) (t':=t) (ch:=[]) un hok bare (fun b z=>absurd z (by simp)),r,q⟩
end
noncomputable def Nq (sp:Sp) (dvs:List V) (E:XK) (t:TA):TE:=fun σ H Q=>t σ H fun vs H1=>sp (vs++dvs) H1 Q E
noncomputable def Binds (K:PySem.W.Frag) (fd:FuncData) (ps:List Str) (ds:List Value):Prop:=
 ∀(s:Shared) (us:List Value),K.In s.heap->(us++ds).length=ps.length->BindsTo s fd ⟨us,[]⟩ (ps.zip (us++ds))
theorem Binds.all {K:PySem.W.Frag}{fd:FuncData}{ps:List Str} (h:∀us:List Value,us.length=ps.length->bindArgs fd ⟨us,[]⟩=pure (ps.zip us)):Binds K fd ps []:=fun s us _ hl=>by
 rw [List.append_nil]at hl ⊢
 exact .of_eq (h us hl)
noncomputable def Passes (CX:CXT) (X:Cx) (E:XK):Prop:=∀(pins:List (Addr × Obj)) (σ:St) (H:Hp) (s:Shared) (e:Value) (s':Shared),Inv X pins σ H s->CX X.stack H s E e s'->X.xe e s'
section
variable {X:Cx}{CX:CXT}{k:Nat}{f C:Addr}{fd:FuncData}{ps:List Str}{sp:Sp}{dvs:List V}{ds:List Value}{E:XK}{x m:Str}{p pos apos:Pos}{e o:Expr}{es:List Expr}{ta:TE}{t:TA}
theorem Yy {pins:List (Addr × Obj)}{σ:St}{H:Hp}{s:Shared}{Q:VK}{us:List Value}{vs:List V} (F:J1 X.prog X.w X.K X.mg X.base CX k f fd ps sp) (hr:Gn k X.A) (hb:Binds X.K fd ps ds) (hd:Vals dvs ds) (hx:Passes CX X E)
 (I:Inv X pins σ H s) (r:Vals vs us) (h:sp (vs++dvs) H Q E):wpAny (model X.prog X.w) X.A (call (.ref f) us) (EP X pins σ Q) X.xe s:=by
 have r2:Vals (vs++dvs) (us++ds):=r.append hd
 have hl:(us++ds).length=ps.length:=by rw [<-r2.length];exact F.len _ _ _ _ h
 refine wpAny_call (codeAny_mono (F.run X.A X.stack s H ⟨us,[]⟩ (us++ds) (vs++dvs) Q E hr I.env0 (hb s us I.kIn hl) r2 h) fun r s' hq=> ?_)
 cases r with
 | error e=>exact hx pins σ H s e s' I hq
 | ok fl=>
   cases fl with
   | ret u=>exact I.after hq
   | next=>exact False.elim hq
   | brk=>exact False.elim hq
   | cont=>exact False.elim hq
theorem Vu (F:J1 X.prog X.w X.K X.mg X.base CX k f fd ps sp) (hr:Gn k X.A) (hg:Gl X x) (hm:X.mg x=some (.ref f)) (hk:PySem.W.keepIn X.K (.ref f)=true) (hb:Binds X.K fd ps ds) (hd:Vals dvs ds) (hx:Passes CX X E)
 (ha:PA X (e::es) t) (hdb:(x==("__debug__":Str))=false:=by decide) (he:starEach (e::es) X.env=(false,eval e X.env)::starEach es X.env:=by rfl) (hpl:(backTo pos (starEach es X.env)).any (·.1)=false:=by rfl):
 PE X (.Call (.Name x p) (e::es) [] pos) (Nq sp dvs E t):=by
 intro pins s σ H Q I h
 refine wpAny_Call_Name_kw (Jh I hg hm ?_ hdb)
 refine PySem.W.callWith_K (h₀:=X.base) I.ok.mod.kin hk (thn (ha pos pins s σ H _ I h) fun us s1 ⟨vs,H1,I1,r,q⟩=>⟨I1.kIn,?_⟩) he hpl
 exact Yy F hr hb hd hx I1 r q
structure Mk (K:PySem.W.Frag) (C f:Addr):Prop where
 makes:PySem.W.makesIn K C=true
 init:PySem.W.findIn K (.ref C) "__init__"=some (some (.ref f))
 fn:PySem.W.isFn K (.ref f)=true
 kp:PySem.W.keepIn K (.ref C)=true
end
section
variable {X:Cx}{CX:CXT}{k:Nat}{f C:Addr}{fd:FuncData}{ps ks:List Str}{sp:Sp}{E:XK}{x m:Str}{p pos apos kpos:Pos}{e o:Expr}{es:List Expr}{kws:List Keyword}{te ta:TE}{t tk:TA}{nm:Option Str}
structure Ae1 (K:PySem.W.Frag) (fd:FuncData) (ps ks:List Str) (g:List Value->List Value->List Value) (gV:List V->List V->List V):Prop where
 to:∀(s:Shared) (us ws:List Value),K.In s.heap->(g us ws).length=ps.length->BindsTo s fd ⟨us,ks.zip ws⟩ (ps.zip (g us ws))
 rel:∀ {vs:List V}{us:List Value}{zs:List V}{ws:List Value},Vals vs us->Vals zs ws->Vals (gV vs zs) (g us ws)
variable {g:List Value->List Value->List Value}{gV:List V->List V->List V}
end
structure Bc (N P:List Str) (sc:Scope):Prop where
 kind:sc.kind= .function
 co:sc.isCoroutine=false
 gen:sc.isGenerator=false
 nd:N.Nodup
 pre:N.take P.length=P
 par:∀x∈P,sc.names.lookup x=some .local \/sc.names.lookup x=some .cell
 nofree:∀y∈sc.names,y.2≠ .free
theorem Oj {kindOf:Str->Option NameKind}{x:Str}:∀ {binds:List (Str × Value)}{m:Str->Option Value},(∀v,(x,v)∉binds)->bindL kindOf binds m x=m x
 | [],_,_=>rfl
 | (n,v)::r,m,h=>by
   unfold bindL
   rw [Oj fun w hw=>h w (List.mem_cons_of_mem _ hw)]
   split
   . have:x≠n:=by rintro rfl;exact h v List.mem_cons_self
     simp [this]
   . rfl
theorem Oh {kindOf:Str->Option NameKind}{x:Str}:∀ {binds:List (Str × Value)}{m:Str->Option Value},(∀v,(x,v)∉binds)->bindC kindOf binds m x=m x
 | [],_,_=>rfl
 | (n,v)::r,m,h=>by
   unfold bindC
   rw [Oh fun w hw=>h w (List.mem_cons_of_mem _ hw)]
   split
   . rfl
   . have:x≠n:=by rintro rfl;exact h v List.mem_cons_self
     simp [this]
theorem Oi {kindOf:Str->Option NameKind}{x:Str}{v:Value}:∀ {P:List Str}{vs:List Value}{i:Nat}{m:Str->Option Value},P.Nodup->P[i]? =some x->vs[i]? =some v->kindOf x=some .local ->
 bindL kindOf (P.zip vs) m x=some v
 | [],_,_,_,_,h,_,_=>by simp at h
 | _::_,[],_,_,_,_,h,_=>by simp at h
 | p::P,w::vs,0,m,nd,h1,h2,hk=>by
   simp at h1 h2;subst h1;subst h2
   show bindL kindOf ((p,w)::P.zip vs) m p=_
   unfold bindL
   rw [Oj fun v hv=>(List.nodup_cons.mp nd).1 (List.of_mem_zip hv).1,if_pos hk]
   simp
 | p::P,w::vs,i+1,m,nd,h1,h2,hk=>by
   show bindL kindOf ((p,w)::P.zip vs) m x=_
   unfold bindL
   exact Oi (i:=i) (List.nodup_cons.mp nd).2 (by simpa using h1) (by simpa using h2) hk
theorem Og {kindOf:Str->Option NameKind}{x:Str}{v:Value}:∀ {P:List Str}{vs:List Value}{i:Nat}{m:Str->Option Value},P.Nodup->P[i]? =some x->vs[i]? =some v->kindOf x≠some .local ->
 bindC kindOf (P.zip vs) m x=some v
 | [],_,_,_,_,h,_,_=>by simp at h
 | _::_,[],_,_,_,_,h,_=>by simp at h
 | p::P,w::vs,0,m,nd,h1,h2,hk=>by
   simp at h1 h2;subst h1;subst h2
   show bindC kindOf ((p,w)::P.zip vs) m p=_
   unfold bindC
   rw [Oh fun v hv=>(List.nodup_cons.mp nd).1 (List.of_mem_zip hv).1,if_neg hk]
   simp
 | p::P,w::vs,i+1,m,nd,h1,h2,hk=>by
   show bindC kindOf ((p,w)::P.zip vs) m x=_
   unfold bindC
   exact Og (i:=i) (List.nodup_cons.mp nd).2 (by simpa using h1) (by simpa using h2) hk
noncomputable def start (N:List Str) (vs:List V):St:=vs.map some++List.replicate (N.length-vs.length) none
noncomputable def J4 (CX:CXT) (P:Program) (w:World) (K:PySem.W.Frag) (mg:Str->Option Value) (base:Heap) (N:List Str) (qual:Str) (scope:Scope) (f:Addr) (cd:Value) (A:Around) (outer:List Env) (s:Shared) (H:Hp) (E:XK):Cx where
 prog:=P
 w:=w
 K:=K
 mg:=mg
 base:=base
 A:=A.deeper (envOfC qual scope s.heap.objs.size f cd)
 N:=N
 s₀:=s
 H₀:=H
 env:=envOfC qual scope s.heap.objs.size f cd
 outer:=outer
 stack:=envOfC qual scope s.heap.objs.size f cd::outer
 ex:=[]
 calm:=true
 fn:=fun _=>true
 pn:=[]
 xe:=fun e s'=>wpAny (model P w) (A.deeper (envOfC qual scope s.heap.objs.size f cd)) (leaving (envOfC qual scope s.heap.objs.size f cd) e) (fun _ s''=>CX outer H s E e s'') (fun e' s''=>CX outer H s E e' s'') s'
theorem Rn {sc:Scope}{n:Nat}{x:Str} (h:sc.names.lookup x=some .cell):∃c,(cellsFrom n sc.names []).lookup x=some c:=by
 have q:=PySem.W.cellsFrom_some sc.names n [] (.inl h)
 exact Option.isSome_iff_exists.mp q
theorem U6 {CX:CXT}{P:Program}{w:World}{K:PySem.W.Frag}{mg:Str->Option Value}{base:Heap}{N ps:List Str}{qual:Str}{scope:Scope}{f:Addr}{cd:Value}{A:Around}{outer:List Env}{s s1:Shared}{H:Hp}{E:XK}{us:List Value}{vs:List V}
 (S:Bc N ps scope) (hd:A.handled=none) (e0:Ws P w K mg base A outer s H) (hl:vs.length=ps.length) (r:Vals vs us)
 (x:InCallC s s.heap.objs.size (bindL (envOfC qual scope s.heap.objs.size f cd).kindOf (ps.zip us) fun _=>none) (cellsFrom (s.heap.objs.size+1) scope.names []) (bindC (envOfC qual scope s.heap.objs.size f cd).kindOf (ps.zip us) fun _=>none) s1):
 Inv (J4 CX P w K mg base N qual scope f cd A outer s H E) [] (start N vs) H s1:=by
 have hpl:ps.length<=N.length:=by have:=congrArg List.length S.pre;rw [List.length_take]at this;omega
 obtain⟨h1,tk,rfl,hk⟩:=x.done
 have noA:∀b:Addr,b∉(J4 CX P w K mg base N qual scope f cd A outer s H E).ex:=fun b z=>absurd (show b∈([]:List Addr)from z) (by simp)
 refine⟨⟨e0.mod,S.kind,rfl,rfl,Nat.le_refl _,fun y z c h1 h2=> ?_,fun y hy=> ?_,fun y c _ h=> ?_,fun _=>hd,Around.frames_deeper e0.frames,.inr ⟨rfl,rfl⟩,fun b z=>absurd z (noA b),e0.bs,e0.bsz,fun b _ _=>noA b,fun b z=>absurd z (noA b),e0.funs,e0.frf⟩,
  rfl,e0.bare,Un.kept hk,⟨_,x.toInCall.ns,fun i y v h1 h2 h3=> ?_⟩,fun y c h=>⟨_,x.cell y c h⟩,e0.hok.fresh (Nat.le_refl _),fun y c h=> ?_,fun p hp=>absurd (show p∈([]:List (Addr × Obj))from hp) (by simp),e0.hok.kept hk,?_⟩
 . exact name_of_addr x.apart (PySem.mem_of_lookup h1) (PySem.mem_of_lookup h2)
 . have hy:scope.names.lookup y=some .cell\/scope.names.lookup y=some .free:=hy
   rcases hy with hy | hy
   . exact Rn hy
   . exact absurd rfl (S.nofree _ (PySem.mem_of_lookup hy))
 . exact Nat.le_of_lt (x.above y c (PySem.mem_of_lookup h))
 . have hi:i<vs.length:=by
    unfold start at h2
    by_cases hi:i<vs.length
    . exact hi
    . rw [List.getElem?_append_right (by simpa using hi)]at h2
      rw [List.getElem?_replicate]at h2
      split at h2<;>cases h2
   have ha:vs[i]? =some v:=by
    unfold start at h2
    rw [List.getElem?_append_left (by simpa using hi),List.getElem?_map]at h2
    cases e:vs[i]? with
    | none=>rw [e]at h2;cases h2
    | some a=>rw [e]at h2;cases h2;rfl
   obtain⟨u,hu,rv⟩:=r.get ha
   have hp:ps[i]? =some y:=by
    rw [<-S.pre,List.getElem?_take_of_lt (by omega)];exact h1
   have ndP:ps.Nodup:=by rw [<-S.pre];exact S.nd.sublist (List.take_sublist _ _)
   refine⟨u,rv,?_⟩
   rcases S.par y (List.mem_of_getElem? hp)with k | k
   . exact .inl ⟨k,Oi ndP hp hu k⟩
   . obtain⟨c,e⟩:=Rn (n:=s.heap.objs.size+1) k
     refine .inr ⟨.inl k,c,e,?_⟩
     have q:=x.cell y c e
     rw [Og ndP hp hu (by show scope.names.lookup y≠_;rw [k];decide)]at q
     exact q
 . exact e0.hok.fresh (Nat.le_of_lt (x.above y c (PySem.mem_of_lookup h)))
 . unfold start
   show _=N.length
   rw [List.length_append,List.length_map,List.length_replicate]
   omega
theorem Zm {CX:CXT}{P:Program}{w:World}{K:PySem.W.Frag}{mg:Str->Option Value}{base:Heap}{k:Nat}{f:Addr}{name qual:Str}{params:Arguments}{body:List Stmt}{scope:Scope}{dV kV doc pm cdv ct oc:Value}{an od:Option Addr}
 {osl:Array (Option Value)}{N ps:List Str}{sp:Sp} (lk:K.lookup f=some ⟨oc,od,.func (PySem.W.fnOf name qual params body scope dV kV doc pm an cdv ct),osl⟩) (hcd:PySem.W.codeIn K cdv qual=true) (S:Bc N ps scope)
 (len:∀vs H Q E,sp vs H Q E->vs.length=ps.length)
 (hbody:∀(A:Around) (outer:List Env) (s:Shared) (H:Hp) (vs:List V) (Q:VK) (E:XK),Gn k (A.deeper (envOfC qual scope s.heap.objs.size f cdv))->sp vs H Q E->
   ∃t,PSs (J4 CX P w K mg base N qual scope f cdv A outer s H E) body t/\t { nx:=fun _ H'=>Q .non H',rt:=Q} (start N vs) H):
 J1 P w K mg base CX (k+1) f (PySem.W.fnOf name qual params body scope dV kV doc pm an cdv ct) ps sp:=by
 refine⟨len,fun A outer s H args us vs Q E hr e0 hb r hsp=> ?_⟩
 have hl:=len _ _ _ _ hsp
 have KX:K.In s.heap:=e0.mod.kin.keeps fun b o e=>(e0.bs b o e).1
 have lim:s.heap.NoLimit:=e0.mod.nolimit.keeps fun b o e=>(e0.bs b o e).1
 have hkind:∀y∈ps.zip us,scope.names.lookup y.1=some .local \/(scope.names.lookup y.1=some .cell/\((cellsFrom (s.heap.objs.size+1) scope.names []).lookup y.1).isSome=true):=fun⟨n,v⟩ hy=>by
  rcases S.par n (List.of_mem_zip hy).1 with q | q
  . exact .inl q
  . exact .inr ⟨q,PySem.W.cellsFrom_some _ _ _ (.inl q)⟩
 refine codeAny_call_function hr.depth (KX _ _ lk) rfl S.co S.gen rfl (PySem.W.codeRec_of KX hcd) (hb _ _ _ _ ?_)
 refine wpAny_newFunctionEnv_cells S.kind hkind fun env he s1 x=> ?_
 subst he
 refine⟨lim.keeps x.toInCall.keep,codeAny_func ?_⟩
 obtain⟨t,ht,hq⟩:=hbody A outer s H vs Q E (hr.deeper _) hsp
 have I:Inv (J4 CX P w K mg base N qual scope f cdv A outer s H E) [] (start N vs) H s1:=U6 S hr.hd e0 hl r x
 refine wpAny_mono (ht [] s1 (start N vs) H _ I hq) (fun fl s' hs=> ?_) fun e s' hs=>hs
 have fin:∀ {σ':St}{H':Hp}{v:V}{u:Value},Inv (J4 CX P w K mg base N qual scope f cdv A outer s H E) [] σ' H' s'->RelV v u->Q v H'->CE outer P w H s Q u s':=
  fun {σ' H' v u} J rv q=>⟨v,H',J.os,J.bare,J.base,J.hok,rv,q⟩
 cases fl with
 | ret u=>
   obtain⟨v,σ',H',J,rv,q⟩:=hs
   exact fin J rv q
 | next=>
   obtain⟨σ',H',J,q⟩:=hs
   exact fin (v:=V.non) (u:=Value.none) J rfl q
 | brk=>
   obtain⟨_,_,_,q⟩:=hs
   exact False.elim q
 | cont=>
   obtain⟨_,_,_,q⟩:=hs
   exact False.elim q
end L2
namespace L2
open PySem PySem.Spec PyProof.Rows
section
variable {X:Cx}{x:Str}{p pos:Pos}{e:Expr}{es:List Expr}{t:TA}{id T:String}{r:List V->Hp->VK->Prop}
noncomputable def tCB (r:List V->Hp->VK->Prop) (t:TA):TE:=fun σ H Q=>t σ H fun vs H1=>r vs H1 Q
theorem Xj (hc:Gm X (.builtin id) r) (hg:Gl X x) (hm:X.mg x=none) (hv:bootBuiltins x=some (.builtin id)) (ha:PA X (e::es) t) (hn:x≠"__name__":=by decide) (hdb:(x==("__debug__":Str))=false:=by decide)
 (he:starEach (e::es) X.env=(false,eval e X.env)::starEach es X.env:=by rfl) (hpl:(backTo pos (starEach es X.env)).any (·.1)=false:=by rfl):PE X (.Call (.Name x p) (e::es) [] pos) (tCB r t):=by
 intro pins s σ H Q I h
 refine wpAny_Call_Name_kw (Jv I hg hm hv ?_ hn hdb)
 exact PyProof.Rows.callWith_builtin1 (thn (ha pos pins s σ H _ I h) fun us s1 ⟨vs,H1,I1,r1,q1⟩=>hc pins s1 σ H1 vs us Q I1 r1 q1) he hpl
theorem Vv (hc:Gm X (.type T) r) (hg:Gl X x) (hm:X.mg x=none) (hv:bootBuiltins x=some (.type T)) (ha:PA X (e::es) t) (hn:x≠"__name__":=by decide) (hdb:(x==("__debug__":Str))=false:=by decide)
 (he:starEach (e::es) X.env=(false,eval e X.env)::starEach es X.env:=by rfl) (hpl:(backTo pos (starEach es X.env)).any (·.1)=false:=by rfl):PE X (.Call (.Name x p) (e::es) [] pos) (tCB r t):=by
 intro pins s σ H Q I h
 refine wpAny_Call_Name_kw (Jv I hg hm hv ?_ hn hdb)
 exact PyProof.Rows.callWith_type1 (thn (ha pos pins s σ H _ I h) fun us s1 ⟨vs,H1,I1,r1,q1⟩=>hc pins s1 σ H1 vs us Q I1 r1 q1) he hpl
end
end L2
namespace HT
open PySem PyProof.Rows
section
variable {prog:Program}{w:World}{A:Around}{E:Value->Shared->Prop}{s:Shared}
noncomputable def sIx (n d:Nat):Option Int->Nat
 | none=>d
 | some v=>if v<0 then(v+(n:Int)).toNat else min v.toNat n
theorem Nf (n d:Nat):sIx n d none=d:=rfl
theorem K4 (n d k:Nat):sIx n d (some (k:Int))=min k n:=by
 show(if(k:Int)<0 then((k:Int)+(n:Int)).toNat else min (k:Int).toNat n)=min k n
 rw [if_neg (by omega),Int.toNat_natCast]
end
end HT
namespace L2
open PySem PySem.Spec PyProof.Rows
noncomputable abbrev TO:=St->Hp->(Option Int->Hp->Prop)->Prop
noncomputable def PO (X:Cx) (e:Option Expr) (t:TO):Prop:=
 ∀(pins:List (Addr × Obj)) (s:Shared) (σ:St) (H:Hp) (Q:Option Int->Hp->Prop),Inv X pins σ H s->t σ H Q->
   wpAny (model X.prog X.w) X.A (evalPart e X.env) (fun u s'=>∃o H',Inv X pins σ H' s'/\IsPart u o/\Q o H') X.xe s
noncomputable def Q6:TO:=fun _ H Q=>Q none H
noncomputable def Aak (t:TE):TO:=fun σ H Q=>t σ H fun x H1=>∃i,x= .int i/\Q (some i) H1
theorem intsAre_of {ns:List Int}:∀ {us:List Value},Vals (ns.map V.int) us->IntsAre us ns:=by
 induction ns with
 | nil=>intro us r;rw [List.map_nil]at r;cases r;exact .nil
 | cons n ns ih=>
   intro us r
   rw [List.map_cons]at r
   cases r with
   | cons r1 r2=>
     obtain⟨t,e⟩:=r1
     subst e
     exact .cons n t (ih r2)
section
variable {X:Cx}{e:Expr}{te:TE}{lo hi:Option Expr}{tl th:TO}{pos p2:Pos}
theorem Z7:PO X none Q6:=by
 intro pins s σ H Q I h
 rw [evalPart_none]
 exact wpAny_pure ⟨none,H,I,.none,h⟩
theorem Z8 (h:PE X e te):PO X (some e) (Aak te):=by
 intro pins s σ H Q I hw
 rw [evalPart_some]
 refine thn (h pins s σ H _ I hw) fun u s1 ⟨x,H1,I1,r1,q1⟩=> ?_
 obtain⟨i,rfl,q⟩:=q1
 obtain⟨t,rfl⟩:=r1
 exact⟨some i,H1,I1,.int i t,q⟩
noncomputable def SlR (X:Cx) (r:V->Option Int->Option Int->Hp->VK->Prop):Prop:=
 ∀(pins:List (Addr × Obj)) (s:Shared) (σ:St) (H:Hp) (x:V) (v vl vu:Value) (lo hi:Option Int) (sl:Addr) (Q:VK),Inv X pins σ H s->RelV x v->s.heap.IsSliceOf sl vl vu .none->IsPart vl lo->IsPart vu hi->r x lo hi H Q->
   ∃T id,typeLookup (.type T) "__getitem__"=pure (some (.builtin id))/\s.TypeIs v T/\wpAny (model X.prog X.w) X.A (getItem v (.ref sl)) (EP X pins σ Q) X.xe s
theorem SlR.or {r r':V->Option Int->Option Int->Hp->VK->Prop} (h:SlR X r) (h':SlR X r'):SlR X (fun x lo hi H Q=>r x lo hi H Q\/r' x lo hi H Q):=by
 intro pins s σ H x v vl vu lo hi sl Q I rx hs pl pu q
 rcases q with q | q
 . exact h pins s σ H x v vl vu lo hi sl Q I rx hs pl pu q
 . exact h' pins s σ H x v vl vu lo hi sl Q I rx hs pl pu q
noncomputable def tSl (r:V->Option Int->Option Int->Hp->VK->Prop) (te:TE) (tl th:TO):TE:=fun σ H Q=>te σ H fun x H1=>tl σ H1 fun l H2=>th σ H2 fun u H3=>r x l u H3 Q
theorem Xk {r:V->Option Int->Option Int->Hp->VK->Prop} (hr:SlR X r) (he:PE X e te) (hl:PO X lo tl) (hu:PO X hi th):PE X (.Subscript e (.Slice lo hi none p2) pos) (tSl r te tl th):=by
 intro pins s σ H Q I h
 refine Subscript_ (thn (he pins s σ H _ I h) fun v s1 ⟨x,H1,I1,r1,q1⟩=> ?_)
 refine wpAny_Slice (thn (hl pins s1 σ H1 _ I1 q1) fun vl s2 ⟨l,H2,I2,pl,q2⟩=>thn (hu pins s2 σ H2 _ I2 q2) fun vu s3 ⟨u,H3,I3,pu,q3⟩=> ?_)
 rw [evalPart_none]
 refine wpAny_pure ?_
 have I4:Inv X pins σ H3 { s3 with heap:=s3.heap.push { cls:= .type "slice",data:= .fields #[vl,vu,.none]}}:=I3.kept (t':=s3.toks) fun b ob q=>Heap.get?_push_of_some _ q
 obtain⟨T,id,hT,ht,hg⟩:=hr pins { s3 with heap:=s3.heap.push { cls:= .type "slice",data:= .fields #[vl,vu,.none]}} σ H3 x v vl vu l u s3.heap.objs.size Q I4 r1 (Heap.IsSliceOf.new ..) pl pu q3
 show wpAny (model X.prog X.w) X.A (subscriptTail e (.Slice lo hi none p2) v (.ref s3.heap.objs.size)) (EP X pins σ Q) X.xe { s3 with heap:=s3.heap.push { cls:= .type "slice",data:= .fields #[vl,vu,.none]}}
 exact tail_any (ops:=[.ref s3.heap.objs.size,v]) ht hT hg (by with_unfolding_all rfl)
noncomputable def Ua (xs:List V) (lo hi:Option Int):List V:=(xs.drop (HT.sIx xs.length 0 lo)).take (HT.sIx xs.length xs.length hi-HT.sIx xs.length 0 lo)
theorem Qi (xs:List V) (lo hi:Option Int):(Ua xs lo hi).length<=xs.length:=by
 unfold Ua
 rw [List.length_take,List.length_drop]
 omega
end
end L2
namespace L2
open PySem PySem.Spec PyProof.Rows
noncomputable def ixN (n:Nat) (i:Int):Option Nat:=if 0<=i then(if i<n then some i.toNat else none)else if-(n:Int)<=i then some (i+n).toNat else none
noncomputable def atI {α:Type} (xs:List α) (i:Int):Option α:=(ixN xs.length i).bind fun j=>xs[j]?
theorem U8 {n:Nat}{i:Int}{j:Nat} (h:ixN n i=some j):seqIndex? i n=some j/\j<n/\ -(n:Int)<=i/\i<n:=by
 unfold ixN at h
 by_cases h0:0<=i
 . rw [if_pos h0]at h
   by_cases h1:i<n
   . rw [if_pos h1]at h
     have e:i.toNat=j:=Option.some.inj h
     exact⟨by rw [seqIndex_of h0 h1,e],by omega,by omega,h1⟩
   . rw [if_neg h1]at h;cases h
 . rw [if_neg h0]at h
   by_cases h1: -(n:Int)<=i
   . rw [if_pos h1]at h
     have e:(i+n).toNat=j:=Option.some.inj h
     exact⟨by rw [seqIndex_neg (by omega) h1,e],by omega,h1,by omega⟩
   . rw [if_neg h1]at h;cases h
theorem Uq {α:Type}{xs:List α}{i:Int}{v:α} (h:atI xs i=some v):∃j,seqIndex? i xs.length=some j/\xs[j]? =some v/\j<xs.length/\ -(xs.length:Int)<=i/\i<xs.length:=by
 unfold atI at h
 cases e:ixN xs.length i with
 | none=>rw [e]at h;cases h
 | some j=>
   rw [e]at h
   obtain⟨h1,h2,h3,h4⟩:=U8 e
   exact⟨j,h1,h,h2,h3,h4⟩
theorem Gq {α:Type}{xs:List α}{j:Nat}{v:α} (h:xs[j]? =some v):atI xs (j:Int)=some v:=by
 have hj:j<xs.length:=(List.getElem?_eq_some_iff.mp h).1
 have e:ixN xs.length (j:Int)=some j:=by
  unfold ixN
  rw [if_pos (by omega),if_pos (by omega)];simp
 unfold atI;rw [e];exact h
theorem Ww {α:Type} (xs:List α) (v:α):atI (xs++ [v]) (-1)=some v:=by
 have hl:(xs++ [v]).length=xs.length+1:=by simp
 have e:ixN (xs++ [v]).length (-1)=some xs.length:=by
  unfold ixN
  rw [hl,if_neg (by decide),if_pos (by omega)]
  congr 1
  omega
 unfold atI
 rw [e]
 show(xs++ [v])[xs.length]? =some v
 simp
noncomputable def Uk (b:Expr):Prop:=∀o i,subscripted b false o i=operate [o,i] (getItem o i)
noncomputable def IxR (X:Cx) (r:R2):Prop:=
 ∀(value slice:Expr) (pins:List (Addr × Obj)) (s:Shared) (σ:St) (H:Hp) (x y:V) (v u:Value) (Q:VK),Inv X pins σ H s->RelV x v->RelV y u->r x y H Q->
   subscripted slice false v u=operate [v,u] (getItem v u)->wpAny (model X.prog X.w) X.A (subscriptTail value slice v u) (EP X pins σ Q) X.xe s
noncomputable def MtR (X:Cx) (id:String) (r:V->List V->Hp->VK->Prop):Prop:=
 ∀(pins:List (Addr × Obj)) (s:Shared) (σ:St) (H:Hp) (x:V) (xs:List V) (v:Value) (us:List Value) (Q:VK),Inv X pins σ H s->RelV x v->Vals xs us->r x xs H Q->
   wpAny (model X.prog X.w) X.A (call (.builtin id) (v::us)) (EP X pins σ Q) X.xe s
section
variable {X:Cx}{a b:Expr}{ta tb:TE}{pos:Pos}
theorem IxR.or {r r':R2} (h:IxR X r) (h':IxR X r'):IxR X (fun x y H Q=>r x y H Q\/r' x y H Q):=by
 intro value slice pins s σ H x y v u Q I rx ry q hs
 rcases q with q | q
 . exact h value slice pins s σ H x y v u Q I rx ry q hs
 . exact h' value slice pins s σ H x y v u Q I rx ry q hs
theorem MtR.or {id:String}{r r':V->List V->Hp->VK->Prop} (h:MtR X id r) (h':MtR X id r'):MtR X id (fun x xs H Q=>r x xs H Q\/r' x xs H Q):=by
 intro pins s σ H x xs v us Q I rx rs q
 rcases q with q | q
 . exact h pins s σ H x xs v us Q I rx rs q
 . exact h' pins s σ H x xs v us Q I rx rs q
theorem Ads {r:R2} (hr:IxR X r) (ha:PE X a ta) (hb:PE X b tb) (hs:Uk b):PE X (.Subscript a b pos) (tOp r ta tb):=by
 intro pins s σ H Q I h
 exact Subscript_ (Adc ha hb I h fun v u s2 x y H2 I2 rx ry q=>hr a b pins s2 σ H2 x y v u Q I2 rx ry q (hs _ _))
noncomputable def Ab1 (K:PySem.W.Frag):R2:=fun x y H Q=>∃p xs i v,x= .ref p/\y= .int i/\SqL K H p xs/\atI xs i=some v/\Q v H
noncomputable def Ae9 (K:PySem.W.Frag):R2:=fun x y H Q=>∃p xs i v,x= .ref p/\y= .int i/\SqT K H p xs/\atI xs i=some v/\Q v H
theorem Bh:IxR X (Ab1 X.K):=by
 intro value slice pins s σ H x y v u Q I rx ry h hs
 obtain⟨p,xs,i,z,rfl,rfl,hq,he,q⟩:=h
 cases rx
 obtain⟨t,rfl⟩:=ry
 obtain⟨its,r,pl,hz⟩:=I.list hq
 obtain⟨j,h1,h2,h3,h4,h5⟩:=Uq he
 obtain⟨w,ew,rw'⟩:=r.get h2
 have hl:=r.length
 have hn:=Rw
 have fin:EP X pins σ Q w s:=⟨z,H,I,rw',q⟩
 by_cases h0:0<=i
 . have hj:i.toNat=j:=by
    rw [seqIndex_of h0 h5]at h1
    exact Option.some.inj h1
   exact item_listR pl.isList h0 (by omega) (by rw [hj];simpa using ew) fin hs
 . have hj:(i+(its.toArray.size:Int)).toNat=j:=by
    rw [seqIndex_neg (by omega) h4]at h1
    rw [List.size_toArray,<-hl]
    exact Option.some.inj h1
   exact subscriptTail_builtinR (x:=w) pl.isList.typeIs slot_list_getitem.lookup
    (wpAny_getItem_list_neg (Q:=fun r s'=>r=w/\EP X pins σ Q r s') pl.isList (by omega) (by rw [List.size_toArray]<;>omega) (by omega) (by rw [hj];simpa using ew) ⟨rfl,fin⟩) hs
theorem Ef:IxR X (Ae9 X.K):=by
 intro value slice pins s σ H x y v u Q I rx ry h hs
 obtain⟨p,xs,i,z,rfl,rfl,hq,he,q⟩:=h
 cases rx
 obtain⟨t,rfl⟩:=ry
 obtain⟨its,r,pl,hz⟩:=I.tuple hq
 obtain⟨j,h1,h2,h3,h4,h5⟩:=Uq he
 obtain⟨w,ew,rw'⟩:=r.get h2
 have hl:=r.length
 have hn:=Rw
 have fin:EP X pins σ Q w s:=⟨z,H,I,rw',q⟩
 exact subscriptTail_builtinR (x:=w) pl.typeIs slot_tuple_getitem.lookup
  (getItem_tuple (j:=j) (Q:=fun r s'=>r=w/\EP X pins σ Q r s') pl (by omega) (by omega) (by rw [List.size_toArray,<-hl];exact h1) (by simpa using ew) ⟨rfl,fin⟩) hs
theorem Tp (its:List Value) (n j:Nat) (u:Value):Obj.mapSeq (·.setIfInBounds j u) { cls:= .type "list",data:= .seq its.toArray n}={ cls:= .type "list",data:= .seq (its.set j u).toArray n}:=by
 simp [Obj.mapSeq]
theorem Inv.lst {pins:List (Addr × Obj)}{σ:St}{H:Hp}{s:Shared}{p:Addr}{xs:List V} (I:Inv X pins σ H s) (h:H p=some (.lst xs)):
 ∃(its:List Value) (n:Nat),Vals xs its/\s.heap.get? p=some { cls:= .type "list",data:= .seq its.toArray n}/\xs.length<=sizeLine:=by
 obtain⟨z,its,n,r,e⟩:=I.hok p _ h
 exact⟨its,n,r,e,z⟩
theorem Inv.lstUpd {pins:List (Addr × Obj)}{σ:St}{H:Hp}{s:Shared}{p:Addr}{xs ys:List V}{its its':List Value}{n n':Nat}{f:Obj->Obj} (I:Inv X pins σ H s) (h:H p=some (.lst xs))
 (ho:s.heap.get? p=some { cls:= .type "list",data:= .seq its.toArray n}) (hf:f { cls:= .type "list",data:= .seq its.toArray n}={ cls:= .type "list",data:= .seq its'.toArray n'}) (r:Vals ys its') (hz:ys.length<=sizeLine) (t:Nat):
 Inv X pins σ (upd H p (.lst ys)) { s with heap:=s.heap.update p f,toks:=t}:=by
 have e:(s.heap.update p f).get? p=some { cls:= .type "list",data:= .seq its'.toArray n'}:=by
  rw [Heap.get?_update_self f ho (by rw [hf]<;>rfl),hf]
 refine I.write (x:=p) (e:=p) (by rw [h];trivial) (.inl rfl) (fun b u hb q=>(Heap.get?_update_other _ _ (Ne.symm hb)).trans q) ⟨_,e⟩ ?_
 exact⟨hz,its',n',r,e⟩
noncomputable def Aae:V->V->V->Hp->(Hp->Prop)->Prop:=fun o i v H Q=>∃p xs k j,o= .ref p/\i= .int k/\H p=some (.lst xs)/\ixN xs.length k=some j/\Q (upd H p (.lst (xs.set j v)))
theorem set_list:Ada X Aae:=by
 intro pins s σ H o i v ov iv u Q I ro ri rv h
 obtain⟨p,xs,k,j,rfl,rfl,hp,hj,q⟩:=h
 cases ro
 obtain⟨t,rfl⟩:=ri
 obtain⟨its,n,r,ho,hz⟩:=I.lst hp
 obtain⟨h1,h2,h3,h4⟩:=U8 hj
 have hl:=r.length
 have hn:=Rw
 have I':Inv X pins σ (upd H p (.lst (xs.set j v))) { s with heap:=s.heap.update p (Obj.mapSeq (·.setIfInBounds j u))}:=
  I.lstUpd hp ho (Tp its n j u) (r.set rv j) (by rw [List.length_set];exact hz) s.toks
 by_cases h0:0<=k
 . have hk:k.toNat=j:=by
    rw [seqIndex_of h0 h4]at h1
    exact Option.some.inj h1
   exact PySem.W.ki_setAt ho h0 (by omega) (by rw [List.size_toArray,<-hl];exact h4) (by rw [hk];exact⟨_,I',q⟩)
 . have hk:(k+(its.toArray.size:Int)).toNat=j:=by
    rw [seqIndex_neg (by omega) h3]at h1
    rw [List.size_toArray,<-hl]
    exact Option.some.inj h1
   exact PySem.W.ki_setBack ho (by omega) (by rw [List.size_toArray,<-hl];exact h3) (by omega) (by rw [hk];exact⟨_,I',q⟩)
theorem Pk (lo hi:Option Int) (n:Nat):(sliceBounds lo hi none n).1=((HT.sIx n 0 lo:Nat):Int)/\(sliceBounds lo hi none n).2.1=((HT.sIx n n hi:Nat):Int)/\(sliceBounds lo hi none n).2.2=1:=by
 refine⟨?_,?_,rfl⟩
 . cases lo with
   | none=>simp [sliceBounds,HT.sIx]
   | some i=>
     simp only [sliceBounds,HT.sIx,Option.getD_none,show(1:Int)>0 by decide,if_true]
     by_cases h:i<0
     . simp only [h,if_true]<;>omega
     . simp only [h,if_false]<;>omega
 . cases hi with
   | none=>simp [sliceBounds,HT.sIx]
   | some i=>
     simp only [sliceBounds,HT.sIx,Option.getD_none,show(1:Int)>0 by decide,if_true]
     by_cases h:i<0
     . simp only [h,if_true]<;>omega
     . simp only [h,if_false]<;>omega
theorem Nm (its:List Value) (lo hi:Option Int):slicePick its.toArray lo hi none=((its.drop (HT.sIx its.length 0 lo)).take (HT.sIx its.length its.length hi-HT.sIx its.length 0 lo)).toArray:=by
 obtain⟨h1,h2,h3⟩:=Pk lo hi its.toArray.size
 unfold slicePick
 rw [h1,h2,h3]
 simp only [sliceRange_one,pick_run,List.size_toArray]<;>rfl
noncomputable def Ac6 (K:PySem.W.Frag):V->Option Int->Option Int->Hp->VK->Prop:=fun x lo hi H Q=>∃a xs,x= .ref a/\SqL K H a xs/\∀p,H p=none->Q (.ref p) (upd H p (.lst (Ua xs lo hi)))
theorem Jq:SlR X (Ac6 X.K):=by
 intro pins s σ H x v vl vu lo hi sl Q I rx hs pl pu h
 obtain⟨a,xs,rfl,hx,q⟩:=h
 cases rx
 obtain⟨its,r,ht,hz⟩:=I.list hx
 have hlen:=r.length
 refine⟨"list",_,slot_list_getitem.lookup,ht.isList.typeIs,?_⟩
 refine wpAny_getItem_list_slice ht.isList hs pl pu .none (by simp) ?_ (by rw [List.size_toArray]<;>omega)
 rw [Nm,<-hlen]
 refine⟨.ref s.heap.objs.size,_,I.laid (t':=s.toks) (o:= .lst (Ua xs lo hi)) (fun b ob q=>Heap.get?_push_of_some _ q) (Nat.le_refl _) ?_,rfl,q _ (I.hok.fresh (Nat.le_refl _))⟩
 exact⟨Nat.le_trans (Qi xs lo hi) hz,_,0,(r.drop (HT.sIx xs.length 0 lo)).take (HT.sIx xs.length xs.length hi-HT.sIx xs.length 0 lo),Heap.get?_push_size _ rfl⟩
noncomputable def Oq:V->Bool
 | .non=>true
 | .bl _=>true
 | .int _=>true
 | .str _=>true
 | _=>false
noncomputable def eqV:V->V->Bool
 | .non,.non=>true
 | .bl a,.bl b=>a==b
 | .bl a,.int b=>(if a then 1 else 0)==b
 | .int a,.bl b=>a==(if b then 1 else 0)
 | .int a,.int b=>a==b
 | .str a,.str b=>a==b
 | _,_=>false
theorem Aa4 {A:Around}{s:Shared}{y x:V}{u v:Value} (ry:RelV y u) (rx:RelV x v) (fy:Oq y=true) (fx:Oq x=true):SeqAt.EqAt A s u v (eqV y x):=by
 cases y with
 | non=>
   cases ry
   cases x with
   | non=>cases rx;exact SeqAt.EqAt.same _
   | bl b=>cases rx;exact SeqAt.EqAt.none_bool b
   | int b=>obtain⟨t,rfl⟩:=rx;exact SeqAt.EqAt.none_int b t
   | str b=>obtain⟨t,rfl⟩:=rx;exact SeqAt.EqAt.none_str b t
   | _=>exact absurd (show false=true from fx) Bool.false_ne_true
 | bl a=>
   cases ry
   cases x with
   | non=>cases rx;exact SeqAt.EqAt.bool_none a
   | bl b=>cases rx;exact SeqAt.EqAt.bool_bool a b
   | int b=>obtain⟨t,rfl⟩:=rx;exact SeqAt.EqAt.bool_int a b t
   | str b=>obtain⟨t,rfl⟩:=rx;exact SeqAt.EqAt.bool_str a b t
   | _=>exact absurd (show false=true from fx) Bool.false_ne_true
 | int a=>
   obtain⟨t',rfl⟩:=ry
   cases x with
   | non=>cases rx;exact SeqAt.EqAt.int_none a t'
   | bl b=>cases rx;exact SeqAt.EqAt.int_bool a t' b
   | int b=>obtain⟨t,rfl⟩:=rx;exact SeqAt.EqAt.int_int a t' b t
   | str b=>obtain⟨t,rfl⟩:=rx;exact SeqAt.EqAt.int_str a t' b t
   | _=>exact absurd (show false=true from fx) Bool.false_ne_true
 | str a=>
   obtain⟨t',rfl⟩:=ry
   cases x with
   | non=>cases rx;exact SeqAt.EqAt.str_none a t'
   | bl b=>cases rx;exact SeqAt.EqAt.str_bool a t' b
   | int b=>obtain⟨t,rfl⟩:=rx;exact SeqAt.EqAt.str_int a t' b t
   | str b=>obtain⟨t,rfl⟩:=rx;exact SeqAt.EqAt.str_str a t' b t
   | _=>exact absurd (show false=true from fx) Bool.false_ne_true
 | _=>exact absurd (show false=true from fy) Bool.false_ne_true
noncomputable def eqU (x:V) (u:Value):Bool:=match u with
 | .none=>eqV .non x
 | .bool b=>eqV (.bl b) x
 | .int i _=>eqV (.int i) x
 | .str z _=>eqV (.str z) x
 | _=>false
theorem Yg {x y:V}{u:Value} (r:RelV y u) (f:Oq y=true):eqU x u=eqV y x:=by
 cases y with
 | non=>cases r;rfl
 | bl b=>cases r;rfl
 | int i=>obtain⟨t,rfl⟩:=r;rfl
 | str z=>obtain⟨t,rfl⟩:=r;rfl
 | _=>exact absurd (show false=true from f) Bool.false_ne_true
theorem Qe {x:V}:∀ {xs:List V}{us:List Value},Vals xs us->xs.all Oq=true->us.any (eqU x)=xs.any fun y=>eqV y x
 | _,_,.nil,_=>rfl
 | y::xs,u::us,.cons r t,f=>by
   rw [List.all_cons,Bool.and_eq_true]at f
   rw [List.any_cons,List.any_cons,Yg r f.1,Qe t f.2]
theorem Mw {A:Around}{s:Shared}{x:V}{v:Value} (rx:RelV x v) (fx:Oq x=true):∀ {xs:List V}{us:List Value},Vals xs us->xs.all Oq=true->∀u∈us,SeqAt.EqAt A s u v (eqU x u)
 | _,_,.nil,_=>fun u hu=>by cases hu
 | y::xs,u::us,.cons r t,f=>fun u' hu=>by
   rw [List.all_cons,Bool.and_eq_true]at f
   rcases List.mem_cons.mp hu with rfl | hu
   . rw [Yg r f.1];exact Aa4 r rx f.1 fx
   . exact Mw rx fx t f.2 u' hu
noncomputable def inV (x:V) (xs:List V):Bool:=xs.any fun y=>eqV y x
noncomputable def rIn (K:PySem.W.Frag) (neg:Bool):R2:=fun x y H Q=>∃p xs,y= .ref p/\(SqL K H p xs\/SqT K H p xs)/\Oq x=true/\xs.all Oq=true/\Q (.bl (if neg then !inV x xs else inV x xs)) H
theorem O6:OpR X (compareOp .NotIn) (rIn X.K true):=by
 intro pins s σ H x y v u Q I rx ry h
 obtain⟨p,xs,rfl,hq,fx,fs,q⟩:=h
 cases ry
 rcases hq with hq | hq
 . obtain⟨its,r,pl,hz⟩:=I.list hq
   refine SeqAt.notIn_listAt (eqU x) pl.isList (fun w hw=>Mw rx fx r fs w (by simpa using hw)) ⟨.bl _,H,I,rfl,?_⟩
   rw [show its.toArray.any (eqU x)=its.any (eqU x)by simp,Qe r fs]
   exact q
 . obtain⟨its,r,pl,hz⟩:=I.tuple hq
   refine SeqAt.notIn_tupleAt (eqU x) pl (fun w hw=>Mw rx fx r fs w (by simpa using hw)) ⟨.bl _,H,I,rfl,?_⟩
   rw [show its.toArray.any (eqU x)=its.any (eqU x)by simp,Qe r fs]
   exact q
theorem Al:Gm X (.builtin "len") (fun xs H Q=>∃p ys,xs=[.ref p]/\(SqL X.K H p ys\/SqT X.K H p ys)/\Q (.int ys.length) H):=by
 intro pins s σ H xs us Q I r h
 obtain⟨p,ys,rfl,hq,q⟩:=h
 obtain⟨u,rfl,rx⟩:=vals1 r
 cases rx
 have hn:=Rw
 rcases hq with hq | hq
 . obtain⟨its,r',pl,hz⟩:=I.list hq
   have hlen:=r'.length
   exact Calls.call_len_list pl.isList (by simp only [List.size_toArray]<;>omega) ⟨.int ys.length,H,I.tok _,⟨s.toks+1,by rw [List.size_toArray,hlen]⟩,q⟩
 . obtain⟨its,r',pl,hz⟩:=I.tuple hq
   have hlen:=r'.length
   exact len_tuple pl (by simp only [List.size_toArray]<;>omega) ⟨.int ys.length,H,I.tok _,⟨s.toks+1,by rw [List.size_toArray,hlen]⟩,q⟩
theorem Gm.or {f:Value}{r r':List V->Hp->VK->Prop} (h:Gm X f r) (h':Gm X f r'):Gm X f (fun xs H Q=>r xs H Q\/r' xs H Q):=by
 intro pins s σ H xs us Q I rs q
 rcases q with q | q
 . exact h pins s σ H xs us Q I rs q
 . exact h' pins s σ H xs us Q I rs q
theorem El:Gm X (.type "list") (fun xs H Q=>∃p ys,xs=[.ref p]/\(SqL X.K H p ys\/SqT X.K H p ys)/\∀l,H l=none->Q (.ref l) (upd H l (.lst ys))):=by
 intro pins s σ H xs us Q I r h
 obtain⟨p,ys,rfl,hq,q⟩:=h
 obtain⟨u,rfl,rx⟩:=vals1 r
 cases rx
 have fin:∀(its:List Value),Vals ys its->ys.length<=sizeLine->∀(h':Heap) (c':Nat),(∀b o',s.heap.get? b=some o'->h'.get? b=some o')->
  h'.get? s.heap.objs.size=some { cls:= .type "list",dict:=none,data:= .seq its.toArray c',slots:= #[]}->EP X pins σ Q (.ref s.heap.objs.size) { s with heap:=h'}:=fun its r' hz h' c' kp e=>
  ⟨.ref s.heap.objs.size,_,I.laid (t':=s.toks) kp (Nat.le_refl _) (show Fj X.prog X.w _ h' _ (.lst ys)from⟨hz,its,c',r',e⟩),rfl,q _ (I.hok.fresh (Nat.le_refl _))⟩
 rcases hq with hq | hq
 . obtain⟨its,r',pl,hz⟩:=I.list hq
   have hlen:=r'.length
   obtain⟨o,ho,hc,n,hd⟩:=pl.isList
   exact call_list_seq p (.inl rfl) ho hc hd (fun h' c' kp e=>fin its r' hz h' c' kp e) (by simp only [List.size_toArray]<;>omega)
 . obtain⟨its,r',pl,hz⟩:=I.tuple hq
   have hlen:=r'.length
   obtain⟨o,ho,hc,n,hd⟩:=pl
   exact call_list_seq p (.inr rfl) ho hc hd (fun h' c' kp e=>fin its r' hz h' c' kp e) (by simp only [List.size_toArray]<;>omega)
theorem Ey:Gm X (.type "tuple") (fun xs H Q=>∃p ys,xs=[.ref p]/\((SqL X.K H p ys/\∀l,H l=none->Q (.ref l) (upd H l (.tup ys)))\/(SqT X.K H p ys/\Q (.ref p) H))):=by
 intro pins s σ H xs us Q I r h
 obtain⟨p,ys,rfl,h⟩:=h
 obtain⟨u,rfl,rx⟩:=vals1 r
 cases rx
 rcases h with⟨hq,q⟩ | ⟨hq,q⟩
 . obtain⟨its,r',pl,hz⟩:=I.list hq
   have hlen:=r'.length
   refine call_tuple_list pl.isList (fun h' kp=> ?_) (by simp only [List.size_toArray]<;>omega)
   have I1:Inv X pins σ H { s with heap:=h'}:=I.kept (t':=s.toks) kp
   have I2:Inv X pins σ (upd H h'.objs.size (.tup ys)) { s with heap:=h'.push { cls:= .type "tuple",data:= .seq its.toArray}}:=
    I1.laid (t':=s.toks) (fun b o e=>Heap.get?_push_of_some _ e) (Nat.le_refl _) (show Fj X.prog X.w _ _ _ (.tup ys)from⟨hz,its,r',IsTup.new _ _⟩)
   exact⟨.ref h'.objs.size,_,I2,rfl,q _ (I1.hok.fresh (Nat.le_refl _))⟩
 . obtain⟨its,r',pl,hz⟩:=I.tuple hq
   exact call_tuple_same pl ⟨.ref p,H,I,rfl,q⟩
noncomputable def tyV (K:PySem.W.Frag) (T:String) (x:V) (H:Hp):Prop:=match x with
 | .str _=>T="str"
 | .int _=>T="int"
 | .ref p=>(T="list"/\∃xs,SqL K H p xs)\/(T="tuple"/\∃o,K.lookup p=some o/\o.cls= .type "tuple"/\o.dict=none)\/
    (T="dict"/\((∃kvs,H p=some (.dK kvs))\/∃kvs,H p=some (.dT kvs)))\/(T="set"/\∃S n,H p=some (.set S n))
 | _=>False
theorem Za {pins:List (Addr × Obj)}{σ:St}{H:Hp}{s:Shared}{T:String}{x:V}{v:Value} (I:Inv X pins σ H s) (r:RelV x v) (ty:tyV X.K T x H):
 s.TypeIs v T/\∀a,v= .ref a->∃ob,s.heap.get? a=some ob/\ob.dict=none:=by
 cases x with
 | str z=>
   obtain⟨t,rfl⟩:=r
   cases(show T="str" from ty)
   exact⟨typeIs_str s z t,fun _ e=>nomatch e⟩
 | int i=>
   obtain⟨t,rfl⟩:=r
   cases(show T="int" from ty)
   exact⟨typeIs_int s i t,fun _ e=>nomatch e⟩
 | ref p=>
   cases r
   rcases ty with⟨rfl,xs,hq⟩ | ⟨rfl,o,hk,hc,hd⟩ | ⟨rfl,hk⟩ | ⟨rfl,S,n,hk⟩
   . obtain⟨its,_,pl,_⟩:=I.list hq
     refine⟨pl.isList.typeIs,fun a e=> ?_⟩
     cases e
     obtain⟨o,n,e,c,hd,_⟩:=pl
     exact⟨o,e,hd⟩
   . refine⟨⟨o,I.kIn p o hk,hc⟩,fun a e=> ?_⟩
     cases e
     exact⟨o,I.kIn _ o hk,hd⟩
   . have z:∃o,s.heap.get? p=some o/\o.ExactDict:=by
      rcases hk with⟨kvs,hk⟩ | ⟨kvs,hk⟩
      . obtain⟨_,_,_,_,o,_,_,e,ex,_⟩:=I.hok p _ hk
        exact⟨o,e,ex⟩
      . obtain⟨_,_,_,_,o,_,_,e,ex,_⟩:=I.hok p _ hk
        exact⟨o,e,ex⟩
     obtain⟨o,e,ex⟩:=z
     refine⟨⟨o,e,ex.1⟩,fun a e2=> ?_⟩
     cases e2
     exact⟨o,e,ex.2.1⟩
   . obtain⟨o,_,_,_,e,ex,_⟩:=I.hok p _ hk
     refine⟨⟨o,e,ex.1⟩,fun a e2=> ?_⟩
     cases e2
     exact⟨o,e,ex.2.1⟩
 | _=>exact False.elim ty
noncomputable def Ad0 (K:PySem.W.Frag) (T:String) (r:V->List V->Hp->VK->Prop) (to:TE):TE:=fun σ H Q=>to σ H fun x H1=>tyV K T x H1/\r x [] H1 Q
noncomputable def tBM (K:PySem.W.Frag) (T:String) (r:V->List V->Hp->VK->Prop) (to:TE) (t:TA):TE:=fun σ H Q=>to σ H fun x H1=>tyV K T x H1/\t σ H1 fun xs H2=>r x xs H2 Q
variable {o e:Expr}{es:List Expr}{to:TE}{t:TA}{name:Str}{apos cpos:Pos}{T id:String}{r:V->List V->Hp->VK->Prop}
theorem Vs (pa:PlainAttrs T) (slot:Slot T name id) (hty:typeOf (.builtin id)=pure (.type "method_descriptor")) (hm:MtR X id r) (ho:PE X o to)
 (hbase:attributeBase o name X.env (eval o X.env)=eval o X.env:=by rfl) (hline:(apos.endLine==cpos.line)=true:=by rfl):PE X (.Call (.Attribute o name apos) [] [] cpos) (Ad0 X.K T r to):=by
 intro pins s σ H Q I h
 refine wpAny_Call_method0_late hbase hline (thn (ho pins s σ H _ I h) fun v s1 ⟨x,H1,I1,r1,ty,q1⟩=> ?_)
 obtain⟨h1,h2⟩:=Za I1 r1 ty
 exact⟨T,id,pa,slot,hty,h1,h2,Calls.callWith_builtin rfl (PySem.evalArgs_none (hm pins s1 σ H1 x [] v [] Q I1 r1 .nil q1))⟩
theorem T3 (pa:PlainAttrs T) (slot:Slot T name id) (hty:typeOf (.builtin id)=pure (.type "method_descriptor")) (hm:MtR X id r) (ho:PE X o to) (ha:PA X (e::es) t)
 (hbase:attributeBase o name X.env (eval o X.env)=eval o X.env:=by rfl)
 (hfew:((backTo cpos (starEach (e::es) X.env)).all (fun x=> !x.1)&&(backToKw cpos (keywordEach [] X.env)).all (fun x=>x.1.isSome)
   &&decide ((e::es).length+([]:List Keyword).length+(if([]:List Keyword).isEmpty then 0 else 1)<30))=true:=by rfl)
 (hline:(apos.endLine==cpos.line)=true:=by rfl) (hs:starEach (e::es) X.env=(false,eval e X.env)::starEach es X.env:=by rfl) (hplain:(backTo cpos (starEach es X.env)).any (·.1)=false:=by rfl):
 PE X (.Call (.Attribute o name apos) (e::es) [] cpos) (tBM X.K T r to t):=by
 intro pins s σ H Q I h
 refine wpAny_Call_method_late hbase hfew hline rfl (thn (ho pins s σ H _ I h) fun v s1 ⟨x,H1,I1,r1,ty,q1⟩=> ?_)
 obtain⟨h1,h2⟩:=Za I1 r1 ty
 refine⟨T,id,pa,slot,hty,h1,h2,?_⟩
 have hA:=ha cpos pins s1 σ H1 _ I1 q1
 rw [hs]at hA ⊢
 refine Calls.callWith_builtin (by show(false||(backTo cpos (starEach es X.env)).any (·.1))=false;rw [hplain]<;>rfl) (Calls.evalArgs_plain ?_)
 exact thn hA fun us s2 ⟨vs,H2,I2,r2,q2⟩=>hm pins s2 σ H2 x vs v us Q I2 r1 r2 q2
/-xs.append(e),list.index on a module's tuple .. are MtR facts of 06m-/
end
end L2
namespace L2
open PySem PySem.Spec PyProof.Rows
noncomputable def MtM (X:Cx) (id:String) (r:V->List V->Hp->VK->Prop):Prop:=
 ∀(pins:List (Addr × Obj)) (s:Shared) (σ:St) (H:Hp) (x:V) (xs:List V) (v:Value) (us:List Value) (Q:VK),Inv X pins σ H s->RelV x v->Vals xs us->r x xs H Q->
   wpAny (model X.prog X.w) X.A (call (.builtin id) (v::us)) (EP X pins σ Q) X.xe s
theorem Vals.one:∀ {x:V}{us:List Value},Vals [x] us->∃u,us=[u]/\RelV x u
 | _,_,.cons r .nil=>⟨_,rfl,r⟩
theorem Vals.two:∀ {x y:V}{us:List Value},Vals [x,y] us->∃u v,us=[u,v]/\RelV x u/\RelV y v
 | _,_,_,.cons r (.cons q .nil)=>⟨_,_,rfl,r,q⟩
theorem Vals.zero:∀ {us:List Value},Vals [] us->us=[]
 | _,.nil=>rfl
theorem Vals.dropLast {xs:List V}{us:List Value} (h:Vals xs us):Vals xs.dropLast us.dropLast:=by
 induction h with
 | nil=>exact .nil
 | cons r t ih=>
   cases t with
   | nil=>exact .nil
   | cons q t'=>exact .cons r ih
theorem Vals.eraseIdx:∀ {xs:List V}{us:List Value} (i:Nat),Vals xs us->Vals (xs.eraseIdx i) (us.eraseIdx i)
 | _,_,_,.nil=> .nil
 | _,_,0,.cons _ t=>t
 | _,_,i+1,.cons r t=> .cons r (Vals.eraseIdx i t)
theorem Vals.reverse {xs:List V}{us:List Value} (h:Vals xs us):Vals xs.reverse us.reverse:=by
 induction h with
 | nil=>exact .nil
 | cons r t ih=>rw [List.reverse_cons,List.reverse_cons];exact Vals.append ih (.cons r .nil)
theorem Vals.rep {xs:List V}{us:List Value} (h:Vals xs us):∀k:Nat,Vals (List.replicate k xs).flatten (List.replicate k us).flatten
 | 0=> .nil
 | k+1=>by
   rw [List.replicate_succ,List.replicate_succ,List.flatten_cons,List.flatten_cons]
   exact Vals.append h (Vals.rep h k)
theorem Tj {α:Type} (l:List α):l.eraseIdx (l.length-1)=l.dropLast:=by
 induction l with
 | nil=>rfl
 | cons a r ih=>
   cases r with
   | nil=>rfl
   | cons b r=>
     have e:(a::b::r).length-1=((b::r).length-1)+1:=by
      have h1:(a::b::r).length=r.length+2:=rfl
      have h2:(b::r).length=r.length+1:=rfl
      omega
     rw [e,List.eraseIdx_cons_succ,ih]
     all_goals rfl
theorem foldl_rep (its:List Value):∀(k:Nat) (acc:List Value),
 List.foldl (fun x1 x2=>x1++x2) acc.toArray (List.replicate k its.toArray)=(acc++(List.replicate k its).flatten).toArray
 | 0,acc=>by simp
 | k+1,acc=>by
   have e:acc.toArray++its.toArray=(acc++its).toArray:=by simp
   have e2:(acc++its)++(List.replicate k its).flatten=acc++(List.replicate (k+1) its).flatten:=by
    rw [List.replicate_succ,List.flatten_cons,List.append_assoc]
   rw [<-e2,<-foldl_rep its k (acc++its),<-e,List.replicate_succ,List.foldl_cons]
section
variable {X:Cx}{pins:List (Addr × Obj)}{σ:St}{H:Hp}{s:Shared}{l b:Addr}{xs ys zs:List V}
theorem Inv.lset {its its':List Value}{n:Nat}{f:Array Value->Array Value}{t':Nat} (I:Inv X pins σ H s) (hH:H l=some (.lst xs))
 (e:s.heap.get? l=some { cls:= .type "list",data:= .seq its.toArray n}) (hf:f its.toArray=its'.toArray) (hv:Vals ys its') (hz:ys.length<=sizeLine):
 Inv X pins σ (upd H l (.lst ys)) { s with heap:=s.heap.update l (Obj.mapSeq f),toks:=t'}:=by
 have q:=PySem.IsL.update e f
 rw [hf]at q
 refine I.write (x:=l) (e:=l) (by rw [hH];exact trivial) (.inl rfl) (fun b' u hb hu=>(Heap.get?_update_other s.heap (Obj.mapSeq f) (Ne.symm hb)).trans hu) ⟨_,q⟩ ?_
 exact⟨hz,its',_,hv,q⟩
theorem Inv.lnew {its:List Value}{t':Nat} (I:Inv X pins σ H s) (hv:Vals ys its) (hz:ys.length<=sizeLine):
 Inv X pins σ (upd H s.heap.objs.size (.lst ys)) { s with heap:=s.heap.push { cls:= .type "list",data:= .seq its.toArray},toks:=t'}:=
 I.laid (fun _ _ q=>Heap.get?_push_of_some _ q) (Nat.le_refl _) ⟨hz,its,0,hv,Heap.get?_push_size _ rfl⟩
theorem Inv.fresh (I:Inv X pins σ H s):H s.heap.objs.size=none:=I.hok.fresh (Nat.le_refl _)
theorem Inv.lstM (I:Inv X pins σ H s) (hH:H l=some (.lst xs)):xs.length<=sizeLine/\∃(its:List Value) (n:Nat),Vals xs its/\xs.length=its.length/\s.heap.get? l=some { cls:= .type "list",data:= .seq its.toArray n}:=by
 obtain⟨z,its,n,r,e⟩:=I.hok l _ hH
 exact⟨z,its,n,r,r.length,e⟩
theorem Xh {n:Nat} (h:n<=sizeLine):Builtin.List.listTooLong n=false:=by
 unfold Builtin.List.listTooLong
 exact decide_eq_false (by omega)
end
section
variable {X:Cx}
noncomputable def Aad:V->List V->Hp->VK->Prop:=fun x vs H Q=>∃l xs y,x= .ref l/\vs=[y]/\H l=some (.lst xs)/\xs.length<sizeLine/\Q .non (upd H l (.lst (xs++ [y])))
theorem Kz:MtM X "list.append" Aad:=by
 intro pins s σ H x vs v us Q I rx rv h
 obtain⟨l,xs,y,rfl,rfl,hH,hz,q⟩:=h
 cases rx
 obtain⟨u,rfl,ru⟩:=rv.one
 obtain⟨z,its,n,r,hl,e⟩:=I.lstM hH
 refine call_meets F.slot_list_append ⟨_,e,rfl⟩ F.entry_list_append (F.args_list_append_2 _ _) (PySem.list_append l its.toArray n u (by rw [List.size_toArray];omega)) ⟨e,?_⟩
 refine⟨.non,_,I.lset (its':=its++ [u]) hH e (by simp) (r.append (.cons ru .nil)) ?_,rfl,q⟩
 rw [List.length_append,List.length_singleton]
 omega
noncomputable def Afh:V->List V->Hp->VK->Prop:=fun x vs H Q=>∃l xs y,x= .ref l/\vs=[]/\H l=some (.lst xs)/\xs[xs.length-1]? =some y/\Q y (upd H l (.lst xs.dropLast))
theorem Yj:MtM X "list.pop" Afh:=by
 intro pins s σ H x vs v us Q I rx rv h
 obtain⟨l,xs,y,rfl,rfl,hH,hy,q⟩:=h
 cases rx
 have hus:=rv.zero
 subst hus
 obtain⟨z,its,n,r,hl,e⟩:=I.lstM hH
 obtain⟨u,hu,ru⟩:=r.get hy
 have hy':its.toArray[its.toArray.size-1]? =some u:=by
  show its.toArray[its.length-1]? =some u
  rw [<-Array.getElem?_toList,<-hl]
  exact hu
 refine call_meets F.slot_list_pop ⟨_,e,rfl⟩ F.entry_list_pop (F.args_list_pop_1 _) (MeetsSeq.list_pop_last l its.toArray n u hy' (by rw [List.size_toArray];omega)) ⟨e,?_⟩
 refine⟨y,_,I.lset (its':=its.dropLast) hH e ?_ r.dropLast ?_,ru,q⟩
 . show its.toArray.eraseIdxIfInBounds (its.toArray.size-1)=its.dropLast.toArray
   rw [List.size_toArray,List.eraseIdxIfInBounds_toArray,Tj]
 . rw [List.length_dropLast]
   omega
noncomputable def Afg:R2:=fun x y H Q=>∃l b xs zs,x= .ref l/\y= .ref b/\H l=some (.lst xs)/\H b=some (.lst zs)/\xs.length+zs.length<=sizeLine/\∀p,H p=none->Q (.ref p) (upd H p (.lst (xs++zs)))
theorem R3:OpR X (binaryOp .Add) Afg:=by
 intro pins s σ H x y v u Q I rx ry h
 obtain⟨l,b,xs,zs,rfl,rfl,hH,hB,hz,q⟩:=h
 cases rx
 cases ry
 obtain⟨z,its,n,r,hl,e⟩:=I.lstM hH
 obtain⟨z2,its2,n2,r2,hl2,e2⟩:=I.lstM hB
 refine PySem.P.add_list e e2 ?_ (by rw [List.size_toArray,List.size_toArray];omega)
 have ea:its.toArray++its2.toArray=(its++its2).toArray:=by simp
 rw [ea]
 exact⟨.ref _,_,I.lnew (t':=s.toks) (r.append r2) (by rw [List.length_append];omega),rfl,q _ I.fresh⟩
noncomputable def Afi:R2:=fun x y H Q=>∃l k xs,x= .ref l/\y= .int k/\H l=some (.lst xs)/\ -(2^63)<=k/\k<2^63/\xs.length*k.toNat<=sizeLine/\
 ∀p,H p=none->Q (.ref p) (upd H p (.lst (List.replicate k.toNat xs).flatten))
theorem len_rep {α:Type} (xs:List α) (k:Nat):(List.replicate k xs).flatten.length=k*xs.length:=by
 induction k with
 | zero=>simp
 | succ k ih=>rw [List.replicate_succ,List.flatten_cons,List.length_append,ih,Nat.succ_mul,Nat.add_comm]
theorem Ma:OpR X (binaryOp .Mult) Afi:=by
 intro pins s σ H x y v u Q I rx ry h
 obtain⟨l,k,xs,rfl,rfl,hH,h1,h2,hz,q⟩:=h
 cases rx
 obtain⟨t,rfl⟩:=ry
 obtain⟨z,its,n,r,hl,e⟩:=I.lstM hH
 have hlen:its.toArray.size*k.toNat<=sizeLine:=by rw [List.size_toArray,<-hl];exact hz
 have hcap:¬its.toArray.size*k.toNat>(2^63-1)/8:=by
  have:(sizeLine:Nat)<=(2^63-1)/8:=by decide
  omega
 have hfit:¬(!Builtin.List.listFitsIndex k)=true:=by
  rw [fitsIndex_both h1 h2]
  exact Bool.false_ne_true
 have hlong:¬Builtin.List.listTooLong (its.toArray.size*k.toNat)=true:=by
  rw [Xh hlen]
  exact Bool.false_ne_true
 have hnew:List.foldl (fun x1 x2=>x1++x2) #[] (List.replicate (if its.toArray.isEmpty=true then 0 else k.toNat) its.toArray)=(List.replicate k.toNat its).flatten.toArray:=by
  have f0:∀m:Nat,List.foldl (fun x1 x2=>x1++x2) #[] (List.replicate m its.toArray)=(List.replicate m its).flatten.toArray:=fun m=>by
   have:=foldl_rep its m []
   rw [List.nil_append]at this
   exact this
  rw [f0]
  cases its with
  | nil=>simp
  | cons a r'=>rw [if_neg (by simp)]
 refine wpAny_binaryOp_repeat_ref (T:="list") (U:="int") (by decide) ⟨_,e,rfl⟩ (fun s'=>typeIs_int s' k t) noFill_list_mul F.fills_int_mul F.slot_int_rmul repeat_list F.slot_int_index.lookup
  (call_meets F.slot_int_rmul (typeIs_int s k t) F.entry_int_rmul (F.args_int_rmul_2 _ _) (int___rmul___int_list k t l its.toArray n)
    ⟨e,rfl,⟨_,e,rfl⟩,call_meets F.slot_list_mul ⟨_,e,rfl⟩ F.entry_list_mul (F.args_list_mul_2 _ _) (AutoListH.list___mul___list_int_3 l its.toArray n k t hfit hcap hlong) ⟨e,?_⟩⟩)
 rw [hnew]
 exact⟨.ref _,_,I.lnew (t':=s.toks) (r.rep k.toNat) (by rw [len_rep,Nat.mul_comm];exact hz),rfl,q _ I.fresh⟩
end
end L2
namespace Att
open PySem PySem.W PySem.Calls PyProof.Rows
theorem Kw {P:Params}{h:Heap}:∀(ns:List Int) (vs:List Value),WellAll P h vs (ns.map WData.int)->IntsAre vs ns:=by
 intro ns
 induction ns with
 | nil=>
   intro vs w
   rw [List.map_nil]at w
   cases w
   exact .nil
 | cons n ns ih=>
   intro vs w
   rw [List.map_cons]at w
   cases w with
   | cons a b=>
     cases a
     exact .cons _ _ (ih _ b)
theorem Wa {l:OpenLaw}{n:Nat} (hn:l.most=some n) {P:Params}{h:Heap}{args:List WData}{vals:List Value}
 (hpre:l.row.toRowW.claim.pre args=true) (hwl:WellAll P h vals args):
 ∃a vs ns,vals=[Value.ref a]/\args=[WData.list (ns.map WData.int)]/\h.get? a=some { cls:= .type "list",data:= .seq vs.toArray}/\IntsAre vs ns/\ns.length<=n:=by
 have hsh:WShape.hasAll [] args [.list .int]=true:=(pre_splitW hpre).1
 have hc:l.pre.holds [] { args:=args}=true:=(pre_splitW hpre).2
 obtain⟨d,r,rfl,h1,h2⟩:=hasAllW_cons hsh
 obtain rfl:=hasAllW_nil h2
 obtain⟨xs,rfl,h3⟩:=hasW_list h1
 obtain⟨ns,rfl⟩:=items_int h3
 have hlen:ns.length<=n:=by
  unfold OpenLaw.pre at hc
  have h4:(WTm.not (.lt (.lit (.int (n:Int))) (.len (.arg 0)))).holds [] { args:=[.list (ns.map .int)]}=true:=by
   have h4:=(holds_andW hc).1
   rw [hn]at h4
   exact h4
  have h5:=condW_of h4 (w_not (w_lt w_lit (w_len_list (w_arg rfl))))
  rw [List.length_map]at h5
  refine Nat.le_of_not_lt fun q=> ?_
  have q':(n:Int)<((ns.length:Nat):Int):=by omega
  first
   | (rw [decide_eq_true q']at h5;exact absurd h5 (by decide))
   | (simp at h5;omega)
 cases hwl with
 | cons w1 w2=>
   cases w2
   cases w1 with
   | list ho hall=>exact⟨_,_,ns,rfl,rfl,ho,Kw ns _ hall,hlen⟩
theorem V1 (l:OpenLaw) (args:List WData):l.row.toRowW.claim.post args (.bool true) args=true:=
 postW_of (r:=l.row.toRowW) (X:=(true==true))
  (show WShape.has [] (.bool true) .bool=true by first | rfl | decide | simp [WShape.has,WShape.arms,WShape.armsAll])
  (show(WTm.eq .res (.lit (.bool true))).value [] { args:=args,res:=some (.bool true),after:=args}=some (.bool (true==true))from w_eq_bool (w_res rfl) w_lit) rfl
theorem Qf {l:OpenLaw}{n:Nat}{q:Program}{loose:List Str}{XP:(Str->Option Value)->Heap->Prop}{YP:World->Heap->Prop}{d:DefRec}
 (hn:l.most=some n) (hdf:d.params.defaults=[])
 (call:∀(w:World) (s₀ s₁:Shared) (mg mb:Str->Option Value) (fa:Addr) (o:Obj) (pm cd doc:Value) (a:Addr) (vs:List Value) (ns:List Int),
   Ground q loose [] XP w s₀ mg mb s₁.heap->YP w s₁.heap->
   s₁.heap.get? fa=some o->o.data= .func (docDef d.name d.params d.body d.scope pm cd doc)->s₁.heap.CodeRec cd d.name->mg d.name=some (.ref fa)->
   s₁.heap.get? a=some { cls:= .type "list",data:= .seq vs.toArray}->IntsAre vs ns->ns.length<=n->s₁.gens= #[]->
   codeAny (model l.prog w) callerA (.call (.ref fa) ⟨[.ref a],[]⟩) (fun r s'=>r= .ok (.ret (.bool true))/\OldK s₁.heap s'.heap/\s'.os=s₁.os/\AllBare s'.gens) s₁):
 WalkO q loose XP YP l.row.toRowW d [] (fun f vs=>PySem.call f vs):=by
 intro w s₀ s₁ mg mb G Y fa o pm cd doc dV kV ho hd hcd hD hmg hg args vals as hpre hlay hrd hwl hlo
 obtain rfl:dV= .none:=Dflts.none hD hdf
 obtain rfl:kV= .none:=Dflts.noKw hD
 obtain⟨a,vs,ns,rfl,rfl,hobj,hints,hlen⟩:=Wa hn hpre hwl
 refine enter_call (codeAny_mono (call w s₀ s₁ mg mb fa o pm cd doc a vs ns G Y ho (fd_plain hd) hcd hmg hobj hints hlen hg) fun r s' hq=> ?_)
 obtain⟨rfl,h2,h3,h4⟩:=hq
 exact⟨.inl ⟨.bool true,.bool true,[],rfl,fun _=>rfl,.bool true,V1 l _,fun _=>⟨List.Pairwise.nil,fun _ hm=>(nomatch hm)⟩⟩,h2,h3,h4⟩
end Att
namespace L2
open PySem PySem.Spec PyProof.Rows
theorem Pz:∀ {vs:List Value}{ns:List Int},IntsAre vs ns->Vals (ns.map V.int) vs
 | _,_,.nil=> .nil
 | _,_,.cons n t h=> .cons ⟨t,rfl⟩ (Pz h)
noncomputable def Only (H:Hp):Prop:=∀b,H b=none\/∃o xs,H b=some (.frz o (.lst xs))
end L2
/-THE LAST THEOREM (shape;LID,My.*are yours):
 My.Adr:a structure of the addresses that your layer names (classes,functions);My.Txt K t:a structure (Prop) of the equations over K;
 My.txt_mk:{K}{implicit addresses ..} (e1:nsIn K mainGlobals "law"=some (some (.ref f))) (e2:K.lookup f=some ⟨oc,od,.func (fnOf "law" "law" params body scope dV kV doc pm an cdv ct),sl⟩) (e3:codeIn K cdv "law"=true) .. :∃t,My.Txt K t
set_option maxRecDepth 100000 in
set_option maxHeartbeats 0 in
theorem PySem.Challenge.cw_LID_holds : PySem.Challenge.rw_LID.Holds := by
 w_on;o_law;k_head;(case hw=>w_witness2)
 k_fill
 refine L2.walk_of (l:=PySem.Challenge.rw_LID) (n:=63) (k:=40) (x:="script") (CX:=fun w=> ..) (sp:=fun _=>My.sp_law) rfl (by decide) rfl ⟨rfl,by decide,by decide⟩ (fun w h Y=>PySem.W.kIn_of Y) ?F ?S ?C
 case F=>
  intro w mg fa h KX G hmg
  have T:∃t,My.Txt (L2.KOf KX) t:=by
   dsimp only [L2.KOf]                          --K must stand as «<heap const>w.params» for k_is
   refine' My.txt_mk ?e1 ?e2 ?e3 ..
   (case e1=>PySem.W.k_is)                    --in the order:a name->its address->its object->its parts
   (case e2=>PySem.W.k_is)
   ..
  obtain⟨t,T⟩:=T
  have e0:=hmg.symm.trans (PySem.W.mg_of KX G T.law)
  cases e0                                       --fa is the law's own address
  exact⟨_,fun s u=> .of_eq rfl,fun base kb nb=>My.law_fn T kb nb⟩     --if «.of_eq rfl» comes too early:refine' ⟨_,?b,fun base kb nb=>My.law_fn T kb nb⟩;exact fun s u=> .of_eq rfl
 case S=>exact fun w H a ns hl hO hS=> ..
 case C=>exact ..
(the tactic k_is has no namespace:write k_is)-/
namespace L2
open PySem PySem.Spec PyProof.Rows
noncomputable def Ho (s:Stmt):Arguments:=match s with
 | .FunctionDef _ a _ _ _ _ _ _ _ _=>a
 | _=>{ posonlyargs:=[],args:=[],vararg:=none,kwonlyargs:=[],kw_defaults:=[],kwarg:=none,defaults:=[]}
noncomputable def Fo (s:Stmt):List Stmt:=match s with
 | .FunctionDef _ _ b _ _ _ _ _ _ _=>b
 | _=>[]
noncomputable def Ao (s:Stmt):Scope:=match s with
 | .FunctionDef _ _ _ _ _ _ sc _ _ _=>sc
 | _=>{ kind:= .function,names:=[],isGenerator:=false,isCoroutine:=false}
noncomputable abbrev CX0:CXT:=fun _ _ _ _ _ _=>False
noncomputable abbrev E0:XK:=fun _ _ _=>False
theorem Abn {X:Cx}:Passes CX0 X E0:=fun _ _ _ _ _ _ _ h=>h.elim
structure Fun (K:PySem.W.Frag) (x qual:Str) (st:Stmt) (f:Addr) (fd:FuncData):Prop where
 ex:∃(oc:Value) (od:Option Addr) (kV doc pm:Value) (an:Option Addr) (cdv ct:Value) (osl:Array (Option Value)),
  fd=PySem.W.fnOf x qual (Ho st) (Fo st) (Ao st) .none kV doc pm an cdv ct/\K.lookup f=some ⟨oc,od,.func fd,osl⟩/\PySem.W.codeIn K cdv qual=true
 kp:PySem.W.keepIn K (.ref f)=true
section
variable {P:Program}{w:World}{K:PySem.W.Frag}{mg:Str->Option Value}{base:Heap}
theorem Fun.ok {x qual:Str}{st:Stmt}{f:Addr}{fd:FuncData}{N ps:List Str}{k:Nat}{sp:Sp} (F:Fun K x qual st f fd) (S:Bc N ps (Ao st)) (len:∀vs H Q E,sp vs H Q E->vs.length=ps.length)
 (hbody:∀(cdv:Value) (A:Around) (outer:List Env) (s:Shared) (H:Hp) (vs:List V) (Q:VK) (E:XK),Gn k (A.deeper (envOfC qual (Ao st) s.heap.objs.size f cdv))->sp vs H Q E->
   ∃t,PSs (J4 CX0 P w K mg base N qual (Ao st) f cdv A outer s H E).nox (Fo st) t/\t { nx:=fun _ H'=>Q .non H',rt:=Q} (start N vs) H):J1 P w K mg base CX0 (k+1) f fd ps sp:=by
 obtain⟨oc,od,kV,doc,pm,an,cdv,ct,osl,rfl,lk,hcd⟩:=F.ex
 refine Zm lk hcd S len fun A outer s H vs Q E hr hsp=> ?_
 obtain⟨t,h,q⟩:=hbody cdv A outer s H vs Q E hr hsp
 exact⟨t,h.nox,q⟩
theorem Fun.binds {x qual:Str}{st:Stmt}{f:Addr}{fd:FuncData}{ps:List Str} (F:Fun K x qual st f fd)
 (h:∀(kV doc pm:Value) (an:Option Addr) (cdv ct:Value) (us:List Value),us.length=ps.length->bindArgs (PySem.W.fnOf x qual (Ho st) (Fo st) (Ao st) .none kV doc pm an cdv ct) ⟨us,[]⟩=pure (ps.zip us)):Binds K fd ps []:=by
 obtain⟨oc,od,kV,doc,pm,an,cdv,ct,osl,rfl,lk,hcd⟩:=F.ex
 exact .all (h kV doc pm an cdv ct)
theorem Uz {x qual:Str}{st:Stmt}{f:Addr}{oc:Value}{od an:Option Addr}{osl:Array (Option Value)}{kV doc pm cdv ct:Value} (l:K.lookup f=some ⟨oc,od,.func (PySem.W.fnOf x qual (Ho st) (Fo st) (Ao st) .none kV doc pm an cdv ct),osl⟩)
 (c:PySem.W.codeIn K cdv qual=true) (k:PySem.W.keepIn K (.ref f)=true):Fun K x qual st f (PySem.W.fnOf x qual (Ho st) (Fo st) (Ao st) .none kV doc pm an cdv ct):=⟨⟨oc,od,kV,doc,pm,an,cdv,ct,osl,rfl,l,c⟩,k⟩
end
section
variable {X:Cx}
theorem pv (i:Nat) {x:Str}{pos:Pos} (hN:X.N[i]? =some x:=by rfl) (hv:Vis X.env.scope x:=by first | exact Or.inl rfl | exact Or.inr (Or.inl rfl) | exact Or.inr (Or.inr rfl)) (hd:(x==("__debug__":Str))=false:=by decide)
 (hcd:(x==("__classdict__":Str))=false:=by decide):PE X (.Name x pos) (Y7 i):=Abt hN hv hd hcd
end
noncomputable def Same (H H':Hp):Prop:=∀b o,H b=some o->H' b=some o
theorem Same.refl (H:Hp):Same H H:=fun _ _ h=>h
theorem Same.trans {H H1 H2:Hp} (a:Same H H1) (b:Same H1 H2):Same H H2:=fun c o h=>b c o (a c o h)
theorem Same.free {H H':Hp} (e:Same H H') {l:Addr} (h:H' l=Option.none):H l=Option.none:=by
 cases q:H l with
 | none=>rfl
 | some o=>
   rw [e l o q]at h
   cases h
theorem Same.seq {K:PySem.W.Frag}{H H':Hp}{a:Addr}{xs:List V} (e:Same H H') (h:SqL K H a xs):SqL K H' a xs:=by
 rcases h with(h | ⟨o,h⟩) | h
 . exact .inl (.inl (e _ _ h))
 . exact .inl (.inr ⟨o,e _ _ h⟩)
 . exact .inr h
end L2
namespace L2
open PySem PySem.Spec PyProof.Rows
noncomputable def Cal (P:Program) (w:World) (K:PySem.W.Frag) (mg:Str->Option Value) (base:Heap) (k:Nat) (x:Str) (ps:List Str) (sp:Sp):Prop:=
 ∃f fd,J1 P w K mg base CX0 k f fd ps sp/\mg x=some (.ref f)/\PySem.W.keepIn K (.ref f)=true/\Binds K fd ps []
structure Df (K:PySem.W.Frag) (mg:Str->Option Value) (x:Str) (st:Stmt) (ps:List Str) (f:Addr) (fd:FuncData):Prop where
 fn:Fun K x x st f fd
 bd:Binds K fd ps []
 at':mg x=some (.ref f)
theorem Df.cal {P:Program}{w:World}{K:PySem.W.Frag}{mg:Str->Option Value}{base:Heap}{k:Nat}{x:Str}{st:Stmt}{ps:List Str}{f:Addr}{fd:FuncData}{sp:Sp}
 (F:Df K mg x st ps f fd) (G:J1 P w K mg base CX0 k f fd ps sp):Cal P w K mg base k x ps sp:=⟨f,fd,G,F.at',F.fn.kp,F.bd⟩
theorem Cal.imp {P:Program}{w:World}{K:PySem.W.Frag}{mg:Str->Option Value}{base:Heap}{k:Nat}{x:Str}{ps:List Str}{sp sp':Sp}
 (C:Cal P w K mg base k x ps sp) (h:∀vs H Q E,sp' vs H Q E->sp vs H Q E):Cal P w K mg base k x ps sp':=by
 obtain⟨f,fd,G,a,b,c⟩:=C
 exact⟨f,fd,G.imp h,a,b,c⟩
theorem Nb {X:Cx}{k:Nat}{x:Str}{ps:List Str}{sp:Sp}{p pos:Pos}{e:Expr}{es:List Expr}{t:TA}
 (C:Cal X.prog X.w X.K X.mg X.base k x ps sp) (hr:Gn k X.A) (ha:PA X (e::es) t) (hg:Gl X x:=by rfl) (hdb:(x==("__debug__":Str))=false:=by decide)
 (he:starEach (e::es) X.env=(false,eval e X.env)::starEach es X.env:=by rfl) (hpl:(backTo pos (starEach es X.env)).any (·.1)=false:=by rfl):
 PE X (.Call (.Name x p) (e::es) [] pos) (Nq sp [] E0 t):=by
 obtain⟨f,fd,G,a,b,c⟩:=C
 exact Vu G hr hg a b c .nil Abn ha hdb he hpl
noncomputable def Sz (n:Nat) (a:Int):Prop:=a.natAbs<2^n
theorem Sz.mono {m n:Nat}{a:Int} (h:Sz m a) (l:m<=n):Sz n a:=Nat.lt_of_lt_of_le h (Nat.pow_le_pow_right (by decide) l)
theorem Sz.mul {m n:Nat}{a b:Int} (h:Sz m a) (g:Sz n b):Sz (m+n) (a*b):=by
 unfold Sz at*
 rw [Int.natAbs_mul,Nat.pow_add]
 exact Nat.mul_lt_mul'' h g
theorem Sz.add {m n:Nat}{a b:Int} (h:Sz m a) (g:Sz n b):Sz (max m n+1) (a+b):=by
 have h1:Sz (max m n) a:=h.mono (Nat.le_max_left _ _)
 have h2:Sz (max m n) b:=g.mono (Nat.le_max_right _ _)
 unfold Sz at*
 have:=Int.natAbs_add_le a b
 rw [Nat.pow_succ]
 omega
theorem Sz.neg {n:Nat}{a:Int} (h:Sz n a):Sz n (-a):=by
 unfold Sz at*
 rw [Int.natAbs_neg]
 exact h
theorem Sz.sub {m n:Nat}{a b:Int} (h:Sz m a) (g:Sz n b):Sz (max m n+1) (a-b):=by
 rw [Int.sub_eq_add_neg]
 exact h.add g.neg
theorem Sz.of_abs {n:Nat}{a b:Int} (h:Sz n b) (l:a.natAbs<=b.natAbs):Sz n a:=Nat.lt_of_le_of_lt l h
theorem Sz.mulOk {m n:Nat}{a b:Int} (h:Sz m a) (g:Sz n b) (l:m+n<=134217728):IntMulOk a b:=
 IntMulOk.of_le (PySem.intBits_le_iff.mpr h) (PySem.intBits_le_iff.mpr g) l
theorem Sz.log2 {n:Nat}{a:Int} (h:Sz n a) (h0:a≠0) (l:n<=9000):a.natAbs.log2<9000:=
 Nat.lt_of_lt_of_le ((Nat.log2_lt (by omega)).mpr h) l
section
variable {X:Cx}{a b:Expr}{ta tb:TE}{pos:Pos}
theorem Cj:OpR X (binaryOp .Mult) (rI IntMulOk fun i j=> .int (i*j)):=opI fun _ _ _ _ _ _ _ hc q=>mul_int q hc
end
mutual
inductive RdD (K:PySem.W.Frag) (H:Hp):V->PyData->Prop where
 | non:RdD K H .non .none
 | bl (b:Bool):RdD K H (.bl b) (.bool b)
 | int (i:Int):RdD K H (.int i) (.int i)
 | str (x:Str):RdD K H (.str x) (.str x)
 | tup {a:Addr}{xs:List V}{ds:List PyData}:SqT K H a xs->S9 K H xs ds->RdD K H (.ref a) (.tuple ds)
 | lst {a:Addr}{xs:List V}{ds:List PyData}:SqL K H a xs->S9 K H xs ds->RdD K H (.ref a) (.list ds)
inductive S9 (K:PySem.W.Frag) (H:Hp):List V->List PyData->Prop where
 | nil:S9 K H [] []
 | cons {x:V}{d:PyData}{xs:List V}{ds:List PyData}:RdD K H x d->S9 K H xs ds->S9 K H (x::xs) (d::ds)
end
section
variable {X:Cx}{pins:List (Addr × Obj)}{σ:St}{H:Hp}{s:Shared}
mutual
theorem RdD.reads (I:Inv X pins σ H s):∀ {x:V}{d:PyData}{u:Value},RdD X.K H x d->RelV x u->∃as,Reads s.heap u d as
 | _,_,_,.non,r=>by cases r;exact⟨_,.none⟩
 | _,_,_,.bl b,r=>by cases r;exact⟨_,.bool b⟩
 | _,_,_,.int i,r=>by obtain⟨t,rfl⟩:=r;exact⟨_,.int i t⟩
 | _,_,_,.str x,r=>by obtain⟨t,rfl⟩:=r;exact⟨_,.str x t⟩
 | _,_,_,.tup hq hr,r=>by
   cases r
   obtain⟨its,rv,pl,hz⟩:=I.tuple hq
   obtain⟨as,q⟩:=S9.reads I hr rv
   obtain⟨o,ho,hc,n,hd⟩:=pl
   exact⟨_,.tuple ho hc hd (by simpa using q)⟩
 | _,_,_,.lst hq hr,r=>by
   cases r
   obtain⟨its,rv,pl,hz⟩:=I.list hq
   obtain⟨as,q⟩:=S9.reads I hr rv
   obtain⟨o,ho,hc,n,hd⟩:=pl.isList
   exact⟨_,.list ho hc hd (by simpa using q)⟩
theorem S9.reads (I:Inv X pins σ H s):∀ {xs:List V}{ds:List PyData}{us:List Value},S9 X.K H xs ds->Vals xs us->∃as,ReadsAll s.heap us ds as
 | _,_,_,.nil,r=>by cases r;exact⟨_,.nil⟩
 | _,_,_,.cons h t,r=>by
   cases r with
   | cons r1 r2=>
     obtain⟨as,q⟩:=RdD.reads I h r1
     obtain⟨bs,p⟩:=S9.reads I t r2
     exact⟨_,.cons q p⟩
end
end
theorem S9.ints {K:PySem.W.Frag}{H:Hp}:∀ns:List Int,S9 K H (ns.map V.int) (ns.map PyData.int)
 | []=> .nil
 | n::r=> .cons (.int n) (S9.ints r)
theorem RdD.ints {K:PySem.W.Frag}{H:Hp}{a:Addr}{ns:List Int} (h:SqT K H a (ns.map V.int)):RdD K H (.ref a) (.tuple (ns.map PyData.int)):= .tup h (.ints ns)
theorem RdD.lints {K:PySem.W.Frag}{H:Hp}{a:Addr}{ns:List Int} (h:SqL K H a (ns.map V.int)):RdD K H (.ref a) (.list (ns.map PyData.int)):= .lst h (.ints ns)
theorem Iu:∀ns ms:List Int,PyData.eqvAll (ns.map PyData.int) (ms.map PyData.int)=decide (ns=ms)
 | [],[]=>by simp [PyData.eqvAll]
 | [],_::_=>by simp [PyData.eqvAll]
 | _::_,[]=>by simp [PyData.eqvAll]
 | a::r,b::t=>by
   simp only [List.map_cons,PyData.eqvAll,PyData.eqv,Iu r t]
   by_cases h:a=b<;>by_cases h':r=t<;>simp [h,h']
theorem shaped_ints (ns:List Int):SeqAt.shaped (.tuple (ns.map PyData.int))=true:=by
 simp [SeqAt.shaped,PyData.canLay0,PyData.depth,PySem.W.ke_canLayAll0,PySem.W.ke_depthAll]
section
variable {X:Cx}
noncomputable def Ac5 (K:PySem.W.Frag) (f:Bool->Bool):R2:=fun x y H Q=>∃d e,RdD K H x d/\RdD K H y e/\SeqAt.shaped d=true/\SeqAt.shaped e=true/\Q (.bl (f (PyData.eqv d e))) H
theorem Abm (hu:X.A.units+64<cLine):OpR X (compareOp .Eq) (Ac5 X.K fun b=>b):=by
 intro pins s σ H x y v u Q I rx ry h
 obtain⟨d,e,hd,he,s1,s2,q⟩:=h
 obtain⟨as,r1⟩:=RdD.reads I hd rx
 obtain⟨bs,r2⟩:=RdD.reads I he ry
 exact eq_dataH r1 r2 s1 s2 hu ⟨.bl _,H,I,rfl,q⟩
theorem Vr (hu:X.A.units+64<cLine):OpR X (compareOp .NotEq) (Ac5 X.K fun b=> !b):=by
 intro pins s σ H x y v u Q I rx ry h
 obtain⟨d,e,hd,he,s1,s2,q⟩:=h
 obtain⟨as,r1⟩:=RdD.reads I hd rx
 obtain⟨bs,r2⟩:=RdD.reads I he ry
 exact ne_dataH r1 r2 s1 s2 hu ⟨.bl _,H,I,rfl,q⟩
noncomputable def Ady (K:PySem.W.Frag) (f:Bool->Bool):R2:=fun x y H Q=>∃(a b:Addr) (ns ms:List Int),x= .ref a/\y= .ref b/\SqT K H a (ns.map V.int)/\SqT K H b (ms.map V.int)/\Q (.bl (f (decide (ns=ms)))) H
theorem Fv (hu:X.A.units+64<cLine):OpR X (compareOp .Eq) (Ady X.K fun b=>b):=by
 intro pins s σ H x y v u Q I rx ry h
 obtain⟨a,b,ns,ms,rfl,rfl,ha,hb,q⟩:=h
 exact Abm hu pins s σ H _ _ v u Q I rx ry ⟨_,_,.ints ha,.ints hb,shaped_ints _,shaped_ints _,by rw [PyData.eqv,Iu];exact q⟩
theorem Lz (hu:X.A.units+64<cLine):OpR X (compareOp .NotEq) (Ady X.K fun b=> !b):=by
 intro pins s σ H x y v u Q I rx ry h
 obtain⟨a,b,ns,ms,rfl,rfl,ha,hb,q⟩:=h
 exact Vr hu pins s σ H _ _ v u Q I rx ry ⟨_,_,.ints ha,.ints hb,shaped_ints _,shaped_ints _,by rw [PyData.eqv,Iu];exact q⟩
theorem W0:Gm X (.builtin "isinstance") (fun xs H Q=>∃x t T b,xs=[x,.ty T]/\Rk X.K H x t/\PySem.W.kitOne X.K t (.type T)=some b/\Q (.bl b) H):=by
 intro pins s σ H xs us Q I r h
 obtain⟨x,t,T,b,rfl,ht,hk,q⟩:=h
 obtain⟨u,c,rfl,ru,rc⟩:=vals2 r
 cases rc
 exact U7 I ru ht hk fun tk=>⟨.bl b,H,I.tok tk,rfl,q⟩
end
theorem Same.tup {K:PySem.W.Frag}{H H':Hp}{a:Addr}{xs:List V} (e:Same H H') (h:SqT K H a xs):SqT K H' a xs:=by
 rcases h with(h | ⟨o,h⟩) | h
 . exact .inl (.inl (e _ _ h))
 . exact .inl (.inr ⟨o,e _ _ h⟩)
 . exact .inr h
theorem Same.upd {H:Hp}{p:Addr} (h:H p=none) (o:HO):Same H (upd H p o):=fun b u q=>by
 rw [Bb (Bj q h)]
 exact q
end L2
namespace L2
open PySem PySem.Spec PyProof.Rows
section
variable {X:Cx}{K:PySem.W.Frag}{σ:St}{H:Hp}{Q:VK}{D:Ends}{B:Bool->Hp->Prop}
theorem Wo {t u:TS}:Ac7 t u D σ H=t { D with nx:=u D} σ H:=rfl
theorem Aco:Aaj D σ H=D.nx σ H:=rfl
theorem Ael {c:TT}{t u:TS}:Ad2 c t u D σ H=c σ H (fun b H1=>if b=true then t D σ H1 else u D σ H1):=rfl
theorem Aex {te:TE}:Ad7 te D σ H=te σ H D.rt:=rfl
theorem Acf {te:TE}:Aai te D σ H=te σ H (fun _ H1=>D.nx σ H1):=rfl
theorem Aea {te:TE}{g:TG}:Xu te g D σ H=te σ H (fun x H1=>g x σ H1 D.nx):=rfl
theorem Ra {i:Nat}{v:V}{R:St->Hp->Prop}:Ig i v σ H R=R (σ.set i (some v)) H:=rfl
theorem Aev {i j:Nat}{ta:TA}:Ad6 i j ta D σ H=ta σ H (fun vs H1=>∃v w,vs=[v,w]/\D.nx ((σ.set i (some v)).set j (some w)) H1):=rfl
theorem Acw {v:V}{r:St}:Y7 0 (some v::r) H Q=Q v H:=propext ⟨fun⟨_,e,h⟩=>by cases e;exact h,fun h=>⟨v,rfl,h⟩⟩
theorem Acx {i:Nat}{o:Option V}{r:St}:Y7 (i+1) (o::r) H Q=Y7 i r H Q:=rfl
theorem z_c {v:V}:tC v σ H Q=Q v H:=rfl
theorem Afn {r:R2}{ta tb:TE}:tOp r ta tb σ H Q=ta σ H (fun x H1=>tb σ H1 fun y H2=>r x y H2 Q):=rfl
theorem Aft {r:V->Hp->VK->Prop}{ta:TE}:tUn r ta σ H Q=ta σ H (fun x H1=>r x H1 Q):=rfl
theorem Afp {C:Int->Int->Prop}{g:Int->Int->V}{i j:Int}:rI C g (.int i) (.int j) H Q=(C i j/\Q (g i j) H):=
 propext ⟨fun⟨_,_,e,f,h⟩=>by cases e;cases f;exact h,fun h=>⟨i,j,rfl,rfl,h⟩⟩
theorem Aew {g:Int->Int->V}{i j:Int}:rI0 g (.int i) (.int j) H Q=Q (g i j) H:=
 propext ⟨fun⟨_,_,e,f,h⟩=>by cases e;cases f;exact h,fun h=>⟨i,j,rfl,rfl,h⟩⟩
theorem Afq {g:Int->V}{i:Int}:rU g (.int i) H Q=Q (g i) H:=propext ⟨fun⟨_,e,h⟩=>by cases e;exact h,fun h=>⟨i,rfl,h⟩⟩
theorem Aee {i j:Int}:rEq (.int i) (.int j) H Q=Q (.bl (decide (i=j))) H:=by
 unfold rEq
 simp only [Yz,V.int.injEq,true_and]
theorem Aer {i j:Int}:rNe (.int i) (.int j) H Q=Q (.bl (!decide (i=j))) H:=by
 unfold rNe
 simp only [Yz,V.int.injEq,true_and]
theorem Aed {i j:Bool}:rEq (.bl i) (.bl j) H Q=Q (.bl (decide (i=j))) H:=by
 unfold rEq
 simp only [Yz,V.bl.injEq,true_and]
theorem Aeq {i j:Bool}:rNe (.bl i) (.bl j) H Q=Q (.bl (!decide (i=j))) H:=by
 unfold rNe
 simp only [Yz,V.bl.injEq,true_and]
theorem Acu {t:TE}:Aal t σ H B=t σ H (fun x H'=>∃k,x= .bl k/\B k H'):=rfl
theorem Afs {t:TE}:tB t σ H B=t σ H (fun x H'=>∃k,x= .bl k/\B k H'):=rfl
theorem Aeg {b:Bool}{p:Bool->Prop}:(∃k,V.bl b= .bl k/\p k)=p b:=propext ⟨fun⟨_,e,h⟩=>by cases e;exact h,fun h=>⟨b,rfl,h⟩⟩
theorem Aei {b:Int}{p:Int->Prop}:(∃k,V.int b= .int k/\p k)=p b:=propext ⟨fun⟨_,e,h⟩=>by cases e;exact h,fun h=>⟨b,rfl,h⟩⟩
theorem Aef {a b:V}{p:V->V->Prop}:(∃v w,[a,b]=[v,w]/\p v w)=p a b:=propext ⟨fun⟨_,_,e,h⟩=>by cases e;exact h,fun h=>⟨a,b,rfl,h⟩⟩
theorem Acg {b:Int}{p:Int->Prop}:(∃k,[V.int b]=[.int k]/\p k)=p b:=propext ⟨fun⟨_,e,h⟩=>by cases e;exact h,fun h=>⟨b,rfl,h⟩⟩
theorem Ach {a b:Int}{p:Int->Int->Prop}:(∃i j,[V.int a,V.int b]=[.int i,.int j]/\p i j)=p a b:=propext ⟨fun⟨_,_,e,h⟩=>by cases e;exact h,fun h=>⟨a,b,rfl,h⟩⟩
theorem Aeu {t:TT}:Ad5 t σ H B=t σ H (fun c H1=>B (!c) H1):=rfl
theorem Ad9 {t u:TT}:Adz t u σ H B=t σ H (fun c H1=>if c=true then u σ H1 B else B false H1):=rfl
theorem Afo {t u:TT}:tOr t u σ H B=t σ H (fun c H1=>if c=true then B true H1 else u σ H1 B):=rfl
theorem Ab9 {ta tb:TE}:Aah ta tb σ H Q=ta σ H (fun x H1=>∃c,x= .bl c/\if c=true then tb σ H1 Q else Q (.bl false) H1):=rfl
theorem Aca {sp:Sp}{dvs:List V}{E:XK}{t:TA}:Nq sp dvs E t σ H Q=t σ H (fun vs H1=>sp (vs++dvs) H1 Q E):=rfl
theorem Aet {R:List V->Hp->Prop}:Ad4 σ H R=R [] H:=rfl
theorem Acd {te:TE}{t:TA}{R:List V->Hp->Prop}:Wd te t σ H R=te σ H (fun x H1=>t σ H1 fun xs H2=>R (x::xs) H2):=rfl
theorem Afk {r:List V->Hp->VK->Prop}{t:TA}:tCB r t σ H Q=t σ H (fun vs H1=>r vs H1 Q):=rfl
theorem Aey {t:TA}:Ad8 t σ H Q=t σ H (fun xs H1=>xs.length<=sizeLine/\∀p,H1 p=none->Q (.ref p) (upd H1 p (.tup xs))):=rfl
theorem Aep {t:TA}:Ad3 t σ H Q=t σ H (fun xs H1=>xs.length<=sizeLine/\∀p,H1 p=none->Q (.ref p) (upd H1 p (.lst xs))):=rfl
theorem Gk {a:Addr}{xs:List V}{i:Int}{v:V} (h:SqT K H a xs) (e:atI xs i=some v) (q:Q v H):Ae9 K (.ref a) (.int i) H Q:=⟨a,xs,i,v,rfl,rfl,h,e,q⟩
theorem Nx {a:Addr}{xs:List V}{i:Int}{v:V} (h:SqL K H a xs) (e:atI xs i=some v) (q:Q v H):Ab1 K (.ref a) (.int i) H Q:=⟨a,xs,i,v,rfl,rfl,h,e,q⟩
end
noncomputable def Aau (_ j:Int):Prop:=0<j/\j.natAbs.log2<9000
theorem Eb {X:Cx}:OpR X (binaryOp .FloorDiv) (rI Aau fun i j=> .int (i/j)):=opI fun i j _ _ _ _ _ hc q=>by
 have h:j≠0:=by have:=hc.1;omega
 refine floordiv_int h ?_ (.inl (PyProof.noPylong_of_log2 hc.2))
 rw [Int.fdiv_eq_ediv_of_nonneg _ (Int.le_of_lt hc.1)]
 exact q
theorem Ab3:(1:Nat)<=sizeLine:=by decide
theorem Ab4:(2:Nat)<=sizeLine:=by decide
end L2
namespace L2
open PySem PySem.Spec PyProof.Rows
noncomputable def clF (env:Env) (cs:List (Str × Addr)) (x:Str × NameKind):List (Str × Addr):=if x.2== .free then(x.1,(env.cells.lookup x.1).getD 0)::cs else cs
theorem Je {scope:Scope}{env:Env} (h:∀x∈scope.names,x.2= .free->∃c,env.cells.lookup x.1=some c):closureFor scope env=pure (scope.names.foldl (clF env) []):=by
 unfold closureFor
 have key:∀(names:List (Str × NameKind)) (init:List (Str × Addr)),(∀x∈names,x.2= .free->∃c,env.cells.lookup x.1=some c)->
  (forIn names init (fun(x:Str × NameKind) (cs:List (Str × Addr))=>(if x.2== .free then(do let c<-cellOf env x.1;pure (ForInStep.yield ((x.1,c)::cs)))else pure (ForInStep.yield cs):Sem (ForInStep (List (Str × Addr))))))=(pure (names.foldl (clF env) init):Sem (List (Str × Addr))):=by
  intro names
  induction names with
  | nil=>intro init _;rfl
  | cons x r ih=>
    intro init hx
    rw [List.forIn_cons,List.foldl_cons]
    by_cases hf:x.2= .free
    . obtain⟨c,hc⟩:=hx x List.mem_cons_self hf
      have e1:cellOf env x.1=pure c:=by unfold cellOf;rw [hc]
      have e2:clF env init x=(x.1,c)::init:=by unfold clF;rw [hf,hc];rfl
      rw [e2,<-ih _ fun y hy=>hx y (List.mem_cons_of_mem _ hy)]
      rw [hf,e1]
      rfl
    . have e0:(x.2==NameKind.free)=false:=by simpa using hf
      have e2:clF env init x=init:=by unfold clF;rw [e0];rfl
      rw [e2,<-ih _ fun y hy=>hx y (List.mem_cons_of_mem _ hy),e0]
      rfl
 exact(congrArg (fun m=>m>>=fun r=>pure r) (key scope.names [] h)).trans (by rfl)
theorem J3 {env:Env}:∀(names:List (Str × NameKind)) (init:List (Str × Addr)) (y:Str) (c:Addr),(∀x∈names,x.2= .free->∃c,env.cells.lookup x.1=some c)->(names.foldl (clF env) init).lookup y=some c->init.lookup y=some c\/env.cells.lookup y=some c
 | [],_,_,_,_,h=> .inl h
 | x::r,init,y,c,hx,h=>by
   rw [List.foldl_cons]at h
   rcases J3 r _ y c (fun z hz=>hx z (List.mem_cons_of_mem _ hz)) h with h1 | h1
   . unfold clF at h1
     by_cases hf:x.2= .free
     . obtain⟨d,hd⟩:=hx x List.mem_cons_self hf
       rw [hf,hd]at h1
       change List.lookup y ((x.1,d)::init)=some c at h1
       rw [List.lookup_cons]at h1
       cases hy:y==x.1 with
       | true=>
         rw [hy]at h1
         have:y=x.1:=by simpa using hy
         subst this
         exact .inr (hd.trans h1)
       | false=>
         rw [hy]at h1
         exact .inl h1
     . have e0:(x.2==NameKind.free)=false:=by simpa using hf
       rw [e0]at h1
       exact .inl h1
   . exact .inr h1
theorem Mt {env:Env}:∀(names:List (Str × NameKind)) (init:List (Str × Addr)) (y:Str),((∃x∈names,x.2= .free/\x.1=y)\/∃c,init.lookup y=some c)->∃c,(names.foldl (clF env) init).lookup y=some c
 | [],_,_,h=>by
   rcases h with⟨_,h,_⟩ | h
   . cases h
   . exact h
 | x::r,init,y,h=>by
   rw [List.foldl_cons]
   apply Mt r
   rcases h with⟨z,hz,hf,rfl⟩ | ⟨c,hc⟩
   . rcases List.mem_cons.mp hz with rfl | hz
     . refine .inr ⟨(env.cells.lookup z.1).getD 0,?_⟩
       unfold clF
       rw [hf]
       show List.lookup z.1 ((z.1,_)::init)=_
       rw [List.lookup_cons]
       simp
     . exact .inl ⟨z,hz,hf,rfl⟩
   . refine .inr ?_
     unfold clF
     by_cases hf:x.2= .free
     . rw [hf]
       show ∃c,List.lookup y ((x.1,_)::init)=some c
       rw [List.lookup_cons]
       cases y==x.1 with
       | true=>exact⟨_,rfl⟩
       | false=>exact⟨c,hc⟩
     . have e0:(x.2==NameKind.free)=false:=by simpa using hf
       rw [e0]
       exact⟨c,hc⟩
theorem Oo {prog:Program}{w:World}{A:Around}{R:Result->Shared->Prop}{s:Shared}{elt target iter:Expr}{ifs:List Expr}{scope:Scope}{pos:Pos}{it acc:Value}{env:Env} (I:Nat->Shared->Prop)
 (turn:∀n s,I n s->wpAny (model prog w) A (pyNext it) (fun r s₁=>match r with
   | none=>R (.ok .next) s₁
   | some v=>wpAny (model prog w) A (letOwnedTupleGo target it v) (fun _ s₀=>wpAny (model prog w) A (assign target env v) (fun _ s₂=>
      wpAny (model prog w) A (forIn ifs true fun c r=>if r=true then do let ok<-isTrue c env (eval c env);pure (ForInStep.yield ok)else pure (ForInStep.yield r)) (fun ok s₃=>
       if ok=true then wpAny (model prog w) A (eval elt env) (fun x s₄=>
        wpAny (model prog w) A (call (.builtin "list.append") [acc,x]) (fun _ s₅=>∃m,m<n/\I m s₅) (fun _ _=>False) s₄) (fun _ _=>False) s₃
       else ∃m,m<n/\I m s₃) (fun _ _=>False) s₂) (fun _ _=>False) s₀) (fun _ _=>False) s₁) (fun _ _=>False) s)
 (n:Nat) (h:I n s):
 codeAny (model prog w) A (.compLoop (.ListComp elt [⟨target,iter,ifs,0⟩] scope pos) 0 it acc env) R s:=by
 have no:∀(x:Value) (s':Shared),False->notedBy (model prog w) A env (fun e s'=>R (.error e) s') x s':=fun _ _ z=>z.elim
 refine codeAny_loop rfl I (fun n s hI=> ?_) n h
 show wpAny _ A ((compTurn (.ListComp elt [⟨target,iter,ifs,0⟩] scope pos) 0 it acc env).onRaise (fun x=>do noteFrame x env;theTreesLotGoes x)) _ _ s
 refine wpAny_noted ?_
 rw [compTurn_list]
 refine wpAny_bind (wpAny_standAt (wpAny_bind (wpAny_mono (turn n s hI) (fun r s₁ h₁=> ?_) no)))
 cases r with
 | none=>exact wpAny_pure h₁
 | some v=>
   refine wpAny_bind (wpAny_mono h₁ (fun _ s₀ h₀=> ?_) no)
   refine wpAny_bind (wpAny_mono h₀ (fun _ s₂ h₂=>wpAny_bind (wpAny_mono h₂ (fun ok s₃ h₃=> ?_) no)) no)
   cases ok with
   | false=>exact wpAny_pure ⟨rfl,h₃⟩
   | true=>
     exact wpAny_bind (wpAny_bind (wpAny_mono h₃ (fun x s₄ h₄=>wpAny_bind (wpAny_mono h₄ (fun _ s₅ h₅=>wpAny_pure (wpAny_pure ⟨rfl,h₅⟩)) no)) no))
noncomputable def cxC (X:Cx) (N:List Str) (scope:Scope) (ex:List Addr) (s:Shared) (H:Hp):Cx where
 prog:=X.prog
 w:=X.w
 K:=X.K
 mg:=X.mg
 base:=X.base
 A:=X.A
 N:=N
 s₀:=s
 H₀:=H
 env:=compEnvC scope (scope.names.foldl (clF X.env) []) s.heap.objs.size X.env
 outer:=X.stack
 stack:=X.stack
 ex:=ex
 fn:=fun _=>false
 calm:=X.calm
 pn:=[]
 xe:=fun _ _=>False
structure Di (X:Cx) (ts:List Str) (fs:List (Nat × Str)) (scope:Scope):Prop where
 kind:scope.kind= .function
 cell:∀y∈scope.names,y.2≠ .cell
 names:∀y∈scope.names,y.2= .local ->scope.names.lookup y.1=some .local
 free:∀y∈scope.names,y.2= .free->X.env.kindOf y.1=some .cell\/X.env.kindOf y.1=some .free
 at':∀p∈fs,X.N[p.1]? =some p.2/\(p.2,NameKind.free)∈scope.names/\((relabel scope X.env).names.lookup p.2=some .cell\/(relabel scope X.env).names.lookup p.2=some .free)
noncomputable def rlb (sc scope:Scope):List (Str × NameKind):=scope.names.map fun(n,k)=>if(k==NameKind.free&&sc.kind== .function&&sc.names.lookup n==some .cell)then(n,NameKind.cell)else(n,k)
noncomputable def Ae7 (sc:Scope) (N:List Str) (fs:List (Nat × Str)) (scope:Scope):Bool:=
 (scope.kind== .function)&&(scope.names.all fun y=>y.2 != .cell)&&(scope.names.all fun y=>y.2 != .local ||scope.names.lookup y.1==some .local)&&
 (scope.names.all fun y=>y.2 != .free||(sc.names.lookup y.1==some .cell||sc.names.lookup y.1==some .free))&&
 fs.all fun p=>N[p.1]? ==some p.2&&(scope.names.contains (p.2,NameKind.free)&&((rlb sc scope).lookup p.2==some .cell||(rlb sc scope).lookup p.2==some .free))
theorem Di.of {X:Cx}{ts:List Str}{fs:List (Nat × Str)}{scope sc:Scope}{N:List Str} (e1:X.env.scope=sc) (e2:X.N=N) (h:Ae7 sc N fs scope=true):Di X ts fs scope:=by
 unfold Ae7 at h
 simp only [Bool.and_eq_true,List.all_eq_true,Bool.or_eq_true,bne_iff_ne,beq_iff_eq,List.contains_iff_mem]at h
 obtain⟨⟨⟨⟨h1,h2⟩,h3⟩,h4⟩,h5⟩:=h
 refine⟨h1,h2,fun y hy e=> ?_,fun y hy e=> ?_,fun p hp=> ?_⟩
 . rcases h3 y hy with z | z
   . exact absurd e z
   . exact z
 . rcases h4 y hy with z | z
   . exact absurd e z
   . show X.env.scope.names.lookup y.1=_\/X.env.scope.names.lookup y.1=_
     rw [e1]
     exact z
 . obtain⟨a,b,c⟩:=h5 p hp
   refine⟨by rw [e2];exact a,b,?_⟩
   subst e1
   exact c
noncomputable def cpN (ts:List Str) (fs:List (Nat × Str)):List Str:=ts++fs.map (·.2)
noncomputable def cpσ (n:Nat) (fs:List (Nat × Str)) (σ:St):St:=List.replicate n none++fs.map fun p=>(σ[p.1]?).join
theorem Hr {env:Env}{x:Str}{k':NameKind}:∀ {names:List (Str × NameKind)},(names.map fun(n,k)=>if(k==NameKind.free&&env.scope.kind== .function&&env.kindOf n==some .cell)then(n,NameKind.cell)else(n,k)).lookup x=some k'->
 ∃k,(x,k)∈names/\(k'=k\/(k= .free/\k'= .cell))
 | [],h=>by simp at h
 | (n,k)::r,h=>by
   rw [List.map_cons]at h
   dsimp only at h
   by_cases hc:(k==NameKind.free&&env.scope.kind== .function&&env.kindOf n==some .cell)=true
   . rw [if_pos hc,List.lookup_cons]at h
     cases hx:x==n with
     | true=>
       rw [hx]at h
       have e:x=n:=by simpa using hx
       subst e
       have hk:k= .free:=by
        rw [Bool.and_eq_true,Bool.and_eq_true]at hc
        simpa using hc.1.1
       exact⟨k,List.mem_cons_self,.inr ⟨hk,(Option.some.inj h).symm⟩⟩
     | false=>
       rw [hx]at h
       obtain⟨k2,h1,h2⟩:=Hr h
       exact⟨k2,List.mem_cons_of_mem _ h1,h2⟩
   . rw [if_neg hc,List.lookup_cons]at h
     cases hx:x==n with
     | true=>
       rw [hx]at h
       have e:x=n:=by simpa using hx
       subst e
       exact⟨k,List.mem_cons_self,.inl (Option.some.inj h).symm⟩
     | false=>
       rw [hx]at h
       obtain⟨k2,h1,h2⟩:=Hr h
       exact⟨k2,List.mem_cons_of_mem _ h1,h2⟩
noncomputable def PTs (X:Cx) (ifs:List Expr) (t:TT):Prop:=
 ∀(pins:List (Addr × Obj)) (s:Shared) (σ:St) (H:Hp) (B:Bool->Hp->Prop),Inv X pins σ H s->t σ H B->
   wpAny (model X.prog X.w) X.A (forIn ifs true fun c r=>if r=true then do let ok<-isTrue c X.env (eval c X.env);pure (ForInStep.yield ok)else pure (ForInStep.yield r)) (TP X pins σ B) X.xe s
noncomputable def Xv:TT:=fun _ H B=>B true H
theorem Aab {X:Cx}:PTs X [] Xv:=fun _ _ _ H _ I h=>wpAny_pure ⟨H,I,h⟩
noncomputable def Kp (σ σ':St):Prop:=σ'.length=σ.length/\∀(i:Nat) v,σ[i]? =some (some v)->σ'[i]? =some (some v)
noncomputable def cIn (J:It) (cσ:St) (g:TG) (tt:TT) (te:TE) (Q:VK) (H1:Hp) (p:Addr):Prop:=∃W:Nat->Nat->List V->Hp->Prop,(∃m,W 0 m [] (upd H1 p (.lst [])))/\∀i m acc H2,W i m acc H2->
 (J.stop i H2/\Q (.ref p) H2)\/(J.go i H2/\∀x H3,J.yld i H2 x H3->g x cσ H3 fun σ4 H4=>Kp cσ σ4/\tt σ4 H4 fun b H5=>
   if b=true then te σ4 H5 fun y H6=>H6 p=some (.lst acc)/\acc.length<sizeLine/\∃m',m'<m/\W (i+1) m' (acc++ [y]) (upd H6 p (.lst (acc++ [y])))else ∃m',m'<m/\W (i+1) m' acc H5)
noncomputable def T7 (n:Nat) (fs:List (Nat × Str)) (wi:TI) (g:TG) (tt:TT) (te:TE):TE:=fun σ H Q=>wi σ H fun J H1=>∀p,H1 p=none->cIn J (cpσ n fs σ) g tt te Q H1 p
section
variable {X:Cx}{elt tg iter:Expr}{ifs:List Expr}{scope:Scope}{pos:Pos}{wi:TI}{g:TG}{tt:TT}{te:TE}{ts:List Str}{fs:List (Nat × Str)}
theorem Di.clos (S:Di X ts fs scope) (ok:X.Ok):∀x∈scope.names,x.2= .free->∃c,X.env.cells.lookup x.1=some c:=fun x hx hf=>ok.has x.1 (S.free x hx hf)
theorem Di.sub (S:Di X ts fs scope) (ok:X.Ok) {y:Str}{c:Addr} (h:(scope.names.foldl (clF X.env) []).lookup y=some c):X.env.cells.lookup y=some c:=by
 rcases J3 scope.names [] y c (S.clos ok) h with z | z
 . simp at z
 . exact z
theorem Ti {pins:List (Addr × Obj)}{σ:St}{H:Hp}{s3 s4:Shared}{ex:List Addr} (S:Di X ts fs scope) (I:Inv X pins σ H s3)
 (hex:∀b∈ex,N6 X pins H b/\∃o,s3.heap.get? b=some o) (hos:s4.os=s3.os) (hg:s4.gens=s3.gens) (hk:∀b u,s3.heap.get? b=some u->s4.heap.get? b=some u)
 (hn:s4.heap.Ns s3.heap.objs.size fun _=>none):Inv (cxC X (cpN ts fs) scope ex s3 H) [] (cpσ ts.length fs σ) H s4:=by
 have ok:=I.ok
 have noC:∀b∈ex,b≠s3.heap.objs.size:=fun b hb=>by
  obtain⟨_,o,ho⟩:=hex b hb
  exact Nat.ne_of_lt (Heap.lt_size ho)
 refine⟨⟨ok.mod,S.kind,ok.glob,ok.blt,Nat.le_refl _,fun y z c h1 h2=>ok.inj y z c (S.sub ok h1) (S.sub ok h2),fun y hy=> ?_,fun y c h _=>absurd h (by intro z;cases z),ok.hd,ok.frames,.inl rfl,fun b hb=>⟨noC b hb,fun x c e=>(hex b hb).1.2.2.2.2.1 x c (S.sub ok e)⟩,
  I.bs,Nat.le_trans ok.bsz I.sz,fun b o e hb=> ?_,fun b hb=> ?_,I.stack,I.stkFree⟩,hos,by rw [hg];exact I.bare,Un.kept hk,⟨_,hn,fun i x v h1 h2 h3=> ?_⟩,fun y c e=> ?_,I.hok.fresh (Nat.le_refl _),fun y c e=>I.freeC y c (S.sub ok e),
  fun p hp=>absurd (show p∈([]:List (Addr × Obj))from hp) (by simp),I.hok.kept hk,?_⟩
 . have z:∃k',(k'=NameKind.cell\/k'= .free)/\(scope.names.map fun(n,k)=>if(k==NameKind.free&&X.env.scope.kind== .function&&X.env.kindOf n==some .cell)then(n,NameKind.cell)else(n,k)).lookup y=some k':=by
    rcases hy with hy | hy
    . exact⟨_,.inl rfl,hy⟩
    . exact⟨_,.inr rfl,hy⟩
   obtain⟨k',hk',hl⟩:=z
   obtain⟨k,hm,h2⟩:=Hr hl
   have hf:k= .free:=by
    rcases h2 with e | ⟨e,_⟩
    . subst e
      rcases hk' with e | e
      . exact absurd e (S.cell _ hm)
      . exact e
    . exact e
   exact Mt scope.names [] y (.inl ⟨_,hm,hf,rfl⟩)
 . rcases(hex b hb).1.2.2.2.1 with z | z
   . exact ok.noex b o e z
   . exact absurd (Nat.lt_of_lt_of_le (Heap.lt_size e) (Nat.le_trans ok.bsz z)) (Nat.lt_irrefl _)
 . intro hb2
   rcases List.mem_cons.mp (I.stkSub b hb2)with e | e
   . exact(hex b hb).1.2.1 e
   . exact(hex b hb).1.2.2.1 e
 . unfold cpσ at h2
   by_cases hi:i<ts.length
   . rw [List.getElem?_append_left (by simpa using hi),List.getElem?_replicate]at h2
     split at h2<;>cases h2
   . rw [List.getElem?_append_right (by simpa using hi),List.length_replicate]at h2
     have h1':(cpN ts fs)[i]? =some x:=h1
     unfold cpN at h1'
     rw [List.getElem?_append_right (by omega)]at h1'
     rw [List.getElem?_map]at h1' h2
     cases e:fs[i-ts.length]? with
     | none=>rw [e]at h1';cases h1'
     | some p=>
       rw [e]at h1' h2
       have ex':p.2=x:=Option.some.inj h1'
       have e2:(σ[p.1]?).join=some v:=Option.some.inj h2
       have e3:σ[p.1]? =some (some v):=by
        cases q:σ[p.1]? with
        | none=>rw [q]at e2;cases e2
        | some o=>rw [q]at e2;cases o with | none=>cases e2 | some v'=>cases e2;rfl
       obtain⟨a1,a2,a3⟩:=S.at' p (List.mem_of_getElem? e)
       obtain⟨m,_,hl⟩:=I.loc
       have kd:=S.free _ a2 rfl
       have vis:Vis X.env.scope p.2:=by
        rcases kd with z | z
        . exact .inr (.inl z)
        . exact .inr (.inr z)
       obtain⟨u,r,l⟩:=hl p.1 p.2 v a1 e3 vis
       refine⟨u,r,?_⟩
       rcases l with⟨z,_⟩ | ⟨_,c,hc,hcell⟩
       . rcases kd with q | q
         . rw [q]at z;cases z
         . rw [q]at z;cases z
       . obtain⟨c',hc'⟩:=Mt (env:=X.env) scope.names [] p.2 (.inl ⟨_,a2,rfl,rfl⟩)
         have ec:c'=c:=Option.some.inj ((S.sub ok hc').symm.trans hc)
         subst ec
         subst ex'
         refine .inr ⟨?_,c',hc',?_⟩
         . exact a3
         . obtain⟨o,ho,hd⟩:=hcell
           exact⟨o,hk _ _ ho,hd⟩
 . obtain⟨v,o,ho,hd⟩:=I.cell y c (S.sub ok e)
   exact⟨v,o,hk _ _ ho,hd⟩
 . unfold cpσ
   show _=(cpN ts fs).length
   unfold cpN
   simp
theorem Ro {pins:List (Addr × Obj)}{σ σ':St}{H H':Hp}{s3 s5:Shared}{h':Heap}{ex:List Addr} (S:Di X ts fs scope) (I:Inv X pins σ H s3) (hex:∀b∈ex,N6 X pins H b)
 (J:Inv (cxC X (cpN ts fs) scope ex s3 H) [] σ' H' s5) (sb:Heap.SameBut s3.heap.objs.size s5.heap h'):Inv X pins σ H' { s5 with heap:=h'}:=by
 have nC:H' s3.heap.objs.size=none:=J.free
 have old:∀b o,b≠s3.heap.objs.size->s5.heap.get? b=some o->h'.get? b=some o:=fun b o hb e=>sb.extBut b o hb e
 have lt:∀b o,s3.heap.get? b=some o->b≠s3.heap.objs.size:=fun b o e=>Nat.ne_of_lt (Heap.lt_size e)
 have u:Un (frs X.stack) ex H H' s3.heap s5.heap:=J.base
 have u2:Un (frs X.stack) ex H H' s3.heap h':=
  ⟨fun b o e n hb hx=>old b o (lt b o e) (u.keep b o e n hb hx),fun b o e n hb hx=>by
   obtain⟨sl,q⟩:=u.slot b o e n hb hx
   exact⟨sl,old b _ (lt b o e) q⟩,u.free,fun b o e hx=>by
   obtain⟨o',q⟩:=u.there b o e hx
   exact⟨o',old b o' (lt b o e) q⟩,u.tups,u.frzs,u.tbls⟩
 have hok:HOk X.prog X.w H' h':=fun b o e=>by
  have nb:b≠s3.heap.objs.size:=fun z=>by rw [z,nC]at e;cases e
  refine(J.hok b o e).stay (fun c v hc q=>old c v ?_ q) (fun _ q=>q) fun _ _ q=>q
  rcases hc with z | z
  . rw [z];exact nb
  . intro z2;rw [z2,nC]at z;cases z
 exact I.call' (s':={ s5 with heap:=h'}) (ch:=ex) J.os u2 hok J.bare fun b hb=>⟨(hex b hb).2.2.2.1,(hex b hb).2.1,(hex b hb).2.2.2.2.1,(hex b hb).2.2.2.2.2⟩
theorem Inv.fade {pins:List (Addr × Obj)}{σ σ':St}{H:Hp}{s:Shared} (I:Inv X pins σ' H s) (k:Kp σ σ'):Inv X pins σ H s:=by
 refine⟨I.ok,I.os,I.bare,I.base,?_,I.cell,I.free,I.freeC,I.pin,I.hok,k.1.symm.trans I.len⟩
 obtain⟨m,hn,hl⟩:=I.loc
 exact⟨m,hn,fun i x v h1 h2 h3=>hl i x v h1 (k.2 i v h2) h3⟩
theorem W3 {pins:List (Addr × Obj)}{σ:St}{H3:Hp}{s3 s4:Shared}{Q:VK}{R:Result->Shared->Prop}{fp:List Addr}{it p:Addr}{tn:Nat->Heap->Prop}{J:It}{W:Nat->Nat->List V->Hp->Prop}{m0:Nat} (hc:X.calm=true) (S:Di X ts fs scope)
 (hg:∀ex s H,PG (cxC X (cpN ts fs) scope ex s H) tg g) (ht:∀ex s H,PTs (cxC X (cpN ts fs) scope ex s H) ifs tt) (he:∀ex s H,PE (cxC X (cpN ts fs) scope ex s H) elt te)
 (I3:Inv X pins σ H3 s3) (T:Turn X.prog X.w X.K tg J fp it tn) (hex:∀b∈fp,N6 X pins H3 b) (lt:∀b∈fp,b<s3.heap.objs.size)
 (I4:Inv (cxC X (cpN ts fs) scope fp s3 H3) [] (cpσ ts.length fs σ) H3 s4) (st4:tn 0 s4.heap) (w0:W 0 m0 [] H3)
 (fin:∀H5 s6,Inv (cxC X (cpN ts fs) scope fp s3 H3) [] (cpσ ts.length fs σ) H5 s6->Q (.ref p) H5->R (.ok .next) s6)
 (turn:∀i m acc H2,W i m acc H2->(J.stop i H2/\Q (.ref p) H2)\/(J.go i H2/\∀x H3,J.yld i H2 x H3->g x (cpσ ts.length fs σ) H3 fun σ4 H4=>Kp (cpσ ts.length fs σ) σ4/\tt σ4 H4 fun b H5=>
   if b=true then te σ4 H5 fun y H6=>H6 p=some (.lst acc)/\acc.length<sizeLine/\∃m',m'<m/\W (i+1) m' (acc++ [y]) (upd H6 p (.lst (acc++ [y])))else ∃m',m'<m/\W (i+1) m' acc H5)):
 codeAny (model X.prog X.w) X.A (.compLoop (.ListComp elt [⟨tg,iter,ifs,0⟩] scope pos) 0 (.ref it) (.ref p) (cxC X (cpN ts fs) scope fp s3 H3).env) R s4:=by
 have stat:∀ {H':Hp},(∀b∈fp,H' b=none)->∀b∈fp,N6 (cxC X (cpN ts fs) scope fp s3 H3) [] H' b:=fun hn b hb=>
  ⟨hn b hb,Nat.ne_of_lt (lt b hb),fun z=>(List.mem_cons.mp (I3.stkSub b z)).elim (hex b hb).2.1 (hex b hb).2.2.1,.inl hb,fun x c e=>(hex b hb).2.2.2.2.1 x c (S.sub I3.ok e),fun q hq=>absurd (show q∈([]:List (Addr × Obj))from hq) (by simp)⟩
 refine Oo (fun n s'=>∃i acc H',Inv (cxC X (cpN ts fs) scope fp s3 H3) [] (cpσ ts.length fs σ) H' s'/\tn i s'.heap/\(∀b∈fp,H' b=none)/\W i n acc H') ?_ m0 ⟨0,[],H3,I4,st4,fun b hb=>(hex b hb).1,w0⟩
 rintro n s5 ⟨i,acc,H5,I5,st5,fr5,w5⟩
 rcases turn i n acc H5 w5 with⟨stop,q⟩ | ⟨go,step⟩
 . refine thn (T.done (cxC X (cpN ts fs) scope fp s3 H3) rfl rfl rfl hc i [] s5 _ H5 _ I5 (stat fr5) st5 stop) fun r s6 ⟨hr,I6⟩=> ?_
   subst hr
   exact fin H5 s6 I6 q
 . refine thn (T.item (cxC X (cpN ts fs) scope fp s3 H3) rfl rfl rfl hc i [] s5 _ H5 _ I5 (stat fr5) st5 go) fun r s6 ⟨u,hr,h6⟩=> ?_
   subst hr
   refine thn h6 fun _ s7 ⟨x,H7,I7,r7,y7,st7,fr7⟩=> ?_
   have I7':=I7.pinned (stat fr7) (T.obj _ _ st7)
   refine thn (hg fp s3 H3 _ s7 _ H7 x u _ I7' r7 (step x H7 y7)) fun _ s8 ⟨σ8,H8,I8,kp,q8⟩=> ?_
   have again:∀ {H9:Hp}{s9:Shared}{acc':List V}{m':Nat},Inv (cxC X (cpN ts fs) scope fp s3 H3) ([]++O9 fp s7.heap) σ8 H9 s9->m'<n->W (i+1) m' acc' H9->
    ∃m,m<n/\∃i acc H',Inv (cxC X (cpN ts fs) scope fp s3 H3) [] (cpσ ts.length fs σ) H' s9/\tn i s9.heap/\(∀b∈fp,H' b=none)/\W i m acc H':=fun {H9 s9 acc' m'} I9 hm w9=>by
    refine⟨m',hm,i+1,acc',H9,(I9.fade kp).unpinned,T.keep _ _ _ st7 fun b hb o e=>(I9.pin (b,o) (List.mem_append_right _ (List.mem_append_right _ (Gf hb e)))).1,fun b hb=> ?_,w9⟩
    obtain⟨o,e,d⟩:=T.obj _ _ st7 b hb
    exact(I9.pin (b,o) (List.mem_append_right _ (List.mem_append_right _ (Gf hb e)))).2.1
   refine thn (ht fp s3 H3 _ s8 σ8 H8 _ I8 q8) fun ok s9 ⟨H9,I9,q9⟩=> ?_
   cases ok with
   | false=>
     rw [if_neg Bool.false_ne_true]at q9 ⊢
     obtain⟨m',hm,w9⟩:=q9
     exact again I9 hm w9
   | true=>
     rw [if_pos rfl]at q9 ⊢
     refine thn (he fp s3 H3 _ s9 σ8 H9 _ I9 q9) fun y s10 ⟨yv,H10,I10,r10,hp10,hlen,m',hm,w10⟩=> ?_
     exact thn (Kz _ s10 σ8 H10 (.ref p) [yv] (.ref p) [y] _ I10 rfl (.cons r10 .nil) ⟨p,acc,yv,rfl,rfl,hp10,hlen,w10⟩) fun _ s11 ⟨_,H11,I11,_,w11⟩=>again I11 hm w11
set_option maxHeartbeats 2000000 in
theorem Lw {pos':Pos}{pins:List (Addr × Obj)}{σ:St}{H:Hp}{s:Shared}{Q:VK}{QQ:Value->Shared->Prop}{use:Option (Value->Sem Unit)} (hc:X.calm=true) (S:Di X ts fs scope) (hi:PI X tg iter wi) (hg:∀ex s H,PG (cxC X (cpN ts fs) scope ex s H) tg g) (ht:∀ex s H,PTs (cxC X (cpN ts fs) scope ex s H) ifs tt)
 (he:∀ex s H,PE (cxC X (cpN ts fs) scope ex s H) elt te) (hs:∀x,foldedSetIterable iter X.env x=pure x) (I:Inv X pins σ H s) (h:T7 ts.length fs wi g tt te σ H Q)
 (fin:∀(H3:Hp) (s3:Shared) (fp:List Addr) (p:Addr) (H5:Hp) (s6:Shared),Inv X pins σ H3 s3->(∀b∈fp,N6 X pins H3 b)->Inv (cxC X (cpN ts fs) scope fp s3 H3) [] (cpσ ts.length fs σ) H5 s6->Q (.ref p) H5->compPost (model X.prog X.w) X.A X.xe use QQ (.ref p) s3.heap.objs.size (.ok .next) s6):
 wpAny (model X.prog X.w) X.A (comprehension (.ListComp elt [⟨tg,iter,ifs,0⟩] scope pos) scope X.env pos' (newList []) false (eval iter X.env) use) QQ X.xe s:=by
 refine wpAny_comprehension_free (use:=use) rfl hs (Je (S.clos I.ok)) S.kind S.names (thn (hi pins s σ H _ I h) fun v s1 h1=>thn h1 fun itv s2 h2=> ?_)
 obtain⟨it,fp,tn,J,H2,rfl,I2,T,st2,f2,hw⟩:=h2
 refine wpAny_newObj_type (wpAny_newFunctionEnv S.cell (by intro y hy;simp at hy) (fun h₁ hns₁ hsb₁=> ?_) S.kind)
 dsimp only at hns₁ hsb₁ ⊢
 have I3:=I2.lnew (its:=[]) (ys:=[]) (t':=s2.toks) .nil (Nat.zero_le _)
 have hD:H2 s2.heap.objs.size=none:=I2.fresh
 obtain⟨W,⟨m0,w0⟩,turn⟩:=hw _ hD
 have up:∀b o,s2.heap.get? b=some o->(s2.heap.push { cls:= .type "list",data:= .seq ([]:List Value).toArray}).get? b=some o:=fun b o e=>Heap.get?_push_of_some _ e
 have hex:∀b∈fp,N6 X pins (upd H2 s2.heap.objs.size (.lst [])) b/\∃o,(s2.heap.push { cls:= .type "list",data:= .seq ([]:List Value).toArray}).get? b=some o:=fun b hb=>by
  obtain⟨o,ho,_⟩:=T.obj _ _ st2 b hb
  have nb:b≠s2.heap.objs.size:=Nat.ne_of_lt (Heap.lt_size ho)
  exact⟨⟨by rw [Bb nb];exact(f2 b hb).1,(f2 b hb).2⟩,o,up b o ho⟩
 have hk4:∀b u,(s2.heap.push { cls:= .type "list",data:= .seq ([]:List Value).toArray}).get? b=some u->h₁.get? b=some u:=fun b u e=>
  hsb₁.extBut b u (Nat.ne_of_lt (Heap.lt_size e)) (Heap.get?_push_of_some _ e)
 have I4:=Ti (s4:={ s2 with heap:=h₁,toks:=s2.toks}) S I3 hex rfl rfl hk4 hns₁
 have st4:tn 0 h₁:=T.keep _ _ _ st2 fun b _ o e=>hk4 b o (up b o e)
 have run:=W3 (elt:=elt) (iter:=iter) (pos:=pos) hc S hg ht he I3 T (fun b hb=>(hex b hb).1) (fun b hb=>Heap.lt_size (hex b hb).2.choose_spec) I4 st4 w0 (fun H5 s6 I6 q=>fin _ _ fp _ H5 s6 I3 (fun b hb=>(hex b hb).1) I6 q) turn
 exact codeAny_compStart_list run (T.self X.A 0 _ _ _ st4 run)
theorem Vw (hc:X.calm=true) (S:Di X ts fs scope) (hi:PI X tg iter wi) (hg:∀ex s H,PG (cxC X (cpN ts fs) scope ex s H) tg g) (ht:∀ex s H,PTs (cxC X (cpN ts fs) scope ex s H) ifs tt)
 (he:∀ex s H,PE (cxC X (cpN ts fs) scope ex s H) elt te) (hs:∀x,foldedSetIterable iter X.env x=pure x:=by intro _;rfl):
 PE X (.ListComp elt [⟨tg,iter,ifs,0⟩] scope pos) (T7 ts.length fs wi g tt te):=by
 intro pins s σ H Q I h
 rw [eval_ListComp]
 refine Lw (use:=none) hc S hi hg ht he hs I h fun H3 s3 fp p H5 s6 I3 hex I6 q=> ?_
 obtain⟨m,hn,_⟩:=I6.loc
 exact⟨m,hn,fun h' sb=>⟨.ref p,H5,Ro S I3 hex I6 sb,rfl,q⟩⟩
theorem Qx {g':TG}{y:Str}{py spos:Pos} (hc:X.calm=true) (S:Di X ts fs scope) (hi:PI X tg iter wi) (hg:∀ex s H,PG (cxC X (cpN ts fs) scope ex s H) tg g) (ht:∀ex s H,PTs (cxC X (cpN ts fs) scope ex s H) ifs tt)
 (he:∀ex s H,PE (cxC X (cpN ts fs) scope ex s H) elt te) (hn:PG X (.Name y py) g') (hsw:swapsWith (.ListComp elt [⟨tg,iter,ifs,0⟩] scope pos) (some (.Name y py)) spos.line X.env=pure true:=by rfl) (hs:∀x,foldedSetIterable iter X.env x=pure x:=by intro _;rfl):
 PS X (.Assign [.Name y py] (.ListComp elt [⟨tg,iter,ifs,0⟩] scope pos) spos) (Xu (T7 ts.length fs wi g tt te) g'):=by
 intro pins s σ H D I h
 rw [exec_Assign_Name_used _ _ _ _ hsw]
 refine wpAny_bind (wpAny_standAt (wpAny_bind ?_))
 show wpAny _ X.A (do let _<-comprehension (.ListComp elt [⟨tg,iter,ifs,0⟩] scope pos) scope X.env _ (newList []) false (eval iter X.env) (some (assign (.Name y py) X.env))) _ _ s
 refine wpAny_bind (wpAny_mono (Lw (use:=some (assign (.Name y py) X.env)) (QQ:=fun _ s'=>SP X pins D .next s') hc S hi hg ht he hs I h fun H3 s3 fp p H5 s6 I3 hex I6 q=> ?_) (fun _ s' hq=>wpAny_pure (wpAny_pure hq)) fun _ _ e=>e)
 have J:Inv X pins σ H5 s6:=Ro S I3 hex I6 (Heap.SameBut.refl _ _)
 obtain⟨m,⟨o,es,ep,ho,hd,hsk,hf⟩,_⟩:=I6.loc
 have ho':s6.heap.get? s3.heap.objs.size=some o:=ho
 have fC:N6 X pins H5 s3.heap.objs.size:=I3.fpOk (Nat.le_refl _) I6.free
 have J':=J.pinned (fp:=[s3.heap.objs.size]) (fun b hb=>by
  have e:b=s3.heap.objs.size:=by simpa using hb
  subst e
  exact fC) (fun b hb=>by
  have e:b=s3.heap.objs.size:=by simpa using hb
  subst e
  exact⟨o,ho',fun v z=>by rw [hd]at z;cases z⟩)
 refine thn (hn _ s6 σ H5 (.ref p) (.ref p) _ J' rfl q) fun _ s7 ⟨σ7,H7,I7,q7⟩=> ?_
 have pC:=I7.pin (s3.heap.objs.size,o) (List.mem_append_right _ (List.mem_append_right _ (Gf (by simp) ho')))
 exact⟨m,⟨o,es,ep,pC.1,hd,hsk,hf⟩,fun h' sb=>⟨σ7,H7,I7.unpinned.turned (t':=s7.toks) (fun b o hb e=>sb.extBut b o hb e) pC.2.1 fC.2.1 fC.2.2.2.1 fC.2.2.2.2.1 fC.2.2.2.2.2,q7⟩⟩
end
section
variable {K:PySem.W.Frag}{H1:Hp}{p:Addr}{cσ:St}{g:TG}{te:TE}{Q:VK}{α:Type}{es:List α}{inj:α->V}
noncomputable def Wk (J:It) (H1:Hp) (es:List α) (inj:α->V):Prop:=∀i H',Same H1 H'->(es[i]? =none->J.stop i H')/\∀e,es[i]? =some e->J.go i H'/\∀x H3,J.yld i H' x H3->H3=H'/\x=inj e
theorem Wm {a:Addr} (h:SqL K H1 a (es.map inj)):Wk (Itl K a) H1 es inj:=fun i H' s=>by
 have h':=s.seq h
 refine⟨fun e=>⟨_,h',?_⟩,fun e he=>⟨⟨_,inj e,h',by rw [List.getElem?_map,he];rfl⟩,fun x H3 ⟨e1,e2⟩=>⟨e1,?_⟩⟩⟩
 . rw [List.length_map]
   exact List.getElem?_eq_none_iff.mp e
 . have z:=e2 _ h'
   rw [List.getElem?_map,he]at z
   exact(Option.some.inj z).symm
theorem Wn {a:Addr} (h:SqT K H1 a (es.map inj)):Wk (Itt K a) H1 es inj:=fun i H' s=>by
 have h':=s.tup h
 refine⟨fun e=>⟨_,h',?_⟩,fun e he=>⟨⟨_,inj e,h',by rw [List.getElem?_map,he];rfl⟩,fun x H3 ⟨e1,e2⟩=>⟨e1,?_⟩⟩⟩
 . rw [List.length_map]
   exact List.getElem?_eq_none_iff.mp e
 . have z:=e2 _ h'
   rw [List.getElem?_map,he]at z
   exact(Option.some.inj z).symm
theorem S6 {lo:Int}{n:Nat}:Wk (Itr lo n) H1 (List.range n) (fun i=> .int (lo+(i:Nat))):=fun i H' s=>by
 refine⟨fun e=> ?_,fun e he=> ?_⟩
 . have:=List.getElem?_eq_none_iff.mp e
   show n<=i
   simpa using this
 . obtain⟨h,z⟩:=List.getElem?_eq_some_iff.mp he
   have hi:i<n:=by simpa using h
   have z':i=e:=by simpa using z
   subst z'
   exact⟨hi,fun x H3 ⟨e1,e2⟩=>⟨e1,e2⟩⟩
theorem Kr {J:It} (f:α->V) (hz:es.length<=sizeLine) (hp:H1 p=none) (hJ:Wk J H1 es inj)
 (step:∀e H' R,e∈es->Same H1 H'->(∀H6,Same H' H6->R (f e) H6)->g (inj e) cσ H' fun σ4 H4=>Kp cσ σ4/\te σ4 H4 R)
 (done:∀H',Same H1 H'->H' p=some (.lst (es.map f))->Q (.ref p) H'):cIn J cσ g Xv te Q H1 p:=by
 have su:∀ {H':Hp}{o:HO},Same H1 H'->Same H1 (upd H' p o):=fun {H' o} s b u e=>by
  rw [Bb (Bj e hp)]
  exact s b u e
 refine⟨fun i m acc H'=>m=es.length-i/\i<=es.length/\acc=(es.take i).map f/\H' p=some (.lst acc)/\Same H1 H',⟨es.length,by simp,Nat.zero_le _,by simp,Ah,su (Same.refl _)⟩,?_⟩
 rintro i m acc H' ⟨rfl,hi,rfl,hH,s⟩
 cases he:es[i]? with
 | none=>
   have hl:=List.getElem?_eq_none_iff.mp he
   have e:i=es.length:=Nat.le_antisymm hi hl
   subst e
   rw [List.take_length]at hH
   exact .inl ⟨(hJ _ _ s).1 he,done _ s hH⟩
 | some e=>
   obtain⟨go,yl⟩:=(hJ _ _ s).2 e he
   refine .inr ⟨go,fun x H3 y=> ?_⟩
   obtain⟨rfl,rfl⟩:=yl x H3 y
   obtain⟨hlt,e'⟩:=List.getElem?_eq_some_iff.mp he
   have tk:es.take (i+1)=es.take i++ [e]:=by rw [List.take_succ,he];rfl
   have q:=step e H3 (fun y H6=>H6 p=some (.lst ((es.take i).map f))/\((es.take i).map f).length<sizeLine/\∃m',m'<es.length-i/\m'=es.length-(i+1)/\i+1<=es.length/\(es.take i).map f++ [y]=(es.take (i+1)).map f/\
    upd H6 p (.lst ((es.take i).map f++ [y])) p=some (.lst ((es.take i).map f++ [y]))/\Same H1 (upd H6 p (.lst ((es.take i).map f++ [y])))) (List.mem_of_getElem? he) s
    (fun H6 s6=>⟨s6 _ _ hH,by rw [List.length_map,List.length_take];omega,_,by omega,rfl,hlt,by rw [tk,List.map_append];rfl,Ah,su (s.trans s6)⟩)
   have eq:∀(R:VK) (B:Hp->Prop),(fun σ4 H4=>Kp cσ σ4/\Xv σ4 H4 fun b H5=>if b=true then te σ4 H5 R else B H5)=(fun σ4 H4=>Kp cσ σ4/\te σ4 H4 R):=fun R B=>by
    funext σ4 H4
    show(Kp cσ σ4/\if true=true then te σ4 H4 R else B H4)=_
    rw [if_pos rfl]
   rw [eq]
   exact q
end
section
variable {X:Cx}{K:PySem.W.Frag}{σ:St}{H:Hp}{Q:VK}{R:It->Hp->Prop}
theorem Acb {n:Nat}{fs:List (Nat × Str)}{wi:TI}{g:TG}{tt:TT}{te:TE}:T7 n fs wi g tt te σ H Q=wi σ H (fun J H1=>∀p,H1 p=none->cIn J (cpσ n fs σ) g tt te Q H1 p):=rfl
theorem Acr {ta:TA}:Zq ta σ H R=ta σ H (fun vs H1=>∃j:Int,vs=[.int j]/\ -(2^62)<=j/\j<2^62/\R (Itr 0 j.toNat) H1):=rfl
theorem Acs {ta:TA}:Zr ta σ H R=ta σ H (fun vs H1=>∃i j:Int,vs=[.int i,.int j]/\(-(2^62)<=i/\i<2^62/\ -(2^62)<=j/\j<2^62)/\R (Itr i (j-i).toNat) H1):=rfl
theorem Aap {tl:TE}:Zo K tl σ H R=tl σ H (fun x H1=>∃a,x= .ref a/\(∃xs,SqL K H1 a xs)/\R (Itl K a) H1):=rfl
theorem Acn {tl:TE}:Adl K tl σ H R=tl σ H (fun x H1=>∃a,x= .ref a/\(∃xs,SqT K H1 a xs)/\R (Itt K a) H1):=rfl
theorem Aej {a:Addr}{p:Addr->Prop}:(∃b,V.ref a= .ref b/\p b)=p a:=propext ⟨fun⟨_,e,h⟩=>by cases e;exact h,fun h=>⟨a,rfl,h⟩⟩
theorem Aem {v:Option V}{r:St}:Kp (none::r) (v::r)=True:=by
 refine eq_true ⟨rfl,fun i u e=> ?_⟩
 cases i with
 | zero=>cases e
 | succ i=>exact e
theorem Aen {v v':Option V}{r:St}:Kp (none::none::r) (v::v'::r)=True:=by
 refine eq_true ⟨rfl,fun i u e=> ?_⟩
 cases i with
 | zero=>cases e
 | succ i=>
   cases i with
   | zero=>cases e
   | succ i=>exact e
theorem Acm {k:Bool}{p:Int->Prop}{q:Bool->Prop}:((∃i,[V.bl k]=[V.int i]/\p i)\/∃k',[V.bl k]=[V.bl k']/\q k')=q k:=
 propext ⟨fun h=>h.elim (fun⟨_,e,_⟩=>by cases e) fun⟨_,e,h⟩=>by cases e;exact h,fun h=> .inr ⟨k,rfl,h⟩⟩
end
end L2
namespace L2
open PySem PySem.Spec PyProof.Rows
noncomputable def FI (J:It) (g:TG) (tb:TS) (D:Ends) (σ:St) (H:Hp):Prop:=∃W:Nat->Nat->St->Hp->Prop,(∃m,W 0 m σ H)/\∀i m σ H,W i m σ H->
 (J.stop i H/\D.nx σ H)\/(J.go i H/\∃N:St->Hp->Prop,(∀σ' H',N σ' H'->∃m',m'<m/\W (i+1) m' σ' H')/\∀x H',J.yld i H x H'->g x σ H' fun σ2 H2=>tb { D with nx:=N,ct:=N,bk:=D.nx} σ2 H2)
theorem T9 {wi:TI}{g:TG}{tb:TS}{D:Ends}{σ:St}{H:Hp}:Ad1 wi g tb D σ H=wi σ H (fun J H1=>FI J g tb D σ H1):=rfl
section
variable {K:PySem.W.Frag}{σ:St}{H:Hp}{g:TG}{tb:TS}{D:Ends}{α:Type}{es:List α}{inj:α->V}
noncomputable def Aa0 (J:It) (H:Hp) (es:List α) (inj:α->V):Prop:=∀i,(es[i]? =none->J.stop i H)/\∀e,es[i]? =some e->J.go i H/\∀x H3,J.yld i H x H3->H3=H/\x=inj e
theorem Wj {a:Addr} (h:SqL K H a (es.map inj)):Aa0 (Itl K a) H es inj:=fun i=>Wm h i H (Same.refl _)
theorem Fi {lo:Int}{n:Nat}:Aa0 (Itr lo n) H (List.range n) (fun i=> .int (lo+(i:Nat))):=fun i=>S6 i H (Same.refl _)
theorem Xb {J:It} (Pv:List α->St->Hp->Prop) (h0:Pv [] σ H) (hw:∀pre σ H,Pv pre σ H->Aa0 J H es inj)
 (hs:∀pre e post σ H,es=pre++e::post->Pv pre σ H->g (inj e) σ H fun σ2 H2=>tb { D with nx:=Pv (pre++ [e]),ct:=Pv (pre++ [e]),bk:=D.nx} σ2 H2) (hd:∀σ H,Pv es σ H->D.nx σ H):FI J g tb D σ H:=by
 refine⟨fun i m σ H=>m=es.length-i/\i<=es.length/\Pv (es.take i) σ H,⟨es.length,by simp,Nat.zero_le _,h0⟩,?_⟩
 rintro i m σ H ⟨rfl,hi,p⟩
 have w:=hw _ _ _ p i
 cases he:es[i]? with
 | none=>
   have e:i=es.length:=Nat.le_antisymm hi (List.getElem?_eq_none_iff.mp he)
   subst e
   rw [List.take_length]at p
   exact .inl ⟨w.1 he,hd _ _ p⟩
 | some e=>
   obtain⟨hlt,ee⟩:=List.getElem?_eq_some_iff.mp he
   have tk:es.take (i+1)=es.take i++ [e]:=by rw [List.take_succ,he];rfl
   have sp:es=es.take i++e::es.drop (i+1):=by
    rw [<-ee,<-List.drop_eq_getElem_cons hlt,List.take_append_drop]
   refine .inr ⟨(w.2 e he).1,Pv (es.take i++ [e]),fun σ' H' q=>⟨es.length-(i+1),by omega,rfl,hlt,by rw [tk];exact q⟩,fun x H' y=> ?_⟩
   obtain⟨rfl,rfl⟩:=(w.2 e he).2 x H' y
   exact hs _ e _ σ H' sp p
end
end L2
namespace L2
open PySem PySem.Spec PyProof.Rows
section
variable {K:PySem.W.Frag}{σ:St}{H:Hp}{Q:VK}
theorem Afr {r:V->Option Int->Option Int->Hp->VK->Prop}{te:TE}{tl th:TO}:tSl r te tl th σ H Q=te σ H (fun x H1=>tl σ H1 fun l H2=>th σ H2 fun u H3=>r x l u H3 Q):=rfl
theorem X5 {R:Option Int->Hp->Prop}:Q6 σ H R=R none H:=rfl
theorem Acq {t:TE}{R:Option Int->Hp->Prop}:Aak t σ H R=t σ H (fun x H1=>∃i,x= .int i/\R (some i) H1):=rfl
theorem Aeb {T:String}{r:V->List V->Hp->VK->Prop}{to:TE}:Ad0 K T r to σ H Q=to σ H (fun x H1=>tyV K T x H1/\r x [] H1 Q):=rfl
theorem Afj {T:String}{r:V->List V->Hp->VK->Prop}{to:TE}{t:TA}:tBM K T r to t σ H Q=to σ H (fun x H1=>tyV K T x H1/\t σ H1 fun xs H2=>r x xs H2 Q):=rfl
end
section
variable {CX:CXT}{P:Program}{w:World}{K:PySem.W.Frag}{mg:Str->Option Value}{base:Heap}{N:List Str}{qual:Str}{scope:Scope}{f:Addr}{cd:Value}{A:Around}{outer:List Env}{s:Shared}{H H1 H2:Hp}{E:XK}{Q:VK}{a b:Addr}{ns ms:List Int}{g:Bool->Bool}
theorem Aec:(J4 CX P w K mg base N qual scope f cd A outer s H E).K=K:=rfl
theorem Acp:(J4 CX P w K mg base N qual scope f cd A outer s H E).nox.K=K:=rfl
theorem Jx (ns:List Int):SeqAt.shaped (.list (ns.map PyData.int))=true:=by
 simp [SeqAt.shaped,PyData.canLay0,PyData.depth,PySem.W.ke_canLayAll0,PySem.W.ke_depthAll]
theorem W7 (ha:SqL K H a (ns.map V.int)) (hb:SqL K H b (ms.map V.int)) (h:Q (.bl (g (decide (ns=ms)))) H):Ac5 K g (.ref a) (.ref b) H Q:=
 ⟨_,_,.lints ha,.lints hb,Jx _,Jx _,by rw [PyData.eqv,Iu];exact h⟩
end
end L2
namespace L2
open PySem PySem.Spec PyProof.Rows
section
variable {c:TT}{tb:TS}{D:Ends}{σ:St}{H:Hp}
noncomputable def WB (Pv:St->Hp->Prop) (μ:St->Hp->Nat) (tb:TS) (D:Ends) (n:Nat) (σ:St) (H:Hp):Prop:=
 ∃N:St->Hp->Prop,(∀σ' H',N σ' H'->∃m',m'<n/\(m'=μ σ' H'/\Pv σ' H'))/\tb { D with nx:=N,ct:=N,bk:=D.nx} σ H
theorem Q8 {Pv:St->Hp->Prop}{μ:St->Hp->Nat}{n:Nat} (h:tb { D with nx:=fun σ' H'=>Pv σ' H'/\μ σ' H'<n,ct:=fun σ' H'=>Pv σ' H'/\μ σ' H'<n,bk:=D.nx} σ H):WB Pv μ tb D n σ H:=
 ⟨_,fun _ _ ⟨p,l⟩=>⟨_,l,rfl,p⟩,h⟩
theorem G4 (Pv:St->Hp->Prop) (μ:St->Hp->Nat) (h0:Pv σ H) (hs:∀σ H,Pv σ H->c σ H fun b H1=>if b=true then WB Pv μ tb D (μ σ H) σ H1 else D.nx σ H1):Sw c tb D σ H:=by
 refine⟨fun m σ H=>m=μ σ H/\Pv σ H,⟨_,rfl,h0⟩,?_⟩
 rintro m σ H ⟨rfl,p⟩
 exact hs σ H p
end
theorem Aci {a:Addr}{p:Addr->Prop}:(∃b,[V.ref a]=[.ref b]/\p b)=p a:=propext ⟨fun⟨_,e,h⟩=>by cases e;exact h,fun h=>⟨a,rfl,h⟩⟩
section
variable {K:PySem.W.Frag}{σ:St}{H:Hp}{Q:St->Hp->Prop}{R:VK}{p a b:Addr}{v w:V}{i j:Nat}{xs:List V}{ns ms:List Int}{f:Bool->Bool}
theorem Rq (h:SqT K H p [v,w]) (q:Q ((σ.set i (some v)).set j (some w)) H):Ac4 K 2 (Ot (Ig i) (Ot (Ig j) Ac3)) (.ref p) σ H Q:=⟨p,_,rfl,h,rfl,v,_,rfl,w,_,rfl,rfl,q⟩
theorem Acj {to ti:TE}{t:Aaz}:Adh to ti t v σ H Q=to σ H (fun o H1=>ti σ H1 fun i H2=>t o i v H2 fun H3=>Q σ H3):=rfl
theorem Tn {G:Hp->Prop} (hp:H p=some (.lst xs)) (hj:j<xs.length) (q:G (upd H p (.lst (xs.set j v)))):Aae (.ref p) (.int (j:Nat)) v H G:=by
 refine⟨p,xs,j,j,rfl,rfl,hp,?_,q⟩
 unfold ixN
 rw [if_pos (by omega),if_pos (by omega),Int.toNat_natCast]
theorem Jb (h:SqL K H a xs) (e:xs[j]? =some v) (q:R v H):Ab1 K (.ref a) (.int (j:Nat)) H R:=Nx h (Gq e) q
theorem Bk (ha:SqT K H a (ns.map V.int)) (hb:SqT K H b (ms.map V.int)) (h:R (.bl (f (decide (ns=ms)))) H):Ady K f (.ref a) (.ref b) H R:=⟨a,b,ns,ms,rfl,rfl,ha,hb,h⟩
theorem Gz (ns:List Int) (j:Nat) (x:Int):(ns.map V.int).set j (.int x)=(ns.set j x).map V.int:=by rw [List.map_set]
theorem Dp {ns:List Int}{j:Nat} (h:j<ns.length):(ns.map V.int)[j]? =some (.int ns[j]):=by rw [List.getElem?_map,List.getElem?_eq_getElem h];rfl
theorem Hq (k:Nat):(List.replicate k [V.int 0]).flatten=(List.replicate k (0:Int)).map V.int:=by
 induction k with
 | zero=>rfl
 | succ k ih=>rw [List.replicate_succ,List.flatten_cons,ih,List.replicate_succ,List.map_cons];rfl
end
end L2
namespace L2
open PySem PySem.Spec PyProof.Rows
section
variable {prog:Program}{w:World}{A:Around}{E:Value->Shared->Prop}{s:Shared}{j u:Addr}{i:Nat}{xs:Array Value}
theorem nextT {y:Value}{Q:Value->Shared->Prop} (hj:s.heap.IsTupleIter j u i) (hu:s.heap.IsTuple u xs) (hy:xs[i]? =some y)
 (k:∀g,g.IsTupleIter j u (i+1)->Heap.SameBut j s.heap g->Q y { s with heap:=g}):wpAny (model prog w) A (Builtin.SmallTypes.nextOf (.ref j)) Q E s:=by
 obtain⟨oj,ej,cj,dj⟩:=id hj
 obtain⟨ou,eu,_,nu,du⟩:=hu
 unfold Builtin.SmallTypes.nextOf
 refine wpAny_bind (wpAny_callSpecial?_slot (name:=Str.ofString "__next__") hj.typeIs F.slot_tuple_iterator_next (wpAny_call_entry F.slot_tuple_iterator_next hj.typeIs F.entry_tuple_iterator_next ?_ (F.args_tuple_iterator_next_1 _)))
 show wpAny _ _ (field (.ref j) 0>>=_) _ _ s
 refine wpAny_bind (wpAny_field ej dj (x:= .ref u) rfl ?_)
 show wpAny _ _ (if(Value.ref u==Value.none)=true then _ else _) _ _ s
 rw [if_neg (show ¬((Value.ref u==Value.none)=true)from Bool.false_ne_true)]
 show wpAny _ _ (field (.ref j) 1>>=_) _ _ s
 refine wpAny_bind (wpAny_field ej dj (x:= .int i 0) rfl ?_)
 show wpAny _ _ (seqItems? (.ref u)>>=_) _ _ s
 refine wpAny_bind (wpAny_seqItems eu du ?_)
 simp only [hy,Int.toNat_natCast]
 refine wpAny_bind (wpAny_setField ej dj (by simp) (wpAny_pure ⟨y,rfl,wpAny_pure (k _ ?_ (Heap.SameBut.update ..))⟩))
 exact⟨_,Heap.get?_update_self _ ej (Obj.isFreed_of_fields (Obj.data_mapFields dj _)),(Obj.cls_mapFields ..).trans cj,by rw [Obj.data_mapFields dj];simp [rawInt]⟩
theorem Vi {Q:Value->Shared->Prop} (hh:A.handled=none) (hj:s.heap.IsTupleIter j u i) (hu:s.heap.IsTuple u xs) (hy:xs[i]? =none)
 (k:∀g e,Heap.ExtBut j s.heap g->(∃o,g.get? e=some o/\o.cls= .type "StopIteration")->E (.ref e) { s with heap:=g}):wpAny (model prog w) A (Builtin.SmallTypes.nextOf (.ref j)) Q E s:=by
 obtain⟨oj,ej,cj,dj⟩:=id hj
 obtain⟨ou,eu,_,nu,du⟩:=hu
 unfold Builtin.SmallTypes.nextOf
 refine wpAny_bind (wpAny_callSpecial?_slot (name:=Str.ofString "__next__") hj.typeIs F.slot_tuple_iterator_next (wpAny_call_entry F.slot_tuple_iterator_next hj.typeIs F.entry_tuple_iterator_next ?_ (F.args_tuple_iterator_next_1 _)))
 show wpAny _ _ (field (.ref j) 0>>=_) _ _ s
 refine wpAny_bind (wpAny_field ej dj (x:= .ref u) rfl ?_)
 show wpAny _ _ (if(Value.ref u==Value.none)=true then _ else _) _ _ s
 rw [if_neg (show ¬((Value.ref u==Value.none)=true)from Bool.false_ne_true)]
 show wpAny _ _ (field (.ref j) 1>>=_) _ _ s
 refine wpAny_bind (wpAny_field ej dj (x:= .int i 0) rfl ?_)
 show wpAny _ _ (seqItems? (.ref u)>>=_) _ _ s
 refine wpAny_bind (wpAny_seqItems eu du ?_)
 simp only [hy,Int.toNat_natCast]
 refine wpAny_bind (wpAny_rule (wpAny_bind (wpAny_setField ej dj (by simp) ?_)))
 show wpAny _ A.in1 (newExc (.type "StopIteration") []>>=_) _ _ _
 refine wpAny_bind ?_
 simp only [newTuple,newExc]
 refine wpAny_bind (wpAny_newObj_type ?_ (by size_fits))
 refine wpAny_bind (m:=firstArgMember _ _) (wpAny_of_eq (a:=Value.none) (by first | rfl | (simp only [firstArgMember];rfl)) ?_)
 refine(wpAny_newObj_type ?_ (by size_fits))
 simp only [raiseNew]
 refine wpAny_bind (wpAny_handled ?_)
 first | rw [show A.in1.handled=none from hh] | (rw [hh])
 refine wpAny_bind (wpAny_pure (wpAny_throw ?_))
 exact k _ _ (((Heap.SameBut.update ..).extBut.push _).push _) ⟨_,Heap.get?_push_size _ rfl,rfl⟩
theorem W4 {e:Addr}{y old:Value}{Q:Value->Shared->Prop} (he:IsEnum s.heap e j i old) (hj:s.heap.IsTupleIter j u i) (hu:s.heap.IsTuple u xs) (hy:xs[i]? =some y) (ne:e≠j)
 (k:∀g,IsEnumOut g e j ((i:Int)+1) y s.heap.objs.size->g.IsTupleIter j u (i+1)->g.get? s.heap.objs.size=some { cls:= .type "tuple",data:= .seq #[.int i s.toks,y]}->g.objs.size=s.heap.objs.size+1->
   (∀b o,b≠e->b≠j->s.heap.get? b=some o->g.get? b=some o)->Q (.ref s.heap.objs.size) { s with heap:=g,toks:=s.toks+1}):
 wpAny (model prog w) A (Builtin.«enumerate.__next__» ⟨[.ref e],[]⟩) (fun fin s'=>∃v,fin= .done (.ret v)/\Q v s') E s:=by
 obtain⟨hp,gg,d,tk,os⟩:=s
 show wpAny _ _ (field (.ref e) 2>>=_) _ _ _
 refine wpAny_bind (wpAny_field he rfl (x:= .ref j) rfl ?_)
 refine wpAny_bind (nextT hj hu hy fun g₁ hj₁ sb₁=> ?_)
 replace sb₁:Heap.SameBut j hp g₁:=sb₁
 have e₁:IsEnum g₁ e j i old:=(sb₁.2 e ne).trans he
 show wpAny _ _ (field (.ref e) 3>>=_) _ _ ⟨g₁,gg,d,tk,os⟩
 refine wpAny_bind (wpAny_field e₁ rfl (x:=rawInt i) rfl ?_)
 show wpAny _ _ (field (.ref e) 4>>=_) _ _ ⟨g₁,gg,d,tk,os⟩
 refine wpAny_bind (wpAny_field e₁ rfl (x:= .none) rfl ?_)
 show wpAny _ _ (mkInt i>>=_) _ _ ⟨g₁,gg,d,tk,os⟩
 refine wpAny_bind (wpAny_mkInt ?_)
 show wpAny _ _ (setField (.ref e) 3 (rawInt ((i:Int)+1))>>=_) _ _ ⟨g₁,gg,d,tk+1,os⟩
 refine wpAny_bind (wpAny_setField_rec e₁ (by simp) fun g₂ e₂ sb₂=> ?_)
 replace sb₂:Heap.SameBut e g₁ g₂:=sb₂
 replace e₂:IsEnum g₂ e j ((i:Int)+1) old:=e₂
 show wpAny _ _ (setField (.ref e) 4 .none>>=_) _ _ ⟨g₂,gg,d,tk+1,os⟩
 refine wpAny_bind (wpAny_setField_rec e₂ (by simp) fun g₃ e₃ sb₃=> ?_)
 replace sb₃:Heap.SameBut e g₂ g₃:=sb₃
 replace e₃:IsEnum g₃ e j ((i:Int)+1) old:=e₃
 show wpAny _ _ (newTuple [.int i tk,y]>>=_) _ _ ⟨g₃,gg,d,tk+1,os⟩
 refine wpAny_bind (wpAny_newTuple ?_)
 have e₄:IsEnum (g₃.push { cls:= .type "tuple",data:= .seq #[.int i tk,y]}) e j ((i:Int)+1) old:=Heap.get?_push_of_some _ e₃
 generalize hg:g₃.push { cls:= .type "tuple",data:= .seq #[.int i tk,y]}=g₄ at e₄
 have sz:g₃.objs.size=hp.objs.size:=by rw [sb₃.1,sb₂.1,sb₁.1]
 have lt:e<hp.objs.size:=Heap.lt_size he
 have t₄:g₄.get? hp.objs.size=some { cls:= .type "tuple",data:= .seq #[.int i tk,y]}:=by rw [<-hg,<-sz];exact Heap.get?_push_size _ rfl
 have z₄:g₄.objs.size=hp.objs.size+1:=by rw [<-hg,Heap.size_push,sz]
 have k₄:∀b o,b≠e->b≠j->hp.get? b=some o->g₄.get? b=some o:=fun b o h1 h2 hb=>by
  rw [<-hg];exact Heap.get?_push_of_some _ (sb₃.extBut b o h1 (sb₂.extBut b o h1 (sb₁.extBut b o h2 hb)))
 have j₄:g₄.IsTupleIter j u (i+1):=by
  rw [<-hg];obtain⟨o,ho,r⟩:=(hj₁.extBut sb₂.extBut (Ne.symm ne)).extBut sb₃.extBut (Ne.symm ne);exact⟨o,Heap.get?_push_of_some _ ho,r⟩
 show wpAny _ _ (Builtin.SmallTypes.ownedTupleIsFree (.ref e)>>=_) _ _ ⟨g₄,gg,d,tk+1,os⟩
 rw [sz]
 clear hg e₃ sb₃ e₂ sb₂ e₁ sb₁ hj₁ sz g₃ g₂ g₁
 refine wpAny_bind ?_
 . unfold Builtin.SmallTypes.ownedTupleIsFree
   refine wpAny_bind (wpAny_field e₄ rfl (x:= .none) rfl (wpAny_pure ?_))
   simp only [if_true]
   refine wpAny_bind (wpAny_rule ?_)
   refine wpAny_bind (wpAny_field e₄ rfl (x:=old) rfl ?_)
   refine wpAny_bind (wpAny_setField_rec e₄ (by simp) fun g₅ e₅ sb₅=> ?_)
   replace sb₅:Heap.SameBut e g₄ g₅:=sb₅
   replace e₅:IsEnum g₅ e j ((i:Int)+1) y:=e₅
   show wpAny _ _ (Builtin.SmallTypes.ownedTupleHandOut (.ref e) (.ref hp.objs.size)>>=_) _ _ ⟨g₅,gg,d,tk+1,os⟩
   refine wpAny_bind ?_
   . unfold Builtin.SmallTypes.ownedTupleHandOut
     refine wpAny_bind (wpAny_setField_rec e₅ (by simp) fun g₆ e₆ sb₆=> ?_)
     replace sb₆:Heap.SameBut e g₅ g₆:=sb₆
     replace e₆:IsEnumOut g₆ e j ((i:Int)+1) y hp.objs.size:=e₆
     refine wpAny_setField_rec e₆ (by simp) fun g₇ e₇ sb₇=> ?_
     replace sb₇:Heap.SameBut e g₆ g₇:=sb₇
     replace e₇:IsEnumOut g₇ e j ((i:Int)+1) y hp.objs.size:=e₇
     refine wpAny_bind (wpAny_letGo (wpAny_pure ⟨_,rfl,k g₇ e₇ ?_ ?_ ?_ ?_⟩))
     . exact((j₄.extBut sb₅.extBut (Ne.symm ne)).extBut sb₆.extBut (Ne.symm ne)).extBut sb₇.extBut (Ne.symm ne)
     . exact sb₇.extBut _ _ (Nat.ne_of_gt lt) (sb₆.extBut _ _ (Nat.ne_of_gt lt) (sb₅.extBut _ _ (Nat.ne_of_gt lt) t₄))
     . rw [sb₇.1,sb₆.1,sb₅.1,z₄]
     . exact fun b o h1 h2 hb=>sb₇.extBut b o h1 (sb₆.extBut b o h1 (sb₅.extBut b o h1 (k₄ b o h1 h2 hb)))
theorem W5 {e:Addr}{y old:Value}{Q:Option Value->Shared->Prop} (he:IsEnum s.heap e j i old) (hj:s.heap.IsTupleIter j u i) (hu:s.heap.IsTuple u xs) (hy:xs[i]? =some y) (ne:e≠j)
 (k:∀g,IsEnumOut g e j ((i:Int)+1) y s.heap.objs.size->g.IsTupleIter j u (i+1)->g.get? s.heap.objs.size=some { cls:= .type "tuple",data:= .seq #[.int i s.toks,y]}->g.objs.size=s.heap.objs.size+1->
   (∀b o,b≠e->b≠j->s.heap.get? b=some o->g.get? b=some o)->Q (some (.ref s.heap.objs.size)) { s with heap:=g,toks:=s.toks+1}):wpAny (model prog w) A (pyNext (.ref e)) Q E s:=by
 have ty:s.TypeIs (.ref e) "enumerate":=⟨_,he,rfl⟩
 unfold pyNext
 exact wpAny_bind (wpAny_attempt (wpAny_callSpecial?_slot (name:=Str.ofString "__next__") ty F.slot_enumerate_next (wpAny_call_entry F.slot_enumerate_next ty F.entry_enumerate_next
  (W4 he hj hu hy ne fun g a b c d f=>wpAny_pure (k g a b c d f)) (F.args_enumerate_next_1 _))))
theorem W6 {e:Addr}{old:Value}{Q:Option Value->Shared->Prop} (hh:A.handled=none) (he:IsEnum s.heap e j i old) (hj:s.heap.IsTupleIter j u i) (hu:s.heap.IsTuple u xs) (hy:xs[i]? =none)
 (k:∀g,Heap.ExtBut j s.heap g->Q none { s with heap:=g}):wpAny (model prog w) A (pyNext (.ref e)) Q E s:=by
 have ty:s.TypeIs (.ref e) "enumerate":=⟨_,he,rfl⟩
 unfold pyNext
 refine wpAny_bind (wpAny_attempt (wpAny_callSpecial?_slot (name:=Str.ofString "__next__") ty F.slot_enumerate_next (wpAny_call_entry F.slot_enumerate_next ty F.entry_enumerate_next ?_ (F.args_enumerate_next_1 _))))
 show wpAny _ _ (field (.ref e) 2>>=_) _ _ _
 refine wpAny_bind (wpAny_field he rfl (x:= .ref j) rfl ?_)
 refine wpAny_bind (Vi hh hj hu hy fun g x hg ⟨o,ho,hc⟩=> ?_)
 refine wpAny_bind (wpAny_isInstance (T:="StopIteration") (b:=true) ⟨o,ho,hc⟩ isSubtype_stop ?_)
 exact wpAny_pure (k _ hg)
end
open AutoSeq1 (wpAny_loadPart')in
theorem Vc (u:Addr) (xs:Array Value) (o:Obj) (n:Nat) (hc:o.cls= .type "tuple") (hd:o.data= .seq xs n):
 Meets (Builtin.«enumerate.__new__» ⟨[.type "enumerate",.ref u],[]⟩) (fun _ R s=>s.heap.get? u=some o/\R (.ok (.ret (.ref (s.heap.push { cls:= .type "tuple_iterator",data:= .fields #[.ref u,.int 0 0]}).objs.size)))
  { s with heap:=(s.heap.push { cls:= .type "tuple_iterator",data:= .fields #[.ref u,.int 0 0]}).push { cls:= .type "enumerate",data:= .fields #[.none,.bool false,.ref s.heap.objs.size,rawInt 0,.none,.none]}}):=
 .of_wp fun prog w A R s h=>by
  obtain⟨hp,g,d,tk,os⟩:=s;obtain⟨hu,h⟩:=h
  obtain⟨oc,od,odat,osl⟩:=o
  obtain rfl:oc= .type "tuple":=hc
  obtain rfl:odat= .seq xs n:=hd
  have su:=sub_enumerate
  have hT:Heap.IsTuple (Shared.heap ⟨hp,g,d,tk,os⟩) u xs:=⟨_,hu,rfl,n,rfl⟩
  wp_walk using wpAny_loadPart' hu
  refine wpAny_stack_any fun st=>wpAny_pure ?_
  split
  . rename_i c _ _ _ _ _
    cases(c==Value.type "enumerate")
    . wp_walk using wpAny_loadPart' hu,wpAny_pyIter_tuple hT
      exact⟨_,rfl,h⟩
    . wp_walk using wpAny_loadPart' hu,wpAny_pyIter_tuple hT
      exact⟨_,rfl,h⟩
  . wp_walk using wpAny_loadPart' hu,wpAny_pyIter_tuple hT
    exact⟨_,rfl,h⟩
section
variable {X:Cx}{pins:List (Addr × Obj)}{σ:St}{H:Hp}{s:Shared}{h':Heap}
theorem Inv.turnL {t':Nat}{fp:List Addr} (I:Inv X pins σ H s) (k:∀b o,b∉fp->s.heap.get? b=some o->h'.get? b=some o) (hf:∀b∈fp,N6 X pins H b):Inv X pins σ H { s with heap:=h',toks:=t'}:=by
 have nf:∀b u,H b=some u->b∉fp:=fun b u e z=>by
  have:=(hf b z).1
  rw [this]at e
  cases e
 refine I.step (g':=s.gens) (d':=s.drawn) (ch:=fp) (fun b hb=>⟨(hf b hb).2.2.2.1,(hf b hb).2.1,(hf b hb).2.2.2.2.1,(hf b hb).2.2.2.2.2⟩) (fun b o _ _ hc e _=>k b o hc e) (fun b o _ _ hc e _=>⟨o.slots,k b o hc e⟩) (fun _ _ _ _ n=>n)
  (fun b o hc e=>⟨o,k b o hc e⟩) (fun _ _ e=>e) (fun _ _ _ e=>e) (fun b ps e=>⟨#[],by rw [e];simp⟩) (fun m hm=> ?_) (fun b u e=> ?_) I.bare
 . obtain⟨o,es,ep,ho,r⟩:=hm
   exact⟨o,es,ep,k _ o (fun z=>(hf _ z).2.1 rfl) ho,r⟩
 . refine(I.hok b u e).stay (fun c v hc q=>k c v ?_ q) (fun _ q=>q) fun _ _ q=>q
   rcases hc with z | z
   . rw [z]
     exact nf b u e
   . exact nf c _ z
end
noncomputable def Ite (K:PySem.W.Frag) (a:Addr):It:=
 ⟨fun i H=>∃xs x,SqT K H a xs/\xs[i]? =some x,fun i H x H'=>∃p v,(∀xs,SqT K H a xs->xs[i]? =some v)/\H p=none/\x= .ref p/\H'=upd H p (.tup [.int (i:Nat),v]),fun i H=>∃xs,SqT K H a xs/\xs.length<=i⟩
theorem Aao {P:Program}{w:World}{K:PySem.W.Frag}{el:List Expr}{x1}{tp:Pos} (a e j:Addr) (ne:e≠j):Turn P w K (.Tuple el x1 tp) (Ite K a) [e,j] e (fun i h=>(∃old,IsEnum h e j i old)/\h.IsTupleIter j a i) where
 mem:=by simp
 obj:=fun i h st b hb=>by
  obtain⟨⟨old,he⟩,oj,ej,cj,dj⟩:=st
  rcases List.mem_cons.mp hb with rfl | hb
  . exact⟨_,he,fun v z=>by cases(show Data.fields _=Data.cell v from z)⟩
  . have z:b=j:=by simpa using hb
    subst z
    exact⟨oj,ej,fun v z=>by rw [dj]at z;cases z⟩
 keep:=fun i h h' st k=>by
  obtain⟨⟨old,he⟩,oj,ej,r⟩:=st
  exact⟨⟨old,k e (by simp) _ he⟩,oj,k j (by simp) _ ej,r⟩
 item:=by
  intro X hP hw hK hc i pins s σ H E I hf st hg
  subst hP hw hK
  obtain⟨xs,x,hq,hx⟩:=hg
  obtain⟨its,rv,p,hz⟩:=I.tuple hq
  obtain⟨u,hu,ru⟩:=rv.get hx
  obtain⟨⟨old,he⟩,hj⟩:=st
  refine W5 he hj (show s.heap.IsTuple a its.toArray from p) (y:=u) (by simpa using hu) ne fun g hout hj' hT hsz kk=>⟨_,rfl,?_⟩
  refine wpAny_letOwnedTupleGo_enum hout fun g2 he2 sb2=> ?_
  replace sb2:Heap.SameBut e g g2:=sb2
  have lte:e<s.heap.objs.size:=Heap.lt_size he
  have ltj:j<s.heap.objs.size:=by
   obtain⟨_,ej,_⟩:=hj
   exact Heap.lt_size ej
  have hn:H s.heap.objs.size=none:=I.fresh
  have I1:Inv X pins σ (upd H s.heap.objs.size (.tup [.int (i:Nat),x])) { s with heap:=s.heap.push { cls:= .type "tuple",data:= .seq #[.int i s.toks,u]},toks:=s.toks+1}:=
   I.laid (fun b o q=>Heap.get?_push_of_some _ q) (Nat.le_refl _) ⟨by show 2<=sizeLine;decide,[.int i s.toks,u],.cons ⟨_,rfl⟩ (.cons ru .nil),⟨_,Heap.get?_push_size _ rfl,rfl,_,rfl⟩⟩
  have fp':∀b∈ [e,j],N6 X pins (upd H s.heap.objs.size (.tup [.int (i:Nat),x])) b:=fun b hb=>by
   have nb:b≠s.heap.objs.size:=by
    rcases List.mem_cons.mp hb with rfl | hb'
    . exact Nat.ne_of_lt lte
    . have z:b=j:=by simpa using hb'
      subst z
      exact Nat.ne_of_lt ltj
   exact⟨by rw [Bb nb];exact(hf b hb).1,(hf b hb).2⟩
  have I2:=I1.turnL (h':=g2) (t':=s.toks+1) (fp:=[e,j]) (fun b o hb q=>by
   have n1:b≠e:=fun z=>hb (by simp [z])
   have n2:b≠j:=fun z=>hb (by simp [z])
   refine(sb2.2 b n1).trans ?_
   rcases Heap.get?_push_cases q with⟨rfl,rfl⟩ | q0
   . exact hT
   . exact kk b o n1 n2 q0) fp'
  refine⟨.ref s.heap.objs.size,_,I2,rfl,⟨_,x,fun ys hy=>by rw [I.tuple_inj hy hq];exact hx,hn,rfl,rfl⟩,⟨⟨_,by simpa using he2⟩,?_⟩,fun b hb=>(fp' b hb).1⟩
  exact hj'.extBut sb2.extBut (Ne.symm ne)
 done:=by
  intro X hP hw hK hc i pins s σ H E I hf st hg
  subst hP hw hK
  obtain⟨xs,hq,hx⟩:=hg
  obtain⟨its,rv,p,hz⟩:=I.tuple hq
  obtain⟨⟨old,he⟩,hj⟩:=st
  have hl:=rv.length
  exact W6 (I.ok.hd hc) he hj (show s.heap.IsTuple a its.toArray from p) (by simp;omega) fun g eb=>⟨rfl,I.turnL (t':=s.toks) (fp:=[e,j]) (fun b o hb q=>eb b o (fun z=>hb (by simp [z])) q) hf⟩
 self:=fun _ _ _ _ _ st h=>by
  obtain⟨⟨old,he⟩,_⟩:=st
  exact wpAny_pyIter_enum he h
section
variable {X:Cx}{a:Expr}{ta:TA}{el:List Expr}{x1}{tp p pos:Pos}
noncomputable def iEn (K:PySem.W.Frag) (ta:TA):TI:=fun σ H R=>ta σ H fun vs H1=>∃a,vs=[.ref a]/\(∃xs,SqT K H1 a xs)/\R (Ite K a) H1
theorem Abv (hg:Gl X "enumerate") (hm:X.mg "enumerate"=none) (ha:PA X [a] ta) (hs:starEach [a] X.env=[(false,eval a X.env)]:=by rfl):PI X (.Tuple el x1 tp) (.Call (.Name "enumerate" p) [a] [] pos) (iEn X.K ta):=by
 intro pins s σ H R I h
 refine Call_ (Jv I hg hm boot_enumerate (PyProof.Rows.callWith_type1 (thn (ha pos pins s σ H _ I h) fun us s1 ⟨vs,H1,I1,r1,q1⟩=> ?_) hs rfl))
 obtain⟨b,rfl,⟨xs,hq⟩,q⟩:=q1
 obtain⟨v,rfl,rv⟩:=vals1 r1
 cases rv
 obtain⟨its,rr,pl,hz⟩:=I1.tuple hq
 obtain⟨o,ho,hc,n,hd⟩:=(show s1.heap.IsTuple b its.toArray from pl)
 refine callType_new F.called_enumerate (by decide) (F.typeCall_enumerate_1 _) (F.newCall_enumerate_1 _) (fun obj=>F.args_object_init_2 obj _) F.entry_enumerate_new (Vc b its.toArray o n hc hd) ⟨ho,?_⟩
 have z1:(s1.heap.push { cls:= .type "tuple_iterator",data:= .fields #[.ref b,.int 0 0]}).objs.size=s1.heap.objs.size+1:=Heap.size_push ..
 show _/\_
 rw [z1]
 have he:IsEnum ((s1.heap.push { cls:= .type "tuple_iterator",data:= .fields #[.ref b,.int 0 0]}).push { cls:= .type "enumerate",data:= .fields #[.none,.bool false,.ref s1.heap.objs.size,rawInt 0,.none,.none]}) (s1.heap.objs.size+1) s1.heap.objs.size ((0:Nat):Int) .none:=by
  have z2:=Heap.get?_push_size (s1.heap.push { cls:= .type "tuple_iterator",data:= .fields #[.ref b,.int 0 0]}) (o:={ cls:= .type "enumerate",data:= .fields #[.none,.bool false,.ref s1.heap.objs.size,rawInt 0,.none,.none]}) rfl
  rw [z1]at z2
  exact z2
 have hj:Heap.IsTupleIter ((s1.heap.push { cls:= .type "tuple_iterator",data:= .fields #[.ref b,.int 0 0]}).push { cls:= .type "enumerate",data:= .fields #[.none,.bool false,.ref s1.heap.objs.size,rawInt 0,.none,.none]}) s1.heap.objs.size b 0:=
  ⟨_,Heap.get?_push_of_some _ (Heap.get?_push_size _ rfl),rfl,rfl⟩
 have I2:Inv X pins σ H1 { s1 with heap:=(s1.heap.push { cls:= .type "tuple_iterator",data:= .fields #[.ref b,.int 0 0]}).push { cls:= .type "enumerate",data:= .fields #[.none,.bool false,.ref s1.heap.objs.size,rawInt 0,.none,.none]}}:=
  I1.kept (t':=s1.toks) fun c o' e=>Heap.get?_push_of_some _ (Heap.get?_push_of_some _ e)
 refine⟨⟨_,he,rfl⟩,wpAny_pyIter_enum he ⟨s1.heap.objs.size+1,[s1.heap.objs.size+1,s1.heap.objs.size],_,_,H1,rfl,I2,Aao b _ _ (Nat.ne_of_gt (Nat.lt_succ_self _)),⟨⟨_,he⟩,hj⟩,fun c hcm=> ?_,q⟩⟩
 have hge:s1.heap.objs.size<=c:=by
  rcases List.mem_cons.mp hcm with rfl | hcm
  . exact Nat.le_succ _
  . have z:c=s1.heap.objs.size:=by simpa using hcm
    exact Nat.le_of_eq z.symm
 exact I1.fpOk hge (I1.hok.fresh hge)
end
theorem Aek {K:PySem.W.Frag}{σ:St}{H:Hp}{ta:TA}{R:It->Hp->Prop}:iEn K ta σ H R=ta σ H (fun vs H1=>∃a,vs=[.ref a]/\(∃xs,SqT K H1 a xs)/\R (Ite K a) H1):=rfl
theorem Zk {K:PySem.W.Frag}{σ:St}{H:Hp}{g:TG}{tb:TS}{D:Ends}{α:Type}{es:List α}{inj:α->V}{a:Addr} (Pv:List α->St->Hp->Prop) (h0:Pv [] σ H) (hw:∀pre σ H,Pv pre σ H->SqT K H a (es.map inj))
 (hs:∀pre e post σ H p,es=pre++e::post->Pv pre σ H->H p=none->g (.ref p) σ (upd H p (.tup [.int (pre.length:Nat),inj e])) fun σ2 H2=>tb { D with nx:=Pv (pre++ [e]),ct:=Pv (pre++ [e]),bk:=D.nx} σ2 H2) (hd:∀σ H,Pv es σ H->D.nx σ H):FI (Ite K a) g tb D σ H:=by
 refine⟨fun i m σ H=>m=es.length-i/\i<=es.length/\Pv (es.take i) σ H,⟨es.length,by simp,Nat.zero_le _,h0⟩,?_⟩
 rintro i m σ H ⟨rfl,hi,p⟩
 have w:=hw _ _ _ p
 cases he:es[i]? with
 | none=>
   have e:i=es.length:=Nat.le_antisymm hi (List.getElem?_eq_none_iff.mp he)
   subst e
   rw [List.take_length]at p
   exact .inl ⟨⟨_,w,by rw [List.length_map];exact Nat.le_refl _⟩,hd _ _ p⟩
 | some e=>
   obtain⟨hlt,ee⟩:=List.getElem?_eq_some_iff.mp he
   have tk:es.take (i+1)=es.take i++ [e]:=by rw [List.take_succ,he];rfl
   have sp:es=es.take i++e::es.drop (i+1):=by
    rw [<-ee,<-List.drop_eq_getElem_cons hlt,List.take_append_drop]
   refine .inr ⟨⟨_,inj e,w,by rw [List.getElem?_map,he];rfl⟩,Pv (es.take i++ [e]),fun σ' H' q=>⟨es.length-(i+1),by omega,rfl,hlt,by rw [tk];exact q⟩,fun x H' y=> ?_⟩
   obtain⟨b,v,y1,y2,rfl,rfl⟩:=y
   have y3:=y1 _ w
   rw [List.getElem?_map,he]at y3
   obtain rfl:inj e=v:=Option.some.inj y3
   have hl:(es.take i).length=i:=by rw [List.length_take];omega
   have z:=hs _ e _ σ H b sp p y2
   rw [hl]at z
   exact z
end L2
namespace L2
open PySem PySem.Spec PyProof.Rows
section
variable {X:Cx}
theorem Ru (K:PySem.W.Frag) (h:X.K=K:=by rfl):IxR X (Ab1 K):=by subst h;exact Bh
end
section
variable {X:Cx}
theorem Wz:Gm X (.builtin "isinstance") (fun xs H Q=>∃(a:Addr) (ys:List V) (T:String) (b:Bool),xs=[.ref a,.ty T]/\SqT X.K H a ys/\PySem.W.kitOne X.K (.type "tuple") (.type T)=some b/\Q (.bl b) H):=by
 intro pins s σ H xs us Q I r h
 obtain⟨a,ys,T,b,rfl,ht,hk,q⟩:=h
 obtain⟨u,c,rfl,ru,rc⟩:=vals2 r
 cases rc
 cases ru
 obtain⟨its,rv,p,_⟩:=I.tuple ht
 obtain⟨o,h1,h2,_⟩:=(show s.heap.IsTuple a its.toArray from p)
 exact PySem.W.kia_one PySem.W.kitx_tuple I.kIn ⟨o,h1,h2⟩ hk (fun z=>nomatch z) fun tk=>⟨.bl b,H,I.tok tk,rfl,q⟩
end
end L2
namespace L2
open PySem PySem.Spec PyProof.Rows
set_option maxRecDepth 100000
end L2
namespace L2
open PySem PySem.Spec PyProof.Rows
set_option maxRecDepth 100000
theorem Fj.has {P:Program}{w:World}{H:Hp}{h:Heap}{a:Addr}{o:HO} (x:Fj P w H h a o):∃ob,h.get? a=some ob:=by
 cases o with
 | lst xs=>obtain⟨_,_,_,_,e⟩:=x;exact⟨_,e⟩
 | tup xs=>obtain⟨_,_,_,ob,e,_⟩:=x;exact⟨_,e⟩
 | dK kvs=>obtain⟨_,_,_,_,o,_,_,e,_⟩:=x;exact⟨_,e⟩
 | dT kvs=>obtain⟨_,_,_,_,o,_,_,e,_⟩:=x;exact⟨_,e⟩
 | set S n=>obtain⟨o,_,_,_,e,_⟩:=x;exact⟨_,e⟩
 | ins C dx fs=>obtain⟨_,_,_,e,_⟩:=x;exact⟨_,e⟩
 | own y=>exact x
 | xd fs=>obtain⟨_,⟨_,_,_,e,_⟩,_⟩:=x;exact⟨_,e⟩
 | rng lo hi=>obtain⟨_,_,_,e⟩:=x;exact⟨_,e⟩
 | frz ob u=>obtain⟨e,_⟩:=x;exact⟨_,e⟩
 | tbl ps=>exact⟨_,show h.get? a=some _ from x⟩
 | met f y=>exact⟨_,show h.get? a=some _ from x⟩
 | ext φ=>exact x.2.1
structure FX (P:Program) (w:World) (fr:List Addr) (H:Hp) (h0:Heap) (B:Heap) (H':Hp) (h:Heap):Prop where
 stay:B.StaysIn h
 k1:∀b o,h0.get? b=some o->b∉fr->∃o',B.get? b=some o'/\(H b=none->o'=o)
 k2:∀b u,H' b=some u->∃o,B.get? b=some o
 fr0:∀b∈fr,H b=none/\∃o,h0.get? b=some o/\∀vs,o.data≠ .fields vs
 un:Un fr [] H H' h0 h
 hok:HOk P w H' h
theorem FX.step {P:Program}{w:World}{fr:List Addr}{H H':Hp}{h0 B h h':Heap} (x:FX P w fr H h0 B H' h) (k:B.StaysIn h') (u:h.UpToSlots h'):FX P w fr H h0 B H' h':=by
 have slot:∀b o,h0.get? b=some o->H b=none->b∈fr->∃sl,h'.get? b=some { o with slots:=sl}:=fun b o e n hb=>by
  obtain⟨sl,e1⟩:=x.un.slot b o e n hb (by simp)
  obtain⟨_,o2,e2,hf⟩:=x.fr0 b hb
  rw [e]at e2;cases e2
  obtain⟨sl',e3⟩:=u b _ e1 hf
  exact⟨sl',e3⟩
 refine⟨k,x.k1,x.k2,x.fr0,⟨fun b o e n hb _=> ?_,fun b o e n hb _=>slot b o e n hb,x.un.free,fun b o e _=> ?_,x.un.tups,x.un.frzs,x.un.tbls⟩,fun b v e=>(x.hok b v e).stay (fun c z hc q=> ?_) (fun _ q=>q) fun _ _ q=>q⟩
 . obtain⟨o',e1,e2⟩:=x.k1 b o e hb
   rw [e2 n]at e1
   exact k b o e1
 . by_cases hb:b∈fr
   . obtain⟨sl,e1⟩:=slot b o e (x.fr0 b hb).1 hb
     exact⟨_,e1⟩
   . obtain⟨o',e1,_⟩:=x.k1 b o e hb
     exact⟨o',k b o' e1⟩
 . have t:∃o,B.get? c=some o:=by
    rcases hc with z | z
    . rw [z];exact x.k2 _ _ e
    . exact x.k2 _ _ z
   obtain⟨o,eo⟩:=t
   have:=x.stay c o eo
   rw [q]at this;cases this
   exact k c _ eo
section
variable {X:Cx}{pins:List (Addr × Obj)}{σ:St}{H H':Hp}{s s':Shared}{B:Heap}
theorem Inv.old (I:Inv X pins σ H s) {b:Addr}{o:Obj} (e:X.s₀.heap.get? b=some o) (hb:b∉X.fs):b∉frs X.stack:=fun z=>by
 rcases List.mem_cons.mp (I.stkSub b z)with q | q
 . exact absurd (Nat.lt_of_lt_of_le (Heap.lt_size e) I.ok.above) (by rw [q];exact Nat.lt_irrefl _)
 . exact hb q
theorem Inv.fr0 (I:Inv X pins σ H s):∀b∈X.fs,X.H₀ b=none/\∃o,X.s₀.heap.get? b=some o/\∀vs,o.data≠ .fields vs:=fun b hb=>by
 obtain⟨_,o,ho,hd⟩:=I.ok.funs.mem hb
 exact⟨I.ok.frf b hb,o,ho,hd⟩
theorem Inv.one (I:Inv X pins σ H s) (hex:X.ex=[]) {b:Addr}{o:Obj} (e:X.s₀.heap.get? b=some o) (hb:b∉X.fs):∃o',s.heap.get? b=some o'/\(X.H₀ b=none->o'=o/\H b=none):=by
 by_cases n:X.H₀ b=none
 . exact⟨o,I.base.keep b o e n hb (by rw [hex];simp),fun _=>⟨rfl,I.base.free b o e n (by rw [hex];simp)⟩⟩
 . obtain⟨o',e1⟩:=I.base.there b o e (by rw [hex];simp)
   exact⟨o',e1,fun z=>absurd z n⟩
theorem Inv.fx (I:Inv X pins σ H s) (hex:X.ex=[]):FX X.prog X.w X.fs X.H₀ X.s₀.heap (PySem.W.hideAll s.heap (frs X.stack)) H s.heap:=by
 refine⟨fun b o q=>PySem.W.of_hideAll _ q,fun b o e hb=> ?_,fun b u e=> ?_,I.fr0,hex▸I.base,I.hok⟩
 . obtain⟨o',e1,e2⟩:=I.one hex e hb
   exact⟨o',PySem.W.hideAll_get _ e1 (I.old e hb),fun n=>(e2 n).1⟩
 . obtain⟨o,eo⟩:=(I.hok b u e).has
   exact⟨o,PySem.W.hideAll_get _ eo fun z=>by have:=I.stkFree b z;rw [e]at this;cases this⟩
theorem Inv.fxOn (I:Inv X pins σ H s) (hex:X.ex=[]) (os:s'.os=s.os) (bare:AllBare s'.gens) (x:FX X.prog X.w (frs X.stack) H s.heap B H' s'.heap):FX X.prog X.w X.fs X.H₀ X.s₀.heap B H' s'.heap:=by
 have J:Inv X pins σ H' s':=I.call' (ch:=[]) os x.un x.hok bare fun b z=>absurd z (by simp)
 refine⟨x.stay,fun b o e hb=> ?_,x.k2,I.fr0,hex▸J.base,x.hok⟩
 obtain⟨o1,e1,n1⟩:=I.one hex e hb
 obtain⟨o',e2,n2⟩:=x.k1 b o1 e1 (I.old e hb)
 exact⟨o',e2,fun n=>(n2 (n1 n).2).trans (n1 n).1⟩
end
noncomputable def CXE (P:Program) (w:World):CXT:=fun outer H s E e s'=>∃(x C:Addr) (a0:Value) (B:Heap) (H':Hp),e= .ref x/\s'.os=s.os/\AllBare s'.gens/\Heap.FlyingW B outer x (.ref C) a0 s'.heap/\FX P w (frs outer) H s.heap B H' s'.heap/\E (.ref C) none H'
noncomputable abbrev VE:List Value:=[.type "ValueError",.type "Exception",.type "BaseException",.type "object"]
noncomputable def N5 (K:PySem.W.Frag) (C:Addr):Prop:=PySem.W.excIn K C VE "ValueError.__new__"=true
noncomputable def cA (K:PySem.W.Frag) (x:Str):Addr:=match PySem.W.nsIn K mainGlobals x with
 | some (some (.ref C))=>C
 | _=>0
theorem Wx {K:PySem.W.Frag}{x:Str}{C:Addr} (e:PySem.W.nsIn K mainGlobals x=some (some (.ref C))):cA K x=C:=by
 unfold cA
 rw [e]
noncomputable def Ae0 (h:Heap) (C:Addr):Prop:=∃bm N nm q bs hdct sn sub ab col dd k0 k1 k2 k3 k5 mN,h.get? C=some (excClassObj nm q C N bs bm hdct sn sub ab col dd k0 k1 k2 k3 k5 "ValueError.__new__")/\h.Ns N mN/\mN "__init__"=none/\OwnTail h VE bm
theorem N5.obj {K:PySem.W.Frag}{C:Addr}{h:Heap} (q:N5 K C) (X:K.In h):Ae0 h C:=by
 unfold N5 PySem.W.excIn at q
 cases e:K.lookup C with
 | none=>rw [e]at q;cases q
 | some ob=>
   rw [e]at q
   have eX:=X _ _ e
   split at q
   . rename_i dd cd sl z
     cases z
     split at q
     . rename_i C1 bm a0 a1 a2 a3 n a5 hm hs
       rw [Bool.and_eq_true,Bool.and_eq_true,Bool.and_eq_true,Bool.and_eq_true,Bool.and_eq_true]at q
       obtain⟨⟨⟨⟨⟨z1,z2⟩,z3⟩,z4⟩,z5⟩,z6⟩:=q
       have y1:C1=C:=by simpa using z1
       have y2:n="ValueError.__new__":=by simpa using z2
       have y3:cd.hasDel=false:=by simpa using z3
       have y6:PySem.W.nsIn K cd.ns "__init__"=some none:=by simpa using z6
       obtain⟨c1,c2,c3,c4,c5,c6,c7,c8,c9,c10,c11⟩:=cd
       have hl:sl= #[a0,a1,a2,a3,some (.builtin n),a5]:=by
        cases sl
        exact congrArg Array.mk hs
       dsimp only at hm y3 y6 z5
       rw [hl,hm,y1,y2,y3]at eX
       exact⟨bm,c4,c1,c5,c2,c6,c7,c8,c9,c10,dd,a0,a1,a2,a3,a5,_,eX,Heap.Ns.of_isNs (PySem.W.isNs_of_in X z5),PySem.W.nsMap_none_of_in X z5 y6,PySem.W.tail_of_in X z4⟩
     . cases q
   . cases q
section
variable {P:Program}{w:World}{K:PySem.W.Frag}{mg:Str->Option Value}{base:Heap}{N:List Str}{qual:Str}{scope:Scope}{f:Addr}{cd:Value}{A:Around}{outer:List Env}{s0:Shared}{H0:Hp}{E:XK}
theorem Ado:Passes (CXE P w) (J4 (CXE P w) P w K mg base N qual scope f cd A outer s0 H0 E) E:=by
 intro pins σ H s e s' I h
 obtain⟨x,C,a0,B,H',rfl,os,bare,fl,fx,q⟩:=h
 show wpAny _ _ (leaving _ (.ref x)) _ _ s'
 refine wpAny_leaves_onW I.ok.frames rfl fl fun h' fl' up=> ?_
 exact⟨x,C,a0,B,H',rfl,os.trans I.os,bare,fl',(I.fxOn rfl os bare fx).step fl'.1 up,q⟩
noncomputable def Wf (C:Addr) (E:XK) (t:TA):TS:=fun _ σ H=>t σ H fun vs H1=>vs.length<=sizeLine/\E (.ref C) none H1
theorem Iv {C:Addr}{x:Str}{np cpos pos:Pos}{e:Expr}{es:List Expr}{t:TA} (hq:N5 K C) (hm:mg x=some (.ref C))
 (ha:PA (J4 (CXE P w) P w K mg base N qual scope f cd A outer s0 H0 E) (e::es) t) (hg:Gl (J4 (CXE P w) P w K mg base N qual scope f cd A outer s0 H0 E) x:=by rfl) (hdb:(x==("__debug__":Str))=false:=by decide)
 (he:starEach (e::es) (envOfC qual scope s0.heap.objs.size f cd)=(false,eval e (envOfC qual scope s0.heap.objs.size f cd))::starEach es (envOfC qual scope s0.heap.objs.size f cd):=by rfl)
 (hpl:(backTo cpos (starEach es (envOfC qual scope s0.heap.objs.size f cd))).any (·.1)=false:=by rfl):
 PS (J4 (CXE P w) P w K mg base N qual scope f cd A outer s0 H0 E) (.Raise (some (.Call (.Name x np) (e::es) [] cpos)) none pos) (Wf C E t):=by
 intro pins s σ H D I h
 obtain⟨bm,N',nm,q,bs,hdct,sn,sub,ab,col,dd,k0,k1,k2,k3,k5,mN,hC,hN,hni,TL⟩:=hq.obj I.mod.kin
 refine wpAny_Raise_call_subT (nm:=nm) (q:=q) (C:=C) (N:=N') (bs:=bs) (bm:=bm) (hdct:=hdct) (sn:=sn) (sub:=sub) (ab:=ab) (col:=col) (dd:=dd) (k0:=k0) (k1:=k1) (k2:=k2) (k3:=k3) (k5:=k5) PySem.F.excBase_ValueError (TL.hasType (by decide)) (I.ok.hd rfl) (by
  show(backTo cpos (starEach (e::es) (envOfC qual scope s0.heap.objs.size f cd))).any (·.1)=false
  rw [he]
  show(false||(backTo cpos (starEach es _)).any (·.1))=false
  rw [hpl];rfl) hni (Jh I hg hm ⟨rfl,?_⟩ hdb)
 have ha':=ha cpos pins s σ H _ I h
 show wpAny _ _ (evalArgs (.ref C) true (backTo cpos (starEach (e::es) (envOfC qual scope s0.heap.objs.size f cd))) []) _ _ s
 have ha2:wpAny (model P w) (A.deeper (envOfC qual scope s0.heap.objs.size f cd)) (spliced (backTo cpos (starEach (e::es) (envOfC qual scope s0.heap.objs.size f cd)))) _ _ s:=ha'
 rw [he]at ha2 ⊢
 refine Calls.evalArgs_plain (thn ha2 fun us s2 ⟨vs,H2,I2,r,z,q2⟩=>⟨rfl,by rw [<-r.length];exact z,I2.bk _ _ hC,hN.keeps I2.bk,TL.keeps I2.bk,fun h' x' hm'=> ?_⟩)
 show wpAny _ _ (leaving _ (.ref x')) _ _ _
 refine wpAny_leaves_madeW (base:=PySem.W.hideAll s2.heap (frs (envOfC qual scope s0.heap.objs.size f cd::outer))) (h:=s2.heap) I2.ok.frames rfl (fun b o q=>PySem.W.of_hideAll _ q) (PySem.W.funFrames_hide I2.stack fun env he b hb=>List.mem_filterMap.mpr ⟨env,he,hb⟩) hm' fun h'' t' fl _ _ up=> ?_
 exact⟨x',C,.ref t',_,H2,rfl,I2.os,I2.bare,fl,(I2.fx rfl).step fl.1 ((Heap.UpToSlots.of_keeps hm'.keeps).trans up),q2⟩
end
theorem Aaq {C:Addr}{E:XK}{t:TA}{D:Ends}{σ:St}{H:Hp}:Wf C E t D σ H=t σ H (fun vs H1=>vs.length<=sizeLine/\E (.ref C) none H1):=rfl
theorem PS.nox {X:Cx}{st:Stmt}{t:TS} (h:PS X.nox st t):PS X st t:=fun pins s σ H D I hw=>
 wpAny_mono (h pins s σ H D (I.wish _) hw) (fun _ _ q=>q.unwish) fun _ _ z=>False.elim z
theorem Fun.okE {P:Program}{w:World}{K:PySem.W.Frag}{mg:Str->Option Value}{base:Heap}{x qual:Str}{st:Stmt}{f:Addr}{fd:FuncData}{N ps:List Str}{k:Nat}{sp:Sp} (F:Fun K x qual st f fd) (S:Bc N ps (Ao st)) (len:∀vs H Q E,sp vs H Q E->vs.length=ps.length)
 (hbody:∀(cdv:Value) (A:Around) (outer:List Env) (s:Shared) (H:Hp) (vs:List V) (Q:VK) (E:XK),Gn k (A.deeper (envOfC qual (Ao st) s.heap.objs.size f cdv))->sp vs H Q E->
   ∃t,PSs (J4 (CXE P w) P w K mg base N qual (Ao st) f cdv A outer s H E) (Fo st) t/\t { nx:=fun _ H'=>Q .non H',rt:=Q} (start N vs) H):J1 P w K mg base (CXE P w) (k+1) f fd ps sp:=by
 obtain⟨oc,od,kV,doc,pm,an,cdv,ct,osl,rfl,lk,hcd⟩:=F.ex
 exact Zm lk hcd S len fun A outer s H vs Q E hr hsp=>hbody cdv A outer s H vs Q E hr hsp
noncomputable def Ny (P:Program) (w:World) (K:PySem.W.Frag) (mg:Str->Option Value) (base:Heap) (k:Nat) (x:Str) (ps:List Str) (sp:Sp):Prop:=
 ∃f fd,J1 P w K mg base (CXE P w) k f fd ps sp/\mg x=some (.ref f)/\PySem.W.keepIn K (.ref f)=true/\Binds K fd ps []
theorem Df.calE {P:Program}{w:World}{K:PySem.W.Frag}{mg:Str->Option Value}{base:Heap}{k:Nat}{x:Str}{st:Stmt}{ps:List Str}{f:Addr}{fd:FuncData}{sp:Sp}
 (F:Df K mg x st ps f fd) (G:J1 P w K mg base (CXE P w) k f fd ps sp):Ny P w K mg base k x ps sp:=⟨f,fd,G,F.at',F.fn.kp,F.bd⟩
theorem Ny.calm {P:Program}{w:World}{K:PySem.W.Frag}{mg:Str->Option Value}{base:Heap}{k:Nat}{x:Str}{ps:List Str}{sp sp':Sp}
 (C:Ny P w K mg base k x ps sp) (h:∀vs H Q E,sp' vs H Q E->sp vs H Q E0):Cal P w K mg base k x ps sp':=by
 obtain⟨f,fd,G,a,b,c⟩:=C
 refine⟨f,fd,⟨fun vs H Q E z=>G.len vs H Q E0 (h _ _ _ _ z),fun A outer s H args us vs Q E hr he hb hv hs=> ?_⟩,a,b,c⟩
 refine codeAny_mono (G.run A outer s H args us vs Q E0 hr he hb hv (h _ _ _ _ hs)) fun r s' q=> ?_
 cases r with
 | ok fl=>cases fl<;>exact q
 | error e=>
   obtain⟨_,_,_,_,_,_,_,_,_,_,z⟩:=q
   exact z.elim
section
variable {P:Program}{w:World}{K:PySem.W.Frag}{mg:Str->Option Value}{base:Heap}{N:List Str}{qual:Str}{scope:Scope}{f:Addr}{cd:Value}{A:Around}{outer:List Env}{s0:Shared}{H0:Hp}{E:XK}
theorem Gw {k:Nat}{x:Str}{ps:List Str}{sp:Sp}{p pos:Pos}{e:Expr}{es:List Expr}{t:TA}
 (C:Ny P w K mg base k x ps sp) (hr:Gn k (A.deeper (envOfC qual scope s0.heap.objs.size f cd))) (ha:PA (J4 (CXE P w) P w K mg base N qual scope f cd A outer s0 H0 E) (e::es) t) (hg:Gl (J4 (CXE P w) P w K mg base N qual scope f cd A outer s0 H0 E) x:=by rfl) (hdb:(x==("__debug__":Str))=false:=by decide)
 (he:starEach (e::es) (envOfC qual scope s0.heap.objs.size f cd)=(false,eval e (envOfC qual scope s0.heap.objs.size f cd))::starEach es (envOfC qual scope s0.heap.objs.size f cd):=by rfl)
 (hpl:(backTo pos (starEach es (envOfC qual scope s0.heap.objs.size f cd))).any (·.1)=false:=by rfl):
 PE (J4 (CXE P w) P w K mg base N qual scope f cd A outer s0 H0 E) (.Call (.Name x p) (e::es) [] pos) (Nq sp [] E t):=by
 obtain⟨f',fd,G,a,b,c⟩:=C
 exact Vu (X:=J4 (CXE P w) P w K mg base N qual scope f cd A outer s0 H0 E) G hr hg a b c .nil Ado ha hdb he hpl
end
end L2
namespace L2
open PySem PySem.Spec PyProof.Rows
set_option maxRecDepth 100000
noncomputable abbrev Cx.caught (X:Cx) (x:Addr) (oe:Obj):Cx:={ X with A:=X.A.mark (some (.ref x)),calm:=false,pn:=(x,oe)::X.pn,xe:=fun _ _=>False}
section
variable {X:Cx}{pins:List (Addr × Obj)}{σ:St}{H:Hp}{s:Shared}{x:Addr}{oe:Obj}
theorem Cx.Ok.caught (ok:X.Ok) (x:Addr) (oe:Obj):(X.caught x oe).Ok:=
 ⟨ok.mod,ok.kind,ok.glob,ok.blt,ok.above,ok.inj,ok.has,ok.cab,(fun z=>nomatch z),ok.frames,ok.stk,ok.exf,ok.bs,ok.bsz,ok.noex,ok.exfs,ok.funs,ok.frf⟩
theorem Inv.caught (I:Inv X pins σ H s) (e:s.heap.get? x=some oe) (n:H x=none) (l:x≠X.env.locals) (f:x∉X.fs) (d:∀v,oe.data≠ .cell v):Inv (X.caught x oe) pins σ H s:=
 ⟨I.ok.caught x oe,I.os,I.bare,I.base,I.loc,I.cell,I.free,I.freeC,fun p hp=>(List.mem_cons.mp hp).elim (fun z=>by rw [z];exact⟨e,n,l,f,d⟩) (I.pin p),I.hok,I.len⟩
theorem Inv.uncaught (ok:X.Ok) (I:Inv (X.caught x oe) pins σ H s):Inv X pins σ H s:=
 ⟨ok,I.os,I.bare,I.base,I.loc,I.cell,I.free,I.freeC,fun p hp=>I.pin p (List.mem_cons_of_mem _ hp),I.hok,I.len⟩
theorem Inv.gone {i:Nat}{n:Str}{m:Str->Option Value}{v:Option Value}{h':Heap}{t':Nat} (I:Inv X pins σ H s) (hN:X.N.Nodup) (hi:X.N[i]? =some n)
 (hl:∀(i:Nat) (x:Str) (v:V),X.N[i]? =some x->σ[i]? =some (some v)->Vis X.env.scope x->∃u,RelV v u/\Look X.env s.heap m x u) (hn:s.heap.Ns X.env.locals m)
 (hn':h'.Ns X.env.locals (fun x=>if x=n then v else m x)) (hs:Heap.SameBut X.env.locals s.heap h'):Inv X pins (σ.set i none) H { s with heap:=h',toks:=t'}:=by
 obtain⟨oL,_,_,hoL,_⟩:=id hn
 have cne:=I.cne
 have up:∀ {b:Addr}{o:Obj},X.s₀.heap.get? b=some o->b≠X.env.locals:=fun e=>Nat.ne_of_lt (Nat.lt_of_lt_of_le (Heap.lt_size e) I.ok.above)
 refine⟨I.ok,I.os,I.bare,⟨fun b o e n hb hx=>(hs.2 b (up e)).trans (I.base.keep b o e n hb hx),fun b o e n hb hx=> ?_,I.base.free,fun b o e hx=> ?_,I.base.tups,I.base.frzs,I.base.tbls⟩,⟨_,hn',fun j y v' e1 e2 e3=> ?_⟩,fun y c e=> ?_,I.free,I.freeC,fun p hp=> ?_,fun b ob e=> ?_,by simpa using I.len⟩
 . obtain⟨sl,e1⟩:=I.base.slot b o e n hb hx
   exact⟨sl,(hs.2 b (up e)).trans e1⟩
 . obtain⟨o',e1⟩:=I.base.there b o e hx
   exact⟨o',(hs.2 b (up e)).trans e1⟩
 . have hj:j≠i:=fun z=>by
    subst z
    rw [List.getElem?_set]at e2
    simp at e2
   rw [List.getElem?_set_ne (Ne.symm hj)]at e2
   obtain⟨u',r',q⟩:=hl j y v' e1 e2 e3
   refine⟨u',r',?_⟩
   rcases q with⟨k,e⟩ | ⟨k,c,e,z⟩
   . refine .inl ⟨k,?_⟩
     have:y≠n:=fun e=>hj (M6 hN e1 (e▸hi))
     simp [this,e]
   . exact .inr ⟨k,c,e,z.sameBut hs (cne y c e)⟩
 . obtain⟨w',z⟩:=I.cell y c e
   exact⟨w',z.sameBut hs (cne y c e)⟩
 . obtain⟨e,n,ne,nf,d⟩:=I.pin p hp
   exact⟨(hs.2 p.1 ne).trans e,n,ne,nf,d⟩
 . refine(I.hok b ob e).stay (fun c w' hc q=>(hs.2 c ?_).trans q) (fun _ q=>q) fun _ _ q=>q
   rintro rfl
   rcases hc with rfl | hc
   . rw [I.free]at e;cases e
   . rw [I.free]at hc;cases hc
end
noncomputable def Rb (X:Cx) (st:Stmt) (e:Expr) (g:V->St->St):Prop:=∀(pins:List (Addr × Obj)) (s:Shared) (σ:St) (H:Hp) (E:Value->Shared->Prop) (Q:VK) (R:Flow->Shared->Prop),Inv X pins σ H s->
 wpAny (model X.prog X.w) X.A (eval e X.env) (EP X pins σ Q) E s->(∀v H1 s1,Q v H1->Inv X pins (g v σ) H1 s1->R .next s1)->wpAny (model X.prog X.w) X.A (exec st X.env) R E s
theorem Ms {X:Cx}{i:Nat}{x:Str}{e:Expr}{pos pos':Pos} (hN:X.N.Nodup) (hi:X.N[i]? =some x) (hx:Loc X.env.scope x) (hs:swapsWith e (some (.Name x pos')) pos.line X.env=pure false:=by rfl) (hf:X.fn x=true\/X.env.scope.names.lookup x=some .local :=by first | exact .inl rfl | exact .inr rfl | assumption):
 Rb X (.Assign [.Name x pos'] e pos) e (fun v σ=>σ.set i (some v)):=by
 intro pins s σ H E Q R I h k
 refine wpAny_Assign_Name (thn h fun v s1 ⟨y,H1,I1,r1,q1⟩=> ?_) hs
 exact Hz I1 hN hi hx r1 (fun s2 I2=>k y H1 s2 q1 I2) hf
section
variable {X:Cx}{pins:List (Addr × Obj)}{σ:St}{H:Hp}{s s':Shared}{C:Addr}{e:Value}{cx n:Str}{np pos hpos:Pos}{b0:Stmt}{suite:List Stmt}{D:Ends}{i:Nat}{ts:Addr->Obj->TS}
theorem SP.uncaught {x:Addr}{oe:Obj} (ok:X.Ok) {f:Flow} (h:SP (X.caught x oe) pins D f s):SP X pins D f s:=by
 cases f with
 | next=>obtain⟨σ',H',I,q⟩:=h;exact⟨σ',H',I.uncaught ok,q⟩
 | brk=>obtain⟨σ',H',I,q⟩:=h;exact⟨σ',H',I.uncaught ok,q⟩
 | cont=>obtain⟨σ',H',I,q⟩:=h;exact⟨σ',H',I.uncaught ok,q⟩
 | ret u=>obtain⟨v,σ',H',I,r,q⟩:=h;exact⟨v,σ',H',I.uncaught ok,r,q⟩
theorem tried {k:Nat}{f:Str}{ps:List Str}{sp:Sp}{a:Expr}{as:List Expr}{ta:TA}{E:XK}{Q:VK}{XE:Value->Shared->Prop}{p cpos:Pos} (Ca:Ny X.prog X.w X.K X.mg X.base k f ps sp) (hr:Gn k X.A) (ha:PA X.nox (a::as) ta) (I:Inv X pins σ H s)
 (h:ta σ H fun vs H1=>sp vs H1 Q E) (hx:∀s1 H1 e s',Inv X pins σ H1 s1->CXE X.prog X.w X.stack H1 s1 E e s'->XE e s') (hg:Gl X f) (hdb:(f==("__debug__":Str))=false) (he:starEach (a::as) X.env=(false,eval a X.env)::starEach as X.env) (hpl:(backTo cpos (starEach as X.env)).any (·.1)=false):
 wpAny (model X.prog X.w) X.A (eval (.Call (.Name f p) (a::as) [] cpos) X.env) (EP X pins σ Q) XE s:=by
 obtain⟨f',fd,G,hm,hk,hb⟩:=Ca
 refine wpAny_Call_Name_kw (Jh I hg hm ?_ hdb)
 refine PySem.W.callWith_K (h₀:=X.base) I.ok.mod.kin hk (wpAny_mono (ha cpos pins s σ H _ (I.wish _) h) (fun us s1 ⟨vs,H1,I1,r,q⟩=>⟨I1.unwish.kIn,?_⟩) fun _ _ z=>False.elim z) he hpl
 have I1:Inv X pins σ H1 s1:=I1.unwish
 have hl:us.length=ps.length:=by rw [<-r.length];exact G.len _ _ _ _ q
 have hb':=hb s1 us I1.kIn (by rw [List.append_nil];exact hl)
 rw [List.append_nil]at hb'
 refine wpAny_call (codeAny_mono (G.run X.A X.stack s1 H1 ⟨us,[]⟩ us vs Q E hr I1.env0 hb' r q) fun r s' hq=> ?_)
 cases r with
 | error e=>exact hx s1 H1 e s' I1 hq
 | ok fl=>
   cases fl with
   | ret u=>exact I1.after hq
   | next=>exact False.elim hq
   | brk=>exact False.elim hq
   | cont=>exact False.elim hq
end
end L2
namespace L2
open PySem PySem.Spec PyProof.Rows
set_option maxRecDepth 100000
structure Qc (K:PySem.W.Frag) (C:Addr):Prop where
 ga:PySem.W.findIn K (.ref C) "__getattribute__"=some (some (.builtin "BaseException.__getattribute__"))
 gn:PySem.W.findIn K (.ref C) "__getattr__"=some none
 cl:PySem.W.findIn K (.ref C) "__class__"=some (some (.builtin "object.__class__"))
 ob:PySem.W.mroIn K C (.type "object")=some true
 be:PySem.W.mroIn K C (.type "BaseException")=some true
theorem Qc.is {K:PySem.W.Frag}{C:Addr} (Z:Qc K C):(PySem.W.clsIn K C).isSome=true:=by
 obtain⟨cd,a,_⟩:=Option.bind_eq_some_iff.mp Z.ob
 rw [a];rfl
section
variable {prog:Program}{w:World}{A:Around}{E:Value->Shared->Prop}{K:PySem.W.Frag}{x C:Addr}{oe:Obj}{h:Heap}{g:Array GenState}{d:Drawn}{t:Nat}{os:OsState}
theorem Zb {M:Model} (hx:h.get? x=some oe) (hc:oe.cls= .ref C):PySem.W.Looks M h (typeOf (.ref x)) (.ref C):=hc▸(PySem.W.Looks.ld hx).andThen .now
theorem Xa {R:Result->Shared->Prop} (X:K.In h) (Z:Qc K C) (hx:h.get? x=some oe) (hc:oe.cls= .ref C) (q:R (.ok (.ret (.ref C))) ⟨h,g,d,t,os⟩):
 codeAny (model prog w) A (.call (.builtin "getset_descriptor.__get__") ⟨[.builtin "object.__class__",.ref x,.ref C],[]⟩) R ⟨h,g,d,t,os⟩:=by
 have l0:=Zb (M:=model prog w) hx hc
 have l1:=PySem.W.looks_mroIn (M:=model prog w) X Z.ob
 have tg:(⟨h,g,d,t,os⟩:Shared).TypeIs (.builtin "object.__class__") "getset_descriptor":=PySem.W.KF.type_class
 have ow:(".".intercalate ("object.__class__".cutAt '.').dropLast)="object":=by decide+kernel
 refine codeAny_call_builtin PySem.F.slot_gs_get.plain PySem.F.entry_gs_get (PySem.F.slot_gs_get.check _ _ _ _ _ _ _ _ tg (PySem.F.args_gs_get _ _ _) ?_)
 repeat (any_goals (first | assumption | (with_reducible refine wpAny_loadPart_at hx ?_;rw [hc]) | (rw [ow];with_reducible refine l1.at ?_) | wp_step))
 refine⟨Code.quiet_builtin _ (by decide+kernel),codeAny_builtin PySem.W.KF.entry_class ?_⟩
 unfold Builtin.«object.__class__» shownTypeOf
 repeat (any_goals (first | assumption | (with_reducible refine wpAny_loadPart_at hx ?_;rw [hc]) | wp_step))
theorem W9 {tk:Tok}{Q:Fin->Shared->Prop} (X:K.In h) (Z:Qc K C) (hx:h.get? x=some oe) (hc:oe.cls= .ref C) (q:Q (.done (.ret (.ref C))) ⟨h,g,d,t,os⟩):
 wpAny (model prog w) A (Builtin.«object.__getattribute__» ⟨[.ref x,.str "__class__" tk],[]⟩) Q E ⟨h,g,d,t,os⟩:=by
 have tg:(⟨h,g,d,t,os⟩:Shared).TypeIs (.builtin "object.__class__") "getset_descriptor":=PySem.W.KF.type_class
 have l2:=PySem.W.looks_findIn (M:=model prog w) X Z.cl
 have f5:=PySem.W.KF.type_class
 have f6:=PySem.F.slot_gs_get.lookup
 have f7:=PySem.F.slot_gs_set.lookup
 repeat (any_goals (first | assumption | (with_reducible refine wpAny_loadPart_at hx ?_;rw [hc]) | with_reducible refine l2.at ?_ | wp_step))
 refine Xa X Z hx hc ?_
 repeat (any_goals (first | assumption | wp_step))
theorem W8 {M:Model}{nv:Value}{Q:Unit->Shared->Prop} (X:K.In h) (Z:Qc K C) (hx:h.get? x=some oe) (hc:oe.cls= .ref C) (q:Q () ⟨h,g,d,t,os⟩):wpAny M A (checkBuiltinCall "BaseException.__getattribute__" ⟨[.ref x,nv],[]⟩) Q E ⟨h,g,d,t,os⟩:=by
 have k1:builtinKind "BaseException.__getattribute__"=some .slot:=by decide+kernel
 have k2:splitId "BaseException.__getattribute__"=some ("BaseException","__getattribute__"):=by decide+kernel
 have l1:=PySem.W.looks_mroIn (M:=M) X Z.be
 have ar:=PySem.F.args_bexc_ga (.ref x) nv
 simp only [checkBuiltinCall,k1,k2]
 refine wpAny_bind ?_
 unfold isInstance
 repeat (any_goals (first | assumption | (with_reducible refine wpAny_loadPart_at hx ?_;rw [hc]) | with_reducible refine l1.at ?_ | wp_step))
theorem Zj {tk:Tok}{Q:Value->Shared->Prop} (X:K.In h) (Z:Qc K C) (hx:h.get? x=some oe) (hc:oe.cls= .ref C) (q:Q (.ref C) ⟨h,g,d,t,os⟩):
 wpAny (model prog w) A (getAttrBy (.ref x) (.str "__class__" tk) false) Q E ⟨h,g,d,t,os⟩:=by
 have f3:=PySem.F.attr_ValueError.ga.bind (.ref x)
 have y0:(false&&onTheHeap (Value.builtin "BaseException.__getattribute__"))=false:=rfl
 have y1:(onTheHeap (Value.ref C)&&Value.builtin "BaseException.__getattribute__"==Value.builtin "object.__getattribute__")=false:=by
  rw [show(Value.builtin "BaseException.__getattribute__"==Value.builtin "object.__getattribute__")=false by decide+kernel];rfl
 have l2:=PySem.W.looks_findIn (M:=model prog w) X Z.ga
 have l3:=PySem.W.looks_findIn (M:=model prog w) X Z.gn
 repeat (any_goals (first | assumption | (with_reducible refine wpAny_loadPart_at hx ?_;rw [hc]) | with_reducible refine l2.at ?_ | with_reducible refine l3.at ?_ | wp_step))
 refine codeAny_call_builtin PySem.F.attr_ValueError.ga.plain PySem.F.entry_bexc_ga (W8 X Z hx hc (W9 X Z hx hc ?_))
 repeat (any_goals (first | assumption | wp_step))
theorem Uy {Q:Option Value->Shared->Prop} (X:K.In h) (Z:Qc K C) (hx:h.get? x=some oe) (hc:oe.cls= .ref C) (q:Q (some (.ref C)) ⟨h,g,d,t+1,os⟩):
 wpAny (model prog w) A (getAttr? (.ref x) "__class__") Q E ⟨h,g,d,t,os⟩:=by
 unfold getAttr? getAttrBy?
 repeat (any_goals (first | assumption | with_reducible apply Zj X Z hx hc | wp_step))
theorem Rv (Z:Qc K C) (hc:oe.cls= .ref C):PySem.W.KitX K (.ref x) (.ref C) (fun h=>h.get? x=some oe) where
 ty:=fun _ _ _ hx=>Zb hx hc
 it:=fun M h X _=>by
  obtain⟨cd,e⟩:=Option.isSome_iff_exists.mp Z.is
  unfold PySem.W.clsIn at e
  split at e
  . rename_i c1 d1 cd1 sl1 ho
    intro A' Q' E' s' k q
    unfold isType loadHead
    exact wpAny_bind (wpAny_loadPart (k _ _ (X _ _ ho)) (wpAny_pure q))
  . cases e
 ne:=fun h tp dd its n sl X htp=>by
  obtain⟨cd,e⟩:=Option.isSome_iff_exists.mp Z.is
  refine Bool.eq_false_iff.mpr fun q=> ?_
  cases Value.ref.inj (beq_iff_eq.mp q)
  unfold PySem.W.clsIn at e
  split at e
  . rename_i c1 d1 cd1 sl1 ho
    cases(X _ _ ho).symm.trans htp
  . cases e
 ca:=fun {_ _ _ _ _ s} X hx q=>by
  obtain⟨h,g,d,t,os⟩:=s
  exact Uy X Z hx hc q
end
theorem Ge {X:Cx}{x C:Addr}{oe:Obj} (hp:(x,oe)∈X.pn) (hc:oe.cls= .ref C) (Z:Qc X.K C):Gm X (.builtin "isinstance") (fun xs H Q=>∃b,((∃C2,xs=[.ref x,.ref C2]/\PySem.W.kitOne X.K (.ref C) (.ref C2)=some b)\/∃T,xs=[.ref x,.ty T]/\PySem.W.kitOne X.K (.ref C) (.type T)=some b)/\Q (.bl b) H):=by
 intro pins s σ H xs us Q I r h
 obtain⟨b,h,q⟩:=h
 have hx:=(I.pin (x,oe) (List.mem_append_left _ hp)).1
 rcases h with⟨C2,rfl,e⟩ | ⟨T,rfl,e⟩
 . obtain⟨u,c,rfl,ru,rc⟩:=vals2 r
   cases ru;cases rc
   exact PySem.W.kia_one (Rv Z hc) I.kIn hx e (fun z=>nomatch z) fun tk=>⟨.bl b,H,I.tok tk,rfl,q⟩
 . obtain⟨u,c,rfl,ru,rc⟩:=vals2 r
   cases ru;cases rc
   exact PySem.W.kia_one (Rv Z hc) I.kIn hx e (fun z=>nomatch z) fun tk=>⟨.bl b,H,I.tok tk,rfl,q⟩
theorem nw {H H':Hp}{p:Addr}{o:HO} (hp:H p=none) (e:upd H p o=H'):Same H H'/\H' p=some o:=by
 subst e
 exact⟨Same.upd hp _,Ah⟩
end L2
namespace L2
open PySem PySem.Spec PyProof.Rows
noncomputable def Cd:Expr->Bool
 | .Starred _ _=>false
 | _=>true
theorem G3 {e:Expr}{es:List Expr}{env:Env} (h:Cd e=true):starEach (e::es) env=(false,eval e env)::starEach es env:=by
 cases e<;>first | rfl | cases h
theorem Hy {env:Env}{pos:Pos}:∀ {es:List Expr},es.all Cd=true->(backTo pos (starEach es env)).any (·.1)=false
 | [],_=>rfl
 | e::es,h=>by
   rw [List.all_cons,Bool.and_eq_true]at h
   rw [G3 h.1]
   have ih:=Hy (env:=env) (pos:=pos) h.2
   unfold backTo at ih ⊢
   rw [List.map_cons,List.any_cons,ih]
   rfl
section
variable {X:Cx}{e:Expr}{es:List Expr}{te:TE}{t:TA}{x:Str}{p pos:Pos}{id T:String}{r:List V->Hp->VK->Prop}{k:Nat}{ps:List Str}{sp:Sp}
theorem Ym (ha:PE X e te) (hr:PA X es t) (h:Cd e=true:=by rfl):PA X (e::es) (Wd te t):=Ei ha hr (G3 h)
theorem Vt (hc:Gm X (.builtin id) r) (hg:Gl X x) (hm:X.mg x=none) (hv:bootBuiltins x=some (.builtin id)) (ha:PA X (e::es) t) (h1:Cd e=true:=by rfl) (h2:es.all Cd=true:=by rfl) (hn:x≠"__name__":=by decide) (hdb:(x==("__debug__":Str))=false:=by decide):
 PE X (.Call (.Name x p) (e::es) [] pos) (tCB r t):=Xj hc hg hm hv ha hn hdb (G3 h1) (Hy h2)
theorem O7 (hc:Gm X (.type T) r) (hg:Gl X x) (hm:X.mg x=none) (hv:bootBuiltins x=some (.type T)) (ha:PA X (e::es) t) (h1:Cd e=true:=by rfl) (h2:es.all Cd=true:=by rfl) (hn:x≠"__name__":=by decide) (hdb:(x==("__debug__":Str))=false:=by decide):
 PE X (.Call (.Name x p) (e::es) [] pos) (tCB r t):=Vv hc hg hm hv ha hn hdb (G3 h1) (Hy h2)
theorem T4 (C:Cal X.prog X.w X.K X.mg X.base k x ps sp) (hr:Gn k X.A) (ha:PA X (e::es) t) (h1:Cd e=true:=by rfl) (h2:es.all Cd=true:=by rfl) (hg:Gl X x:=by rfl) (hdb:(x==("__debug__":Str))=false:=by decide):
 PE X (.Call (.Name x p) (e::es) [] pos) (Nq sp [] E0 t):=Nb C hr ha hg hdb (G3 h1) (Hy h2)
theorem T5 {n:Nat} (C:Cal X.prog X.w X.K X.mg X.base k x ps sp) (hr:Gn n X.A) (ha:PA X (e::es) t) (hk:k<=n:=by decide) (h1:Cd e=true:=by rfl) (h2:es.all Cd=true:=by rfl) (hg:Gl X x:=by rfl) (hdb:(x==("__debug__":Str))=false:=by decide):
 PE X (.Call (.Name x p) (e::es) [] pos) (Nq sp [] E0 t):=T4 C (hr.mono hk) ha h1 h2 hg hdb
theorem V3 {te:TE}{x:Str}{pos':Pos} (i:Nat) (hN:X.N.Nodup) (he:PE X e te) (hi:X.N[i]? =some x:=by rfl) (hx:Loc X.env.scope x:=by first | exact Or.inl rfl | exact Or.inr rfl) (hs:swapsWith e (some (.Name x pos')) pos.line X.env=pure false:=by rfl) (hf:X.fn x=true\/X.env.scope.names.lookup x=some .local :=by first | exact .inl rfl | exact .inr rfl | assumption):
 PS X (.Assign [.Name x pos'] e pos) (Xu te (Ig i)):=R8 hN hi hx he hs hf
theorem Xl {x:Str} (i:Nat) (hN:X.N.Nodup) (hi:X.N[i]? =some x:=by rfl) (hx:Loc X.env.scope x:=by first | exact Or.inl rfl | exact Or.inr rfl) (hf:X.fn x=true\/X.env.scope.names.lookup x=some .local :=by first | exact .inl rfl | exact .inr rfl | assumption):PG X (.Name x pos) (Ig i):=Qu hN hi hx hf
end
end L2
namespace L2
open PySem PySem.Spec PyProof.Rows
noncomputable def Itd (lo:Int) (n:Nat):It:=⟨fun i _=>i<n,fun i H x H'=>H'=H/\x= .int (lo-i),fun i _=>n<=i⟩
theorem Wh {P:Program}{w:World}{K:PySem.W.Frag}{tg:Expr} (it:Addr) (lo:Int) (n:Nat):Turn P w K tg (Itd lo n) [it] it (fun i h=>IsRangeIter h it (lo+(i:Nat)*(-1)) ((n:Int)-(i:Nat)) (-1)) where
 mem:=by simp
 obj:=fun i h st b hb=>by
  have e:b=it:=by simpa using hb
  subst e
  exact⟨_,st,fun v z=>by
   have z':Data.fields _=Data.cell v:=z
   cases z'⟩
 keep:=fun i h h' st k=>k it (by simp) _ st
 item:=by
  intro X hP hw hK hc i pins s σ H E I hf st hg
  subst hP hw hK
  obtain⟨f0,f1,f2,f3,f4,f5⟩:=hf it (by simp)
  have W:=Walks.range (prog:=X.prog) (w:=X.w) (I.ok.hd hc) it lo (-1) n
  refine W.item i s _ _ hg st fun v h' tk hv st' kk=> ?_
  obtain⟨t,rfl⟩:=hv
  have I1:Inv X pins σ H { s with heap:=h',toks:=tk}:=I.turned (fun b o hb e=>kk b o (by simpa using hb) e) f0 f1 f3 f4 f5
  refine⟨_,rfl,Xd (s:={ s with heap:=h',toks:=tk}) (n:="range_iterator") st' rfl rfl (by decide) ⟨.int (lo-i),H,I1,⟨t,?_⟩,⟨rfl,rfl⟩,st',fun b hb=>(hf b hb).1⟩⟩
  rw [Int.mul_neg,Int.mul_one,<-Int.sub_eq_add_neg]
 done:=by
  intro X hP hw hK hc i pins s σ H E I hf st hg
  subst hP hw hK
  obtain⟨f0,f1,f2,f3,f4,f5⟩:=hf it (by simp)
  exact wpAny_pyNext_range_end (I.ok.hd hc) st (by have:n<=i:=hg;omega) fun h' eb=>⟨rfl,I.turned (t':=s.toks) (fun b o hb e=>eb b o hb e) f0 f1 f3 f4 f5⟩
 self:=fun _ _ _ _ _ st h=>wpAny_pyIter_rangeiter st h
section
variable {X:Cx}{tg:Expr}
theorem Zh {pins:List (Addr × Obj)}{σ:St}{H:Hp}{s:Shared}{R:It->Hp->Prop}{E:Value->Shared->Prop}{lo hi:Int}{t u v:Tok}{tk:Nat} (I:Inv X pins σ H s) (h1: -(2^62)<=lo) (h2:lo<2^62) (h3: -(2^62)<=hi) (h4:hi<2^62)
 (q:R (Itd lo (lo-hi).toNat) H):wpAny (model X.prog X.w) X.A (pyIter (.ref s.heap.objs.size)) (PIE X pins σ tg R) E { s with heap:=s.heap.push { cls:= .type "range",data:= .fields #[.int lo t,.int hi u,.int (-1) v]},toks:=tk}:=by
 refine wpAny_pyIter_range (IsRange.new ..) (PySem.W.small_down h1 h2 h3 h4) ?_
 have I1:Inv X pins σ H { s with heap:=s.heap.push { cls:= .type "range",data:= .fields #[.int lo t,.int hi u,.int (-1) v]},toks:=tk}:=I.kept fun b o e=>Heap.get?_push_of_some _ e
 refine⟨(s.heap.push { cls:= .type "range",data:= .fields #[.int lo t,.int hi u,.int (-1) v]}).objs.size,[(s.heap.push { cls:= .type "range",data:= .fields #[.int lo t,.int hi u,.int (-1) v]}).objs.size],_,_,H,rfl,
  I1.kept (t':=tk) fun b o e=>Heap.get?_push_of_some _ e,Wh _ lo (lo-hi).toNat,?_,fun b hb=> ?_,q⟩
 . have e1:lo+((0:Nat):Int)*(-1)=lo:=by simp
   have e2:(((lo-hi).toNat:Nat):Int)-((0:Nat):Int)=Builtin.Range.rangeSize lo hi (-1):=by rw [PySem.W.rangeSize_downNat];omega
   show IsRangeIter _ _ (lo+((0:Nat):Int)*(-1)) ((((lo-hi).toNat:Nat):Int)-((0:Nat):Int)) (-1)
   rw [e1,e2]
   exact Heap.get?_push_size _ rfl
 . have e:b=(s.heap.push { cls:= .type "range",data:= .fields #[.int lo t,.int hi u,.int (-1) v]}).objs.size:=by simpa using hb
   subst e
   exact I1.fpOk (Nat.le_refl _) (I1.hok.fresh (Nat.le_refl _))
noncomputable def Zn (ta:TA):TI:=fun σ H R=>ta σ H fun vs H1=>∃i j:Int,vs=[.int i,.int j,.int (-1)]/\(-(2^62)<=i/\i<2^62/\ -(2^62)<=j/\j<2^62)/\R (Itd i (i-j).toNat) H1
theorem Qv {a b c:Expr}{ta:TA}{p pos:Pos} (hg:Gl X "range") (hm:X.mg "range"=none) (ha:PA X [a,b,c] ta) (h1:Cd a=true:=by rfl) (h2:[b,c].all Cd=true:=by rfl):
 PI X tg (.Call (.Name "range" p) [a,b,c] [] pos) (Zn ta):=by
 intro pins s σ H R I h
 refine Call_ (Jv I hg hm boot_range (PyProof.Rows.callWith_type1 (thn (ha pos pins s σ H _ I h) fun us s1 ⟨vs,H1,I1,r1,q1⟩=> ?_) (G3 h1) (Hy h2)))
 obtain⟨i,j,e,⟨q1,q2,q3,q4⟩,q⟩:=q1
 subst e
 cases r1 with
 | cons r rr=>
   cases rr with
   | cons r' rr=>
     cases rr with
     | cons r'' rr=>
       cases rr
       obtain⟨t,rfl⟩:=r
       obtain⟨t',rfl⟩:=r'
       obtain⟨t'',rfl⟩:=r''
       exact call_range_3 (by decide) (Zh I1 q1 q2 q3 q4 q) (.inl (PyProof.noPylong_of_log2 (by decide+kernel)))
theorem Ace {ta:TA}{σ:St}{H:Hp}{R:It->Hp->Prop}:Zn ta σ H R=ta σ H (fun vs H1=>∃i j:Int,vs=[.int i,.int j,.int (-1)]/\(-(2^62)<=i/\i<2^62/\ -(2^62)<=j/\j<2^62)/\R (Itd i (i-j).toNat) H1):=rfl
theorem Aeh {i j:Int}{G:Int->Int->Prop}:(∃i' j':Int,[V.int i,.int j,.int (-1)]=[.int i',.int j',.int (-1)]/\G i' j')=G i j:=propext ⟨fun⟨_,_,e,h⟩=>by cases e;exact h,fun h=>⟨i,j,rfl,h⟩⟩
end
theorem Wi {H:Hp}{lo:Int}{n:Nat}:Aa0 (Itd lo n) H (List.range n) (fun i=> .int (lo-(i:Nat))):=fun i=>by
 refine⟨fun e=> ?_,fun e h=> ?_⟩
 . have:=List.getElem?_eq_none_iff.mp e
   rw [List.length_range]at this
   exact this
 . obtain⟨h1,h2⟩:=List.getElem?_eq_some_iff.mp h
   rw [List.length_range]at h1
   rw [List.getElem_range]at h2
   subst h2
   exact⟨h1,fun x H3 ⟨a,b⟩=>⟨a,b⟩⟩
end L2
namespace L2
open PySem PySem.Spec PyProof.Rows
theorem Aa7 {σ:St}{H:Hp}{g:TG}{tb:TS}{D:Ends}{J:It} (n:Nat) (inj:Nat->V) (Pv:Nat->St->Hp->Prop) (h0:Pv 0 σ H) (hw:∀i σ H,Pv i σ H->Aa0 J H (List.range n) inj)
 (hs:∀i σ H,i<n->Pv i σ H->g (inj i) σ H fun σ2 H2=>tb { D with nx:=Pv (i+1),ct:=Pv (i+1),bk:=D.nx} σ2 H2) (hd:∀σ H,Pv n σ H->D.nx σ H):FI J g tb D σ H:=by
 refine Xb (es:=List.range n) (inj:=inj) (fun pre=>Pv pre.length) h0 (fun pre σ H p=>hw pre.length σ H p) (fun pre e post σ H he p=> ?_) (fun σ H p=>hd σ H (by rw [List.length_range]at p;exact p))
 have hl:=congrArg List.length he
 rw [List.length_range,List.length_append,List.length_cons]at hl
 have ee:e=pre.length:=by
  have:=congrArg (fun l=>l[pre.length]?) he
  simp only [List.getElem?_append_right (Nat.le_refl _),Nat.sub_self,List.getElem?_cons_zero]at this
  rw [List.getElem?_range (by omega)]at this
  exact(Option.some.inj this).symm
 subst ee
 have:=hs pre.length σ H (by omega) p
 rw [List.length_append,List.length_singleton]
 exact this
theorem Same.put {H H':Hp}{p:Addr}{o:HO} (s:Same H H') (hp:H p=none):Same H (L2.upd H' p o):=fun b u e=>by
 rw [Bb (Bj e hp)]
 exact s b u e
end L2
namespace L2
open PySem PySem.Spec PyProof.Rows
noncomputable def Adj (K:PySem.W.Frag) (tl:TE):TI:=fun σ H R=>tl σ H fun x H1=>∃a,x= .ref a/\(((∃xs,SqL K H1 a xs)/\R (Itl K a) H1)\/((∃xs,SqT K H1 a xs)/\R (Itt K a) H1))
theorem Abu {X:Cx}{tg l:Expr}{tl:TE} (hl:PE X l tl):PI X tg l (Adj X.K tl):=by
 intro pins s σ H R I h
 refine thn (hl pins s σ H _ I h) fun v s1 ⟨x,H1,I1,r1,q1⟩=> ?_
 obtain⟨a,e,q1⟩:=q1
 subst e
 cases r1
 have fp:∀b∈ [s1.heap.objs.size],N6 X pins H1 b:=fun b hb=>by
  have e:b=s1.heap.objs.size:=by simpa using hb
  subst e
  exact I1.fpOk (Nat.le_refl _) (I1.hok.fresh (Nat.le_refl _))
 rcases q1 with⟨⟨xs,hq⟩,q⟩ | ⟨⟨xs,hq⟩,q⟩
 . obtain⟨its,rv,p,hz⟩:=I1.list hq
   exact wpAny_pyIter_list p.isList ⟨s1.heap.objs.size,[s1.heap.objs.size],_,_,H1,rfl,I1.kept (t':=s1.toks) fun b o e=>Heap.get?_push_of_some _ e,Py a _,⟨_,Heap.get?_push_size _ rfl,rfl,rfl⟩,fp,q⟩
 . obtain⟨its,rv,p,hz⟩:=I1.tuple hq
   exact wpAny_pyIter_tuple (show s1.heap.IsTuple a its.toArray from p) ⟨s1.heap.objs.size,[s1.heap.objs.size],_,_,H1,rfl,I1.kept (t':=s1.toks) fun b o e=>Heap.get?_push_of_some _ e,Ml a _,⟨_,Heap.get?_push_size _ rfl,rfl,rfl⟩,fp,q⟩
theorem Ack {K:PySem.W.Frag}{tl:TE}{σ:St}{H:Hp}{R:It->Hp->Prop}:Adj K tl σ H R=tl σ H (fun x H1=>∃a,x= .ref a/\(((∃xs,SqL K H1 a xs)/\R (Itl K a) H1)\/((∃xs,SqT K H1 a xs)/\R (Itt K a) H1))):=rfl
end L2
namespace L2
theorem Bm {t u:TS}{D:Ends}{σ:St}{H:Hp} (P:St->Hp->Prop) (h1:∀N:St->Hp->Prop,(∀σ' H',P σ' H'->N σ' H')->t { D with nx:=N} σ H) (h2:∀σ' H',P σ' H'->u D σ' H'):Ac7 t u D σ H:=h1 (u D) h2
end L2
namespace L2
open PySem PySem.Spec PyProof.Rows
noncomputable def tCV (i:Nat) (a:Addr) (sp:Sp) (E:XK) (t:TA):TE:=fun σ H Q=>σ[i]? =some (some (.ref a))/\t σ H fun vs H1=>sp vs H1 Q E
theorem Afm {i:Nat}{a:Addr}{sp:Sp}{E:XK}{t:TA}{σ:St}{H:Hp}{Q:VK}:tCV i a sp E t σ H Q=(σ[i]? =some (some (.ref a))/\t σ H fun vs H1=>sp vs H1 Q E):=rfl
end L2
namespace L2
open PySem PySem.Spec PyProof.Rows
noncomputable def Ac0 (K:PySem.W.Frag) (a:Addr):It:=
 ⟨fun i H=>∃xs x,SqL K H a xs/\xs[i]? =some x,fun i H x H'=>∃p v,(∀xs,SqL K H a xs->xs[i]? =some v)/\H p=none/\x= .ref p/\H'=upd H p (.tup [.int (i:Nat),v]),fun i H=>∃xs,SqL K H a xs/\xs.length<=i⟩
theorem K3 {h:Heap}{a:Addr}{its:Array Value} (p:PlainL h a its):h.IsList a its:=by
 obtain⟨o,n,e,c,_,d⟩:=p
 exact⟨o,e,c,n,d⟩
theorem Xx {P:Program}{w:World}{K:PySem.W.Frag}{el:List Expr}{x1}{tp:Pos} (a e j:Addr) (ne:e≠j):Turn P w K (.Tuple el x1 tp) (Ac0 K a) [e,j] e (fun i h=>(∃old,IsEnum h e j i old)/\h.IsListIter j a i) where
 mem:=by simp
 obj:=fun i h st b hb=>by
  obtain⟨⟨old,he⟩,oj,ej,cj,dj⟩:=st
  rcases List.mem_cons.mp hb with rfl | hb
  . exact⟨_,he,fun v z=>by cases(show Data.fields _=Data.cell v from z)⟩
  . have z:b=j:=by simpa using hb
    subst z
    exact⟨oj,ej,fun v z=>by rw [dj]at z;cases z⟩
 keep:=fun i h h' st k=>by
  obtain⟨⟨old,he⟩,oj,ej,r⟩:=st
  exact⟨⟨old,k e (by simp) _ he⟩,oj,k j (by simp) _ ej,r⟩
 item:=by
  intro X hP hw hK hc i pins s σ H E I hf st hg
  subst hP hw hK
  obtain⟨xs,x,hq,hx⟩:=hg
  obtain⟨its,rv,p,hz⟩:=I.list hq
  obtain⟨u,hu,ru⟩:=rv.get hx
  obtain⟨⟨old,he⟩,hj⟩:=st
  refine wpAny_pyNext_enum_item he hj (K3 p) (x:=u) (by simpa using hu) ne fun g hout hj' hT hsz kk=>⟨_,rfl,?_⟩
  refine wpAny_letOwnedTupleGo_enum hout fun g2 he2 sb2=> ?_
  replace sb2:Heap.SameBut e g g2:=sb2
  have lte:e<s.heap.objs.size:=Heap.lt_size he
  have ltj:j<s.heap.objs.size:=by
   obtain⟨_,ej,_⟩:=hj
   exact Heap.lt_size ej
  have hn:H s.heap.objs.size=none:=I.fresh
  have I1:Inv X pins σ (upd H s.heap.objs.size (.tup [.int (i:Nat),x])) { s with heap:=s.heap.push { cls:= .type "tuple",data:= .seq #[.int i s.toks,u]},toks:=s.toks+1}:=
   I.laid (fun b o q=>Heap.get?_push_of_some _ q) (Nat.le_refl _) ⟨by show 2<=sizeLine;decide,[.int i s.toks,u],.cons ⟨_,rfl⟩ (.cons ru .nil),⟨_,Heap.get?_push_size _ rfl,rfl,_,rfl⟩⟩
  have fp':∀b∈ [e,j],N6 X pins (upd H s.heap.objs.size (.tup [.int (i:Nat),x])) b:=fun b hb=>by
   have nb:b≠s.heap.objs.size:=by
    rcases List.mem_cons.mp hb with rfl | hb'
    . exact Nat.ne_of_lt lte
    . have z:b=j:=by simpa using hb'
      subst z
      exact Nat.ne_of_lt ltj
   exact⟨by rw [Bb nb];exact(hf b hb).1,(hf b hb).2⟩
  have I2:=I1.turnL (h':=g2) (t':=s.toks+1) (fp:=[e,j]) (fun b o hb q=>by
   have n1:b≠e:=fun z=>hb (by simp [z])
   have n2:b≠j:=fun z=>hb (by simp [z])
   refine(sb2.2 b n1).trans ?_
   rcases Heap.get?_push_cases q with⟨rfl,rfl⟩ | q0
   . exact hT
   . exact kk b o n1 n2 q0) fp'
  refine⟨.ref s.heap.objs.size,_,I2,rfl,⟨_,x,fun ys hy=>by rw [I.list_inj hy hq];exact hx,hn,rfl,rfl⟩,⟨⟨_,by simpa using he2⟩,?_⟩,fun b hb=>(fp' b hb).1⟩
  exact hj'.extBut sb2.extBut (Ne.symm ne)
 done:=by
  intro X hP hw hK hc i pins s σ H E I hf st hg
  subst hP hw hK
  obtain⟨xs,hq,hx⟩:=hg
  obtain⟨its,rv,p,hz⟩:=I.list hq
  obtain⟨⟨old,he⟩,hj⟩:=st
  have hl:=rv.length
  exact wpAny_pyNext_enum_end (I.ok.hd hc) he hj (K3 p) (by simp;omega) fun g eb=>⟨rfl,I.turnL (t':=s.toks) (fp:=[e,j]) (fun b o hb q=>eb b o (fun z=>hb (by simp [z])) q) hf⟩
 self:=fun _ _ _ _ _ st h=>by
  obtain⟨⟨old,he⟩,_⟩:=st
  exact wpAny_pyIter_enum he h
section
variable {X:Cx}{a:Expr}{ta:TA}{el:List Expr}{x1}{tp p pos:Pos}
noncomputable def Adk (K:PySem.W.Frag) (ta:TA):TI:=fun σ H R=>ta σ H fun vs H1=>∃a,vs=[.ref a]/\(∃xs,SqL K H1 a xs)/\R (Ac0 K a) H1
theorem Yq (hg:Gl X "enumerate") (hm:X.mg "enumerate"=none) (ha:PA X [a] ta) (hs:starEach [a] X.env=[(false,eval a X.env)]:=by rfl):PI X (.Tuple el x1 tp) (.Call (.Name "enumerate" p) [a] [] pos) (Adk X.K ta):=by
 intro pins s σ H R I h
 refine Call_ (Jv I hg hm boot_enumerate (PyProof.Rows.callWith_type1 (thn (ha pos pins s σ H _ I h) fun us s1 ⟨vs,H1,I1,r1,q1⟩=> ?_) hs rfl))
 obtain⟨b,rfl,⟨xs,hq⟩,q⟩:=q1
 obtain⟨v,rfl,rv⟩:=vals1 r1
 cases rv
 obtain⟨its,rr,pl,hz⟩:=I1.list hq
 refine call_enumerate_list (K3 pl) fun h' he hj hsz hk=> ?_
 have I2:Inv X pins σ H1 { s1 with heap:=h'}:=I1.kept (t':=s1.toks) hk
 refine wpAny_pyIter_enum he ⟨s1.heap.objs.size+1,[s1.heap.objs.size+1,s1.heap.objs.size],_,_,H1,rfl,I2,Xx b _ _ (Nat.ne_of_gt (Nat.lt_succ_self _)),⟨⟨_,he⟩,hj⟩,fun c hcm=> ?_,q⟩
 have hge:s1.heap.objs.size<=c:=by
  rcases List.mem_cons.mp hcm with rfl | hcm
  . exact Nat.le_succ _
  . have z:c=s1.heap.objs.size:=by simpa using hcm
    exact Nat.le_of_eq z.symm
 exact I1.fpOk hge (I1.hok.fresh hge)
end
theorem Acl {K:PySem.W.Frag}{σ:St}{H:Hp}{ta:TA}{R:It->Hp->Prop}:Adk K ta σ H R=ta σ H (fun vs H1=>∃a,vs=[.ref a]/\(∃xs,SqL K H1 a xs)/\R (Ac0 K a) H1):=rfl
theorem Aa6 {K:PySem.W.Frag}{σ:St}{H:Hp}{g:TG}{tb:TS}{D:Ends}{α:Type}{es:List α}{inj:α->V}{a:Addr} (Pv:List α->St->Hp->Prop) (h0:Pv [] σ H) (hw:∀pre σ H,Pv pre σ H->SqL K H a (es.map inj))
 (hs:∀pre e post σ H p,es=pre++e::post->Pv pre σ H->H p=none->g (.ref p) σ (upd H p (.tup [.int (pre.length:Nat),inj e])) fun σ2 H2=>tb { D with nx:=Pv (pre++ [e]),ct:=Pv (pre++ [e]),bk:=D.nx} σ2 H2) (hd:∀σ H,Pv es σ H->D.nx σ H):FI (Ac0 K a) g tb D σ H:=by
 refine⟨fun i m σ H=>m=es.length-i/\i<=es.length/\Pv (es.take i) σ H,⟨es.length,by simp,Nat.zero_le _,h0⟩,?_⟩
 rintro i m σ H ⟨rfl,hi,p⟩
 have w:=hw _ _ _ p
 cases he:es[i]? with
 | none=>
   have e:i=es.length:=Nat.le_antisymm hi (List.getElem?_eq_none_iff.mp he)
   subst e
   rw [List.take_length]at p
   exact .inl ⟨⟨_,w,by rw [List.length_map];exact Nat.le_refl _⟩,hd _ _ p⟩
 | some e=>
   obtain⟨hlt,ee⟩:=List.getElem?_eq_some_iff.mp he
   have tk:es.take (i+1)=es.take i++ [e]:=by rw [List.take_succ,he];rfl
   have sp:es=es.take i++e::es.drop (i+1):=by
    rw [<-ee,<-List.drop_eq_getElem_cons hlt,List.take_append_drop]
   refine .inr ⟨⟨_,inj e,w,by rw [List.getElem?_map,he];rfl⟩,Pv (es.take i++ [e]),fun σ' H' q=>⟨es.length-(i+1),by omega,rfl,hlt,by rw [tk];exact q⟩,fun x H' y=> ?_⟩
   obtain⟨b,v,y1,y2,rfl,rfl⟩:=y
   have y3:=y1 _ w
   rw [List.getElem?_map,he]at y3
   obtain rfl:inj e=v:=Option.some.inj y3
   have hl:(es.take i).length=i:=by rw [List.length_take];omega
   have z:=hs _ e _ σ H b sp p y2
   rw [hl]at z
   exact z
end L2
namespace L2
open PySem PySem.Spec PyProof.Rows
section
variable {M:Model}{A:Around}{E:Value->Shared->Prop}{K:PySem.W.Frag}{h:Heap}{g:Array GenState}{d:Drawn}{t:Nat}{os:OsState}{e C Dc:Addr}{oe:Obj}{Q:Bool->Shared->Prop}
theorem Ux (X:K.In h) (hD:Ae0 h Dc) (hs:PySem.W.mroIn K C (.ref Dc)=some true) (he:h.get? e=some oe) (hcls:oe.cls= .ref C) (hq:Q true ⟨h,g,d,t,os⟩):wpAny M A (excMatches (.ref e) (.ref Dc)) Q E ⟨h,g,d,t,os⟩:=by
 obtain⟨bm,N,nm,q,bs,hdct,sn,sub,ab,col,dd,k0,k1,k2,k3,k5,mN,hC,hN,hni,TL⟩:=hD
 have hB:bm.contains (.type "BaseException")=true:=TL.hasType (by decide)
 have hcB:(Value.ref Dc::bm).contains (.type "BaseException")=true:=by rw [List.contains_cons,hB,Bool.or_true]
 have f:=tc_notTuple
 unfold excMatches
 repeat (first | (with_reducible refine wpAny_loadPart_at he ?_;rw [hcls]) | with_reducible refine wpAny_loadPart_at hC ?_ | (with_reducible refine wpAny_isSubtype_exc hC ?_;rw [hcB]) | (with_reducible refine PySem.W.Looks.at (PySem.W.looks_mroIn X hs) ?_) | wp_step)
 exact hq
end
noncomputable def Above (K:PySem.W.Frag) (Dc C:Addr):Prop:=N5 K C/\Qc K C/\PySem.W.mroIn K C (.ref Dc)=some true
theorem Ae5 {α:Type}{p:α->Prop}:∀a∈([]:List α),p a:=fun _ h=>nomatch h
theorem Ae4 {α:Type}{p:α->Prop}{a:α}{as:List α} (h:p a) (r:∀b∈as,p b):∀b∈a::as,p b:=fun b hb=>by
 rcases List.mem_cons.mp hb with rfl | hb
 . exact h
 . exact r b hb
noncomputable def Aam (sp:Sp) (Cs:List Addr) (g:V->St->St) (i:Nat) (ta:TA) (ts:Addr->Addr->Obj->TS):TS:=fun D σ H=>ta σ H fun vs H1=>sp vs H1 (fun v H2=>D.nx (g v σ) H2)
 (fun c _ H2=>∃C,c= .ref C/\C∈Cs/\∀x oe,oe.cls= .ref C->ts C x oe { nx:=fun σ' H'=>D.nx (σ'.set i none) H',rt:=D.rt,bk:=fun σ' H'=>D.bk (σ'.set i none) H',ct:=fun σ' H'=>D.ct (σ'.set i none) H'} (σ.set i (some (.ref x))) H2)
theorem Acv {sp:Sp}{Cs:List Addr}{g:V->St->St}{i:Nat}{ta:TA}{ts:Addr->Addr->Obj->TS}{D:Ends}{σ:St}{H:Hp}:Aam sp Cs g i ta ts D σ H=ta σ H (fun vs H1=>sp vs H1 (fun v H2=>D.nx (g v σ) H2)
 (fun c _ H2=>∃C,c= .ref C/\C∈Cs/\∀x oe,oe.cls= .ref C->ts C x oe { nx:=fun σ' H'=>D.nx (σ'.set i none) H',rt:=D.rt,bk:=fun σ' H'=>D.bk (σ'.set i none) H',ct:=fun σ' H'=>D.ct (σ'.set i none) H'} (σ.set i (some (.ref x))) H2)):=rfl
section
variable {X:Cx}{pins:List (Addr × Obj)}{σ:St}{H:Hp}{s s':Shared}{Dc:Addr}{Cs:List Addr}{e:Value}{cx n:Str}{np pos hpos:Pos}{b0:Stmt}{suite:List Stmt}{D:Ends}{i:Nat}
theorem Zv {R:Flow->Shared->Prop}{E2:Addr->Hp->Prop}{nm:Option Str}{body:List Stmt} (I:Inv X pins σ H s) (h:CXE X.prog X.w X.stack H s (fun c _ H2=>∃C,c= .ref C/\C∈Cs/\E2 C H2) e s') (hq:N5 X.K Dc) (hm:X.mg cx=some (.ref Dc)) (hA:∀C∈Cs,Above X.K Dc C) (hst:X.stack=X.env::X.outer) (hf:X.env.frame=some X.env.locals) (hg:Gl X cx) (hdb:(cx==("__debug__":Str))=false)
 (k:∀C x oe H' h6 (g':Array GenState) d' t' o',C∈Cs->oe.cls= .ref C->E2 C H'->Inv (X.caught x oe) pins σ H' ⟨h6,g',d',t',o'⟩->∀B a0 h5,Heap.FlyingW B X.stack x (.ref C) a0 h5->(∀h7,Heap.FlyingW B X.stack x (.ref C) a0 h7->h5.UpToSlots h7->∃oe',oe'.cls= .ref C/\Inv (X.caught x oe') pins σ H' ⟨h7,g',d',t',o'⟩)->
   codeAny (model X.prog X.w) (X.A.mark (some (.ref x))) (.handlers (.ref x) [.ExceptHandler none nm body hpos] X.env) (fun r s₂=>match r with
    | .ok f=>(match nm with
      | none=>R f s₂
      | some n=>wpAny (model X.prog X.w) X.A (do bindName X.env n .none;unbindBehindTheSuite X.env n hpos) (fun _ s₃=>R f s₃) X.xe s₂)
    | .error y=>cameBackBy (model X.prog X.w) X.A X.env X.xe y s₂) ⟨h5,g',d',t',o'⟩):
 wpAny (model X.prog X.w) X.A (noteFrame e X.env) (fun _ s₂=>wpAny (model X.prog X.w) X.A (setFlight e none) (fun _ s₃=>wpAny (model X.prog X.w) X.A (handleBy e X.env [.ExceptHandler (some (.Name cx np)) nm body hpos]) R X.xe s₃) X.xe s₂) X.xe s':=by
 obtain⟨x,C,a0,B,H',rfl,os,bare,fl,fx,⟨C2,eC,hCs,q⟩⟩:=h
 obtain rfl:C=C2:=by cases eC;rfl
 obtain⟨hh,gg,dd,tt,oo⟩:=s'
 have cau:∀h7,Heap.FlyingW B X.stack x (.ref C) a0 h7->FX X.prog X.w (frs X.stack) H s.heap B H' h7->∃oe',oe'.cls= .ref C/\Inv (X.caught x oe') pins σ H' ⟨h7,gg,dd,tt,oo⟩:=fun h7 fl7 fx7=>by
  have J:Inv X pins σ H' ⟨h7,gg,dd,tt,oo⟩:=I.call' (s':=⟨h7,gg,dd,tt,oo⟩) (ch:=[]) os fx7.un fx7.hok bare fun b z=>absurd z (by simp)
  obtain⟨oe,vs,hoe,hc,hd,_⟩:=fl7.first
  have hx:x∉frs X.stack:=fun z=>by
   obtain⟨_,o,ho,hnf⟩:=fl7.2.2.1.mem z
   rw [hoe]at ho;cases ho
   exact hnf vs hd
  refine⟨oe,hc,J.caught hoe ?_ ?_ ?_ fun v z=>by rw [hd]at z;cases z⟩
  . cases z:H' x with
    | none=>rfl
    | some u=>
      obtain⟨o,eo⟩:=fx7.k2 x u z
      rw [fl7.2.1]at eo;cases eo
  . intro z
    exact hx (by rw [hst,z];unfold frs;rw [List.filterMap_cons,hf];exact List.mem_cons_self)
  . intro z
    exact hx (by rw [hst];unfold frs;rw [List.filterMap_cons,hf];exact List.mem_cons_of_mem _ z)
 have fl0:=fl
 rw [hst]at fl0
 refine wpAny_looks_onW (hst▸I.ok.frames) hf fl0 fun h4 held4 up4=> ?_
 refine wpAny_landsW held4 fun h5 fl5 up5=> ?_
 have fx5:=(fx.step held4.1 up4).step fl5.1 up5
 rw [<-hst]at fl5
 obtain⟨oe5,hc5,J5⟩:=cau h5 fl5 fx5
 refine wpAny_handleBy_cons (codeAny_handlers_test (Jh J5 hg hm ?_ hdb)) (by intro q;cases q)
 obtain⟨ob,hob,hobc⟩:=fl5.there
 refine Ux J5.kIn (hq.obj J5.kIn) (hA C hCs).2.2 hob hobc ?_
 exact k C x oe5 H' h5 gg dd tt oo hCs hc5 q J5 B a0 h5 fl5 fun h7 fl7 up7=>cau h7 fl7 (fx5.step fl7.1 up7)
end
section
variable {X:Cx}{Dc:Addr}{Cs:List Addr}{cx n f:Str}{np p cpos pos hpos:Pos}{b0 st:Stmt}{suite:List Stmt}{i k:Nat}{ts:Addr->Addr->Obj->TS}{ps:List Str}{sp:Sp}{a:Expr}{as:List Expr}{ta:TA}{g:V->St->St}
theorem Er (Ca:Ny X.prog X.w X.K X.mg X.base k f ps sp) (hr:Gn k X.A) (ha:PA X.nox (a::as) ta) (hb:Rb X st (.Call (.Name f p) (a::as) [] cpos) g) (hq:N5 X.K Dc) (hm:X.mg cx=some (.ref Dc)) (hA:∀C∈Cs,Above X.K Dc C)
 (hs:∀C,Qc X.K C->∀x oe,oe.cls= .ref C->PSs (X.caught x oe) (b0::suite) (ts C x oe)) (hN:X.N.Nodup) (hi:X.N[i]? =some n) (hst:X.stack=X.env::X.outer:=by rfl) (hf:X.env.frame=some X.env.locals:=by rfl) (hgc:Gl X cx:=by rfl) (hdc:(cx==("__debug__":Str))=false:=by decide)
 (hg:Gl X f:=by rfl) (hdb:(f==("__debug__":Str))=false:=by decide) (he:starEach (a::as) X.env=(false,eval a X.env)::starEach as X.env:=by rfl) (hpl:(backTo cpos (starEach as X.env)).any (·.1)=false:=by rfl) (hn:X.env.kindOf n=some .local :=by rfl) (hln:Loc X.env.scope n:=by exact Or.inl rfl) (hfn:X.env.scope.names.lookup n=some .local :=by rfl):
 PS X (.Try [st] [.ExceptHandler (some (.Name cx np)) (some n) (b0::suite) hpos] [] [] pos) (Aam sp Cs g i ta ts):=by
 intro pins s σ H D I h
 refine wpAny_Try_except (wpAny_execs_cons (hb pins s σ H _ (fun v H2=>D.nx (g v σ) H2) _ I (tried Ca hr ha I h (fun s1 H1 e s' I1 z=> ?_) hg hdb he hpl) fun v H1 s1 q I1=>wpAny_execs_nil (wpAny_execs_nil ⟨_,_,I1,q⟩)))
 refine Zv I1 z hq hm hA hst hf hgc hdc fun C x oe H' h6 g' d' t' o' hCs hc q J B a0 h5 fl nxt=> ?_
 refine codeAny_handlers_suite_as ?_
 refine lands_againW fl fun h7 fl7 up7=> ?_
 obtain⟨oe',hc',J7⟩:=nxt h7 fl7 up7
 refine Hz (X:=X.caught x oe') J7 hN hi hln (v:= .ref x) (u:= .ref x) rfl (fun s8 I8=> ?_) (.inr hfn)
 refine wpAny_mono (hs C (hA C hCs).2.1 x oe' hc' pins s8 _ H' _ I8 (q x oe' hc')) (fun fl s9 q9=> ?_) fun _ _ z=>False.elim z
 have go:∀ {σ':St}{H'':Hp}{R:Unit->Shared->Prop},Inv (X.caught x oe') pins σ' H'' s9->(∀s10,Inv X pins (σ'.set i none) H'' s10->R () s10)->wpAny (model X.prog X.w) X.A (do bindName X.env n .none;unbindBehindTheSuite X.env n hpos) R X.xe s9:=fun {σ' H'' R} J k=>by
  have J':=J.uncaught I.ok
  obtain⟨m,hn',hl⟩:=id J'.loc
  refine wpAny_nameGoes_keeps hn hn' (by rw [I.ok.kind];rfl) fun h' v hv hsb=>k _ ?_
  exact J'.gone hN hi hl hn' hv hsb
 cases fl with
 | next=>obtain⟨σ',H'',J9,q⟩:=q9;exact go J9 fun s10 J=>⟨_,_,J,q⟩
 | brk=>obtain⟨σ',H'',J9,q⟩:=q9;exact go J9 fun s10 J=>⟨_,_,J,q⟩
 | cont=>obtain⟨σ',H'',J9,q⟩:=q9;exact go J9 fun s10 J=>⟨_,_,J,q⟩
 | ret u=>obtain⟨v,σ',H'',J9,r,q⟩:=q9;exact go J9 fun s10 J=>⟨v,_,_,J,r,q⟩
end
section
variable {c:TT}{tb:TS}{D:Ends}{σ:St}{H:Hp}
noncomputable def WM (Pv:Nat->St->Hp->Prop) (tb:TS) (D:Ends) (m:Nat) (σ:St) (H:Hp):Prop:=∃N:St->Hp->Prop,(∀σ' H',N σ' H'->∃m',m'<m/\Pv m' σ' H')/\tb { D with nx:=N,ct:=N,bk:=D.nx} σ H
theorem X3 {Pv:Nat->St->Hp->Prop}{m:Nat} (h:tb { D with nx:=fun σ' H'=>∃m',m'<m/\Pv m' σ' H',ct:=fun σ' H'=>∃m',m'<m/\Pv m' σ' H',bk:=D.nx} σ H):WM Pv tb D m σ H:=⟨_,fun _ _ z=>z,h⟩
theorem Nv (Pv:Nat->St->Hp->Prop) (m0:Nat) (h0:Pv m0 σ H) (hs:∀m σ H,Pv m σ H->c σ H fun b H1=>if b=true then WM Pv tb D m σ H1 else D.nx σ H1):Sw c tb D σ H:=⟨Pv,⟨m0,h0⟩,hs⟩
end
end L2
namespace L2
open PySem PySem.Spec PyProof.Rows
noncomputable def It1 (t:Bool) (h:Heap) (j u:Addr) (k:Nat):Prop:=if t=true then h.IsTupleIter j u k else h.IsListIter j u k
noncomputable def Sq1 (t:Bool) (h:Heap) (u:Addr) (xs:Array Value):Prop:=if t=true then h.IsTuple u xs else h.IsList u xs
theorem It1.ext {t:Bool}{h g:Heap}{j u b:Addr}{k:Nat} (x:It1 t h j u k) (e:Heap.ExtBut b h g) (n:j≠b):It1 t g j u k:=by
 cases t
 . exact Heap.IsListIter.extBut x e n
 . exact Heap.IsTupleIter.extBut x e n
theorem It1.to {t:Bool}{h g:Heap}{j u:Addr}{k:Nat} (x:It1 t h j u k) (e:∀o,h.get? j=some o->g.get? j=some o):It1 t g j u k:=by
 cases t
 . exact Heap.IsListIter.at x e
 . exact Heap.IsTupleIter.at x e
theorem Sq1.ext {t:Bool}{h g:Heap}{u b:Addr}{xs:Array Value} (x:Sq1 t h u xs) (e:Heap.ExtBut b h g) (n:u≠b):Sq1 t g u xs:=by
 cases t
 . exact Heap.IsList.extBut x e n
 . exact Heap.IsTuple.extBut x e n
theorem It1.there {t:Bool}{h:Heap}{j u:Addr}{k:Nat} (x:It1 t h j u k):∃o,h.get? j=some o/\∀v,o.data≠ .cell v:=by
 cases t
 . obtain⟨o,e,_,d⟩:=(show h.IsListIter j u k from x)
   exact⟨o,e,fun v z=>by rw [d]at z;cases z⟩
 . obtain⟨o,e,_,d⟩:=(show h.IsTupleIter j u k from x)
   exact⟨o,e,fun v z=>by rw [d]at z;cases z⟩
theorem Sq1.push {t:Bool}{h:Heap}{u:Addr}{xs:Array Value} (x:Sq1 t h u xs) (o:Obj):Sq1 t (h.push o) u xs:=by
 cases t
 . exact Heap.IsList.push x _
 . obtain⟨ob,e,r⟩:=(show h.IsTuple u xs from x)
   exact⟨ob,Heap.get?_push_of_some _ e,r⟩
end L2
namespace L2
open PySem PySem.Spec PyProof.Rows
set_option maxRecDepth 100000
noncomputable abbrev TB:=St->Hp->(St->Hp->Prop)->XK->Prop
end L2
namespace L2
open PySem PySem.Spec PyProof.Rows
section
variable {κ:Type} [DecidableEq κ]
noncomputable def Ub (kvs:List (κ × V)) (k:κ):Option V:=(kvs.find? fun kv=>decide (kv.1=k)).map (·.2)
noncomputable def putK (kvs:List (κ × V)) (k:κ) (v:V):List (κ × V):=
 if(kvs.any fun kv=>decide (kv.1=k))=true then kvs.map (fun kv=>if kv.1=k then(kv.1,v)else kv)else kvs++ [(k,v)]
noncomputable def Aa2 (kvs:List (κ × V)) (k:κ):List (κ × V):=kvs.filter fun kv=>decide (kv.1≠k)
theorem Nu {p:κ × V}{r:List (κ × V)}{k:κ} (e:p.1=k):Ub (p::r) k=some p.2:=by simp [Ub,List.find?_cons,e]
theorem Nt {p:κ × V}{r:List (κ × V)}{k:κ} (e:¬p.1=k):Ub (p::r) k=Ub r k:=by simp [Ub,List.find?_cons,e]
theorem S5 (k:κ):∀kvs:List (κ × V),(kvs.any fun kv=>decide (kv.1=k))=(Ub kvs k).isSome
 | []=>rfl
 | p::r=>by
   rw [List.any_cons]
   by_cases e:p.1=k
   . simp only [Nu e,decide_eq_true e,Bool.true_or,Option.isSome_some]
   . rw [Nt e,decide_eq_false e,Bool.false_or];exact S5 k r
theorem Wu.isSome_eq {o:Option V}{u:Option Value} (r:Wu o u):o.isSome=u.isSome:=by
 cases o with
 | none=>cases u with
   | none=>rfl
   | some _=>exact(show False from r).elim
 | some _=>cases u with
   | none=>exact(show False from r).elim
   | some _=>rfl
theorem Wu.getD {o:Option V}{u:Option Value}{d:V}{d':Value} (r:Wu o u) (rd:RelV d d'):RelV (o.getD d) (u.getD d'):=by
 cases o with
 | none=>cases u with
   | none=>exact rd
   | some _=>exact(show False from r).elim
 | some _=>cases u with
   | none=>exact(show False from r).elim
   | some _=>exact r
theorem KV.val {kvs:List (κ × V)}{vs:List (κ × Value)} (r:KV kvs vs) (k:κ):Wu (Ub kvs k) (valueAt vs k):=by
 unfold KV at r
 induction r with
 | nil=>exact True.intro
 | @cons p q ps qs h t ih=>
   obtain⟨h1,h2⟩:=h
   by_cases e:p.1=k
   . have e':q.1=k:=h1.symm.trans e
     have b:valueAt (q::qs) k=some q.2:=by simp [valueAt,List.find?_cons,e']
     rw [Nu e,b];exact h2
   . have e':¬q.1=k:=fun z=>e (h1.trans z)
     have b:valueAt (q::qs) k=valueAt qs k:=by simp [valueAt,List.find?_cons,e']
     rw [Nt e,b];exact ih
theorem KV.any {kvs:List (κ × V)}{vs:List (κ × Value)} (r:KV kvs vs) (k:κ):(kvs.any fun kv=>decide (kv.1=k))=vs.any fun kv=>decide (kv.1=k):=by
 unfold KV at r
 induction r with
 | nil=>rfl
 | cons h t ih=>rw [List.any_cons,List.any_cons,ih,h.1]
theorem KV.repl {kvs:List (κ × V)}{vs:List (κ × Value)} (r:KV kvs vs) (k:κ) {y:V}{u:Value} (ry:RelV y u):
 KV (kvs.map fun kv=>if kv.1=k then(kv.1,y)else kv) (vs.map fun kv=>if kv.1=k then(kv.1,u)else kv):=by
 unfold KV at r ⊢
 induction r with
 | nil=>exact .nil
 | @cons p q ps qs h t ih=>
   rw [List.map_cons,List.map_cons]
   refine .cons ?_ ih
   obtain⟨h1,h2⟩:=h
   by_cases e:p.1=k
   . rw [if_pos e,if_pos (h1.symm.trans e)];exact⟨h1,ry⟩
   . rw [if_neg e,if_neg (fun z=>e (h1.trans z))];exact⟨h1,h2⟩
theorem KV.put {kvs:List (κ × V)}{vs:List (κ × Value)} (r:KV kvs vs) (k:κ) {y:V}{u:Value} (ry:RelV y u):KV (putK kvs k y) (stored vs k u):=by
 unfold putK stored
 rw [r.any k]
 by_cases e:(vs.any fun kv=>decide (kv.1=k))=true
 . rw [if_pos e,if_pos e];exact r.repl k ry
 . rw [if_neg e,if_neg e];exact Paired.snoc r ⟨rfl,ry⟩
theorem KV.drop {kvs:List (κ × V)}{vs:List (κ × Value)} (r:KV kvs vs) (k:κ):KV (Aa2 kvs k) (without vs k):=by
 unfold KV at r ⊢
 unfold Aa2 without
 induction r with
 | nil=>exact .nil
 | @cons p q ps qs h t ih=>
   obtain⟨h1,h2⟩:=h
   rw [List.filter_cons,List.filter_cons]
   by_cases e:p.1=k
   . have a:¬decide (p.1≠k)=true:=by simp [e]
     have b:¬decide (q.1≠k)=true:=by simp [h1.symm.trans e]
     rw [if_neg a,if_neg b];exact ih
   . have e':¬q.1=k:=fun z=>e (h1.trans z)
     have a:decide (p.1≠k)=true:=by simp [e]
     have b:decide (q.1≠k)=true:=by simp [e']
     rw [if_pos a,if_pos b];exact .cons ⟨h1,h2⟩ ih
theorem KV.length {kvs:List (κ × V)}{vs:List (κ × Value)} (r:KV kvs vs):kvs.length=vs.length:=Paired.length r
end
noncomputable abbrev KT (H:Hp):List (List Key × V)->List (List Key × Addr × Value)->Prop:=Paired fun p q=>p.1=q.1/\H q.2.1=some (.tup (p.1.map kV))/\RelV p.2 q.2.2
theorem KT.val {H:Hp}{kvs:List (List Key × V)}{xs:List (List Key × Addr × Value)} (r:KT H kvs xs) (k:List Key):Wu (Ub kvs k) ((atKey xs k).map (·.2)):=by
 induction r with
 | nil=>exact True.intro
 | @cons p q ps qs h t ih=>
   obtain⟨h1,_,h2⟩:=h
   by_cases e:p.1=k
   . have e':q.1=k:=h1.symm.trans e
     have b:atKey (q::qs) k=some q.2:=by simp [atKey,List.find?_cons,e']
     rw [Nu e,b];exact h2
   . have e':¬q.1=k:=fun z=>e (h1.trans z)
     have b:atKey (q::qs) k=atKey qs k:=by simp [atKey,List.find?_cons,e']
     rw [Nt e,b];exact ih
theorem KT.repl {H:Hp}{kvs:List (List Key × V)}{xs:List (List Key × Addr × Value)} (r:KT H kvs xs) (k:List Key) {y:V}{u:Value} (ry:RelV y u):
 KT H (kvs.map fun kv=>if kv.1=k then(kv.1,y)else kv) (xs.map (putAt k u)):=by
 induction r with
 | nil=>exact .nil
 | @cons p q ps qs h t ih=>
   rw [List.map_cons,List.map_cons]
   refine .cons ?_ ih
   obtain⟨h1,h2,h3⟩:=h
   unfold putAt
   by_cases e:p.1=k
   . rw [if_pos e,if_pos (h1.symm.trans e)];exact⟨h1,h2,ry⟩
   . rw [if_neg e,if_neg (fun z=>e (h1.trans z))];exact⟨h1,h2,h3⟩
theorem KT.put {H:Hp}{kvs:List (List Key × V)}{xs:List (List Key × Addr × Value)} (r:KT H kvs xs) (k:List Key) {b:Addr}{y:V}{u:Value} (hb:H b=some (.tup (k.map kV))) (ry:RelV y u):
 KT H (putK kvs k y) (storedH xs k b u):=by
 have e:(kvs.any fun kv=>decide (kv.1=k))=(atKey xs k).isSome:=by
  rw [S5,(r.val k).isSome_eq,Option.isSome_map]
 unfold putK storedH
 rw [e]
 by_cases q:(atKey xs k).isSome=true
 . rw [if_pos q,if_pos q];exact r.repl k ry
 . rw [if_neg q,if_neg q];exact Paired.snoc r ⟨rfl,hb,ry⟩
theorem KT.keeps {H H':Hp}{kvs:List (List Key × V)}{xs:List (List Key × Addr × Value)} (r:KT H kvs xs) (ht:∀b ys,H b=some (.tup ys)->H' b=some (.tup ys)):KT H' kvs xs:=
 Paired.mapP r fun _ _ z=>⟨z.1,ht _ _ z.2.1,z.2.2⟩
noncomputable def Acy (H:Hp) (a:Addr) (y:V) (r:Option V):Prop:=
 (∃kvs k,Rd H a (.dK kvs)/\y=kV k/\r=Ub kvs k)\/∃kvs k b,Rd H a (.dT kvs)/\y= .ref b/\H b=some (.tup (k.map kV))/\r=Ub kvs k
noncomputable def Acz (H:Hp) (a:Addr) (y v:V) (H':Hp):Prop:=
 (∃kvs k,H a=some (.dK kvs)/\y=kV k/\kvs.length<sizeLine/\H'=upd H a (.dK (putK kvs k v)))\/
 ∃kvs k b,H a=some (.dT kvs)/\y= .ref b/\H b=some (.tup (k.map kV))/\kvs.length<sizeLine/\H'=upd H a (.dT (putK kvs k v))
theorem Acy.k {H:Hp}{a:Addr}{kvs:List (Key × V)}{k:Key} (e:H a=some (.dK kvs)):Acy H a (kV k) (Ub kvs k):= .inl ⟨kvs,k,.inl e,rfl,rfl⟩
theorem Acy.t {H:Hp}{a b:Addr}{kvs:List (List Key × V)}{k:List Key} (e:H a=some (.dT kvs)) (eb:H b=some (.tup (k.map kV))):Acy H a (.ref b) (Ub kvs k):= .inr ⟨kvs,k,b,.inl e,rfl,eb,rfl⟩
theorem Acz.k {H:Hp}{a:Addr}{kvs:List (Key × V)}{k:Key}{v:V} (e:H a=some (.dK kvs)) (hl:kvs.length<sizeLine):Acz H a (kV k) v (upd H a (.dK (putK kvs k v))):= .inl ⟨kvs,k,e,rfl,hl,rfl⟩
theorem Acz.t {H:Hp}{a b:Addr}{kvs:List (List Key × V)}{k:List Key}{v:V} (e:H a=some (.dT kvs)) (eb:H b=some (.tup (k.map kV))) (hl:kvs.length<sizeLine):
 Acz H a (.ref b) v (upd H a (.dT (putK kvs k v))):= .inr ⟨kvs,k,b,e,rfl,eb,hl,rfl⟩
section
variable {X:Cx}{pins:List (Addr × Obj)}{σ:St}{H:Hp}{s:Shared}{a:Addr}{y v:V}{u r:Value}{o:Option V}{A:Around}{E:Value->Shared->Prop}
theorem Inv.big (I:Inv X pins σ H s):sysModules<s.heap.objs.size:=by
 have h:mainGlobals<s.heap.objs.size:=(I.mod.glob.keeps I.bk).lt
 exact Nat.lt_trans (by decide) h
end
noncomputable abbrev VV:List (V × V)->List (Value × Value)->Prop:=Paired fun p q=>RelV p.1 q.1/\RelV p.2 q.2
structure M1 (X:Cx) (o:Expr) (m:Str) (apos:Pos) (e:Expr) (cpos:Pos):Prop where
 base:attributeBase o m X.env (eval o X.env)=eval o X.env
 few:((backTo cpos (starEach [e] X.env)).all (fun x=> !x.1)&&(backToKw cpos (keywordEach [] X.env)).all (fun x=>x.1.isSome)
  &&decide (([e]:List Expr).length+([]:List Keyword).length+(if([]:List Keyword).isEmpty then 0 else 1)<30))=true
 line:(apos.endLine==cpos.line)=true
 trees:backTo cpos (starEach [e] X.env)=[(false,eval e X.env)]
structure M2 (X:Cx) (o:Expr) (m:Str) (apos:Pos) (e f:Expr) (cpos:Pos):Prop where
 base:attributeBase o m X.env (eval o X.env)=eval o X.env
 few:((backTo cpos (starEach [e,f] X.env)).all (fun x=> !x.1)&&(backToKw cpos (keywordEach [] X.env)).all (fun x=>x.1.isSome)
  &&decide (([e,f]:List Expr).length+([]:List Keyword).length+(if([]:List Keyword).isEmpty then 0 else 1)<30))=true
 line:(apos.endLine==cpos.line)=true
 trees:backTo cpos (starEach [e,f] X.env)=[(false,eval e X.env),(false,eval f X.env)]
end L2
namespace L2
open PySem PySem.W PyProof.Rows
structure LO (n:Nat) (lt:Nat->Nat->Bool):Prop where
 tri:∀i j,i<n->j<n->i≠j->lt i j= !lt j i
 trans:∀i j k,i<n->j<n->k<n->lt i j=true->lt j k=true->lt i k=true
noncomputable def KOk {α:Type} (lt:Nat->Nat->Bool) (n:Nat):KasT α->(α->Prop)->Prop
 | .ret a,P=>P a
 | .ask i j k,P=>i<n/\j<n/\i≠j/\KOk lt n (k (lt i j)) P
theorem KOk.bind {α β:Type}{lt:Nat->Nat->Bool}{n:Nat}{f:α->KasT β}{P:β->Prop}:∀ {t:KasT α},KOk lt n t (fun a=>KOk lt n (f a) P)->KOk lt n (t.bind f) P
 | .ret _,h=>h
 | .ask _ _ k,h=>⟨h.1,h.2.1,h.2.2.1,KOk.bind (t:=k _) h.2.2.2⟩
theorem KOk.mono {α:Type}{lt:Nat->Nat->Bool}{n:Nat}{P Q:α->Prop} (hq:∀a,P a->Q a):∀ {t:KasT α},KOk lt n t P->KOk lt n t Q
 | .ret a,h=>hq a h
 | .ask _ _ k,h=>⟨h.1,h.2.1,h.2.2.1,KOk.mono hq (t:=k _) h.2.2.2⟩
noncomputable def aT (p:Array Nat) (i:Nat):Nat:=p.getD i 0
structure PM (n:Nat) (p:Array Nat):Prop where
 sz:p.size=n
 lt:∀i,i<n->aT p i<n
 ne:∀i j,i<n->j<n->i≠j->aT p i≠aT p j
 pm:p.toList.Perm (List.range n)
theorem PM.of {n:Nat}{p:Array Nat} (h:p.toList.Perm (List.range n)):PM n p:=by
 have sz:p.size=n:=by
  have:=h.length_eq
  simpa using this
 have nd:p.toList.Nodup:=h.nodup_iff.mpr List.nodup_range
 refine⟨sz,fun i hi=> ?_,fun i j hi hj hn e=> ?_,h⟩
 . have hi':i<p.size:=by omega
   have e:aT p i=p[i]:=by simp [aT,hi']
   have m:p[i]∈p.toList:=by simp
   rw [e]
   exact List.mem_range.mp (h.mem_iff.mp m)
 . have hi':i<p.toList.length:=by rw [Array.length_toList];omega
   have hj':j<p.toList.length:=by rw [Array.length_toList];omega
   have e1:aT p i=p.toList[i]:=by simp [aT,show i<p.size by omega]
   have e2:aT p j=p.toList[j]:=by simp [aT,show j<p.size by omega]
   have pw:=List.pairwise_iff_getElem.mp nd
   have e3:p.toList[i]=p.toList[j]:=by rw [<-e1,<-e2,e]
   rcases Nat.lt_or_gt_of_ne hn with l | l
   . exact pw i j hi' hj' l e3
   . exact pw j i hj' hi' l e3.symm
theorem PM.start (n:Nat):PM n (List.toArray (List.range n)):=PM.of (by simp)
end L2
namespace L2
open PySem PySem.Spec PySem.Calls PyProof.Rows PySem.W
noncomputable abbrev Prt:=Addr × Addr × List Int × V
noncomputable def Prt.ks (t:Prt):List Int:=t.2.2.1
structure Ae3 (K:PySem.W.Frag) (H:Hp) (t:Prt):Prop where
 pr:SqT K H t.1 [.ref t.2.1,t.2.2.2]
 tu:SqT K H t.2.1 (t.ks.map V.int)
structure Ac1 (P:Program) (w:World) (h:Heap) (t:Prt):Prop where
 pr:∃o xs n u,h.get? t.1=some o/\o.cls= .type "tuple"/\o.data= .seq xs n/\xs.toList=[.ref t.2.1,u]
 tu:∃its:List Value,IsTup h t.2.1 its.toArray/\IntsAre its t.ks
theorem Ac1.keeps {P:Program}{w:World}{h h':Heap}{a:Addr}{t:Prt} (x:Ac1 P w h t) (k:∀b o,b≠a->h.get? b=some o->h'.get? b=some o) (h1:t.1≠a) (h2:t.2.1≠a):Ac1 P w h' t:=by
 obtain⟨⟨o,xs,n,u,e,r⟩,its,⟨ot,et,rt⟩,i⟩:=x
 exact⟨⟨o,xs,n,u,k _ _ h1 e,r⟩,its,⟨ot,k _ _ h2 et,rt⟩,i⟩
theorem Ae3.at {X:Cx}{pins:List (Addr × Obj)}{σ:St}{H:Hp}{s:Shared}{t:Prt} (I:Inv X pins σ H s) (x:Ae3 X.K H t):Ac1 X.prog X.w s.heap t/\t.1<s.heap.objs.size/\t.2.1<s.heap.objs.size:=by
 obtain⟨its,r,⟨o,e,c,n,d⟩,_⟩:=I.tuple x.pr
 obtain⟨its2,r2,p2,_⟩:=I.tuple x.tu
 refine⟨⟨?_,its2,p2,intsAre_of r2⟩,Heap.lt_size e,p2.lt⟩
 cases r with
 | cons r1 r'=>
   cases r1
   cases r' with
   | cons r3 r4=>
     cases r4
     exact⟨o,_,n,_,e,c,d,rfl⟩
end L2
namespace L2
open PySem PySem.Spec PyProof.Rows
structure M0 (X:Cx) (o:Expr) (m:Str) (apos cpos:Pos):Prop where
 base:attributeBase o m X.env (eval o X.env)=eval o X.env
 few:((backTo cpos (starEach [] X.env)).all (fun x=> !x.1)&&(backToKw cpos (keywordEach [] X.env)).all (fun x=>x.1.isSome)
  &&decide (([]:List Expr).length+([]:List Keyword).length+(if([]:List Keyword).isEmpty then 0 else 1)<30))=true
 line:(apos.endLine==cpos.line)=true
 trees:backTo cpos (starEach [] X.env)=[]
end L2
namespace L2
open PySem PySem.Spec PySem.Calls PyProof.Rows PySem.W
noncomputable abbrev Tpt:=Addr × List Int
structure Adb (h:Heap) (t:Tpt):Prop where
 tu:∃its:List Value,IsTup h t.1 its.toArray/\IntsAre its t.2
theorem Adb.keeps {h h':Heap}{a:Addr}{t:Tpt} (x:Adb h t) (k:∀b o,b≠a->h.get? b=some o->h'.get? b=some o) (h1:t.1≠a):Adb h' t:=by
 obtain⟨its,⟨ot,et,rt⟩,i⟩:=x
 exact⟨its,⟨ot,k _ _ h1 et,rt⟩,i⟩
end L2
namespace L2
open PySem PySem.Spec PyProof.Rows
set_option maxRecDepth 100000
end L2
namespace L2
open PySem PySem.Spec PyProof.Rows
theorem Qg:∀(names:List (Str × NameKind)) (n:Nat) (acc:List (Str × Addr)) (y:Str) (c:Addr),(cellsFrom n names acc).lookup y=some c->acc.lookup y=some c\/(n<=c/\(y,NameKind.cell)∈names)
 | [],_,_,_,_,h=> .inl h
 | (x,k)::r,n,acc,y,c,h=>by
   unfold cellsFrom at h
   by_cases hk:(k==NameKind.cell)=true
   . rw [if_pos hk]at h
     have ek:k= .cell:=by simpa using hk
     subst ek
     rcases Qg r (n+1) _ y c h with z | ⟨z,m⟩
     . rw [List.lookup_cons]at z
       cases e:y==x with
       | true=>
         rw [e]at z
         have e1:y=x:=by simpa using e
         subst e1
         exact .inr ⟨Nat.le_of_eq (Option.some.inj z),List.mem_cons_self⟩
       | false=>
         rw [e]at z
         exact .inl z
     . exact .inr ⟨by omega,List.mem_cons_of_mem _ m⟩
   . rw [if_neg hk]at h
     rcases Qg r n acc y c h with z | ⟨z,m⟩
     . exact .inl z
     . exact .inr ⟨z,List.mem_cons_of_mem _ m⟩
structure Nz (X:Cx) (ts:List Str) (fs:List (Nat × Str)) (scope:Scope):Prop where
 kind:scope.kind= .function
 names:∀y∈scope.names,y.2= .local ->scope.names.lookup y.1=some .local
 free:∀y∈scope.names,y.2= .free->X.env.kindOf y.1=some .cell\/X.env.kindOf y.1=some .free
 at':∀p∈fs,X.N[p.1]? =some p.2/\(p.2,NameKind.free)∈scope.names/\((relabel scope X.env).names.lookup p.2=some .cell\/(relabel scope X.env).names.lookup p.2=some .free)/\¬(p.2,NameKind.cell)∈scope.names
noncomputable def Ae6 (sc:Scope) (N:List Str) (fs:List (Nat × Str)) (scope:Scope):Bool:=
 (scope.kind== .function)&&(scope.names.all fun y=>y.2 != .local ||scope.names.lookup y.1==some .local)&&
 (scope.names.all fun y=>y.2 != .free||(sc.names.lookup y.1==some .cell||sc.names.lookup y.1==some .free))&&
 fs.all fun p=>N[p.1]? ==some p.2&&(scope.names.contains (p.2,NameKind.free)&&(((rlb sc scope).lookup p.2==some .cell||(rlb sc scope).lookup p.2==some .free)&& !scope.names.contains (p.2,NameKind.cell)))
theorem Nz.of {X:Cx}{ts:List Str}{fs:List (Nat × Str)}{scope sc:Scope}{N:List Str} (e1:X.env.scope=sc) (e2:X.N=N) (h:Ae6 sc N fs scope=true):Nz X ts fs scope:=by
 unfold Ae6 at h
 simp only [Bool.and_eq_true,List.all_eq_true,Bool.or_eq_true,bne_iff_ne,beq_iff_eq,List.contains_iff_mem,Bool.not_eq_true']at h
 obtain⟨⟨⟨h1,h3⟩,h4⟩,h5⟩:=h
 refine⟨h1,fun y hy e=> ?_,fun y hy e=> ?_,fun p hp=> ?_⟩
 . rcases h3 y hy with z | z
   . exact absurd e z
   . exact z
 . rcases h4 y hy with z | z
   . exact absurd e z
   . show X.env.scope.names.lookup y.1=_\/X.env.scope.names.lookup y.1=_
     rw [e1]
     exact z
 . obtain⟨a,b,c,d⟩:=h5 p hp
   refine⟨by rw [e2];exact a,b,?_,fun z=> ?_⟩
   . subst e1
     exact c
   . rw [<-List.contains_iff_mem]at z
     rw [z]at d
     cases d
section
variable {X:Cx}{elt tg iter:Expr}{ifs:List Expr}{scope:Scope}{pos:Pos}{wi:TI}{g:TG}{tt:TT}{te:TE}{ts:List Str}{fs:List (Nat × Str)}
theorem Nz.clos (S:Nz X ts fs scope) (ok:X.Ok):∀x∈scope.names,x.2= .free->∃c,X.env.cells.lookup x.1=some c:=fun x hx hf=>ok.has x.1 (S.free x hx hf)
theorem Nz.sub0 (S:Nz X ts fs scope) (ok:X.Ok) {y:Str}{c:Addr} (h:(scope.names.foldl (clF X.env) []).lookup y=some c):X.env.cells.lookup y=some c:=by
 rcases J3 scope.names [] y c (S.clos ok) h with z | z
 . simp at z
 . exact z
theorem Nz.sub (S:Nz X ts fs scope) (ok:X.Ok) {n:Nat}{y:Str}{c:Addr} (h:(cellsFrom n scope.names (scope.names.foldl (clF X.env) [])).lookup y=some c):X.env.cells.lookup y=some c\/n<=c:=by
 rcases Qg _ _ _ _ _ h with z | ⟨z,_⟩
 . exact .inl (S.sub0 ok z)
 . exact .inr z
end
end L2
namespace L2
open PySem PySem.Spec PyProof.Rows
structure Pyl (P:Program) (base:Heap):Prop where
 seer:base.NoSeer
 tree:P.given.tree=none
theorem Gn.far {k:Nat}{A:Around} (r:Gn k A) (h:32<=k):A.depth+Builtin.pylongFrames<recursionLimit:=by
 have h1:=r.dp
 have h2:Builtin.pylongFrames=100:=rfl
 omega
end L2
namespace L2
open PySem PySem.Spec PyProof.Rows
set_option maxRecDepth 100000
end L2
namespace L2
open PySem PySem.Spec PyProof.Rows
structure Aar (P:Program) (w:World) (K:PySem.W.Frag) (mg:Str->Option Value) (base:Heap) (k:Nat) (a:Addr) (ps:List Str) (sp:Sp):Prop where
 ex:∃fd,J1 P w K mg base CX0 k a fd ps sp/\Binds K fd ps []
 kp:∀(M:Model) (h:Heap),(∀b o,base.get? b=some o->h.get? b=some o)->K.In h->∃k,(k=Keeper.frame\/k=Keeper.machine\/k=Keeper.boundFrame)/\PySem.W.Looks M h (keeperOf (.ref a)) k
theorem Cal.val {P:Program}{w:World}{K:PySem.W.Frag}{mg:Str->Option Value}{base:Heap}{k:Nat}{x:Str}{ps:List Str}{sp:Sp}{a:Addr} (C:Cal P w K mg base k x ps sp) (e:mg x=some (.ref a)):Aar P w K mg base k a ps sp:=by
 obtain⟨f,fd,G,g,b,c⟩:=C
 rw [e]at g
 cases g
 exact⟨⟨fd,G,c⟩,fun M h _ X=>PySem.W.keeps_K b h X⟩
theorem Z2 {X:Cx}{i k:Nat}{a:Addr}{x:Str}{ps:List Str}{sp:Sp}{p pos:Pos}{e:Expr}{es:List Expr}{t:TA} (C:Aar X.prog X.w X.K X.mg X.base k a ps sp) (hr:Gn k X.A)
 (hx:PE X (.Name x p) (Y7 i)) (ha:PA X (e::es) t) (h1:Cd e=true:=by rfl) (h2:es.all Cd=true:=by rfl):PE X (.Call (.Name x p) (e::es) [] pos) (tCV i a sp E0 t):=by
 obtain⟨⟨fd,G,c⟩,kp⟩:=C
 intro pins s σ H Q I h
 obtain⟨hv,h⟩:=h
 refine wpAny_Call_Name_kw (thn (hx pins s σ H (fun v H1=>v= .ref a/\H1=H) I ⟨_,hv,rfl,rfl⟩) fun u s1 ⟨v,H1,I1,r,e1,e2⟩=> ?_)
 subst e1 e2
 cases r
 have he:starEach (e::es) X.env=(false,eval e X.env)::starEach es X.env:=G3 h1
 have hplain:(backTo pos (starEach es X.env)).any (·.1)=false:=Hy h2
 have h':=ha pos pins s1 σ H1 _ I1 h
 rw [he]at h' ⊢
 refine PySem.W.callWith_of (P:=fun h=>(∀b o,X.base.get? b=some o->h.get? b=some o)/\X.K.In h) (by show((false||(backTo pos (starEach es X.env)).any (·.1))||false)=false;rw [hplain];rfl) (fun h q=>kp _ h q.1 q.2) (Calls.evalArgs_plain (thn h' fun us s2 ⟨vs,H2,I2,r2,q⟩=>⟨⟨I2.bk,I2.kIn⟩,?_⟩))
 have q':sp (vs++ []) H2 Q E0:=by rw [List.append_nil];exact q
 exact Yy G hr c .nil Abn I2 r2 q'
noncomputable def cxL (P:Program) (w:World) (K:PySem.W.Frag) (mg:Str->Option Value) (base:Heap) (N:List Str) (qual:Str) (scope:Scope) (f:Addr) (cd:Value) (cl:List (Str × Addr)) (A:Around) (outer:List Env) (s:Shared) (H:Hp):Cx where
 prog:=P
 w:=w
 K:=K
 mg:=mg
 base:=base
 A:=A.deeper (PySem.W.envX qual scope s.heap.objs.size f cd cl)
 N:=N
 s₀:=s
 H₀:=H
 env:=PySem.W.envX qual scope s.heap.objs.size f cd cl
 outer:=outer
 stack:=PySem.W.envX qual scope s.heap.objs.size f cd cl::outer
 ex:=[]
 calm:=true
 fn:=fun _=>false
 pn:=[]
 xe:=fun _ _=>False
structure Wt (ps fs:List Str) (sc:Scope):Prop where
 kind:sc.kind= .function
 co:sc.isCoroutine=false
 gen:sc.isGenerator=false
 nd:ps.Nodup
 par:∀x∈ps,sc.names.lookup x=some .local
 fre:∀x∈fs,sc.names.lookup x=some .free
 nocell:∀y∈sc.names,y.2≠ .cell
 only:∀y∈sc.names,y.2= .free->y.1∈fs
theorem S8:∀ {ps:List Str}{us:List Value}{i:Nat}{x:Str}{u:Value},ps.Nodup->ps[i]? =some x->us[i]? =some u->(ps.zip us).reverse.lookup x=some u
 | [],_,_,_,_,_,h,_=>by simp at h
 | _::_,[],_,_,_,_,_,h=>by simp at h
 | p::ps,v::us,0,x,u,nd,h1,h2=>by
   simp at h1 h2
   subst h1 h2
   have n:(ps.zip us).reverse.lookup p=none:=by
    rw [List.lookup_eq_none_iff]
    intro q hq
    have:=(List.of_mem_zip (List.mem_reverse.mp hq)).1
    exact bne_iff_ne.mpr fun e=>(List.nodup_cons.mp nd).1 (by rw [e];exact this)
   rw [List.zip_cons_cons,List.reverse_cons,List.lookup_append,n]
   simp
 | p::ps,v::us,i+1,x,u,nd,h1,h2=>by
   rw [List.zip_cons_cons,List.reverse_cons,List.lookup_append,S8 (i:=i) (List.nodup_cons.mp nd).2 (by simpa using h1) (by simpa using h2)]
   rfl
structure Zc (base:Heap) (fs:List Str) (cl:List (Str × Addr)) (ws:List V):Prop where
 inj:∀x y c,cl.lookup x=some c->cl.lookup y=some c->x=y
 has:∀x∈fs,∃c,cl.lookup x=some c
 cell:∀x c,cl.lookup x=some c->∃v,base.IsCell c v
 val:∀(i:Nat) (x:Str) (v:V),fs[i]? =some x->ws[i]? =some v->∃c u,cl.lookup x=some c/\base.IsCell c (some u)/\RelV v u
 len:ws.length=fs.length
theorem Zu {P:Program}{w:World}{K:PySem.W.Frag}{mg:Str->Option Value}{base:Heap}{ps fs:List Str}{qual:Str}{scope:Scope}{f:Addr}{cd:Value}{cl:List (Str × Addr)}{A:Around}{outer:List Env}{s s1:Shared}{H:Hp}{us:List Value}{vs ws:List V}
 (S:Wt ps fs scope) (C:Zc base fs cl ws) (hd:A.handled=none) (e0:Ws P w K mg base A outer s H) (hl:vs.length=ps.length) (r:Vals vs us) (hos:s1.os=s.os) (hg:s1.gens=s.gens)
 (hk:∀b o,s.heap.get? b=some o->s1.heap.get? b=some o) (hn:s1.heap.Ns s.heap.objs.size fun x=>(ps.zip us).reverse.lookup x):
 Inv (cxL P w K mg base (ps++fs) qual scope f cd cl A outer s H) [] ((vs++ws).map some) H s1:=by
 have noA:∀b:Addr,b∉(cxL P w K mg base (ps++fs) qual scope f cd cl A outer s H).ex:=fun b z=>absurd (show b∈([]:List Addr)from z) (by simp)
 have bk:∀b o,base.get? b=some o->s1.heap.get? b=some o:=fun b o e=>hk b o (e0.bs b o e).1
 refine⟨⟨e0.mod,S.kind,rfl,rfl,Nat.le_refl _,C.inj,fun y hy=> ?_,fun y c h _=>absurd (show false=true from h) Bool.false_ne_true,fun _=>hd,Around.frames_deeper e0.frames,.inr ⟨rfl,rfl⟩,fun b z=>absurd z (noA b),e0.bs,e0.bsz,fun b _ _=>noA b,fun b z=>absurd z (noA b),e0.funs,e0.frf⟩,
  hos,by rw [hg];exact e0.bare,Un.kept hk,⟨_,hn,fun i y v h1 h2 h3=> ?_⟩,fun y c h=> ?_,e0.hok.fresh (Nat.le_refl _),fun y c h=> ?_,fun p hp=>absurd (show p∈([]:List (Addr × Obj))from hp) (by simp),e0.hok.kept hk,?_⟩
 . have hy:scope.names.lookup y=some .cell\/scope.names.lookup y=some .free:=hy
   rcases hy with hy | hy
   . exact absurd rfl (S.nocell _ (PySem.mem_of_lookup hy))
   . exact C.has y (S.only _ (PySem.mem_of_lookup hy) rfl)
 . have h1:(ps++fs)[i]? =some y:=h1
   rw [List.getElem?_map]at h2
   have h2':(vs++ws)[i]? =some v:=by
    cases e:(vs++ws)[i]? with
    | none=>rw [e]at h2;cases h2
    | some a=>rw [e]at h2;cases h2;rfl
   by_cases hi:i<ps.length
   . rw [List.getElem?_append_left hi]at h1
     rw [List.getElem?_append_left (by omega)]at h2'
     obtain⟨u,hu,rv⟩:=r.get h2'
     exact⟨u,rv,.inl ⟨S.par y (List.mem_of_getElem? h1),S8 S.nd h1 hu⟩⟩
   . rw [List.getElem?_append_right (by omega)]at h1
     rw [List.getElem?_append_right (by omega),hl]at h2'
     obtain⟨c,u,a1,a2,a3⟩:=C.val _ y v h1 h2'
     exact⟨u,a3,.inr ⟨.inr (S.fre y (List.mem_of_getElem? h1)),c,a1,a2.keeps bk⟩⟩
 . obtain⟨v,q⟩:=C.cell y c h
   exact⟨v,q.keeps bk⟩
 . obtain⟨v,o,q,_⟩:=C.cell y c h
   exact(e0.bs _ _ q).2
 . show _=(ps++fs).length
   rw [List.length_map,List.length_append,List.length_append,hl,C.len]
noncomputable def Ke (c:Addr) (q:Str):HO:= .ext fun h=>h.CodeRec (.ref c) q
theorem Aa8 {P:Program}{w:World}{K:PySem.W.Frag}{mg:Str->Option Value}{base:Heap}{k:Nat}{f c':Addr}{name qual:Str}{params:Arguments}{body:Expr}{scope:Scope}{pm ctv:Value}{cl:List (Str × Addr)}{ps fs:List Str}{ws:List V}{sp:Sp}
 (ho:base.get? f=some (PySem.W.kla_obj name qual params body scope cl pm c' ctv)) (S:Wt ps fs scope) (C:Zc base fs cl ws) (len:∀vs H Q E,sp vs H Q E->vs.length=ps.length) (hcd:∀vs H Q E,sp vs H Q E->H c'=some (Ke c' qual))
 (hbody:∀(A:Around) (outer:List Env) (s:Shared) (H:Hp) (vs:List V) (Q:VK) (E:XK),Gn k (A.deeper (PySem.W.envX qual scope s.heap.objs.size f (.ref c') cl))->sp vs H Q E->
   ∃t,PE (cxL P w K mg base (ps++fs) qual scope f (.ref c') cl A outer s H) body t/\t ((vs++ws).map some) H Q):
 J1 P w K mg base CX0 (k+1) f (PySem.W.kla_fn name qual params body scope cl pm (.ref c') ctv) ps sp:=by
 refine⟨len,fun A outer s H args us vs Q E hr e0 hb r hsp=> ?_⟩
 have hl:=len _ _ _ _ hsp
 have lim:s.heap.NoLimit:=e0.mod.nolimit.keeps fun b o e=>(e0.bs b o e).1
 have hc:s.heap.CodeRec (.ref c') qual:=(e0.hok _ _ (hcd _ _ _ _ hsp)).1
 refine PySem.W.kla_callFunE hr.depth (e0.bs _ _ ho).1 rfl S.co S.gen rfl hc (hb _ _ _ _ ?_)
 refine wpAny_newFunctionEnv S.nocell (fun⟨n,v⟩ hy=>S.par n (List.of_mem_zip hy).1) (fun h₁ hns hsb=>⟨lim.fresh _ hsb,?_⟩) S.kind
 have hk₁:∀b o,s.heap.get? b=some o->h₁.get? b=some o:=fun b o e=>hsb.extBut b o (Nat.ne_of_lt (Heap.lt_size e)) (Heap.get?_push_of_some _ e)
 obtain⟨t,ht,hq⟩:=hbody A outer s H vs Q E (hr.deeper _) hsp
 have I:=Zu (qual:=qual) (f:=f) (cd:= .ref c') (s1:={ s with heap:=h₁,toks:=s.toks+(ps.zip us).length}) S C hr.hd e0 hl r rfl rfl hk₁ hns
 show codeAny _ _ (.expr body (PySem.W.envX qual scope s.heap.objs.size f (.ref c') cl)) _ _
 refine PySem.W.kla_codeExpr (wpAny_mono (ht [] _ _ H Q I hq) (fun u s' ⟨v,H',J,rv,q⟩=> ?_) fun _ _ z=>False.elim z)
 exact⟨v,H',J.os,J.bare,J.base,J.hok,rv,q⟩
theorem Zf {P:Program}{w:World}{K:PySem.W.Frag}{mg:Str->Option Value}{base:Heap}{k:Nat}{f c':Addr}{name qual:Str}{params:Arguments}{body:Expr}{scope:Scope}{pm ctv:Value}{cl:List (Str × Addr)}{ps fs:List Str}{ws:List V}{sp:Sp}
 (ho:base.get? f=some (PySem.W.kla_obj name qual params body scope cl pm c' ctv)) (F:J1 P w K mg base CX0 k f (PySem.W.kla_fn name qual params body scope cl pm (.ref c') ctv) ps sp)
 (hb:∀us:List Value,us.length=ps.length->bindArgs (PySem.W.kla_fn name qual params body scope cl pm (.ref c') ctv) ⟨us,[]⟩=pure (ps.zip us)):Aar P w K mg base k f ps sp:=
 ⟨⟨_,F,.all hb⟩,fun M h q _=>⟨.frame,.inl rfl,(PySem.W.Looks.ld (part:=none) (q _ _ ho)).andThen .now⟩⟩
noncomputable def SmP (p:Addr) (H H':Hp):Prop:=∀b o,b≠p->H b=some o->H' b=some o
noncomputable def Tab (p:Addr) (lp:Pos) (q:Str) (H:Hp):Prop:=∃ps,H p=some (.tbl ps)/\(ps= #[]\/∃c',ps= #[rawInt lp.line,rawInt lp.col,.ref c']/\H c'=some (Ke c' q))
structure Yb (mg:Str->Option Value) (base:Heap) (c p:Addr):Prop where
 code:PySem.W.CodeHd base c p
 bm:∃bm ob,mg "__builtins__"=some (.ref bm)/\bm≠builtinsNs/\base.get? bm=some ob/\ob.cls= .type "module"/\ob.dict=some builtinsNs/\ob.data= .plain
section
variable {X:Cx}{pins:List (Addr × Obj)}{σ:St}{H:Hp}{s:Shared}{h':Heap}
theorem W2 {P:Program}{w:World}{c':Addr}{q:Str}{h:Heap} (hr:h.CodeRec (.ref c') q):Fj P w H h c' (Ke c' q):=by
 obtain⟨c,oc,vs,tq,e,ho,hd,hv⟩:=hr
 cases e
 refine⟨⟨c',oc,vs,tq,rfl,ho,hd,hv⟩,⟨oc,ho⟩,fun h1 h2 z k=> ?_⟩
 obtain⟨c,oc,vs,tq,e,ho,hd,hv⟩:=z
 cases e
 exact⟨c',oc,vs,tq,rfl,k _ ho,hd,hv⟩
theorem Inv.tab {p c':Addr}{ps more:Array Value}{q:Str}{tk:Nat} (I:Inv X pins σ H s) (hT:H p=some (.tbl ps)) (hx:Heap.ExtBut p s.heap h') (hP:h'.get? p=some (PySem.W.tabObj (ps++more))) (hc:s.heap.objs.size<=c') (hr:h'.CodeRec (.ref c') q):
 Inv X pins σ (upd (upd H p (.tbl (ps++more))) c' (Ke c' q)) { s with heap:=h',toks:=tk}:=by
 have hn:H c'=none:=I.hok.fresh hc
 have np:∀ {b},H b=none->b≠p:=fun n z=>by rw [z,hT]at n;cases n
 have nc:∀ {b u},H b=some u->b≠c':=fun n z=>by rw [z,hn]at n;cases n
 have lt:∀ {b o},s.heap.get? b=some o->b≠c':=fun e z=>by
  have:=Heap.lt_size e
  rw [z]at this
  exact Nat.lt_irrefl _ (Nat.lt_of_lt_of_le this hc)
 have old:∀ {b u},H b=some u->b≠p->upd (upd H p (.tbl (ps++more))) c' (Ke c' q) b=some u:=fun e n=>by rw [Bb (nc e),Bb n];exact e
 refine I.un ⟨fun b o e n _ _=>hx b o (np n) e,fun b o e n _ _=>⟨o.slots,hx b o (np n) e⟩,fun b o e n _=>by rw [Bb (lt e),Bb (np n)];exact n,fun b o e _=> ?_,fun b xs e=>old e fun z=> ?_,fun b o u e=>old e fun z=> ?_,fun b qs e=> ?_⟩ fun b u e=> ?_
 . by_cases z:b=p
   . exact⟨_,z▸hP⟩
   . exact⟨o,hx b o z e⟩
 . rw [z,hT]at e;cases e
 . rw [z,hT]at e;cases e
 . by_cases z:b=p
   . subst z
     rw [hT]at e
     cases e
     exact⟨more,by rw [Bb (nc hT),Ah]⟩
   . exact⟨#[],by rw [old e z];simp⟩
 . by_cases z:b=c'
   . subst z
     rw [Ah]at e
     cases e
     exact W2 hr
   . rw [Bb z]at e
     by_cases z2:b=p
     . subst z2
       rw [Ah]at e
       cases e
       exact hP
     . rw [Bb z2]at e
       refine(I.hok b u e).stay (fun c v hc q=>hx c v ?_ q) (fun c q=>old q fun z=> ?_) fun c xs q=>old q fun z=> ?_
       . rcases hc with r | r
         . rw [r];exact z2
         . intro z;rw [z,hT]at r;cases r
       . rw [z,hT]at q;cases q
       . rw [z,hT]at q;cases q
noncomputable def Ae2 (X:Cx) (p:Addr) (lp:Pos) (params:Arguments) (body:Expr) (scope:Scope) (H H2:Hp) (f c':Addr) (s:Shared):Prop:=
 SmP p H H2/\Tab p lp (X.env.qual++"<lambda>") H2/\H2 f=none/\X.s₀.heap.objs.size<=f/\f≠X.env.locals/\H2 c'=some (Ke c' (X.env.qual++"<lambda>"))/\
 ∃ctv pm,s.heap.get? f=some (PySem.W.kla_obj "<lambda>" (X.env.qual++"<lambda>") params body scope (scope.names.foldl (clF X.env) []) pm c' ctv)
theorem Xe {c p:Addr}{lp:Pos}{params:Arguments}{body:Expr}{scope:Scope}{E:Value->Shared->Prop} (I:Inv X pins σ H s) (T:Tab p lp (X.env.qual++"<lambda>") H) (B:Yb X.mg X.base c p) (hcode:X.env.code= .ref c)
 (hfr:∀x∈scope.names,x.2= .free->∃c,X.env.cells.lookup x.1=some c) (hdef:defaultsOf params X.env=([],[])):
 wpAny (model X.prog X.w) X.A (eval (.Lambda params body scope lp) X.env) (fun u s'=>∃f c' H2,u= .ref f/\Inv X pins σ H2 s'/\Ae2 X p lp params body scope H H2 f c' s') E s:=by
 obtain⟨ps,hT,hps⟩:=T
 have hP:s.heap.get? p=some (PySem.W.tabObj ps):=I.hok _ _ hT
 have hgs:s.heap.Ns mainGlobals X.mg:=I.mod.glob.keeps I.bk
 obtain⟨bm,ob,b1,b2,b3,b4,b5,b6⟩:=B.bm
 have hgP:mainGlobals≠p:=fun q=>by
  obtain⟨o,es,ep,e,hd,_⟩:=hgs
  rw [q,hP]at e;cases e;cases hd
 have hbP:bm≠p:=fun q=>by
  have e:=I.bk _ _ b3
  rw [q,hP]at e;cases e;cases b4
 have hbG:bm≠mainGlobals:=fun q=>by
  obtain⟨o,es,ep,e,hd,_⟩:=I.mod.glob
  rw [q,e]at b3;cases b3;rw [hd]at b6;cases b6
 have hb:s.heap.BuiltinsAt X.mg p:=⟨bm,ob,b1,b2,hbG,hbP,I.bk _ _ b3,b4,b5,b6⟩
 have C:=B.code.keeps I.bk
 have far:∀ {n:Nat},s.heap.objs.size<=n->X.s₀.heap.objs.size<=n/\n≠X.env.locals:=fun {n} h=>⟨Nat.le_trans I.sz h,fun z=>by
  have:=I.lt
  rw [<-z]at this
  exact Nat.lt_irrefl _ (Nat.lt_of_lt_of_le this h)⟩
 refine PySem.W.kla_eval hdef ?_
 rcases hps with rfl | ⟨c',rfl,hc'⟩
 . refine PySem.W.kla_makeFunction (mg:=X.mg) (Je hfr) I.ok.glob hgs hcode C hP trivial rfl hgP hb fun c' ctv h' tk hx hge hlt hrec htb=> ?_
   have J:=I.tab (tk:=tk) hT hx htb hge hrec
   have sz:s.heap.objs.size<=h'.objs.size:=Nat.le_of_lt (Nat.lt_of_le_of_lt hge hlt)
   have J2:=J.kept (t':=tk) (h':=h'.push (PySem.W.kla_obj "<lambda>" (X.env.qual++"<lambda>") params body scope (scope.names.foldl (clF X.env) []) ((X.mg "__name__").getD .none) c' ctv)) fun b u e=>Heap.get?_push_of_some _ e
   have hn:H c'=none:=I.hok.fresh hge
   have ncp:p≠c':=fun z=>by rw [z,hn]at hT;cases hT
   refine⟨_,c',_,rfl,J2,fun b o nb e=> ?_,⟨_,by rw [Bb ncp,Ah],.inr ⟨c',by simp,Ah⟩⟩,J.hok.fresh (Nat.le_refl _),(far sz).1,(far sz).2,Ah,ctv,_,Heap.get?_push_size _ rfl⟩
   rw [Bb (fun z=>by rw [z,hn]at e;cases e),Bb nb]
   exact e
 . refine PySem.W.kla_makeFunctionHit (mg:=X.mg) (cv:= .ref c') (Je hfr) I.ok.glob hgs hcode C hP trivial (by simp [codeAmong,rawInt]) hb fun ctv h' tk hk hsz=> ?_
   have J:=I.kept (t':=tk) (h':=h'.push (PySem.W.kla_obj "<lambda>" (X.env.qual++"<lambda>") params body scope (scope.names.foldl (clF X.env) []) ((X.mg "__name__").getD .none) c' ctv)) fun b u e=>Heap.get?_push_of_some _ (hk b u e)
   exact⟨_,c',H,rfl,J,fun b o _ e=>e,⟨_,hT,.inr ⟨c',rfl,hc'⟩⟩,I.hok.fresh hsz,(far hsz).1,(far hsz).2,hc',ctv,_,Heap.get?_push_size _ rfl⟩
end
noncomputable def PAL (X:Cx) (es:List Expr) (p:Addr) (lp:Pos) (params:Arguments) (body:Expr) (scope:Scope) (t:TA):Prop:=
 ∀(pos:Pos) (pins:List (Addr × Obj)) (s:Shared) (σ:St) (H:Hp) (Q:List V->Hp->Prop),Inv X pins σ H s->t σ H Q->wpAny (model X.prog X.w) X.A (spliced (backTo pos (starEach es X.env))) (fun us s'=>∃(vs:List V) (us0:List Value) (f c':Addr) (H1 H2:Hp),us=us0++ [.ref f]/\Vals vs us0/\Inv X pins σ H2 s'/\Ae2 X p lp params body scope H1 H2 f c' s'/\Q vs H1) X.xe s
noncomputable def Afa (p:Addr) (lp:Pos) (q:Str):TA:=fun _ H Q=>Tab p lp q H/\Q [] H
section
variable {X:Cx}{e:Expr}{es:List Expr}{p:Addr}{lp:Pos}{params:Arguments}{body:Expr}{scope:Scope}{t:TA}{te:TE}
theorem Z1 {c:Addr} (B:Yb X.mg X.base c p) (hcode:X.env.code= .ref c) (hfr:∀(ok:X.Ok),∀x∈scope.names,x.2= .free->∃c,X.env.cells.lookup x.1=some c) (hdef:defaultsOf params X.env=([],[])):
 PAL X [.Lambda params body scope lp] p lp params body scope (Afa p lp (X.env.qual++"<lambda>")):=by
 intro pos pins s σ H Q I h
 show wpAny _ _ (spliced ((false,eval (.Lambda params body scope lp) X.env)::backTo pos (starEach [] X.env))) _ _ s
 refine Calls.spliced_cons (thn (Xe I h.1 B hcode (hfr I.ok) hdef) fun u s1 ⟨f,c',H2,e,J,r⟩=> ?_)
 subst e
 exact Calls.spliced_nil ⟨[],[],f,c',H,H2,rfl,.nil,J,r,h.2⟩
theorem M9 (ha:PE X e te) (hr:PAL X es p lp params body scope t) (hs:starEach (e::es) X.env=(false,eval e X.env)::starEach es X.env:=by rfl):PAL X (e::es) p lp params body scope (Wd te t):=by
 intro pos pins s σ H Q I h
 rw [hs]
 show wpAny _ _ (spliced ((false,eval e X.env)::backTo pos (starEach es X.env))) _ _ s
 refine Calls.spliced_cons (thn (ha pins s σ H _ I h) fun u s1 ⟨x,H1,I1,r1,q1⟩=> ?_)
 refine thn (hr pos pins s1 σ H1 _ I1 q1) fun us s2 ⟨xs,us0,f,c',H2,H3,e,r2,J,l,q2⟩=> ?_
 subst e
 exact⟨x::xs,u::us0,f,c',H2,H3,rfl,.cons r1 r2,J,l,q2⟩
end
noncomputable abbrev wid (X:Cx) (s:Shared) (H:Hp):Heap:=PySem.W.hideAll s.heap (trk s.heap H++frs X.stack)
section
variable {X:Cx}{pins:List (Addr × Obj)}{σ:St}{H:Hp}{s:Shared}
theorem Q9 {b:Addr}{o:Obj} (e:s.heap.get? b=some o) (n:H b=none) (hb:b∉frs X.stack):(wid X s H).get? b=some o:=
 PySem.W.hideAll_get _ e fun z=>by
  rcases List.mem_append.mp z with z | z
  . have q:(H b).isSome=true:=(List.mem_filter.mp z).2
    rw [n]at q;simp at q
  . exact hb z
theorem Abl {b:Addr}{o:Obj} (e:(wid X s H).get? b=some o):s.heap.get? b=some o/\H b=none:=by
 have e':=PySem.W.of_hideAll _ e
 refine⟨e',?_⟩
 cases q:H b with
 | none=>rfl
 | some u=>
   have hm:b∈trk s.heap H++frs X.stack:=List.mem_append_left _ (List.mem_filter.mpr ⟨List.mem_range.mpr (Heap.lt_size e'),by rw [q];rfl⟩)
   rw [PySem.W.hideAll_none _ hm]at e
   cases e
theorem Inv.nostk (I:Inv X pins σ H s) {b:Addr} (h1:X.s₀.heap.objs.size<=b) (h2:b≠X.env.locals):b∉frs X.stack:=fun z=>by
 rcases List.mem_cons.mp (I.stkSub b z)with e | e
 . exact h2 e
 . obtain⟨_,o,ho,_⟩:=I.ok.funs.mem e
   exact Nat.lt_irrefl _ (Nat.lt_of_lt_of_le (Heap.lt_size ho) h1)
theorem Inv.wid (I:Inv X pins σ H s):∀b o,X.base.get? b=some o->(wid X s H).get? b=some o:=fun b o e=>by
 refine Q9 (I.bk b o e) (I.bs b o e).2 fun z=> ?_
 rcases List.mem_cons.mp (I.stkSub b z)with r | r
 . have h1:=Nat.lt_of_lt_of_le (Heap.lt_size e) I.ok.bsz
   rw [r]at h1
   exact Nat.lt_irrefl _ (Nat.lt_of_lt_of_le h1 I.ok.above)
 . exact I.ok.nofr e r
theorem Inv.envW (I:Inv X pins σ H s):Ws X.prog X.w X.K X.mg (L2.wid X s H) X.A X.stack s H:=
 ⟨I.ok.frames,⟨I.mod.kin.keeps I.wid,I.mod.glob.keeps I.wid,let ⟨mb,h1,h2⟩:=I.mod.blt;⟨mb,h1.keeps I.wid,h2⟩,I.mod.nolimit.keeps I.wid⟩,fun b o e=>Abl e,Nat.le_of_eq (PySem.W.hideAll_size _ _),
  PySem.W.funFrames_hide I.stack fun env he b hb=>List.mem_append_right _ (List.mem_filterMap.mpr ⟨env,he,hb⟩),I.stkFree,I.hok,I.bare⟩
theorem Inv.lamCl {fs:List Str}{sl:List Nat}{ws:List V}{scope:Scope} (I:Inv X pins σ H s) (hfr:∀x∈scope.names,x.2= .free->x.1∈fs) (hfs:∀x∈fs,(x,NameKind.free)∈scope.names/\X.env.kindOf x=some .cell/\X.fn x=true) (hlen:sl.length=fs.length) (hsl:∀(i:Nat) (j:Nat) (x:Str),sl[i]? =some j->fs[i]? =some x->X.N[j]? =some x)
 (hw:ws.map some=sl.map fun j=>(σ[j]?).join):Zc (L2.wid X s H) fs (scope.names.foldl (clF X.env) []) ws:=by
 have clos:∀x∈scope.names,x.2= .free->∃c,X.env.cells.lookup x.1=some c:=fun x hx hf=>I.ok.has x.1 (.inl (hfs x.1 (hfr x hx hf)).2.1)
 have sub:∀ {y c},(scope.names.foldl (clF X.env) []).lookup y=some c->X.env.cells.lookup y=some c:=fun {y c} h=>by
  rcases J3 scope.names [] y c clos h with z | z
  . simp at z
  . exact z
 have lw:ws.length=fs.length:=by
  have:=congrArg List.length hw
  rw [List.length_map,List.length_map]at this
  rw [this,hlen]
 have has:∀x∈fs,∃c,(scope.names.foldl (clF X.env) []).lookup x=some c:=fun x hx=>Mt scope.names [] x (.inl ⟨_,(hfs x hx).1,rfl,rfl⟩)
 have inb:∀ {y c o},y∈fs->X.env.cells.lookup y=some c->s.heap.get? c=some o->(L2.wid X s H).get? c=some o:=fun {y c o} hy e ho=>Q9 ho (I.freeC y c e) (I.nostk (I.ok.cab y c (hfs y hy).2.2 e) (I.cne y c e))
 have infs:∀ {y c},(scope.names.foldl (clF X.env) []).lookup y=some c->y∈fs:=fun {y c} h=>by
  have key:∀(l:List (Str × NameKind)) (init:List (Str × Addr)),(l.foldl (clF X.env) init).lookup y=some c->(∃x∈l,x.2=NameKind.free/\x.1=y)\/init.lookup y=some c:=by
   intro l
   induction l with
   | nil=>exact fun init h=> .inr h
   | cons a r ih=>
     intro init h
     rcases ih _ h with⟨x,hx,e⟩ | z
     . exact .inl ⟨x,List.mem_cons_of_mem _ hx,e⟩
     . unfold clF at z
       split at z
       . rename_i hf
         rw [List.lookup_cons]at z
         cases ey:y==a.1 with
         | true=>exact .inl ⟨a,List.mem_cons_self,by simpa using hf,(by simpa using ey:y=a.1).symm⟩
         | false=>rw [ey]at z;exact .inr z
       . exact .inr z
  rcases key scope.names [] h with⟨x,hx,hf,e⟩ | z
  . rw [<-e];exact hfr x hx hf
  . simp at z
 refine⟨fun x y c h1 h2=>I.ok.inj x y c (sub h1) (sub h2),has,fun x c h=> ?_,fun i x v h1 h2=> ?_,lw⟩
 . obtain⟨v,o,ho,hd⟩:=I.cell x c (sub h)
   exact⟨v,o,inb (infs h) (sub h) ho,hd⟩
 . have hx:=List.mem_of_getElem? h1
   obtain⟨c,hc⟩:=has x hx
   have hi:i<sl.length:=by
    rw [hlen]
    exact(List.getElem?_eq_some_iff.mp h1).1
   have hj:sl[i]? =some sl[i]:=List.getElem?_eq_getElem hi
   have eσ:σ[sl[i]]? =some (some v):=by
    have z:=congrArg (fun l=>l[i]?) hw
    rw [List.getElem?_map,List.getElem?_map,h2,hj]at z
    have z':some v=(σ[sl[i]]?).join:=Option.some.inj z
    cases q:σ[sl[i]]? with
    | none=>rw [q]at z';cases z'
    | some o=>rw [q]at z';cases o with | none=>cases z' | some v'=>cases z';rfl
   obtain⟨m,_,hl⟩:=I.loc
   have kd:=(hfs x hx).2.1
   obtain⟨u,r,l⟩:=hl _ x v (hsl i _ x hj h1) eσ (.inr (.inl kd))
   rcases l with⟨z,_⟩ | ⟨_,c2,hc2,o,ho,hd⟩
   . rw [kd]at z;cases z
   . have:c=c2:=Option.some.inj ((sub hc).symm.trans hc2)
     subst this
     exact⟨c,u,hc,⟨o,inb hx hc2 ho,hd⟩,r⟩
end
theorem Pyl.keeps {P:Program}{b b':Heap} (h:Pyl P b) (k:∀a o,b.get? a=some o->b'.get? a=some o):Pyl P b':=⟨h.seer.keeps k,h.tree⟩
noncomputable def tCL (p:Addr) (lp:Pos) (q:Str) (sl:List Nat) (sp:Addr->Addr->List V->Sp) (t:TA):TE:=fun σ H Q=>t σ H fun vs H1=>∃ws:List V,ws.map some=(sl.map fun j=>(σ[j]?).join)/\
 ∀(f c':Addr) (H2:Hp),SmP p H1 H2->Tab p lp q H2->H2 c'=some (Ke c' q)->sp f c' ws (vs++ [.ref f]) H2 Q E0
theorem Afl {p:Addr}{lp:Pos}{q:Str}{sl:List Nat}{sp:Addr->Addr->List V->Sp}{t:TA}{σ:St}{H:Hp}{Q:VK}:tCL p lp q sl sp t σ H Q=(t σ H fun vs H1=>∃ws:List V,ws.map some=(sl.map fun j=>(σ[j]?).join)/\∀(f c':Addr) (H2:Hp),SmP p H1 H2->Tab p lp q H2->H2 c'=some (Ke c' q)->sp f c' ws (vs++ [.ref f]) H2 Q E0):=rfl
theorem Aeo {p:Addr}{lp:Pos}{q:Str}{σ:St}{H:Hp}{Q:List V->Hp->Prop}:Afa p lp q σ H Q=(Tab p lp q H/\Q [] H):=rfl
theorem Adq {X:Cx}{x:Str}{k kl:Nat}{ps lps fs:List Str}{sl:List Nat}{np pos lp:Pos}{e:Expr}{es:List Expr}{p:Addr}{params:Arguments}{body:Expr}{scope:Scope}{t:TA}{sp:Addr->Addr->List V->Sp}{spL:Addr->List V->Sp}
 {a:Addr} (py:Pyl X.prog X.base) (hr:Gn k X.A) (hm:X.mg x=some (.ref a)) (hk:PySem.W.keepIn X.K (.ref a)=true) (S:Wt lps fs scope)
 (hfs:∀x∈fs,(x,NameKind.free)∈scope.names/\X.env.kindOf x=some .cell/\X.fn x=true) (hlen:sl.length=fs.length) (hsl:∀(i:Nat) (j:Nat) (x:Str),sl[i]? =some j->fs[i]? =some x->X.N[j]? =some x)
 (hlb:∀(cl:List (Str × Addr)) (pm ctv:Value) (c':Addr) (us:List Value),us.length=lps.length->bindArgs (PySem.W.kla_fn "<lambda>" (X.env.qual++"<lambda>") params body scope cl pm (.ref c') ctv) ⟨us,[]⟩=pure (lps.zip us))
 (len:∀c' ws vs H Q E,spL c' ws vs H Q E->vs.length=lps.length) (hcd:∀c' ws vs H Q E,spL c' ws vs H Q E->H c'=some (Ke c' (X.env.qual++"<lambda>")))
 (hbody:∀(base:Heap) (f c':Addr) (cl:List (Str × Addr)) (ws:List V) (A:Around) (outer:List Env) (s:Shared) (H:Hp) (vs:List V) (Q:VK) (E:XK),Pyl X.prog base->Gn kl (A.deeper (PySem.W.envX (X.env.qual++"<lambda>") scope s.heap.objs.size f (.ref c') cl))->spL c' ws vs H Q E->
   ∃t,PE (cxL X.prog X.w X.K X.mg base (lps++fs) (X.env.qual++"<lambda>") scope f (.ref c') cl A outer s H) body t/\t ((vs++ws).map some) H Q)
 (hR:∀(base:Heap) (a c':Addr) (ws:List V),Pyl X.prog base->Aar X.prog X.w X.K X.mg base (kl+1) a lps (spL c' ws)->Cal X.prog X.w X.K X.mg base k x ps (sp a c' ws))
 (ha:PAL X (e::es) p lp params body scope t) (hg:Gl X x:=by rfl) (hdb:(x==("__debug__":Str))=false:=by decide)
 (he:starEach (e::es) X.env=(false,eval e X.env)::starEach es X.env:=by rfl) (hpl:(backTo pos (starEach es X.env)).any (·.1)=false:=by rfl):
 PE X (.Call (.Name x np) (e::es) [] pos) (tCL p lp (X.env.qual++"<lambda>") sl sp t):=by
 intro pins s σ H Q I h
 refine wpAny_Call_Name_kw (Jh I hg hm ?_ hdb)
 refine PySem.W.callWith_K (h₀:=X.base) I.ok.mod.kin hk (thn (ha pos pins s σ H _ I h) fun us s2 ⟨vs,us0,f,c',H1,H2,eu,rv,I2,l,q⟩=>⟨I2.kIn,?_⟩) he hpl
 subst eu
 obtain⟨ws,hw,q⟩:=q
 obtain⟨l1,l2,l3,l4,l5,l6,ctv,pm,l7⟩:=l
 have hq:=q f c' H2 l1 l2 l6
 have C:=I2.lamCl (scope:=scope) (fun y hy hf=>S.only y hy hf) hfs hlen hsl hw
 have ho:=Q9 l7 l3 (I2.nostk l4 l5)
 have VV:=Zf (ws:=ws) (fs:=fs) ho (Aa8 (P:=X.prog) (w:=X.w) (K:=X.K) (mg:=X.mg) (k:=kl) (sp:=spL c' ws) ho S C (len c' ws) (hcd c' ws) fun A outer s H vs Q E=>hbody _ f c' _ ws A outer s H vs Q E (py.keeps I2.wid)) (hlb _ pm ctv c')
 obtain⟨fr,fd,F,g,_,hb⟩:=hR _ f c' ws (py.keeps I2.wid) VV
 rw [hm]at g
 cases g
 have r2:Vals (vs++ [V.ref f]) (us0++ [Value.ref f]):=rv.append (.cons rfl .nil)
 have hl:(us0++ [Value.ref f]).length=ps.length:=by rw [<-r2.length];exact F.len _ _ _ _ hq
 have hb':=hb s2 (us0++ [Value.ref f]) I2.kIn (by rw [List.append_nil];exact hl)
 rw [List.append_nil]at hb'
 refine wpAny_call (codeAny_mono (F.run X.A X.stack s2 H2 ⟨us0++ [.ref f],[]⟩ _ _ Q E0 hr I2.envW hb' r2 hq) fun r s' hq=> ?_)
 cases r with
 | error e=>exact False.elim hq
 | ok fl=>
   cases fl with
   | ret u=>exact I2.after hq
   | next=>exact False.elim hq
   | brk=>exact False.elim hq
   | cont=>exact False.elim hq
noncomputable def Q7 (K:PySem.W.Frag) (x:Str):Addr:=((PySem.W.tabIn K x).getD (0,0)).2
noncomputable def Wq (K:PySem.W.Frag) (x:Str):Addr:=((PySem.W.tabIn K x).getD (0,0)).1
theorem Va {P:Program}{w:World}{K:PySem.W.Frag}{mg mb:Str->Option Value}{k:Nat}{fa a c p:Addr}{fd:FuncData}{x:Str}{sp:Sp}{s₁:Shared}{vs:List Value}{ns:List Int}
 (KX:K.In s₁.heap) (hns:s₁.heap.Ns mainGlobals mg) (hb:s₁.heap.Ns builtinsNs mb) (hbb:∀x:Str,x≠"__name__"->mb x=bootBuiltins x) (hlim:s₁.heap.NoLimit) (hse:s₁.heap.NoSeer) (hg:s₁.gens= #[])
 (hC:PySem.W.CodeHd s₁.heap c p) (hP:s₁.heap.get? p=some (PySem.W.tabObj #[])) (hKp:K.lookup p=none)
 (hbm:∃bm ob,mg "__builtins__"=some (.ref bm)/\bm≠builtinsNs/\s₁.heap.get? bm=some ob/\ob.cls= .type "module"/\ob.dict=some builtinsNs/\ob.data= .plain)
 (ha:s₁.heap.get? a=some { cls:= .type "list",data:= .seq vs.toArray}) (hi:IntsAre vs ns) (hl:ns.length<=sizeLine) (hr:Gn k callerA)
 (F:∀base:Heap,base.NoSeer->Yb mg base c p->J1 P w K mg base CX0 k fa fd [x] sp) (hbind:∀(s:Shared) (u:Value),BindsTo s fd ⟨[u],[]⟩ [(x,u)])
 (hsp:∀H:Hp,SqL K H a (ns.map V.int)->H p=some (.tbl #[])->sp [.ref a] H (fun v _=>v= .bl true) fun _ _ _=>False):
 codeAny (model P w) callerA (.call (.ref fa) ⟨[.ref a],[]⟩) (fun r s'=>r= .ok (.ret (.bool true))/\OldK s₁.heap s'.heap/\s'.os=s₁.os/\AllBare s'.gens) s₁:=by
 have rv:=Pz hi
 have ln:=hi.length
 have pa:p≠a:=fun z=>by rw [z,ha]at hP;cases hP
 obtain⟨H0,hO,hS,hok,hA,hK⟩:∃H:Hp,Only H/\SqL K H a (ns.map V.int)/\HOk P w H s₁.heap/\(∀b,H b≠none->b=a)/\(H a≠none->K.lookup a=none):=by
  cases hk:K.lookup a with
  | some o=>
    have e:=KX a o hk
    rw [ha]at e
    cases e
    exact⟨fun _=>none,fun _=> .inl rfl,.inr ⟨_,vs.toArray,_,hk,rfl,rfl,rfl,by rw [List.size_toArray,ln];exact hl,by simpa using rv⟩,by intro b u z;exact(nomatch (show(none:Option HO)=some u from z)),fun b z=>absurd rfl z,fun z=>absurd rfl z⟩
  | none=>
    refine⟨upd (fun _=>none) a (.frz { cls:= .type "list",data:= .seq vs.toArray} (.lst (ns.map V.int))),fun b=> ?_,.inl (.inr ⟨_,Ah⟩),fun b u z=> ?_,fun b z=> ?_,fun _=>rfl⟩
    . by_cases e:b=a
      . subst e
        exact .inr ⟨_,_,Ah⟩
      . exact .inl (Bb e)
    . by_cases e:b=a
      . subst e
        rw [Ah]at z
        cases z
        exact⟨ha,by rw [List.length_map];exact hl,vs,_,rv,ha⟩
      . rw [Bb e]at z
        cases z
    . exact Classical.byContradiction fun e=>z (Bb e)
 have hp0:H0 p=none:=Classical.byContradiction fun z=>pa (hA p z)
 obtain⟨H,hH⟩:∃H,H=upd H0 p (.tbl #[]):=⟨_,rfl⟩
 have Hp':H p=some (.tbl #[]):=by rw [hH,Ah]
 have He:∀ {b},b≠p->H b=H0 b:=fun h=>by rw [hH,Bb h]
 have S2:SqL K H a (ns.map V.int):=by
  rcases hS with q | q
  . refine .inl ?_
    unfold Rd at q ⊢
    rw [He (Ne.symm pa)]
    exact q
  . exact .inr q
 have Hk:∀ {b u},H0 b=some u->H b=some u:=fun {b u} e=>by
  rw [He (fun z=>by rw [z,hp0]at e;cases e)]
  exact e
 have ok2:HOk P w H s₁.heap:=fun b u e=>by
  by_cases z:b=p
  . subst z
    rw [Hp']at e
    cases e
    exact hP
  . rw [He z]at e
    exact(hok b u e).stay (fun _ _ _ q=>q) (fun _ q=>Hk q) fun _ _ q=>Hk q
 have wh:∀ {b},H b≠none->b=a\/b=p:=fun {b} z=>by
  by_cases e:b=p
  . exact .inr e
  . rw [He e]at z
    exact .inl (hA b z)
 have keep:∀ {b o},s₁.heap.get? b=some o->((o.cls≠ .type "list"/\o.cls≠ .none)\/∃es ep,o.data=Data.dict es ep)->(U4 s₁.heap H).get? b=some o:=fun {b o} e z=>by
  refine Rr e ?_
  cases q:H b with
  | none=>rfl
  | some u=>
    rcases wh (by rw [q];simp:H b≠none)with r | r
    . subst r
      rw [ha]at e
      cases e
      rcases z with z | ⟨es,ep,z⟩
      . exact absurd rfl z.1
      . cases(show Data.seq vs.toArray _=Data.dict es ep from z)
    . subst r
      rw [hP]at e
      cases e
      rcases z with z | ⟨es,ep,z⟩
      . exact absurd rfl z.2
      . cases(show Data.fields #[]=Data.dict es ep from z)
 have nsK:∀ {b:Addr}{m:Str->Option Value},s₁.heap.Ns b m->(U4 s₁.heap H).Ns b m:=fun {b m} ⟨o,es,ep,e,d,r⟩=>⟨o,es,ep,keep e (.inr ⟨es,ep,d⟩),d,r⟩
 have kb:K.In (U4 s₁.heap H):=fun b o e=>Rr (KX b o e) (by
  cases q:H b with
  | none=>rfl
  | some u=>
    rcases wh (by rw [q];simp:H b≠none)with r | r
    . subst r
      rw [He (Ne.symm pa)]at q
      rw [hK (by rw [q];simp)]at e
      cases e
    . subst r
      rw [hKp]at e
      cases e)
 have hM:Mod K mg (U4 s₁.heap H):=⟨kb,nsK hns,⟨mb,nsK hb,hbb⟩,let ⟨mc,h1,h2⟩:=hlim;⟨mc,nsK h1,h2⟩⟩
 have e0:Ws P w K mg (U4 s₁.heap H) callerA [] s₁ H:=⟨rfl,hM,fun b o e=>Zy e,Nat.le_of_eq (U5 _ _),trivial,fun b hb=>absurd (show b∈([]:List Addr)from hb) (by simp),ok2,.of_eq hg⟩
 have se:(U4 s₁.heap H).NoSeer:=by
  obtain⟨⟨m1,a1,b1⟩,⟨m2,a2,b2⟩,⟨m3,a3,b3⟩,⟨m4,bm,ob,a4,b4,c4,d4,e4⟩⟩:=hse
  exact⟨⟨m1,nsK a1,b1⟩,⟨m2,nsK a2,b2⟩,⟨m3,nsK a3,b3⟩,⟨m4,bm,ob,nsK a4,b4,keep c4 (.inl (by rw [d4];exact⟨by decide,by decide⟩)),d4,e4⟩⟩
 have lb:Yb mg (U4 s₁.heap H) c p:=by
  refine⟨?_,?_⟩
  . obtain⟨o,vs,file,tf,flags,tg,inF,text,tt,e1,e2,r⟩:=hC
    exact⟨o,vs,file,tf,flags,tg,inF,text,tt,keep e1 (.inl (by rw [e2];exact⟨by decide,by decide⟩)),e2,r⟩
  . obtain⟨bm,ob,b1,b2,b3,b4,r⟩:=hbm
    exact⟨bm,ob,b1,b2,keep b3 (.inl (by rw [b4];exact⟨by decide,by decide⟩)),b4,r⟩
 refine codeAny_mono ((F _ se lb).run callerA [] s₁ H ⟨[.ref a],[]⟩ [.ref a] [.ref a] _ _ hr e0 (hbind s₁ (.ref a)) (.cons rfl .nil) (hsp H S2 Hp')) fun r s' h=> ?_
 match r,h with
 | .error e,h=>exact False.elim h
 | .ok .next,h=>exact False.elim h
 | .ok .brk,h=>exact False.elim h
 | .ok .cont,h=>exact False.elim h
 | .ok (.ret u),h=>
   obtain⟨v,H',os,bare,un,hok',r',q⟩:=h
   obtain rfl:v= .bl true:=q
   obtain rfl:u=Value.bool true:=r'
   have un0:∀b o,s₁.heap.get? b=some o->H b=none->s'.heap.get? b=some o:=fun b o e q=>un.keep b o e q (by intro z;exact absurd (show b∈([]:List Addr)from z) (by simp)) (by simp)
   refine⟨rfl,⟨fun b o e=> ?_,fun b o e=>un.there b o e (by simp)⟩,os,bare⟩
   by_cases hbp:b=p
   . subst hbp
     obtain⟨more,e2⟩:=un.tbls b _ Hp'
     rw [hP]at e
     cases e
     exact .inr (.inl ⟨(hC.tab hP).isCodeTable,rfl,#[],more,rfl,hok' b _ e2⟩)
   . rcases hO b with q | ⟨ob,xs,z⟩
     . exact .inl (un0 b o e (by rw [He hbp];exact q))
     . obtain⟨e1,_⟩:=hok b _ z
       obtain⟨e2,_⟩:=hok' b _ (un.frzs b ob _ (Hk z))
       rw [e]at e1
       cases e1
       exact .inl e2
theorem Xz {l:PySem.W.OpenLaw}{n k:Nat}{q:Program}{loose:List Str}{XP:(Str->Option Value)->Heap->Prop}{YP:World->Heap->Prop}{d d2:DefRec}{K:Params->PySem.W.Frag}{sp:PySem.W.Frag->Sp}{x y:Str}
 (hn:l.most=some n) (hn2:n<=sizeLine) (hdf:d.params.defaults=[]) (hr:Gn k callerA) (him:importsNone q=true) (htr:l.prog.given.tree=none)
 (hd2:(recsOf q).find? (fun e=>e.name==y)=some d2)
 (hY:∀(w:World) (h:Heap),YP w h->(K w.params).In h)
 (ht:∀w:World,∃c p,PySem.W.tabIn (K w.params) y=some (c,p)/\(K w.params).lookup p=none)
 (F:∀(w:World) (mg:Str->Option Value) (fa:Addr) (h:Heap),(K w.params).In h->h.Ns mainGlobals mg->mg d.name=some (.ref fa)->
   ∃fd:FuncData,(∀(s:Shared) (u:Value),BindsTo s fd ⟨[u],[]⟩ [(x,u)])/\∀base:Heap,Pyl l.prog base->Yb mg base (Wq (K w.params) y) (Q7 (K w.params) y)->J1 l.prog w (K w.params) mg base CX0 k fa fd [x] (sp (K w.params)))
 (hsp:∀(K:PySem.W.Frag) (H:Hp) (a:Addr) (ns:List Int),ns.length<=n->SqL K H a (ns.map V.int)->H (Q7 K y)=some (.tbl #[])->sp K [.ref a] H (fun v _=>v= .bl true) fun _ _ _=>False):
 PySem.W.WalkO q loose XP YP l.row.toRowW d [] (fun f vs=>PySem.call f vs):=by
 refine Att.Qf hn hdf fun w s₀ s₁ mg mb fa o pm cd doc a vs ns G Y ho hd hcd hmg hobj hints hlen hg=> ?_
 have KX:=hY w _ Y
 obtain⟨fd,hb,hF⟩:=F w mg fa _ KX G.T.g hmg
 obtain⟨c,p,h1,h2⟩:=ht w
 have eP:Q7 (K w.params) y=p:=by unfold Q7;rw [h1];rfl
 have eC:Wq (K w.params) y=c:=by unfold Wq;rw [h1];rfl
 rw [eP,eC]at hF
 obtain⟨t1,t2⟩:=PySem.W.tab_of G.T KX hd2 h1
 exact Va KX G.T.g G.T.b G.T.builtins G.T.nolimit (G.T.seer him) hg t1 t2 h2 G.T.bmain hobj hints (Nat.le_trans hlen hn2) hr (fun base ns lb=>hF base ⟨ns,htr⟩ lb) hb (fun H hS hp=>hsp (K w.params) H a ns hlen hS (by rw [eP];exact hp))
theorem Fun.okL {P:Program}{w:World}{K:PySem.W.Frag}{mg:Str->Option Value}{base:Heap}{x qual:Str}{st:Stmt}{f:Addr}{fd:FuncData}{N ps:List Str}{k:Nat}{sp:Sp} (F:Fun K x qual st f fd) (S:Bc N ps (Ao st)) (len:∀vs H Q E,sp vs H Q E->vs.length=ps.length)
 (hbody:∀(A:Around) (outer:List Env) (s:Shared) (H:Hp) (vs:List V) (Q:VK) (E:XK),Gn k (A.deeper (envOfC qual (Ao st) s.heap.objs.size f fd.code))->sp vs H Q E->
   ∃t,PSs (J4 (CXE P w) P w K mg base N qual (Ao st) f fd.code A outer s H E) (Fo st) t/\t { nx:=fun _ H'=>Q .non H',rt:=Q} (start N vs) H):J1 P w K mg base (CXE P w) (k+1) f fd ps sp:=by
 obtain⟨oc,od,kV,doc,pm,an,cdv,ct,osl,rfl,lk,hcd⟩:=F.ex
 exact Zm lk hcd S len fun A outer s H vs Q E hr hsp=>hbody A outer s H vs Q E hr hsp
theorem Same.smp {p:Addr}{H H':Hp} (s:Same H H'):SmP p H H':=fun b o _ e=>s b o e
theorem SmP.trans {p:Addr}{H H1 H2:Hp} (a:SmP p H H1) (b:SmP p H1 H2):SmP p H H2:=fun c o n e=>b c o n (a c o n e)
theorem Tab.same {p:Addr}{lp:Pos}{q:Str}{H H':Hp} (h:Tab p lp q H) (s:Same H H'):Tab p lp q H':=by
 obtain⟨ps,a,b⟩:=h
 refine⟨ps,s _ _ a,?_⟩
 rcases b with b | ⟨c,b1,b2⟩
 . exact .inl b
 . exact .inr ⟨c,b1,s _ _ b2⟩
theorem Tab.is {p:Addr}{lp:Pos}{q:Str}{H:Hp} (h:Tab p lp q H):∃ps,H p=some (.tbl ps):=by
 obtain⟨ps,a,_⟩:=h
 exact⟨ps,a⟩
theorem Y8 {K:PySem.W.Frag}{x:Str}{f c p:Addr}{oc oc2:Value}{od od2:Option Addr}{sl sl2:Array (Option Value)}{fd:FuncData}{vs:Array Value} (h1:PySem.W.nsIn K mainGlobals x=some (some (.ref f))) (h2:K.lookup f=some ⟨oc,od,.func fd,sl⟩) (h3:fd.code= .ref c) (h4:K.lookup c=some ⟨oc2,od2,.fields vs,sl2⟩) (h5:vs[11]? =some (.ref p)) (h6:K.lookup p=none):∃c p,PySem.W.tabIn K x=some (c,p)/\K.lookup p=none:=by
 refine⟨c,p,?_,h6⟩
 unfold PySem.W.tabIn
 simp only [h1,h2,h3,h4,h5]
end L2
namespace L2
open PySem L2
@[irreducible] noncomputable def Bl (X:Cx) (e:Expr) (t:TE):Prop:=L2.PE X e t
@[irreducible] noncomputable def Kh (X:Cx) (e:Expr) (t:TT):Prop:=L2.PT X e t
@[irreducible] noncomputable def Qd (X:Cx) (e:Expr) (t:TT):Prop:=L2.PW X e t
@[irreducible] noncomputable def Gb (X:Cx) (es:List Expr) (t:TA):Prop:=L2.PA X es t
@[irreducible] noncomputable def Ia (X:Cx) (st:Stmt) (t:TS):Prop:=L2.PS X st t
@[irreducible] noncomputable def G5 (X:Cx) (st:List Stmt) (t:TS):Prop:=L2.PSs X st t
@[irreducible] noncomputable def Lk (X:Cx) (target:Expr) (t:TG):Prop:=L2.PG X target t
@[irreducible] noncomputable def Rh (X:Cx) (ts:List Expr) (t:TGs):Prop:=L2.PGs X ts t
@[irreducible] noncomputable def Kg (X:Cx) (tg iter:Expr) (wi:TI):Prop:=L2.PI X tg iter wi
@[irreducible] noncomputable def Wv (X:Cx) (e:Option Expr) (t:TO):Prop:=L2.PO X e t
@[irreducible] noncomputable def Ul (X:Cx) (ifs:List Expr) (t:TT):Prop:=L2.PTs X ifs t
theorem Aax {X:Cx}{b:List Stmt}{t:TS} (h:G5 X b t):L2.PSs X b t:=by unfold G5 at h;exact h
theorem Ae:∀ {X:Cx} (i:Nat) {x:Str}{pos:Pos},autoParam ((Cx.N X)[i]? =Option.some x) L2.pv._auto_1->autoParam (Vis (Env.scope (Cx.env X)) x) L2.pv._auto_2->autoParam ((x==("__debug__":Str))=Bool.false) L2.pv._auto_3->autoParam ((x==("__classdict__":Str))=Bool.false) L2.pv._auto_4->Bl X (Expr.Name x pos) (Y7 i):=by with_unfolding_all exact @L2.pv
theorem Lr:∀ {X:Cx}{x:Str}{v:V}{u:Value}{pos:Pos},Gl X x->Cx.mg X x=Option.none->bootBuiltins x=Option.some u->RelV v u->autoParam (x≠("__name__":Str)) L2.Qt._auto_1->autoParam ((x==("__debug__":Str))=Bool.false) L2.Qt._auto_2->Bl X (Expr.Name x pos) (tC v):=by with_unfolding_all exact @L2.Qt
theorem Ez:∀ {X:Cx}{x:Str}{v:V}{u:Value}{pos:Pos},Gl X x->Cx.mg X x=Option.some u->RelV v u->autoParam ((x==("__debug__":Str))=Bool.false) L2.Vx._auto_1->Bl X (Expr.Name x pos) (tC v):=by with_unfolding_all exact @L2.Vx
theorem Ac:∀ {X:Cx}{i:Int}{j:Nat}{pos:Pos},Bl X (Expr.Constant (Const.int i) j pos) (tC (V.int i)):=by with_unfolding_all exact @L2.Yn
theorem Ft:∀ {X:Cx}{b:Bool}{j:Nat}{pos:Pos},Bl X (Expr.Constant (Const.bool b) j pos) (tC (V.bl b)):=by with_unfolding_all exact @L2.Adp
theorem Ob:∀ {X:Cx}{j:Nat}{pos:Pos},Bl X (Expr.Constant Const.none j pos) (tC V.non):=by with_unfolding_all exact @L2.Abq
theorem Cu:∀ {X:Cx}{x:Str}{j:Nat}{pos:Pos},Bl X (Expr.Constant (Const.str x) j pos) (tC (V.str x)):=by with_unfolding_all exact @L2.Abs
theorem Af:∀ {X:Cx}{a b:Expr}{ta tb:TE}{pos:Pos}{op:Operator}{r:R2},OpR X (binaryOp op) r->Bl X a ta->Bl X b tb->Bl X (Expr.BinOp a op b pos) (tOp r ta tb):=by with_unfolding_all exact @L2.Adt
theorem Dj:∀ {X:Cx}{a:Expr}{ta:TE}{pos:Pos}{op:UnaryOp}{r:V->Hp->VK->Prop},UnR X (unaryOp op) r->Bl X a ta->Bl X (Expr.UnaryOp op a pos) (tUn r ta):=by with_unfolding_all exact @L2.Adu
theorem Dd:∀ {X:Cx}{a b:Expr}{ta tb:TE}{pos:Pos}{op:CmpOp}{r:R2},OpR X (compareOp op) r->Bl X a ta->Bl X b tb->behindInMarks op b=Bool.false->Bl X (Expr.Compare a [op] [b] pos) (tOp r ta tb):=by with_unfolding_all exact @L2.Z4
theorem Km:∀ {X:Cx}{a b:Expr}{ta tb:TE}{pos:Pos}{rest:List Expr},Bl X a ta->Bl X (Expr.BoolOp BoolOp.And (b::rest) pos) tb->Bl X (Expr.BoolOp BoolOp.And (a::b::rest) pos) (Aah ta tb):=by with_unfolding_all exact @L2.Abo
theorem Oc:∀ {X:Cx}{a:Expr}{pos:Pos}{op:BoolOp}{t:TE},Bl X a t->Bl X (Expr.BoolOp op [a] pos) t:=by with_unfolding_all exact @L2.Abr
theorem Av:∀ {X:Cx}{es:List Expr}{t:TA}{pos:Pos}{x1:Nat},Gb X es t->Bl X (Expr.Tuple es x1 pos) (Ad8 t):=by with_unfolding_all exact @L2.Yo
theorem Bv:∀ {X:Cx}{es:List Expr}{t:TA}{pos:Pos},Gb X es t->Bl X (Expr.List es pos) (Ad3 t):=by with_unfolding_all exact @L2.Abp
theorem Eh:∀ {X:Cx}{e:Expr}{te:TE}{lo hi:Option Expr}{tl th:TO}{pos p2:Pos}{r:V->Option Int->Option Int->Hp->VK->Prop},SlR X r->Bl X e te->Wv X lo tl->Wv X hi th->Bl X (Expr.Subscript e (Expr.Slice lo hi Option.none p2) pos) (tSl r te tl th):=by with_unfolding_all exact @L2.Xk
theorem Jd:∀ {X:Cx},Wv X Option.none Q6:=by with_unfolding_all exact @L2.Z7
theorem Dn:∀ {X:Cx}{e:Expr}{te:TE},Bl X e te->Wv X (Option.some e) (Aak te):=by with_unfolding_all exact @L2.Z8
theorem Aq:∀ {X:Cx}{a b:Expr}{ta tb:TE}{pos:Pos}{r:R2},IxR X r->Bl X a ta->Bl X b tb->Uk b->Bl X (Expr.Subscript a b pos) (tOp r ta tb):=by with_unfolding_all exact @L2.Ads
theorem Jc:∀ {X:Cx}{elt tg iter:Expr}{ifs:List Expr}{scope:Scope}{pos:Pos}{wi:TI}{g:TG}{tt:TT}{te:TE}{ts:List Str}{fs:List (Nat × Str)},Cx.calm X=Bool.true->Di X ts fs scope->Kg X tg iter wi->(∀(ex:List Addr) (s:Shared) (H:Hp),Lk (cxC X (cpN ts fs) scope ex s H) tg g)->(∀(ex:List Addr) (s:Shared) (H:Hp),Ul (cxC X (cpN ts fs) scope ex s H) ifs tt)->(∀(ex:List Addr) (s:Shared) (H:Hp),Bl (cxC X (cpN ts fs) scope ex s H) elt te)->autoParam (∀(x:Value),foldedSetIterable iter (Cx.env X) x=Pure.pure x) L2.Vw._auto_1->Bl X (Expr.ListComp elt [{ target:=tg,iter:=iter,ifs:=ifs,is_async:=(0:Int)}] scope pos) (T7 (List.length ts) fs wi g tt te):=by with_unfolding_all exact @L2.Vw
theorem Ko:∀ {P:Program}{w:World}{K:W.Frag}{mg:Str->Option Value}{base:Heap}{N:List Str}{qual:Str}{scope:Scope}{f:Addr}{cd:Value}{A:Around}{outer:List Env}{s0:Shared}{H0:Hp}{E:XK}{k:Nat}{x:Str}{ps:List Str}{sp:Sp}{p pos:Pos}{e:Expr}{es:List Expr}{t:TA},Ny P w K mg base k x ps sp->Gn k (Around.deeper A (PyProof.Rows.envOfC qual scope (Array.size (Heap.objs (Shared.heap s0))) f cd))->Gb (J4 (CXE P w) P w K mg base N qual scope f cd A outer s0 H0 E) (e::es) t->autoParam (Gl (J4 (CXE P w) P w K mg base N qual scope f cd A outer s0 H0 E) x) L2.Gw._auto_1->autoParam ((x==("__debug__":Str))=Bool.false) L2.Gw._auto_2->autoParam (starEach (e::es) (PyProof.Rows.envOfC qual scope (Array.size (Heap.objs (Shared.heap s0))) f cd)=(Bool.false,eval e (PyProof.Rows.envOfC qual scope (Array.size (Heap.objs (Shared.heap s0))) f cd))::starEach es (PyProof.Rows.envOfC qual scope (Array.size (Heap.objs (Shared.heap s0))) f cd)) L2.Gw._auto_3->autoParam ((List.any (backTo pos (starEach es (PyProof.Rows.envOfC qual scope (Array.size (Heap.objs (Shared.heap s0))) f cd))) fun(x:Bool × Sem Value) ↦ Prod.fst x)=Bool.false) L2.Gw._auto_4->Bl (J4 (CXE P w) P w K mg base N qual scope f cd A outer s0 H0 E) (Expr.Call (Expr.Name x p) (e::es) [] pos) (Nq sp [] E t):=by with_unfolding_all exact @L2.Gw
theorem Ar:∀ {X:Cx}{e:Expr}{es:List Expr}{t:TA}{x:Str}{p pos:Pos}{id:String}{r:List V->Hp->VK->Prop},Gm X (Value.builtin id) r->Gl X x->Cx.mg X x=Option.none->bootBuiltins x=Option.some (Value.builtin id)->Gb X (e::es) t->autoParam (Cd e=Bool.true) L2.Vt._auto_1->autoParam (List.all es Cd=Bool.true) L2.Vt._auto_2->autoParam (x≠("__name__":Str)) L2.Vt._auto_3->autoParam ((x==("__debug__":Str))=Bool.false) L2.Vt._auto_4->Bl X (Expr.Call (Expr.Name x p) (e::es) [] pos) (tCB r t):=by with_unfolding_all exact @L2.Vt
theorem Dz:∀ {X:Cx}{e:Expr}{es:List Expr}{t:TA}{x:Str}{p pos:Pos}{T:String}{r:List V->Hp->VK->Prop},Gm X (Value.type T) r->Gl X x->Cx.mg X x=Option.none->bootBuiltins x=Option.some (Value.type T)->Gb X (e::es) t->autoParam (Cd e=Bool.true) L2.O7._auto_1->autoParam (List.all es Cd=Bool.true) L2.O7._auto_2->autoParam (x≠("__name__":Str)) L2.O7._auto_3->autoParam ((x==("__debug__":Str))=Bool.false) L2.O7._auto_4->Bl X (Expr.Call (Expr.Name x p) (e::es) [] pos) (tCB r t):=by with_unfolding_all exact @L2.O7
theorem Ac2:∀ {X:Cx}{e:Expr}{es:List Expr}{t:TA}{x:Str}{p pos:Pos}{k:Nat}{ps:List Str}{sp:Sp},Cal (Cx.prog X) (Cx.w X) (Cx.K X) (Cx.mg X) (Cx.base X) k x ps sp->Gn k (Cx.A X)->Gb X (e::es) t->autoParam (Cd e=Bool.true) L2.T4._auto_1->autoParam (List.all es Cd=Bool.true) L2.T4._auto_2->autoParam (Gl X x) L2.T4._auto_3->autoParam ((x==("__debug__":Str))=Bool.false) L2.T4._auto_4->Bl X (Expr.Call (Expr.Name x p) (e::es) [] pos) (Nq sp [] E0 t):=by with_unfolding_all exact @L2.T4
theorem Ak:∀ {X:Cx}{e:Expr}{es:List Expr}{t:TA}{x:Str}{p pos:Pos}{k:Nat}{ps:List Str}{sp:Sp}{n:Nat},Cal (Cx.prog X) (Cx.w X) (Cx.K X) (Cx.mg X) (Cx.base X) k x ps sp->Gn n (Cx.A X)->Gb X (e::es) t->autoParam (k<=n) L2.T5._auto_1->autoParam (Cd e=Bool.true) L2.T5._auto_2->autoParam (List.all es Cd=Bool.true) L2.T5._auto_3->autoParam (Gl X x) L2.T5._auto_4->autoParam ((x==("__debug__":Str))=Bool.false) L2.T5._auto_5->Bl X (Expr.Call (Expr.Name x p) (e::es) [] pos) (Nq sp [] E0 t):=by with_unfolding_all exact @L2.T5
theorem Rj:∀ {X:Cx}{i k:Nat}{a:Addr}{x:Str}{ps:List Str}{sp:Sp}{p pos:Pos}{e:Expr}{es:List Expr}{t:TA},Aar (Cx.prog X) (Cx.w X) (Cx.K X) (Cx.mg X) (Cx.base X) k a ps sp->Gn k (Cx.A X)->Bl X (Expr.Name x p) (Y7 i)->Gb X (e::es) t->autoParam (Cd e=Bool.true) L2.Z2._auto_1->autoParam (List.all es Cd=Bool.true) L2.Z2._auto_2->Bl X (Expr.Call (Expr.Name x p) (e::es) [] pos) (tCV i a sp E0 t):=by with_unfolding_all exact @L2.Z2
theorem Ri:∀ {X:Cx}{o e:Expr}{es:List Expr}{to:TE}{t:TA}{name:Str}{apos cpos:Pos}{T id:String}{r:V->List V->Hp->VK->Prop},PlainAttrs T->Slot T name id->typeOf (Value.builtin id)=Pure.pure (Value.type "method_descriptor")->MtR X id r->Bl X o to->Gb X (e::es) t->autoParam (attributeBase o name (Cx.env X) (eval o (Cx.env X))=eval o (Cx.env X)) L2.T3._auto_1->autoParam ((((List.all (backTo cpos (starEach (e::es) (Cx.env X))) fun(x:Bool × Sem Value) ↦ !Prod.fst x)&&List.all (backToKw cpos (keywordEach [] (Cx.env X))) fun(x:Option Str × Sem Value) ↦ Option.isSome (Prod.fst x))&&Decidable.decide ((List.length (e::es)+List.length ([]:List Keyword)+if List.isEmpty ([]:List Keyword)=Bool.true then(0:Nat)else(1:Nat))<(30:Nat)))=Bool.true) L2.T3._auto_2->autoParam ((Pos.endLine apos==Pos.line cpos)=Bool.true) L2.T3._auto_3->autoParam (starEach (e::es) (Cx.env X)=(Bool.false,eval e (Cx.env X))::starEach es (Cx.env X)) L2.T3._auto_4->autoParam ((List.any (backTo cpos (starEach es (Cx.env X))) fun(x:Bool × Sem Value) ↦ Prod.fst x)=Bool.false) L2.T3._auto_5->Bl X (Expr.Call (Expr.Attribute o name apos) (e::es) [] cpos) (tBM (Cx.K X) T r to t):=by with_unfolding_all exact @L2.T3
theorem Oa:∀ {X:Cx}{o:Expr}{to:TE}{name:Str}{apos cpos:Pos}{T id:String}{r:V->List V->Hp->VK->Prop},PlainAttrs T->Slot T name id->typeOf (Value.builtin id)=Pure.pure (Value.type "method_descriptor")->MtR X id r->Bl X o to->autoParam (attributeBase o name (Cx.env X) (eval o (Cx.env X))=eval o (Cx.env X)) L2.Vs._auto_1->autoParam ((Pos.endLine apos==Pos.line cpos)=Bool.true) L2.Vs._auto_2->Bl X (Expr.Call (Expr.Attribute o name apos) [] [] cpos) (Ad0 (Cx.K X) T r to):=by with_unfolding_all exact @L2.Vs
theorem Mq:∀ {X:Cx}{a:Expr}{ta:TA}{el:List Expr}{x1:Nat}{tp p pos:Pos},Gl X (("enumerate":Str))->Cx.mg X (("enumerate":Str))=Option.none->Gb X [a] ta->autoParam (starEach [a] (Cx.env X)=[(Bool.false,eval a (Cx.env X))]) L2.Abv._auto_1->Kg X (Expr.Tuple el x1 tp) (Expr.Call (Expr.Name (("enumerate":Str)) p) [a] [] pos) (iEn (Cx.K X) ta):=by with_unfolding_all exact @L2.Abv
theorem Uo:∀ {X:Cx}{a:Expr}{ta:TA}{el:List Expr}{x1:Nat}{tp p pos:Pos},Gl X (("enumerate":Str))->Cx.mg X (("enumerate":Str))=Option.none->Gb X [a] ta->autoParam (starEach [a] (Cx.env X)=[(Bool.false,eval a (Cx.env X))]) L2.Yq._auto_1->Kg X (Expr.Tuple el x1 tp) (Expr.Call (Expr.Name (("enumerate":Str)) p) [a] [] pos) (Adk (Cx.K X) ta):=by with_unfolding_all exact @L2.Yq
theorem Td:∀ {X:Cx}{tg a b c:Expr}{ta:TA}{p pos:Pos},Gl X (("range":Str))->Cx.mg X (("range":Str))=Option.none->Gb X [a,b,c] ta->autoParam (Cd a=Bool.true) L2.Qv._auto_1->autoParam (List.all [b,c] Cd=Bool.true) L2.Qv._auto_2->Kg X tg (Expr.Call (Expr.Name (("range":Str)) p) [a,b,c] [] pos) (Zn ta):=by with_unfolding_all exact @L2.Qv
theorem Du:∀ {X:Cx}{tg a:Expr}{ta:TA}{p pos:Pos},Gl X (("range":Str))->Cx.mg X (("range":Str))=Option.none->Gb X [a] ta->autoParam (starEach [a] (Cx.env X)=[(Bool.false,eval a (Cx.env X))]) L2.O8._auto_1->Kg X tg (Expr.Call (Expr.Name (("range":Str)) p) [a] [] pos) (Zq ta):=by with_unfolding_all exact @L2.O8
theorem Od:∀ {X:Cx}{tg a b:Expr}{ta:TA}{p pos:Pos},Gl X (("range":Str))->Cx.mg X (("range":Str))=Option.none->Gb X [a,b] ta->autoParam (starEach [a,b] (Cx.env X)=[(Bool.false,eval a (Cx.env X)),(Bool.false,eval b (Cx.env X))]) L2.K1._auto_1->autoParam (starEach [b] (Cx.env X)=[(Bool.false,eval b (Cx.env X))]) L2.K1._auto_2->Kg X tg (Expr.Call (Expr.Name (("range":Str)) p) [a,b] [] pos) (Zr ta):=by with_unfolding_all exact @L2.K1
theorem Te:∀ {X:Cx}{tg l:Expr}{tl:TE},Bl X l tl->Kg X tg l (Zo (Cx.K X) tl):=by with_unfolding_all exact @L2.Z6
theorem Oe:∀ {X:Cx}{tg l:Expr}{tl:TE},Bl X l tl->Kg X tg l (Adl (Cx.K X) tl):=by with_unfolding_all exact @L2.Abw
theorem Um:∀ {X:Cx}{tg l:Expr}{tl:TE},Bl X l tl->Kg X tg l (Adj (Cx.K X) tl):=by with_unfolding_all exact @L2.Abu
theorem Hw:∀ {X:Cx},Ul X [] Xv:=by with_unfolding_all exact @L2.Aab
theorem Aj:∀ {X:Cx}{a b:Expr}{ta tb:TE}{pos:Pos}{op:CmpOp}{r:R2},OpR X (compareOp op) r->Bl X a ta->Bl X b tb->behindInMarks op b=Bool.false->Kh X (Expr.Compare a [op] [b] pos) (Aal (tOp r ta tb)):=by with_unfolding_all exact @L2.Aaa
theorem Dq:∀ {X:Cx}{a:Expr}{pos:Pos}{tA:TT},Kh X a tA->Kh X (Expr.UnaryOp UnaryOp.Not a pos) (Ad5 tA):=by with_unfolding_all exact @L2.Aby
theorem Cy:∀ {X:Cx}{a b:Expr}{pos:Pos}{tA tB':TT}{rest:List Expr},Kh X a tA->Qd X (Expr.BoolOp BoolOp.And (b::rest) pos) tB'->Qd X (Expr.BoolOp BoolOp.And (a::b::rest) pos) (Adz tA tB'):=by with_unfolding_all exact @L2.Abz
theorem Gp:∀ {X:Cx}{a b:Expr}{pos:Pos}{tA tB':TT}{rest:List Expr},Kh X a tA->Qd X (Expr.BoolOp BoolOp.Or (b::rest) pos) tB'->Qd X (Expr.BoolOp BoolOp.Or (a::b::rest) pos) (tOr tA tB'):=by with_unfolding_all exact @L2.Adw
theorem Dh:∀ {X:Cx}{a:Expr}{pos:Pos}{tA:TT},Kh X a tA->Qd X (Expr.BoolOp BoolOp.And [a] pos) tA:=by with_unfolding_all exact @L2.Aac
theorem Hl:∀ {X:Cx}{a:Expr}{pos:Pos}{tA:TT},Kh X a tA->Qd X (Expr.BoolOp BoolOp.Or [a] pos) tA:=by with_unfolding_all exact @L2.Ab0
theorem Cp:∀ {X:Cx}{e:Expr}{t:TT},Qd X e t->Kh X e t:=by with_unfolding_all exact @L2.PW.pt
theorem Cw:∀ {X:Cx}{e:Expr}{t:TE},Bl X e t->autoParam (∀(whole:Sem Value),isTrue e (Cx.env X) whole=do let v<-whole;standAt (Expr.pos e);holding [v] (truthy v)) L2.Yv._auto_1->Kh X e (tB t):=by with_unfolding_all exact @L2.Yv
theorem Ab:∀ {X:Cx},Gb X [] Ad4:=by with_unfolding_all exact @L2.Mf
theorem Aa:∀ {X:Cx}{e:Expr}{es:List Expr}{te:TE}{t:TA},Bl X e te->Gb X es t->autoParam (Cd e=Bool.true) L2.Ym._auto_1->Gb X (e::es) (Wd te t):=by with_unfolding_all exact @L2.Ym
theorem Ax:∀ {X:Cx},G5 X [] Aaj:=by with_unfolding_all exact @L2.Z9
theorem Ag:∀ {X:Cx}{st:Stmt}{t:TS},Ia X st t->G5 X [st] t:=by with_unfolding_all exact @L2.V4
theorem Ad:∀ {X:Cx}{st:Stmt}{rest:List Stmt}{t u:TS},Ia X st t->G5 X rest u->G5 X (st::rest) (Ac7 t u):=by with_unfolding_all exact @L2.Xp
theorem Aat:∀ {X:Cx}{pos:Pos}{i:Nat}{x:Str},List.Nodup (Cx.N X)->(Cx.N X)[i]? =Option.some x->Loc (Env.scope (Cx.env X)) x->∀(hf:autoParam (Cx.fn X x=Bool.true\/List.lookup x (Scope.names (Env.scope (Cx.env X)))=Option.some NameKind.local) L2.Qu._auto_1),Lk X (Expr.Name x pos) (Ig i):=by with_unfolding_all exact @L2.Qu
theorem Ba:∀ {X:Cx}{pos:Pos}{x:Str} (i:Nat),List.Nodup (Cx.N X)->autoParam ((Cx.N X)[i]? =Option.some x) L2.Xl._auto_1->autoParam (Loc (Env.scope (Cx.env X)) x) L2.Xl._auto_2->autoParam (Cx.fn X x=Bool.true\/List.lookup x (Scope.names (Env.scope (Cx.env X)))=Option.some NameKind.local) L2.Xl._auto_3->Lk X (Expr.Name x pos) (Ig i):=by with_unfolding_all exact @L2.Xl
theorem Fb:∀ {X:Cx},Rh X [] Ac3:=by with_unfolding_all exact @L2.Z5
theorem Bd:∀ {X:Cx}{e:Expr}{es:List Expr}{t:TG}{u:TGs},Lk X e t->Rh X es u->autoParam (List.map (fun(x:Bool × (Value->Sem Unit)) ↦ Prod.snd x) (assignEach (e::es) (Cx.env X))=assign e (Cx.env X)::List.map (fun(x:Bool × (Value->Sem Unit)) ↦ Prod.snd x) (assignEach es (Cx.env X))) L2.R4._auto_1->Rh X (e::es) (Ot t u):=by with_unfolding_all exact @L2.R4
theorem Gd:∀ {X:Cx}{pos:Pos}{es:List Expr}{k:Nat}{t:TGs}{n:Nat},Cx.calm X=Bool.true->Rh X es t->autoParam (List.length (assignEach es (Cx.env X))=n) L2.Vy._auto_1->autoParam (List.findIdx? (fun(x:Bool × (Value->Sem Unit)) ↦ Prod.fst x) (assignEach es (Cx.env X))=Option.none) L2.Vy._auto_2->Lk X (Expr.Tuple es k pos) (Ac4 (Cx.K X) n t):=by with_unfolding_all exact @L2.Vy
theorem Fl:∀ {X:Cx}{pos:Pos}{o i:Expr}{to ti:TE}{t:Aaz},Bl X o to->Bl X i ti->Ada X t->autoParam (∀(v:Value),assign (Expr.Subscript o i pos) (Cx.env X) v=do let ov<-holding [v] (eval o (Cx.env X));let iv<-holding [v,ov] (eval i (Cx.env X));standAt pos;holding [v,ov,iv] (setItem ov iv v);release [v,ov,iv] []) L2.Yp._auto_1->Lk X (Expr.Subscript o i pos) (Adh to ti t):=by with_unfolding_all exact @L2.Yp
theorem Tf:∀ {X:Cx}{elt tg iter:Expr}{ifs:List Expr}{scope:Scope}{pos:Pos}{wi:TI}{g:TG}{tt:TT}{te:TE}{ts:List Str}{fs:List (Nat × Str)}{g':TG}{y:Str}{py spos:Pos},Cx.calm X=Bool.true->Di X ts fs scope->Kg X tg iter wi->(∀(ex:List Addr) (s:Shared) (H:Hp),Lk (cxC X (cpN ts fs) scope ex s H) tg g)->(∀(ex:List Addr) (s:Shared) (H:Hp),Ul (cxC X (cpN ts fs) scope ex s H) ifs tt)->(∀(ex:List Addr) (s:Shared) (H:Hp),Bl (cxC X (cpN ts fs) scope ex s H) elt te)->Lk X (Expr.Name y py) g'->autoParam (swapsWith (Expr.ListComp elt [{ target:=tg,iter:=iter,ifs:=ifs,is_async:=(0:Int)}] scope pos) (Option.some (Expr.Name y py)) (Pos.line spos) (Cx.env X)=Pure.pure Bool.true) L2.Qx._auto_1->autoParam (∀(x:Value),foldedSetIterable iter (Cx.env X) x=Pure.pure x) L2.Qx._auto_2->Ia X (Stmt.Assign [Expr.Name y py] (Expr.ListComp elt [{ target:=tg,iter:=iter,ifs:=ifs,is_async:=(0:Int)}] scope pos) spos) (Xu (T7 (List.length ts) fs wi g tt te) g'):=by with_unfolding_all exact @L2.Qx
theorem Aay:∀ {X:Cx}{pos:Pos}{i:Nat}{x:Str}{e:Expr}{te:TE}{pos':Pos},List.Nodup (Cx.N X)->(Cx.N X)[i]? =Option.some x->Loc (Env.scope (Cx.env X)) x->Bl X e te->autoParam (swapsWith e (Option.some (Expr.Name x pos')) (Pos.line pos) (Cx.env X)=Pure.pure Bool.false) L2.R8._auto_1->autoParam (Cx.fn X x=Bool.true\/List.lookup x (Scope.names (Env.scope (Cx.env X)))=Option.some NameKind.local) L2.R8._auto_2->Ia X (Stmt.Assign [Expr.Name x pos'] e pos) (Xu te (Ig i)):=by with_unfolding_all exact @L2.R8
theorem Ai:∀ {X:Cx}{e:Expr}{pos:Pos}{te:TE}{x:Str}{pos':Pos} (i:Nat),List.Nodup (Cx.N X)->Bl X e te->autoParam ((Cx.N X)[i]? =Option.some x) L2.V3._auto_1->autoParam (Loc (Env.scope (Cx.env X)) x) L2.V3._auto_2->autoParam (swapsWith e (Option.some (Expr.Name x pos')) (Pos.line pos) (Cx.env X)=Pure.pure Bool.false) L2.V3._auto_3->autoParam (Cx.fn X x=Bool.true\/List.lookup x (Scope.names (Env.scope (Cx.env X)))=Option.some NameKind.local) L2.V3._auto_4->Ia X (Stmt.Assign [Expr.Name x pos'] e pos) (Xu te (Ig i)):=by with_unfolding_all exact @L2.V3
theorem Hj:∀ {X:Cx}{pos:Pos}{i j:Nat}{x y:Str}{a b:Expr}{ta:TA}{px py pt:Pos}{kt k2:Nat}{pt2:Pos},Cx.calm X=Bool.true->List.Nodup (Cx.N X)->(Cx.N X)[i]? =Option.some x->(Cx.N X)[j]? =Option.some y->i≠j->List.lookup x (Scope.names (Env.scope (Cx.env X)))=Option.some NameKind.local->List.lookup y (Scope.names (Env.scope (Cx.env X)))=Option.some NameKind.local->Gb X [a,b] ta->swappedStores [Expr.Tuple [Expr.Name x px,Expr.Name y py] kt pt] (Expr.Tuple [a,b] k2 pt2) (Cx.env X)=Pure.pure (Option.some [x,y])->autoParam (swapsWithSole [Expr.Tuple [Expr.Name x px,Expr.Name y py] kt pt] (Expr.Tuple [a,b] k2 pt2) (Pos.line pos) (Cx.env X)=Pure.pure Bool.false) L2.Yt._auto_1->Ia X (Stmt.Assign [Expr.Tuple [Expr.Name x px,Expr.Name y py] kt pt] (Expr.Tuple [a,b] k2 pt2) pos) (Ad6 i j ta):=by with_unfolding_all exact @L2.Yt
theorem Ea:∀ {X:Cx}{pos:Pos}{tg e:Expr}{te:TE}{g:TG},Bl X e te->Lk X tg g->autoParam (swapsWithSole [tg] e (Pos.line pos) (Cx.env X)=Pure.pure Bool.false) L2.R7._auto_1->autoParam (swappedStores [tg] e (Cx.env X)=Pure.pure Option.none) L2.R7._auto_2->autoParam (List.map (fun(x:Bool × (Value->Sem Unit)) ↦ Prod.snd x) (assignEach [tg] (Cx.env X))=[assign tg (Cx.env X)]) L2.R7._auto_3->Ia X (Stmt.Assign [tg] e pos) (Xu te g):=by with_unfolding_all exact @L2.R7
theorem Am:∀ {X:Cx}{e:Expr}{te:TE}{pos:Pos},Bl X e te->Ia X (Stmt.Return (Option.some e) pos) (Ad7 te):=by with_unfolding_all exact @L2.Yu
theorem Bf:∀ {X:Cx}{t u:TS}{pos:Pos}{c:Expr}{a b:List Stmt}{tc:TT},Kh X c tc->G5 X a t->G5 X b u->Ia X (Stmt.If c a b pos) (Ad2 tc t u):=by with_unfolding_all exact @L2.Adv
theorem Kq:∀ {P:Program}{w:World}{K:W.Frag}{mg:Str->Option Value}{base:Heap}{N:List Str}{qual:Str}{scope:Scope}{f:Addr}{cd:Value}{A:Around}{outer:List Env}{s0:Shared}{H0:Hp}{E:XK}{C:Addr}{x:Str}{np cpos pos:Pos}{e:Expr}{es:List Expr}{t:TA},N5 K C->mg x=Option.some (Value.ref C)->Gb (J4 (CXE P w) P w K mg base N qual scope f cd A outer s0 H0 E) (e::es) t->autoParam (Gl (J4 (CXE P w) P w K mg base N qual scope f cd A outer s0 H0 E) x) L2.Iv._auto_1->autoParam ((x==("__debug__":Str))=Bool.false) L2.Iv._auto_2->autoParam (starEach (e::es) (PyProof.Rows.envOfC qual scope (Array.size (Heap.objs (Shared.heap s0))) f cd)=(Bool.false,eval e (PyProof.Rows.envOfC qual scope (Array.size (Heap.objs (Shared.heap s0))) f cd))::starEach es (PyProof.Rows.envOfC qual scope (Array.size (Heap.objs (Shared.heap s0))) f cd)) L2.Iv._auto_3->autoParam ((List.any (backTo cpos (starEach es (PyProof.Rows.envOfC qual scope (Array.size (Heap.objs (Shared.heap s0))) f cd))) fun(x:Bool × Sem Value) ↦ Prod.fst x)=Bool.false) L2.Iv._auto_4->Ia (J4 (CXE P w) P w K mg base N qual scope f cd A outer s0 H0 E) (Stmt.Raise (Option.some (Expr.Call (Expr.Name x np) (e::es) [] cpos)) Option.none pos) (Wf C E t):=by with_unfolding_all exact @L2.Iv
theorem Ls:∀ {X:Cx}{Dc:Addr}{Cs:List Addr}{cx n f:Str}{np p cpos pos hpos:Pos}{b0 st:Stmt}{suite:List Stmt}{i k:Nat}{ts:Addr->Addr->Obj->TS}{ps:List Str}{sp:Sp}{a:Expr}{as:List Expr}{ta:TA}{g:V->St->St},Ny (Cx.prog X) (Cx.w X) (Cx.K X) (Cx.mg X) (Cx.base X) k f ps sp->Gn k (Cx.A X)->Gb (Cx.nox X) (a::as) ta->Rb X st (Expr.Call (Expr.Name f p) (a::as) [] cpos) g->N5 (Cx.K X) Dc->Cx.mg X cx=Option.some (Value.ref Dc)->(∀(C:Addr),C∈Cs->Above (Cx.K X) Dc C)->(∀(C:Addr),Qc (Cx.K X) C->∀(x:Addr) (oe:Obj),Obj.cls oe=Value.ref C->G5 (Cx.caught X x oe) (b0::suite) (ts C x oe))->List.Nodup (Cx.N X)->(Cx.N X)[i]? =Option.some n->autoParam (Cx.stack X=Cx.env X::Cx.outer X) L2.Er._auto_1->autoParam (Env.frame (Cx.env X)=Option.some (Env.locals (Cx.env X))) L2.Er._auto_2->autoParam (Gl X cx) L2.Er._auto_3->autoParam ((cx==("__debug__":Str))=Bool.false) L2.Er._auto_4->autoParam (Gl X f) L2.Er._auto_5->autoParam ((f==("__debug__":Str))=Bool.false) L2.Er._auto_6->autoParam (starEach (a::as) (Cx.env X)=(Bool.false,eval a (Cx.env X))::starEach as (Cx.env X)) L2.Er._auto_7->autoParam ((List.any (backTo cpos (starEach as (Cx.env X))) fun(x:Bool × Sem Value) ↦ Prod.fst x)=Bool.false) L2.Er._auto_8->autoParam (Env.kindOf (Cx.env X) n=Option.some NameKind.local) L2.Er._auto_9->autoParam (Loc (Env.scope (Cx.env X)) n) L2.Er._auto_10->autoParam (List.lookup n (Scope.names (Env.scope (Cx.env X)))=Option.some NameKind.local) L2.Er._auto_11->Ia X (Stmt.Try [st] [ExceptHandler.ExceptHandler (Option.some (Expr.Name cx np)) (Option.some n) (b0::suite) hpos] [] [] pos) (Aam sp Cs g i ta ts):=by with_unfolding_all exact @L2.Er
theorem Kl:∀ {X:Cx}{i:Nat}{x:Str}{e:Expr}{pos pos':Pos},List.Nodup (Cx.N X)->(Cx.N X)[i]? =Option.some x->Loc (Env.scope (Cx.env X)) x->autoParam (swapsWith e (Option.some (Expr.Name x pos')) (Pos.line pos) (Cx.env X)=Pure.pure Bool.false) L2.Ms._auto_1->autoParam (Cx.fn X x=Bool.true\/List.lookup x (Scope.names (Env.scope (Cx.env X)))=Option.some NameKind.local) L2.Ms._auto_2->Rb X (Stmt.Assign [Expr.Name x pos'] e pos) e fun(v:V) (σ:St) ↦ List.set σ i (Option.some v):=by with_unfolding_all exact @L2.Ms
theorem N8:∀ {X:Cx}{st:Stmt}{t:TS},Ia (Cx.nox X) st t->Ia X st t:=by with_unfolding_all exact @L2.PS.nox
theorem Bs:∀ {X:Cx}{pos:Pos}{c:Expr}{body:List Stmt}{tc:TT}{tb:TS},PassesOwn (model (Cx.prog X) (Cx.w X)) (Cx.A X) (Cx.env X) (Cx.xe X)->Kh X c tc->G5 X body tb->Ia X (Stmt.While c body [] pos) (Sw tc tb):=by with_unfolding_all exact @L2.Xo
theorem Cv:∀ {X:Cx}{tg iter:Expr}{body:List Stmt}{wi:TI}{g:TG}{tb:TS}{pos:Pos},PassesOwn (model (Cx.prog X) (Cx.w X)) (Cx.A X) (Cx.env X) (Cx.xe X)->Cx.calm X=Bool.true->Kg X tg iter wi->Lk X tg g->G5 X body tb->autoParam (∀(x:Value),foldedSetIterable iter (Cx.env X) x=Pure.pure x) L2.Ys._auto_1->Ia X (Stmt.For tg iter body [] pos) (Ad1 wi g tb):=by with_unfolding_all exact @L2.Ys
theorem Hv:∀ {X:Cx}{e:Expr}{te:TE}{pos:Pos},Bl X e te->autoParam (swapsWith e Option.none (Pos.line pos) (Cx.env X)=Pure.pure Bool.false) L2.V2._auto_1->Ia X (Stmt.Expr e pos) (Aai te):=by with_unfolding_all exact @L2.V2
theorem Ay {X:Cx}{b:List Stmt}{φ:TS->Prop} (h:∃t,G5 X b t/\φ t):∃t,L2.PSs X b t/\φ t:=by
 obtain⟨t,h1,h2⟩:=h
 exact⟨t,Aax h1,h2⟩
end L2
namespace Z
theorem abs_eq (i:Int):(if i<0 then-i else i)=((i.natAbs:Nat):Int):=by
 split<;>omega
noncomputable def sg (q:Rat):Int:=if q=0 then 0 else if 0<q then 1 else-1
end Z
namespace Z
noncomputable def co (p:List Int) (i:Nat):Int:=p.getD i 0
theorem Br (i:Nat):co [] i=0:=by simp [co]
theorem Cq (a:Int) (r:List Int):co (a::r) 0=a:=by simp [co]
theorem Ci (a:Int) (r:List Int) (i:Nat):co (a::r) (i+1)=co r i:=by simp [co]
theorem Bp {p:List Int}{i:Nat} (h:p.length<=i):co p i=0:=by simp [co,List.getD_eq_getElem?_getD,List.getElem?_eq_none h]
theorem Bt {p:List Int}{i:Nat} (h:i<p.length):co p i=p[i]:=by simp [co,List.getD_eq_getElem?_getD,List.getElem?_eq_getElem h]
noncomputable def Tr (p:List Int):Prop:=p=[]\/∃h:p≠ [],p.getLast h≠0
theorem Tr.lead {p:List Int} (h:Tr p) (n:p≠ []):co p (p.length-1)≠0:=by
 rcases h with h | ⟨h,z⟩
 . exact absurd h n
 . have hl:0<p.length:=List.length_pos_iff.mpr h
   rw [Bt (by omega)]
   rw [List.getLast_eq_getElem]at z
   exact z
theorem Tr.of {p:List Int} (h:p=[]\/co p (p.length-1)≠0):Tr p:=by
 by_cases n:p=[]
 . exact .inl n
 . rcases h with h | h
   . exact .inl h
   . refine .inr ⟨n,?_⟩
     have hl:0<p.length:=List.length_pos_iff.mpr n
     rw [Bt (by omega)]at h
     rw [List.getLast_eq_getElem]
     exact h
theorem Tr.len {p q:List Int} (hp:Tr p) (e:∀i,co p i=co q i):p.length<=q.length:=by
 by_cases n:p=[]
 . subst n;simp
 . by_cases h:p.length<=q.length
   . exact h
   . exfalso
     have z:=hp.lead n
     rw [e,Bp (by omega)]at z
     exact z rfl
theorem Tr.ext {p q:List Int} (hp:Tr p) (hq:Tr q) (e:∀i,co p i=co q i):p=q:=by
 have l:=Nat.le_antisymm (hp.len e) (hq.len fun i=>(e i).symm)
 refine List.ext_getElem l fun i h1 h2=> ?_
 rw [<-Bt h1,<-Bt h2,e]
noncomputable def trim:List Int->List Int
 | []=>[]
 | a::r=>match trim r with
   | []=>if a=0 then []else [a]
   | b::t=>a::b::t
theorem Pu (a:Int) (r:List Int):trim (a::r)=if trim r=[]/\a=0 then []else a::trim r:=by
 rw [trim]
 split
 . rename_i h
   rw [h]
   by_cases ha:a=0<;>simp [ha]
 . rename_i b t h
   rw [h]
   simp
theorem Bg:∀(p:List Int) (i:Nat),co (trim p) i=co p i
 | [],i=>rfl
 | a::r,i=>by
   rw [Pu]
   split
   . rename_i h
     rw [Br]
     cases i with
     | zero=>rw [Cq,h.2]
     | succ i=>rw [Ci,<-Bg r i,h.1,Br]
   . cases i with
     | zero=>rw [Cq,Cq]
     | succ i=>rw [Ci,Ci,Bg r i]
theorem Ck:∀p:List Int,Tr (trim p)
 | []=> .inl rfl
 | a::r=>by
   rw [Pu]
   split
   . exact .inl rfl
   . rename_i h
     refine .inr ⟨by simp,?_⟩
     by_cases hr:trim r=[]
     . simp only [hr,List.getLast_singleton]
       exact fun z=>h ⟨hr,z⟩
     . rw [List.getLast_cons hr]
       rcases Ck r with z | ⟨_,z⟩
       . exact absurd z hr
       . exact z
theorem Wg {p q:List Int} (hq:Tr q) (e:∀i,co q i=co p i):trim p=q:=(Ck p).ext hq fun i=>by rw [Bg,e]
theorem Aan {p:List Int} (h:Tr p):trim p=p:=Wg h fun _=>rfl
theorem Ku (p:List Int) (n i:Nat):co (p.take n) i=if i<n then co p i else 0:=by
 unfold co
 rw [List.getD_eq_getElem?_getD,List.getD_eq_getElem?_getD,List.getElem?_take]
 split<;>rfl
theorem Px {p:List Int}{n:Nat} (h1:∀i,n<=i->co p i=0) (h2:n=0\/co p (n-1)≠0):trim p=p.take n:=by
 refine Wg ?_ fun i=> ?_
 . rcases h2 with h | h
   . subst h;exact .inl (by simp)
   . have hn:n<=p.length:=by
      by_cases z:n<=p.length
      . exact z
      . exact absurd (Bp (by omega)) h
     refine .of ?_
     by_cases n0:n=0
     . left;subst n0;simp
     . right
       rw [List.length_take,Nat.min_eq_left hn,Ku,if_pos (by omega)]
       exact h
 . rw [Ku]
   split
   . rfl
   . rw [h1 i (by omega)]
noncomputable def sh (f:Nat->Int):Nat->Int
 | 0=>0
 | i+1=>f i
noncomputable def mu:List Int->(Nat->Int)->Nat->Int
 | [],_=>fun _=>0
 | a::p,f=>fun i=>a*f i+sh (mu p f) i
theorem Y4 (f g:Nat->Int):sh (fun i=>f i+g i)=fun i=>sh f i+sh g i:=by funext i;cases i<;>simp [sh]
theorem Y5 (c:Int) (f:Nat->Int):sh (fun i=>c*f i)=fun i=>c*sh f i:=by funext i;cases i<;>simp [sh]
theorem K9:sh (fun _=>0)=fun _=>0:=by funext i;cases i<;>rfl
theorem Ve:∀(p:List Int) (f g:Nat->Int),mu p (fun i=>f i+g i)=fun i=>mu p f i+mu p g i
 | [],f,g=>by funext i;simp [mu]
 | a::p,f,g=>by
   funext i
   simp only [mu]
   rw [Ve p f g,Y4]
   grind
theorem Ly:∀(p:List Int) (c:Int) (f:Nat->Int),mu p (fun i=>c*f i)=fun i=>c*mu p f i
 | [],c,f=>by funext i;simp [mu]
 | a::p,c,f=>by
   funext i
   simp only [mu]
   rw [Ly p c f,Y5]
   grind
theorem M5:∀(p:List Int),mu p (fun _=>0)=fun _=>0
 | []=>rfl
 | a::p=>by
   funext i
   simp only [mu]
   rw [M5 p,K9]
   simp
theorem Abi:∀(p:List Int) (f:Nat->Int),mu p (sh f)=sh (mu p f)
 | [],f=>by funext i;cases i<;>rfl
 | a::p,f=>by
   funext i
   simp only [mu]
   rw [Abi p f]
   cases i with
   | zero=>simp [sh]
   | succ i=>simp [sh]
theorem Yc (a:Int) (r:List Int):co (a::r)=fun i=>(if i=0 then a else 0)+sh (co r) i:=by
 funext i
 cases i with
 | zero=>simp [Cq,sh]
 | succ i=>simp [Ci,sh]
theorem R0:∀(p:List Int),mu p (fun i=>if i=0 then 1 else 0)=co p
 | []=>by funext i;simp [mu,co]
 | a::p=>by
   funext i
   simp only [mu]
   rw [R0 p,Yc]
   cases i<;>simp
theorem Tq (q:List Int) (a:Int) (p:List Int):mu q (co (a::p))=fun i=>a*co q i+sh (mu q (co p)) i:=by
 rw [Yc,Ve,Abi]
 funext i
 congr 1
 have e:(fun i:Nat=>if i=0 then a else 0)=fun i=>a*(if i=0 then 1 else 0):=by funext i;cases i<;>simp
 rw [e,Ly,R0]
theorem Ih:∀p q:List Int,mu p (co q)=mu q (co p)
 | [],q=>by
   have e:co []=fun _=>0:=by funext i;simp [co]
   rw [e,M5];rfl
 | a::p,q=>by rw [Tq,<-Ih p q];rfl
theorem M4 (f:Nat->Int):∀(r:List Int),(∀i,co r i=0)->mu r f=fun _=>0
 | [],_=>rfl
 | a::r,h0=>by
   have ha:a=0:=by have:=h0 0;rwa [Cq]at this
   funext i
   simp only [mu]
   rw [M4 f r fun i=>by have:=h0 (i+1);rwa [Ci]at this,K9,ha]
   simp
theorem Ce (f:Nat->Int):∀(r s:List Int),(∀i,co r i=co s i)->mu r f=mu s f
 | [],s,h0=>(M4 f s fun i=>by rw [<-h0,Br]).symm
 | a::r,[],h0=>M4 f (a::r) fun i=>by rw [h0,Br]
 | a::r,b::s,h0=>by
   have e0:a=b:=by have:=h0 0;rwa [Cq,Cq]at this
   subst e0
   funext i
   simp only [mu]
   rw [Ce f r s fun i=>by have:=h0 (i+1);rwa [Ci,Ci]at this]
noncomputable def al:List Int->List Int->List Int
 | [],q=>q
 | p,[]=>p
 | a::p,b::q=>(a+b)::al p q
theorem Tg:∀(p q:List Int) (i:Nat),co (al p q) i=co p i+co q i
 | [],q,i=>by simp [al,co]
 | a::p,[],i=>by simp [al,co]
 | a::p,b::q,0=>by simp [al,Cq]
 | a::p,b::q,i+1=>by simp [al,Ci,Tg p q i]
theorem Qm (f:Nat->Int):∀(p q:List Int),mu (al p q) f=fun i=>mu p f i+mu q f i
 | [],q=>by funext i;simp [al,mu]
 | a::p,[]=>by funext i;simp [al,mu]
 | a::p,b::q=>by
   funext i
   simp only [al,mu]
   rw [Qm f p q,Y4]
   grind
theorem Ip (a:Int) (q:List Int) (i:Nat):co (q.map (a* ·)) i=a*co q i:=by
 unfold co
 rw [List.getD_eq_getElem?_getD,List.getD_eq_getElem?_getD,List.getElem?_map]
 cases q[i]? <;>simp
theorem Gu (f:Nat->Int) (a:Int):∀q:List Int,mu (q.map (a* ·)) f=fun i=>a*mu q f i
 | []=>by funext i;simp [mu]
 | b::q=>by
   funext i
   simp only [List.map_cons,mu]
   rw [Gu f a q,Y5]
   grind
noncomputable def ml:List Int->List Int->List Int
 | [],_=>[]
 | a::p,q=>al (q.map (a* ·)) (0::ml p q)
theorem Zx:∀(p q:List Int),co (ml p q)=mu p (co q)
 | [],q=>by funext i;simp [ml,mu,co]
 | a::p,q=>by
   funext i
   simp only [ml,mu]
   rw [Tg,Ip,<-Zx p q]
   cases i with
   | zero=>simp [Cq,sh]
   | succ i=>simp [Ci,sh]
theorem Ow (f:Nat->Int):∀(p q:List Int),mu (ml p q) f=mu p (mu q f)
 | [],q=>rfl
 | a::p,q=>by
   funext i
   simp only [ml]
   rw [Qm,Gu]
   simp only [mu]
   rw [Ow f p q]
   simp
theorem Xg {p q r:List Int} (f:Nat->Int) (h:∀i,co r i=mu p (co q) i):mu r f=mu p (mu q f):=by
 rw [<-Ow]
 exact Ce f r _ fun i=>by rw [h,Zx]
theorem Gs:∀(p:List Int) (e:Int) (i:Nat),co (p++ [e]) i=if i=p.length then e else co p i
 | [],e,0=>by simp [co]
 | [],e,i+1=>by simp [co]
 | a::p,e,0=>by simp [Cq]
 | a::p,e,i+1=>by
   rw [List.cons_append,Ci,Ci,Gs p e i,List.length_cons]
   by_cases h:i=p.length<;>simp [h]
theorem Ks (p:List Int) (j:Nat) (x:Int) (h:j<p.length) (i:Nat):co (p.set j x) i=if i=j then x else co p i:=by
 unfold co
 rw [List.getD_eq_getElem?_getD,List.getD_eq_getElem?_getD,List.getElem?_set]
 by_cases e:j=i
 . subst e
   simp [h]
 . rw [if_neg e,if_neg (Ne.symm e)]
theorem Gv (f:Nat->Int):∀(p:List Int) (e:Int) (i:Nat),mu (p++ [e]) f i=mu p f i+(if p.length<=i then e*f (i-p.length)else 0)
 | [],e,i=>by simp [mu,K9]
 | a::p,e,0=>by simp [mu,sh]
 | a::p,e,i+1=>by
   simp only [List.cons_append,mu,sh,List.length_cons]
   rw [Gv f p e i]
   by_cases h:p.length<=i
   . rw [if_pos h,if_pos (by omega),show i+1-(p.length+1)=i-p.length by omega]
     omega
   . rw [if_neg h,if_neg (by omega)]
     omega
theorem Vf:∀(p q:List Int) (i:Nat),p≠ []->p.length+q.length<=i+1->mu p (co q) i=0
 | [],q,i,h,_=>absurd rfl h
 | [a],q,i,_,hl=>by
   simp only [List.length_cons,List.length_nil]at hl
   simp only [mu]
   rw [Bp (by omega),K9]
   simp
 | a::b::p,q,0,_,hl=>by
   simp only [List.length_cons]at hl
   omega
 | a::b::p,q,i+1,_,hl=>by
   simp only [List.length_cons]at hl
   show a*co q (i+1)+mu (b::p) (co q) i=0
   rw [Bp (p:=q) (by omega)]
   rw [Vf (b::p) q i (by simp) (by simp only [List.length_cons];omega)]
   simp
theorem Mz:∀(p q:List Int) (i:Nat),p≠ []->q≠ []->i+2=p.length+q.length->mu p (co q) i=co p (p.length-1)*co q (q.length-1)
 | [],q,i,h,_,_=>absurd rfl h
 | [a],q,i,_,hq,hl=>by
   simp only [List.length_cons,List.length_nil]at hl
   simp only [mu]
   rw [K9]
   have e:i=q.length-1:=by omega
   subst e
   simp [Cq]
 | a::b::p,q,0,_,hq,hl=>by
   have:=List.length_pos_iff.mpr hq
   simp only [List.length_cons]at hl
   omega
 | a::b::p,q,i+1,_,hq,hl=>by
   simp only [List.length_cons]at hl
   show a*co q (i+1)+mu (b::p) (co q) i=_
   rw [Bp (p:=q) (by omega)]
   rw [Mz (b::p) q i (by simp) hq (by simp only [List.length_cons];omega)]
   simp [Ci]
noncomputable def tm (p q:List Int):List Int:=trim (ml p q)
noncomputable def ta (p q:List Int):List Int:=trim (al p q)
theorem Ec (p q:List Int) (i:Nat):co (tm p q) i=mu p (co q) i:=by rw [tm,Bg,Zx]
theorem G9 (p q:List Int):Tr (tm p q):=Ck _
theorem Ju (p q:List Int):tm p q=tm q p:=(G9 _ _).ext (G9 _ _) fun i=>by rw [Ec,Ec,Ih]
theorem Xw (p q r:List Int):tm (tm p q) r=tm p (tm q r):=(G9 _ _).ext (G9 _ _) fun i=>by
 rw [Ec,Ec,Xg (co r) (fun j=>Ec p q j)]
 exact congrFun (congrArg (mu p) (funext fun j=>(Ec q r j).symm)) i
theorem Y9 {p:List Int} (h:Tr p):tm p [1]=p:=(G9 _ _).ext h fun i=>by
 rw [Ec,show co [1]=fun i=>if i=0 then 1 else 0 from by funext i;cases i<;>simp [co],R0]
theorem Sx (p:List Int):tm p []=[]:=(G9 _ _).ext (.inl rfl) fun i=>by
 rw [Ec,show co []=fun _=>0 from by funext i;simp [co],M5]
noncomputable def pw (p:List Int):Nat->List Int
 | 0=>[1]
 | k+1=>tm p (pw p k)
theorem Adx (p:List Int):∀k,Tr (pw p k)
 | 0=> .inr ⟨by simp [pw],by simp [pw]⟩
 | k+1=>G9 _ _
theorem V5 (p:List Int):∀a b,tm (pw p a) (pw p b)=pw p (a+b)
 | 0,b=>by rw [pw,Ju,Y9 (Adx p b),Nat.zero_add]
 | a+1,b=>by rw [pw,Xw,V5 p a b,show a+1+b=(a+b)+1 by omega,pw]
theorem Yw {p:List Int} (h:Tr p):pw p 1=p:=by rw [pw,pw,Y9 h]
noncomputable def ng (p:List Int) (c:Int):List Int:=trim (p.map (· *c))
theorem Vj (p:List Int) (c:Int) (i:Nat):co (ng p c) i=co p i*c:=by
 rw [ng,Bg]
 unfold co
 rw [List.getD_eq_getElem?_getD,List.getD_eq_getElem?_getD,List.getElem?_map]
 cases p[i]? <;>simp
theorem Pq {p q:List Int} (hp:Tr p) (hq:Tr q) (h1:p≠ []) (h2:q≠ []):(tm p q).length+1=p.length+q.length:=by
 have l1:=List.length_pos_iff.mpr h1
 have l2:=List.length_pos_iff.mpr h2
 have lead:co (tm p q) (p.length+q.length-2)≠0:=by
  rw [Ec,Mz p q _ h1 h2 (by omega)]
  exact Int.mul_ne_zero (hp.lead h1) (hq.lead h2)
 have a:p.length+q.length-2<(tm p q).length:=by
  by_cases h:p.length+q.length-2<(tm p q).length
  . exact h
  . exact absurd (Bp (by omega)) lead
 have b:(tm p q).length<=p.length+q.length-1:=by
  by_cases h:(tm p q).length<=p.length+q.length-1
  . exact h
  . exfalso
    have hn:tm p q≠ []:=fun z=>by rw [z]at h;simp at h
    have:=(G9 p q).lead hn
    rw [Ec,Vf p q _ h1 (by omega)]at this
    exact this rfl
 omega
end Z
namespace Z
noncomputable def gl:List Int->Nat
 | []=>0
 | a::r=>Int.gcd a (gl r)
theorem U0:∀(L:List Int) (x:Int),x∈L->((gl L:Nat):Int)∣x
 | a::r,x,h=>by
   rcases List.mem_cons.mp h with rfl | h
   . exact Int.gcd_dvd_left ..
   . exact Int.dvd_trans (Int.gcd_dvd_right ..) (U0 r x h)
theorem Uw (e m:Int):∀L:List Int,(∀x∈L,e∣m*x)->e∣m*(gl L:Nat)
 | [],_=>by simp [gl]
 | a::r,h=>by
   have h1:=h a (by simp)
   have h2:=Uw e m r fun x hx=>h x (by simp [hx])
   have h3:=Int.dvd_coe_gcd h1 h2
   rw [Int.gcd_mul_left,Int.natCast_mul]at h3
   rw [gl]
   rcases Int.natAbs_eq m with z | z
   . rw [z];exact h3
   . rw [z,Int.neg_mul];exact Int.dvd_neg.mpr h3
noncomputable def Cop (s:Int) (a b:List Int):Prop:=∀e:Int,e∣s->(∀k,e∣co a k)->(∀k,e∣co b k)->e∣1
theorem Cop.gl {s:Int}{a b:List Int} (h:Cop s a b):Z.gl (s::(a++b))=1:=by
 have mem:=U0 (s::(a++b))
 have cd:∀(L:List Int),(∀x∈L,x∈s::(a++b))->∀k,((Z.gl (s::(a++b)):Nat):Int)∣co L k:=fun L hL k=>by
  by_cases hk:k<L.length
  . rw [Bt hk];exact mem _ (hL _ (List.getElem_mem hk))
  . rw [Bp (by omega)];exact Int.dvd_zero _
 have:=h _ (mem s (by simp)) (cd a fun x hx=>by simp [hx]) (cd b fun x hx=>by simp [hx])
 have h1:=Int.le_of_dvd (by decide) this
 rcases Nat.eq_zero_or_pos (Z.gl (s::(a++b)))with z | z
 . rw [z]at this
   have:=Int.zero_dvd.mp this
   omega
 . omega
theorem Zg {s m e:Int}{a b:List Int} (h:Cop s a b) (h1:e∣m*s) (h2:∀k,e∣m*co a k) (h3:∀k,e∣m*co b k):e∣m:=by
 have:=Uw e m (s::(a++b)) fun x hx=>by
  have inl:∀(L:List Int),(∀k,e∣m*co L k)->x∈L->e∣m*x:=fun L hL hm=>by
   obtain⟨i,hi,ei⟩:=List.getElem_of_mem hm
   have:=hL i
   rw [Bt hi,ei]at this
   exact this
  rcases List.mem_cons.mp hx with rfl | hx
  . exact h1
  . rcases List.mem_append.mp hx with hx | hx
    . exact inl a h2 hx
    . exact inl b h3 hx
 rw [h.gl]at this
 simpa using this
structure DV (p q:List Int) (s:Int) (qs rs:List Int) (j:Nat):Prop where
 pos:1<=s
 eq:∀k,s*co p k=mu qs (co q) k+co rs k
 top:∀k,j+q.length<=k+1->co rs k=0
 low:∀k,k<j->co qs k=0
 cop:Cop s qs rs
theorem Ox (f:Nat->Int) (n:Nat):∀i,mu (List.replicate n 0) f i=0:=fun i=>by
 rw [M4 f _ fun i=>by unfold co;rw [List.getD_eq_getElem?_getD,List.getElem?_replicate];split<;>rfl]
theorem DV.start (p q:List Int) (hq:q≠ []):DV p q 1 (List.replicate (p.length+1-q.length) 0) p (p.length+1-q.length):=by
 have hl:0<q.length:=List.length_pos_iff.mpr hq
 refine⟨Int.le_refl _,fun k=>by rw [Ox,Int.one_mul,Int.zero_add],fun k h=>Bp (by omega),fun k h=> ?_,fun e h _ _=>h⟩
 unfold co
 rw [List.getD_eq_getElem?_getD,List.getElem?_replicate]
 split<;>rfl
theorem Ur (m:Int) (L:List Int) (k:Nat):co (L.map (· *m)) k=co L k*m:=by
 unfold co
 rw [List.getD_eq_getElem?_getD,List.getD_eq_getElem?_getD,List.getElem?_map]
 cases L[k]? <;>simp
theorem DV.step {p q:List Int}{s:Int}{qs rs:List Int}{j:Nat} (h:DV p q s qs rs (j+1)) (hq:q≠ []) {m f:Int} (m1:1<=m) (hj:j<qs.length) (ef:co rs (j+(q.length-1))*m=f*co q (q.length-1)) (cp:∀e,e∣m->e∣f->e∣1)
 {rs':List Int} (hr:∀k,co rs' k=co rs k*m-(if j<=k then f*co q (k-j)else 0)):DV p q (s*m) ((qs.map (· *m)).set j f) rs' j:=by
 have hl:0<q.length:=List.length_pos_iff.mpr hq
 have cq:∀k,co ((qs.map (· *m)).set j f) k=if k=j then f else co qs k*m:=fun k=>by
  rw [Ks _ _ _ (by rw [List.length_map];exact hj),Ur]
 have sp:∀k,co ((qs.map (· *m)).set j f) k=co (al (qs.map (· *m)) (List.replicate j 0++ [f])) k:=fun k=>by
  rw [cq,Tg,Ur,Gs,List.length_replicate]
  by_cases hk:k=j
  . rw [if_pos hk,if_pos hk,hk,h.low j (by omega)];simp
  . rw [if_neg hk,if_neg hk]
    have:co (List.replicate j (0:Int)) k=0:=by
     unfold co
     rw [List.getD_eq_getElem?_getD,List.getElem?_replicate]
     split<;>rfl
    rw [this,Int.add_zero]
 have ms:∀k,mu (qs.map (· *m)) (co q) k=mu qs (co q) k*m:=fun k=>by
  have e:qs.map (· *m)=qs.map (m* ·):=List.map_congr_left fun x _=>Int.mul_comm _ _
  rw [e,Gu,Int.mul_comm]
 refine⟨?_,fun k=> ?_,fun k hk=> ?_,fun k hk=> ?_,fun e h1 h2 h3=> ?_⟩
 . have:=Int.mul_le_mul h.pos m1 (by decide) (by have:=h.pos;omega)
   omega
 . rw [Ce (co q) _ _ sp,Qm]
   dsimp only
   rw [Gv,Ox,ms,List.length_replicate,hr]
   have:=h.eq k
   have e:s*m*co p k=(s*co p k)*m:=by grind
   rw [e,this]
   grind
 . rw [hr,if_pos (by omega)]
   by_cases hk2:k=j+(q.length-1)
   . subst hk2
     rw [ef,show j+(q.length-1)-j=q.length-1 by omega]
     omega
   . rw [h.top k (by omega),Bp (show q.length<=k-j by omega)]
     simp
 . rw [cq,if_neg (by omega),h.low k (by omega),Int.zero_mul]
 . have hf:e∣f:=by have:=h2 j;rw [cq,if_pos rfl]at this;exact this
   refine cp e (Zg h.cop (by rw [Int.mul_comm];exact h1) (fun k=> ?_) fun k=> ?_) hf
   . by_cases hk:k=j
     . rw [hk,h.low j (by omega),Int.mul_zero];exact Int.dvd_zero _
     . have:=h2 k
       rw [cq,if_neg hk]at this
       rw [Int.mul_comm]
       exact this
   . have a:=h3 k
     rw [hr]at a
     have b:e∣(if j<=k then f*co q (k-j)else 0):=by
      split
      . exact Int.dvd_trans hf (Int.dvd_mul_right _ _)
      . exact Int.dvd_zero _
     have:=Int.dvd_add a b
     rw [Int.sub_add_cancel,Int.mul_comm]at this
     exact this
end Z
namespace Z
theorem Vg (e:Int):∀(p:List Int) (f:Nat->Int) (i:Nat),(∀j,j<=i->e∣f j)->e∣mu p f i
 | [],_,_,_=>Int.dvd_zero _
 | a::p,f,0,h=>by
   show e∣a*f 0+0
   rw [Int.add_zero]
   exact Int.dvd_trans (h 0 (Nat.le_refl _)) (Int.dvd_mul_left _ _)
 | a::p,f,i+1,h=>by
   show e∣a*f (i+1)+mu p f i
   exact Int.dvd_add (Int.dvd_trans (h _ (Nat.le_refl _)) (Int.dvd_mul_left _ _)) (Vg e p f i fun j hj=>h j (by omega))
theorem Kv {e:Int} (he:∀a b:Int,e∣a*b->e∣a\/e∣b):∀(p q:List Int),(∀k,e∣mu p (co q) k)->(∀k,e∣co p k)\/(∀k,e∣co q k)
 | [],_,_=> .inl fun k=>by rw [Br];exact Int.dvd_zero _
 | a::p,q,h=>by
   by_cases ha:e∣a
   . have h2:∀k,e∣mu p (co q) k:=fun k=>by
      have:=h (k+1)
      have z:e∣a*co q (k+1):=Int.dvd_trans ha (Int.dvd_mul_right _ _)
      exact(Int.dvd_add_right z).mp this
     rcases Kv he p q h2 with h3 | h3
     . refine .inl fun k=> ?_
       cases k with
       | zero=>rw [Cq];exact ha
       | succ k=>rw [Ci];exact h3 k
     . exact .inr h3
   . refine .inr fun k=> ?_
     induction k using Nat.strongRecOn with
     | _ k ih=>
       have z:=h k
       have s:e∣sh (mu p (co q)) k:=by
        cases k with
        | zero=>exact Int.dvd_zero _
        | succ k=>exact Vg e p _ k fun j hj=>ih j (by omega)
       have:e∣a*co q k:=(Int.dvd_add_left s).mp z
       exact(he _ _ this).resolve_left ha
theorem Xn:∀n:Nat,n≠1->∃r:Nat,2<=r/\r∣n/\∀a b:Int,(r:Int)∣a*b->(r:Int)∣a\/(r:Int)∣b:=fun n=>by
 have main:∀m:Nat,2<=m->∃r:Nat,2<=r/\r∣m/\∀a b:Int,(r:Int)∣a*b->(r:Int)∣a\/(r:Int)∣b:=fun m=>by
  induction m using Nat.strongRecOn with
  | _ m ih=>
    intro hm
    by_cases h:∃d,2<=d/\d<m/\d∣m
    . obtain⟨d,h1,h2,h3⟩:=h
      obtain⟨r,a1,a2,a3⟩:=ih d h2 h1
      exact⟨r,a1,Nat.dvd_trans a2 h3,a3⟩
    . refine⟨m,hm,Nat.dvd_refl _,fun a b hab=> ?_⟩
      by_cases ha:(m:Int)∣a
      . exact .inl ha
      . right
        have g1:Nat.gcd m a.natAbs=1:=by
         have gd:Nat.gcd m a.natAbs∣m:=Nat.gcd_dvd_left ..
         have gl:=Nat.le_of_dvd (by omega) gd
         have gp:=Nat.gcd_pos_of_pos_left a.natAbs (show 0<m by omega)
         by_cases e1:Nat.gcd m a.natAbs=1
         . exact e1
         . exfalso
           by_cases e2:Nat.gcd m a.natAbs=m
           . refine ha (Int.ofNat_dvd_left.mpr ?_)
             have:=Nat.gcd_dvd_right m a.natAbs
             rw [e2]at this
             exact this
           . exact h ⟨_,by omega,by omega,gd⟩
        have hd:m∣a.natAbs*b.natAbs:=by
         have:=Int.ofNat_dvd_left.mp hab
         rwa [Int.natAbs_mul]at this
        exact Int.ofNat_dvd_left.mpr (Nat.Coprime.dvd_of_dvd_mul_left g1 hd)
 intro hn
 by_cases h0:n=0
 . subst h0
   obtain⟨r,a1,_,a3⟩:=main 2 (by decide)
   exact⟨r,a1,Nat.dvd_zero _,a3⟩
 . exact main n (by omega)
noncomputable def Prim (p:List Int):Prop:=∀e:Int,(∀k,e∣co p k)->e∣1
theorem Adi {p q r:List Int} (hp:Prim p) (hq:Prim q) (hr:∀k,co r k=mu p (co q) k):Prim r:=fun e he=>by
 by_cases h1:e.natAbs=1
 . exact Int.natAbs_dvd.mp (by rw [h1];exact Int.dvd_refl _)
 . exfalso
   obtain⟨t,t2,td,tp⟩:=Xn e.natAbs h1
   have te:(t:Int)∣e:=Int.ofNat_dvd_left.mpr td
   have no:∀s:List Int,Prim s->¬ ∀k,(t:Int)∣co s k:=fun s hs h=>by
    have:=Int.le_of_dvd (by decide) (hs _ h)
    omega
   rcases Kv tp p q fun k=>by rw [<-hr];exact Int.dvd_trans te (he k)with h | h
   . exact no p hp h
   . exact no q hq h
theorem Ir {e m:Int}{p:List Int} (h:∀k,e∣m*co p k):e∣m*(gl p:Nat):=Uw e m p fun x hx=>by
 obtain⟨i,hi,ei⟩:=List.getElem_of_mem hx
 have:=h i
 rw [Bt hi,ei]at this
 exact this
theorem Xc (p:List Int) (k:Nat):((gl p:Nat):Int)∣co p k:=by
 by_cases hk:k<p.length
 . rw [Bt hk];exact U0 p _ (List.getElem_mem hk)
 . rw [Bp (by omega)];exact Int.dvd_zero _
theorem Prim.gl {p:List Int} (h:Prim p):Z.gl p=1:=by
 have:=h _ (Xc p)
 have h1:=Int.le_of_dvd (by decide) this
 rcases Nat.eq_zero_or_pos (Z.gl p)with z | z
 . rw [z]at this
   have:=Int.zero_dvd.mp this
   omega
 . omega
theorem U3 {p:List Int}{k:Nat} (h:co p k≠0):0<gl p:=by
 rcases Nat.eq_zero_or_pos (gl p)with z | z
 . have:=Xc p k
   rw [z]at this
   exact absurd (Int.zero_dvd.mp this) h
 . exact z
theorem Xm {u v:List Int}{c d:Int} (hc:c≠0) (hd:d≠0) (hu:Prim u) (hv:Prim v) (h:∀k,c*co u k=d*co v k) {a b:Nat} (ua:0<co u a) (ub:∀k,a<k->co u k=0) (va:0<co v b) (vb:∀k,b<k->co v k=0):c=d/\∀k,co u k=co v k:=by
 have cd:c∣d:=by
  have:=Ir (e:=c) (m:=d) (p:=v) fun k=>by rw [<-h];exact Int.dvd_mul_right _ _
  rw [hv.gl]at this
  simpa using this
 have dc:d∣c:=by
  have:=Ir (e:=d) (m:=c) (p:=u) fun k=>by rw [h];exact Int.dvd_mul_right _ _
  rw [hu.gl]at this
  simpa using this
 have ab:a=b:=by
  rcases Nat.lt_trichotomy a b with l | l | l
  . exfalso
    have:=h b
    rw [ub b l,Int.mul_zero]at this
    rcases Int.mul_eq_zero.mp this.symm with z | z
    . exact hd z
    . omega
  . exact l
  . exfalso
    have:=h a
    rw [vb a l,Int.mul_zero]at this
    rcases Int.mul_eq_zero.mp this with z | z
    . exact hc z
    . omega
 subst ab
 have ha:=h a
 have e:c=d:=by
  have n:c.natAbs=d.natAbs:=Nat.dvd_antisymm (Int.natAbs_dvd_natAbs.mpr cd) (Int.natAbs_dvd_natAbs.mpr dc)
  rcases Int.natAbs_eq_natAbs_iff.mp n with z | z
  . exact z
  . exfalso
    rw [z,Int.neg_mul]at ha
    have h0:d*(co u a+co v a)=0:=by rw [Int.mul_add];omega
    rcases Int.mul_eq_zero.mp h0 with z | z
    . exact hd z
    . omega
 refine⟨e,fun k=> ?_⟩
 have hk:=h k
 rw [e]at hk
 exact Int.eq_of_mul_eq_mul_left hd hk
noncomputable def un (p:List Int):Int:=if co p (p.length-1)<0 then-(gl p:Nat)else(gl p:Nat)
noncomputable def pln (p:List Int):List Int:=p.map fun x=>x.fdiv (un p)
theorem Vz (p:List Int):(pln p).length=p.length:=by rw [pln,List.length_map]
theorem Jf {f:Int->Int} (h:f 0=0) (p:List Int) (k:Nat):co (p.map f) k=f (co p k):=by
 unfold co
 rw [List.getD_eq_getElem?_getD,List.getD_eq_getElem?_getD,List.getElem?_map]
 cases p[k]? <;>simp [h]
theorem Ab7 (p:List Int) (k:Nat):un p∣co p k:=by
 unfold un
 split
 . exact Int.neg_dvd.mpr (Xc p k)
 . exact Xc p k
theorem Ab8 {p:List Int} (hp:Tr p) (h:p≠ []):un p≠0:=by
 have:=U3 (hp.lead h)
 unfold un
 split<;>omega
theorem Sy {p:List Int} (hp:Tr p) (h:p≠ []) (k:Nat):un p*co (pln p) k=co p k:=by
 rw [pln,Jf (f:=fun x=>x.fdiv (un p)) (Int.zero_fdiv _)]
 obtain⟨t,ht⟩:=Ab7 p k
 rw [ht,Int.mul_fdiv_cancel_left _ (Ab8 hp h)]
theorem R5 {p:List Int} (hp:Tr p) (h:p≠ []):0<co (pln p) (p.length-1):=by
 have e:=Sy hp h (p.length-1)
 have l:=hp.lead h
 have g:=U3 l
 have z:co (pln p) (p.length-1)≠0:=fun z=>l (by rw [<-e,z,Int.mul_zero])
 by_cases hl:co p (p.length-1)<0
 . have u:un p= -(gl p:Nat):=if_pos hl
   rw [u]at e
   rcases Int.lt_or_gt_of_ne z with y | y
   . have:=Int.mul_pos_of_neg_of_neg (show-((gl p:Nat):Int)<0 by omega) y
     omega
   . exact y
 . have u:un p=(gl p:Nat):=if_neg hl
   rw [u]at e
   rcases Int.lt_or_gt_of_ne z with y | y
   . have:=Int.mul_neg_of_pos_of_neg (show 0<((gl p:Nat):Int)by omega) y
     omega
   . exact y
theorem Abx {p:List Int} (hp:Tr p):Tr (pln p):=by
 by_cases h:p=[]
 . subst h;exact .inl rfl
 . refine .of (.inr ?_)
   rw [Vz]
   have:=R5 hp h
   omega
theorem J6 {p:List Int} (hp:Tr p) (h:p≠ []):Prim (pln p):=fun e he=>by
 have g:=U3 (hp.lead h)
 have d:(gl p:Nat)*e∣1*(gl p:Nat):=Ir fun k=>by
  rw [Int.one_mul,<-Sy hp h k]
  have:((gl p:Nat):Int)*e∣(gl p:Nat)*co (pln p) k:=Int.mul_dvd_mul (Int.dvd_refl _) (he k)
  unfold un
  split
  . rw [Int.neg_mul];exact Int.dvd_neg.mpr this
  . exact this
 rw [Int.mul_comm 1]at d
 exact Int.dvd_of_mul_dvd_mul_left (by omega) d
noncomputable def Exact (p q:List Int):Prop:=∃v:List Int,∀k,co p k=mu v (co q) k
end Z
namespace Z
section
variable {C:Type}
noncomputable def La (r:C->Int) (f:List C->Int):List C->Int
 | []=>0
 | c::cs=>r c*f cs-La r (fun x=>f (c::x)) cs
noncomputable def Dt:List (C->Int)->List C->Int
 | [],[]=>1
 | [],_::_=>0
 | r::rows,cs=>La r (Dt rows) cs
theorem Kf (r:C->Int):∀cs,La r (fun _=>0) cs=0
 | []=>rfl
 | c::cs=>by rw [La,Kf r cs];simp
theorem Ug (r:C->Int):∀(cs:List C) (f g:List C->Int),La r (fun x=>f x+g x) cs=La r f cs+La r g cs
 | [],f,g=>rfl
 | c::cs,f,g=>by
   rw [La,La,La,Ug r cs]
   grind
theorem Lq (r:C->Int) (k:Int):∀(cs:List C) (f:List C->Int),La r (fun x=>k*f x) cs=k*La r f cs
 | [],f=>by simp [La]
 | c::cs,f=>by
   rw [La,La,Lq r k cs]
   grind
theorem X8 (r:C->Int) (cs:List C) (f g:List C->Int):La r (fun x=>f x-g x) cs=La r f cs-La r g cs:=by
 have h1:=Ug r cs (fun x=>f x-g x) g
 have h2:(fun x=>f x-g x+g x)=f:=by funext x;omega
 rw [h2]at h1
 omega
theorem Uh (r s:C->Int):∀(cs:List C) (f:List C->Int),La (fun c=>r c+s c) f cs=La r f cs+La s f cs
 | [],f=>rfl
 | c::cs,f=>by
   rw [La,La,La,Uh r s cs]
   grind
theorem Ui (r:C->Int) (k:Int):∀(cs:List C) (f:List C->Int),La (fun c=>k*r c) f cs=k*La r f cs
 | [],f=>by simp [La]
 | c::cs,f=>by
   rw [La,La,Ui r k cs]
   grind
theorem Rg:∀(cs:List C) (f:List C->Int),La (fun _=>0) f cs=0
 | [],f=>rfl
 | c::cs,f=>by rw [La,Rg cs];simp
theorem Uj (r s:C->Int):∀(cs:List C) (f:List C->Int),La r (La s f) cs= -La s (La r f) cs
 | [],f=>rfl
 | c::cs,f=>by
   rw [La,La]
   have e1:(fun x=>La s f (c::x))=fun x=>s c*f x-La s (fun y=>f (c::y)) x:=rfl
   have e2:(fun x=>La r f (c::x))=fun x=>r c*f x-La r (fun y=>f (c::y)) x:=rfl
   rw [e1,e2,X8,X8,Lq,Lq,Uj r s cs]
   grind
theorem Qa (r s:C->Int) (rows:List (C->Int)) (cs:List C):Dt (r::s::rows) cs= -Dt (s::r::rows) cs:=Uj r s cs (Dt rows)
theorem X7 {b:C->Int}:∀ {post:List (C->Int)},b∈post->∀cs,Dt (b::post) cs=0
 | x::xs,h,cs=>by
   rcases List.mem_cons.mp h with rfl | h
   . have:=Qa b b xs cs
     omega
   . rw [Qa]
     show-La x (Dt (b::xs)) cs=0
     have e:Dt (b::xs)=fun _=>0:=by funext y;exact X7 h y
     rw [e,Kf]
     rfl
theorem P0 {rows:List (C->Int)} (h:∀cs,Dt rows cs=0):∀(pre:List (C->Int)) (cs:List C),Dt (pre++rows) cs=0
 | [],cs=>h cs
 | p::pre,cs=>by
   show La p (Dt (pre++rows)) cs=0
   have e:Dt (pre++rows)=fun _=>0:=by funext y;exact P0 h pre y
   rw [e,Kf]
theorem Uc (r s:C->Int) (post:List (C->Int)):∀(pre:List (C->Int)) (cs:List C),Dt (pre++(fun c=>r c+s c)::post) cs=Dt (pre++r::post) cs+Dt (pre++s::post) cs
 | [],cs=>Uh r s cs _
 | p::pre,cs=>by
   show La p (Dt (pre++(fun c=>r c+s c)::post)) cs=La p (Dt (pre++r::post)) cs+La p (Dt (pre++s::post)) cs
   rw [<-Ug]
   congr 1
   funext y
   exact Uc r s post pre y
theorem Rf (r:C->Int) (k:Int) (post:List (C->Int)):∀(pre:List (C->Int)) (cs:List C),Dt (pre++(fun c=>k*r c)::post) cs=k*Dt (pre++r::post) cs
 | [],cs=>Ui r k cs _
 | p::pre,cs=>by
   show La p (Dt (pre++(fun c=>k*r c)::post)) cs=k*La p (Dt (pre++r::post)) cs
   rw [<-Lq]
   congr 1
   funext y
   exact Rf r k post pre y
inductive Sn (B:List (C->Int)):(C->Int)->Prop where
 | zero:Sn B (fun _=>0)
 | add (k:Int) {b v:C->Int} (hb:b∈B) (hv:Sn B v):Sn B (fun c=>k*b c+v c)
theorem Sn.mono {B B':List (C->Int)} (h:∀b∈B,b∈B') {v:C->Int} (s:Sn B v):Sn B' v:=by
 induction s with
 | zero=>exact .zero
 | add k hb _ ih=>exact .add k (h _ hb) ih
theorem Ac8 {B:List (C->Int)}{v:C->Int} (s:Sn B v) (post:List (C->Int)) (hB:∀b∈B,b∈post) (pre:List (C->Int)) (cs:List C):Dt (pre++v::post) cs=0:=by
 induction s with
 | zero=>exact P0 (rows:=(fun _=>0)::post) (fun cs=>Rg cs _) pre cs
 | @add k b v hb _ ih=>
   rw [Uc (fun c=>k*b c) v post pre cs,ih,Rf,P0 (X7 (hB b hb)) pre cs]
   simp
inductive Rel (k:Int) (B:List (C->Int)):List (C->Int)->List (C->Int)->Prop where
 | nil:Rel k B [] []
 | cons {a a' v:C->Int}{A A':List (C->Int)} (hv:Sn B v) (h:∀c,k*a c=a' c+v c) (t:Rel k B A A'):Rel k B (a::A) (a'::A')
theorem X6 {k:Int}{B:List (C->Int)}{A A':List (C->Int)} (h:Rel k B A A') (cs:List C):∀pre:List (C->Int),k^A.length*Dt (pre++(A++B)) cs=Dt (pre++(A'++B)) cs:=by
 induction h with
 | nil=>intro pre;simp
 | @cons a a' v A A' hv h t ih=>
   intro pre
   have e:(fun c=>k*a c)=fun c=>a' c+v c:=funext h
   have e1:k*Dt (pre++a::(A++B)) cs=Dt (pre++a'::(A++B)) cs:=by
    rw [<-Rf,e,Uc,Ac8 hv (A++B) (fun b hb=>List.mem_append_right _ hb),Int.add_zero]
   have e2:=ih (pre++ [a'])
   rw [List.append_assoc,List.append_assoc]at e2
   show k^(A.length+1)*Dt (pre++a::(A++B)) cs=Dt (pre++a'::(A'++B)) cs
   rw [Int.pow_succ,Int.mul_assoc,e1]
   exact e2
theorem Wr {k:Int}{R:List (C->Int)} (B:List (C->Int)) (cs:List C):∀pre:List (C->Int),Dt (pre++(R.map (fun r c=>k*r c)++B)) cs=k^R.length*Dt (pre++(R++B)) cs:=by
 induction R with
 | nil=>intro pre;simp
 | cons r R ih=>
   intro pre
   show Dt (pre++(fun c=>k*r c)::(R.map (fun r c=>k*r c)++B)) cs=k^(R.length+1)*Dt (pre++r::(R++B)) cs
   rw [Rf]
   have e2:=ih (pre++ [r])
   rw [List.append_assoc,List.append_assoc]at e2
   have e3:Dt (pre++r::(R.map (fun r c=>k*r c)++B)) cs=k^R.length*Dt (pre++r::(R++B)) cs:=e2
   rw [e3,Int.pow_succ]
   grind
noncomputable def Sg (e:Int):Prop:=e=1\/e= -1
theorem Sg.mul {a b:Int} (ha:Sg a) (hb:Sg b):Sg (a*b):=by
 rcases ha with rfl | rfl<;>rcases hb with rfl | rfl<;>simp [Sg]
theorem Sg.sq {a:Int} (ha:Sg a):a*a=1:=by rcases ha with rfl | rfl<;>rfl
theorem Ue (a:C->Int) (post:List (C->Int)):∀B:List (C->Int),∃e,Sg e/\∀cs,Dt (a::(B++post)) cs=e*Dt (B++a::post) cs
 | []=>⟨1,.inl rfl,fun cs=>by simp⟩
 | b::B=>by
   obtain⟨e,he,h⟩:=Ue a post B
   refine⟨-e,by rcases he with rfl | rfl<;>simp [Sg],fun cs=> ?_⟩
   show Dt (a::b::(B++post)) cs=_
   rw [Qa]
   show-La b (Dt (a::(B++post))) cs= -e*La b (Dt (B++a::post)) cs
   have e1:Dt (a::(B++post))=fun y=>e*Dt (B++a::post) y:=funext h
   rw [e1,Lq]
   grind
theorem Mp (B:List (C->Int)):∀(A:List (C->Int)),∃e,Sg e/\∀cs,Dt (A++B) cs=e*Dt (B++A) cs
 | []=>⟨1,.inl rfl,fun cs=>by simp⟩
 | a::A=>by
   obtain⟨e,he,h⟩:=Mp B A
   obtain⟨e',he',h'⟩:=Ue a A B
   refine⟨e*e',he.mul he',fun cs=> ?_⟩
   show La a (Dt (A++B)) cs=_
   have e1:Dt (A++B)=fun y=>e*Dt (B++A) y:=funext h
   rw [e1,Lq]
   have:=h' cs
   show e*Dt (a::(B++A)) cs=_
   rw [this]
   grind
theorem Ud {c:C}:∀ {rows:List (C->Int)},(∀r∈rows,r c=0)->∀ {cs:List C},c∈cs->Dt rows cs=0
 | [],_,c'::cs,_=>rfl
 | r::rows,h,cs,hc=>by
   have hr:=h r List.mem_cons_self
   have ih:∀ds:List C,c∈ds->Dt rows ds=0:=fun ds hd=>Ud (fun x hx=>h x (List.mem_cons_of_mem _ hx)) hd
   show La r (Dt rows) cs=0
   have key:∀(cs:List C) (f:List C->Int),c∈cs->(∀ds,c∈ds->f ds=0)->La r f cs=0:=fun cs=>by
    induction cs with
    | nil=>intro f h;cases h
    | cons d ds ih2=>
      intro f h hf
      rw [La]
      by_cases hd:c∈ds
      . rw [hf ds hd,ih2 (fun x=>f (d::x)) hd (fun e he=>hf _ (List.mem_cons_of_mem _ he))]
        simp
      . have:c=d:=by
         rcases List.mem_cons.mp h with z | z
         . exact z
         . exact absurd z hd
        subst this
        rw [hr]
        have e:(fun x=>f (c::x))=fun _=>0:=by funext x;exact hf _ List.mem_cons_self
        rw [e,Kf]
        simp
   exact key cs (Dt rows) hc ih
theorem Aaw {c:C}{r:C->Int}{rows:List (C->Int)} (h:∀s∈rows,s c=0) (cs:List C):Dt (r::rows) (c::cs)=r c*Dt rows cs:=by
 show La r (Dt rows) (c::cs)=_
 rw [La]
 have e:(fun x=>Dt rows (c::x))=fun _=>0:=by funext x;exact Ud h List.mem_cons_self
 rw [e,Kf]
 simp
theorem Aav (r:C->Int) (c:C):Dt [r] [c]=r c:=by simp [Dt,La]
end
end Z
namespace Z
noncomputable def shr (a:Nat) (F:Nat->Nat->Int):Nat × Nat->Int:=fun c=>if a<=c.2 then F c.1 (c.2-a)else 0
noncomputable def blk (F:Nat->Nat->Int):Nat->List (Nat × Nat->Int)
 | 0=>[]
 | a+1=>shr a F::blk F a
theorem Mr (F:Nat->Nat->Int):∀a,(blk F a).length=a
 | 0=>rfl
 | a+1=>by rw [blk,List.length_cons,Mr F a]
theorem Ze {F:Nat->Nat->Int}{a s:Nat} (h:s<a):shr s F∈blk F a:=by
 induction a with
 | zero=>omega
 | succ a ih=>
   rw [blk]
   by_cases e:s=a
   . subst e;exact List.mem_cons_self
   . exact List.mem_cons_of_mem _ (ih (by omega))
theorem Ql {F:Nat->Nat->Int}{r:Nat × Nat->Int}:∀ {a:Nat},r∈blk F a->∃s,s<a/\r=shr s F
 | 0,h=>by cases h
 | a+1,h=>by
   rcases List.mem_cons.mp h with rfl | h
   . exact⟨a,by omega,rfl⟩
   . obtain⟨s,h1,h2⟩:=Ql h
     exact⟨s,by omega,h2⟩
noncomputable def dn (lo:Nat):Nat->List (Nat × Nat)
 | 0=>[]
 | b+1=>(0,lo+b)::dn lo b
noncomputable def Dg (F:Nat->Nat->Int) (n:Nat):Prop:=∀i,n<=i->F 0 i=0
theorem peel {G:Nat->Nat->Int}{m t lo b K:Nat}{rest:List (Nat × Nat->Int)}{l:Nat × Nat} (hG:Dg G (m+1)) (hK:∀r∈rest,∀i,K<=i->r (0,i)=0) (e:lo+b=m+t) (hk:K<=m+t):
 ∀u,Dt (blk G (t+u)++rest) (dn lo (b+u)++ [l])=G 0 m^u*Dt (blk G t++rest) (dn lo b++ [l])
 | 0=>by simp
 | u+1=>by
   show Dt (shr (t+u) G::(blk G (t+u)++rest)) ((0,lo+(b+u))::(dn lo (b+u)++ [l]))=_
   rw [Aaw]
   . rw [peel hG hK e hk u]
     have e1:shr (t+u) G (0,lo+(b+u))=G 0 m:=by
      unfold shr
      rw [if_pos (show t+u<=lo+(b+u)by omega)]
      show G 0 (lo+(b+u)-(t+u))=_
      rw [show lo+(b+u)-(t+u)=m by omega]
     rw [e1,Int.pow_succ]
     grind
   . intro s hs
     rcases List.mem_append.mp hs with hs | hs
     . obtain⟨t',h1,rfl⟩:=Ql hs
       unfold shr
       rw [if_pos (show t'<=lo+(b+u)by omega)]
       exact hG _ (by show m+1<=lo+(b+u)-t';omega)
     . exact hK s hs _ (by omega)
noncomputable def Sr (j:Nat) (F:Nat->Nat->Int) (n:Nat) (G:Nat->Nat->Int) (m:Nat) (l:Nat × Nat):Int:=Dt (blk F (m-j)++blk G (n-j)) (dn (j+1) (n+m-2*j-1)++ [l])
theorem Ab5 (G:Nat->Nat->Int):∀(q:List Int) (s b:Nat),s+q.length<=b->Sn (blk G b) (shr s fun c=>mu q (G c))
 | [],s,b,_=>by
   have e:(shr s fun c=>mu [] (G c))=fun _=>0:=by
    funext c
    unfold shr
    split<;>rfl
   rw [e]
   exact .zero
 | a::q,s,b,h=>by
   have e:(shr s fun c=>mu (a::q) (G c))=fun c=>a*shr s G c+(shr (s+1) fun c=>mu q (G c)) c:=by
    funext c
    unfold shr
    by_cases h1:s+1<=c.2
    . rw [if_pos (by omega),if_pos (by omega),if_pos h1]
      show a*G c.1 (c.2-s)+sh (mu q (G c.1)) (c.2-s)=_
      rw [show c.2-s=(c.2-(s+1))+1 by omega]
      rfl
    . by_cases h2:s<=c.2
      . rw [if_pos h2,if_pos h2,if_neg h1]
        show a*G c.1 (c.2-s)+sh (mu q (G c.1)) (c.2-s)=_
        rw [show c.2-s=0 by omega]
        rfl
      . rw [if_neg h2,if_neg h2,if_neg h1]
        simp
   rw [e]
   rw [List.length_cons]at h
   exact .add a (Ze (by omega)) (Ab5 G q (s+1) b (by omega))
theorem Qy {F G R:Nat->Nat->Int}{L:Int}{q:List Int}{b:Nat} (h:∀c i,L*F c i=R c i+mu q (G c) i):∀a,a+q.length<=b+1->Rel L (blk G b) (blk F a) (blk R a)
 | 0,_=> .nil
 | a+1,hb=>by
   refine .cons (Ab5 G q a b (by omega)) (fun c=> ?_) (Qy h a (by omega))
   unfold shr
   split
   . exact h _ _
   . simp
theorem S7 {R:Nat->Nat->Int}{k a:Nat} (hR:Dg R k):∀r∈blk R a,∀i,k+a<=i+1->r (0,i)=0:=fun r hr i hi=>by
 obtain⟨s,h1,rfl⟩:=Ql hr
 unfold shr
 split
 . exact hR _ (by show k<=i-s;omega)
 . rfl
section
variable {F G R:Nat->Nat->Int}{n m k:Nat}{L:Int}{q:List Int}
theorem Aag (hG:Dg G (m+1)) (hR:Dg R (k+1)) (h:∀c i,L*F c i=R c i+mu q (G c) i) (hq:q.length<=n-m+1) (hmn:m<=n) (j:Nat) (hj:j<m) (hk:j<=k) (hkm:k<m):
 ∃e,Sg e/\∀l,L^(m-j)*Sr j F n G m l=e*(G 0 m^(n-k)*Sr j G m R k l):=by
 obtain⟨e,he,hb⟩:=Mp (blk G (n-j)) (blk R (m-j))
 refine⟨e,he,fun l=> ?_⟩
 unfold Sr
 have h1:=X6 (Qy (F:=F) (G:=G) (R:=R) h (m-j) (b:=n-j) (by omega)) (dn (j+1) (n+m-2*j-1)++ [l]) []
 rw [Mr,List.nil_append,List.nil_append]at h1
 rw [h1,hb]
 have h2:=peel (G:=G) (m:=m) (t:=k-j) (lo:=j+1) (b:=m+k-2*j-1) (K:=k+1+(m-j)-1) (rest:=blk R (m-j)) (l:=l) hG (fun r hr i hi=>S7 hR r hr i (by omega)) (by omega) (by omega) (n-k)
 rw [show k-j+(n-k)=n-j by omega,show m+k-2*j-1+(n-k)=n+m-2*j-1 by omega]at h2
 rw [h2]
theorem Aaf (hG:Dg G (m+1)) (hR:Dg R m) (h:∀c i,L*F c i=R c i+mu q (G c) i) (hq:q.length<=n-m+1) (hmn:m<=n) (hm:1<=m):
 ∃e,Sg e/\∀l:Nat × Nat,L*Sr (m-1) F n G m l=e*(G 0 m^(n-m+1)*R l.1 l.2):=by
 obtain⟨e,he,hb⟩:=Mp (blk G (n-(m-1))) (blk R (m-(m-1)))
 refine⟨e,he,fun l=> ?_⟩
 unfold Sr
 have h1:=X6 (Qy (F:=F) (G:=G) (R:=R) h (m-(m-1)) (b:=n-(m-1)) (by omega)) (dn (m-1+1) (n+m-2*(m-1)-1)++ [l]) []
 rw [Mr,List.nil_append,List.nil_append]at h1
 have e1:m-(m-1)=1:=by omega
 rw [e1]at h1 hb ⊢
 rw [Int.pow_succ,Int.pow_zero,Int.one_mul]at h1
 rw [h1,hb]
 have h2:=peel (G:=G) (m:=m) (t:=0) (lo:=m-1+1) (b:=0) (K:=m) (rest:=blk R 1) (l:=l) hG (fun r hr i hi=>S7 hR r hr i (by omega)) (by omega) (by omega) (n-m+1)
 rw [show 0+(n-m+1)=n-(m-1)by omega]at h2
 rw [show n+m-2*(m-1)-1=n-(m-1)by omega,h2]
 congr 1
 congr 1
 show Dt [shr 0 R] [l]=_
 rw [Aav]
 rfl
theorem Ol (T:Nat->Nat->Int) (β:Int):∀a,blk (fun c i=>β*T c i) a=(blk T a).map fun r c=>β*r c
 | 0=>rfl
 | a+1=>by
   rw [blk,blk,List.map_cons,Ol T β a]
   congr 1
   funext c
   unfold shr
   split<;>simp
theorem Xr (T:Nat->Nat->Int) (β:Int) (j:Nat) (l:Nat × Nat):Sr j G m (fun c i=>β*T c i) k l=β^(m-j)*Sr j G m T k l:=by
 unfold Sr
 rw [Ol]
 have h:=Wr (k:=β) (R:=blk T (m-j)) [] (dn (j+1) (m+k-2*j-1)++ [l]) (blk G (k-j))
 rw [List.append_nil,List.append_nil,Mr]at h
 exact h
end
theorem Pa {a:Int} (h:a≠0):∀n:Nat,a^n≠0
 | 0=>by simp
 | n+1=>by
   rw [Int.pow_succ]
   exact Int.mul_ne_zero (Pa h n) h
noncomputable def Chn (F1:Nat->Nat->Int) (n1:Nat) (F2:Nat->Nat->Int) (n2:Nat) (F:Nat->Nat->Int) (n:Nat) (G:Nat->Nat->Int) (m:Nat) (l h:Int):Prop:=
 ∀j,j<=m->j<n->∃e,Sg e/\∀c,h^(n-j-1)*l^(m-j)*Sr j F1 n1 F2 n2 c=e*Sr j F n G m c
theorem Chn.start (F1:Nat->Nat->Int) (n1:Nat) (F2:Nat->Nat->Int) (n2:Nat):Chn F1 n1 F2 n2 F1 n1 F2 n2 1 1:=fun j _ _=>⟨1,.inl rfl,fun c=>by rw [Int.one_pow,Int.one_pow];simp⟩
section
variable {F1 F2 F G R T:Nat->Nat->Int}{n1 n2 n m k:Nat}{l h lg h':Int}{q:List Int}
theorem Chn.rest (ch:Chn F1 n1 F2 n2 F n G m l h) (hG:Dg G (m+1)) (hR:Dg R m) (hq:q.length<=n-m+1) (hmn:m<=n) (hm:1<=m) (hl:G 0 m≠0)
 (eq:∀c i,G 0 m^(n-m+1)*F c i=R c i+mu q (G c) i):∃e,Sg e/\∀c i,R c i=l*h^(n-m)*(e*Sr (m-1) F1 n1 F2 n2 (c,i)):=by
 obtain⟨e,he,h1⟩:=ch (m-1) (by omega) (by omega)
 obtain⟨e',he',h2⟩:=Aaf (F:=F) (n:=n) hG hR eq hq hmn hm
 refine⟨e*e',he.mul he',fun c i=> ?_⟩
 have a1:=h1 (c,i)
 have a2:=h2 (c,i)
 rw [show n-(m-1)-1=n-m by omega,show m-(m-1)=1 by omega,Int.pow_succ,Int.pow_zero,Int.one_mul]at a1
 have hp:=Pa hl (n-m+1)
 generalize G 0 m^(n-m+1)=L at*
 generalize Sr (m-1) F n G m (c,i)=s at*
 have a3:s=e'*R c i:=by
  have:L*s=L*(e'*R c i):=by rw [a2];grind
  exact Int.eq_of_mul_eq_mul_left hp this
 rw [a3]at a1
 have s1:=he.sq
 have s2:=he'.sq
 have:e*e'*(h^(n-m)*l*Sr (m-1) F1 n1 F2 n2 (c,i))=R c i:=by
  rw [a1]
  have:e*e'*(e*(e'*R c i))=(e*e)*(e'*e')*R c i:=by grind
  rw [this,s1,s2]
  simp
 rw [<-this]
 grind
theorem Chn.next (ch:Chn F1 n1 F2 n2 F n G m l h) (hG:Dg G (m+1)) (hT:Dg T (k+1)) (hq:q.length<=n-m+1) (hmn:m<=n) (hkm:k<m) (hl:G 0 m≠0) (l0:l≠0) (h0:h≠0)
 (eq:∀c i,G 0 m^(n-m+1)*F c i=l*h^(n-m)*T c i+mu q (G c) i) (hh:(n=m/\h'=h)\/(m<n/\h^(n-m-1)*h'=G 0 m^(n-m))):Chn F1 n1 F2 n2 G m T k (G 0 m) h':=by
 intro j hj hjm
 obtain⟨e,he,h1⟩:=ch j (by omega) (by omega)
 obtain⟨e',he',h2⟩:=Aag (F:=F) (n:=n) (R:=fun c i=>l*h^(n-m)*T c i) (k:=k) hG (fun i hi=>by show l*h^(n-m)*T 0 i=0;rw [hT i hi];simp) eq hq hmn j hjm hj hkm
 refine⟨e*e',he.mul he',fun c=> ?_⟩
 have a1:=h1 c
 have a2:=h2 c
 rw [Xr]at a2
 generalize Sr j F1 n1 F2 n2 c=S at*
 generalize Sr j F n G m c=s at*
 generalize Sr j G m T k c=s' at*
 generalize hlg:G 0 m=lg at*
 have s1:=he.sq
 have s2:=he'.sq
 obtain⟨E,hE⟩:∃E,m-j=E+1:=⟨m-j-1,by omega⟩
 obtain⟨d,hd⟩:∃d,n-m=d:=⟨_,rfl⟩
 have hn1:n-j-1=d+E:=by omega
 have hnk:n-k+(k-j)=d+E+1:=by omega
 rw [hE,hd]at a2
 rw [hE,hn1]at a1
 rw [show m-j-1=E by omega]
 rw [hd]at hh
 have key:lg^(n-k)*h^(d*(E+1))*(h'^E*lg^(k-j))=(lg^(d+1))^(E+1)*h^(d+E):=by
  have p1:lg^(n-k)*lg^(k-j)=lg^(d+E+1):=by rw [<-Int.pow_add,hnk]
  rcases hh with⟨hz,rfl⟩ | ⟨hz,hh⟩
  . have d0:d=0:=by omega
    subst d0
    rw [Nat.zero_mul,Int.pow_zero,Int.mul_one,Nat.zero_add,Nat.zero_add,Int.pow_one]
    rw [Nat.zero_add]at p1
    rw [<-p1]
    grind
  . obtain⟨d',hd'⟩:∃d',d=d'+1:=⟨d-1,by omega⟩
    subst hd'
    rw [show d'+1-1=d' by omega]at hh
    have p2:(h^d'*h')^E=(lg^(d'+1))^E:=by rw [hh]
    rw [Int.mul_pow]at p2
    have p3:h^((d'+1)*(E+1))=(h^d')^E*h^(d'+1+E):=by
     rw [<-Int.pow_mul,<-Int.pow_add]
     congr 1
     rw [Nat.add_mul,Nat.mul_add]
     omega
    have p4:(lg^(d'+1+1))^(E+1)=(lg^(d'+1))^E*lg^(d'+1+E+1):=by
     rw [<-Int.pow_mul,<-Int.pow_mul,<-Int.pow_add]
     congr 1
     rw [Nat.add_mul,Nat.mul_add]
     omega
    rw [p3,p4,<-p2,<-p1]
    grind
 have big:lg^(n-k)*h^(d*(E+1))≠0:=Int.mul_ne_zero (Pa hl _) (Pa h0 _)
 have lne:l^(E+1)≠0:=Pa l0 _
 have b1:(l*h^d)^(E+1)=l^(E+1)*h^(d*(E+1)):=by rw [Int.mul_pow,<-Int.pow_mul]
 rw [b1]at a2
 refine Int.eq_of_mul_eq_mul_left big ?_
 refine Int.eq_of_mul_eq_mul_left lne ?_
 have c1:l^(E+1)*(lg^(n-k)*h^(d*(E+1))*(h'^E*lg^(k-j)*S))=(lg^(d+1))^(E+1)*(h^(d+E)*l^(E+1)*S):=by
  have:l^(E+1)*(lg^(n-k)*h^(d*(E+1))*(h'^E*lg^(k-j)*S))=(lg^(n-k)*h^(d*(E+1))*(h'^E*lg^(k-j)))*l^(E+1)*S:=by grind
  rw [this,key]
  grind
 rw [c1,a1]
 have c2:(lg^(d+1))^(E+1)*(e*s)=e*((lg^(d+1))^(E+1)*s):=by grind
 rw [c2,a2]
 grind
end
end Z
namespace Z
noncomputable def Dv (d f:List Int):Prop:=∃(c:Int) (u:List Int),c≠0/\∀i,c*co f i=mu u (co d) i
theorem Rz (a:Int) (u:List Int) (f:Nat->Int) (i:Nat):mu (u.map (a* ·)) f i=a*mu u f i:=congrFun (Gu f a u) i
theorem Ry {f g:Nat->Int} (h:∀i,f i=g i) (p:List Int) (i:Nat):mu p f i=mu p g i:=by
 have:f=g:=funext h
 rw [this]
theorem Dv.nil (d:List Int):Dv d []:=⟨1,[],by decide,fun i=>by rw [Br];rfl⟩
theorem Dv.refl (d:List Int):Dv d d:=⟨1,[1],by decide,fun i=>by
 show 1*co d i=1*co d i+sh (mu [] (co d)) i
 have:sh (mu [] (co d)) i=0:=by cases i<;>rfl
 omega⟩
theorem Dv.congr {d f g:List Int} (h:Dv d f) (e:∀i,co f i=co g i):Dv d g:=by
 obtain⟨c,u,hc,hu⟩:=h
 exact⟨c,u,hc,fun i=>by rw [<-e];exact hu i⟩
theorem Dv.trans {d f g:List Int} (h1:Dv d f) (h2:Dv f g):Dv d g:=by
 obtain⟨c,u,hc,hu⟩:=h1
 obtain⟨e,v,he,hv⟩:=h2
 refine⟨c*e,ml v u,Int.mul_ne_zero hc he,fun i=> ?_⟩
 rw [Ow]
 have:mu v (fun k=>c*co f k) i=c*mu v (co f) i:=congrFun (Ly v c (co f)) i
 rw [<-Ry hu v i,this,<-hv]
 rw [Int.mul_assoc]
theorem Dv.comb {d f g h:List Int} (hf:Dv d f) (hg:Dv d g) {k:Int} (hk:k≠0) {a b:List Int} (e:∀i,k*co h i=mu a (co f) i+mu b (co g) i):Dv d h:=by
 obtain⟨c,u,hc,hu⟩:=hf
 obtain⟨c',v,hc',hv⟩:=hg
 refine⟨c*c'*k,al ((ml a u).map (c'* ·)) ((ml b v).map (c* ·)),Int.mul_ne_zero (Int.mul_ne_zero hc hc') hk,fun i=> ?_⟩
 rw [Qm]
 dsimp only
 rw [Rz,Rz,Ow,Ow]
 have e1:mu a (mu u (co d)) i=c*mu a (co f) i:=by
  rw [<-Ry hu a i]
  exact congrFun (Ly a c (co f)) i
 have e2:mu b (mu v (co d)) i=c'*mu b (co g) i:=by
  rw [<-Ry hv b i]
  exact congrFun (Ly b c' (co g)) i
 rw [e1,e2,Int.mul_assoc,e]
 grind
theorem Dv.zero {f:List Int} (hf:Tr f) (h:Dv [] f):f=[]:=by
 obtain⟨c,u,hc,hu⟩:=h
 refine hf.ext (.inl rfl) fun i=> ?_
 have:=hu i
 have e:mu u (co []) i=0:=by
  have:mu u (fun _=>0) i=0:=congrFun (M5 u) i
  rw [<-this]
  exact Ry (fun k=>Br k) u i
 rw [e]at this
 rw [Br]
 rcases Int.mul_eq_zero.mp this with z | z
 . exact absurd z hc
 . exact z
theorem Dv.scale {d f g:List Int} (h:Dv d f) {a b:Int} (hb:b≠0) (e:∀i,b*co g i=a*co f i):Dv d g:=by
 obtain⟨c,u,hc,hu⟩:=h
 refine⟨c*b,u.map (a* ·),Int.mul_ne_zero hc hb,fun i=> ?_⟩
 rw [Rz,<-hu,Int.mul_assoc,e]
 grind
theorem Dv.len {d f:List Int} (hd:Tr d) (hf:Tr f) (n:f≠ []) (h:Dv d f):d≠ []/\d.length<=f.length:=by
 have hd0:d≠ []:=fun z=>by rw [z]at h;exact n (h.zero hf)
 refine⟨hd0,?_⟩
 obtain⟨c,u,hc,hu⟩:=h
 have hcf:∀i,co (tm u d) i=c*co f i:=fun i=>by rw [Ec,hu]
 have ln:tm u d≠ []:=fun z=>by
  have:=hcf (f.length-1)
  rw [z,Br]at this
  rcases Int.mul_eq_zero.mp this.symm with q | q
  . exact hc q
  . exact hf.lead n q
 have hu0:trim u≠ []:=fun z=>ln (by
  refine(G9 u d).ext (.inl rfl) fun i=> ?_
  rw [Ec,<-congrFun (Ce (co d) _ _ (Bg u)) i,z,Br]
  rfl)
 have e1:tm u d=tm (trim u) d:=(G9 _ _).ext (G9 _ _) fun i=>by rw [Ec,Ec,congrFun (Ce (co d) _ _ (Bg u)) i]
 have l1:=Pq (Ck u) hd hu0 hd0
 have l2:(tm u d).length<=f.length:=by
  refine Nat.le_of_not_lt fun z=> ?_
  have:=(G9 u d).lead ln
  rw [hcf,Bp (by omega)]at this
  simp at this
 have l3:=List.length_pos_iff.mpr hu0
 rw [e1]at l2
 omega
structure Gc (p q g:List Int):Prop where
 tr:Tr g
 pl:pln g=g
 one:Dv g p
 two:Dv g q
 all:∀d,Dv d p->Dv d q->Dv d g
theorem Gc.symm {p q g:List Int} (h:Gc p q g):Gc q p g:=⟨h.tr,h.pl,h.two,h.one,fun d a b=>h.all d b a⟩
theorem V0 {g:List Int} (hg:Tr g) (n:g≠ []) (e:pln g=g):0<co g (g.length-1):=by
 have:=R5 hg n
 rw [e]at this
 exact this
theorem Zi {g h:List Int} (tg:Tr g) (th:Tr h) (pg:pln g=g) (ph:pln h=h) (a:Dv g h) (b:Dv h g):g=h:=by
 by_cases n:g=[]
 . subst n
   exact(a.zero th).symm
 . have nh:h≠ []:=fun z=>by rw [z]at b;exact n (b.zero tg)
   have l1:=(a.len tg th nh).2
   have l2:=(b.len th tg n).2
   obtain⟨c,u,hc,hu⟩:=a
   have hcf:∀i,co (tm u g) i=c*co h i:=fun i=>by rw [Ec,hu]
   have ln:tm u g≠ []:=fun z=>by
    have:=hcf (h.length-1)
    rw [z,Br]at this
    rcases Int.mul_eq_zero.mp this.symm with q | q
    . exact hc q
    . exact th.lead nh q
   have hu0:trim u≠ []:=fun z=>ln (by
    refine(G9 u g).ext (.inl rfl) fun i=> ?_
    rw [Ec,<-congrFun (Ce (co g) _ _ (Bg u)) i,z,Br]
    rfl)
   have e1:tm u g=tm (trim u) g:=(G9 _ _).ext (G9 _ _) fun i=>by rw [Ec,Ec,congrFun (Ce (co g) _ _ (Bg u)) i]
   have l3:=Pq (Ck u) tg hu0 n
   have l4:(tm u g).length<=h.length:=by
    refine Nat.le_of_not_lt fun z=> ?_
    have:=(G9 u g).lead ln
    rw [hcf,Bp (by omega)]at this
    simp at this
   rw [e1]at l4
   have l5:=List.length_pos_iff.mpr hu0
   have lu:(trim u).length=1:=by omega
   obtain⟨k,hk⟩:∃k,trim u=[k]:=by
    match hm:trim u,lu with
    | [k],_=>exact⟨k,rfl⟩
   have hk0:k≠0:=by
    have:=(Ck u).lead hu0
    rw [hk]at this
    exact this
   have eq:∀i,k*co g i=c*co h i:=fun i=>by
    rw [<-hcf,e1,Ec,hk]
    show k*co g i=k*co g i+sh (mu [] (co g)) i
    have:sh (mu [] (co g)) i=0:=by cases i<;>rfl
    omega
   have q1:Prim g:=by have:=J6 tg n;rw [pg]at this;exact this
   have q2:Prim h:=by have:=J6 th nh;rw [ph]at this;exact this
   have r:=Xm hk0 hc q1 q2 eq (V0 tg n pg) (fun i hi=>Bp (by omega)) (V0 th nh ph) (fun i hi=>Bp (by omega))
   exact tg.ext th r.2
theorem Gc.uniq {p q g h:List Int} (a:Gc p q g) (b:Gc p q h):g=h:=Zi a.tr b.tr a.pl b.pl (b.all g a.one a.two) (a.all h b.one b.two)
theorem Aa3 {r:List Int} (hr:Tr r):Dv (pln r) r/\Dv r (pln r):=by
 by_cases n:r=[]
 . subst n
   exact⟨Dv.nil _,Dv.refl _⟩
 . have h:=Sy hr n
   have u0:=Ab8 hr n
   exact⟨(Dv.refl (pln r)).scale (a:=un r) (b:=1) (by decide) fun i=>by rw [h];omega,(Dv.refl r).scale (a:=1) (b:=un r) u0 fun i=>by rw [h];omega⟩
noncomputable def Tc (f g p q:List Int):Prop:=∀d,(Dv d f/\Dv d g)↔(Dv d p/\Dv d q)
theorem Tc.refl (f g:List Int):Tc f g f g:=fun _=>Iff.rfl
theorem Tc.trans {f g p q r s:List Int} (h:Tc f g p q) (k:Tc p q r s):Tc f g r s:=fun d=>(h d).trans (k d)
theorem Mu (c:Int) (hc:c≠0) (f:List Int):Dv [c] f:=⟨c,f,hc,fun i=>by
 have e:mu f (fun i=>c*if i=0 then 1 else 0) i=c*mu f (fun i=>if i=0 then 1 else 0) i:=congrFun (Ly f c _) i
 have:co [c]=fun i=>c*if i=0 then 1 else 0:=by
  funext i
  cases i with
  | zero=>rw [Cq];simp
  | succ i=>rw [Ci,Br];simp
 rw [this,e,R0]⟩
end Z
namespace Z
noncomputable def pm (m:Nat):Nat->Nat->Nat->Nat
 | 0,_,_=>1%m
 | k+1,b,e=>if e%2=1 then b*pm m k (b*b%m) (e/2)%m else pm m k (b*b%m) (e/2)%m
section
variable {d g:Nat}
noncomputable def Lv (d g e:Nat):Prop:=∃k:Int,((g^e:Nat):Int)=1+d*k
theorem Lv.mul {a b:Nat} (ha:Lv d g a) (hb:Lv d g b):Lv d g (a+b):=by
 obtain⟨x,hx⟩:=ha
 obtain⟨y,hy⟩:=hb
 refine⟨x+y+d*x*y,?_⟩
 rw [Nat.pow_add,Int.natCast_mul,hx,hy]
 grind
theorem Lv.many {a:Nat} (ha:Lv d g a):∀n,Lv d g (n*a)
 | 0=>⟨0,by simp⟩
 | n+1=>by
   rw [Nat.add_mul,Nat.one_mul]
   exact(ha.many n).mul ha
theorem Lv.diff {a b:Nat} (ha:Lv d g a) (hb:Lv d g (a+b)):Lv d g b:=by
 obtain⟨x,hx⟩:=ha
 obtain⟨y,hy⟩:=hb
 refine⟨y-x*(g^b:Nat),?_⟩
 rw [Nat.pow_add,Int.natCast_mul,hx]at hy
 grind
theorem Lv.gcd {a:Nat}:∀ {b:Nat},Lv d g a->Lv d g b->Lv d g (Nat.gcd a b):=fun {b}=>by
 induction a using Nat.strongRecOn generalizing b with
 | _ a ih=>
   intro ha hb
   by_cases z:a=0
   . subst z;rw [Nat.gcd_zero_left];exact hb
   . rw [Nat.gcd_rec]
     have h1:Lv d g (b%a):=by
      have:=Nat.div_add_mod b a
      rw [<-this]at hb
      refine Lv.diff (a:=a*(b/a)) ?_ hb
      rw [Nat.mul_comm]
      exact ha.many _
     exact ih (b%a) (Nat.mod_lt _ (by omega)) h1 ha
end
end Z
namespace Z
noncomputable def Dm (t:Int) (d f:List Int):Prop:=∃u:List Int,∀i,t∣co f i-mu u (co d) i
theorem Vh (p:List Int) (f g:Nat->Int) (i:Nat):mu p f i-mu p g i=mu p (fun k=>f k-g k) i:=by
 have h1:=congrFun (Ve p (fun k=>f k-g k) g) i
 have h2:(fun k=>f k-g k+g k)=f:=by funext k;omega
 rw [h2]at h1
 omega
theorem Mx {t:Int}{f g:Nat->Int} (h:∀i,t∣f i-g i) (p:List Int) (i:Nat):t∣mu p f i-mu p g i:=by
 rw [Vh]
 exact Vg t p _ i fun j _=>h j
theorem Rp {t a b c:Int} (h1:t∣a-b) (h2:t∣b-c):t∣a-c:=by
 have:=Int.dvd_add h1 h2
 rw [show a-b+(b-c)=a-c by omega]at this
 exact this
theorem Mv {t a b:Int} (h:t∣a-b):t∣b-a:=by
 have:=(Int.dvd_neg (a:=t) (b:=a-b)).mpr h
 rw [show-(a-b)=b-a by omega]at this
 exact this
theorem Dm.refl (t:Int) (d:List Int):Dm t d d:=⟨[1],fun i=>by
 have:mu [1] (co d) i=co d i:=by
  show 1*co d i+sh (mu [] (co d)) i=_
  have:sh (mu [] (co d)) i=0:=by cases i<;>rfl
  omega
 rw [this,Int.sub_self]
 exact Int.dvd_zero _⟩
theorem Dm.nil (t:Int) (d:List Int):Dm t d []:=⟨[],fun i=>by
 rw [Br]
 exact⟨0,by simp [mu]⟩⟩
theorem Dm.comb {t:Int}{d f g h:List Int} (hf:Dm t d f) (hg:Dm t d g) {a b:List Int} (e:∀i,t∣co h i-(mu a (co f) i+mu b (co g) i)):Dm t d h:=by
 obtain⟨u,hu⟩:=hf
 obtain⟨v,hv⟩:=hg
 refine⟨al (ml a u) (ml b v),fun i=> ?_⟩
 rw [Qm]
 dsimp only
 rw [Ow,Ow]
 have h1:=Mx hu a i
 have h2:=Mx hv b i
 have h3:=Int.dvd_add h1 h2
 refine Rp (e i) ?_
 rw [show mu a (co f) i+mu b (co g) i-(mu a (mu u (co d)) i+mu b (mu v (co d)) i)=mu a (co f) i-mu a (mu u (co d)) i+(mu b (co g) i-mu b (mu v (co d)) i)by omega]
 exact h3
theorem Abh (k:Int) (f:Nat->Int) (i:Nat):mu [k] f i=k*f i:=by
 show k*f i+sh (mu [] f) i=_
 have:sh (mu [] f) i=0:=by cases i<;>rfl
 omega
theorem Dm.by {t:Int}{d f g:List Int} (h:Dm t d f) {k:Int} (e:∀i,t∣co g i-k*co f i):Dm t d g:=
 Dm.comb h (Dm.nil t d) (a:=[k]) (b:=[]) fun i=>by
  rw [Abh]
  have:mu [] (co []) i=0:=rfl
  rw [this,Int.add_zero]
  exact e i
theorem Dm.congr {t:Int}{d f g:List Int} (h:Dm t d f) (e:∀i,t∣co g i-co f i):Dm t d g:=h.by (k:=1) fun i=>by rw [Int.one_mul];exact e i
theorem Dm.trans {t:Int}{d f g:List Int} (h1:Dm t d f) (h2:Dm t f g):Dm t d g:=by
 obtain⟨v,hv⟩:=h2
 exact Dm.comb h1 (Dm.nil t d) (a:=v) (b:=[]) fun i=>by
  have:mu [] (co []) i=0:=rfl
  rw [this,Int.add_zero]
  exact hv i
noncomputable def N7 (t:Int) (f g p q:List Int):Prop:=∀d,(Dm t d f/\Dm t d g)↔(Dm t d p/\Dm t d q)
theorem Mg {t:Int}{f g r u:List Int} (e:∀i,t∣co f i-(mu u (co g) i+co r i)):N7 t g r f g:=fun d=>by
 constructor
 . rintro⟨a,b⟩
   refine⟨Dm.comb a b (a:=u) (b:=[1]) fun i=> ?_,a⟩
   rw [Abh,Int.one_mul]
   exact e i
 . rintro⟨a,b⟩
   refine⟨b,Dm.comb a b (a:=[1]) (b:=u.map (-1* ·)) fun i=> ?_⟩
   rw [Abh]
   have:mu (u.map (-1* ·)) (co g) i= -1*mu u (co g) i:=congrFun (Gu (co g) (-1) u) i
   rw [this]
   have h:=Mv (e i)
   rw [show co r i-(1*co f i+ -1*mu u (co g) i)=mu u (co g) i+co r i-co f i by omega]
   exact h
noncomputable def Pr (t:Int):Prop:=1<t/\∀a:Int,¬t∣a->Int.gcd a t=1
theorem Pr.or {t:Int} (h:Pr t) {a b:Int} (d:t∣a*b):t∣a\/t∣b:=by
 by_cases ha:t∣a
 . exact .inl ha
 . have c:Nat.Coprime t.natAbs a.natAbs:=by
    have:=h.2 a ha
    rw [Int.gcd_comm]at this
    exact this
   have d2:t.natAbs∣a.natAbs*b.natAbs:=by
    rw [<-Int.natAbs_mul]
    exact Int.natAbs_dvd_natAbs.mpr d
   exact .inr (Int.natAbs_dvd_natAbs.mp (c.dvd_of_dvd_mul_left d2))
theorem Lx {e p:List Int} (te:Tr e) (ne:e≠ []) (pe:Prim e) (h:Dv e p):Exact p e:=by
 obtain⟨c,u,hc,hu⟩:=h
 have key:∀k,c∣co u k:=by
  by_cases hz:∀k,co u k=0
  . intro k;rw [hz k];exact Int.dvd_zero _
  . have tn:trim u≠ []:=fun z=>hz fun k=>by rw [<-Bg,z,Br]
    have tu:=Ck u
    have pp:=J6 tu tn
    have up:=Sy tu tn
    have pr:Prim (tm (pln (trim u)) e):=Adi pp pe fun k=>Ec _ _ k
    have d1:∀k,c∣un (trim u)*co (tm (pln (trim u)) e) k:=fun k=>by
     refine⟨co p k,?_⟩
     rw [hu,Ec]
     have e1:mu u (co e) k=mu (trim u) (co e) k:=(congrFun (Ce (co e) _ _ (Bg u)) k).symm
     have e2:mu ((pln (trim u)).map (un (trim u)* ·)) (co e) k=un (trim u)*mu (pln (trim u)) (co e) k:=congrFun (Gu (co e) (un (trim u)) _) k
     rw [e1,<-e2]
     refine congrFun (Ce (co e) _ _ fun i=> ?_) k
     rw [Ip,up]
    have d2:=Ir d1
    rw [pr.gl]at d2
    intro k
    rw [<-Bg,<-up k]
    have:c∣un (trim u):=by simpa using d2
    exact Int.dvd_trans this (Int.dvd_mul_right _ _)
 refine⟨u.map (· /c),fun k=> ?_⟩
 have e1:mu ((u.map (· /c)).map (c* ·)) (co e) k=c*mu (u.map (· /c)) (co e) k:=congrFun (Gu (co e) c _) k
 have e2:mu ((u.map (· /c)).map (c* ·)) (co e) k=mu u (co e) k:=congrFun (Ce (co e) _ _ fun i=>by
  rw [Ip,Jf (f:=(· /c)) (Int.zero_ediv c)]
  exact Int.mul_ediv_cancel' (key i)) k
 rw [e1,<-hu]at e2
 exact(Int.eq_of_mul_eq_mul_left hc e2).symm
theorem apart {t:Int} (ht:Pr t) {p q:List Int} (tp:Tr p) (np:p≠ []) (hl:¬t∣co p (p.length-1)) (h:∀d,Dm t d p->Dm t d q->Dm t d [1]):Gc p q [1]:=by
 have t1:Tr [1]:= .inr ⟨by simp,by decide⟩
 have p1:pln [1]=[1]:=by decide
 refine⟨t1,p1,Mu 1 (by decide) p,Mu 1 (by decide) q,fun d dp dq=> ?_⟩
 have dt:Dv (trim d) d/\Dv d (trim d):=⟨(Dv.refl (trim d)).congr fun i=>Bg d i,(Dv.refl d).congr fun i=>(Bg d i).symm⟩
 have td:=Ck d
 have nd:trim d≠ []:=fun z=>by
  have:=dt.1.trans dp
  rw [z]at this
  exact np (this.zero tp)
 have⟨pa,pb⟩:=Aa3 td
 have te:=Abx td
 have ne:pln (trim d)≠ []:=fun z=>by
  have:=Vz (trim d)
  rw [z,List.length_nil]at this
  exact nd (List.eq_nil_of_length_eq_zero this.symm)
 have pe:=J6 td nd
 have de:Dv d (pln (trim d)):=dt.2.trans pb
 have ed:Dv (pln (trim d)) d:=pa.trans dt.1
 obtain⟨w,hw⟩:=Lx te ne pe (ed.trans dp)
 obtain⟨w',hw'⟩:=Lx te ne pe (ed.trans dq)
 generalize pln (trim d)=e at*
 have m1:Dm t e p:=⟨w,fun i=>by rw [hw,Int.sub_self];exact Int.dvd_zero _⟩
 have m2:Dm t e q:=⟨w',fun i=>by rw [hw',Int.sub_self];exact Int.dvd_zero _⟩
 obtain⟨u,hu⟩:=h e m1 m2
 have le:¬t∣co e (e.length-1):=fun z=>hl (by
  have wn:trim w≠ []:=fun y=>by
   have:=tp.lead np
   rw [hw,<-congrFun (Ce (co e) _ _ (Bg w)) _,y]at this
   exact this rfl
  have e1:p=tm (trim w) e:=tp.ext (G9 _ _) fun i=>by rw [hw,Ec,congrFun (Ce (co e) _ _ (Bg w)) i]
  have l1:=Pq (Ck w) te wn ne
  have lw:=List.length_pos_iff.mpr wn
  have lee:=List.length_pos_iff.mpr ne
  rw [hw,<-congrFun (Ce (co e) _ _ (Bg w)) _,Mz (trim w) e (p.length-1) wn ne (by rw [e1];omega)]
  exact Int.dvd_trans z (Int.dvd_mul_left _ _))
 have l1:e.length=1:=by
  have lee:=List.length_pos_iff.mpr ne
  by_cases z:e.length=1
  . exact z
  . exfalso
    have cu:∀i,t∣co (u.map (· %t)) i-co u i:=fun i=>by
     rw [Jf (f:=(· %t)) (Int.zero_emod t)]
     refine⟨-(co u i/t),?_⟩
     have:=Int.mul_ediv_add_emod (co u i) t
     rw [Int.mul_neg]
     omega
    have hu2:∀i,t∣co [1] i-mu (trim (u.map (· %t))) (co e) i:=fun i=>by
     refine Rp (hu i) ?_
     rw [congrFun (Ce (co e) _ _ (Bg (u.map (· %t)))) i,Ih u e,Ih (u.map (· %t)) e]
     exact Mx (fun k=>Mv (cu k)) e i
    by_cases un:trim (u.map (· %t))=[]
    . have:=hu2 0
      rw [un]at this
      have h1:t∣1:=by simpa [mu,Cq]using this
      have:=Int.le_of_dvd (by decide) h1
      have:=ht.1
      omega
    . have lu:=List.length_pos_iff.mpr un
      have:=hu2 ((trim (u.map (· %t))).length+e.length-2)
      rw [Mz _ e _ un ne (by omega),Bp (p:=[1]) (by show 1<=_;omega),Int.zero_sub]at this
      rcases ht.or ((Int.dvd_neg).mp this)with z1 | z1
      . have ld:=(Ck (u.map (· %t))).lead un
        rw [Bg,Jf (f:=(· %t)) (Int.zero_emod t)]at ld z1
        have r0:=Int.emod_nonneg (co u ((trim (u.map (· %t))).length-1)) (show t≠0 by have:=ht.1;omega)
        have r1:=Int.emod_lt_of_pos (co u ((trim (u.map (· %t))).length-1)) (show 0<t by have:=ht.1;omega)
        have:=Int.le_of_dvd (by omega) z1
        omega
      . exact le z1
 match e,l1 with
 | [k],_=>
   have k0:k≠0:=by
    have:=te.lead ne
    exact this
   exact de.trans (Mu k k0 [1])
end Z
namespace Z
structure MV (m:Int) (p q qs rs:List Int) (j:Nat):Prop where
 eq:∀k,m∣co p k-(mu qs (co q) k+co rs k)
 top:∀k,j+q.length<=k+1->co rs k=0
 low:∀k,k<j->co qs k=0
 rq:∀k,0<=co qs k/\co qs k<m
 rr:∀k,0<=co rs k/\co rs k<m
theorem Qh (n k:Nat):co (List.replicate n (0:Int)) k=0:=by
 unfold co
 rw [List.getD_eq_getElem?_getD,List.getElem?_replicate]
 split<;>rfl
theorem MV.start {m:Int} (hm:0<m) {p q rs:List Int} (hq:q≠ []) (h:∀k,m∣co p k-co rs k) (hr:∀k,0<=co rs k/\co rs k<m):MV m p q (List.replicate (rs.length+1-q.length) 0) rs (rs.length+1-q.length):=by
 have hl:0<q.length:=List.length_pos_iff.mpr hq
 refine⟨fun k=>by rw [Ox,Int.zero_add];exact h k,fun k h=>Bp (by omega),fun k h=>Qh _ _,fun k=> ?_,hr⟩
 rw [Qh]
 omega
theorem MV.step {m:Int} (hm:0<m) {p q qs rs:List Int}{j:Nat} (h:MV m p q qs rs (j+1)) (hq:q≠ []) {f:Int} (hj:j<qs.length) (f0:0<=f) (f1:f<m) (ef:m∣co rs (j+(q.length-1))-f*co q (q.length-1))
 {rs':List Int} (hr:∀k,co rs' k=(co rs k-(if j<=k then f*co q (k-j)else 0))%m):MV m p q (qs.set j f) rs' j:=by
 have hl:0<q.length:=List.length_pos_iff.mpr hq
 have cq:∀k,co (qs.set j f) k=if k=j then f else co qs k:=fun k=>Ks _ _ _ hj k
 have sp:∀k,co (qs.set j f) k=co (al qs (List.replicate j 0++ [f])) k:=fun k=>by
  rw [cq,Tg,Gs,List.length_replicate]
  by_cases hk:k=j
  . rw [if_pos hk,if_pos hk,hk,h.low j (by omega)];simp
  . rw [if_neg hk,if_neg hk,Qh,Int.add_zero]
 have md:∀x:Int,m∣x%m-x:=fun x=>⟨-(x/m),by
  have:=Int.mul_ediv_add_emod x m
  rw [Int.mul_neg]
  omega⟩
 refine⟨fun k=> ?_,fun k hk=> ?_,fun k hk=> ?_,fun k=> ?_,fun k=> ?_⟩
 . rw [Ce (co q) _ _ sp,Qm]
   dsimp only
   rw [Gv,Ox,List.length_replicate,hr]
   have h1:=h.eq k
   have h2:=md (co rs k-(if j<=k then f*co q (k-j)else 0))
   have h3:=Int.dvd_sub h1 h2
   generalize (co rs k-(if j<=k then f*co q (k-j)else 0))%m=y at*
   generalize (if j<=k then f*co q (k-j)else 0)=x at*
   have e:co p k-(mu qs (co q) k+co rs k)-(y-(co rs k-x))=co p k-(mu qs (co q) k+(0+x)+y):=by omega
   rw [e]at h3
   exact h3
 . rw [hr,if_pos (by omega)]
   by_cases hk2:k=j+(q.length-1)
   . subst hk2
     rw [show j+(q.length-1)-j=q.length-1 by omega]
     exact Int.emod_eq_zero_of_dvd ef
   . rw [h.top k (by omega),Bp (show q.length<=k-j by omega)]
     simp
 . rw [cq,if_neg (by omega),h.low k (by omega)]
 . rw [cq]
   split
   . exact⟨f0,f1⟩
   . exact h.rq k
 . rw [hr]
   exact⟨Int.emod_nonneg _ (by omega),Int.emod_lt_of_pos _ hm⟩
theorem Rt {m r iv l:Int} (h:iv*l%m=1) (hm:1<m):m∣r-(r*iv%m)*l:=by
 have e1:=Int.mul_ediv_add_emod (r*iv) m
 have e2:=Int.mul_ediv_add_emod (iv*l) m
 rw [h]at e2
 refine⟨(r*iv/m)*l-r*(iv*l/m),?_⟩
 have e3:r*iv%m=r*iv-m*(r*iv/m):=by omega
 rw [e3]
 have e4:r*iv*l=r*(m*(iv*l/m)+1):=by rw [e2,Int.mul_assoc]
 have:(r*iv-m*(r*iv/m))*l=r*iv*l-m*(r*iv/m)*l:=by grind
 rw [this,e4]
 grind
end Z
namespace Z
noncomputable def Cn (m:Int) (p:List Int):Prop:=Tr p/\∀i,0<=co p i/\co p i<m
theorem Ab2 {m a b:Int} (h:m∣a-b) (ha:0<=a/\a<m) (hb:0<=b/\b<m):a=b:=by
 have h1:=Int.emod_eq_emod_iff_emod_sub_eq_zero.mpr (Int.emod_eq_zero_of_dvd h)
 rw [Int.emod_eq_of_lt ha.1 ha.2,Int.emod_eq_of_lt hb.1 hb.2]at h1
 exact h1
theorem Cn.eq {m:Int}{p q:List Int} (hp:Cn m p) (hq:Cn m q) (h:∀i,m∣co p i-co q i):p=q:=hp.1.ext hq.1 fun i=>Ab2 (h i) (hp.2 i) (hq.2 i)
theorem Cn.nil {m:Int} (hm:0<m):Cn m []:=⟨.inl rfl,fun i=>by rw [Br];omega⟩
noncomputable def Cg (m:Int) (q a b:List Int):Prop:=∃u:List Int,∀i,m∣co a i-co b i-mu u (co q) i
theorem Cg.refl (m:Int) (q a:List Int):Cg m q a a:=⟨[],fun i=>by
 have:mu [] (co q) i=0:=rfl
 rw [this,Int.sub_self,Int.sub_zero]
 exact Int.dvd_zero _⟩
theorem Cg.symm {m:Int}{q a b:List Int} (h:Cg m q a b):Cg m q b a:=by
 obtain⟨u,h⟩:=h
 refine⟨u.map ((-1)* ·),fun i=> ?_⟩
 rw [Rz]
 have:=(Int.dvd_neg (a:=m)).mpr (h i)
 rw [show-(co a i-co b i-mu u (co q) i)=co b i-co a i- -1*mu u (co q) i by omega]at this
 exact this
theorem Cg.trans {m:Int}{q a b c:List Int} (h:Cg m q a b) (g:Cg m q b c):Cg m q a c:=by
 obtain⟨u,h⟩:=h
 obtain⟨v,g⟩:=g
 refine⟨al u v,fun i=> ?_⟩
 rw [Qm]
 dsimp only
 have:=Int.dvd_add (h i) (g i)
 rw [show co a i-co b i-mu u (co q) i+(co b i-co c i-mu v (co q) i)=co a i-co c i-(mu u (co q) i+mu v (co q) i)by omega]at this
 exact this
theorem Cg.mulr {m:Int}{q b b':List Int} (a:List Int) (h:Cg m q b b'):Cg m q (tm a b) (tm a b'):=by
 obtain⟨u,h⟩:=h
 refine⟨ml a u,fun i=> ?_⟩
 rw [Ec,Ec,Vh,Ow]
 exact Mx (f:=fun k=>co b k-co b' k) h a i
theorem Cg.mul {m:Int}{q a a' b b':List Int} (h:Cg m q a a') (g:Cg m q b b'):Cg m q (tm a b) (tm a' b'):=by
 refine(Cg.mulr a g).trans ?_
 rw [Ju a b',Ju a' b']
 exact Cg.mulr b' h
theorem Cg.of {m:Int}{q a b:List Int} (h:∀i,m∣co a i-co b i):Cg m q a b:=⟨[],fun i=>by
 have:mu [] (co q) i=0:=rfl
 rw [this,Int.sub_zero]
 exact h i⟩
theorem Yk {m:Int}{q:List Int} (hq:q≠ []) (hg:Int.gcd (co q (q.length-1)) m=1):∀(n:Nat) (w:List Int),w.length=n->(∀i,q.length-1<=i->m∣mu w (co q) i)->∀i,m∣mu w (co q) i
 | 0,w,hw,_,i=>by
   have:w=[]:=List.eq_nil_of_length_eq_zero hw
   subst this
   exact⟨0,by show(0:Int)=_;simp⟩
 | n+1,w,hw,h,i=>by
   have hn:w≠ []:=fun z=>by rw [z]at hw;cases hw
   obtain⟨w',c,rfl⟩:∃(i:List Int) (x:Int),w=i++ [x]:=⟨_,_,(List.dropLast_concat_getLast hn).symm⟩
   have hl:w'.length=n:=by rw [List.length_append]at hw;simpa using hw
   have hql:=List.length_pos_iff.mpr hq
   have top:=h (n+(q.length-1)) (by omega)
   have e1:mu w' (co q) (n+(q.length-1))=0:=by
    by_cases z:w'=[]
    . rw [z];rfl
    . exact Vf w' q _ z (by omega)
   rw [Gv,e1,Int.zero_add,hl,if_pos (by omega),Nat.add_sub_cancel_left]at top
   have hc:m∣c:=by
    have z:=Int.natAbs_dvd_natAbs.mpr top
    rw [Int.natAbs_mul]at z
    exact Int.natAbs_dvd_natAbs.mp (Nat.Coprime.dvd_of_dvd_mul_right (Nat.Coprime.symm hg) z)
   have st:∀k,m∣mu (w'++ [c]) (co q) k-mu w' (co q) k:=fun k=>by
    rw [Gv,Int.add_comm,Int.add_sub_cancel]
    split
    . exact Int.dvd_mul_of_dvd_left hc
    . exact Int.dvd_zero _
   have ih:=Yk hq hg n w' hl (fun k hk=>by
    have:=Int.dvd_sub (h k hk) (st k)
    rw [show mu (w'++ [c]) (co q) k-(mu (w'++ [c]) (co q) k-mu w' (co q) k)=mu w' (co q) k by omega]at this
    exact this) i
   have:=Int.dvd_add (st i) ih
   rw [Int.sub_add_cancel]at this
   exact this
structure Rem (m:Int) (q p r:List Int):Prop where
 cn:Cn m r
 len:r.length<q.length
 cg:Cg m q p r
theorem Rem.uniq {m:Int}{q p p' r r':List Int} (hg:Int.gcd (co q (q.length-1)) m=1) (h:Rem m q p r) (h':Rem m q p' r') (e:Cg m q p p'):r=r':=by
 obtain⟨w,hw⟩:=(h.cg.symm.trans e).trans h'.cg
 have hq:q≠ []:=fun z=>by have:=h.len;rw [z]at this;exact absurd this (by simp)
 have low:=Yk hq hg _ w rfl fun i hi=>by
  have:=hw i
  rw [Bp (p:=r) (by have:=h.len;omega),Bp (p:=r') (by have:=h'.len;omega),Int.sub_self,Int.zero_sub]at this
  exact(Int.dvd_neg).mp this
 refine h.cn.eq h'.cn fun i=> ?_
 have:=Int.dvd_add (hw i) (low i)
 rw [Int.sub_add_cancel]at this
 exact this
theorem Rem.mul {m:Int}{q a b ra rb r:List Int} (ha:Cg m q a ra) (hb:Cg m q b rb) (h:Rem m q (tm ra rb) r):Rem m q (tm a b) r:=⟨h.cn,h.len,(ha.mul hb).trans h.cg⟩
theorem Rem.of {m:Int}{q p r u:List Int} (tr:Tr r) (h:∀i,m∣co p i-(mu u (co q) i+co r i)) (hl:r.length<q.length) (hr:∀i,0<=co r i/\co r i<m):Rem m q p r:=⟨⟨tr,hr⟩,hl,u,fun i=>by
 have:=h i
 rw [show co p i-(mu u (co q) i+co r i)=co p i-co r i-mu u (co q) i by omega]at this
 exact this⟩
theorem Xf {t:Int} (ht:1<t) {g g':List Int} (c:Cn t g) (c':Cn t g') (h1:g≠ []->co g (g.length-1)=1) (h1':g'≠ []->co g' (g'.length-1)=1) (d:Dm t g g') (d':Dm t g' g):g=g':=by
 have t0:0<t:=by omega
 have nil:∀ {a b:List Int},Cn t a->Dm t b a->b=[]->a=[]:=fun {a b} ca h e=>by
  obtain⟨u,h⟩:=h
  refine ca.eq (Cn.nil t0) fun i=> ?_
  have:=h i
  rw [e,Ih u []]at this
  have e0:mu [] (co u) i=0:=rfl
  rw [e0]at this
  rw [Br]
  exact this
 have toRem:∀ {a b:List Int},b≠ []->Dm t b a->Rem t b a []:=fun {a b} nb h=>by
  obtain⟨u,h⟩:=h
  exact⟨Cn.nil t0,List.length_pos_iff.mpr nb,u,fun i=>by rw [Br,Int.sub_zero];exact h i⟩
 have le:∀ {a b:List Int},Cn t a->b≠ []->co b (b.length-1)=1->a≠ []->Dm t b a->b.length<=a.length:=fun {a b} ca nb hb na h=>by
  refine Nat.le_of_not_lt fun z=>na ?_
  have:=Rem.uniq (by rw [hb];simp) (toRem nb h) ⟨ca,z,.refl _ _ _⟩ (.refl _ _ _)
  exact this.symm
 by_cases z:g=[]
 . rw [z,nil c' d z]
 by_cases z':g'=[]
 . exact absurd (nil c d' z') z
 have l1:=le c z' (h1' z') z d'
 have l2:=le c' z (h1 z) z' d
 have hL:=List.length_pos_iff.mpr z
 have hr:Rem t g' g (trim ((al g (g'.map ((-1)* ·))).map (· %t))):=by
  have cr:∀i,co (trim ((al g (g'.map ((-1)* ·))).map (· %t))) i=(co g i-co g' i)%t:=fun i=>by
   rw [Bg,Jf (f:=(· %t)) (Int.zero_emod t),Tg,Ip]
   rw [show co g i+ -1*co g' i=co g i-co g' i by omega]
  have tr:=Ck ((al g (g'.map ((-1)* ·))).map (· %t))
  refine⟨⟨tr,fun i=>by rw [cr];exact⟨Int.emod_nonneg _ (by omega),Int.emod_lt_of_pos _ t0⟩⟩,?_,[1],fun i=> ?_⟩
  . refine Nat.lt_of_not_le fun y=> ?_
    have ne:trim ((al g (g'.map ((-1)* ·))).map (· %t))≠ []:=fun e=>by rw [e]at y;simp at y;exact z' y
    have:=tr.lead ne
    rw [cr]at this
    generalize (trim ((al g (g'.map ((-1)* ·))).map (· %t))).length=n at this y
    refine this ?_
    by_cases q:n=g'.length
    . rw [q]
      have e1:=h1 z
      have e2:=h1' z'
      rw [show g.length=g'.length by omega]at e1
      rw [e1,e2]
      simp
    . rw [Bp (p:=g) (by omega),Bp (p:=g') (by omega)]
      simp
  . rw [cr,Abh,Int.one_mul]
    exact⟨(co g i-co g' i)/t,by have:=Int.mul_ediv_add_emod (co g i-co g' i) t;omega⟩
 have e:=Rem.uniq (by rw [h1' z'];simp) hr (toRem z' d') (.refl _ _ _)
 refine c.eq c' fun i=> ?_
 have:=congrArg (fun l=>co l i) e
 rw [Bg,Jf (f:=(· %t)) (Int.zero_emod t),Tg,Ip,Br,show co g i+ -1*co g' i=co g i-co g' i by omega]at this
 exact Int.dvd_of_emod_eq_zero this
end Z
namespace Z
open PySem L2
local macro_rules | `(tactic| done)=> `(tactic| simp only [Afl,Aeo,Wo,Aco,Ael,Aex,Acf,Aea,Ra,Aev,Acw,Acx,z_c,Afn,Aft,Afp,Aew,Afq,Aee,Aer,Aed,Aeq,Acu,Afs,Aeg,Aei,Aef,Acg,Ach,Aeu,Ad9,Afo,Ab9,Aca,Aet,Acd,Afk,Aey,Aep,Acb,Acr,Acs,Aap,Acn,Aej,Aem,Aen,T9,Afr,X5,Acq,Aeb,Afj,Aec,Acp,Aek,Acl,Acj,Aci,Acm,Aaq,Acv,Ace,Aeh,Ack,Afm,cpσ,List.getElem?_cons_zero,List.getElem?_cons_succ,Option.join_some,List.set_cons_zero,List.set_cons_succ,List.append_nil,decide_eq_true_eq,Bool.not_eq_true',decide_eq_false_iff_not,Bool.not_not,ite_not,Bool.false_eq_true,Bool.true_eq_false,if_false,if_true,if_pos,List.length_cons,List.length_nil,Nat.zero_add,Nat.reduceAdd,Ab3,Ab4,true_and,and_true,L2.start,List.map_cons,List.map_nil,Bool.not_true,Bool.not_false,Nat.reduceSub,List.replicate_succ,List.replicate_zero,List.cons_append,List.nil_append])
noncomputable def top (i:Nat):Stmt:=PySem.Challenge.pw_rootcourt_k51_divisions_by_a_number.main.body.getD i (.Pass ⟨0,0,0,0⟩)
theorem Ed {N P:List Str}{sc:Scope} (h1:sc.kind= .function:=by rfl) (h2:sc.isCoroutine=false:=by rfl) (h3:sc.isGenerator=false:=by rfl) (h4:N.Nodup:=by decide+kernel) (h5:N.take P.length=P:=by rfl) (h6:∀x∈P,sc.names.lookup x=some .local \/sc.names.lookup x=some .cell:=by decide+kernel) (h7:∀y∈sc.names,y.2≠ .free:=by decide+kernel):Bc N P sc:=⟨h1,h2,h3,h4,h5,h6,h7⟩
noncomputable abbrev V6:Stmt:=top 6
theorem Q0:Bc ["weights","length"] ["weights"] (Ao V6):=Ed
noncomputable abbrev Ng:Stmt:=top 7
theorem V7:Bc ["one"] ["one"] (Ao Ng):=Ed
noncomputable abbrev K5:Stmt:=top 8
theorem Fe:Bc ["one","other","weights","place","weight","further","factor"] ["one","other"] (Ao K5):=Ed
noncomputable abbrev Ka:Stmt:=top 9
theorem V9:Bc ["one","factor"] ["one","factor"] (Ao Ka):=Ed
noncomputable abbrev Hx:Stmt:=top 10
theorem Ds:Bc ["start","one","many","product","found","square","left"] ["start","one","many","product"] (Ao Hx):=Ed
noncomputable abbrev Gx:Stmt:=top 12
theorem Ph:Bc ["one","m"] ["one","m"] (Ao Gx):=Ed
noncomputable abbrev Hs:Stmt:=top 13
theorem Bw:Bc ["number","m","greater","lesser","ahead","here","many"] ["number","m"] (Ao Hs):=Ed
noncomputable abbrev Jk:Stmt:=top 14
theorem Dk:Bc ["one","other","m","inverse","rest","quotient","place","factor","further","weight"] ["one","other","m"] (Ao Jk):=Ed
noncomputable abbrev Nh:Stmt:=top 15
theorem V8:Bc ["one","other","m"] ["one","other","m"] (Ao Nh):=Ed
noncomputable abbrev Nk:Stmt:=top 16
theorem Pj:Bc ["one","t","told"] ["one","t"] (Ao Nk):=Ed
noncomputable abbrev Jl:Stmt:=top 17
theorem Gy:Bc ["one","other","t","first","second"] ["one","other","t"] (Ao Jl):=Ed
noncomputable abbrev Ht:Stmt:=top 18
theorem T6:Bc ["one","many","by","m"] ["one","many","by","m"] (Ao Ht):=Ed
noncomputable abbrev K6:Stmt:=top 20
theorem Jp:Bc ["_law_cell","_law_k","_law_figure"] ["_law_cell","_law_k"] (Ao K6):=Ed
noncomputable abbrev K7:Stmt:=top 21
theorem Fg:Bc ["_law_cell","_law_bases","_law_found","_law_rest_here","_law_k","_law_base"] ["_law_cell","_law_bases"] (Ao K7):=Ed
noncomputable abbrev J8:Stmt:=top 22
theorem Iw:Bc ["_law_weights","_law_m","_law_found","_law_many"] ["_law_weights","_law_m"] (Ao J8):=Ed
noncomputable abbrev Nj:Stmt:=top 23
theorem Kc:Bc ["_law_one","_law_other","_law_way","_law_m","_law_many","_law_first","_law_second"] ["_law_one","_law_other","_law_way","_law_m"] (Ao Nj):=Ed
noncomputable abbrev Ij:Stmt:=top 24
theorem Fx:Bc ["_law_one","_law_other","_law_m","_law_found","_law_k","_law_j"] ["_law_one","_law_other","_law_m"] (Ao Ij):=Ed
noncomputable abbrev Es:Stmt:=top 25
theorem Gh:Bc ["_law_one","_law_other"] ["_law_one","_law_other"] (Ao Es):=Ed
noncomputable abbrev Et:Stmt:=top 26
theorem Bo:Bc ["_law_one","_law_other","_law_m","_law_found","_law_word","e"] ["_law_one","_law_other","_law_m"] (Ao Et):=Ed
noncomputable abbrev Ii:Stmt:=top 27
theorem Jw:Bc ["_law_figure","_law_t","_law_k"] ["_law_figure","_law_t"] (Ao Ii):=Ed
noncomputable abbrev Ni:Stmt:=top 28
theorem Gi:Bc ["_law_one","_law_other","_law_t","_law_rest_here","_law_unit","_law_factor","_law_k","_law_place"] ["_law_one","_law_other","_law_t"] (Ao Ni):=Ed
noncomputable abbrev Jm:Stmt:=top 29
theorem K8:Bc ["_law_one","_law_other","_law_t"] ["_law_one","_law_other","_law_t"] (Ao Jm):=Ed
noncomputable abbrev Fq:Stmt:=top 30
theorem Eu:Bc ["_law_one","_law_other","_law_t","_law_lone","_law_found"] ["_law_one","_law_other","_law_t"] (Ao Fq):=Ed
noncomputable abbrev Jo:Stmt:=top 31
theorem Bx:Bc ["_law_figure","_law_m","_law_first","_law_second","_law_left","_law_right","_law_many"] ["_law_figure","_law_m"] (Ao Jo):=Ed
noncomputable abbrev Ik:Stmt:=top 32
theorem Dy:Bc ["_law_one","_law_by","_law_m","_law_rest_here","_law_unit","_law_factor","_law_k","_law_place"] ["_law_one","_law_by","_law_m"] (Ao Ik):=Ed
noncomputable abbrev Dr:Stmt:=top 33
theorem Aw:Bc ["_law_one","_law_by","_law_many","_law_m","_law_found","_law_word","e","_law_due","_law_k"] ["_law_one","_law_by","_law_many","_law_m"] (Ao Dr):=Ed
noncomputable abbrev Fp:Stmt:=top 34
theorem Bq:Bc ["_law_one","_law_by","_law_many","_law_t","_law_due","_law_step","_law_rest_here"] ["_law_one","_law_by","_law_many","_law_t"] (Ao Fp):=Ed
noncomputable abbrev Pg:Stmt:=top 35
theorem Fw:Bc ["_law_script","_law_far","_law_primes","_law_cell","_law_parts_here","_law_m","_law_t","_law_first","_law_second","_law_by","_law_one","_law_other","_law_both","_law_many"] ["_law_script"] (Ao Pg):=Ed
section
variable {P:Program}{w:World}{K:PySem.W.Frag}{mg:Str->Option Value}{base:Heap}
theorem Afe {T U:String}{b:Bool} (h:(if(Value.type T==Value.type U)=true then some true else if PySem.W.kitMeta U=true then PySem.W.subIn [] (.type T) (.type U)else none)=some b):PySem.W.kitOne K (.type T) (.type U)=some b:=h
theorem Kd (p:List Int):(trim p).length<=p.length:=(Ck p).len fun i=>Bg p i
noncomputable def Po (K:PySem.W.Frag) (H:Hp) (v:V) (p:List Int) (l n:Nat):Prop:=(∃a,v= .ref a/\SqT K H a (p.map V.int))/\Tr p/\p.length<=l/\∀i,Sz n (co p i)
theorem Po.mono {K:PySem.W.Frag}{H H':Hp}{v:V}{p:List Int}{l n:Nat} (h:Po K H v p l n) (s:Same H H'):Po K H' v p l n:=by
 obtain⟨⟨a,e,t⟩,r⟩:=h
 exact⟨⟨a,e,s.tup t⟩,r⟩
theorem Sz0 {n:Nat} (h:0<n):Sz n 0:=Nat.pow_pos (by decide)
theorem Adg {p:List Int}{n:Nat} (h0:0<n) (h:∀x∈p,Sz n x) (i:Nat):Sz n (co p i):=by
 by_cases hi:i<p.length
 . rw [Bt hi]
   exact h _ (List.getElem_mem hi)
 . rw [Bp (by omega)]
   exact Sz0 h0
noncomputable def Np (K:PySem.W.Frag):Sp:=fun vs H Q _=>∃(a:Addr) (ns:List Int),vs=[.ref a]/\SqL K H a (ns.map V.int)/\ns.length<=1000/\∀z H',Same H H'->SqT K H' z ((trim ns).map V.int)->Q (.ref z) H'
theorem Zz {f:Addr}{fd:FuncData} (F:Df K mg "poly" V6 ["weights"] f fd) (z_len:mg "len"=none) (z_tuple:mg "tuple"=none)   :Cal P w K mg base 33 "poly" ["weights"] (Np K):=by
 refine F.cal (F.fn.ok Q0 (fun vs H Q E h=> ?_) (fun cdv A outer s H vs Q E hr h=> ?_))
 . obtain⟨a,ns,rfl,_⟩:=h
   rfl
 obtain⟨a,ns,rfl,hS,hl,q⟩:=h
 refine Ay ⟨_,(Ad (Ai 1 Q0.nd (Ar Al rfl z_len PySem.boot_len (Aa (Ae 0) Ab)))
  (Ad (Bs PassesOwn.never (Cp (Cy (Aj O5 (Ae 1) Ac (Az _)) (Dh (Aj Lp (Aq Bh (Ae 0) (Af Dw (Ae 1) Ac) (fun _ _=>rfl)) Ac (Az _))))) (Ag (Ai 1 Q0.nd (Af Dw (Ae 1) Ac))))
  (Ag (Am (Dz Ey rfl z_tuple PyProof.Rows.boot_tuple (Aa (Eh Jq (Ae 0) Jd (Dn (Ae 1))) Ab)))))),?_⟩
 done
 refine⟨a,_,rfl,.inl hS,?_⟩
 rw [List.length_map]
 refine G4 (fun σ H'=>H'=H/\∃n:Nat,σ=[some (.ref a),some (.int n)]/\n<=ns.length/\∀i,n<=i->co ns i=0) (fun σ _=>match σ with | [_,some (.int n)]=>n.toNat | _=>0)
  ⟨rfl,_,rfl,Nat.le_refl _,fun i h=>Bp h⟩ ?_
 rintro σ H' ⟨rfl,n,rfl,hn,hz⟩
 have fin:(n=0\/co ns (n-1)≠0)->Ac6 K (V.ref a) none (some (n:Int)) H' (fun x H1=>∃p ys,[x]=[V.ref p]/\((SqL K H1 p ys/\∀(l:Addr),H1 l=none->Q (V.ref l) (upd H1 l (HO.tup ys)))\/SqT K H1 p ys/\Q (V.ref p) H1)):=fun h=>by
  refine⟨a,_,rfl,hS,fun p hp=>⟨p,_,rfl,.inl ⟨.of Ah,fun z hz'=>q z _ ((Same.upd hp _).trans (Same.upd hz' _)) ?_⟩⟩⟩
  have e:Ua (ns.map V.int) none (some (n:Int))=(trim ns).map V.int:=by
   rw [Px hz h]
   unfold Ua
   rw [HT.Nf,HT.K4,List.drop_zero,Nat.sub_zero,List.length_map,Nat.min_eq_left hn,List.map_take]
  rw [e]
  exact .of Ah
 done
 by_cases h0:(0:Int)<n
 . rw [if_pos h0]
   refine Nx hS (v:= .int (co ns (n-1))) ?_ ?_
   . have e:=Gq (xs:=ns.map V.int) (j:=n-1) (v:= .int (co ns (n-1))) (by rw [List.getElem?_map,List.getElem?_eq_getElem (by omega),Bt (by omega)];rfl)
     rw [show((n-1:Nat):Int)=(n:Int)-1 by omega]at e
     exact e
   done
   by_cases hc:co ns (n-1)=0
   . rw [if_pos hc]
     refine Q8 ?_
     done
     refine⟨⟨n-1,by rw [show((n-1:Nat):Int)=(n:Int)-1 by omega],by omega,fun i hi=> ?_⟩,by omega⟩
     by_cases hi':i=n-1
     . rw [hi',hc]
     . exact hz i (by omega)
   . rw [if_neg hc]
     exact fin (.inr hc)
 . rw [if_neg h0]
   exact fin (.inl (by omega))
theorem Ab6 {H:Hp}{Q:VK}{E:XK}{a:Addr}{ns:List Int} (h0:SqL K H a (ns.map V.int)) (hl:ns.length<=1000) (h:∀z H',Same H H'->SqT K H' z ((trim ns).map V.int)->Q (.ref z) H'):Np K [.ref a] H Q E:=⟨a,ns,rfl,h0,hl,h⟩
noncomputable def Ld (K:PySem.W.Frag):Sp:=fun vs H Q _=>∃(x:V) (p:List Int) (l n:Nat),vs=[x]/\Po K H x p l n/\Q (.int ((p.length:Int)-1)) H
theorem Vl {f:Addr}{fd:FuncData} (F:Df K mg "degree" Ng ["one"] f fd) (z_len:mg "len"=none)   :Cal P w K mg base 33 "degree" ["one"] (Ld K):=by
 refine F.cal (F.fn.ok V7 (fun vs H Q E h=> ?_) (fun cdv A outer s H vs Q E hr h=> ?_))
 . obtain⟨x,p,_,_,rfl,_⟩:=h
   rfl
 obtain⟨x,p,l,n,rfl,⟨⟨a,rfl,ha⟩,tp,lp,zp⟩,k⟩:=h
 refine Ay ⟨_,(Ag (Am (Af Dw (Ar Al rfl z_len PySem.boot_len (Aa (Ae 0) Ab)) Ac))),?_⟩
 done
 refine⟨a,_,rfl,.inr ha,?_⟩
 repeat (first | done | simp only [List.length_map])
 exact k
theorem Xy {H H1:Hp}{Q:VK}{E:XK}{x:V}{p:List Int}{l n:Nat} (hx:Po K H1 x p l n) (s1:Same H1 H) (h:Q (.int ((p.length:Int)-1)) H):Ld K [x] H Q E:=⟨x,p,l,n,rfl,hx.mono s1,h⟩
theorem at0 {α:Type} (x:α) (r:List α):atI (x::r) 0=some x:=Gq (j:=0) rfl
theorem at1 {α:Type} (x y:α) (r:List α):atI (x::y::r) 1=some y:=Gq (j:=1) rfl
theorem Ep {q:List Int} (hq:q≠ []):atI (q.map V.int) (-1)=some (.int (co q (q.length-1))):=by
 obtain⟨ini,c,rfl⟩:∃(i:List Int) (x:Int),q=i++ [x]:=⟨_,_,(List.dropLast_concat_getLast hq).symm⟩
 rw [List.map_append,List.length_append,List.length_singleton,Nat.add_sub_cancel,Gs,if_pos rfl]
 exact Ww _ _
noncomputable def Pn (K:PySem.W.Frag):Sp:=fun vs H Q _=>∃(x:V) (c:Int) (p:List Int) (l n m:Nat),vs=[x,.int c]/\Po K H x p l n/\Sz m c/\l<=500/\n+m<=100000000/\∀z H',Same H H'->Po K H' z (ng p c) l (n+m)->Q z H'
theorem Vp {f:Addr}{fd:FuncData} (F:Df K mg "scaled" Ka ["one","factor"] f fd) (z_tuple:mg "tuple"=none)   :Cal P w K mg base 33 "scaled" ["one","factor"] (Pn K):=by
 refine F.cal (F.fn.ok V9 (fun vs H Q E h=> ?_) (fun cdv A outer s H vs Q E hr h=> ?_))
 . obtain⟨x,c,p,_,_,_,rfl,_⟩:=h
   rfl
 obtain⟨x,c,p,l,n,m,rfl,⟨⟨a,rfl,ha⟩,tp,lp,zp⟩,hm,l5,hz,k⟩:=h
 refine Ay ⟨_,(Ad (Bf (Aj Lp (Ae 1) Ac (Az _)) (Ag (Am (Av Ab))) Ax)
  (Ag (Am (Dz Ey rfl z_tuple PyProof.Rows.boot_tuple (Aa (Jc (ts:=["weight"]) (fs:=[(1,"factor")]) rfl (Di.of (sc:=Ao Ka) (N:=["one","factor"]) rfl rfl (by decide+kernel)) (Oe (Ae 0)) (fun _ _ _=>(Ba 0 (show List.Nodup (["weight","factor"]:List Str)by decide+kernel))) (fun _ _ _=>Hw) (fun _ _ _=>(Af Cj (Ae 0) (Ae 1)))) Ab))))),?_⟩
 done
 have szc:∀i,Sz (n+m) (co (ng p c) i):=fun i=>by
  rw [Vj]
  exact(zp i).mul hm
 by_cases hc:c=0
 . rw [if_pos hc]
   refine⟨by decide,fun z hz'=>k _ _ (Same.upd hz' _) ⟨⟨z,rfl,?_⟩,Ck _,?_,szc⟩⟩
   . have e:ng p c=[]:=(Ck _).ext (.inl rfl) fun i=>by
      have:=Vj p c i
      rw [hc,Int.mul_zero]at this
      rw [Br,<-this,hc,ng]
     rw [e]
     exact .of Ah
   . have:=Kd (p.map (· *c))
     rw [List.length_map]at this
     exact Nat.le_trans this lp
 . rw [if_neg hc]
   refine⟨⟨_,ha⟩,fun p1 hp1=>Kr (es:=p) (inj:=V.int) (fun w=> .int (w*c)) (Nat.le_trans lp (Nat.le_trans l5 (by decide))) hp1 (Wn ha) ?_ ?_⟩
   . intro e H2 R he s2 hR
     done
     obtain⟨i,hi,ei⟩:=List.getElem_of_mem he
     have ze:=zp i
     rw [Bt hi,ei]at ze
     exact⟨ze.mulOk hm (by omega),hR _ (Same.refl _)⟩
   . intro H2 s2 h2
     try done
     have e:ng p c=p.map (· *c):=Aan (.of (by
      by_cases hp:p=[]
      . left;rw [hp];rfl
      . right
        have:=tp.lead hp
        rw [List.length_map,<-Bg,show trim (p.map (· *c))=ng p c from rfl,Vj]
        exact Int.mul_ne_zero this hc))
     refine⟨p1,_,rfl,.inl ⟨.of h2,fun z hz'=>k _ _ (s2.trans (Same.upd hz' _)) ⟨⟨z,rfl,?_⟩,Ck _,?_,szc⟩⟩⟩
     . rw [e,List.map_map]
       exact .of Ah
     . rw [e,List.length_map]
       exact lp
theorem Abj {q:List Int}{n n':Nat} (hq:∀i,Sz n' (co q i)):∀(p:List Int),(∀x∈p,Sz n x)->∀i,Sz (n+n'+p.length) (mu p (co q) i)
 | [],_,i=>by
   have h0:0<2^(n+n'+([]:List Int).length):=Nat.pow_pos (by decide)
   exact h0
 | a::p,h,i=>by
   have ih:=Abj hq p fun x hx=>h x (List.mem_cons_of_mem _ hx)
   have h1:=(h a List.mem_cons_self).mul (hq i)
   have h2:Sz (n+n'+p.length) (sh (mu p (co q)) i):=by
    cases i with
    | zero=>
      have h0:0<2^(n+n'+p.length):=Nat.pow_pos (by decide)
      exact h0
    | succ i=>exact ih i
   exact(h1.add h2).mono (by simp only [List.length_cons];omega)
theorem Po.mem {K:PySem.W.Frag}{H:Hp}{v:V}{p:List Int}{l n:Nat} (h:Po K H v p l n):∀x∈p,Sz n x:=fun x hx=>by
 obtain⟨i,hi,ei⟩:=List.getElem_of_mem hx
 have z:=h.2.2.2 i
 rw [Bt hi,ei]at z
 exact z
noncomputable def Mi (K:PySem.W.Frag):Sp:=fun vs H Q _=>∃(x y:V) (p q:List Int) (l l' n n':Nat),vs=[x,y]/\Po K H x p l n/\Po K H y q l' n'/\l<=500/\l'<=500/\n+n'<=100000000/\∀z H',Same H H'->Po K H' z (tm p q) (l+l') (n+n'+l)->Q z H'
theorem Tv {f:Addr}{fd:FuncData} (F:Df K mg "p_times" K5 ["one","other"] f fd) (z_enumerate:mg "enumerate"=none) (z_tuple:mg "tuple"=none) (z_len:mg "len"=none)   :Cal P w K mg base 33 "p_times" ["one","other"] (Mi K):=by
 refine F.cal (F.fn.ok Fe (fun vs H Q E h=> ?_) (fun cdv A outer s H vs Q E hr h=> ?_))
 . obtain⟨x,y,p,q,_,_,_,_,rfl,_⟩:=h
   rfl
 obtain⟨x,y,p,q,l,l',n,n',rfl,hx,hy,l5,l5',hn,k⟩:=h
 have mx:=hx.mem
 have my:=hy.mem
 obtain⟨⟨a,rfl,ha⟩,tp,lp,zp⟩:=hx
 obtain⟨⟨b,rfl,hb⟩,tq,lq,zq⟩:=hy
 have res:∀(z:Addr) (H':Hp),Same H H'->SqT K H' z ((tm p q).map V.int)->Q (.ref z) H':=fun z H' s hz=>by
  refine k _ _ s ⟨⟨z,rfl,hz⟩,G9 _ _,?_,fun i=> ?_⟩
  . by_cases h1:p=[]
    . rw [h1,Ju,Sx]
      exact Nat.zero_le _
    . by_cases h2:q=[]
      . rw [h2,Sx]
        exact Nat.zero_le _
      . have:=Pq tp tq h1 h2
        omega
  . rw [Ec]
    exact(Abj zq p mx i).mono (by omega)
 refine Ay ⟨_,(Ad (Bf (Cp (Gp (Aj (Fv hr.units) (Ae 0) (Av Ab) (Az _)) (Hl (Aj (Fv hr.units) (Ae 1) (Av Ab) (Az _))))) (Ag (Am (Av Ab))) Ax)
  (Ad (Ai 2 Fe.nd (Af Ma (Bv (Aa Ac Ab)) (Af Dw (Af Cm (Ar Al rfl z_len PySem.boot_len (Aa (Ae 0) Ab)) (Ar Al rfl z_len PySem.boot_len (Aa (Ae 1) Ab))) Ac)))
  (Ad (Cv PassesOwn.never rfl (Mq rfl z_enumerate (Aa (Ae 0) Ab)) (Gd rfl (Bd (Ba 3 Fe.nd) (Bd (Ba 4 Fe.nd) Fb))) (Ag (Bf (Aj M8 (Ae 4) Ac (Az _)) (Ag (Cv PassesOwn.never rfl (Mq rfl z_enumerate (Aa (Ae 1) Ab)) (Gd rfl (Bd (Ba 5 Fe.nd) (Bd (Ba 6 Fe.nd) Fb))) (Ag (Ea (Af Cm (Aq Bh (Ae 2) (Af Cm (Ae 3) (Ae 5)) (fun _ _=>rfl)) (Af Cj (Ae 4) (Ae 6))) (Fl (Ae 2) (Af Cm (Ae 3) (Ae 5)) set_list))))) Ax)))
  (Ag (Am (Dz Ey rfl z_tuple PyProof.Rows.boot_tuple (Aa (Ae 2) Ab))))))),?_⟩
 done
 refine⟨by decide,fun p1 hp1=> ?_⟩
 have s1:=Same.upd hp1 (.tup [])
 refine Bk (ms:=[]) (s1.tup ha) (.of Ah) ?_
 try done
 by_cases h1:p=[]
 . rw [if_pos h1]
   refine⟨by decide,fun z hz=>res z _ (s1.trans (Same.upd hz _)) ?_⟩
   rw [h1,Ju,Sx]
   exact .of Ah
 rw [if_neg h1]
 refine⟨by decide,fun p2 hp2=> ?_⟩
 have s2:=s1.trans (Same.upd hp2 (.tup []))
 refine Bk (ms:=[]) (s2.tup hb) (.of Ah) ?_
 try done
 by_cases h2:q=[]
 . rw [if_pos h2]
   refine⟨by decide,fun z hz=>res z _ (s2.trans (Same.upd hz _)) ?_⟩
   rw [h2,Sx]
   exact .of Ah
 rw [if_neg h2]
 intro p3 hp3
 have s3:=s2.trans (Same.upd hp3 (.lst [V.int 0]))
 have q1:=List.length_pos_iff.mpr h1
 have q2:=List.length_pos_iff.mpr h2
 have sz5:1000<=sizeLine:=by decide
 refine⟨a,_,rfl,.inr (s3.tup ha),b,_,rfl,.inr (s3.tup hb),?_⟩
 simp only [List.length_map]
 have hN:((p.length:Int)+(q.length:Int)-1).toNat=p.length+q.length-1:=by omega
 refine⟨p3,_,[V.int 0],rfl,rfl,Ah,by omega,by omega,by rw [hN];simp only [List.length_cons,List.length_nil];omega,fun l0 hn=> ?_⟩
 rw [hN,Hq]
 have hnH:H l0=none:=Same.free s3 hn
 have s4:=s3.trans (Same.upd hn (.lst ((List.replicate (p.length+q.length-1) (0:Int)).map V.int)))
 refine⟨⟨_,s4.tup ha⟩,Zk (es:=p) (inj:=V.int) (fun pre σ H'=>∃(o1 o2 o3 o4:Option V) (ms:List Int),σ=[some (.ref a),some (.ref b),some (.ref l0),o1,o2,o3,o4]/\Same H H'/\H' l0=some (.lst (ms.map V.int))/\ms.length=p.length+q.length-1/\∀i,co ms i=mu pre (co q) i)
  ⟨_,_,_,_,List.replicate (p.length+q.length-1) 0,rfl,s4,Ah,by rw [List.length_replicate],fun i=> ?_⟩ ?_ ?_ ?_⟩
 . show _=0
   unfold co
   rw [List.getD_eq_getElem?_getD,List.getElem?_replicate]
   split<;>rfl
 . rintro pre σ H' ⟨o1,o2,o3,o4,ms,rfl,s5,_⟩
   exact s5.tup ha
 . rintro pre e post σ H' p4 he ⟨o1,o2,o3,o4,ms,rfl,s5,hm,hlm,hco⟩ hp4
   refine Rq (.of Ah) ?_
   have hlen:=congrArg List.length he
   rw [List.length_append,List.length_cons]at hlen
   have ez:Sz n e:=mx e (by rw [he];simp)
   have s6:=s5.trans (Same.upd hp4 (.tup [V.int (pre.length:Nat),V.int e]))
   have hm6:=Same.upd hp4 (.tup [V.int (pre.length:Nat),V.int e]) _ _ hm
   try done
   by_cases hz:e=0
   . rw [if_pos hz]
     exact⟨_,_,_,_,ms,rfl,s6,hm6,hlm,fun i=>by rw [Gv,hco,hz];simp⟩
   . rw [if_neg hz]
     refine⟨⟨_,s6.tup hb⟩,Zk (es:=q) (inj:=V.int) (fun pre2 σ H2=>∃(o3 o4:Option V) (ms2:List Int),σ=[some (.ref a),some (.ref b),some (.ref l0),some (.int (pre.length:Nat)),some (.int e),o3,o4]/\Same H H2/\H2 l0=some (.lst (ms2.map V.int))/\ms2.length=p.length+q.length-1/\
      ∀i,co ms2 i=mu pre (co q) i+(if pre.length<=i then e*co pre2 (i-pre.length)else 0)) ⟨_,_,ms,rfl,s6,hm6,hlm,fun i=> ?_⟩ ?_ ?_ ?_⟩
     . rw [hco,Br,Int.mul_zero]
       split<;>simp
     . rintro pre2 σ H2 ⟨o3,o4,ms2,rfl,s7,_⟩
       exact s7.tup hb
     . rintro pre2 f post2 σ H2 p5 he2 ⟨o3,o4,ms2,rfl,s7,hm7,hlm2,hco2⟩ hp5
       refine Rq (.of Ah) ?_
       have hlen2:=congrArg List.length he2
       rw [List.length_append,List.length_cons]at hlen2
       have fz:Sz n' f:=my f (by rw [he2];simp)
       have hj:pre.length+pre2.length<ms2.length:=by omega
       have s8:=Same.upd hp5 (.tup [V.int (pre2.length:Nat),V.int f])
       have hm8:=s8 _ _ hm7
       repeat (first | done | simp only [<-Int.natCast_add])
       refine Jb (.of hm8) (Dp hj) ?_
       try done
       refine⟨ez.mulOk fz (by omega),?_⟩
       refine Tn hm8 (by rw [List.length_map];exact hj) ?_
       try done
       rw [Gz]
       refine⟨_,_,ms2.set (pre.length+pre2.length) (ms2[pre.length+pre2.length]+e*f),rfl,?_,Ah,by rw [List.length_set];exact hlm2,fun i=> ?_⟩
       . intro c o hc
         rw [Bb (Bj hc hnH)]
         exact s8 _ _ (s7 _ _ hc)
       . rw [Ks _ _ _ hj,Gs,hco2 i]
         by_cases hi:i=pre.length+pre2.length
         . subst hi
           rw [if_pos rfl,<-Bt hj,hco2,if_pos (by omega),if_pos (by omega),if_pos (by omega),show pre.length+pre2.length-pre.length=pre2.length by omega,Bp (p:=pre2) (Nat.le_refl _)]
           omega
         . rw [if_neg hi]
           by_cases hi2:pre.length<=i
           . rw [if_pos hi2,if_pos hi2,if_neg (by omega)]
           . rw [if_neg hi2,if_neg hi2]
     . rintro σ H2 ⟨o3,o4,ms2,rfl,s7,hm7,hlm2,hco2⟩
       try done
       exact⟨_,_,_,_,ms2,rfl,s7,hm7,hlm2,fun i=>by rw [Gv,hco2]⟩
 . rintro σ H' ⟨o1,o2,o3,o4,ms,rfl,s5,hm,hlm,hco⟩
   try done
   have e:ms=tm p q:=by
    have tl:=Pq tp tq h1 h2
    refine List.ext_getElem (by omega) fun i g1 g2=> ?_
    rw [<-Bt g1,<-Bt g2,hco,Ec]
   refine⟨l0,_,rfl,.inl ⟨.of hm,fun z hz=>res z _ (s5.trans (Same.upd hz _)) ?_⟩⟩
   rw [<-e]
   exact .of Ah
noncomputable def md (p:List Int) (m:Int):List Int:=trim (p.map (· %m))
theorem G8 (p:List Int) (m:Int) (i:Nat):co (md p m) i=co p i%m:=by
 rw [md,Bg]
 by_cases h:i<p.length
 . rw [Bt (by simpa using h),Bt h,List.getElem_map]
 . rw [Bp (by simpa using h),Bp (by omega),Int.zero_emod]
theorem Ln (p:List Int) (m:Int):Tr (md p m):=Ck _
theorem Ov (p:List Int) (m:Int):(md p m).length<=p.length:=by
 have:=Kd (p.map (· %m))
 rw [List.length_map]at this
 exact this
theorem Sv {k:Nat}{m:Int} (hm:0<m) (hz:Sz k m) (x:Int):Sz k (x%m):=by
 have h0:=Int.emod_nonneg x (Int.ne_of_gt hm)
 have h1:=Int.emod_lt_of_pos x hm
 generalize x%m=y at*
 exact hz.of_abs (by omega)
noncomputable def En (K:PySem.W.Frag):Sp:=fun vs H Q _=>∃(x:V) (m:Int) (p:List Int) (l n k:Nat),vs=[x,.int m]/\Po K H x p l n/\l<=500/\0<m/\Sz k m/\∀z H',Same H H'->Po K H' z (md p m) l k->Q z H'
theorem Oz {f:Addr}{fd:FuncData} (F:Df K mg "by_number" Gx ["one","m"] f fd)   (c_poly:Cal P w K mg base 33 "poly" ["weights"] (Np K)):Cal P w K mg base 34 "by_number" ["one","m"] (En K):=by
 refine F.cal (F.fn.ok Ph (fun vs H Q E h=> ?_) (fun cdv A outer s H vs Q E hr h=> ?_))
 . obtain⟨x,m,p,_,_,_,rfl,_⟩:=h
   rfl
 obtain⟨x,m,p,l,n,k,rfl,⟨⟨a,rfl,ha⟩,tp,lp,zp⟩,hl,hm,hk,q⟩:=h
 refine Ay ⟨_,(Ag (Am (Ak c_poly hr (Aa (Jc (ts:=["weight"]) (fs:=[(1,"m")]) rfl (Di.of (sc:=Ao Gx) (N:=["one","m"]) rfl rfl (by decide+kernel)) (Oe (Ae 0)) (fun _ _ _=>(Ba 0 (show List.Nodup (["weight","m"]:List Str)by decide+kernel))) (fun _ _ _=>Hw) (fun _ _ _=>(Af Cz (Ae 0) (Ae 1)))) Ab)))),?_⟩
 done
 refine⟨⟨_,ha⟩,fun p1 hp1=>Kr (es:=p) (inj:=V.int) (fun e=> .int (e%m)) (Nat.le_trans (Nat.le_trans lp hl) (by decide)) hp1 (Wn ha) ?_ ?_⟩
 . intro e H2 R he s2 hR
   done
   exact⟨hm,hR _ (Same.refl _)⟩
 intro H2 s2 h2
 try done
 have em:p.map (fun e=>V.int (e%m))=(p.map (· %m)).map V.int:=by rw [List.map_map];rfl
 rw [em]at h2
 refine Ab6 (.of h2) (by rw [List.length_map];omega) fun z H3 s3 h3=>q _ _ (s2.trans s3) ⟨⟨z,rfl,h3⟩,Ck _,Nat.le_trans (Ov p m) lp,fun i=> ?_⟩
 rw [G8]
 exact Sv hm hk _
theorem Lj {H H1:Hp}{Q:VK}{E:XK}{x:V}{m:Int}{p:List Int}{l n k:Nat} (hx:Po K H1 x p l n) (s1:Same H1 H) (hl:l<=500) (hm:0<m) (hk:Sz k m) (h:∀z H',Same H H'->Po K H' z (md p m) l k->Q z H'):En K [x,.int m] H Q E:=⟨x,m,p,l,n,k,rfl,hx.mono s1,hl,hm,hk,h⟩
theorem Jg (g l:Int):Int.gcd l (g-g/l*l)=Int.gcd g l:=by
 rw [Int.gcd_sub_mul_right_right,Int.gcd_comm]
noncomputable def Aas (m g l x y:Int):Prop:=∃A B:Nat,((x=(A:Nat)/\y= -((B:Nat):Int))\/(x= -((A:Nat):Int)/\y=(B:Nat)))/\(B:Int)*g+(A:Int)*l=m
theorem Aas.next {m g l x y:Int} (h:Aas m g l x y) (hg:0<=g) (hl:0<l):Aas m l (g-g/l*l) y (x-g/l*y):=by
 obtain⟨A,B,h,e⟩:=h
 have q0:0<=g/l:=Int.ediv_nonneg hg (Int.le_of_lt hl)
 obtain⟨q,hq⟩:∃q:Nat,g/l=q:=⟨(g/l).toNat,by omega⟩
 rw [hq]
 refine⟨B,A+q*B,?_,?_⟩
 . rcases h with⟨rfl,rfl⟩ | ⟨rfl,rfl⟩
   . refine .inr ⟨rfl,?_⟩
     push_cast
     rw [Int.mul_neg]
     omega
   . refine .inl ⟨rfl,?_⟩
     push_cast
     omega
 . push_cast
   rw [<-e]
   grind
theorem Aas.here {m g l x y:Int} (h:Aas m g l x y) (hg:0<g) (hl:0<=l):y.natAbs<=m.natAbs:=by
 obtain⟨A,B,h,e⟩:=h
 have h1:(B:Int)*1<=(B:Int)*g:=Int.mul_le_mul_of_nonneg_left (by omega) (by omega)
 have h2:(0:Int)<=(A:Int)*l:=Int.mul_nonneg (by omega) hl
 rcases h with⟨_,rfl⟩ | ⟨_,rfl⟩<;>omega
noncomputable def Ga (K:PySem.W.Frag):Sp:=fun vs H Q E=>∃(a m:Int) (k:Nat),vs=[.int a,.int m]/\1<m/\Sz k m/\k<=8000/\(Int.gcd a m≠1->E (.ref (cA K "NoPart")) none H)/\(Int.gcd a m=1->∀r,0<=r->r<m->r*a%m=1->Q (.int r) H)
noncomputable def Iz (K:PySem.W.Frag):Sp:=fun vs H Q _=>∃(a m:Int) (k:Nat),vs=[.int a,.int m]/\1<m/\Sz k m/\k<=8000/\Int.gcd a m=1/\(∀r,0<=r->r<m->r*a%m=1->Q (.int r) H)
theorem Ky (K:PySem.W.Frag):∀vs H Q E,Iz K vs H Q E->Ga K vs H Q E0:=by
 rintro vs H Q E ⟨a,m,k,rfl,hm,hk,h8,hg,c⟩
 exact⟨a,m,k,rfl,hm,hk,h8,fun h=>(h hg).elim,fun _=>c⟩
theorem M7 {f:Addr}{fd:FuncData} (F:Df K mg "inverse_by" Hs ["number","m"] f fd)  (xk_NoPart:N5 K (cA K "NoPart")) (xm_NoPart:mg "NoPart"=some (.ref (cA K "NoPart")))  :Ny P w K mg base 33 "inverse_by" ["number","m"] (Ga K):=by
 refine F.calE (F.fn.okE Bw (fun vs H Q E h=> ?_) (fun cdv A outer s H vs Q E hr h=> ?_))
 . obtain⟨a,m,k,rfl,_⟩:=h
   rfl
 obtain⟨a,m,k,rfl,hm,hk,h8,kE,kQ⟩:=h
 refine Ay ⟨_,(Ad (Ai 2 Bw.nd (Ae 1))
  (Ad (Ai 3 Bw.nd (Af Cz (Ae 0) (Ae 1)))
  (Ad (Ai 4 Bw.nd Ac)
  (Ad (Ai 5 Bw.nd Ac)
  (Ad (N8 (Bs PassesOwn.never (Aj M8 (Ae 3) Ac (Az _)) (Ad (Ai 6 Bw.nd (Af Eb (Ae 2) (Ae 3)))
  (Ad (Hj (i:=2) (j:=3) rfl Bw.nd rfl rfl (by decide) rfl rfl (Aa (Ae 3) (Aa (Af Dw (Ae 2) (Af Cj (Ae 6) (Ae 3))) Ab)) rfl)
  (Ag (Hj (i:=4) (j:=5) rfl Bw.nd rfl rfl (by decide) rfl rfl (Aa (Ae 5) (Aa (Af Dw (Ae 4) (Af Cj (Ae 6) (Ae 5))) Ab)) rfl))))))
  (Ad (Bf (Aj M8 (Ae 2) Ac (Az _)) (Ag (Kq xk_NoPart xm_NoPart (Aa Cu Ab))) Ax)
  (Ag (Am (Af Cz (Ae 4) (Ae 1)))))))))),?_⟩
 done
 have m0:=Int.emod_nonneg a (by omega:m≠0)
 have m1:=Int.emod_lt_of_pos a (by omega:0<m)
 refine⟨by omega,?_⟩
 refine G4 (fun σ H'=>H'=H/\∃(g l x y:Int) (o:Option V),σ=[some (.int a),some (.int m),some (.int g),some (.int l),some (.int x),some (.int y),o]/\0<g/\g<=m/\0<=l/\l<=m/\Int.gcd g l=Int.gcd a m/\m∣x*a-g/\m∣y*a-l/\Aas m g l x y)
  (fun σ _=>match σ with | [_,_,_,some (.int l),_,_,_]=>l.toNat | _=>0) ⟨rfl,m,a%m,0,1,_,rfl,by omega,Int.le_refl _,m0,by omega,?_,⟨-1,by omega⟩,⟨a/m,?_⟩,⟨0,1,.inr ⟨rfl,rfl⟩,by simp⟩⟩ ?_
 . have e:a%m=a-a/m*m:=by
    have:=Int.mul_ediv_add_emod a m
    rw [Int.mul_comm]at this
    omega
   rw [e]
   exact Jg a m
 . have:=Int.mul_ediv_add_emod a m
   omega
 rintro σ H' ⟨rfl,g,l,x,y,o,rfl,g0,gm,l0,lm,hg,hx,hy,hS⟩
 done
 by_cases hl:l=0
 . rw [if_pos hl]
   subst hl
   have eg:((Int.gcd a m:Nat):Int)=g:=by
    rw [<-hg,Int.gcd_zero_right]
    omega
   try done
   by_cases h1:g=1
   . rw [if_pos h1]
     subst h1
     try done
     refine⟨by omega,kQ (by omega) _ (Int.emod_nonneg _ (by omega)) (Int.emod_lt_of_pos _ (by omega)) ?_⟩
     obtain⟨c,hc⟩:=hx
     have e:x%m*a=1+m*(c-x/m*a):=by
      have:=Int.mul_ediv_add_emod x m
      have e2:x%m=x-m*(x/m):=by omega
      rw [e2]
      grind
     rw [e,Int.add_mul_emod_self_left]
     exact Int.emod_eq_of_lt (by decide) hm
   . rw [if_neg h1]
     try done
     exact kE (by omega)
 . rw [if_neg hl]
   refine Q8 ?_
   try done
   have lp:0<l:=by omega
   have q0:0<=g/l:=Int.ediv_nonneg (by omega) l0
   have q1:g/l<=g:=Int.ediv_le_self _ (by omega)
   have zl:Sz k l:=hk.of_abs (by omega)
   have zq:Sz k (g/l):=hk.of_abs (by omega)
   have zy:Sz k y:=hk.of_abs (hS.here g0 l0)
   have e1:g-g/l*l=g%l:=by
    have:=Int.mul_ediv_add_emod g l
    rw [Int.mul_comm]at this
    omega
   have r0:=Int.emod_nonneg g hl
   have r1:=Int.emod_lt_of_pos g lp
   refine⟨⟨lp,zl.log2 hl (by omega)⟩,zq.mulOk zl (by omega),zq.mulOk zy (by omega),⟨_,_,_,_,_,rfl,lp,lm,by omega,by omega,(Jg g l).trans hg,hy,?_,hS.next (by omega) lp⟩,by omega⟩
   obtain⟨c,hc⟩:=hx
   obtain⟨d,hd⟩:=hy
   refine⟨c-g/l*d,?_⟩
   have ex:x*a=m*c+g:=by omega
   have ey:y*a=m*d+l:=by omega
   rw [Int.sub_mul,Int.mul_assoc,ex,ey]
   grind
noncomputable def MpR (K:PySem.W.Frag) (m:Int) (p q:List Int) (k:Nat) (Q:VK) (H:Hp):Prop:=∀(z:Addr) (H':Hp) (c d:V) (u r:List Int),Same H H'->SqT K H' z [c,d]->Po K H' c u p.length k->Po K H' d r p.length k->
 (∀i,m∣co p i-(mu u (co q) i+co r i))->r.length<q.length->(∀i,0<=co u i/\co u i<m)->(∀i,0<=co r i/\co r i<m)->Q (.ref z) H'
noncomputable def Hu (K:PySem.W.Frag):Sp:=fun vs H Q E=>∃(x y:V) (m:Int) (p q:List Int) (l l' n n' k:Nat),vs=[x,y,.int m]/\Po K H x p l n/\Po K H y q l' n'/\l<=100/\l'<=100/\n'<=100000/\1<m/\Sz k m/\k<=8000/\(q=[]\/Int.gcd (co q (q.length-1)) m≠1->∀H',Same H H'->E (.ref (cA K "NoPart")) none H')/\(q≠ []->Int.gcd (co q (q.length-1)) m=1->MpR K m p q k Q H)
theorem Qn {f:Addr}{fd:FuncData} (F:Df K mg "m_parted" Jk ["one","other","m"] f fd) (z_list:mg "list"=none) (z_range:mg "range"=none) (z_max:mg "max"=none) (z_len:mg "len"=none) (z_enumerate:mg "enumerate"=none) (xk_NoPart:N5 K (cA K "NoPart")) (xm_NoPart:mg "NoPart"=some (.ref (cA K "NoPart"))) (ce_inverse_by:Ny P w K mg base 33 "inverse_by" ["number","m"] (Ga K)) (c_by_number:Cal P w K mg base 34 "by_number" ["one","m"] (En K)) (c_poly:Cal P w K mg base 33 "poly" ["weights"] (Np K)) (c_degree:Cal P w K mg base 33 "degree" ["one"] (Ld K)):Ny P w K mg base 35 "m_parted" ["one","other","m"] (Hu K):=by
 refine F.calE (F.fn.okE Dk (fun vs H Q E h=> ?_) (fun cdv A outer s H vs Q E hr h=> ?_))
 . obtain⟨x,y,m,p,q,_,_,_,_,_,rfl,_⟩:=h
   rfl
 obtain⟨x,y,m,p,q,l,l',n,n',k,rfl,hx,hy,h15,h15',hn',hm,hk,h8,k0,kq⟩:=h
 have my:=hy.mem
 obtain⟨⟨a,rfl,ha⟩,tp,lp,zp⟩:=id hx
 obtain⟨⟨b,rfl,hb⟩,tq,lq,zq⟩:=id hy
 refine Ay ⟨_,(Ad (Bf (Aj (Fv hr.units) (Ae 1) (Av Ab) (Az _)) (Ag (Kq xk_NoPart xm_NoPart (Aa Cu Ab))) Ax)
  (Ad (Ai 3 Dk.nd (Ko ce_inverse_by (hr.mono (by decide)) (Aa (Aq Ef (Ae 1) (Dj Fz Ac) (fun _ _=>rfl)) (Aa (Ae 2) Ab))))
  (Ad (Ai 4 Dk.nd (Dz El rfl z_list PyProof.Rows.boot_list (Aa (Ak c_by_number hr (Aa (Ae 0) (Aa (Ae 2) Ab))) Ab)))
  (Ad (Ai 5 Dk.nd (Af Ma (Bv (Aa Ac Ab)) (Ar (Om rfl) rfl z_max PyProof.Rows.boot_max (Aa (Af Cm (Af Dw (Ar Al rfl z_len PySem.boot_len (Aa (Ae 4) Ab)) (Ar Al rfl z_len PySem.boot_len (Aa (Ae 1) Ab))) Ac) (Aa Ac Ab)))))
  (Ad (N8 (Cv PassesOwn.never rfl (Td rfl z_range (Aa (Af Dw (Ar Al rfl z_len PySem.boot_len (Aa (Ae 5) Ab)) Ac) (Aa (Dj Fz Ac) (Aa (Dj Fz Ac) Ab)))) (Ba 6 Dk.nd) (Ad (Ai 7 Dk.nd (Af Cz (Af Cj (Aq Bh (Ae 4) (Af Cm (Ae 6) (Ak c_degree hr (Aa (Ae 1) Ab))) (fun _ _=>rfl)) (Ae 3)) (Ae 2)))
  (Ad (Ea (Ae 7) (Fl (Ae 5) (Ae 6) set_list))
  (Ag (Bf (Aj M8 (Ae 7) Ac (Az _)) (Ag (Cv PassesOwn.never rfl (Mq rfl z_enumerate (Aa (Ae 1) Ab)) (Gd rfl (Bd (Ba 8 Dk.nd) (Bd (Ba 9 Dk.nd) Fb))) (Ag (Ea (Af Cz (Af Dw (Aq Bh (Ae 4) (Af Cm (Ae 6) (Ae 8)) (fun _ _=>rfl)) (Af Cj (Ae 7) (Ae 9))) (Ae 2)) (Fl (Ae 4) (Af Cm (Ae 6) (Ae 8)) set_list))))) Ax))))))
  (Ag (Am (Av (Aa (Ak c_poly hr (Aa (Ae 5) Ab)) (Aa (Ak c_poly hr (Aa (Ae 4) Ab)) Ab)))))))))),?_⟩
 refine Bm (fun σ' H'=>Same H H'/\q≠ []/\σ'=[some (.ref a),some (.ref b),some (.int m),none,none,none,none,none,none,none]) (fun N hN=> ?_) ?_
 . done
   refine⟨by decide,fun e0 he0=> ?_⟩
   have se:=Same.upd he0 (.tup [])
   refine Bk (ms:=[]) (se.tup hb) (.of Ah) ?_
   try done
   split
   . rename_i h
     exact k0 (.inl h) _ se
   . rename_i h
     exact hN _ _ ⟨se,h,rfl⟩
 rintro σ H1 ⟨s1,hq,rfl⟩
 have hql:0<q.length:=List.length_pos_iff.mpr hq
 have sz5:1000<=sizeLine:=by decide
 refine Bm (fun σ' H'=>H'=H1/\Int.gcd (co q (q.length-1)) m=1/\∃iv:Int,σ'=[some (.ref a),some (.ref b),some (.int m),some (.int iv),none,none,none,none,none,none]/\0<=iv/\iv<m/\iv*co q (q.length-1)%m=1) (fun N hN=> ?_) ?_
 . done
   refine Gk (s1.tup hb) (Ep hq) ?_
   try done
   exact⟨_,m,k,rfl,hm,hk,h8,fun hg=>k0 (.inr hg) _ s1,fun hg r r0 r1 hr=>hN _ _ ⟨rfl,hg,r,rfl,r0,r1,hr⟩⟩
 rintro σ H2 ⟨rfl,hg,iv,rfl,iv0,iv1,hiv⟩
 replace kq:=kq hq hg
 refine Bm (fun σ' H'=>Same H H'/\∃cr,σ'=[some (.ref a),some (.ref b),some (.int m),some (.int iv),some (.ref cr),none,none,none,none,none]/\H cr=none/\H' cr=some (.lst ((md p m).map V.int))) (fun N hN=> ?_) ?_
 . done
   refine Lj hx s1 (by omega) (by omega) hk fun z H3 s3 i3=> ?_
   obtain⟨⟨c,rfl,hc⟩,_⟩:=i3
   try done
   exact⟨c,_,rfl,.inr hc,fun cr hcr=>hN _ _ ⟨(s1.trans s3).trans (Same.upd hcr _),cr,rfl,Same.free (s1.trans s3) hcr,Ah⟩⟩
 rintro σ H3 ⟨s3,cr,rfl,nr,hcr⟩
 obtain⟨L,hL⟩:∃L,L=(md p m).length+1-q.length:=⟨_,rfl⟩
 have lmd:=Ov p m
 have eL:(if(0:Int)>((md p m).length:Int)-(q.length:Int)+1 then(0:Int)else((md p m).length:Int)-(q.length:Int)+1)=(L:Int):=by
  subst hL
  split<;>omega
 refine Bm (fun σ' H'=>Same H H'/\∃cq,σ'=[some (.ref a),some (.ref b),some (.int m),some (.int iv),some (.ref cr),some (.ref cq),none,none,none,none]/\H cq=none/\cq≠cr/\H' cq=some (.lst ((List.replicate L (0:Int)).map V.int))/\H' cr=some (.lst ((md p m).map V.int))) (fun N hN=> ?_) ?_
 . done
   intro p3 hp3
   have t3:=Same.upd hp3 (.lst [V.int 0])
   have u3:=s3.trans t3
   refine⟨cr,_,rfl,.inl (.of (t3 _ _ hcr)),b,_,rfl,.inr (u3.tup hb),?_⟩
   repeat (first | done | simp only [List.length_map,eL])
   refine⟨p3,_,[V.int 0],rfl,rfl,Ah,by omega,by omega,by simp only [Int.toNat_natCast,List.length_cons,List.length_nil];omega,fun cq hcq=> ?_⟩
   rw [Int.toNat_natCast,Hq]
   have t4:=t3.trans (Same.upd hcq (.lst ((List.replicate L (0:Int)).map V.int)))
   exact hN _ _ ⟨s3.trans t4,cq,rfl,Same.free u3 hcq,Ne.symm (Bj (t3 _ _ hcr) hcq),Ah,t4 _ _ hcr⟩
 clear hcr s3
 rintro σ H4 ⟨s4,cq,rfl,nq,ne,hcq,hcr⟩
 have hm0:0<m:=by omega
 refine Bm (fun σ' H'=>Same H H'/\∃(qs rs:List Int) (o6 o7 o8 o9:Option V),σ'=[some (.ref a),some (.ref b),some (.int m),some (.int iv),some (.ref cr),some (.ref cq),o6,o7,o8,o9]/\H' cq=some (.lst (qs.map V.int))/\H' cr=some (.lst (rs.map V.int))/\qs.length=L/\rs.length=(md p m).length/\MV m p q qs rs 0) (fun N hN=> ?_) ?_
 . rw [T9]
   done
   refine⟨cq,_,rfl,.inl (.of hcq),?_⟩
   try done
   rw [List.length_map,List.length_replicate]
   refine⟨by omega,?_⟩
   refine Aa7 L (fun i=> .int ((L:Int)-1-(i:Nat))) (fun i σ' H'=>Same H H'/\∃(qs rs:List Int) (o6 o7 o8 o9:Option V),σ'=[some (.ref a),some (.ref b),some (.int m),some (.int iv),some (.ref cr),some (.ref cq),o6,o7,o8,o9]/\H' cq=some (.lst (qs.map V.int))/\H' cr=some (.lst (rs.map V.int))/\qs.length=L/\rs.length=(md p m).length/\MV m p q qs rs (L-i)) ?_ ?_ ?_ ?_
   . refine⟨s4,_,_,_,_,_,_,rfl,hcq,hcr,List.length_replicate,rfl,?_⟩
     rw [hL,Nat.sub_zero]
     refine MV.start hm0 hq (fun t=> ?_) fun t=> ?_
     . rw [G8]
       exact⟨co p t/m,by have:=Int.mul_ediv_add_emod (co p t) m;omega⟩
     . rw [G8]
       exact⟨Int.emod_nonneg _ (by omega),Int.emod_lt_of_pos _ hm0⟩
   . intro i σ' H' _
     have e:((L:Int)-1- -1).toNat=L:=by omega
     rw [e]
     exact Wi
   . clear hcq hcr s4
     rintro i σ' H5 hi ⟨s5,qs,rs,o6,o7,o8,o9,rfl,hcq,hcr,hlq,hlr,dv⟩
     obtain⟨j,hj⟩:∃j:Nat,j+1=L-i:=⟨L-i-1,by omega⟩
     have pj:(L:Int)-1-(i:Nat)=(j:Int):=by omega
     rw [<-hj]at dv
     rw [Ra,pj]
     simp only [List.set_cons_succ,List.set_cons_zero]
     obtain⟨d,hd⟩:∃d,d+1=q.length:=⟨q.length-1,by omega⟩
     have hd':q.length-1=d:=by omega
     have hjd:j+d<rs.length:=by omega
     have hjq:j<qs.length:=by omega
     have ix:(j:Int)+((q.length:Int)-1)=((j+d:Nat):Int):=by omega
     have er:rs[j+d]=co rs (j+d):=(Bt hjd).symm
     rw [hd']at hiv
     have zr:Sz k (co rs (j+d)):=hk.of_abs (by have:=dv.rr (j+d);omega)
     have ziv:Sz k iv:=hk.of_abs (by omega)
     obtain⟨fc,hfc⟩:∃fc,fc=co rs (j+d)*iv%m:=⟨_,rfl⟩
     have f0:0<=fc:=by rw [hfc];exact Int.emod_nonneg _ (by omega)
     have f1:fc<m:=by rw [hfc];exact Int.emod_lt_of_pos _ hm0
     have zf:Sz k fc:=hk.of_abs (by omega)
     have ef:m∣co rs (j+d)-fc*co q d:=by rw [hfc];exact Rt hiv hm
     refine Bm (fun σ' H'=>H'=H5/\σ'=[some (.ref a),some (.ref b),some (.int m),some (.int iv),some (.ref cr),some (.ref cq),some (.int j),some (.int fc),o8,o9]) (fun N hN=> ?_) ?_
     . done
       refine Xy hy s5 ?_
       repeat (first | done | simp only [ix])
       refine Jb (.of hcr) (Dp hjd) ?_
       try done
       rw [er,<-hfc]
       exact⟨zr.mulOk ziv (by omega),hm0,hN _ _ ⟨rfl,rfl⟩⟩
     rintro σ' H6 ⟨rfl,rfl⟩
     refine Bm (fun σ' H'=>Same H H'/\σ'=[some (.ref a),some (.ref b),some (.int m),some (.int iv),some (.ref cr),some (.ref cq),some (.int j),some (.int fc),o8,o9]/\H' cq=some (.lst ((qs.set j fc).map V.int))/\H' cr=some (.lst (rs.map V.int))) (fun N hN=> ?_) ?_
     . done
       refine Tn hcq (by rw [List.length_map];exact hjq) ?_
       rw [Gz]
       exact hN _ _ ⟨s5.put nq,rfl,Ah,by rw [Bb (Ne.symm ne)];exact hcr⟩
     clear hcq hcr s5
     rintro σ' H8 ⟨s5,rfl,hcq,hcr⟩
     have fin:∀(rs':List Int) (o8 o9:Option V) (H9:Hp),Same H H9->H9 cq=some (.lst ((qs.set j fc).map V.int))->H9 cr=some (.lst (rs'.map V.int))->rs'.length=rs.length->(∀k,co rs' k=(co rs k-(if j<=k then fc*co q (k-j)else 0))%m)->
      Same H H9/\∃(qs' rs'':List Int) (u6 u7 u8 u9:Option V),[some (V.ref a),some (.ref b),some (.int m),some (.int iv),some (.ref cr),some (.ref cq),some (.int j),some (.int fc),o8,o9]=[some (.ref a),some (.ref b),some (.int m),some (.int iv),some (.ref cr),some (.ref cq),u6,u7,u8,u9]/\H9 cq=some (.lst (qs'.map V.int))/\H9 cr=some (.lst (rs''.map V.int))/\qs'.length=L/\rs''.length=(md p m).length/\MV m p q qs' rs'' (L-(i+1)):=by
      intro rs' o8 o9 H9 s9 h1 h2 hl2 hco
      refine⟨s9,_,rs',_,_,_,_,rfl,h1,h2,by rw [List.length_set];exact hlq,by omega,?_⟩
      rw [show L-(i+1)=j by omega]
      exact dv.step hm0 hq hjq f0 f1 (by rw [hd'];exact ef) hco
     done
     split
     . rename_i h0
       refine fin rs _ _ _ s5 hcq hcr rfl fun t=> ?_
       rw [h0]
       have:=dv.rr t
       rw [show(if j<=t then 0*co q (t-j)else 0)=0 by split<;>simp,Int.sub_zero,Int.emod_eq_of_lt this.1 this.2]
     . refine⟨⟨_,s5.tup hb⟩,Zk (es:=q) (inj:=V.int) (fun pre σ' H'=>Same H H'/\∃(u8 u9:Option V) (ms:List Int),σ'=[some (.ref a),some (.ref b),some (.int m),some (.int iv),some (.ref cr),some (.ref cq),some (.int j),some (.int fc),u8,u9]/\H' cq=some (.lst ((qs.set j fc).map V.int))/\H' cr=some (.lst (ms.map V.int))/\ms.length=rs.length/\∀t,co ms t=(co rs t-(if j<=t then fc*co pre (t-j)else 0))%m) ⟨s5,_,_,rs,rfl,hcq,hcr,rfl,fun t=> ?_⟩ ?_ ?_ ?_⟩
       . have:=dv.rr t
         rw [Br,show(if j<=t then fc*0 else 0)=0 by split<;>simp,Int.sub_zero,Int.emod_eq_of_lt this.1 this.2]
       . rintro pre σ' H' ⟨s9,_⟩
         exact s9.tup hb
       . rintro pre e post σ' H9 p1 he ⟨s9,u8,u9,ms,rfl,h1,h2,hlm,hco⟩ hp1
         refine Rq (.of Ah) ?_
         have hlen:=congrArg List.length he
         rw [List.length_append,List.length_cons]at hlen
         have hjj:j+pre.length<ms.length:=by omega
         have s10:=Same.upd hp1 (.tup [V.int (pre.length:Nat),V.int e])
         have h1':=s10 _ _ h1
         have h2':=s10 _ _ h2
         have ze:Sz n' e:=my e (by rw [he];simp)
         repeat (first | done | simp only [<-Int.natCast_add])
         refine Jb (.of h2') (Dp hjj) ?_
         try done
         refine⟨zf.mulOk ze (by omega),hm0,?_⟩
         refine Tn h2' (by rw [List.length_map];exact hjj) ?_
         try done
         rw [Gz]
         refine⟨(s9.trans s10).put nr,_,_,ms.set (j+pre.length) ((ms[j+pre.length]-fc*e)%m),rfl,by rw [Bb ne];exact h1',Ah,by rw [List.length_set];exact hlm,fun t=> ?_⟩
         rw [Ks _ _ _ hjj,Gs,hco t]
         by_cases ht:t=j+pre.length
         . subst ht
           rw [if_pos rfl,if_pos (by omega),if_pos (by omega),<-Bt hjj,hco,if_pos (by omega),show j+pre.length-j=pre.length by omega,Bp (p:=pre) (Nat.le_refl _),Int.mul_zero,Int.sub_zero,Int.emod_sub_emod]
         . rw [if_neg ht]
           by_cases hjt:j<=t
           . rw [if_pos hjt,if_pos hjt,if_neg (by omega)]
           . rw [if_neg hjt,if_neg hjt]
       . rintro σ' H9 ⟨s9,u8,u9,ms,rfl,h1,h2,hlm,hco⟩
         exact fin ms u8 u9 H9 s9 h1 h2 hlm hco
   . rintro σ' H5 ⟨s5,qs,rs,o6,o7,o8,o9,rfl,hcq,hcr,hlq,hlr,dv⟩
     rw [Nat.sub_self]at dv
     exact hN _ _ ⟨s5,qs,rs,o6,o7,o8,o9,rfl,hcq,hcr,hlq,hlr,dv⟩
 rintro σ H5 ⟨s5,qs,rs,o6,o7,o8,o9,rfl,hcq,hcr,hlq,hlr,dv⟩
 done
 refine⟨cq,qs,rfl,.inl (.of hcq),by omega,fun z1 H6 s6 h6=> ?_⟩
 try done
 refine⟨cr,rs,rfl,.inl (.of (s6 _ _ hcr)),by omega,fun z2 H7 s7 h7=> ?_⟩
 try done
 intro z hz
 have s8:=Same.upd hz (.tup [V.ref z1,V.ref z2])
 have csz:∀(x:List Int),(∀t,0<=co x t/\co x t<m)->∀t,Sz k (co (trim x) t):=fun x hx t=>by
  rw [Bg]
  exact hk.of_abs (by have:=hx t;omega)
 have t1:=Kd qs
 have t2:=Kd rs
 refine kq z _ (.ref z1) (.ref z2) (trim qs) (trim rs) (((s5.trans s6).trans s7).trans s8) (.of Ah) ⟨⟨z1,rfl,s8.tup (s7.tup h6)⟩,Ck _,by omega,csz qs dv.rq⟩ ⟨⟨z2,rfl,s8.tup h7⟩,Ck _,by omega,csz rs dv.rr⟩ (fun t=> ?_) ?_ (fun t=>by rw [Bg];exact dv.rq t) (fun t=>by rw [Bg];exact dv.rr t)
 . rw [Ce (co q) (trim qs) qs fun i=>Bg qs i,Bg]
   exact dv.eq t
 . have:(trim rs).length<=q.length-1:=by
    have h:=(Ck rs).len (q:=rs.take (q.length-1)) fun t=>by
     rw [Bg,Ku]
     split
     . rfl
     . exact dv.top t (by omega)
    rw [List.length_take]at h
    omega
   omega
noncomputable def MrR (K:PySem.W.Frag) (m:Int) (p q:List Int) (k:Nat) (Q:VK) (H:Hp):Prop:=∀(d:V) (H':Hp) (u r:List Int),Same H H'->Po K H' d r p.length k->(∀i,m∣co p i-(mu u (co q) i+co r i))->r.length<q.length->(∀i,0<=co r i/\co r i<m)->Q d H'
noncomputable def Jr (K:PySem.W.Frag):Sp:=fun vs H Q E=>∃(x y:V) (m:Int) (p q:List Int) (l l' n n' k:Nat),vs=[x,y,.int m]/\Po K H x p l n/\Po K H y q l' n'/\l<=100/\l'<=100/\n'<=100000/\1<m/\Sz k m/\k<=8000/\(q=[]\/Int.gcd (co q (q.length-1)) m≠1->∀H',Same H H'->E (.ref (cA K "NoPart")) none H')/\(q≠ []->Int.gcd (co q (q.length-1)) m=1->MrR K m p q k Q H)
noncomputable def Le (K:PySem.W.Frag):Sp:=fun vs H Q _=>∃(x y:V) (m:Int) (p q:List Int) (l l' n n' k:Nat),vs=[x,y,.int m]/\Po K H x p l n/\Po K H y q l' n'/\l<=100/\l'<=100/\n'<=100000/\1<m/\Sz k m/\k<=8000/\q≠ []/\Int.gcd (co q (q.length-1)) m=1/\MrR K m p q k Q H
theorem Qk (K:PySem.W.Frag):∀vs H Q E,Le K vs H Q E->Jr K vs H Q E0:=by
 rintro vs H Q E ⟨x,y,m,p,q,l,l',n,n',k,rfl,hx,hy,h1,h2,h4,hm,hk,h8,hq,hg,c⟩
 exact⟨x,y,m,p,q,l,l',n,n',k,rfl,hx,hy,h1,h2,h4,hm,hk,h8,fun z=>by
  rcases z with z | z
  . exact(hq z).elim
  . exact(z hg).elim,fun _ _=>c⟩
theorem Vm {f:Addr}{fd:FuncData} (F:Df K mg "m_rest" Nh ["one","other","m"] f fd)   (ce_m_parted:Ny P w K mg base 35 "m_parted" ["one","other","m"] (Hu K)):Ny P w K mg base 36 "m_rest" ["one","other","m"] (Jr K):=by
 refine F.calE (F.fn.okE V8 (fun vs H Q E h=> ?_) (fun cdv A outer s H vs Q E hr h=> ?_))
 . obtain⟨x,y,m,p,q,_,_,_,_,_,rfl,_⟩:=h
   rfl
 obtain⟨x,y,m,p,q,l,l',n,n',k,rfl,hx,hy,h1,h2,h4,hm,hk,h8,e,c⟩:=h
 refine Ay ⟨_,(Ag (Am (Aq Ef (Ko ce_m_parted (hr.mono (by decide)) (Aa (Ae 0) (Aa (Ae 1) (Aa (Ae 2) Ab)))) Ac (fun _ _=>rfl)))),?_⟩
 done
 refine⟨x,y,m,p,q,l,l',n,n',k,rfl,hx,hy,h1,h2,h4,hm,hk,h8,e,fun hq hg z H' a b u r s1 hz iu ir he hl ru rr=> ?_⟩
 exact Gk hz (at1 _ _ _) (c hq hg b H' u r s1 ir he hl rr)
theorem Qj {t x:Int} (ht:Pr t) (h0:0<=x) (h1:x<t) (hx:x≠0):Int.gcd x t=1:=ht.2 x fun z=>by
 have:=Int.le_of_dvd (by omega) z
 omega
theorem Uv (t:Int) (p:List Int) (d:List Int):Dm t d (md p t)↔Dm t d p:=by
 have e:∀i,t∣co (md p t) i-co p i:=fun i=>by
  rw [G8]
  exact⟨-(co p i/t),by have:=Int.mul_ediv_add_emod (co p i) t;rw [Int.mul_neg];omega⟩
 exact⟨fun h=>h.congr fun i=>Mv (e i),fun h=>h.congr e⟩
theorem Rx {t:Int} (ht:0<t) (p:List Int) (i:Nat):0<=co (md p t) i/\co (md p t) i<t:=by
 rw [G8]
 exact⟨Int.emod_nonneg _ (by omega),Int.emod_lt_of_pos _ ht⟩
structure Sgl (t:Int) (p g:List Int):Prop where
 tr:Tr g
 rng:∀i,0<=co g i/\co g i<t
 dm:∀d,Dm t d g↔Dm t d p
 len:g.length=(md p t).length
 one:g≠ []->co g (g.length-1)=1
theorem Wb {t:Int} (ht:0<t) {p:List Int} (h:md p t=[]):Sgl t p []:=⟨.inl rfl,fun i=>by rw [Br];omega,fun d=>by rw [<-Uv t p d,h],by rw [h],fun z=>(z rfl).elim⟩
theorem Y0 {t k:Int} (ht:Pr t) {p:List Int} (h:md p t≠ []) (hk:k*co (md p t) ((md p t).length-1)%t=1):Sgl t p (md (ng (md p t) k) t):=by
 have t0:0<t:=by have:=ht.1;omega
 have c:∀i,co (md (ng (md p t) k) t) i=co (md p t) i*k%t:=fun i=>by rw [G8,Vj]
 have hl:=List.length_pos_iff.mpr h
 have top:co (md (ng (md p t) k) t) ((md p t).length-1)=1:=by rw [c,Int.mul_comm];exact hk
 have len:(md (ng (md p t) k) t).length=(md p t).length:=by
  refine Nat.le_antisymm ?_ ?_
  . refine Nat.le_of_not_lt fun z=> ?_
    have ne:md (ng (md p t) k) t≠ []:=fun y=>by rw [y]at z;exact absurd z (by simp)
    have:=(Ln (ng (md p t) k) t).lead ne
    rw [c,Bp (by omega)]at this
    simp at this
  . refine Nat.le_of_not_lt fun z=> ?_
    rw [Bp (by omega)]at top
    cases top
 refine⟨Ln _ _,Rx t0 _,fun d=> ?_,len,fun _=>by rw [len];exact top⟩
 constructor
 . intro hd
   rw [<-Uv t p d]
   refine hd.by (k:=co (md p t) ((md p t).length-1)) fun i=> ?_
   rw [c]
   have e1:=Int.mul_ediv_add_emod (co (md p t) i*k) t
   have e2:=Int.mul_ediv_add_emod (k*co (md p t) ((md p t).length-1)) t
   rw [hk]at e2
   generalize co (md p t) ((md p t).length-1)=l at*
   generalize co (md p t) i=x at*
   refine⟨l*(x*k/t)-x*(k*l/t),?_⟩
   have e3:x*k%t=x*k-t*(x*k/t):=by omega
   rw [e3]
   have e4:l*(x*k)=x*(t*(k*l/t)+1):=by rw [e2];grind
   have:l*(x*k-t*(x*k/t))=l*(x*k)-t*(l*(x*k/t)):=by grind
   rw [this,e4]
   grind
 . intro hd
   rw [<-Uv t p d]at hd
   refine hd.by (k:=k) fun i=> ?_
   rw [c,Int.mul_comm]
   exact⟨-(k*co (md p t) i/t),by have:=Int.mul_ediv_add_emod (k*co (md p t) i) t;rw [Int.mul_neg];omega⟩
noncomputable def Ja (K:PySem.W.Frag):Sp:=fun vs H Q _=>∃(x:V) (t:Int) (p:List Int) (l n k:Nat),vs=[x,.int t]/\Po K H x p l n/\l<=100/\Pr t/\Sz k t/\k<=8000/\∀(d:V) (H':Hp) (g:List Int),Same H H'->Po K H' d g l k->Sgl t p g->Q d H'
theorem Vq {f:Addr}{fd:FuncData} (F:Df K mg "single" Nk ["one","t"] f fd)   (c_by_number:Cal P w K mg base 34 "by_number" ["one","m"] (En K)) (c_scaled:Cal P w K mg base 33 "scaled" ["one","factor"] (Pn K)) (c_inverse_by:Cal P w K mg base 33 "inverse_by" ["number","m"] (Iz K)):Cal P w K mg base 35 "single" ["one","t"] (Ja K):=by
 refine F.cal (F.fn.ok Pj (fun vs H Q E h=> ?_) (fun cdv A outer s H vs Q E hr h=> ?_))
 . obtain⟨x,t,p,_,_,_,rfl,_⟩:=h
   rfl
 obtain⟨x,t,p,l,n,k,rfl,hx,hl,ht,hk,h8,c⟩:=h
 have t0:0<t:=by have:=ht.1;omega
 refine Ay ⟨_,(Ad (Ai 2 Pj.nd (Ak c_by_number hr (Aa (Ae 0) (Aa (Ae 1) Ab))))
  (Ad (Bf (Aj (Fv hr.units) (Ae 2) (Av Ab) (Az _)) (Ag (Am (Av Ab))) Ax)
  (Ag (Am (Ak c_by_number hr (Aa (Ak c_scaled hr (Aa (Ae 2) (Aa (Ak c_inverse_by hr (Aa (Aq Ef (Ae 2) (Dj Fz Ac) (fun _ _=>rfl)) (Aa (Ae 1) Ab))) Ab))) (Aa (Ae 1) Ab))))))),?_⟩
 done
 refine Lj hx (Same.refl _) (by omega) t0 hk fun z H1 s1 i1=> ?_
 try done
 refine⟨by decide,fun e0 he0=> ?_⟩
 have se:=Same.upd he0 (.tup [])
 obtain⟨⟨a,rfl,ha⟩,tm',lm,zm⟩:=id i1
 refine Bk (ms:=[]) (se.tup ha) (.of Ah) ?_
 try done
 split
 . rename_i h
   refine⟨by decide,fun e1 he1=> ?_⟩
   exact c _ _ [] ((s1.trans se).trans (Same.upd he1 _)) ⟨⟨e1,rfl,.of Ah⟩,.inl rfl,Nat.zero_le _,fun i=>by rw [Br];exact hk.of_abs (by simp)⟩ (Wb t0 h)
 . rename_i h
   refine Gk (se.tup ha) (Ep h) ?_
   try done
   have r:=Rx t0 p ((md p t).length-1)
   refine⟨_,t,k,rfl,ht.1,hk,h8,Qj ht r.1 r.2 (tm'.lead h),fun iv iv0 iv1 hiv=> ?_⟩
   try done
   refine⟨_,iv,_,l,k,k,rfl,i1.mono se,hk.of_abs (by omega),by omega,by omega,fun w H2 s2 i2=> ?_⟩
   try done
   exact Lj i2 (Same.refl _) (by omega) t0 hk fun v H3 s3 i3=>c v H3 _ (((s1.trans se).trans s2).trans s3) i3 (Y0 ht h hiv)
noncomputable def Im (K:PySem.W.Frag):Sp:=fun vs H Q _=>∃(x y:V) (t:Int) (p q:List Int) (l l' n n' k:Nat),vs=[x,y,.int t]/\Po K H x p l n/\Po K H y q l' n'/\l<=100/\l'<=100/\Pr t/\Sz k t/\k<=8000/\∀(d:V) (H':Hp) (f g:List Int),Same H H'->Po K H' d g (max l l') k->Sgl t f g->N7 t f [] p q->Q d H'
theorem Qo {f:Addr}{fd:FuncData} (F:Df K mg "m_shared" Jl ["one","other","t"] f fd)   (c_by_number:Cal P w K mg base 34 "by_number" ["one","m"] (En K)) (c_single:Cal P w K mg base 35 "single" ["one","t"] (Ja K)) (c_m_rest:Cal P w K mg base 36 "m_rest" ["one","other","m"] (Le K)):Cal P w K mg base 37 "m_shared" ["one","other","t"] (Im K):=by
 refine F.cal (F.fn.ok Gy (fun vs H Q E h=> ?_) (fun cdv A outer s H vs Q E hr h=> ?_))
 . obtain⟨x,y,t,p,q,_,_,_,_,_,rfl,_⟩:=h
   rfl
 obtain⟨x,y,t,p,q,l,l',n,n',k,rfl,hx,hy,hl,hl',ht,hk,h8,c⟩:=h
 have t0:0<t:=by have:=ht.1;omega
 refine Ay ⟨_,(Ad (Ai 3 Gy.nd (Ak c_by_number hr (Aa (Ae 0) (Aa (Ae 2) Ab))))
  (Ad (Ai 4 Gy.nd (Ak c_by_number hr (Aa (Ae 1) (Aa (Ae 2) Ab))))
  (Ad (Bs PassesOwn.never (Aj (Lz hr.units) (Ae 4) (Av Ab) (Az _)) (Ag (Hj (i:=3) (j:=4) rfl Gy.nd rfl rfl (by decide) rfl rfl (Aa (Ae 4) (Aa (Ak c_m_rest hr (Aa (Ae 3) (Aa (Ae 4) (Aa (Ae 2) Ab)))) Ab)) rfl)))
  (Ag (Am (Ak c_single hr (Aa (Ae 3) (Aa (Ae 2) Ab)))))))),?_⟩
 done
 refine Lj hx (Same.refl _) (by omega) t0 hk fun z1 H1 s1 i1=> ?_
 try done
 refine Lj hy s1 (by omega) t0 hk fun z2 H2 s2 i2=> ?_
 try done
 refine Nv (fun m σ H'=>Same H H'/\∃(v w:V) (f g:List Int),σ=[some x,some y,some (.int t),some v,some w]/\m=g.length/\Po K H' v f (max l l') k/\Po K H' w g (max l l') k/\(∀i,0<=co g i/\co g i<t)/\N7 t f g p q) _
  ⟨s1.trans s2,z1,z2,_,_,rfl,rfl,⟨(i1.mono s2).1,i1.2.1,Nat.le_trans i1.2.2.1 (Nat.le_max_left ..),i1.2.2.2⟩,⟨i2.1,i2.2.1,Nat.le_trans i2.2.2.1 (Nat.le_max_right ..),i2.2.2.2⟩,Rx t0 q,fun d=>by rw [Uv,Uv]⟩ ?_
 rintro m σ H' ⟨s3,v,w,f,g,rfl,rfl,iv,iw,rg,sm⟩
 done
 refine⟨by decide,fun e0 he0=> ?_⟩
 have se:=Same.upd he0 (.tup [])
 obtain⟨⟨b,rfl,hb⟩,tg,lg,zg⟩:=id iw
 refine Bk (ms:=[]) (se.tup hb) (.of Ah) ?_
 try done
 by_cases hg:g=[]
 . rw [if_pos hg]
   subst hg
   try done
   exact⟨v,t,f,max l l',k,k,rfl,iv.mono se,by omega,ht,hk,h8,fun d H4 g s4 i4 hs=>c d H4 f g ((s3.trans se).trans s4) i4 hs sm⟩
 . rw [if_neg hg]
   refine X3 ?_
   try done
   have r:=rg (g.length-1)
   refine⟨v,.ref b,t,f,g,_,_,_,_,k,rfl,iv.mono se,iw.mono se,by omega,by omega,by omega,ht.1,hk,h8,hg,Qj ht r.1 r.2 (tg.lead hg),fun d H4 u r s4 i4 he hlr rr=> ?_⟩
   try done
   refine⟨r.length,hlr,(s3.trans se).trans s4,.ref b,d,g,r,rfl,rfl,iw.mono (se.trans s4),⟨i4.1,i4.2.1,Nat.le_trans (Nat.le_of_lt hlr) lg,i4.2.2.2⟩,rr,fun e=>(Mg he e).trans (sm e)⟩
noncomputable def Li (_:PySem.W.Frag) (av:Addr) (spF:Sp):Sp:=fun vs H Q _=>∃(x0 x:V) (m:Nat) (R:Nat->V->Hp->Prop),vs=[x0,x,.int (m:Nat),.ref av]/\R 0 x0 H/\R 1 x H/\(∀n v H1 H2,Same H1 H2->R n v H1->R n v H2)/\(∀a b x y H1 Q',R a x H1->R b y H1->(∀z H2,Same H1 H2->R (a+b) z H2->Q' z H2)->spF [x,y] H1 Q' E0)/\∀z H',Same H H'->R m z H'->Q z H'
theorem Qs {av:Addr}{spF:Sp}{pv:List Str}{f:Addr}{fd:FuncData} (F:Df K mg "repeated" Hx ["start","one","many","product"] f fd) (cv:Aar P w K mg base 37 av pv spF):Cal P w K mg base 38 "repeated" ["start","one","many","product"] (Li K av spF):=by
 refine F.cal (F.fn.ok Ds (fun vs H Q E h=> ?_) (fun cdv A outer s H vs Q E hr h=> ?_))
 . obtain⟨x0,x,m,R,rfl,_⟩:=h
   rfl
 obtain⟨x0,x,m,R,rfl,r0,r1,rk,rm,k⟩:=h
 refine Ay ⟨_,(Ad (Ai 4 Ds.nd (Ae 0))
  (Ad (Ai 5 Ds.nd (Ae 1))
  (Ad (Ai 6 Ds.nd (Ae 2))
  (Ad (Bs PassesOwn.never (Aj O5 (Ae 6) Ac (Az _)) (Ad (Bf (Aj Lp (Af Cz (Ae 6) Ac) Ac (Az _)) (Ag (Ai 4 Ds.nd (Rj cv (hr.mono (by decide)) (Ae 3) (Aa (Ae 4) (Aa (Ae 5) Ab))))) Ax)
  (Ad (Ai 6 Ds.nd (Af Eb (Ae 6) Ac))
  (Ag (Bf (Aj O5 (Ae 6) Ac (Az _)) (Ag (Ai 5 Ds.nd (Rj cv (hr.mono (by decide)) (Ae 3) (Aa (Ae 5) (Aa (Ae 5) Ab))))) Ax)))))
  (Ag (Am (Ae 4))))))),?_⟩
 done
 refine G4 (fun σ H'=>∃(zp zs:V) (a b t:Nat),σ=[some x0,some x,some (.int (m:Nat)),some (.ref av),some zp,some zs,some (.int (t:Nat))]/\Same H H'/\R a zp H'/\R b zs H'/\a+b*t=m)
  (fun σ _=>match σ with | [_,_,_,_,_,_,some (.int t)]=>t.toNat | _=>0) ⟨_,_,0,1,m,rfl,Same.refl H,r0,r1,by omega⟩ ?_
 rintro σ H' ⟨yp,ys,a,b,t,rfl,s1,ia,ib,hab⟩
 done
 by_cases ht:(0:Int)<(t:Nat)
 . rw [if_pos ht]
   refine Q8 ?_
   done
   refine⟨by decide,?_⟩
   have d2:((t:Nat):Int)/2=((t/2:Nat):Int):=by omega
   have step:∀(H2:Hp) (z:V) (a':Nat),Same H' H2->R a' z H2->a'+2*b*(t/2)=m->
    Aau (t:Nat) 2/\(if(0:Int)<((t:Nat):Int)/2 then spF [ys,ys] H2 (fun w H3=>(∃(zp zs:V) (a b u:Nat),[some x0,some x,some (.int (m:Nat)),some (.ref av),some z,some w,some (.int (((t:Nat):Int)/2))]=[some x0,some x,some (.int (m:Nat)),some (.ref av),some zp,some zs,some (.int (u:Nat))]/\Same H H3/\R a zp H3/\R b zs H3/\a+b*u=m)/\(((t:Nat):Int)/2).toNat<((t:Nat):Int).toNat) E0
     else(∃(zp zs:V) (a b u:Nat),[some x0,some x,some (.int (m:Nat)),some (.ref av),some z,some ys,some (.int (((t:Nat):Int)/2))]=[some x0,some x,some (.int (m:Nat)),some (.ref av),some zp,some zs,some (.int (u:Nat))]/\Same H H2/\R a zp H2/\R b zs H2/\a+b*u=m)/\(((t:Nat):Int)/2).toNat<((t:Nat):Int).toNat):=fun H2 z a' s2 iz e=>by
    rw [d2]
    refine⟨⟨by decide,by decide⟩,?_⟩
    by_cases h2:(0:Int)<((t/2:Nat):Int)
    . rw [if_pos h2]
      refine rm b b ys ys H2 _ (rk _ _ _ _ s2 ib) (rk _ _ _ _ s2 ib) fun w H3 s3 iw=>⟨⟨z,w,a',b+b,t/2,rfl,(s1.trans s2).trans s3,rk _ _ _ _ s3 iz,iw,?_⟩,by omega⟩
      rw [<-Nat.two_mul]
      exact e
    . rw [if_neg h2]
      have t0:t/2=0:=by omega
      refine⟨⟨z,ys,a',b,t/2,rfl,s1.trans s2,iz,rk _ _ _ _ s2 ib,?_⟩,by omega⟩
      rw [t0]at e ⊢
      simpa using e
   have e3:b*t=2*b*(t/2)+b*(t%2):=by
    have e:=Nat.div_add_mod t 2
    calc b*t=b*(2*(t/2)+t%2):=by rw [e]
     _=2*b*(t/2)+b*(t%2):=by rw [Nat.mul_add,<-Nat.mul_assoc,Nat.mul_comm b 2]
   by_cases ho:((t:Nat):Int)%2=1
   . rw [if_pos ho]
     have o1:t%2=1:=by omega
     refine rm a b yp ys H' _ ia ib fun w H2 s2 iw=>step H2 w (a+b) s2 iw ?_
     rw [o1,Nat.mul_one]at e3
     omega
   . rw [if_neg ho]
     have o1:t%2=0:=by omega
     refine step H' yp a (Same.refl _) ia ?_
     rw [o1,Nat.mul_zero]at e3
     omega
 . rw [if_neg ht]
   have t0:t=0:=by omega
   subst t0
   have e:a=m:=by simpa using hab
   subst e
   exact k _ _ s1 ia
noncomputable abbrev LQ:Str:="m_power"++".<locals>."++"<lambda>"
noncomputable abbrev TB (K:PySem.W.Frag) (H:Hp):Prop:=Tab (Q7 K "m_power") ⟨84,67,84,122⟩ LQ H
noncomputable def spL (K:PySem.W.Frag) (c':Addr) (ws:List V):Sp:=fun vs H Q _=>∃(x y b:V) (m:Int) (p p' q:List Int) (l l' n' k:Nat),vs=[x,y]/\ws=[b,.int m]/\H c'=some (Ke c' LQ)/\Po K H x p l k/\Po K H y p' l k/\Po K H b q l' n'/\l<=40/\l'<=100/\n'<=100000/\1<m/\Sz k m/\k<=8000/\q≠ []/\Int.gcd (co q (q.length-1)) m=1/\
 ∀(d:V) (H':Hp) (r:List Int),Same H H'->Po K H' d r q.length k->Rem m q (tm p p') r->Q d H'
noncomputable def MwR (K:PySem.W.Frag) (m:Int) (p q:List Int) (n k:Nat) (Q:VK) (H:Hp):Prop:=∀(d:V) (H':Hp) (r:List Int),SmP (Q7 K "m_power") H H'->TB K H'->Po K H' d r q.length k->Rem m q (pw p n) r->Q d H'
noncomputable def Il (K:PySem.W.Frag):Sp:=fun vs H Q E=>∃(x y:V) (m:Int) (n:Nat) (p q:List Int) (l n1 n2 k:Nat),vs=[x,.int (n:Nat),y,.int m]/\TB K H/\Po K H x p l n1/\Po K H y q l n2/\l<=40/\n2<=100000/\1<m/\Sz k m/\k<=8000/\(q=[]\/Int.gcd (co q (q.length-1)) m≠1->∀H',Same H H'->E (.ref (cA K "NoPart")) none H')/\(q≠ []->Int.gcd (co q (q.length-1)) m=1->MwR K m p q n k Q H)
noncomputable def Js (K:PySem.W.Frag):Sp:=fun vs H Q _=>∃(x y:V) (m:Int) (n:Nat) (p q:List Int) (l n1 n2 k:Nat),vs=[x,.int (n:Nat),y,.int m]/\TB K H/\Po K H x p l n1/\Po K H y q l n2/\l<=40/\n2<=100000/\1<m/\Sz k m/\k<=8000/\q≠ []/\Int.gcd (co q (q.length-1)) m=1/\MwR K m p q n k Q H
theorem Ou (K:PySem.W.Frag):∀vs H Q E,Js K vs H Q E->Il K vs H Q E0:=by
 rintro vs H Q E ⟨x,y,m,n,p,q,l,n1,n2,k,rfl,tb,hx,hy,h1,h4,hm,hk,h8,hq,hg,c⟩
 exact⟨x,y,m,n,p,q,l,n1,n2,k,rfl,tb,hx,hy,h1,h4,hm,hk,h8,fun z=>by
  rcases z with z | z
  . exact(hq z).elim
  . exact(z hg).elim,fun _ _=>c⟩
theorem Q5 {p:Addr}{H H':Hp} (s:SmP p H H') (tb:∃ps,H p=some (.tbl ps)) {a:Addr}{xs:List V} (h:SqT K H a xs):SqT K H' a xs:=by
 have ne:∀ {b u},H b=some u->(∀ps,u≠ .tbl ps)->H' b=some u:=fun {b u} e z=>s b u (fun y=>by
  obtain⟨ps,hp⟩:=tb
  rw [y,hp]at e
  cases e
  exact z ps rfl) e
 unfold SqT at h ⊢
 rcases h with h | h
 . refine .inl ?_
   rcases h with h | ⟨o,h⟩
   . exact .inl (ne h fun ps z=>nomatch z)
   . exact .inr ⟨o,ne h fun ps z=>nomatch z⟩
 . exact .inr h
theorem Po.smp {p:Addr}{H H':Hp} (s:SmP p H H') (tb:∃ps,H p=some (.tbl ps)) {x:V}{q:List Int}{l n:Nat} (h:Po K H x q l n):Po K H' x q l n:=by
 obtain⟨⟨a,e,h⟩,r⟩:=h
 exact⟨⟨a,e,Q5 s tb h⟩,r⟩
noncomputable def PwH (K:PySem.W.Frag) (c':Addr) (y:V) (m:Int) (p q:List Int) (l n2 k:Nat) (n:Nat) (v:V) (H:Hp):Prop:=H c'=some (Ke c' LQ)/\Po K H y q l n2/\∃r,Po K H v r q.length k/\Rem m q (pw p n) r
noncomputable def scL:Scope:=match Ht with | .FunctionDef _ _ [.Return (some (.Call _ [_,_,_,.Lambda _ _ z _] _ _)) _] _ _ _ _ _ _ _=>z | _=>Ao Ht
theorem U9:Wt ["left","right"] ["by","m"] scL:=⟨rfl,rfl,rfl,by decide,by decide,by decide,by decide,by decide⟩
theorem Tt {f:Addr}{fd:FuncData} (F:Df K mg "m_power" Ht ["one","many","by","m"] f fd) {fr:Addr}{fdr:FuncData} (FR:Df K mg "repeated" Hx ["start","one","many","product"] fr fdr) (py:Pyl P base) (lb:Yb mg base (Wq K "m_power") (Q7 K "m_power")) (hcode:fd.code= .ref (Wq K "m_power"))   (ce_m_rest:Ny P w K mg base 36 "m_rest" ["one","other","m"] (Jr K)) (cb_m_rest:∀base:Heap,Pyl P base->Cal P w K mg base 36 "m_rest" ["one","other","m"] (Le K)) (cb_p_times:∀base:Heap,Pyl P base->Cal P w K mg base 33 "p_times" ["one","other"] (Mi K)):Ny P w K mg base 39 "m_power" ["one","many","by","m"] (Il K):=by
 refine F.calE (F.fn.okL T6 (fun vs H Q E h=> ?_) (fun A outer s H vs Q E hr h=> ?_))
 . obtain⟨x,y,m,n,p,q,_,_,_,_,rfl,_⟩:=h
   rfl
 obtain⟨x,y,m,n,p,q,l,n1,n2,k,rfl,tb,hx,hy,hl,hn2,hm,hk,h8,e,c⟩:=h
 refine⟨_,V4 (Yu (Adq (kl:=36) (sp:=fun a c' ws=>Li K a (spL K c' ws)) (spL:=spL K) (lps:=["left","right"]) (fs:=["by","m"]) (sl:=[2,3]) py (hr.mono (by decide)) FR.at' FR.fn.kp U9 ?fs rfl ?sl
  (fun _ _ _ _ us hl=>match us,hl with | [_,_],_=>rfl) ?len ?cd ?body (fun base a c' ws _ VV=>Qs (base:=base) FR VV)
  (M9 (Gw ce_m_rest (hr.mono (by decide)) (Ei (Yo (Ei Yn Mf)) (Ei (pv 2) (Ei (pv 3) Mf)))) (M9 (Gw ce_m_rest (hr.mono (by decide)) (Ei (pv 0) (Ei (pv 2) (Ei (pv 3) Mf)))) (M9 (pv 1) (Z1 lb hcode ?fr rfl)))))),?_⟩
 case fs=>
  intro x hx
  simp only [List.mem_cons,List.not_mem_nil,or_false]at hx
  rcases hx with rfl | rfl
  . exact⟨by decide,rfl,rfl⟩
  . exact⟨by decide,rfl,rfl⟩
 case sl=>
  intro i j x h1 h2
  match i,h1,h2 with
  | 0,h1,h2=>cases h1;cases h2;rfl
  | 1,h1,h2=>cases h1;cases h2;rfl
  | i+2,h1,h2=>cases h1
 case len=>
  rintro c' ws vs H Q E ⟨_,_,_,_,_,_,_,_,_,_,_,rfl,_⟩
  rfl
 case cd=>
  rintro c' ws vs H Q E ⟨_,_,_,_,_,_,_,_,_,_,_,_,_,h,_⟩
  exact h
 case fr=>
  intro ok x hx hf
  have:=U9.only x hx hf
  simp only [List.mem_cons,List.not_mem_nil,or_false]at this
  rcases this with z | z
  . exact ok.has x.1 (.inl (by rw [z];rfl))
  . exact ok.has x.1 (.inl (by rw [z];rfl))
 case body=>
  rintro base f c' cl ws A outer s H vs Q E pyb hr ⟨x,y,b,m,p,p',q,l,l',n',k,rfl,rfl,hc,hx,hy,hb,hl,hl',hn',hm,hk,h8,hq,hg,c⟩
  refine⟨_,Nb (cb_m_rest base pyb) (hr.mono (by decide)) (Ei (Nb (cb_p_times base pyb) (hr.mono (by decide)) (Ei (pv 0) (Ei (pv 1) Mf))) (Ei (pv 2) (Ei (pv 3) Mf))),?_⟩
  done
  refine⟨x,y,p,p',l,l,k,k,rfl,hx,hy,by omega,by omega,by omega,fun z H1 s1 i1=> ?_⟩
  try done
  refine⟨z,b,m,_,q,_,_,_,_,k,rfl,i1,hb.mono s1,by omega,hl',hn',hm,hk,h8,hq,hg,fun d H2 u r s2 ir he hlr hr=> ?_⟩
  exact c d H2 r (s1.trans s2) ⟨ir.1,ir.2.1,Nat.le_of_lt hlr,ir.2.2.2⟩ (Rem.of ir.2.1 he hlr hr)
 done
 intro p1 hp1
 have s1:=Same.upd hp1 (.tup [V.int 1])
 have i1:Po K (upd H p1 (.tup [V.int 1])) (.ref p1) [1] 1 1:=⟨⟨p1,rfl,.of Ah⟩,.of (.inr (by decide)),by simp,fun i=>by
  rw [show co [1] i=if i=0 then 1 else 0 by cases i with | zero=>rfl | succ i=>rw [Ci,Br];rfl]
  unfold Sz
  split<;>decide⟩
 refine⟨.ref p1,y,m,[1],q,1,l,1,n2,k,rfl,i1,hy.mono s1,by decide,by omega,hn2,hm,hk,h8,fun z H' s2=>e z H' (s1.trans s2),fun hq hg d0 H2 u0 r0 s2 ir0 he0 hl0 hr0=> ?_⟩
 try done
 have s12:=s1.trans s2
 refine⟨x,y,m,p,q,l,l,n1,n2,k,rfl,hx.mono s12,hy.mono s12,by omega,by omega,hn2,hm,hk,h8,fun z H' s3=>e z H' (s12.trans s3),fun hq hg d1 H3 u1 r1 s3 ir1 he1 hl1 hr1=> ?_⟩
 try done
 have s123:=s12.trans s3
 refine⟨tb.same s123,[y,.int m],rfl,fun f c' H4 s4 tb4 hc4=> ?_⟩
 have tb3:=(tb.same s123).is
 have po0:Po K H4 d0 r0 q.length k:=Po.smp s4 tb3 ⟨(ir0.mono s3).1,ir0.2.1,Nat.le_of_lt hl0,ir0.2.2.2⟩
 have po1:Po K H4 d1 r1 q.length k:=Po.smp s4 tb3 ⟨ir1.1,ir1.2.1,Nat.le_of_lt hl1,ir1.2.2.2⟩
 have poy:Po K H4 y q l n2:=Po.smp s4 tb3 (hy.mono s123)
 refine⟨d0,d1,n,PwH K c' y m p q l n2 k,rfl,⟨hc4,poy,r0,po0,Rem.of ir0.2.1 he0 hl0 hr0⟩,⟨hc4,poy,r1,po1,?_⟩,?_,?_,?_⟩
 . rw [Yw hx.2.1]
   exact Rem.of ir1.2.1 he1 hl1 hr1
 . rintro j v H1 H2 s ⟨a1,a2,r,a3,a4⟩
   exact⟨s _ _ a1,a2.mono s,r,a3.mono s,a4⟩
 . rintro a b x y' H1 Q' ⟨a1,a2,ra,a3,a4⟩ ⟨_,_,rb,b3,b4⟩ kk
   refine⟨x,y',y,m,ra,rb,q,q.length,l,n2,k,rfl,rfl,a1,a3,b3,a2,by have:=hy.2.2.1;omega,by omega,hn2,hm,hk,h8,hq,hg,fun d H2 r s5 ir hr=>kk d H2 s5 ⟨s5 _ _ a1,a2.mono s5,r,ir,?_⟩⟩
   rw [<-V5]
   exact Rem.mul a4.cg b4.cg hr
 . rintro z H5 s5 ⟨_,_,r,ir,hr⟩
   exact c hq hg z H5 r ((s123.smp.trans s4).trans s5.smp) (tb4.same s5) ir hr
noncomputable def Jt (_:PySem.W.Frag):Sp:=fun vs H Q _=>∃c k:Int,vs=[.int c,.int k]/\0<=k/\k<1000/\∀n:Int,0<=n->n<2^41->Q (.int n) H
theorem Tw {f:Addr}{fd:FuncData} (F:Df K mg "_law_mixed" K6 ["_law_cell","_law_k"] f fd)    :Cal P w K mg base 33 "_law_mixed" ["_law_cell","_law_k"] (Jt K):=by
 refine F.cal (F.fn.ok Jp (fun vs H Q E h=> ?_) (fun cdv A outer s H vs Q E hr h=> ?_))
 . obtain⟨c,k,rfl,_⟩:=h
   rfl
 obtain⟨c,k,rfl,k0,k1,q⟩:=h
 refine Ay ⟨_,(Ad (Ai 2 Jp.nd (Af Cz (Af Cj (Af Cm (Af Cm (Af Cz (Ae 0) Ac) (Af Cj Ac (Ae 1))) Ac) Ac) Ac))
  (Ad (Ai 2 Jp.nd (Af Cz (Af Cj (Ae 2) (Af Cm (Af Eb (Ae 2) Ac) Ac)) Ac))
  (Ag (Am (Af Cz (Af Cj (Af Cm (Ae 2) (Af Cj Ac (Ae 1))) (Af Cm (Af Eb (Ae 2) Ac) Ac)) Ac))))),?_⟩
 done
 have kz:Sz 10 k:=by unfold Sz;omega
 have m1:IntMulOk 7919 k:=(by unfold Sz;decide:Sz 13 (7919:Int)).mulOk kz (by decide)
 have m2:IntMulOk (c%2147483647+7919*k+1) 48271:=(by unfold Sz;omega:Sz 40 (c%2147483647+7919*k+1)).mulOk (by unfold Sz;decide:Sz 16 (48271:Int)) (by decide)
 have d0:=Int.emod_nonneg ((c%2147483647+7919*k+1)*48271) (by decide:(2147483647:Int)≠0)
 have d1:=Int.emod_lt_of_pos ((c%2147483647+7919*k+1)*48271) (by decide:(0:Int)<2147483647)
 generalize (c%2147483647+7919*k+1)*48271%2147483647=d at*
 have m3:IntMulOk d (d/1009+69621):=(by unfold Sz;omega:Sz 31 d).mulOk (by unfold Sz;omega:Sz 32 (d/1009+69621)) (by decide)
 have e0:=Int.emod_nonneg (d*(d/1009+69621)) (by decide:(2147483647:Int)≠0)
 have e1:=Int.emod_lt_of_pos (d*(d/1009+69621)) (by decide:(0:Int)<2147483647)
 generalize d*(d/1009+69621)%2147483647=e at*
 have m4:IntMulOk (31:Int) k:=(by unfold Sz;decide:Sz 13 (31:Int)).mulOk kz (by decide)
 have m5:IntMulOk (e+31*k) (e/16807+40692):=(by unfold Sz;omega:Sz 33 (e+31*k)).mulOk (by unfold Sz;omega:Sz 32 (e/16807+40692)) (by decide)
 have f0:=Int.emod_nonneg ((e+31*k)*(e/16807+40692)) (by decide:(2147483629:Int)≠0)
 have f1:=Int.emod_lt_of_pos ((e+31*k)*(e/16807+40692)) (by decide:(0:Int)<2147483629)
 generalize (e+31*k)*(e/16807+40692)%2147483629=f at*
 exact⟨by decide,m1,m2,by decide,⟨by decide,by decide⟩,m3,by decide,m4,⟨by decide,by decide⟩,m5,by decide,q f f0 (by omega)⟩
theorem Nr {H:Hp}{Q:VK}{E:XK}{c k:Int} (k0:0<=k) (k1:k<1000) (h:∀n:Int,0<=n->n<2^41->Q (.int n) H):Jt K [.int c,.int k] H Q E:=⟨c,k,rfl,k0,k1,h⟩
noncomputable def Mj (K:PySem.W.Frag):Sp:=fun vs H Q _=>∃(c:Int) (a:Addr) (bs:List Int),vs=[.int c,.ref a]/\SqL K H a (bs.map V.int)/\bs.length<=100/\(∀b∈bs,0<b/\Sz 70 b)/\∀z H' (ns:List Int),Same H H'->H' z=some (.lst (ns.map V.int))->ns.length=bs.length->(∀i,i<bs.length->0<=co ns i/\co ns i<co bs i)->Q (.ref z) H'
theorem Tz {f:Addr}{fd:FuncData} (F:Df K mg "_law_parts" K7 ["_law_cell","_law_bases"] f fd) (z_enumerate:mg "enumerate"=none)  (c_q_mixed:Cal P w K mg base 33 "_law_mixed" ["_law_cell","_law_k"] (Jt K)):Cal P w K mg base 34 "_law_parts" ["_law_cell","_law_bases"] (Mj K):=by
 refine F.cal (F.fn.ok Fg (fun vs H Q E h=> ?_) (fun cdv A outer s H vs Q E hr h=> ?_))
 . obtain⟨c,a,bs,rfl,_⟩:=h
   rfl
 obtain⟨c,a,bs,rfl,hS,h100,hb,q⟩:=h
 refine Ay ⟨_,(Ad (Ai 2 Fg.nd (Bv Ab))
  (Ad (Ai 3 Fg.nd (Af Eb (Ae 0) Ac))
  (Ad (Cv PassesOwn.never rfl (Uo rfl z_enumerate (Aa (Ae 1) Ab)) (Gd rfl (Bd (Ba 4 Fg.nd) (Bd (Ba 5 Fg.nd) Fb))) (Ag (Bf (Cp (Cy (Aj Lp (Af Cz (Ae 0) Ac) Ac (Az _)) (Dh (Aj O6 (Ae 3) (Av (Aa Ac (Aa (Dj Fz Ac) Ab))) rfl)))) (Ad (Hv (Ri PySem.F.plainAttrs_list PySem.F.slot_list_append PySem.F.type_list_append Kz (Ae 2) (Aa (Af Cz (Ae 3) (Ae 5)) Ab)))
  (Ag (Ai 3 Fg.nd (Af Eb (Ae 3) (Ae 5))))) (Ag (Hv (Ri PySem.F.plainAttrs_list PySem.F.slot_list_append PySem.F.type_list_append Kz (Ae 2) (Aa (Af Cz (Af Cm (Ak c_q_mixed hr (Aa (Af Eb (Ae 0) Ac) (Aa (Ae 4) Ab))) (Af Yl (Ak c_q_mixed hr (Aa (Af Eb (Ae 0) Ac) (Aa (Af Cm (Ae 4) Ac) Ab))) Ac)) (Ae 5)) Ab)))))))
  (Ag (Am (Ae 2)))))),?_⟩
 done
 refine⟨by decide,fun l hl=>⟨⟨by decide,by decide⟩,⟨_,(Same.upd hl (.lst [])).seq hS⟩,Aa6 (es:=bs) (inj:=V.int) (fun pre σ H'=>∃(o1 o2:Option V) (r:Int) (ns:List Int),σ=[some (.int c),some (.ref a),some (.ref l),some (.int r),o1,o2]/\Same H H'/\H' l=some (.lst (ns.map V.int))/\ns.length=pre.length/\∀i,i<pre.length->0<=co ns i/\co ns i<co pre i)
  ⟨_,_,_,[],rfl,Same.upd hl _,Ah,rfl,fun i hi=>absurd hi (Nat.not_lt_zero i)⟩ ?_ ?_ ?_⟩⟩
 . rintro pre σ H' ⟨o1,o2,r,ns,rfl,s1,_⟩
   exact s1.seq hS
 . rintro pre e post σ H' p1 he ⟨o1,o2,r,ns,rfl,s1,g1,hn,hco⟩ hp1
   refine Rq (.of Ah) ?_
   have s2:=Same.upd hp1 (.tup [V.int (pre.length:Nat),V.int e])
   have g2:=s2 _ _ g1
   have eb:=hb e (by rw [he];simp)
   have hlen:=congrArg List.length he
   rw [List.length_append,List.length_cons]at hlen
   have put:∀(H2:Hp) (v:Int),Same H' H2->0<=v->v<e->Same H (upd H2 l (.lst (ns.map V.int++ [V.int v])))/\upd H2 l (.lst (ns.map V.int++ [V.int v])) l=some (.lst ((ns++ [v]).map V.int))/\(ns++ [v]).length=(pre++ [e]).length/\∀i,i<(pre++ [e]).length->0<=co (ns++ [v]) i/\co (ns++ [v]) i<co (pre++ [e]) i:=fun H2 v s3 v0 v1=>by
    refine⟨(s1.trans s3).put hl,by rw [Ah,List.map_append];rfl,by rw [List.length_append,List.length_append,hn];rfl,fun i hi=> ?_⟩
    rw [Gs,Gs,hn]
    rw [List.length_append,List.length_singleton]at hi
    by_cases h:i=pre.length
    . rw [if_pos h,if_pos h]
      exact⟨v0,v1⟩
    . rw [if_neg h,if_neg h]
      exact hco i (by omega)
   have room:(ns.map V.int).length<sizeLine:=by rw [List.length_map];exact Nat.lt_of_lt_of_le (show ns.length<1000 by omega) (by decide)
   try done
   refine⟨by decide,?_⟩
   have app:∀(H2:Hp) (v r2:Int),Same (upd H' p1 (.tup [V.int (pre.length:Nat),V.int e])) H2->0<=v->v<e->∃(o1 o2:Option V) (r:Int) (ms:List Int),[some (V.int c),some (V.ref a),some (V.ref l),some (V.int r2),some (V.int (pre.length:Nat)),some (V.int e)]=[some (V.int c),some (V.ref a),some (V.ref l),some (V.int r),o1,o2]/\Same H (upd H2 l (.lst (ns.map V.int++ [V.int v])))/\upd H2 l (.lst (ns.map V.int++ [V.int v])) l=some (.lst (ms.map V.int))/\ms.length=(pre++ [e]).length/\∀i,i<(pre++ [e]).length->0<=co ms i/\co ms i<co (pre++ [e]) i:=fun H2 v r2 s3 v0 v1=>by
    obtain⟨a1,a2,a3,a4⟩:=put H2 v (s2.trans s3) v0 v1
    exact⟨_,_,r2,ns++ [v],rfl,a1,a2,a3,a4⟩
   split
   . intro p2 hp2
     have s3:=Same.upd hp2 (.tup [V.int 0,V.int (-1)])
     have g3:=s3 _ _ g2
     refine⟨p2,_,rfl,.inr (.of Ah),rfl,rfl,?_⟩
     try done
     split
     . refine⟨.inl ⟨rfl,_,.of g3⟩,eb.1,l,_,_,rfl,rfl,g3,room,⟨eb.1,eb.2.log2 (Int.ne_of_gt eb.1) (by decide)⟩,app _ _ _ s3 (Int.emod_nonneg _ (Int.ne_of_gt eb.1)) (Int.emod_lt_of_pos _ eb.1)⟩
     . have g4:=g3
       have s4:=s3
       refine⟨.inl ⟨rfl,_,.of g4⟩,⟨by decide,by decide⟩,Nr (by omega) (by omega) fun n1 a1 b1=> ?_⟩
       try done
       refine⟨⟨by decide,by decide⟩,Nr (by omega) (by omega) fun n2 a2 b2=> ?_⟩
       try done
       refine⟨⟨by decide,by decide,by omega⟩,eb.1,l,_,_,rfl,rfl,g4,room,app _ _ _ s4 (Int.emod_nonneg _ (Int.ne_of_gt eb.1)) (Int.emod_lt_of_pos _ eb.1)⟩
   . have g4:=g2
     have s4:=Same.refl (upd H' p1 (.tup [V.int (pre.length:Nat),V.int e]))
     refine⟨.inl ⟨rfl,_,.of g4⟩,⟨by decide,by decide⟩,Nr (by omega) (by omega) fun n1 a1 b1=> ?_⟩
     try done
     refine⟨⟨by decide,by decide⟩,Nr (by omega) (by omega) fun n2 a2 b2=> ?_⟩
     try done
     refine⟨⟨by decide,by decide,by omega⟩,eb.1,l,_,_,rfl,rfl,g4,room,app _ _ _ s4 (Int.emod_nonneg _ (Int.ne_of_gt eb.1)) (Int.emod_lt_of_pos _ eb.1)⟩
 . rintro σ H' ⟨o1,o2,r,ns,rfl,s1,g1,hn,hco⟩
   try done
   exact q l H' ns s1 g1 hn hco
noncomputable def Eo (K:PySem.W.Frag):Sp:=fun vs H Q _=>∃(a:Addr) (m:Int) (ns:List Int),vs=[.ref a,.int m]/\(SqL K H a (ns.map V.int)\/SqT K H a (ns.map V.int))/\ns.length<=1000/\0<m/\∀z H',Same H H'->SqT K H' z ((md ns m).map V.int)->Q (.ref z) H'
theorem Vn {f:Addr}{fd:FuncData} (F:Df K mg "_law_poly" J8 ["_law_weights","_law_m"] f fd) (z_len:mg "len"=none) (z_tuple:mg "tuple"=none)   :Cal P w K mg base 33 "_law_poly" ["_law_weights","_law_m"] (Eo K):=by
 refine F.cal (F.fn.ok Iw (fun vs H Q E h=> ?_) (fun cdv A outer s H vs Q E hr h=> ?_))
 . obtain⟨a,m,ns,rfl,_⟩:=h
   rfl
 obtain⟨a,m,ms,rfl,hS,hl,hm,q⟩:=h
 refine Ay ⟨_,(Ad (Tf (ts:=["_law_weight"]) (fs:=[(1,"_law_m")]) rfl (Di.of (sc:=Ao J8) (N:=["_law_weights","_law_m","_law_found","_law_many"]) rfl rfl (by decide+kernel)) (Um (Ae 0)) (fun _ _ _=>(Ba 0 (show List.Nodup (["_law_weight","_law_m"]:List Str)by decide+kernel))) (fun _ _ _=>Hw) (fun _ _ _=>(Af Cz (Ae 0) (Ae 1))) (Ba 2 Iw.nd))
  (Ad (Ai 3 Iw.nd (Ar Al rfl z_len PySem.boot_len (Aa (Ae 2) Ab)))
  (Ad (Bs PassesOwn.never (Cp (Cy (Aj O5 (Ae 3) Ac (Az _)) (Dh (Aj Lp (Aq Bh (Ae 2) (Af Dw (Ae 3) Ac) (fun _ _=>rfl)) Ac (Az _))))) (Ag (Ai 3 Iw.nd (Af Dw (Ae 3) Ac))))
  (Ag (Am (Dz Ey rfl z_tuple PyProof.Rows.boot_tuple (Aa (Eh Jq (Ae 2) Jd (Dn (Ae 3))) Ab))))))),?_⟩
 refine Bm (fun σ' H'=>Same H H'/\∃b,σ'=[some (.ref a),some (.int m),some (.ref b),none]/\H' b=some (.lst ((ms.map (· %m)).map V.int))) (fun N hN=> ?_) ?_
 . done
   have em:ms.map (fun e=>V.int (e%m))=(ms.map (· %m)).map V.int:=by rw [List.map_map];rfl
   have tl:∀p1 H2,Same H H2->H2 p1=some (.lst (ms.map fun e=>V.int (e%m)))->N [some (.ref a),some (.int m),some (.ref p1),none] H2:=fun p1 H2 s2 h2=>by
    rw [em]at h2
    exact hN _ _ ⟨s2,p1,rfl,h2⟩
   rcases hS with hS | hS
   . refine .inl ⟨⟨_,hS⟩,fun p1 hp1=>Kr (es:=ms) (inj:=V.int) (fun e=> .int (e%m)) (Nat.le_trans hl (by decide)) hp1 (Wm hS) ?_ ?_⟩
     . intro e H2 R he s2 hR
       done
       exact⟨hm,hR _ (Same.refl _)⟩
     intro H2 s2 h2
     try done
     exact tl p1 H2 s2 h2
   . refine .inr ⟨⟨_,hS⟩,fun p1 hp1=>Kr (es:=ms) (inj:=V.int) (fun e=> .int (e%m)) (Nat.le_trans hl (by decide)) hp1 (Wn hS) ?_ ?_⟩
     . intro e H2 R he s2 hR
       done
       exact⟨hm,hR _ (Same.refl _)⟩
     intro H2 s2 h2
     try done
     exact tl p1 H2 s2 h2
 rintro σ H0 ⟨s0,b,rfl,hb⟩
 have q0:∀z H',Same H0 H'->SqT K H' z ((trim (ms.map (· %m))).map V.int)->Q (.ref z) H':=fun z H' s1 h1=>q z H' (s0.trans s1) h1
 clear q
 obtain⟨ns,hns⟩:∃ns,ns=ms.map (· %m):=⟨_,rfl⟩
 rw [<-hns]at hb q0
 have hS0:SqL K H0 b (ns.map V.int):= .of hb
 done
 refine⟨b,_,rfl,.inl hS0,?_⟩
 rw [List.length_map]
 refine G4 (fun σ H'=>H'=H0/\∃n:Nat,σ=[some (.ref a),some (.int m),some (.ref b),some (.int n)]/\n<=ns.length/\∀i,n<=i->co ns i=0) (fun σ _=>match σ with | [_,_,_,some (.int n)]=>n.toNat | _=>0)
  ⟨rfl,_,rfl,Nat.le_refl _,fun i h=>Bp h⟩ ?_
 rintro σ H' ⟨rfl,n,rfl,hn,hz⟩
 have fin:(n=0\/co ns (n-1)≠0)->Ac6 K (V.ref b) none (some (n:Int)) H' (fun x H1=>∃p ys,[x]=[V.ref p]/\((SqL K H1 p ys/\∀(l:Addr),H1 l=none->Q (V.ref l) (upd H1 l (HO.tup ys)))\/SqT K H1 p ys/\Q (V.ref p) H1)):=fun h=>by
  refine⟨b,_,rfl,hS0,fun p hp=>⟨p,_,rfl,.inl ⟨.of Ah,fun z hz'=>q0 z _ ((Same.upd hp _).trans (Same.upd hz' _)) ?_⟩⟩⟩
  have e:Ua (ns.map V.int) none (some (n:Int))=(trim ns).map V.int:=by
   rw [Px hz h]
   unfold Ua
   rw [HT.Nf,HT.K4,List.drop_zero,Nat.sub_zero,List.length_map,Nat.min_eq_left hn,List.map_take]
  rw [e]
  exact .of Ah
 done
 by_cases h0:(0:Int)<n
 . rw [if_pos h0]
   refine Nx hS0 (v:= .int (co ns (n-1))) ?_ ?_
   . have e:=Gq (xs:=ns.map V.int) (j:=n-1) (v:= .int (co ns (n-1))) (by rw [List.getElem?_map,List.getElem?_eq_getElem (by omega),Bt (by omega)];rfl)
     rw [show((n-1:Nat):Int)=(n:Int)-1 by omega]at e
     exact e
   done
   by_cases hc:co ns (n-1)=0
   . rw [if_pos hc]
     refine Q8 ?_
     done
     refine⟨⟨n-1,by rw [show((n-1:Nat):Int)=(n:Int)-1 by omega],by omega,fun i hi=> ?_⟩,by omega⟩
     by_cases hi':i=n-1
     . rw [hi',hc]
     . exact hz i (by omega)
   . rw [if_neg hc]
     exact fin (.inr hc)
 . rw [if_neg h0]
   exact fin (.inl (by omega))
theorem Io {m:Int} (hm:0<m) (p:List Int):Cn m (md p m):=⟨Ln _ _,Rx hm p⟩
theorem Ek {H H1:Hp}{Q:VK}{E:XK}{a:Addr}{m:Int}{ns:List Int}{k:Nat} (h0:SqL K H1 a (ns.map V.int)\/SqT K H1 a (ns.map V.int)) (s1:Same H1 H) (hl:ns.length<=1000) (hm:0<m) (hk:Sz k m) (h:∀z H',Same H H'->Po K H' z (md ns m) ns.length k->Q z H'):Eo K [.ref a,.int m] H Q E:=
 ⟨a,m,ns,rfl,h0.imp (s1.seq ·) (s1.tup ·),hl,hm,fun z H' s2 i2=>h _ _ s2 ⟨⟨z,rfl,i2⟩,Ln _ _,Ov ns m,fun i=>by
  rw [G8]
  exact Sv hm hk _⟩⟩
theorem Zw (a b:Nat):(if((b:Nat):Int)>(a:Nat)then((b:Nat):Int)else((a:Nat):Int))=((max a b:Nat):Int):=by
 split<;>omega
noncomputable def Dl (K:PySem.W.Frag):Sp:=fun vs H Q _=>∃(x y:V) (m:Int) (p q:List Int) (l l' n n' k0:Nat),vs=[x,y,.int m]/\Po K H x p l n/\Po K H y q l' n'/\l<=400/\l'<=400/\n+n'<=100000000/\0<m/\Sz k0 m/\∀z H',Same H H'->Po K H' z (md (tm p q) m) (l+l') k0->Q z H'
theorem O2 {f:Addr}{fd:FuncData} (F:Df K mg "_law_product" Ij ["_law_one","_law_other","_law_m"] f fd) (z_range:mg "range"=none) (z_len:mg "len"=none)  (c_q_poly:Cal P w K mg base 33 "_law_poly" ["_law_weights","_law_m"] (Eo K)):Cal P w K mg base 34 "_law_product" ["_law_one","_law_other","_law_m"] (Dl K):=by
 refine F.cal (F.fn.ok Fx (fun vs H Q E h=> ?_) (fun cdv A outer s H vs Q E hr h=> ?_))
 . obtain⟨x,y,m,p,q,_,_,_,_,_,rfl,_⟩:=h
   rfl
 obtain⟨x,y,m,p,q,l,l',n,n',k0,rfl,hx,hy,l5,l5',hn,m0,mk,k⟩:=h
 have mx:=hx.mem
 have my:=hy.mem
 obtain⟨⟨a,rfl,ha⟩,tp,lp,zp⟩:=hx
 obtain⟨⟨b,rfl,hb⟩,tq,lq,zq⟩:=hy
 refine Ay ⟨_,(Ad (Ai 3 Fx.nd (Af Ma (Bv (Aa Ac Ab)) (Af Cm (Ar Al rfl z_len PySem.boot_len (Aa (Ae 0) Ab)) (Ar Al rfl z_len PySem.boot_len (Aa (Ae 1) Ab)))))
  (Ad (Cv PassesOwn.never rfl (Du rfl z_range (Aa (Ar Al rfl z_len PySem.boot_len (Aa (Ae 0) Ab)) Ab)) (Ba 4 Fx.nd) (Ag (Cv PassesOwn.never rfl (Du rfl z_range (Aa (Ar Al rfl z_len PySem.boot_len (Aa (Ae 1) Ab)) Ab)) (Ba 5 Fx.nd) (Ag (Ea (Af Cm (Aq Bh (Ae 3) (Af Cm (Ae 4) (Ae 5)) (fun _ _=>rfl)) (Af Cj (Aq Ef (Ae 0) (Ae 4) (fun _ _=>rfl)) (Aq Ef (Ae 1) (Ae 5) (fun _ _=>rfl)))) (Fl (Ae 3) (Af Cm (Ae 4) (Ae 5)) set_list))))))
  (Ag (Am (Ak c_q_poly hr (Aa (Ae 3) (Aa (Ae 2) Ab))))))),?_⟩
 done
 intro p3 hp3
 have s3:=Same.upd hp3 (.lst [V.int 0])
 have sz5:1000<=sizeLine:=by decide
 refine⟨a,_,rfl,.inr (s3.tup ha),b,_,rfl,.inr (s3.tup hb),?_⟩
 simp only [List.length_map]
 have hN:((p.length:Int)+(q.length:Int)).toNat=p.length+q.length:=by omega
 refine⟨p3,_,[V.int 0],rfl,rfl,Ah,by omega,by omega,by rw [hN];simp only [List.length_cons,List.length_nil];omega,fun l0 hn'=> ?_⟩
 rw [hN,Hq]
 have hnH:H l0=none:=Same.free s3 hn'
 have s4:=s3.trans (Same.upd hn' (.lst ((List.replicate (p.length+q.length) (0:Int)).map V.int)))
 refine⟨a,_,rfl,.inr (s4.tup ha),?_⟩
 repeat (first | done | simp only [List.length_map,Int.toNat_natCast])
 refine⟨by omega,by omega,Xb (es:=List.range p.length) (inj:=fun i=> .int (0+(i:Nat))) (fun pre σ H'=>∃(o1 o2:Option V) (ms:List Int),σ=[some (.ref a),some (.ref b),some (.int m),some (.ref l0),o1,o2]/\pre=List.range pre.length/\Same H H'/\H' l0=some (.lst (ms.map V.int))/\ms.length=p.length+q.length/\∀i,co ms i=mu (p.take pre.length) (co q) i)
  ⟨_,_,List.replicate (p.length+q.length) 0,rfl,rfl,s4,Ah,by rw [List.length_replicate],fun i=> ?_⟩ ?_ ?_ ?_⟩
 . show _=0
   unfold co
   rw [List.getD_eq_getElem?_getD,List.getElem?_replicate]
   split<;>rfl
 . rintro pre σ H' _
   exact Fi
 . rintro pre e post σ H' he ⟨o1,o2,ms,rfl,hpre,s5,hm,hlm,hco⟩
   have hlen:=congrArg List.length he
   rw [List.length_range,List.length_append,List.length_cons]at hlen
   have ee:e=pre.length:=by
    have:=congrArg (fun l=>l[pre.length]?) he
    simp only [List.getElem?_append_right (Nat.le_refl _),Nat.sub_self,List.getElem?_cons_zero]at this
    rw [List.getElem?_range (by omega)]at this
    exact(Option.some.inj this).symm
   subst ee
   have hpp:pre++ [pre.length]=List.range (pre++ [pre.length]).length:=by
    rw [List.length_append,List.length_singleton,List.range_succ,<-hpre]
   have hk:pre.length<p.length:=by omega
   have ez:Sz n p[pre.length]:=mx _ (List.getElem_mem hk)
   try done
   refine⟨b,_,rfl,.inr (s5.tup hb),?_⟩
   repeat (first | done | simp only [List.length_map,Int.toNat_natCast,Int.zero_add])
   refine⟨by omega,by omega,Xb (es:=List.range q.length) (inj:=fun i=> .int (0+(i:Nat))) (fun pre2 σ H2=>∃(o2:Option V) (ms2:List Int),σ=[some (.ref a),some (.ref b),some (.int m),some (.ref l0),some (.int (pre.length:Nat)),o2]/\pre2=List.range pre2.length/\Same H H2/\H2 l0=some (.lst (ms2.map V.int))/\ms2.length=p.length+q.length/\
    ∀i,co ms2 i=mu (p.take pre.length) (co q) i+(if pre.length<=i then p[pre.length]*co (q.take pre2.length) (i-pre.length)else 0)) ⟨_,ms,rfl,rfl,s5,hm,hlm,fun i=> ?_⟩ ?_ ?_ ?_⟩
   . rw [hco,List.length_nil,List.take_zero,Br,Int.mul_zero]
     split<;>simp
   . rintro pre2 σ H2 _
     exact Fi
   . rintro pre2 f post2 σ H2 he2 ⟨o2,ms2,rfl,hpre2,s7,hm7,hlm2,hco2⟩
     have hlen2:=congrArg List.length he2
     rw [List.length_range,List.length_append,List.length_cons]at hlen2
     have ff:f=pre2.length:=by
      have:=congrArg (fun l=>l[pre2.length]?) he2
      simp only [List.getElem?_append_right (Nat.le_refl _),Nat.sub_self,List.getElem?_cons_zero]at this
      rw [List.getElem?_range (by omega)]at this
      exact(Option.some.inj this).symm
     subst ff
     have hpp2:pre2++ [pre2.length]=List.range (pre2++ [pre2.length]).length:=by
      rw [List.length_append,List.length_singleton,List.range_succ,<-hpre2]
     have hk2:pre2.length<q.length:=by omega
     have fz:Sz n' q[pre2.length]:=my _ (List.getElem_mem hk2)
     have hj:pre.length+pre2.length<ms2.length:=by omega
     repeat (first | done | simp only [Int.zero_add,<-Int.natCast_add])
     refine Jb (.of hm7) (Dp hj) (Gk (s7.tup ha) (Gq (Dp hk)) (Gk (s7.tup hb) (Gq (Dp hk2)) ?_))
     try done
     refine⟨ez.mulOk fz (by omega),Tn hm7 (by rw [List.length_map];exact hj) ?_⟩
     rw [Gz]
     refine⟨_,ms2.set (pre.length+pre2.length) (ms2[pre.length+pre2.length]+p[pre.length]*q[pre2.length]),rfl,hpp2,?_,Ah,by rw [List.length_set];exact hlm2,fun i=> ?_⟩
     . intro c o hc
       rw [Bb (Bj hc hnH)]
       exact s7 _ _ hc
     . rw [Ks _ _ _ hj,hco2 i,List.length_append,List.length_singleton]
       have tk:q.take (pre2.length+1)=q.take pre2.length++ [q[pre2.length]]:=by rw [List.take_succ,List.getElem?_eq_getElem hk2];rfl
       have tl:(q.take pre2.length).length=pre2.length:=by rw [List.length_take];omega
       rw [tk,Gs,tl]
       by_cases hi:i=pre.length+pre2.length
       . subst hi
         rw [if_pos rfl,<-Bt hj,hco2,if_pos (by omega),if_pos (by omega),if_pos (by omega),show pre.length+pre2.length-pre.length=pre2.length by omega,Bp (p:=q.take pre2.length) (by omega)]
         omega
       . rw [if_neg hi]
         by_cases hi2:pre.length<=i
         . rw [if_pos hi2,if_pos hi2,if_neg (by omega)]
         . rw [if_neg hi2,if_neg hi2]
   . rintro σ H2 ⟨o2,ms2,rfl,_,s7,hm7,hlm2,hco2⟩
     try done
     refine⟨_,_,ms2,rfl,hpp,s7,hm7,hlm2,fun i=> ?_⟩
     have tk:p.take (pre.length+1)=p.take pre.length++ [p[pre.length]]:=by rw [List.take_succ,List.getElem?_eq_getElem hk];rfl
     have tl:(p.take pre.length).length=pre.length:=by rw [List.length_take];omega
     rw [List.length_append,List.length_singleton,tk,Gv,hco2,tl,List.length_range,List.take_length]
 . rintro σ H' ⟨o1,o2,ms,rfl,_,s5,hm,hlm,hco⟩
   try done
   refine Ek (.inl (.of hm)) (Same.refl _) (by omega) m0 mk fun z H2 s6 i6=> ?_
   have e:md ms m=md (tm p q) m:=(Ln _ _).ext (Ln _ _) fun i=>by rw [G8,G8,Ec,hco,List.length_range,List.take_length]
   rw [e]at i6
   exact k z H2 (s5.trans s6) ⟨i6.1,i6.2.1,by have:=i6.2.2.1;omega,i6.2.2.2⟩
noncomputable def Ss (K:PySem.W.Frag):Sp:=fun vs H Q _=>∃(x y:V) (c m:Int) (p q:List Int) (l l' n n' k0:Nat),vs=[x,y,.int c,.int m]/\Po K H x p l n/\Po K H y q l' n'/\l<=400/\l'<=400/\n'<=1000000/\Sz 2 c/\0<m/\Sz k0 m/\∀z H' (r:List Int),Same H H'->Po K H' z r (max l l') k0->Cn m r->(∀i,co r i=(co p i+c*co q i)%m)->Q z H'
theorem Yd (p:List Int) (k i:Nat):co (p++List.replicate k 0) i=co p i:=by
 unfold co
 rw [List.getD_eq_getElem?_getD,List.getD_eq_getElem?_getD]
 by_cases h:i<p.length
 . rw [List.getElem?_append_left h]
 . rw [List.getElem?_append_right (by omega),List.getElem?_eq_none (l:=p) (by omega),List.getElem?_replicate]
   split<;>rfl
theorem Xi {f:Addr}{fd:FuncData} (F:Df K mg "_law_sum" Nj ["_law_one","_law_other","_law_way","_law_m"] f fd) (z_max:mg "max"=none) (z_len:mg "len"=none) (z_list:mg "list"=none) (z_range:mg "range"=none)  (c_q_poly:Cal P w K mg base 33 "_law_poly" ["_law_weights","_law_m"] (Eo K)):Cal P w K mg base 34 "_law_sum" ["_law_one","_law_other","_law_way","_law_m"] (Ss K):=by
 refine F.cal (F.fn.ok Kc (fun vs H Q E h=> ?_) (fun cdv A outer s H vs Q E hr h=> ?_))
 . obtain⟨x,y,c,m,p,q,_,_,_,_,_,rfl,_⟩:=h
   rfl
 obtain⟨x,y,c,m,p,q,l,l',n,n',k0,rfl,⟨⟨a,rfl,ha⟩,tp,lp,zp⟩,⟨⟨b,rfl,hb⟩,tq,lq,zq⟩,l5,l5',hn',hc,m0,mk,k⟩:=h
 have sz5:1000<=sizeLine:=by decide
 refine Ay ⟨_,(Ad (Ai 4 Kc.nd (Ar (Om rfl) rfl z_max PyProof.Rows.boot_max (Aa (Ar Al rfl z_len PySem.boot_len (Aa (Ae 0) Ab)) (Aa (Ar Al rfl z_len PySem.boot_len (Aa (Ae 1) Ab)) Ab))))
  (Ad (Ai 5 Kc.nd (Af R3 (Dz El rfl z_list PyProof.Rows.boot_list (Aa (Ae 0) Ab)) (Af Ma (Bv (Aa Ac Ab)) (Af Dw (Ae 4) (Ar Al rfl z_len PySem.boot_len (Aa (Ae 0) Ab))))))
  (Ad (Ai 6 Kc.nd (Af R3 (Dz El rfl z_list PyProof.Rows.boot_list (Aa (Ae 1) Ab)) (Af Ma (Bv (Aa Ac Ab)) (Af Dw (Ae 4) (Ar Al rfl z_len PySem.boot_len (Aa (Ae 1) Ab))))))
  (Ag (Am (Ak c_q_poly hr (Aa (Jc (ts:=["_law_k"]) (fs:=[(5,"_law_first"),(2,"_law_way"),(6,"_law_second")]) rfl (Di.of (sc:=Ao Nj) (N:=["_law_one","_law_other","_law_way","_law_m","_law_many","_law_first","_law_second"]) rfl rfl (by decide+kernel)) (Du rfl z_range (Aa (Ae 4) Ab)) (fun _ _ _=>(Ba 0 (show List.Nodup (["_law_k","_law_first","_law_way","_law_second"]:List Str)by decide+kernel))) (fun _ _ _=>Hw) (fun _ _ _=>(Af Cm (Aq (Ru K) (Ae 1) (Ae 0) (fun _ _=>rfl)) (Af Cj (Ae 2) (Aq (Ru K) (Ae 3) (Ae 0) (fun _ _=>rfl)))))) (Aa (Ae 3) Ab)))))))),?_⟩
 done
 refine⟨a,_,rfl,.inr ha,b,_,rfl,.inr hb,?_⟩
 repeat (first | done | simp only [List.length_map,Zw])
 refine⟨a,_,rfl,.inr ha,fun l1 hn1 p1 hp1=> ?_⟩
 have s1:=Same.upd hn1 (.lst (p.map V.int))
 have s2:=s1.trans (Same.upd hp1 (.lst [V.int 0]))
 refine⟨a,_,rfl,.inr (s2.tup ha),?_⟩
 have e1:(((max p.length q.length:Nat):Int)-((p.map V.int).length:Nat)).toNat=max p.length q.length-p.length:=by rw [List.length_map];omega
 refine⟨p1,_,[V.int 0],rfl,rfl,Ah,by rw [List.length_map];omega,by rw [List.length_map];omega,by rw [e1];simp only [List.length_cons,List.length_nil];omega,fun l2 hn2=> ?_⟩
 rw [e1,Hq]
 have n1:l1≠p1:=fun z=>by rw [<-z,Ah]at hp1;cases hp1
 have n2:l1≠l2:=fun z=>by rw [<-z,Bb n1,Ah]at hn2;cases hn2
 have s3:=s2.trans (Same.upd hn2 (.lst ((List.replicate (max p.length q.length-p.length) (0:Int)).map V.int)))
 refine⟨l1,l2,_,_,rfl,rfl,(Bb n2).trans ((Bb n1).trans Ah),Ah,by rw [List.length_map,List.length_map,List.length_replicate];omega,fun l3 hn3=> ?_⟩
 rw [<-List.map_append]
 have s4:=s3.trans (Same.upd hn3 (.lst ((p++List.replicate (max p.length q.length-p.length) 0).map V.int)))
 try done
 refine⟨b,_,rfl,.inr (s4.tup hb),fun l4 hn4 p2 hp2=> ?_⟩
 have s5:=Same.upd hn4 (.lst (q.map V.int))
 have s6:=s5.trans (Same.upd hp2 (.lst [V.int 0]))
 refine⟨b,_,rfl,.inr ((s4.trans s6).tup hb),?_⟩
 have e2:(((max p.length q.length:Nat):Int)-((q.map V.int).length:Nat)).toNat=max p.length q.length-q.length:=by rw [List.length_map];omega
 refine⟨p2,_,[V.int 0],rfl,rfl,Ah,by rw [List.length_map];omega,by rw [List.length_map];omega,by rw [e2];simp only [List.length_cons,List.length_nil];omega,fun l5 hn5=> ?_⟩
 rw [e2,Hq]
 have n4:l4≠p2:=fun z=>by rw [<-z,Ah]at hp2;cases hp2
 have n5:l4≠l5:=fun z=>by rw [<-z,Bb n4,Ah]at hn5;cases hn5
 have s7:=s6.trans (Same.upd hn5 (.lst ((List.replicate (max p.length q.length-q.length) (0:Int)).map V.int)))
 refine⟨l4,l5,_,_,rfl,rfl,(Bb n5).trans ((Bb n4).trans Ah),Ah,by rw [List.length_map,List.length_map,List.length_replicate];omega,fun l6 hn6=> ?_⟩
 rw [<-List.map_append]
 have s8:=s7.trans (Same.upd hn6 (.lst ((q++List.replicate (max p.length q.length-q.length) 0).map V.int)))
 have g3:=s8 l3 _ Ah
 repeat (first | done | simp only [Int.toNat_natCast])
 refine⟨by omega,by omega,fun l7 hn7=>Kr (es:=List.range (max p.length q.length)) (inj:=fun i=> .int (0+(i:Nat))) (fun i=> .int (co p i+c*co q i)) (by rw [List.length_range];omega) hn7 S6 ?_ ?_⟩
 . intro e H2 R he s9 hR
   have he':=List.mem_range.mp he
   have q1:e<(p++List.replicate (max p.length q.length-p.length) 0).length:=by rw [List.length_append,List.length_replicate];omega
   have q2:e<(q++List.replicate (max p.length q.length-q.length) 0).length:=by rw [List.length_append,List.length_replicate];omega
   repeat (first | done | simp only [Int.zero_add])
   refine Jb (.of (s9 _ _ g3)) (Dp q1) (Jb (.of (s9 _ _ Ah)) (Dp q2) ?_)
   try done
   rw [<-Bt q1,<-Bt q2,Yd,Yd]
   exact⟨hc.mulOk (zq e) (by omega),hR _ (Same.refl _)⟩
 . intro H2 s9 h9
   have em:(List.range (max p.length q.length)).map (fun i=>V.int (co p i+c*co q i))=((List.range (max p.length q.length)).map fun i=>co p i+c*co q i).map V.int:=by rw [List.map_map];rfl
   rw [em]at h9
   try done
   refine Ek (.inl (.of h9)) (Same.refl _) (by rw [List.length_map,List.length_range];omega) m0 mk fun z H3 s10 i10=> ?_
   refine k z H3 _ (((s4.trans s8).trans s9).trans s10) ⟨i10.1,i10.2.1,by have:=i10.2.2.1;rw [List.length_map,List.length_range]at this;omega,i10.2.2.2⟩ (Io m0 _) fun i=> ?_
   rw [G8]
   congr 1
   by_cases hi:i<max p.length q.length
   . rw [Bt (by rw [List.length_map,List.length_range];exact hi)]
     simp
   . rw [Bp (by rw [List.length_map,List.length_range];omega),Bp (p:=p) (by omega),Bp (p:=q) (by omega)]
     simp
noncomputable def Ej (_:PySem.W.Frag):Sp:=fun vs H Q _=>∃(a b:Int),vs=[.int a,.int b]/\0<=b/\Q (.int ((Int.gcd a b:Nat):Int)) H
theorem Ji {f:Addr}{fd:FuncData} (F:Df K mg "_law_divides_both" Es ["_law_one","_law_other"] f fd) (z_abs:mg "abs"=none)   :Cal P w K mg base 33 "_law_divides_both" ["_law_one","_law_other"] (Ej K):=by
 refine F.cal (F.fn.ok Gh (fun vs H Q E h=> ?_) (fun cdv A outer s H vs Q E hr h=> ?_))
 . obtain⟨a,b,rfl,_⟩:=h
   rfl
 obtain⟨a,b,rfl,b0,q⟩:=h
 refine Ay ⟨_,(Ad (Bs PassesOwn.never (Aj M8 (Ae 1) Ac (Az _)) (Ag (Hj (i:=0) (j:=1) rfl Gh.nd rfl rfl (by decide) rfl rfl (Aa (Ae 1) (Aa (Af Cz (Ae 0) (Ae 1)) Ab)) rfl)))
  (Ag (Am (Ar Wy rfl z_abs PyProof.Rows.boot_abs (Aa (Ae 0) Ab))))),?_⟩
 done
 refine G4 (fun σ H'=>H'=H/\∃x y:Int,σ=[some (.int x),some (.int y)]/\0<=y/\Int.gcd x y=Int.gcd a b) (fun σ _=>match σ with | [_,some (.int y)]=>y.toNat | _=>0) ⟨rfl,a,b,rfl,b0,rfl⟩ ?_
 rintro σ H' ⟨rfl,x,y,rfl,y0,hg⟩
 done
 by_cases hy:y=0
 . rw [if_pos hy]
   subst hy
   rw [Int.gcd_zero_right]at hg
   repeat (first | done | simp only [abs_eq])
   rw [hg]
   exact q
 . rw [if_neg hy]
   refine Q8 ?_
   try done
   have r0:=Int.emod_nonneg x hy
   have r1:=Int.emod_lt_of_pos x (by omega:0<y)
   refine⟨by omega,⟨_,_,rfl,r0,?_⟩,by omega⟩
   have e:x%y=x-x/y*y:=by
    have:=Int.mul_ediv_add_emod x y
    rw [Int.mul_comm]at this
    omega
   rw [e,Jg]
   exact hg
theorem X4 {H:Hp}{Q:VK}{x y:Str}:rEq (.str x) (.str y) H Q=Q (.bl (decide (x=y))) H:=by
 unfold rEq
 simp only [Yz,V.str.injEq,true_and]
theorem Aes {H:Hp}{Q:VK}{x y:Str}:rNe (.str x) (.str y) H Q=Q (.bl (!decide (x=y))) H:=by
 unfold rNe
 simp only [Yz,V.str.injEq,true_and]
inductive TyA (K:PySem.W.Frag) (H:Hp):V->Value->Prop where
 | of {v:V}{t:Value} (h:Rk K H v t):TyA K H v t
 | tup {a:Addr}{xs:List V} (h:SqT K H a xs):TyA K H (.ref a) (.type "tuple")
theorem Rm {X:Cx}:Gm X (.builtin "isinstance") (fun xs H Q=>∃x t T b,xs=[x,.ty T]/\TyA X.K H x t/\PySem.W.kitOne X.K t (.type T)=some b/\Q (.bl b) H):=by
 intro pins s σ H xs us Q I r h
 obtain⟨x,t,T,b,rfl,ht,hk,q⟩:=h
 cases ht with
 | of ht=>exact W0 pins s σ H _ us Q I r ⟨x,t,T,b,rfl,ht,hk,q⟩
 | tup hs=>exact Wz pins s σ H _ us Q I r ⟨_,_,T,b,rfl,hs,hk,q⟩
theorem isa {H:Hp}{GB:Bool->Prop}{v:V}{t:Value}{T:String}{b:Bool} (ht:TyA K H v t) (hk:PySem.W.kitOne K t (.type T)=some b) (q:GB b):
 ∃x t' T' b',[v,V.ty T]=[x,V.ty T']/\TyA K H x t'/\PySem.W.kitOne K t' (.type T')=some b'/\GB b':=⟨v,t,T,b,rfl,ht,hk,q⟩
theorem Yi:PySem.W.kitOne K (.type "tuple") (.type "tuple")=some true:=Afe (by decide+kernel)
theorem Ie {m:Int}{p:List Int} (h:Cn m p):md p m=p:=(Ln _ _).ext h.1 fun i=>by
 rw [G8]
 exact Int.emod_eq_of_lt (h.2 i).1 (h.2 i).2
theorem Mh (p q:List Int):SeqAt.shaped (.tuple [.tuple (p.map PyData.int),.tuple (q.map PyData.int)])=true:=by
 simp [SeqAt.shaped,PyData.canLay0,PyData.canLayAll0,PyData.depth,PyData.depthAll,PySem.W.ke_canLayAll0,PySem.W.ke_depthAll]
theorem Abk {H:Hp}{R:VK}{a b a1 a2 b1 b2:Addr}{p q:List Int} (ha:SqT K H a [.ref a1,.ref a2]) (hb:SqT K H b [.ref b1,.ref b2]) (h1:SqT K H a1 (p.map V.int)) (h2:SqT K H a2 (q.map V.int)) (h3:SqT K H b1 (p.map V.int)) (h4:SqT K H b2 (q.map V.int)) (h:R (.bl false) H):Ac5 K (fun b=> !b) (.ref a) (.ref b) H R:=
 ⟨_,_,.tup ha (.cons (.ints h1) (.cons (.ints h2) .nil)),.tup hb (.cons (.ints h3) (.cons (.ints h4) .nil)),Mh p q,Mh p q,by
  simp only [PyData.eqv,PyData.eqvAll,Iu,decide_true,Bool.and_self,Bool.not_true]
  exact h⟩
noncomputable def Gj (K:PySem.W.Frag):Sp:=fun vs H Q _=>∃(x y:V) (m:Int) (p q:List Int),vs=[x,y,.int m]/\Po K H x p 9 41/\Po K H y q 9 41/\Cn m p/\Cn m q/\1<m/\Sz 41 m/\∀H',Same H H'->Q (.bl true) H'
theorem Jj {f:Addr}{fd:FuncData} (F:Df K mg "_law_parted_right" Et ["_law_one","_law_other","_law_m"] f fd) (z_isinstance:mg "isinstance"=none) (z_tuple:mg "tuple"=none) (z_len:mg "len"=none) (xk_CourtError:N5 K (cA K "CourtError")) (xm_CourtError:mg "CourtError"=some (.ref (cA K "CourtError"))) (xk_NoPart:N5 K (cA K "NoPart")) (xi_NoPart:Qc K (cA K "NoPart")) (xs_NoPart_CourtError:PySem.W.mroIn K (cA K "NoPart") (.ref (cA K "CourtError"))=some true) (xm_NoPart:mg "NoPart"=some (.ref (cA K "NoPart"))) (ki_NoPart_NoPart:PySem.W.kitOne K (.ref (cA K "NoPart")) (.ref (cA K "NoPart"))=some true) (xm_NoFree:mg "NoFree"=some (.ref (cA K "NoFree"))) (ki_NoPart_NoFree:PySem.W.kitOne K (.ref (cA K "NoPart")) (.ref (cA K "NoFree"))=some false) (xm_TooGreat:mg "TooGreat"=some (.ref (cA K "TooGreat"))) (ki_NoPart_TooGreat:PySem.W.kitOne K (.ref (cA K "NoPart")) (.ref (cA K "TooGreat"))=some false) (ce_m_parted:Ny P w K mg base 35 "m_parted" ["one","other","m"] (Hu K)) (c_q_sum:Cal P w K mg base 34 "_law_sum" ["_law_one","_law_other","_law_way","_law_m"] (Ss K)) (c_q_divides_both:Cal P w K mg base 33 "_law_divides_both" ["_law_one","_law_other"] (Ej K)) (c_q_poly:Cal P w K mg base 33 "_law_poly" ["_law_weights","_law_m"] (Eo K)) (c_q_product:Cal P w K mg base 34 "_law_product" ["_law_one","_law_other","_law_m"] (Dl K)):Cal P w K mg base 36 "_law_parted_right" ["_law_one","_law_other","_law_m"] (Gj K):=by
 refine F.cal (F.fn.ok Bo (fun vs H Q E h=> ?_) (fun cdv A outer s H vs Q E hr h=> ?_))
 . obtain⟨x,y,m,p,q,rfl,_⟩:=h
   rfl
 obtain⟨x,y,m,p,q,rfl,hx,hy,cp,cq,hm,mk,k⟩:=h
 obtain⟨⟨a,rfl,ha⟩,tp,lp,zp⟩:=id hx
 obtain⟨⟨b,rfl,hb⟩,tq,lq,zq⟩:=id hy
 have m0:0<m:=by omega
 refine Ay ⟨_,(Ad (Ai 3 Bo.nd Ob)
  (Ad (Ai 4 Bo.nd Cu)
  (Ad (Ls (i:=5) (Cs:=[cA K "NoPart"]) ce_m_parted (hr.mono (by decide)) (Aa (Ae 0) (Aa (Ae 1) (Aa (Ae 2) Ab))) (Kl (i:=3) Bo.nd rfl (Or.inl rfl)) xk_CourtError xm_CourtError (Ae4 ⟨xk_NoPart,xi_NoPart,xs_NoPart_CourtError⟩ Ae5) (fun Cx hxi x oe hc=>(Ad (Ai 4 Bo.nd Cu)
  (Ag (Bf (Cp (Cy (Cw (Ar (Ge (List.mem_cons_self ..) hc hxi) rfl z_isinstance PyProof.Rows.boot_isinstance (Aa (Ae 5) (Aa (Ez (v:= .ref (cA K "NoPart")) rfl xm_NoPart rfl) Ab)))) (Cy (Dq (Cw (Ar (Ge (List.mem_cons_self ..) hc hxi) rfl z_isinstance PyProof.Rows.boot_isinstance (Aa (Ae 5) (Aa (Ez (v:= .ref (cA K "NoFree")) rfl xm_NoFree rfl) Ab))))) (Dh (Dq (Cw (Ar (Ge (List.mem_cons_self ..) hc hxi) rfl z_isinstance PyProof.Rows.boot_isinstance (Aa (Ae 5) (Aa (Ez (v:= .ref (cA K "TooGreat")) rfl xm_TooGreat rfl) Ab))))))))) (Ag (Ai 4 Bo.nd Cu)) Ax)))) Bo.nd rfl)
  (Ad (Bf (Cp (Gp (Aj (Fv hr.units) (Ae 1) (Av Ab) (Az _)) (Hl (Aj M8 (Ak c_q_divides_both hr (Aa (Aq Ef (Ae 1) (Dj Fz Ac) (fun _ _=>rfl)) (Aa (Ae 2) Ab))) Ac (Az _))))) (Ag (Am (Dd Lp (Ae 4) Cu (Az _)))) Ax)
  (Ad (Bf (Cp (Gp (Aj M8 (Ae 4) Cu (Az _)) (Gp (Dq (Cw (Ar Rm rfl z_isinstance PyProof.Rows.boot_isinstance (Aa (Ae 3) (Aa (Lr (v:= .ty "tuple") rfl z_tuple PyProof.Rows.boot_tuple rfl) Ab))))) (Gp (Aj M8 (Ar Al rfl z_len PySem.boot_len (Aa (Ae 3) Ab)) Ac (Az _)) (Hl (Aj Z0 (Ar Al rfl z_len PySem.boot_len (Aa (Aq Ef (Ae 3) Ac (fun _ _=>rfl)) Ab)) (Ar Al rfl z_len PySem.boot_len (Aa (Ae 1) Ab)) (Az _))))))) (Ag (Am Ft)) Ax)
  (Ad (Bf (Aj (Vr hr.units) (Ae 3) (Av (Aa (Ak c_q_poly hr (Aa (Aq Ef (Ae 3) Ac (fun _ _=>rfl)) (Aa (Ae 2) Ab))) (Aa (Ak c_q_poly hr (Aa (Aq Ef (Ae 3) Ac (fun _ _=>rfl)) (Aa (Ae 2) Ab))) Ab))) (Az _)) (Ag (Am Ft)) Ax)
  (Ag (Am (Dd (Fv hr.units) (Ak c_q_sum hr (Aa (Ak c_q_product hr (Aa (Aq Ef (Ae 3) Ac (fun _ _=>rfl)) (Aa (Ae 1) (Aa (Ae 2) Ab)))) (Aa (Aq Ef (Ae 3) Ac (fun _ _=>rfl)) (Aa Ac (Aa (Ae 2) Ab))))) (Ae 0) (Az _)))))))))),?_⟩
 done
 refine⟨_,_,m,p,q,9,9,41,41,41,rfl,hx,hy,by decide,by decide,by decide,hm,mk,by decide,fun z H1 s1=> ?_,fun hq hg z H1 c d u r s1 hz iu ir he hlr ru rr=> ?_⟩
 . refine⟨_,rfl,List.mem_cons_self ..,fun x oe hc=> ?_⟩
   try done
   refine⟨true,.inl ⟨_,rfl,ki_NoPart_NoPart⟩,?_⟩
   try done
   refine⟨false,.inl ⟨_,rfl,ki_NoPart_NoFree⟩,?_⟩
   try done
   refine⟨false,.inl ⟨_,rfl,ki_NoPart_TooGreat⟩,?_⟩
   try done
   refine⟨by decide,fun e0 he0=> ?_⟩
   have s2:=s1.trans (Same.upd he0 (.tup []))
   refine Bk (ms:=[]) (s2.tup hb) (.of Ah) ?_
   try done
   by_cases hq:q=[]
   . rw [if_pos hq,X4,decide_eq_true rfl]
     exact k _ s2
   . rw [if_neg hq]
     refine Gk (s2.tup hb) (Ep hq) ?_
     try done
     refine⟨_,m,rfl,by omega,?_⟩
     try done
     have hg:Int.gcd (co q (q.length-1)) m≠1:=z.resolve_left hq
     rw [if_neg (by omega),X4,decide_eq_true rfl]
     exact k _ s2
 . try done
   refine⟨by decide,fun e0 he0=> ?_⟩
   have s2:=s1.trans (Same.upd he0 (.tup []))
   have t2:=Same.upd he0 (.tup [])
   refine Bk (ms:=[]) (s2.tup hb) (.of Ah) ?_
   try done
   rw [if_neg hq]
   refine Gk (s2.tup hb) (Ep hq) ?_
   try done
   refine⟨_,m,rfl,by omega,?_⟩
   try done
   rw [if_pos (by omega),Aes,decide_eq_true rfl]
   try done
   have hz2:=t2.tup hz
   refine isa (.tup hz2) Yi ?_
   try done
   refine⟨z,_,rfl,.inr hz2,?_⟩
   try done
   rw [if_pos (by decide)]
   obtain⟨⟨c',rfl,hc'⟩,tu,lu,zu⟩:=id iu
   obtain⟨⟨d',rfl,hd'⟩,tr,lr,zr⟩:=id ir
   have cu:Cn m u:=⟨tu,ru⟩
   have cr:Cn m r:=⟨tr,rr⟩
   refine Gk hz2 (at1 _ _ _) ?_
   try done
   refine⟨d',_,rfl,.inr (t2.tup hd'),?_⟩
   try done
   refine⟨b,_,rfl,.inr (s2.tup hb),?_⟩
   repeat (first | done | simp only [List.length_map])
   rw [if_neg (by omega)]
   refine Gk hz2 (at0 _ _) ?_
   try done
   refine Ek (.inr (t2.tup hc')) (Same.refl _) (by omega) m0 mk fun z1 H3 s3 i3=> ?_
   rw [Ie cu]at i3
   obtain⟨⟨w1,rfl,hw1⟩,_⟩:=i3
   try done
   refine Gk (s3.tup hz2) (at1 _ _ _) ?_
   try done
   refine Ek (.inr ((t2.trans s3).tup hd')) (Same.refl _) (by omega) m0 mk fun z2 H4 s4 i4=> ?_
   rw [Ie cr]at i4
   obtain⟨⟨w2,rfl,hw2⟩,_⟩:=i4
   try done
   intro w3 hw3
   have s5:=Same.upd hw3 (.tup [V.ref w1,V.ref w2])
   have s45:=s4.trans s5
   have s35:=s3.trans s45
   have t5:=t2.trans s35
   refine Abk (s35.tup hz2) (.of Ah) (t5.tup hc') (t5.tup hd') (s45.tup hw1) (s5.tup hw2) ?_
   try done
   refine Gk (s35.tup hz2) (at0 _ _) ?_
   try done
   refine⟨_,_,m,u,q,p.length,9,41,41,41,rfl,iu.mono t5,hy.mono (s1.trans t5),by omega,by decide,by decide,m0,mk,fun z3 H6 s6 i6=> ?_⟩
   try done
   refine Gk ((s35.trans s6).tup hz2) (at1 _ _ _) ?_
   try done
   refine⟨_,_,1,m,_,r,p.length+9,p.length,41,41,41,rfl,i6,ir.mono (t5.trans s6),by omega,by omega,by decide,by unfold Sz;decide,m0,mk,fun z4 H7 f s7 i7 cf hf=> ?_⟩
   obtain⟨⟨w4,rfl,hw4⟩,_⟩:=i7
   try done
   have ef:f=p:=cf.eq cp fun i=>by
    rw [hf,G8,Ec,Int.one_mul]
    have e1:=Int.mul_ediv_add_emod (mu u (co q) i) m
    have e2:=Int.mul_ediv_add_emod (mu u (co q) i%m+co r i) m
    obtain⟨w,hw⟩:=he i
    refine⟨-((mu u (co q) i%m+co r i)/m)-mu u (co q) i/m-w,?_⟩
    rw [Int.mul_sub,Int.mul_sub,Int.mul_neg]
    omega
   subst ef
   refine Bk hw4 (((s1.trans t5).trans (s6.trans s7)).tup ha) ?_
   rw [decide_eq_true rfl]
   exact k _ ((s1.trans t5).trans (s6.trans s7))
theorem Adf {n:Nat}{a:Int} (h:Sz n a) (l:n<=64):Builtin.Int.intBits a<=64:=Nat.le_trans (PySem.intBits_le_iff.mpr h) l
theorem Ade {x:Int} (h:x.natAbs<2^60):Builtin.Int.intBits x<=64:=Nat.le_trans (PySem.intBits_le_iff.mpr h) (by decide)
noncomputable def PrL:List Nat:=[2,3,5,7,11,13,17,31,47,97]
theorem Qw:∀t∈PrL,1<t/\t<100/\∀a,a<t->a≠0->Nat.gcd t a=1/\∃k,k<t/\0<k/\k*a%t=1:=by decide+kernel
theorem R6 {t:Int} (h:∃n∈PrL,t=(n:Nat)):Pr t:=by
 obtain⟨n,hn,rfl⟩:=h
 obtain⟨h1,h2,h3⟩:=Qw n hn
 refine⟨by omega,fun a ha=> ?_⟩
 have r0:=Int.emod_nonneg a (by omega:(n:Int)≠0)
 have r1:=Int.emod_lt_of_pos a (by omega:0<(n:Int))
 obtain⟨b,hb⟩:∃b:Nat,a%(n:Int)=b:=⟨(a%(n:Int)).toNat,by omega⟩
 have g:=Jg a (n:Int)
 have e:a-a/(n:Int)*(n:Int)=a%(n:Int):=by
  have:=Int.mul_ediv_add_emod a (n:Int)
  rw [Int.mul_comm]at this
  omega
 rw [e,hb]at g
 rw [<-g]
 have:=(h3 b (by omega) fun z=>ha (Int.dvd_of_emod_eq_zero (by rw [hb,z];rfl))).1
 rw [Int.gcd_natCast_natCast]
 exact this
theorem Gg {t:Int} (h:∃n∈PrL,t=(n:Nat)):1<t/\t<100:=by
 obtain⟨n,hn,rfl⟩:=h
 obtain⟨h1,h2,_⟩:=Qw n hn
 omega
noncomputable def Fy (_:PySem.W.Frag):Sp:=fun vs H Q _=>∃(a t:Int),vs=[.int a,.int t]/\(∃n∈PrL,t=(n:Nat))/\0<a/\a<t/\∀k:Int,0<=k->k<t->k*a%t=1->Q (.int k) H
theorem O1 {f:Addr}{fd:FuncData} (F:Df K mg "_law_inverse" Ii ["_law_figure","_law_t"] f fd) (z_range:mg "range"=none)   :Cal P w K mg base 33 "_law_inverse" ["_law_figure","_law_t"] (Fy K):=by
 refine F.cal (F.fn.ok Jw (fun vs H Q E h=> ?_) (fun cdv A outer s H vs Q E hr h=> ?_))
 . obtain⟨a,t,rfl,_⟩:=h
   rfl
 obtain⟨a,t,rfl,ht,a0,a1,q⟩:=h
 obtain⟨t1,t2⟩:=Gg ht
 obtain⟨n,hn,rfl⟩:=ht
 obtain⟨_,_,h3⟩:=Qw n hn
 obtain⟨b,rfl⟩:∃b:Nat,a=b:=⟨a.toNat,by omega⟩
 obtain⟨_,k0,k1,k2,k3⟩:=h3 b (by omega) (by omega)
 refine Ay ⟨_,(Ad (Cv PassesOwn.never rfl (Od rfl z_range (Aa Ac (Aa (Ae 1) Ab))) (Ba 2 Jw.nd) (Ag (Bf (Aj Lp (Af Cz (Af Cj (Ae 2) (Ae 0)) (Ae 1)) Ac (Az _)) (Ag (Am (Ae 2))) Ax)))
  (Ag (Am Ac))),?_⟩
 rw [Wo,T9]
 done
 refine⟨by omega,?_⟩
 refine Aa7 (n-1) (fun i=> .int (1+(i:Nat))) (fun i σ H'=>H'=H/\(∃o,σ=[some (.int (b:Nat)),some (.int (n:Nat)),o])/\i<k0) ⟨rfl,⟨_,rfl⟩,k2⟩ ?_ ?_ ?_
 . intro i σ H' _
   have e:((n:Int)-1).toNat=n-1:=by omega
   rw [e]
   exact Fi
 . rintro i σ H' hi ⟨rfl,⟨o,rfl⟩,hk⟩
   try done
   refine⟨.of_left (Ade (by omega)),by omega,?_⟩
   by_cases hc:(1+(i:Int))*(b:Nat)%(n:Nat)=1
   . rw [if_pos hc]
     exact q _ (by omega) (by omega) hc
   . rw [if_neg hc]
     refine⟨⟨_,rfl⟩,?_⟩
     refine Nat.lt_of_le_of_ne hk fun z=>hc ?_
     have:=congrArg (Nat.cast (R:=Int)) k3
     rw [<-z]at this
     push_cast at this
     rw [Int.add_comm]
     exact this
 . rintro σ H' ⟨rfl,_,hk⟩
   omega
theorem Yh {H:Hp}{p:Addr}{u v x y:V}{i j l m:Nat}{σ:St}{Q:St->Hp->Prop} (h:SqT K H p [u,v,x,y]) (q:Q ((((σ.set i (some u)).set j (some v)).set l (some x)).set m (some y)) H):Ac4 K 4 (Ot (Ig i) (Ot (Ig j) (Ot (Ig l) (Ot (Ig m) Ac3)))) (.ref p) σ H Q:=⟨p,_,rfl,h,rfl,u,_,rfl,v,_,rfl,x,_,rfl,y,_,rfl,rfl,q⟩
noncomputable def Lh (_:PySem.W.Frag):Sp:=fun vs H Q _=>∃(a m:Int),vs=[.int a,.int m]/\1<m/\Sz 41 m/\Int.gcd a m=1/\∀(k:Int) (H':Hp),Same H H'->0<=k->k<m->k*a%m=1->Q (.int k) H'
theorem Qq {f:Addr}{fd:FuncData} (F:Df K mg "_law_turned" Jo ["_law_figure","_law_m"] f fd)    :Cal P w K mg base 33 "_law_turned" ["_law_figure","_law_m"] (Lh K):=by
 refine F.cal (F.fn.ok Bx (fun vs H Q E h=> ?_) (fun cdv A outer s H vs Q E hr h=> ?_))
 . obtain⟨a,m,rfl,_⟩:=h
   rfl
 obtain⟨a,m,rfl,hm,mk,hg,q⟩:=h
 refine Ay ⟨_,(Ad (Ea (Av (Aa (Af Cz (Ae 0) (Ae 1)) (Aa (Ae 1) (Aa Ac (Aa Ac Ab))))) (Gd rfl (Bd (Ba 2 Bx.nd) (Bd (Ba 3 Bx.nd) (Bd (Ba 4 Bx.nd) (Bd (Ba 5 Bx.nd) Fb))))))
  (Ad (Bs PassesOwn.never (Aj O5 (Ae 3) Ac (Az _)) (Ad (Ai 6 Bx.nd (Af Eb (Ae 2) (Ae 3)))
  (Ag (Ea (Av (Aa (Ae 3) (Aa (Af Dw (Ae 2) (Af Cj (Ae 6) (Ae 3))) (Aa (Ae 5) (Aa (Af Dw (Ae 4) (Af Cj (Ae 6) (Ae 5))) Ab))))) (Gd rfl (Bd (Ba 2 Bx.nd) (Bd (Ba 3 Bx.nd) (Bd (Ba 4 Bx.nd) (Bd (Ba 5 Bx.nd) Fb)))))))))
  (Ag (Am (Af Cz (Ae 4) (Ae 1)))))),?_⟩
 have m0:=Int.emod_nonneg a (by omega:m≠0)
 have m1:=Int.emod_lt_of_pos a (by omega:0<m)
 done
 refine⟨by omega,by decide,fun p hp=>Yh (.of Ah) ?_⟩
 have s1:=Same.upd hp (.tup [V.int (a%m),V.int m,V.int 1,V.int 0])
 try done
 refine G4 (fun σ H'=>Same H H'/\∃(g l x y:Int) (o:Option V),σ=[some (.int a),some (.int m),some (.int g),some (.int l),some (.int x),some (.int y),o]/\0<=g/\g<=m/\0<=l/\l<=m/\Int.gcd g l=1/\m∣x*a-g/\m∣y*a-l)
  (fun σ _=>match σ with | [_,_,_,some (.int l),_,_,_]=>l.toNat | _=>0) ⟨s1,a%m,m,1,0,_,rfl,m0,by omega,by omega,by omega,?_,⟨a/m,?_⟩,⟨-1,by omega⟩⟩ ?_
 . have e:a%m=a-a/m*m:=by
    have:=Int.mul_ediv_add_emod a m
    rw [Int.mul_comm]at this
    omega
   rw [Int.gcd_comm,e,Jg]
   exact hg
 . have:=Int.mul_ediv_add_emod a m
   omega
 rintro σ H' ⟨s2,g,l,x,y,o,rfl,g0,gm,l0,lm,hgl,hx,hy⟩
 done
 by_cases hl:0<l
 . rw [if_pos hl]
   refine Q8 ?_
   try done
   have q0:0<=g/l:=Int.ediv_nonneg g0 l0
   have q1:g/l<=g:=Int.ediv_le_self _ g0
   have zl:Sz 41 l:=mk.of_abs (by omega)
   have zq:Sz 41 (g/l):=mk.of_abs (by omega)
   have e1:g-g/l*l=g%l:=by
    have:=Int.mul_ediv_add_emod g l
    rw [Int.mul_comm]at this
    omega
   have r0:=Int.emod_nonneg g (by omega:l≠0)
   have r1:=Int.emod_lt_of_pos g hl
   refine⟨⟨hl,zl.log2 (by omega) (by decide)⟩,zq.mulOk zl (by decide),.of_left (Adf zq (by decide)),by decide,fun p2 hp2=>Yh (.of Ah) ?_⟩
   refine⟨⟨s2.trans (Same.upd hp2 _),_,_,_,_,_,rfl,l0,lm,by omega,by omega,(Jg g l).trans hgl,hy,?_⟩,by show(g-g/l*l).toNat<l.toNat;omega⟩
   obtain⟨c,hc⟩:=hx
   obtain⟨d,hd⟩:=hy
   refine⟨c-g/l*d,?_⟩
   have ex:x*a=m*c+g:=by omega
   have ey:y*a=m*d+l:=by omega
   rw [Int.sub_mul,Int.mul_assoc,ex,ey]
   grind
 . rw [if_neg hl]
   have l00:l=0:=by omega
   subst l00
   have g1:g=1:=by
    rw [Int.gcd_zero_right]at hgl
    omega
   subst g1
   try done
   refine⟨by omega,q _ _ s2 (Int.emod_nonneg _ (by omega)) (Int.emod_lt_of_pos _ (by omega)) ?_⟩
   obtain⟨c,hc⟩:=hx
   have e:x%m*a=1+m*(c-x/m*a):=by
    have:=Int.mul_ediv_add_emod x m
    have e2:x%m=x-m*(x/m):=by omega
    rw [e2]
    grind
   rw [e,Int.add_mul_emod_self_left]
   exact Int.emod_eq_of_lt (by decide) hm
theorem Pb {m f iv:Int}{p q rs ms:List Int} (hm:1<m) (hq:q≠ []) (hn:q.length<=rs.length) (hiv:iv*co q (q.length-1)%m=1) (hf:f=co rs (rs.length-1)*iv%m) (hc:Cg m q p rs)
 (hms:∀i,co ms i=if rs.length-q.length<=i/\i<rs.length then(co rs i-f*co q (i-(rs.length-q.length)))%m else co rs i) (hl:ms.length=rs.length):Cg m q p ms.dropLast:=by
 refine hc.trans ⟨List.replicate (rs.length-q.length) 0++ [f],fun i=> ?_⟩
 have hql:=List.length_pos_iff.mpr hq
 rw [Gv,Ox,Int.zero_add,List.length_replicate,List.dropLast_eq_take,Ku,hl,hms]
 by_cases h1:rs.length-q.length<=i
 . rw [if_pos h1]
   by_cases h2:i<rs.length-1
   . rw [if_pos h2,if_pos ⟨h1,by omega⟩]
     generalize co rs i=x
     generalize f*co q (i-(rs.length-q.length))=y
     exact⟨(x-y)/m,by have:=Int.mul_ediv_add_emod (x-y) m;omega⟩
   . rw [if_neg h2,Int.sub_zero]
     by_cases h3:i=rs.length-1
     . subst h3
       rw [show rs.length-1-(rs.length-q.length)=q.length-1 by omega,hf]
       exact Rt hiv hm
     . rw [Bp (p:=rs) (by omega),Bp (p:=q) (by omega)]
       simp
 . rw [if_neg h1,if_pos (by omega),if_neg (fun z=>h1 z.1)]
   simp
theorem Sd {m f:Int} (m0:0<m) {q rs ms:List Int} (hr:∀i,0<=co rs i/\co rs i<m) (hms:∀i,co ms i=if rs.length-q.length<=i/\i<rs.length then(co rs i-f*co q (i-(rs.length-q.length)))%m else co rs i) (i:Nat):0<=co ms.dropLast i/\co ms.dropLast i<m:=by
 rw [List.dropLast_eq_take,Ku]
 split
 . rw [hms]
   split
   . exact⟨Int.emod_nonneg _ (by omega),Int.emod_lt_of_pos _ m0⟩
   . exact hr i
 . omega
noncomputable def RsR (K:PySem.W.Frag) (m:Int) (p q:List Int) (Q:VK) (H:Hp):Prop:=∀(z:V) (H':Hp) (r:List Int),Same H H'->Po K H' z r q.length 41->Rem m q p r->Q z H'
noncomputable def Jy (K:PySem.W.Frag):Sp:=fun vs H Q _=>∃(x y:V) (m:Int) (p q:List Int),vs=[x,y,.int m]/\Po K H x p 60 41/\Po K H y q 60 41/\Cn m p/\Cn m q/\1<m/\Sz 41 m/\q≠ []/\Int.gcd (co q (q.length-1)) m=1/\RsR K m p q Q H
theorem O4 {f:Addr}{fd:FuncData} (F:Df K mg "_law_rest_by" Ik ["_law_one","_law_by","_law_m"] f fd) (z_list:mg "list"=none) (z_len:mg "len"=none) (z_range:mg "range"=none)  (c_q_turned:Cal P w K mg base 33 "_law_turned" ["_law_figure","_law_m"] (Lh K)) (c_q_poly:Cal P w K mg base 33 "_law_poly" ["_law_weights","_law_m"] (Eo K)):Cal P w K mg base 34 "_law_rest_by" ["_law_one","_law_by","_law_m"] (Jy K):=by
 refine F.cal (F.fn.ok Dy (fun vs H Q E h=> ?_) (fun cdv A outer s H vs Q E hr h=> ?_))
 . obtain⟨x,y,m,p,q,rfl,_⟩:=h
   rfl
 obtain⟨x,y,m,p,q,rfl,hx,hy,cp,cq,hm,mk,hq,hg,k⟩:=h
 obtain⟨⟨a,rfl,ha⟩,tp,lp,zp⟩:=id hx
 obtain⟨⟨b,rfl,hb⟩,tq,lq,zq⟩:=id hy
 refine Ay ⟨_,(Ad (Ai 3 Dy.nd (Dz El rfl z_list PyProof.Rows.boot_list (Aa (Ae 0) Ab)))
  (Ad (Ai 4 Dy.nd (Ak c_q_turned hr (Aa (Aq Ef (Ae 1) (Dj Fz Ac) (fun _ _=>rfl)) (Aa (Ae 2) Ab))))
  (Ad (Bs PassesOwn.never (Aj Z0 (Ar Al rfl z_len PySem.boot_len (Aa (Ae 3) Ab)) (Ar Al rfl z_len PySem.boot_len (Aa (Ae 1) Ab)) (Az _)) (Ad (Ai 5 Dy.nd (Af Cz (Af Cj (Aq Bh (Ae 3) (Dj Fz Ac) (fun _ _=>rfl)) (Ae 4)) (Ae 2)))
  (Ad (Cv PassesOwn.never rfl (Du rfl z_range (Aa (Ar Al rfl z_len PySem.boot_len (Aa (Ae 1) Ab)) Ab)) (Ba 6 Dy.nd) (Ad (Ai 7 Dy.nd (Af Cm (Af Dw (Ar Al rfl z_len PySem.boot_len (Aa (Ae 3) Ab)) (Ar Al rfl z_len PySem.boot_len (Aa (Ae 1) Ab))) (Ae 6)))
  (Ag (Ea (Af Cz (Af Dw (Aq Bh (Ae 3) (Ae 7) (fun _ _=>rfl)) (Af Cj (Ae 5) (Aq Ef (Ae 1) (Ae 6) (fun _ _=>rfl)))) (Ae 2)) (Fl (Ae 3) (Ae 7) set_list)))))
  (Ag (Hv (Oa PySem.F.plainAttrs_list PySem.F.slot_list_pop PySem.F.type_list_pop Yj (Ae 3)))))))
  (Ag (Am (Ak c_q_poly hr (Aa (Ae 3) (Aa (Ae 2) Ab)))))))),?_⟩
 refine Bm (fun σ' H'=>Same H H'/\∃l0,H l0=none/\σ'=[some (.ref a),some (.ref b),some (.int m),some (.ref l0),none,none,none,none]/\H' l0=some (.lst (p.map V.int))) (fun N hN=> ?_) ?_
 . done
   exact⟨a,_,rfl,.inr ha,fun l0 h0=>hN _ _ ⟨Same.upd h0 _,l0,h0,rfl,Ah⟩⟩
 rintro σ H0 ⟨s0,l0,nl0,rfl,hl0⟩
 refine Bm (fun σ' H'=>Same H0 H'/\∃iv,σ'=[some (.ref a),some (.ref b),some (.int m),some (.ref l0),some (.int iv),none,none,none]/\0<=iv/\iv<m/\iv*co q (q.length-1)%m=1) (fun N hN=> ?_) ?_
 . done
   refine Gk (s0.tup hb) (Ep hq) ?_
   try done
   exact⟨_,m,rfl,hm,mk,hg,fun iv H' s1 i0 i1 i2=>hN _ _ ⟨s1,iv,rfl,i0,i1,i2⟩⟩
 rintro σ H1 ⟨s01,iv,rfl,iv0,iv1,hiv⟩
 have s1:=s0.trans s01
 replace hl0:=s01 _ _ hl0
 have m0:0<m:=by omega
 have hql:=List.length_pos_iff.mpr hq
 have sz5:1000<=sizeLine:=by decide
 rw [Wo]
 refine Nv (fun n σ H'=>Same H H'/\∃(rs:List Int) (o5 o6 o7:Option V),σ=[some (.ref a),some (.ref b),some (.int m),some (.ref l0),some (.int iv),o5,o6,o7]/\H' l0=some (.lst (rs.map V.int))/\n=rs.length/\rs.length<=100/\(∀i,0<=co rs i/\co rs i<m)/\Cg m q p rs) _ ⟨s1,p,_,_,_,rfl,hl0,rfl,by omega,cp.2,.refl _ _ _⟩ ?_
 rintro n σ H' ⟨s2,rs,o5,o6,o7,rfl,h2,rfl,hlr,hrs,hcg⟩
 done
 refine⟨l0,_,rfl,.inl (.of h2),b,_,rfl,.inr (s2.tup hb),?_⟩
 repeat (first | done | simp only [List.length_map])
 by_cases hc:((q.length:Nat):Int)<=(rs.length:Nat)
 . rw [if_pos hc]
   refine X3 ?_
   have hn:q.length<=rs.length:=by omega
   have hrn:rs≠ []:=fun z=>by rw [z]at hn;simp at hn;exact hq hn
   obtain⟨f,hf⟩:∃f,f=co rs (rs.length-1)*iv%m:=⟨_,rfl⟩
   have zf:Sz 41 f:=by rw [hf];exact Sv m0 mk _
   refine Bm (fun σ' H2=>H2=H'/\σ'=[some (.ref a),some (.ref b),some (.int m),some (.ref l0),some (.int iv),some (.int f),o6,o7]) (fun N hN=> ?_) ?_
   . done
     refine Nx (.of h2) (Ep hrn) ?_
     try done
     have:=hrs (rs.length-1)
     refine⟨(mk.of_abs (by omega):Sz 41 (co rs (rs.length-1))).mulOk (mk.of_abs (by omega):Sz 41 iv) (by decide),m0,?_⟩
     rw [<-hf]
     exact hN _ _ ⟨rfl,rfl⟩
   rintro σ H3 ⟨rfl,rfl⟩
   refine Bm (fun σ' H2=>Same H H2/\∃(ms:List Int) (o6 o7:Option V),σ'=[some (.ref a),some (.ref b),some (.int m),some (.ref l0),some (.int iv),some (.int f),o6,o7]/\H2 l0=some (.lst (ms.map V.int))/\ms.length=rs.length/\∀i,co ms i=if rs.length-q.length<=i/\i<rs.length then(co rs i-f*co q (i-(rs.length-q.length)))%m else co rs i) (fun N hN=> ?_) ?_
   . rw [T9]
     done
     refine⟨b,_,rfl,.inr (s2.tup hb),?_⟩
     repeat (first | done | simp only [List.length_map,Int.toNat_natCast])
     refine⟨by omega,by omega,?_⟩
     refine Aa7 q.length (fun i=> .int (0+(i:Nat))) (fun k σ' H2=>Same H H2/\∃(ms:List Int) (o6 o7:Option V),σ'=[some (.ref a),some (.ref b),some (.int m),some (.ref l0),some (.int iv),some (.int f),o6,o7]/\H2 l0=some (.lst (ms.map V.int))/\ms.length=rs.length/\∀i,co ms i=if rs.length-q.length<=i/\i<rs.length-q.length+k then(co rs i-f*co q (i-(rs.length-q.length)))%m else co rs i) ⟨s2,rs,_,_,rfl,h2,rfl,fun i=> ?_⟩ ?_ ?_ ?_
     . rw [if_neg (by omega)]
     . intro i σ' H2 _
       exact Fi
     . rintro k σ' H4 hk ⟨s4,ms,p6,p7,rfl,h4,lm,cm⟩
       have ej:((rs.length:Nat):Int)-(q.length:Nat)+(k:Nat)=((rs.length-q.length+k:Nat):Int):=by omega
       have hj:rs.length-q.length+k<ms.length:=by omega
       repeat (first | done | simp only [Int.zero_add])
       refine⟨l0,_,rfl,.inl (.of h4),b,_,rfl,.inr (s4.tup hb),?_⟩
       repeat (first | done | simp only [List.length_map,lm,ej])
       refine Jb (.of h4) (Dp hj) (Gk (s4.tup hb) (Gq (Dp hk)) ?_)
       try done
       have zq:Sz 41 q[k]:=by
        have:=cq.2 k
        rw [Bt hk]at this
        exact mk.of_abs (by omega)
       refine⟨zf.mulOk zq (by decide),m0,Tn h4 (by rw [List.length_map];exact hj) ?_⟩
       rw [Gz]
       refine⟨?_,ms.set (rs.length-q.length+k) ((ms[rs.length-q.length+k]-f*q[k])%m),_,_,rfl,Ah,by rw [List.length_set];exact lm,fun i=> ?_⟩
       . intro c o hc
         rw [Bb (Bj hc nl0)]
         exact s4 _ _ hc
       . rw [Ks _ _ _ hj]
         by_cases hi:i=rs.length-q.length+k
         . subst hi
           rw [if_pos rfl,if_pos ⟨by omega,by omega⟩,<-Bt hj,cm,if_neg (by omega),<-Bt hk,Nat.add_sub_cancel_left]
         . rw [if_neg hi,cm]
           by_cases h1:rs.length-q.length<=i/\i<rs.length-q.length+k
           . rw [if_pos h1,if_pos ⟨h1.1,by omega⟩]
           . rw [if_neg h1,if_neg (fun z=>h1 ⟨z.1,by omega⟩)]
     . rintro σ' H4 ⟨s4,ms,p6,p7,rfl,h4,lm,cm⟩
       refine hN _ _ ⟨s4,ms,_,_,rfl,h4,lm,fun i=> ?_⟩
       rw [cm,show rs.length-q.length+q.length=rs.length by omega]
   rintro σ H4 ⟨s4,ms,p6,p7,rfl,h4,lm,cm⟩
   have hmn:ms≠ []:=fun z=>by rw [z]at lm;exact hrn (List.eq_nil_of_length_eq_zero lm.symm)
   have em:ms.map V.int=(ms.dropLast).map V.int++ [V.int (ms.getLast hmn)]:=by
    rw [<-List.map_singleton,<-List.map_append,List.dropLast_concat_getLast]
   rw [em]at h4
   done
   refine⟨.inl ⟨rfl,_,.of h4⟩,l0,_,V.int (ms.getLast hmn),rfl,rfl,h4,by simp,?_⟩
   rw [List.dropLast_concat]
   refine⟨rs.length-1,by omega,fun c o hc=> ?_,ms.dropLast,_,_,_,rfl,Ah,by rw [List.length_dropLast,lm],by rw [List.length_dropLast];omega,Sd m0 hrs cm,Pb hm hq hn hiv hf hcg cm lm⟩
   rw [Bb (Bj hc nl0)]
   exact s4 _ _ hc
 . rw [if_neg hc]
   try done
   refine Ek (.inl (.of h2)) (Same.refl _) (by omega) m0 mk fun z H3 s3 i3=> ?_
   have lz:(md rs m).length<q.length:=by have:=Ov rs m;omega
   refine k z H3 (md rs m) (s2.trans s3) ⟨i3.1,i3.2.1,Nat.le_of_lt lz,i3.2.2.2⟩ ⟨Io m0 _,lz,hcg.trans (Cg.of fun i=> ?_)⟩
   rw [G8]
   exact⟨co rs i/m,by have:=Int.mul_ediv_add_emod (co rs i) m;omega⟩
noncomputable def Lg (K:PySem.W.Frag):Sp:=fun vs H Q _=>∃(x y:V) (m:Int) (p q:List Int),vs=[x,y,.int m]/\Po K H x p 60 41/\Po K H y q 60 41/\Cn m p/\Cn m q/\(∃n∈PrL,m=(n:Nat))/\q≠ []/\RsR K m p q Q H
theorem Vo {f:Addr}{fd:FuncData} (F:Df K mg "_law_rest" Ni ["_law_one","_law_other","_law_t"] f fd) (z_list:mg "list"=none) (z_len:mg "len"=none) (z_range:mg "range"=none)  (c_q_inverse:Cal P w K mg base 33 "_law_inverse" ["_law_figure","_law_t"] (Fy K)) (c_q_poly:Cal P w K mg base 33 "_law_poly" ["_law_weights","_law_m"] (Eo K)):Cal P w K mg base 34 "_law_rest" ["_law_one","_law_other","_law_t"] (Lg K):=by
 refine F.cal (F.fn.ok Gi (fun vs H Q E h=> ?_) (fun cdv A outer s H vs Q E hr h=> ?_))
 . obtain⟨x,y,m,p,q,rfl,_⟩:=h
   rfl
 obtain⟨x,y,m,p,q,rfl,hx,hy,cp,cq,hpl,hq,k⟩:=h
 obtain⟨hm,hm2⟩:=Gg hpl
 have mk:Sz 41 m:=by
  unfold Sz
  have:(100:Nat)<2^41:=by decide
  omega
 obtain⟨⟨a,rfl,ha⟩,tp,lp,zp⟩:=id hx
 obtain⟨⟨b,rfl,hb⟩,tq,lq,zq⟩:=id hy
 refine Ay ⟨_,(Ad (Ai 3 Gi.nd (Dz El rfl z_list PyProof.Rows.boot_list (Aa (Ae 0) Ab)))
  (Ad (Ai 4 Gi.nd (Ak c_q_inverse hr (Aa (Aq Ef (Ae 1) (Dj Fz Ac) (fun _ _=>rfl)) (Aa (Ae 2) Ab))))
  (Ad (Bs PassesOwn.never (Aj Z0 (Ar Al rfl z_len PySem.boot_len (Aa (Ae 3) Ab)) (Ar Al rfl z_len PySem.boot_len (Aa (Ae 1) Ab)) (Az _)) (Ad (Ai 5 Gi.nd (Af Cz (Af Cj (Aq Bh (Ae 3) (Dj Fz Ac) (fun _ _=>rfl)) (Ae 4)) (Ae 2)))
  (Ad (Cv PassesOwn.never rfl (Du rfl z_range (Aa (Ar Al rfl z_len PySem.boot_len (Aa (Ae 1) Ab)) Ab)) (Ba 6 Gi.nd) (Ad (Ai 7 Gi.nd (Af Cm (Af Dw (Ar Al rfl z_len PySem.boot_len (Aa (Ae 3) Ab)) (Ar Al rfl z_len PySem.boot_len (Aa (Ae 1) Ab))) (Ae 6)))
  (Ag (Ea (Af Cz (Af Dw (Aq Bh (Ae 3) (Ae 7) (fun _ _=>rfl)) (Af Cj (Ae 5) (Aq Ef (Ae 1) (Ae 6) (fun _ _=>rfl)))) (Ae 2)) (Fl (Ae 3) (Ae 7) set_list)))))
  (Ag (Hv (Oa PySem.F.plainAttrs_list PySem.F.slot_list_pop PySem.F.type_list_pop Yj (Ae 3)))))))
  (Ag (Am (Ak c_q_poly hr (Aa (Ae 3) (Aa (Ae 2) Ab)))))))),?_⟩
 refine Bm (fun σ' H'=>Same H H'/\∃l0,H l0=none/\σ'=[some (.ref a),some (.ref b),some (.int m),some (.ref l0),none,none,none,none]/\H' l0=some (.lst (p.map V.int))) (fun N hN=> ?_) ?_
 . done
   exact⟨a,_,rfl,.inr ha,fun l0 h0=>hN _ _ ⟨Same.upd h0 _,l0,h0,rfl,Ah⟩⟩
 rintro σ H0 ⟨s0,l0,nl0,rfl,hl0⟩
 refine Bm (fun σ' H'=>H'=H0/\∃iv,σ'=[some (.ref a),some (.ref b),some (.int m),some (.ref l0),some (.int iv),none,none,none]/\0<=iv/\iv<m/\iv*co q (q.length-1)%m=1) (fun N hN=> ?_) ?_
 . done
   refine Gk (s0.tup hb) (Ep hq) ?_
   try done
   have c1:=cq.2 (q.length-1)
   have c2:=cq.1.lead hq
   exact⟨_,m,rfl,hpl,by omega,c1.2,fun iv i0 i1 i2=>hN _ _ ⟨rfl,iv,rfl,i0,i1,i2⟩⟩
 rintro σ H1 ⟨rfl,iv,rfl,iv0,iv1,hiv⟩
 have s1:=s0
 have m0:0<m:=by omega
 have hql:=List.length_pos_iff.mpr hq
 have sz5:1000<=sizeLine:=by decide
 rw [Wo]
 refine Nv (fun n σ H'=>Same H H'/\∃(rs:List Int) (o5 o6 o7:Option V),σ=[some (.ref a),some (.ref b),some (.int m),some (.ref l0),some (.int iv),o5,o6,o7]/\H' l0=some (.lst (rs.map V.int))/\n=rs.length/\rs.length<=100/\(∀i,0<=co rs i/\co rs i<m)/\Cg m q p rs) _ ⟨s1,p,_,_,_,rfl,hl0,rfl,by omega,cp.2,.refl _ _ _⟩ ?_
 rintro n σ H' ⟨s2,rs,o5,o6,o7,rfl,h2,rfl,hlr,hrs,hcg⟩
 done
 refine⟨l0,_,rfl,.inl (.of h2),b,_,rfl,.inr (s2.tup hb),?_⟩
 repeat (first | done | simp only [List.length_map])
 by_cases hc:((q.length:Nat):Int)<=(rs.length:Nat)
 . rw [if_pos hc]
   refine X3 ?_
   have hn:q.length<=rs.length:=by omega
   have hrn:rs≠ []:=fun z=>by rw [z]at hn;simp at hn;exact hq hn
   obtain⟨f,hf⟩:∃f,f=co rs (rs.length-1)*iv%m:=⟨_,rfl⟩
   have zf:Sz 41 f:=by rw [hf];exact Sv m0 mk _
   refine Bm (fun σ' H2=>H2=H'/\σ'=[some (.ref a),some (.ref b),some (.int m),some (.ref l0),some (.int iv),some (.int f),o6,o7]) (fun N hN=> ?_) ?_
   . done
     refine Nx (.of h2) (Ep hrn) ?_
     try done
     have:=hrs (rs.length-1)
     refine⟨(mk.of_abs (by omega):Sz 41 (co rs (rs.length-1))).mulOk (mk.of_abs (by omega):Sz 41 iv) (by decide),m0,?_⟩
     rw [<-hf]
     exact hN _ _ ⟨rfl,rfl⟩
   rintro σ H3 ⟨rfl,rfl⟩
   refine Bm (fun σ' H2=>Same H H2/\∃(ms:List Int) (o6 o7:Option V),σ'=[some (.ref a),some (.ref b),some (.int m),some (.ref l0),some (.int iv),some (.int f),o6,o7]/\H2 l0=some (.lst (ms.map V.int))/\ms.length=rs.length/\∀i,co ms i=if rs.length-q.length<=i/\i<rs.length then(co rs i-f*co q (i-(rs.length-q.length)))%m else co rs i) (fun N hN=> ?_) ?_
   . rw [T9]
     done
     refine⟨b,_,rfl,.inr (s2.tup hb),?_⟩
     repeat (first | done | simp only [List.length_map,Int.toNat_natCast])
     refine⟨by omega,by omega,?_⟩
     refine Aa7 q.length (fun i=> .int (0+(i:Nat))) (fun k σ' H2=>Same H H2/\∃(ms:List Int) (o6 o7:Option V),σ'=[some (.ref a),some (.ref b),some (.int m),some (.ref l0),some (.int iv),some (.int f),o6,o7]/\H2 l0=some (.lst (ms.map V.int))/\ms.length=rs.length/\∀i,co ms i=if rs.length-q.length<=i/\i<rs.length-q.length+k then(co rs i-f*co q (i-(rs.length-q.length)))%m else co rs i) ⟨s2,rs,_,_,rfl,h2,rfl,fun i=> ?_⟩ ?_ ?_ ?_
     . rw [if_neg (by omega)]
     . intro i σ' H2 _
       exact Fi
     . rintro k σ' H4 hk ⟨s4,ms,p6,p7,rfl,h4,lm,cm⟩
       have ej:((rs.length:Nat):Int)-(q.length:Nat)+(k:Nat)=((rs.length-q.length+k:Nat):Int):=by omega
       have hj:rs.length-q.length+k<ms.length:=by omega
       repeat (first | done | simp only [Int.zero_add])
       refine⟨l0,_,rfl,.inl (.of h4),b,_,rfl,.inr (s4.tup hb),?_⟩
       repeat (first | done | simp only [List.length_map,lm,ej])
       refine Jb (.of h4) (Dp hj) (Gk (s4.tup hb) (Gq (Dp hk)) ?_)
       try done
       have zq:Sz 41 q[k]:=by
        have:=cq.2 k
        rw [Bt hk]at this
        exact mk.of_abs (by omega)
       refine⟨zf.mulOk zq (by decide),m0,Tn h4 (by rw [List.length_map];exact hj) ?_⟩
       rw [Gz]
       refine⟨?_,ms.set (rs.length-q.length+k) ((ms[rs.length-q.length+k]-f*q[k])%m),_,_,rfl,Ah,by rw [List.length_set];exact lm,fun i=> ?_⟩
       . intro c o hc
         rw [Bb (Bj hc nl0)]
         exact s4 _ _ hc
       . rw [Ks _ _ _ hj]
         by_cases hi:i=rs.length-q.length+k
         . subst hi
           rw [if_pos rfl,if_pos ⟨by omega,by omega⟩,<-Bt hj,cm,if_neg (by omega),<-Bt hk,Nat.add_sub_cancel_left]
         . rw [if_neg hi,cm]
           by_cases h1:rs.length-q.length<=i/\i<rs.length-q.length+k
           . rw [if_pos h1,if_pos ⟨h1.1,by omega⟩]
           . rw [if_neg h1,if_neg (fun z=>h1 ⟨z.1,by omega⟩)]
     . rintro σ' H4 ⟨s4,ms,p6,p7,rfl,h4,lm,cm⟩
       refine hN _ _ ⟨s4,ms,_,_,rfl,h4,lm,fun i=> ?_⟩
       rw [cm,show rs.length-q.length+q.length=rs.length by omega]
   rintro σ H4 ⟨s4,ms,p6,p7,rfl,h4,lm,cm⟩
   have hmn:ms≠ []:=fun z=>by rw [z]at lm;exact hrn (List.eq_nil_of_length_eq_zero lm.symm)
   have em:ms.map V.int=(ms.dropLast).map V.int++ [V.int (ms.getLast hmn)]:=by
    rw [<-List.map_singleton,<-List.map_append,List.dropLast_concat_getLast]
   rw [em]at h4
   done
   refine⟨.inl ⟨rfl,_,.of h4⟩,l0,_,V.int (ms.getLast hmn),rfl,rfl,h4,by simp,?_⟩
   rw [List.dropLast_concat]
   refine⟨rs.length-1,by omega,fun c o hc=> ?_,ms.dropLast,_,_,_,rfl,Ah,by rw [List.length_dropLast,lm],by rw [List.length_dropLast];omega,Sd m0 hrs cm,Pb hm hq hn hiv hf hcg cm lm⟩
   rw [Bb (Bj hc nl0)]
   exact s4 _ _ hc
 . rw [if_neg hc]
   try done
   refine Ek (.inl (.of h2)) (Same.refl _) (by omega) m0 mk fun z H3 s3 i3=> ?_
   have lz:(md rs m).length<q.length:=by have:=Ov rs m;omega
   refine k z H3 (md rs m) (s2.trans s3) ⟨i3.1,i3.2.1,Nat.le_of_lt lz,i3.2.2.2⟩ ⟨Io m0 _,lz,hcg.trans (Cg.of fun i=> ?_)⟩
   rw [G8]
   exact⟨co rs i/m,by have:=Int.mul_ediv_add_emod (co rs i) m;omega⟩
theorem Sq {t:Int} (ht:Pr t) {p p' g g':List Int} (h:Sgl t p g) (h':Sgl t p' g') (e:∀d,Dm t d p↔Dm t d p'):g=g':=
 Xf ht.1 ⟨h.tr,h.rng⟩ ⟨h'.tr,h'.rng⟩ h.one h'.one ((h'.dm g).mpr ((e g).mp ((h.dm g).mp (.refl t g)))) ((h.dm g').mpr ((e g').mpr ((h'.dm g').mp (.refl t g'))))
theorem Y6 {t:Int} (ht:Pr t) {f1 g1 f2 g2 p q p' q':List Int} (h1:Sgl t f1 g1) (s1:N7 t f1 [] p q) (h2:Sgl t f2 g2) (s2:N7 t f2 [] p' q') (e:∀d,(Dm t d p/\Dm t d q)↔(Dm t d p'/\Dm t d q')):g1=g2:=
 Sq ht h1 h2 fun d=>⟨fun z=>((s2 d).mpr ((e d).mp ((s1 d).mp ⟨z,.nil t d⟩))).1,fun z=>((s1 d).mpr ((e d).mpr ((s2 d).mp ⟨z,.nil t d⟩))).1⟩
theorem Sh {t iv:Int} (ht:Pr t) {p:List Int} (cp:Cn t p) (hp:p≠ []) (hiv:iv*co p (p.length-1)%t=1):Sgl t p (md (tm p [iv]) t):=by
 have z:=Y0 (k:=iv) ht (p:=p) (by rw [Ie cp];exact hp) (by rw [Ie cp];exact hiv)
 have e:md (tm p [iv]) t=md (ng (md p t) iv) t:=(Ln _ _).ext (Ln _ _) fun i=>by
  rw [G8,G8,Ec,Ih,Abh,Vj,Ie cp,Int.mul_comm]
 rw [e]
 exact z
theorem Rem.same {t:Int}{f g r:List Int} (h:Rem t g f r):N7 t g r f g:=by
 obtain⟨u,hu⟩:=h.cg
 exact Mg (u:=u) fun i=>by
  have:=hu i
  rw [show co f i-co r i-mu u (co g) i=co f i-(mu u (co g) i+co r i)by omega]at this
  exact this
noncomputable def Lf (K:PySem.W.Frag):Sp:=fun vs H Q _=>∃(x y:V) (t:Int) (p q:List Int),vs=[x,y,.int t]/\Po K H x p 60 41/\Po K H y q 60 41/\Cn t p/\Cn t q/\(∃n∈PrL,t=(n:Nat))/\∀(z:V) (H':Hp) (f g:List Int),Same H H'->Po K H' z g 400 41->Sgl t f g->N7 t f [] p q->Q z H'
theorem Qp {f:Addr}{fd:FuncData} (F:Df K mg "_law_common" Jm ["_law_one","_law_other","_law_t"] f fd)   (c_q_product:Cal P w K mg base 34 "_law_product" ["_law_one","_law_other","_law_m"] (Dl K)) (c_q_rest:Cal P w K mg base 34 "_law_rest" ["_law_one","_law_other","_law_t"] (Lg K)) (c_q_inverse:Cal P w K mg base 33 "_law_inverse" ["_law_figure","_law_t"] (Fy K)):Cal P w K mg base 35 "_law_common" ["_law_one","_law_other","_law_t"] (Lf K):=by
 refine F.cal (F.fn.ok K8 (fun vs H Q E h=> ?_) (fun cdv A outer s H vs Q E hr h=> ?_))
 . obtain⟨x,y,t,p,q,rfl,_⟩:=h
   rfl
 obtain⟨x,y,t,p,q,rfl,hx,hy,cp,cq,hpl,k⟩:=h
 have ht:=R6 hpl
 obtain⟨t1,t2⟩:=Gg hpl
 have t0:0<t:=by omega
 have mk:Sz 41 t:=by
  unfold Sz
  have:(100:Nat)<2^41:=by decide
  omega
 refine Ay ⟨_,(Ad (Bs PassesOwn.never (Aj (Lz hr.units) (Ae 1) (Av Ab) (Az _)) (Ag (Hj (i:=0) (j:=1) rfl K8.nd rfl rfl (by decide) rfl rfl (Aa (Ae 1) (Aa (Ak c_q_rest hr (Aa (Ae 0) (Aa (Ae 1) (Aa (Ae 2) Ab)))) Ab)) rfl)))
  (Ad (Bf (Aj (Fv hr.units) (Ae 0) (Av Ab) (Az _)) (Ag (Am (Av Ab))) Ax)
  (Ag (Am (Ak c_q_product hr (Aa (Ae 0) (Aa (Av (Aa (Ak c_q_inverse hr (Aa (Aq Ef (Ae 0) (Dj Fz Ac) (fun _ _=>rfl)) (Aa (Ae 2) Ab))) Ab)) (Aa (Ae 2) Ab)))))))),?_⟩
 done
 refine Nv (fun m σ H'=>Same H H'/\∃(v w:V) (f g:List Int),σ=[some v,some w,some (.int t)]/\m=g.length/\Po K H' v f 60 41/\Po K H' w g 60 41/\Cn t f/\Cn t g/\N7 t f g p q) _
  ⟨Same.refl H,x,y,p,q,rfl,rfl,hx,hy,cp,cq,fun d=>Iff.rfl⟩ ?_
 rintro m σ H' ⟨s3,v,w,f,g,rfl,rfl,iv,iw,cf,cg,sm⟩
 done
 refine⟨by decide,fun e0 he0=> ?_⟩
 have se:=Same.upd he0 (.tup [])
 obtain⟨⟨b,rfl,hb⟩,tg,lg,zg⟩:=id iw
 refine Bk (ms:=[]) (se.tup hb) (.of Ah) ?_
 try done
 by_cases hg:g=[]
 . rw [if_pos hg]
   subst hg
   try done
   refine⟨by decide,fun e1 he1=> ?_⟩
   have se1:=se.trans (Same.upd he1 (.tup []))
   obtain⟨⟨a,rfl,ha⟩,tf,lf,zf⟩:=id iv
   refine Bk (ms:=[]) (se1.tup ha) (.of Ah) ?_
   try done
   by_cases hf:f=[]
   . rw [if_pos hf]
     subst hf
     refine⟨by decide,fun e2 he2=> ?_⟩
     exact k _ _ [] [] ((s3.trans se1).trans (Same.upd he2 _)) ⟨⟨e2,rfl,.of Ah⟩,.inl rfl,Nat.zero_le _,fun i=>by rw [Br];unfold Sz;decide⟩ (Wb t0 (Ie cf)) sm
   . rw [if_neg hf]
     refine Gk (se1.tup ha) (Ep hf) ?_
     try done
     have c1:=cf.2 (f.length-1)
     have c2:=cf.1.lead hf
     refine⟨_,t,rfl,hpl,by omega,c1.2,fun i i0 i1 i2=> ?_⟩
     try done
     intro e2 he2
     have s4:=Same.upd he2 (.tup [V.int i])
     have i4:Po K (upd (upd (upd H' e0 (.tup [])) e1 (.tup [])) e2 (.tup [V.int i])) (.ref e2) [i] 1 41:=⟨⟨e2,rfl,.of (xs:=[i].map V.int) Ah⟩,.of (.inr (by
      show i≠0
      intro z
      rw [z,Int.zero_mul,Int.zero_emod]at i2
      cases i2)),by simp,fun j=>by
      cases j with
      | zero=>rw [Cq];exact mk.of_abs (by omega)
      | succ j=>rw [Ci,Br];unfold Sz;decide⟩
     refine⟨_,_,t,f,[i],60,1,41,41,41,rfl,iv.mono (se1.trans s4),i4,by decide,by decide,by decide,t0,mk,fun z H5 s5 i5=> ?_⟩
     exact k z H5 f _ ((s3.trans se1).trans (s4.trans s5)) ⟨i5.1,i5.2.1,Nat.le_trans i5.2.2.1 (by decide),i5.2.2.2⟩ (Sh ht cf hf i2) sm
 . rw [if_neg hg]
   refine X3 ?_
   try done
   refine⟨v,.ref b,t,f,g,rfl,iv.mono se,iw.mono se,cf,cg,hpl,hg,fun z H4 r s4 i4 hr=> ?_⟩
   try done
   exact⟨r.length,hr.len,(s3.trans se).trans s4,.ref b,z,g,r,rfl,rfl,iw.mono (se.trans s4),⟨i4.1,i4.2.1,Nat.le_trans i4.2.2.1 lg,i4.2.2.2⟩,cg,hr.cn,fun e=>(hr.same e).trans (sm e)⟩
noncomputable def G7 (K:PySem.W.Frag):Sp:=fun vs H Q _=>∃(x y:V) (t:Int) (p q:List Int),vs=[x,y,.int t]/\Po K H x p 60 41/\Po K H y q 60 41/\Cn t p/\Cn t q/\(∃n∈PrL,t=(n:Nat))/\∀(H':Hp),Same H H'->Q (.bl true) H'
theorem J0 {f:Addr}{fd:FuncData} (F:Df K mg "_law_prime_right" Fq ["_law_one","_law_other","_law_t"] f fd) (z_isinstance:mg "isinstance"=none) (z_tuple:mg "tuple"=none)  (c_single:Cal P w K mg base 35 "single" ["one","t"] (Ja K)) (c_m_shared:Cal P w K mg base 37 "m_shared" ["one","other","t"] (Im K)) (c_q_common:Cal P w K mg base 35 "_law_common" ["_law_one","_law_other","_law_t"] (Lf K)) (c_q_product:Cal P w K mg base 34 "_law_product" ["_law_one","_law_other","_law_m"] (Dl K)) (c_q_inverse:Cal P w K mg base 33 "_law_inverse" ["_law_figure","_law_t"] (Fy K)):Cal P w K mg base 38 "_law_prime_right" ["_law_one","_law_other","_law_t"] (G7 K):=by
 refine F.cal (F.fn.ok Eu (fun vs H Q E h=> ?_) (fun cdv A outer s H vs Q E hr h=> ?_))
 . obtain⟨x,y,t,p,q,rfl,_⟩:=h
   rfl
 obtain⟨x,y,t,p,q,rfl,hx,hy,cp,cq,hpl,k⟩:=h
 have ht:=R6 hpl
 obtain⟨t1,t2⟩:=Gg hpl
 have t0:0<t:=by omega
 have mk:Sz 41 t:=by
  unfold Sz
  have:(100:Nat)<2^41:=by decide
  omega
 obtain⟨⟨a,rfl,ha⟩,tp,lp,zp⟩:=id hx
 refine Ay ⟨_,(Ad (Ai 3 Eu.nd (Ak c_single hr (Aa (Ae 0) (Aa (Ae 2) Ab))))
  (Ad (Bf (Cp (Gp (Cp (Cy (Aj (Lz hr.units) (Ae 0) (Av Ab) (Az _)) (Dh (Aj (Lz hr.units) (Ae 3) (Ak c_q_product hr (Aa (Ae 0) (Aa (Av (Aa (Ak c_q_inverse hr (Aa (Aq Ef (Ae 0) (Dj Fz Ac) (fun _ _=>rfl)) (Aa (Ae 2) Ab))) Ab)) (Aa (Ae 2) Ab)))) (Az _))))) (Hl (Cp (Cy (Aj (Fv hr.units) (Ae 0) (Av Ab) (Az _)) (Dh (Aj (Lz hr.units) (Ae 3) (Av Ab) (Az _)))))))) (Ag (Am Ft)) Ax)
  (Ad (Ai 4 Eu.nd (Ak c_m_shared hr (Aa (Ae 0) (Aa (Ae 1) (Aa (Ae 2) Ab)))))
  (Ad (Bf (Cp (Gp (Dq (Cw (Ar Rm rfl z_isinstance PyProof.Rows.boot_isinstance (Aa (Ae 4) (Aa (Lr (v:= .ty "tuple") rfl z_tuple PyProof.Rows.boot_tuple rfl) Ab))))) (Hl (Aj (Lz hr.units) (Ae 4) (Ak c_q_common hr (Aa (Ae 0) (Aa (Ae 1) (Aa (Ae 2) Ab)))) (Az _))))) (Ag (Am Ft)) Ax)
  (Ag (Am (Dd (Fv hr.units) (Ak c_m_shared hr (Aa (Ae 1) (Aa (Ae 0) (Aa (Ae 2) Ab)))) (Ae 4) (Az _)))))))),?_⟩
 refine Bm (fun σ' H'=>Same H H'/\∃(c:Addr) (g:List Int),σ'=[some (.ref a),some y,some (.int t),some (.ref c),none]/\SqT K H' c (g.map V.int)/\Sgl t p g) (fun N hN=> ?_) ?_
 . done
   refine⟨_,t,p,60,41,41,rfl,hx,by decide,ht,mk,by decide,fun d H1 g s1 i1 sg=> ?_⟩
   obtain⟨⟨c,rfl,hc⟩,_⟩:=i1
   exact hN _ _ ⟨s1,c,g,rfl,hc,sg⟩
 rintro σ H1 ⟨s1,c,g,rfl,hc,sg⟩
 refine Bm (fun σ' H'=>Same H H'/\σ'=[some (.ref a),some y,some (.int t),some (.ref c),none]) (fun N hN=> ?_) ?_
 . done
   refine⟨by decide,fun e0 he0=> ?_⟩
   have s2:=Same.upd he0 (.tup [])
   refine Bk (ms:=[]) ((s1.trans s2).tup ha) (.of Ah) ?_
   try done
   by_cases hp:p=[]
   . rw [if_pos hp]
     refine⟨by decide,fun e1 he1=> ?_⟩
     have s3:=s2.trans (Same.upd he1 (.tup []))
     refine Bk (ms:=[]) ((s1.trans s3).tup ha) (.of Ah) ?_
     try done
     rw [if_pos hp]
     refine⟨by decide,fun e2 he2=> ?_⟩
     have s4:=s3.trans (Same.upd he2 (.tup []))
     have eg:g=[]:=by
      have:=sg.len
      rw [Ie cp,hp]at this
      exact List.eq_nil_of_length_eq_zero this
     refine Bk (ms:=[]) (s4.tup hc) (.of Ah) ?_
     try done
     rw [if_pos eg]
     exact hN _ _ ⟨s1.trans s4,rfl⟩
   . rw [if_neg hp]
     have s12:=s1.trans s2
     refine Gk (s12.tup ha) (Ep hp) ?_
     try done
     have c1:=cp.2 (p.length-1)
     have c2:=cp.1.lead hp
     refine⟨_,t,rfl,hpl,by omega,c1.2,fun i i0 i1 i2=> ?_⟩
     try done
     intro e2 he2
     have s4:=Same.upd he2 (.tup [V.int i])
     have i4:Po K (upd (upd H1 e0 (.tup [])) e2 (.tup [V.int i])) (.ref e2) [i] 1 41:=⟨⟨e2,rfl,.of (xs:=[i].map V.int) Ah⟩,.of (.inr (by
      show i≠0
      intro z
      rw [z,Int.zero_mul,Int.zero_emod]at i2
      cases i2)),by simp,fun j=>by
      cases j with
      | zero=>rw [Cq];exact mk.of_abs (by omega)
      | succ j=>rw [Ci,Br];unfold Sz;decide⟩
     refine⟨_,_,t,p,[i],60,1,41,41,41,rfl,hx.mono (s12.trans s4),i4,by decide,by decide,by decide,t0,mk,fun z H5 s5 i5=> ?_⟩
     obtain⟨⟨z,rfl,hz⟩,_⟩:=i5
     have eg:g=md (tm p [i]) t:=Sq ht sg (Sh ht cp hp i2) fun _=>Iff.rfl
     have s25:=s2.trans (s4.trans s5)
     refine Bk (s25.tup hc) hz ?_
     try done
     rw [if_pos eg]
     refine⟨by decide,fun e3 he3=> ?_⟩
     have s6:=s25.trans (Same.upd he3 (.tup []))
     refine Bk (ms:=[]) ((s1.trans s6).tup ha) (.of Ah) ?_
     try done
     rw [if_neg hp]
     exact hN _ _ ⟨s1.trans s6,rfl⟩
 rintro σ H2 ⟨s2,rfl⟩
 done
 refine⟨_,_,t,p,q,60,60,41,41,41,rfl,hx.mono s2,hy.mono s2,by decide,by decide,ht,mk,by decide,fun d H3 f1 g1 s3 i3 sg1 sm1=> ?_⟩
 obtain⟨⟨d,rfl,hd⟩,_⟩:=i3
 try done
 refine isa (.tup hd) Yi ?_
 try done
 have s23:=s2.trans s3
 refine⟨_,_,t,p,q,rfl,hx.mono s23,hy.mono s23,cp,cq,hpl,fun z H4 f2 g2 s4 i4 sg2 sm2=> ?_⟩
 obtain⟨⟨z,rfl,hz⟩,_⟩:=i4
 have e12:g1=g2:=Y6 ht sg1 sm1 sg2 sm2 fun _=>Iff.rfl
 refine Bk (s4.tup hd) hz ?_
 try done
 rw [if_pos e12]
 have s24:=s23.trans s4
 refine⟨_,_,t,q,p,60,60,41,41,41,rfl,hy.mono s24,hx.mono s24,by decide,by decide,ht,mk,by decide,fun w H5 f3 g3 s5 i5 sg3 sm3=> ?_⟩
 obtain⟨⟨w,rfl,hw⟩,_⟩:=i5
 have e31:g3=g1:=Y6 ht sg3 sm3 sg1 sm1 fun d=>⟨fun z=>⟨z.2,z.1⟩,fun z=>⟨z.2,z.1⟩⟩
 refine Bk hw ((s4.trans s5).tup hd) ?_
 rw [decide_eq_true e31]
 exact k _ (s24.trans s5)
theorem Qz {m:Int} (hm:1<m) {q:List Int} (hq:1<q.length) (p:List Int):Rem m q (pw p 0) [1]:=⟨⟨.of (.inr (by decide)),fun i=>by
 cases i with
 | zero=>rw [Cq];omega
 | succ i=>rw [Ci,Br];omega⟩,hq,.refl _ _ _⟩
theorem Yr {H:Hp}{a:Addr} (h:H a=some (.tup [V.int 1])) {l:Nat} (hl:1<=l):Po K H (.ref a) [1] l 41:=⟨⟨a,rfl,.of (xs:=[1].map V.int) h⟩,.of (.inr (by decide)),hl,fun i=>by
 cases i with
 | zero=>rw [Cq];unfold Sz;decide
 | succ i=>rw [Ci,Br];unfold Sz;decide⟩
theorem Yx {m:Int}{q p r:List Int} (h:Rem m q (md p m) r):Rem m q p r:=⟨h.cn,h.len,(Cg.of fun i=>by
 rw [G8]
 exact⟨co p i/m,by have:=Int.mul_ediv_add_emod (co p i) m;omega⟩:Cg m q p (md p m)).trans h.cg⟩
noncomputable def Ew (K:PySem.W.Frag):Sp:=fun vs H Q _=>∃(x y:V) (m:Int) (n:Nat) (p q:List Int),vs=[x,y,.int (n:Nat),.int m]/\TB K H/\Po K H x p 20 41/\Po K H y q 20 41/\Cn m p/\Cn m q/\1<m/\Sz 41 m/\n<=1000/\1<q.length/\∀H',SmP (Q7 K "m_power") H H'->TB K H'->Q (.bl true) H'
theorem Ib {f:Addr}{fd:FuncData} (F:Df K mg "_law_any_power_right" Dr ["_law_one","_law_by","_law_many","_law_m"] f fd) (z_range:mg "range"=none) (z_isinstance:mg "isinstance"=none) (xk_CourtError:N5 K (cA K "CourtError")) (xm_CourtError:mg "CourtError"=some (.ref (cA K "CourtError"))) (xk_NoPart:N5 K (cA K "NoPart")) (xi_NoPart:Qc K (cA K "NoPart")) (xs_NoPart_CourtError:PySem.W.mroIn K (cA K "NoPart") (.ref (cA K "CourtError"))=some true) (xm_NoPart:mg "NoPart"=some (.ref (cA K "NoPart"))) (ki_NoPart_NoPart:PySem.W.kitOne K (.ref (cA K "NoPart")) (.ref (cA K "NoPart"))=some true) (xm_NoFree:mg "NoFree"=some (.ref (cA K "NoFree"))) (ki_NoPart_NoFree:PySem.W.kitOne K (.ref (cA K "NoPart")) (.ref (cA K "NoFree"))=some false) (xm_TooGreat:mg "TooGreat"=some (.ref (cA K "TooGreat"))) (ki_NoPart_TooGreat:PySem.W.kitOne K (.ref (cA K "NoPart")) (.ref (cA K "TooGreat"))=some false) (ce_m_power:Ny P w K mg base 39 "m_power" ["one","many","by","m"] (Il K)) (c_q_divides_both:Cal P w K mg base 33 "_law_divides_both" ["_law_one","_law_other"] (Ej K)) (c_q_rest_by:Cal P w K mg base 34 "_law_rest_by" ["_law_one","_law_by","_law_m"] (Jy K)) (c_q_product:Cal P w K mg base 34 "_law_product" ["_law_one","_law_other","_law_m"] (Dl K)):Cal P w K mg base 40 "_law_any_power_right" ["_law_one","_law_by","_law_many","_law_m"] (Ew K):=by
 refine F.cal (F.fn.ok Aw (fun vs H Q E h=> ?_) (fun cdv A outer s H vs Q E hr h=> ?_))
 . obtain⟨x,y,m,n,p,q,rfl,_⟩:=h
   rfl
 obtain⟨x,y,m,n,p,q,rfl,tb,hx,hy,cp,cq,hm,mk,hn,hq2,k⟩:=h
 have m0:0<m:=by omega
 have hq:q≠ []:=fun z=>by rw [z]at hq2;simp at hq2
 obtain⟨⟨b,rfl,hb⟩,tq,lq,zq⟩:=id hy
 refine Ay ⟨_,(Ad (Ai 4 Aw.nd Ob)
  (Ad (Ai 5 Aw.nd Cu)
  (Ad (Ls (i:=6) (Cs:=[cA K "NoPart"]) ce_m_power (hr.mono (by decide)) (Aa (Ae 0) (Aa (Ae 2) (Aa (Ae 1) (Aa (Ae 3) Ab)))) (Kl (i:=4) Aw.nd rfl (Or.inl rfl)) xk_CourtError xm_CourtError (Ae4 ⟨xk_NoPart,xi_NoPart,xs_NoPart_CourtError⟩ Ae5) (fun Cx hxi x oe hc=>(Ad (Ai 5 Aw.nd Cu)
  (Ag (Bf (Cp (Cy (Cw (Ar (Ge (List.mem_cons_self ..) hc hxi) rfl z_isinstance PyProof.Rows.boot_isinstance (Aa (Ae 6) (Aa (Ez (v:= .ref (cA K "NoPart")) rfl xm_NoPart rfl) Ab)))) (Cy (Dq (Cw (Ar (Ge (List.mem_cons_self ..) hc hxi) rfl z_isinstance PyProof.Rows.boot_isinstance (Aa (Ae 6) (Aa (Ez (v:= .ref (cA K "NoFree")) rfl xm_NoFree rfl) Ab))))) (Dh (Dq (Cw (Ar (Ge (List.mem_cons_self ..) hc hxi) rfl z_isinstance PyProof.Rows.boot_isinstance (Aa (Ae 6) (Aa (Ez (v:= .ref (cA K "TooGreat")) rfl xm_TooGreat rfl) Ab))))))))) (Ag (Ai 5 Aw.nd Cu)) Ax)))) Aw.nd rfl)
  (Ad (Bf (Aj M8 (Ak c_q_divides_both hr (Aa (Aq Ef (Ae 1) (Dj Fz Ac) (fun _ _=>rfl)) (Aa (Ae 3) Ab))) Ac (Az _)) (Ag (Am (Dd Lp (Ae 5) Cu (Az _)))) Ax)
  (Ad (Ai 7 Aw.nd (Av (Aa Ac Ab)))
  (Ad (Cv PassesOwn.never rfl (Du rfl z_range (Aa (Ae 2) Ab)) (Ba 8 Aw.nd) (Ag (Ai 7 Aw.nd (Ak c_q_rest_by hr (Aa (Ak c_q_product hr (Aa (Ae 7) (Aa (Ae 0) (Aa (Ae 3) Ab)))) (Aa (Ae 1) (Aa (Ae 3) Ab)))))))
  (Ag (Am (Km (Dd Lp (Ae 5) Cu (Az _)) (Oc (Dd (Fv hr.units) (Ae 4) (Ae 7) (Az _)))))))))))),?_⟩
 done
 refine⟨_,_,m,n,p,q,20,41,41,41,rfl,tb,hx,hy,by decide,by decide,hm,mk,by decide,fun z H1 s1=> ?_,fun _ hg d H1 r s1 tb1 ir hr=> ?_⟩
 . refine⟨_,rfl,List.mem_cons_self ..,fun x oe hc=> ?_⟩
   try done
   refine⟨true,.inl ⟨_,rfl,ki_NoPart_NoPart⟩,?_⟩
   try done
   refine⟨false,.inl ⟨_,rfl,ki_NoPart_NoFree⟩,?_⟩
   try done
   refine⟨false,.inl ⟨_,rfl,ki_NoPart_TooGreat⟩,?_⟩
   try done
   refine Gk (s1.tup hb) (Ep hq) ?_
   try done
   refine⟨_,m,rfl,by omega,?_⟩
   try done
   have hg:Int.gcd (co q (q.length-1)) m≠1:=z.resolve_left hq
   rw [if_neg (by omega),X4,decide_eq_true rfl]
   exact k _ s1.smp (tb.same s1)
 . try done
   have hb1:=Q5 s1 tb.is hb
   refine Gk hb1 (Ep hq) ?_
   try done
   refine⟨_,m,rfl,by omega,?_⟩
   try done
   rw [if_pos (by omega)]
   obtain⟨⟨c,rfl,hc⟩,_⟩:=id ir
   have hx1:=Po.smp s1 tb.is hx
   have hy1:=Po.smp s1 tb.is hy
   intro e0 he0
   have s2:=Same.upd he0 (.tup [V.int 1])
   refine⟨by omega,by omega,?_⟩
   rw [Int.toNat_natCast]
   refine Aa7 n (fun i=> .int (0+(i:Nat))) (fun j σ H'=>Same H1 H'/\∃(v:V) (rj:List Int) (o:Option V),σ=[some x,some (.ref b),some (.int (n:Nat)),some (.int m),some (.ref c),some (.str "told"),none,some v,o]/\Po K H' v rj q.length 41/\Rem m q (pw p j) rj) ⟨s2,_,[1],_,rfl,Yr Ah (by omega),Qz hm hq2 p⟩ ?_ ?_ ?_
   . intro i σ H' _
     exact Fi
   . rintro j σ H' hj ⟨s3,v,rj,o,rfl,ij,hrj⟩
     try done
     refine⟨v,x,m,rj,p,q.length,20,41,41,41,rfl,ij,hx1.mono s3,by omega,by decide,by decide,m0,mk,fun z H4 s4 i4=> ?_⟩
     try done
     refine⟨z,.ref b,m,_,q,rfl,⟨i4.1,i4.2.1,by have:=i4.2.2.1;omega,i4.2.2.2⟩,⟨(hy1.mono (s3.trans s4)).1,tq,by omega,zq⟩,Io m0 _,cq,hm,mk,hq,hg,fun z5 H5 r5 s5 i5 hr5=> ?_⟩
     try done
     refine⟨s3.trans (s4.trans s5),z5,r5,_,rfl,i5,?_⟩
     have h1:=Yx hr5
     refine⟨h1.cn,h1.len,Cg.trans ?_ h1.cg⟩
     show Cg m q (tm p (pw p j)) _
     rw [Ju rj p]
     exact Cg.mulr p hrj.cg
   . rintro σ H' ⟨s3,v,rj,o,rfl,ij,hrj⟩
     try done
     rw [X4,decide_eq_true rfl]
     try done
     obtain⟨⟨w,rfl,hw⟩,_⟩:=ij
     have e:r=rj:=Rem.uniq hg hr hrj (.refl _ _ _)
     refine Bk (s3.tup hc) hw ?_
     rw [decide_eq_true e]
     exact k _ (s1.trans s3.smp) (tb1.same s3)
noncomputable def G6 (K:PySem.W.Frag):Sp:=fun vs H Q _=>∃(x y:V) (m:Int) (n:Nat) (p q:List Int),vs=[x,y,.int (n:Nat),.int m]/\TB K H/\Po K H x p 20 41/\Po K H y q 20 41/\Cn m p/\Cn m q/\(∃n∈PrL,m=(n:Nat))/\1<q.length/\∀H',SmP (Q7 K "m_power") H H'->TB K H'->Q (.bl true) H'
theorem Jz {f:Addr}{fd:FuncData} (F:Df K mg "_law_power_right" Fp ["_law_one","_law_by","_law_many","_law_t"] f fd)   (c_q_rest:Cal P w K mg base 34 "_law_rest" ["_law_one","_law_other","_law_t"] (Lg K)) (c_m_power:Cal P w K mg base 39 "m_power" ["one","many","by","m"] (Js K)) (c_q_product:Cal P w K mg base 34 "_law_product" ["_law_one","_law_other","_law_m"] (Dl K)):Cal P w K mg base 40 "_law_power_right" ["_law_one","_law_by","_law_many","_law_t"] (G6 K):=by
 refine F.cal (F.fn.ok Bq (fun vs H Q E h=> ?_) (fun cdv A outer s H vs Q E hr h=> ?_))
 . obtain⟨x,y,m,n,p,q,rfl,_⟩:=h
   rfl
 obtain⟨x,y,m,n,p,q,rfl,tb,hx,hy,cp,cq,hpl,hq2,k⟩:=h
 have ht:=R6 hpl
 obtain⟨hm,hm2⟩:=Gg hpl
 have m0:0<m:=by omega
 have mk:Sz 41 m:=by
  unfold Sz
  have:(100:Nat)<2^41:=by decide
  omega
 have hq:q≠ []:=fun z=>by rw [z]at hq2;simp at hq2
 have lx:=hx.2.2.1
 have ly:=hy.2.2.1
 have hg:Int.gcd (co q (q.length-1)) m=1:=Qj ht (cq.2 _).1 (cq.2 _).2 (cq.1.lead hq)
 refine Ay ⟨_,(Ad (Ai 4 Bq.nd (Av (Aa Ac Ab)))
  (Ad (Ai 5 Bq.nd (Ak c_q_rest hr (Aa (Ae 0) (Aa (Ae 1) (Aa (Ae 3) Ab)))))
  (Ad (Ai 6 Bq.nd (Ae 2))
  (Ad (Bs PassesOwn.never (Aj O5 (Ae 6) Ac (Az _)) (Ad (Bf (Aj Lp (Af Cz (Ae 6) Ac) Ac (Az _)) (Ag (Ai 4 Bq.nd (Ak c_q_rest hr (Aa (Ak c_q_product hr (Aa (Ae 4) (Aa (Ae 5) (Aa (Ae 3) Ab)))) (Aa (Ae 1) (Aa (Ae 3) Ab)))))) Ax)
  (Ad (Ai 5 Bq.nd (Ak c_q_rest hr (Aa (Ak c_q_product hr (Aa (Ae 5) (Aa (Ae 5) (Aa (Ae 3) Ab)))) (Aa (Ae 1) (Aa (Ae 3) Ab)))))
  (Ag (Ai 6 Bq.nd (Af Eb (Ae 6) Ac))))))
  (Ag (Am (Dd (Fv hr.units) (Ak c_m_power hr (Aa (Ae 0) (Aa (Ae 2) (Aa (Ae 1) (Aa (Ae 3) Ab))))) (Ae 4) (Az _)))))))),?_⟩
 refine Bm (fun σ' H'=>Same H H'/\∃e0,σ'=[some x,some y,some (.int (n:Nat)),some (.int m),some (.ref e0),none,none]/\H' e0=some (.tup [V.int 1])) (fun N hN=> ?_) ?_
 . done
   intro e0 he0
   exact hN _ _ ⟨Same.upd he0 _,e0,rfl,Ah⟩
 rintro σ H1 ⟨s1,e0,rfl,g0⟩
 refine Bm (fun σ' H'=>Same H1 H'/\∃(v:V) (r:List Int),σ'=[some x,some y,some (.int (n:Nat)),some (.int m),some (.ref e0),some v,none]/\Po K H' v r q.length 41/\Rem m q (pw p 1) r) (fun N hN=> ?_) ?_
 . done
   refine⟨x,y,m,p,q,rfl,⟨(hx.mono s1).1,hx.2.1,by omega,hx.2.2.2⟩,⟨(hy.mono s1).1,hy.2.1,by omega,hy.2.2.2⟩,cp,cq,hpl,hq,fun z H2 r s2 i2 hr=>hN _ _ ⟨s2,z,r,rfl,i2,?_⟩⟩
   rw [Yw cp.1]
   exact hr
 rintro σ H2 ⟨s2,v0,r0,rfl,i0,h0⟩
 done
 refine G4 (fun σ H'=>Same H H'/\∃(vd vs:V) (rd rs:List Int) (a b t:Nat),σ=[some x,some y,some (.int (n:Nat)),some (.int m),some vd,some vs,some (.int (t:Nat))]/\Po K H' vd rd q.length 41/\Po K H' vs rs q.length 41/\Rem m q (pw p a) rd/\Rem m q (pw p b) rs/\a+b*t=n)
  (fun σ _=>match σ with | [_,_,_,_,_,_,some (.int t)]=>t.toNat | _=>0) ⟨s1.trans s2,_,_,[1],r0,0,1,n,rfl,Yr (s2 _ _ g0) (by omega),i0,Qz hm hq2 p,h0,by omega⟩ ?_
 rintro σ H' ⟨s3,vd,vs,rd,rs,a,b,t,rfl,id',is',hd,hs,hab⟩
 done
 by_cases ht0:(0:Int)<(t:Nat)
 . rw [if_pos ht0]
   refine Q8 ?_
   have d2:((t:Nat):Int)/2=((t/2:Nat):Int):=by omega
   have e3:b*t=2*b*(t/2)+b*(t%2):=by
    have e:=Nat.div_add_mod t 2
    calc b*t=b*(2*(t/2)+t%2):=by rw [e]
     _=2*b*(t/2)+b*(t%2):=by rw [Nat.mul_add,<-Nat.mul_assoc,Nat.mul_comm b 2]
   have mulr:∀ {u v:List Int}{c d:Nat}{r:List Int},Rem m q (pw p c) u->Rem m q (pw p d) v->Rem m q (md (tm u v) m) r->Rem m q (pw p (c+d)) r:=fun {u v c d r} h1 h2 h3=>by
    rw [<-V5]
    exact Rem.mul h1.cg h2.cg (Yx h3)
   refine Bm (fun σ' H2=>Same H' H2/\∃(ve:V) (re:List Int) (a':Nat),σ'=[some x,some y,some (.int (n:Nat)),some (.int m),some ve,some vs,some (.int (t:Nat))]/\Po K H2 ve re q.length 41/\Rem m q (pw p a') re/\a'+2*b*(t/2)=n) (fun N hN=> ?_) ?_
   . done
     refine⟨by decide,?_⟩
     by_cases ho:((t:Nat):Int)%2=1
     . rw [if_pos ho]
       have o1:t%2=1:=by omega
       refine⟨vd,vs,m,rd,rs,q.length,q.length,41,41,41,rfl,id',is',by omega,by omega,by decide,m0,mk,fun z H4 s4 i4=> ?_⟩
       try done
       have s34:=s3.trans s4
       refine⟨z,y,m,_,q,rfl,⟨i4.1,i4.2.1,by have:=i4.2.2.1;omega,i4.2.2.2⟩,⟨(hy.mono s34).1,hy.2.1,by omega,hy.2.2.2⟩,Io m0 _,cq,hpl,hq,fun z5 H5 r5 s5 i5 hr5=> ?_⟩
       refine hN _ _ ⟨s4.trans s5,z5,r5,a+b,rfl,i5,mulr hd hs hr5,?_⟩
       rw [o1,Nat.mul_one]at e3
       omega
     . rw [if_neg ho]
       have o1:t%2=0:=by omega
       refine hN _ _ ⟨Same.refl _,vd,rd,a,rfl,id',hd,?_⟩
       rw [o1,Nat.mul_zero]at e3
       omega
   rintro σ H4 ⟨s4,ve,re,a',rfl,ie,he,ea⟩
   have s34:=s3.trans s4
   done
   have is4:=is'.mono s4
   refine⟨vs,vs,m,rs,rs,q.length,q.length,41,41,41,rfl,is4,is4,by omega,by omega,by decide,m0,mk,fun z H5 s5 i5=> ?_⟩
   try done
   have s35:=s34.trans s5
   refine⟨z,y,m,_,q,rfl,⟨i5.1,i5.2.1,by have:=i5.2.2.1;omega,i5.2.2.2⟩,⟨(hy.mono s35).1,hy.2.1,by omega,hy.2.2.2⟩,Io m0 _,cq,hpl,hq,fun z6 H6 r6 s6 i6 hr6=> ?_⟩
   try done
   rw [d2]
   refine⟨⟨by decide,by decide⟩,⟨s35.trans s6,ve,z6,re,r6,a',b+b,t/2,rfl,ie.mono (s5.trans s6),i6,he,mulr hs hs hr6,?_⟩,by show(((t/2:Nat):Int)).toNat<_;omega⟩
   rw [<-Nat.two_mul]
   exact ea
 . rw [if_neg ht0]
   have t0:t=0:=by omega
   subst t0
   have e:a=n:=by simpa using hab
   subst e
   try done
   refine⟨x,y,m,a,p,q,20,41,41,41,rfl,tb.same s3,hx.mono s3,hy.mono s3,by decide,by decide,hm,mk,by decide,hq,hg,fun d H5 r5 s5 tb5 i5 hr5=> ?_⟩
   obtain⟨⟨w,rfl,hw⟩,_⟩:=id'
   obtain⟨⟨w5,rfl,hw5⟩,_⟩:=i5
   have e:r5=rd:=Rem.uniq hg hr5 hd (.refl _ _ _)
   refine Bk hw5 (Q5 s5 (tb.same s3).is hw) ?_
   rw [decide_eq_true e]
   exact k _ (s3.smp.trans s5) tb5
noncomputable def Xq (K:PySem.W.Frag):Sp:=fun vs H Q _=>∃(a:Addr) (ns:List Int),vs=[.ref a]/\SqL K H a (ns.map V.int)/\ns.length<=63/\H (Q7 K "m_power")=some (.tbl #[])/\∀H',Q (.bl true) H'
theorem Aba {H:Hp}{p:Addr}{xs:List V}{v:V}{G:Hp->Prop} (hp:H p=some (.lst xs)) (hx:xs≠ []) (q:G (upd H p (.lst (xs.set (xs.length-1) v)))):Aae (.ref p) (.int (-1)) v H G:=by
 refine⟨p,xs,-1,xs.length-1,rfl,rfl,hp,?_,q⟩
 have:=List.length_pos_iff.mpr hx
 unfold ixN
 rw [if_neg (by decide),if_pos (by omega)]
 congr 1
 omega
theorem Aa1 {xs:List V}{i j:Nat} (hi:i<=xs.length) (hj:j<=xs.length):Ua xs (some (i:Nat)) (some (j:Nat))=(xs.drop i).take (j-i):=by
 unfold Ua
 rw [HT.K4,HT.K4,Nat.min_eq_left hi,Nat.min_eq_left hj]
theorem Lb {p:Addr}{H H':Hp} (s:SmP p H H') (tb:∃ps,H p=some (.tbl ps)) {a:Addr}{xs:List V} (h:H a=some (.lst xs)):H' a=some (.lst xs):=s a _ (fun z=>by
 obtain⟨ps,hp⟩:=tb
 rw [z,hp]at h
 cases h) h
theorem Po.wk {H:Hp}{x:V}{p:List Int}{l l' n:Nat} (h:Po K H x p l n) (hl:l<=l'):Po K H x p l' n:=⟨h.1,h.2.1,Nat.le_trans h.2.2.1 hl,h.2.2.2⟩
noncomputable abbrev FAR:Int:=1000000000000
noncomputable abbrev BSS:List Int:=[3,1000000000000,10,10,10,4,3,13,1000000000000,1000000000000,1000000000000,1000000000000,1000000000000,1000000000000,1000000000000,1000000000000,1000000000000,1000000000000,1000000000000,1000000000000,1000000000000,1000000000000,1000000000000,1000000000000,1000000000000,1000000000000,1000000000000]
theorem Aa9 {f:Addr}{fd:FuncData} (F:Df K mg "law" Pg ["_law_script"] f fd) (z_len:mg "len"=none)  (c_q_parts:Cal P w K mg base 34 "_law_parts" ["_law_cell","_law_bases"] (Mj K)) (c_q_poly:Cal P w K mg base 33 "_law_poly" ["_law_weights","_law_m"] (Eo K)) (c_q_parted_right:Cal P w K mg base 36 "_law_parted_right" ["_law_one","_law_other","_law_m"] (Gj K)) (c_q_prime_right:Cal P w K mg base 38 "_law_prime_right" ["_law_one","_law_other","_law_t"] (G7 K)) (c_m_shared:Cal P w K mg base 37 "m_shared" ["one","other","t"] (Im K)) (c_single:Cal P w K mg base 35 "single" ["one","t"] (Ja K)) (c_m_power:Cal P w K mg base 39 "m_power" ["one","many","by","m"] (Js K)) (c_q_any_power_right:Cal P w K mg base 40 "_law_any_power_right" ["_law_one","_law_by","_law_many","_law_m"] (Ew K)) (c_q_product:Cal P w K mg base 34 "_law_product" ["_law_one","_law_other","_law_m"] (Dl K)) (c_q_power_right:Cal P w K mg base 40 "_law_power_right" ["_law_one","_law_by","_law_many","_law_t"] (G6 K)):J1 P w K mg base CX0 41 f fd ["_law_script"] (Xq K):=by
 refine F.fn.ok Fw (fun vs H Q E h=> ?_) (fun cdv A outer s H vs Q E hr h=> ?_)
 . obtain⟨a,ns,rfl,_⟩:=h
   rfl
 obtain⟨a,ns,rfl,hS,h63,hT,k⟩:=h
 have tb0:TB K H:=⟨_,hT,.inl rfl⟩
 refine Ay ⟨_,(Ad (Ai 1 Fw.nd (Af Yl Ac Ac))
  (Ad (Ai 2 Fw.nd (Bv (Aa Ac (Aa Ac (Aa Ac (Aa Ac (Aa Ac (Aa Ac (Aa Ac (Aa Ac (Aa Ac (Aa Ac Ab))))))))))))
  (Ad (Cv PassesOwn.never rfl (Te (Af R3 (Eh Jq (Ae 0) Jd (Dn Ac)) (Bv (Aa Ac Ab)))) (Ba 3 Fw.nd) (Ad (Ai 4 Fw.nd (Ak c_q_parts hr (Aa (Ae 3) (Aa (Af R3 (Bv (Aa Ac (Aa (Ae 1) (Aa Ac (Aa Ac (Aa Ac (Aa Ac (Aa Ac (Aa Ac (Aa (Ae 1) Ab)))))))))) (Af Ma (Bv (Aa (Ae 1) Ab)) Ac)) Ab))))
  (Ad (Ai 5 Fw.nd (Af Cm Ac (Aq Bh (Bv (Aa (Aq Bh (Ae 4) Ac (fun _ _=>rfl)) (Aa (Af Cz (Aq Bh (Ae 4) Ac (fun _ _=>rfl)) Ac) (Aa (Af Cz (Aq Bh (Ae 4) Ac (fun _ _=>rfl)) Ac) Ab)))) (Aq Bh (Ae 4) Ac (fun _ _=>rfl)) (fun _ _=>rfl))))
  (Ad (Ai 6 Fw.nd (Aq Bh (Ae 2) (Aq Bh (Ae 4) Ac (fun _ _=>rfl)) (fun _ _=>rfl)))
  (Ad (Ai 7 Fw.nd (Eh Jq (Ae 4) (Dn Ac) (Dn (Af Cm Ac (Aq Bh (Ae 4) Ac (fun _ _=>rfl))))))
  (Ad (Ai 8 Fw.nd (Eh Jq (Ae 4) (Dn Ac) (Dn (Af Cm Ac (Aq Bh (Ae 4) Ac (fun _ _=>rfl))))))
  (Ad (Bf (Cp (Cy (Aj Adn (Aq Bh (Ae 4) Ac (fun _ _=>rfl)) Ac (Az _)) (Dh (Aj (Vr hr.units) (Ae 8) (Bv Ab) (Az _))))) (Ag (Ea (Aq Bh (Bv (Aa Ac (Aa (Af Dw (Ae 5) (Af Eb (Ae 5) Ac)) Ab))) (Aq Bh (Ae 4) Ac (fun _ _=>rfl)) (fun _ _=>rfl)) (Fl (Ae 8) (Dj Fz Ac) set_list))) Ax)
  (Ad (Bf (Dq (Cw (Ak c_q_parted_right hr (Aa (Ak c_q_poly hr (Aa (Ae 7) (Aa (Ae 5) Ab))) (Aa (Ak c_q_poly hr (Aa (Ae 8) (Aa (Ae 5) Ab))) (Aa (Ae 5) Ab)))))) (Ag (Am Ft)) Ax)
  (Ad (Ai 9 Fw.nd (Ak c_q_poly hr (Aa (Ae 8) (Aa (Ae 5) Ab))))
  (Ad (Bf (Cp (Cy (Aj O5 (Ar Al rfl z_len PySem.boot_len (Aa (Ae 9) Ab)) Ac (Az _)) (Dh (Dq (Cw (Ak c_q_any_power_right hr (Aa (Ak c_q_poly hr (Aa (Ae 7) (Aa (Ae 5) Ab))) (Aa (Ae 9) (Aa (Aq Bh (Ae 4) Ac (fun _ _=>rfl)) (Aa (Ae 5) Ab)))))))))) (Ag (Am Ft)) Ax)
  (Ad (Ai 10 Fw.nd (Ak c_q_poly hr (Aa (Ae 7) (Aa (Ae 6) Ab))))
  (Ad (Ai 11 Fw.nd (Ak c_q_poly hr (Aa (Ae 8) (Aa (Ae 6) Ab))))
  (Ad (Ai 12 Fw.nd (Ak c_q_poly hr (Aa (Eh Jq (Ae 4) (Dn Ac) (Dn (Af Cm Ac (Aq Bh (Ae 4) Ac (fun _ _=>rfl))))) (Aa (Ae 6) Ab))))
  (Ad (Bf (Dq (Cw (Ak c_q_prime_right hr (Aa (Ak c_q_product hr (Aa (Ae 10) (Aa (Ae 12) (Aa (Ae 6) Ab)))) (Aa (Ak c_q_product hr (Aa (Ae 11) (Aa (Ae 12) (Aa (Ae 6) Ab)))) (Aa (Ae 6) Ab)))))) (Ag (Am Ft)) Ax)
  (Ad (Ai 13 Fw.nd (Aq Bh (Bv (Aa (Aq Bh (Ae 4) Ac (fun _ _=>rfl)) (Aa (Aq Bh (Ae 4) Ac (fun _ _=>rfl)) (Aa (Ae 6) Ab)))) (Aq Bh (Ae 4) Ac (fun _ _=>rfl)) (fun _ _=>rfl)))
  (Ag (Bf (Cp (Cy (Aj O5 (Ar Al rfl z_len PySem.boot_len (Aa (Ae 11) Ab)) Ac (Az _)) (Dh (Dq (Cw (Ak c_q_power_right hr (Aa (Ae 10) (Aa (Ae 11) (Aa (Ae 13) (Aa (Ae 6) Ab)))))))))) (Ag (Am Ft)) Ax)))))))))))))))))
  (Ag (Am (Km (Dd (Fv hr.units) (Ak c_m_shared hr (Aa (Av Ab) (Aa (Av Ab) (Aa Ac Ab)))) (Av Ab) (Az _)) (Km (Dd (Fv hr.units) (Ak c_single hr (Aa (Av Ab) (Aa Ac Ab))) (Av Ab) (Az _)) (Oc (Dd (Fv hr.units) (Ak c_m_power hr (Aa (Av (Aa Ac (Aa Ac Ab))) (Aa Ac (Aa (Av (Aa Ac (Aa Ac Ab))) (Aa Ac Ab))))) (Av (Aa Ac Ab)) (Az _)))))))))),?_⟩
 refine Bm (fun σ' H'=>H'=H/\σ'=[some (.ref a),some (.int FAR),none,none,none,none,none,none,none,none,none,none,none,none]) (fun N hN=> ?_) ?_
 . done
   exact⟨⟨by decide,by decide,by decide⟩,hN _ _ ⟨rfl,rfl⟩⟩
 rintro σ H0 ⟨rfl,rfl⟩
 refine Bm (fun σ' H'=>Same H0 H'/\∃q0,σ'=[some (.ref a),some (.int FAR),some (.ref q0),none,none,none,none,none,none,none,none,none,none,none]/\H' q0=some (.lst (PrL.map fun n=>V.int (n:Nat)))) (fun N hN=> ?_) ?_
 . done
   refine⟨by decide,fun q0 hq0=> ?_⟩
   exact hN _ _ ⟨Same.upd hq0 _,q0,rfl,Ah⟩
 rintro σ H1 ⟨s1,q0,rfl,g0⟩
 have e8:Ua (ns.map V.int) none (some 8)=(ns.take 8).map V.int:=by
  unfold Ua
  rw [show(8:Int)=((8:Nat):Int)from rfl,HT.Nf,HT.K4,List.drop_zero,Nat.sub_zero,List.length_map,List.map_take]
  by_cases h:8<=ns.length
  . rw [Nat.min_eq_left h]
  . rw [Nat.min_eq_right (by omega),List.take_of_length_le (by simp),List.take_of_length_le (by simp;omega)]
 rw [Wo,T9]
 done
 refine⟨a,_,rfl,s1.seq hS,?_⟩
 rw [e8]
 (intro q1 hq1;generalize eq1:upd _ q1 _=Gq1;obtain⟨sq1,gq1⟩:=nw hq1 eq1;clear eq1 hq1)
 (intro q2 hq2;generalize eq2:upd _ q2 _=Gq2;obtain⟨sq2,gq2⟩:=nw hq2 eq2;clear eq2 hq2)
 refine⟨q1,q2,_,_,rfl,rfl,sq2 _ _ gq1,gq2,by rw [List.length_map,List.length_take];exact Nat.le_trans (Nat.add_le_add_right (Nat.min_le_left _ _) _) (show 8+1<=sizeLine by decide),?_⟩
 (intro q3 hq3;generalize eq3:upd _ q3 _=Gq3;obtain⟨sq3,gq3⟩:=nw hq3 eq3;clear eq3 hq3)
 rw [show(ns.take 8).map V.int++ [V.int 5]=(ns.take 8++ [5]).map V.int by rw [List.map_append];rfl]at gq3
 have s3:=(sq1.trans sq2).trans sq3
 have tb3:TB K Gq3:=tb0.same (s1.trans s3)
 have gp0:=s3 _ _ g0
 refine⟨q3,rfl,⟨_,.of gq3⟩,Xb (es:=ns.take 8++ [5]) (inj:=V.int) (fun pre σ H'=>SmP (Q7 K "m_power") Gq3 H'/\TB K H'/\∃o3 o4 o5 o6 o7 o8 o9 o10 o11 o12 o13:Option V,σ=[some (.ref a),some (.int FAR),some (.ref q0),o3,o4,o5,o6,o7,o8,o9,o10,o11,o12,o13]) ⟨(Same.refl _).smp,tb3,_,_,_,_,_,_,_,_,_,_,_,rfl⟩ ?_ ?_ ?_⟩
 . rintro pre σ H' ⟨s1,_⟩
   exact Wj (.of (Lb s1 tb3.is gq3))
 . rintro pre c post σ H4 he ⟨s4,tb4,o3,o4,o5,o6,o7,o8,o9,o10,o11,o12,o13,rfl⟩
   have gpr:=Lb s4 tb3.is gp0
   simp only [Ra,List.set_cons_zero,List.set_cons_succ]
   refine Bm (fun σ' H'=>Same H4 H'/\∃(z:Addr) (ps:List Int),σ'=[some (.ref a),some (.int FAR),some (.ref q0),some (.int c),some (.ref z),o5,o6,o7,o8,o9,o10,o11,o12,o13]/\H' z=some (.lst (ps.map V.int))/\ps.length=27/\∀i,i<27->0<=co ps i/\co ps i<co BSS i) (fun N hN=> ?_) ?_
   . done
     refine⟨by decide,?_⟩
     (intro p1 hp1;generalize ep1:upd _ p1 _=Gp1;obtain⟨sp1,gp1⟩:=nw hp1 ep1;clear ep1 hp1)
     (intro p2 hp2;generalize ep2:upd _ p2 _=Gp2;obtain⟨sp2,gp2⟩:=nw hp2 ep2;clear ep2 hp2)
     refine⟨p2,_,_,rfl,rfl,gp2,by decide,by decide,by decide,?_⟩
     (intro p3 hp3;generalize ep3:upd _ p3 _=Gp3;obtain⟨sp3,gp3⟩:=nw hp3 ep3;clear ep3 hp3)
     refine⟨p1,p3,_,_,rfl,rfl,(sp2.trans sp3) _ _ gp1,gp3,by decide,?_⟩
     (intro p4 hp4;generalize ep4:upd _ p4 _=Gp4;obtain⟨sp4,gp4⟩:=nw hp4 ep4;clear ep4 hp4)
     have st:=((sp1.trans sp2).trans sp3).trans sp4
     refine⟨c,p4,BSS,rfl,.of gp4,by decide,?_,fun z H5 ps s5 h5 hl hb=> ?_⟩
     . intro b hb
       simp only [BSS,List.mem_cons,List.not_mem_nil,or_false]at hb
       have:b=3\/b=1000000000000\/b=10\/b=4\/b=13:=by omega
       rcases this with rfl | rfl | rfl | rfl | rfl<;>exact⟨by decide,by unfold Sz;decide⟩
     exact hN _ _ ⟨st.trans s5,z,ps,rfl,h5,hl,hb⟩
   rintro σ H5 ⟨s5,z,ps,rfl,g5,l5,b5⟩
   have ix:∀(H':Hp) (R:VK) (i:Nat),i<27->H' z=some (.lst (ps.map V.int))->R (.int (co ps i)) H'->Ab1 K (.ref z) (.int (i:Nat)) H' R:=fun H' R i hi s' h=>Jb (.of s') (Dp (by omega)) (by rw [<-Bt];exact h)
   have b0:=b5 0 (by decide)
   have b1:=b5 1 (by decide)
   have b2:=b5 2 (by decide)
   have b3:=b5 3 (by decide)
   have b4:=b5 4 (by decide)
   have b5':=b5 5 (by decide)
   have b6:=b5 6 (by decide)
   have b7:=b5 7 (by decide)
   have b8:=b5 8 (by decide)
   simp only [BSS,Cq,Ci]at b0 b1 b2 b3 b4 b5' b6 b7 b8
   clear b5
   refine Bm (fun σ' H'=>Same H5 H'/\∃m:Int,σ'=[some (.ref a),some (.int FAR),some (.ref q0),some (.int c),some (.ref z),some (.int m),o6,o7,o8,o9,o10,o11,o12,o13]/\1<m/\m<2000000000000) (fun N hN=> ?_) ?_
   . done
     refine ix _ _ 1 (by decide) g5 (ix _ _ 1 (by decide) g5 ?_)
     try done
     refine⟨by decide,ix _ _ 1 (by decide) g5 ?_⟩
     try done
     refine⟨by decide,by decide,?_⟩
     (intro r1 hr1;generalize er1:upd _ r1 _=Gr1;obtain⟨sr1,gr1⟩:=nw hr1 er1;clear er1 hr1)
     refine ix _ _ 0 (by decide) (sr1 _ _ g5) ?_
     have m:∃v,atI [V.int (co ps 1),V.int (co ps 1%30),V.int (co ps 1%1000)] (co ps 0)=some (.int v)/\0<=v/\v<=1000000000000:=by
      have:co ps 0=0\/co ps 0=1\/co ps 0=2:=by omega
      rcases this with h | h | h<;>rw [h]
      . exact⟨_,rfl,by omega,by omega⟩
      . exact⟨_,rfl,by omega,by omega⟩
      . exact⟨_,rfl,by omega,by omega⟩
     obtain⟨v,ev,v0,v1⟩:=m
     refine Nx (.of gr1) ev ?_
     try done
     exact hN _ _ ⟨sr1,_,rfl,by omega,by omega⟩
   rintro σ H6 ⟨s6,m,rfl,m1,m2⟩
   have zm:Sz 41 m:=by
    unfold Sz
    have:(2000000000000:Nat)<=2^41:=by decide
    omega
   have m0:0<m:=by omega
   have g6:=s6 _ _ g5
   have s46:=s5.trans s6
   refine Bm (fun σ' H'=>H'=H6/\∃t:Int,σ'=[some (.ref a),some (.int FAR),some (.ref q0),some (.int c),some (.ref z),some (.int m),some (.int t),o7,o8,o9,o10,o11,o12,o13]/\∃n∈PrL,t=(n:Nat)) (fun N hN=> ?_) ?_
   . done
     refine ix _ _ 2 (by decide) g6 ?_
     have pr:∃n∈PrL,atI (PrL.map fun n=>V.int (n:Nat)) (co ps 2)=some (.int (n:Nat)):=by
      have:co ps 2=0\/co ps 2=1\/co ps 2=2\/co ps 2=3\/co ps 2=4\/co ps 2=5\/co ps 2=6\/co ps 2=7\/co ps 2=8\/co ps 2=9:=by omega
      rcases this with h | h | h | h | h | h | h | h | h | h<;>rw [h]
      . exact⟨2,by decide,rfl⟩
      . exact⟨3,by decide,rfl⟩
      . exact⟨5,by decide,rfl⟩
      . exact⟨7,by decide,rfl⟩
      . exact⟨11,by decide,rfl⟩
      . exact⟨13,by decide,rfl⟩
      . exact⟨17,by decide,rfl⟩
      . exact⟨31,by decide,rfl⟩
      . exact⟨47,by decide,rfl⟩
      . exact⟨97,by decide,rfl⟩
     obtain⟨n,hn,e⟩:=pr
     refine Nx (.of (s46 _ _ gpr)) e ?_
     try done
     exact hN _ _ ⟨rfl,_,rfl,n,hn,rfl⟩
   rintro σ H6 ⟨rfl,t,rfl,hpl⟩
   obtain⟨t1,t2⟩:=Gg hpl
   have t0:0<t:=by omega
   have zt:Sz 41 t:=by
    unfold Sz
    have:(100:Nat)<2^41:=by decide
    omega
   have cutk:∀(i:Nat) (x:Int) (H':Hp) (R:VK),i<=18->0<=x->x<10->H' z=some (.lst (ps.map V.int))->(∀p,H' p=none->R (.ref p) (upd H' p (.lst (((ps.drop i).take x.toNat).map V.int))))->Ac6 K (.ref z) (some (i:Nat)) (some ((i:Nat)+x)) H' R:=fun i x H' R hi h0 h1 hz h=>by
    refine⟨z,_,rfl,.of hz,fun p hp=> ?_⟩
    have e:((i:Nat):Int)+x=((i+x.toNat:Nat):Int):=by omega
    rw [e,Aa1 (by rw [List.length_map];omega) (by rw [List.length_map];omega),<-List.map_drop,<-List.map_take,Nat.add_sub_cancel_left]
    exact h p hp
   refine Bm (fun σ' H'=>Same H6 H'/\∃(w1:Addr) (ws:List Int),σ'=[some (.ref a),some (.int FAR),some (.ref q0),some (.int c),some (.ref z),some (.int m),some (.int t),some (.ref w1),o8,o9,o10,o11,o12,o13]/\H' w1=some (.lst (ws.map V.int))/\ws.length<=9) (fun N hN=> ?_) ?_
   . done
     refine ix _ _ 3 (by decide) g6 ?_
     try done
     refine cutk 9 _ _ _ (by decide) b3.1 b3.2 g6 fun p hp=>hN _ _ ⟨Same.upd hp _,p,_,rfl,Ah,?_⟩
     rw [List.length_take]
     omega
   rintro σ H7 ⟨s7,w1,ws,rfl,gw,lw⟩
   have g7:=s7 _ _ g6
   refine Bm (fun σ' H'=>Same H7 H'/\∃(w2:Addr) (us:List Int),σ'=[some (.ref a),some (.int FAR),some (.ref q0),some (.int c),some (.ref z),some (.int m),some (.int t),some (.ref w1),some (.ref w2),o9,o10,o11,o12,o13]/\H7 w2=none/\H' w2=some (.lst (us.map V.int))/\us.length<=9) (fun N hN=> ?_) ?_
   . done
     refine ix _ _ 4 (by decide) g7 ?_
     try done
     refine cutk 18 _ _ _ (by decide) b4.1 b4.2 g7 fun p hp=>hN _ _ ⟨Same.upd hp _,p,_,rfl,hp,Ah,?_⟩
     rw [List.length_take]
     omega
   rintro σ H8 ⟨s8,w2,us,rfl,nw2,gu,lu⟩
   have g8:=s8 _ _ g7
   refine Bm (fun σ' H'=>Same H7 H'/\∃us:List Int,σ'=[some (.ref a),some (.int FAR),some (.ref q0),some (.int c),some (.ref z),some (.int m),some (.int t),some (.ref w1),some (.ref w2),o9,o10,o11,o12,o13]/\H' w2=some (.lst (us.map V.int))/\us.length<=9) (fun N hN=> ?_) ?_
   . done
     refine ix _ _ 5 (by decide) g8 ?_
     try done
     by_cases h5:co ps 5<2
     . rw [if_pos h5]
       refine⟨by decide,fun e0 he0=> ?_⟩
       have s9:=Same.upd he0 (.lst [])
       refine W7 (ms:=[]) (.of (s9 _ _ gu)) (.of Ah) ?_
       try done
       by_cases hu:us=[]
       . rw [if_pos hu]
         exact hN _ _ ⟨s8.trans s9,us,rfl,s9 _ _ gu,lu⟩
       . rw [if_neg hu]
         refine⟨⟨by decide,by decide⟩,fun e1 he1=> ?_⟩
         have s10:=Same.upd he1 (.lst [V.int 1,V.int (m-m/2)])
         have s910:=s9.trans s10
         refine ix _ _ 5 (by decide) (s910 _ _ g8) ?_
         have vv:∃v:Int,atI [V.int 1,V.int (m-m/2)] (co ps 5)=some (.int v):=by
          have:co ps 5=0\/co ps 5=1:=by omega
          rcases this with h | h<;>rw [h]
          . exact⟨_,rfl⟩
          . exact⟨_,rfl⟩
         obtain⟨v,ev⟩:=vv
         refine Nx (.of Ah) ev ?_
         try done
         refine Aba (s910 _ _ gu) (by simpa using hu) ?_
         rw [Gz]
         refine hN _ _ ⟨fun b o hb=> ?_,us.set _ v,rfl,Ah,by rw [List.length_set];exact lu⟩
         rw [Bb (Bj hb nw2)]
         exact s910 _ _ (s8 _ _ hb)
     . rw [if_neg h5]
       exact hN _ _ ⟨s8,us,rfl,gu,lu⟩
   clear gu lu us
   rintro σ H9 ⟨s9,us,rfl,gu,lu⟩
   have g9:=s9 _ _ g7
   have gw9:=s9 _ _ gw
   have s49:=(s46.trans s7).trans s9
   have tb9:=tb4.same s49
   refine Bm (fun σ' H'=>Same H9 H'/\σ'=[some (.ref a),some (.int FAR),some (.ref q0),some (.int c),some (.ref z),some (.int m),some (.int t),some (.ref w1),some (.ref w2),o9,o10,o11,o12,o13]) (fun N hN=> ?_) ?_
   . done
     refine Ek (.inl (.of gw9)) (Same.refl _) (by omega) m0 zm fun z1 Ha sa ia=> ?_
     try done
     refine Ek (.inl (.of (sa _ _ gu))) (Same.refl _) (by omega) m0 zm fun z2 Hb sb ib=> ?_
     try done
     refine⟨z1,z2,m,_,_,rfl,(ia.mono sb).wk lw,ib.wk lu,Io m0 _,Io m0 _,m1,zm,fun Hc sc=> ?_⟩
     try done
     exact hN _ _ ⟨(sa.trans sb).trans sc,rfl⟩
   rintro σ Ha ⟨sa,rfl⟩
   refine Bm (fun σ' H'=>Same Ha H'/\∃y1:Addr,σ'=[some (.ref a),some (.int FAR),some (.ref q0),some (.int c),some (.ref z),some (.int m),some (.int t),some (.ref w1),some (.ref w2),some (.ref y1),o10,o11,o12,o13]/\Po K H' (.ref y1) (md us m) 9 41) (fun N hN=> ?_) ?_
   . done
     refine Ek (.inl (.of (sa _ _ gu))) (Same.refl _) (by omega) m0 zm fun z2 Hb sb ib=> ?_
     obtain⟨⟨y1,rfl,hy1⟩,r⟩:=ib
     exact hN _ _ ⟨sb,y1,rfl,⟨⟨y1,rfl,hy1⟩,r.1,Nat.le_trans r.2.1 lu,r.2.2⟩⟩
   rintro σ Hb ⟨sb,y1,rfl,iy⟩
   have s9b:=sa.trans sb
   have tbb:=tb9.same s9b
   refine Bm (fun σ' H'=>SmP (Q7 K "m_power") Hb H'/\TB K H'/\σ'=[some (.ref a),some (.int FAR),some (.ref q0),some (.int c),some (.ref z),some (.int m),some (.int t),some (.ref w1),some (.ref w2),some (.ref y1),o10,o11,o12,o13]) (fun N hN=> ?_) ?_
   . done
     obtain⟨⟨_,ez,hy1⟩,r⟩:=id iy
     cases ez
     refine⟨y1,_,rfl,.inr hy1,?_⟩
     repeat (first | done | simp only [List.length_map])
     by_cases hl:(1:Int)<((md us m).length:Nat)
     . rw [if_pos hl]
       refine Ek (.inl (.of (s9b _ _ gw9))) (Same.refl _) (by omega) m0 zm fun z1 Hc sc ic=> ?_
       try done
       refine ix _ _ 7 (by decide) ((s9b.trans sc) _ _ g9) ?_
       try done
       have e7:co ps 7=(((co ps 7).toNat:Nat):Int):=by omega
       rw [e7]
       refine⟨z1,.ref y1,m,(co ps 7).toNat,_,_,rfl,tbb.same sc,ic.wk (by omega),(iy.mono sc).wk (by decide),Io m0 _,Io m0 _,m1,zm,by omega,by omega,fun Hd sd tbd=> ?_⟩
       try done
       exact hN _ _ ⟨sc.smp.trans sd,tbd,rfl⟩
     . rw [if_neg hl]
       exact hN _ _ ⟨(Same.refl _).smp,tbb,rfl⟩
   rintro σ Hc ⟨sc,tbc,rfl⟩
   have gwc:=Lb sc tbb.is (s9b _ _ gw9)
   have guc:=Lb sc tbb.is (s9b _ _ gu)
   have gzc:=Lb sc tbb.is (s9b _ _ g9)
   clear iy
   refine Bm (fun σ' H'=>Same Hc H'/\∃v1:V,σ'=[some (.ref a),some (.int FAR),some (.ref q0),some (.int c),some (.ref z),some (.int m),some (.int t),some (.ref w1),some (.ref w2),some (.ref y1),some v1,o11,o12,o13]/\Po K H' v1 (md ws t) 9 41) (fun N hN=> ?_) ?_
   . done
     exact Ek (.inl (.of gwc)) (Same.refl _) (by omega) t0 zt fun v1 Hd sd id'=>hN _ _ ⟨sd,v1,rfl,id'.wk lw⟩
   rintro σ Hd ⟨sd,v1,rfl,i1⟩
   refine Bm (fun σ' H'=>Same Hd H'/\∃v2:Addr,σ'=[some (.ref a),some (.int FAR),some (.ref q0),some (.int c),some (.ref z),some (.int m),some (.int t),some (.ref w1),some (.ref w2),some (.ref y1),some v1,some (.ref v2),o12,o13]/\Po K H' (.ref v2) (md us t) 9 41) (fun N hN=> ?_) ?_
   . done
     refine Ek (.inl (.of (sd _ _ guc))) (Same.refl _) (by omega) t0 zt fun v2 He se ie=> ?_
     obtain⟨⟨y2,rfl,hy2⟩,r⟩:=ie
     exact hN _ _ ⟨se,y2,rfl,⟨⟨y2,rfl,hy2⟩,r.1,Nat.le_trans r.2.1 lu,r.2.2⟩⟩
   rintro σ He ⟨se,v2,rfl,i2⟩
   have sce:=sd.trans se
   refine Bm (fun σ' H'=>Same He H'/\∃(v3:V) (bs:List Int),σ'=[some (.ref a),some (.int FAR),some (.ref q0),some (.int c),some (.ref z),some (.int m),some (.int t),some (.ref w1),some (.ref w2),some (.ref y1),some v1,some (.ref v2),some v3,o13]/\Po K H' v3 (md bs t) 9 41) (fun N hN=> ?_) ?_
   . done
     refine ix _ _ 6 (by decide) (sce _ _ gzc) ?_
     try done
     refine cutk 9 _ _ _ (by decide) b6.1 (by omega) (sce _ _ gzc) fun p hp=> ?_
     refine Ek (.inl (.of Ah)) (Same.refl _) (by rw [List.length_take];omega) t0 zt fun v3 Hf sf i3=>hN _ _ ⟨(Same.upd hp _).trans sf,v3,_,rfl,i3.wk (by rw [List.length_take];omega)⟩
   rintro σ Hf ⟨sf,v3,bs,rfl,i3⟩
   refine Bm (fun σ' H'=>Same Hf H'/\σ'=[some (.ref a),some (.int FAR),some (.ref q0),some (.int c),some (.ref z),some (.int m),some (.int t),some (.ref w1),some (.ref w2),some (.ref y1),some v1,some (.ref v2),some v3,o13]) (fun N hN=> ?_) ?_
   . done
     refine⟨v1,v3,t,_,_,9,9,41,41,41,rfl,i1.mono (se.trans sf),i3,by decide,by decide,by decide,t0,zt,fun x1 Hg sg ig=> ?_⟩
     try done
     refine⟨.ref v2,v3,t,_,_,9,9,41,41,41,rfl,i2.mono (sf.trans sg),i3.mono sg,by decide,by decide,by decide,t0,zt,fun x2 Hh sh ih=> ?_⟩
     try done
     refine⟨x1,x2,t,_,_,rfl,(ig.mono sh).wk (by decide),ih.wk (by decide),Io t0 _,Io t0 _,hpl,fun Hi si=> ?_⟩
     try done
     exact hN _ _ ⟨(sg.trans sh).trans si,rfl⟩
   rintro σ Hg ⟨sg,rfl⟩
   have scg:=(sce.trans sf).trans sg
   refine Bm (fun σ' H'=>Same Hg H'/\∃n:Nat,σ'=[some (.ref a),some (.int FAR),some (.ref q0),some (.int c),some (.ref z),some (.int m),some (.int t),some (.ref w1),some (.ref w2),some (.ref y1),some v1,some (.ref v2),some v3,some (.int (n:Nat))]) (fun N hN=> ?_) ?_
   . done
     refine ix _ _ 8 (by decide) (scg _ _ gzc) (ix _ _ 7 (by decide) (scg _ _ gzc) ?_)
     try done
     refine⟨by decide,fun e1 he1=> ?_⟩
     have s11:=Same.upd he1 (.lst [V.int (co ps 8),V.int (co ps 7),V.int t])
     refine ix _ _ 6 (by decide) ((scg.trans s11) _ _ gzc) ?_
     have vv:∃n:Nat,atI [V.int (co ps 8),V.int (co ps 7),V.int t] (co ps 6)=some (.int (n:Nat)):=by
      have:co ps 6=0\/co ps 6=1\/co ps 6=2:=by omega
      rcases this with h | h | h<;>rw [h]
      . exact⟨(co ps 8).toNat,by rw [Int.toNat_of_nonneg b8.1];rfl⟩
      . exact⟨(co ps 7).toNat,by rw [Int.toNat_of_nonneg b7.1];rfl⟩
      . exact⟨t.toNat,by rw [Int.toNat_of_nonneg (by omega)];rfl⟩
     obtain⟨n,ev⟩:=vv
     refine Nx (.of Ah) ev ?_
     try done
     exact hN _ _ ⟨s11,n,rfl⟩
   rintro σ Hh ⟨sh,n,rfl⟩
   have sch:=scg.trans sh
   have tbh:=tbc.same sch
   have sall:SmP (Q7 K "m_power") Gq3 Hh:=((s4.trans (s49.trans s9b).smp).trans sc).trans sch.smp
   done
   have i2h:=i2.mono ((sf.trans sg).trans sh)
   obtain⟨⟨_,ez,hv2⟩,r⟩:=id i2h
   cases ez
   refine⟨v2,_,rfl,.inr hv2,?_⟩
   repeat (first | done | simp only [List.length_map])
   by_cases hl:(1:Int)<((md us t).length:Nat)
   . rw [if_pos hl]
     refine⟨v1,.ref v2,t,n,_,_,rfl,tbh,(i1.mono (((se.trans sf).trans sg).trans sh)).wk (by decide),i2h.wk (by decide),Io t0 _,Io t0 _,hpl,by omega,fun Hi si tbi=> ?_⟩
     try done
     exact⟨sall.trans si,tbi,_,_,_,_,_,_,_,_,_,_,_,rfl⟩
   . rw [if_neg hl]
     exact⟨sall,tbh,_,_,_,_,_,_,_,_,_,_,_,rfl⟩
 . rintro σ H' ⟨s1,tb1,o3,o4,o5,o6,o7,o8,o9,o10,o11,o12,o13,rfl⟩
   have pr3:Pr 3:=R6 ⟨3,by decide,rfl⟩
   have z3:Sz 2 (3:Int):=by unfold Sz;decide
   have nil:∀(H':Hp) (p:Addr),H' p=some (.tup [])->Po K H' (.ref p) [] 9 70:=fun H' p h=>⟨⟨p,rfl,.of h⟩,.inl rfl,by decide,fun i=>by rw [Br];unfold Sz;decide⟩
   done
   refine⟨by decide,?_⟩
   (intro x1 hx1;generalize ex1:upd _ x1 _=Gx1;obtain⟨sx1,gx1⟩:=nw hx1 ex1;clear ex1 hx1)
   refine⟨by decide,?_⟩
   (intro x2 hx2;generalize ex2:upd _ x2 _=Gx2;obtain⟨sx2,gx2⟩:=nw hx2 ex2;clear ex2 hx2)
   refine⟨.ref x1,.ref x2,3,[],[],9,9,70,70,2,rfl,nil _ _ (sx2 _ _ gx1),nil _ _ gx2,by decide,by decide,pr3,z3,by decide,fun v H2 f g s2 i2 sg sm=> ?_⟩
   obtain⟨⟨v,rfl,hv⟩,_⟩:=i2
   have eg:g=[]:=by
    obtain⟨u,hu⟩:=((sm []).mpr ⟨.nil 3 [],.nil 3 []⟩).1
    have z:md f 3=[]:=(Ln _ _).ext (.inl rfl) fun i=>by
     have:=hu i
     rw [Ih u []]at this
     have e0:mu [] (co u) i=0:=rfl
     rw [e0,Int.sub_zero]at this
     rw [G8,Br]
     exact Int.emod_eq_zero_of_dvd this
    have:=sg.len
    rw [z]at this
    exact List.eq_nil_of_length_eq_zero this
   try done
   refine⟨by decide,?_⟩
   (intro x3 hx3;generalize ex3:upd _ x3 _=Gx3;obtain⟨sx3,gx3⟩:=nw hx3 ex3;clear ex3 hx3)
   refine Bk (ms:=[]) (sx3.tup hv) (.of gx3) ?_
   rw [decide_eq_true eg]
   try done
   refine⟨by decide,?_⟩
   (intro x4 hx4;generalize ex4:upd _ x4 _=Gx4;obtain⟨sx4,gx4⟩:=nw hx4 ex4;clear ex4 hx4)
   refine⟨.ref x4,3,[],9,70,2,rfl,nil _ _ gx4,by decide,pr3,z3,by decide,fun v5 H5 g5 s5 i5 sg5=> ?_⟩
   obtain⟨⟨v5,rfl,hv5⟩,_⟩:=i5
   try done
   refine⟨by decide,?_⟩
   (intro x6 hx6;generalize ex6:upd _ x6 _=Gx6;obtain⟨sx6,gx6⟩:=nw hx6 ex6;clear ex6 hx6)
   refine Bk (ms:=[]) (sx6.tup hv5) (.of gx6) ?_
   rw [decide_eq_true (show g5=[]from List.eq_nil_of_length_eq_zero sg5.len)]
   try done
   (intro x7 hx7;generalize ex7:upd _ x7 _=Gx7;obtain⟨sx7,gx7⟩:=nw hx7 ex7;clear ex7 hx7)
   (intro x8 hx8;generalize ex8:upd _ x8 _=Gx8;obtain⟨sx8,gx8⟩:=nw hx8 ex8;clear ex8 hx8)
   have st:=(((((sx1.trans sx2).trans s2).trans sx3).trans sx4).trans s5).trans sx6
   have tb8:TB K Gx8:=tb1.same (st.trans (sx7.trans sx8))
   have two:∀(H:Hp) (p:Addr) (x:Int),H p=some (.tup [V.int x,V.int 1])->(x=0\/x=1)->Po K H (.ref p) [x,1] 2 41:=fun H p x h hx=>⟨⟨p,rfl,(.of (xs:=[x,1].map V.int) h)⟩,.of (.inr (by show(1:Int)≠0;decide)),by simp,fun i=>Adg (by decide) (fun y hy=>by
    have:y=x\/y=1:=by simpa using hy
    rcases this with rfl | rfl
    . rcases hx with rfl | rfl<;>unfold Sz<;>decide
    . unfold Sz;decide) i⟩
   refine⟨.ref x7,.ref x8,2,0,[0,1],[1,1],2,41,41,2,rfl,tb8,two _ _ 0 (sx8 _ _ gx7) (.inl rfl),two _ _ 1 gx8 (.inr rfl),by decide,by decide,by decide,by unfold Sz;decide,by decide,by decide,by decide,fun d H9 r s9 tb9 i9 hr=> ?_⟩
   obtain⟨⟨d,rfl,hd⟩,_⟩:=i9
   try done
   (intro xa hxa;generalize exa:upd _ xa _=Gxa;obtain⟨sxa,gxa⟩:=nw hxa exa;clear exa hxa)
   have e:r=[1]:=Rem.uniq (by decide) hr (Qz (by decide) (by decide) _) (.refl _ _ _)
   refine Bk (ms:=[1]) (sxa.tup hd) (.of gxa) ?_
   rw [decide_eq_true e]
   exact k _
end
noncomputable abbrev Fd (K:PySem.W.Frag) (x:Str) (st:Stmt):Prop:=∃(f:Addr) (od an:Option Addr) (sl:Array (Option Value)) (oc kV dc pm cd ct:Value),PySem.W.nsIn K mainGlobals x=some (some (.ref f))/\K.lookup f=some ⟨oc,od,.func (PySem.W.fnOf x x (Ho st) (Fo st) (Ao st) .none kV dc pm an cd ct),sl⟩/\PySem.W.codeIn K cd x=true/\PySem.W.keepIn K (.ref f)=true
theorem us1 {P:List Value->Prop} (h:∀a,P [a]) (us:List Value) (hl:us.length=1):P us:=match us,hl with | [_],_=>h _
theorem us2 {P:List Value->Prop} (h:∀a b,P [a,b]) (us:List Value) (hl:us.length=2):P us:=match us,hl with | [_,_],_=>h _ _
theorem us3 {P:List Value->Prop} (h:∀a b c,P [a,b,c]) (us:List Value) (hl:us.length=3):P us:=match us,hl with | [_,_,_],_=>h _ _ _
theorem us4 {P:List Value->Prop} (h:∀a b c d,P [a,b,c,d]) (us:List Value) (hl:us.length=4):P us:=match us,hl with | [_,_,_,_],_=>h _ _ _ _
theorem Em {K:PySem.W.Frag}{h:Heap}{mg:Str->Option Value}{x:Str}{st:Stmt} (X:K.In h) (G:h.Ns mainGlobals mg) (d:Fd K x st) (ps:List Str) (hb:∀(kV doc pm:Value) (an:Option Addr) (cdv ct:Value) (us:List Value),us.length=ps.length->bindArgs (PySem.W.fnOf x x (Ho st) (Fo st) (Ao st) .none kV doc pm an cdv ct) ⟨us,[]⟩=pure (ps.zip us):=by first | exact(fun _ _ _ _ _ _=>us1 fun _=>rfl) | exact(fun _ _ _ _ _ _=>us2 fun _ _=>rfl) | exact(fun _ _ _ _ _ _=>us3 fun _ _ _=>rfl) | exact(fun _ _ _ _ _ _=>us4 fun _ _ _ _=>rfl)):∃f fd,Df K mg x st ps f fd:=by
 obtain⟨f,_,_,_,_,_,_,_,_,_,a,l,c,k⟩:=d
 have F:=Uz (st:=st) l c k
 exact⟨_,_,F,F.binds hb,PySem.W.mg_of X G a⟩
theorem Aa5 {K:PySem.W.Frag}{h:Heap}{mg:Str->Option Value}{x:Str}{st:Stmt} (X:K.In h) (G:h.Ns mainGlobals mg) (d:Fd K x st) (ps:List Str) (ht:∃c p,PySem.W.tabIn K x=some (c,p)/\K.lookup p=none) (hb:∀(kV doc pm:Value) (an:Option Addr) (cdv ct:Value) (us:List Value),us.length=ps.length->bindArgs (PySem.W.fnOf x x (Ho st) (Fo st) (Ao st) .none kV doc pm an cdv ct) ⟨us,[]⟩=pure (ps.zip us):=by first | exact(fun _ _ _ _ _ _=>us4 fun _ _ _ _=>rfl)):∃f fd,Df K mg x st ps f fd/\fd.code= .ref (Wq K x):=by
 obtain⟨f,_,_,_,_,_,_,_,cd,_,a,l,c,k⟩:=d
 have F:=Uz (st:=st) l c k
 refine⟨_,_,⟨F,F.binds hb,PySem.W.mg_of X G a⟩,?_⟩
 show cd=_
 obtain⟨c',p',ht,_⟩:=ht
 have e:Wq K x=c':=by unfold Wq;rw [ht];rfl
 rw [e]
 unfold PySem.W.tabIn at ht
 simp only [a,l]at ht
 split at ht
 . split at ht
   . split at ht
     . cases ht;first | rfl | assumption
     . cases ht
   . cases ht
 . cases ht
theorem all_mk {l:PySem.W.OpenLaw}{w:World}{K:PySem.W.Frag}{h:Heap}{mg:Str->Option Value}{fa:Addr} (X:K.In h) (G:h.Ns mainGlobals mg) (hfa:mg "law"=some (.ref fa))
 (d1:Fd K "_law_mixed" K6) (d2:Fd K "_law_parts" K7) (d3:Fd K "_law_poly" J8) (d4:Fd K "inverse_by" Hs) (d5:Fd K "poly" V6) (d6:Fd K "by_number" Gx) (d7:Fd K "degree" Ng) (d8:Fd K "m_parted" Jk) (d9:Fd K "_law_sum" Nj) (d10:Fd K "_law_divides_both" Es) (d11:Fd K "_law_product" Ij) (d12:Fd K "_law_parted_right" Et) (d13:Fd K "scaled" Ka) (d14:Fd K "single" Nk) (d15:Fd K "m_rest" Nh) (d16:Fd K "m_shared" Jl) (d17:Fd K "_law_inverse" Ii) (d18:Fd K "_law_rest" Ni) (d19:Fd K "_law_common" Jm) (d20:Fd K "_law_prime_right" Fq) (d21:Fd K "repeated" Hx) (d22:Fd K "p_times" K5) (d23:Fd K "m_power" Ht) (d24:Fd K "_law_turned" Jo) (d25:Fd K "_law_rest_by" Ik) (d26:Fd K "_law_any_power_right" Dr) (d27:Fd K "_law_power_right" Fp) (d28:Fd K "law" Pg)
 {qNoPart:Addr} (aNoPart:PySem.W.nsIn K mainGlobals "NoPart"=some (some (.ref qNoPart)))
 {qCourtError:Addr} (aCourtError:PySem.W.nsIn K mainGlobals "CourtError"=some (some (.ref qCourtError)))
 {qNoFree:Addr} (aNoFree:PySem.W.nsIn K mainGlobals "NoFree"=some (some (.ref qNoFree)))
 {qTooGreat:Addr} (aTooGreat:PySem.W.nsIn K mainGlobals "TooGreat"=some (some (.ref qTooGreat)))
 (xkNoPart:PySem.W.excIn K qNoPart [.type "ValueError",.type "Exception",.type "BaseException",.type "object"] "ValueError.__new__"=true)
 (xkCourtError:PySem.W.excIn K qCourtError [.type "ValueError",.type "Exception",.type "BaseException",.type "object"] "ValueError.__new__"=true)
 (xigetattributeNoPart:PySem.W.findIn K (.ref qNoPart) "__getattribute__"=some (some (.builtin "BaseException.__getattribute__")))
 (xigetattrNoPart:PySem.W.findIn K (.ref qNoPart) "__getattr__"=some none)
 (xiclassNoPart:PySem.W.findIn K (.ref qNoPart) "__class__"=some (some (.builtin "object.__class__")))
 (xiobjectNoPart:PySem.W.mroIn K qNoPart (.type "object")=some true)
 (xiBaseExceptionNoPart:PySem.W.mroIn K qNoPart (.type "BaseException")=some true)
 (xsNoPartCourtError:PySem.W.mroIn K qNoPart (.ref qCourtError)=some true)
 (kiNoPartNoPart:PySem.W.kitOne K (.ref qNoPart) (.ref qNoPart)=some true)
 (kiNoPartNoFree:PySem.W.kitOne K (.ref qNoPart) (.ref qNoFree)=some false)
 (kiNoPartTooGreat:PySem.W.kitOne K (.ref qNoPart) (.ref qTooGreat)=some false)
 (zenumerate:PySem.W.nsIn K mainGlobals "enumerate"=some none) (zlen:PySem.W.nsIn K mainGlobals "len"=some none) (ztuple:PySem.W.nsIn K mainGlobals "tuple"=some none) (zlist:PySem.W.nsIn K mainGlobals "list"=some none) (zrange:PySem.W.nsIn K mainGlobals "range"=some none) (zmax:PySem.W.nsIn K mainGlobals "max"=some none) (zabs:PySem.W.nsIn K mainGlobals "abs"=some none) (zisinstance:PySem.W.nsIn K mainGlobals "isinstance"=some none) (htab:∃c p,PySem.W.tabIn K "m_power"=some (c,p)/\K.lookup p=none):
 ∃fd:FuncData,(∀(s:Shared) (v:Value),BindsTo s fd ⟨[v],[]⟩ [("_law_script",v)])/\∀base:Heap,Pyl l.prog base->Yb mg base (Wq K "m_power") (Q7 K "m_power")->J1 l.prog w K mg base CX0 41 fa fd ["_law_script"] (Xq K):=by
 obtain⟨f28,_,an,sl,oc,kV,dc,pm,cd,ct,a28,l28,c28,k28⟩:=d28
 have e:=hfa.symm.trans (PySem.W.mg_of X G a28)
 cases e
 have z_enumerate:=PySem.W.mg_none_of X G zenumerate
 have z_len:=PySem.W.mg_none_of X G zlen
 have z_tuple:=PySem.W.mg_none_of X G ztuple
 have z_list:=PySem.W.mg_none_of X G zlist
 have z_range:=PySem.W.mg_none_of X G zrange
 have z_max:=PySem.W.mg_none_of X G zmax
 have z_abs:=PySem.W.mg_none_of X G zabs
 have z_isinstance:=PySem.W.mg_none_of X G zisinstance
 have eNoPart:=Wx aNoPart
 have eCourtError:=Wx aCourtError
 have eNoFree:=Wx aNoFree
 have eTooGreat:=Wx aTooGreat
 have xk_NoPart:N5 K (cA K "NoPart"):=by rw [eNoPart];exact xkNoPart
 have xm_NoPart:mg "NoPart"=some (.ref (cA K "NoPart")):=by rw [eNoPart];exact PySem.W.mg_of X G aNoPart
 have xk_CourtError:N5 K (cA K "CourtError"):=by rw [eCourtError];exact xkCourtError
 have xm_CourtError:mg "CourtError"=some (.ref (cA K "CourtError")):=by rw [eCourtError];exact PySem.W.mg_of X G aCourtError
 have xi_NoPart:Qc K (cA K "NoPart"):=by rw [eNoPart];exact⟨xigetattributeNoPart,xigetattrNoPart,xiclassNoPart,xiobjectNoPart,xiBaseExceptionNoPart⟩
 have xs_NoPart_CourtError:PySem.W.mroIn K (cA K "NoPart") (.ref (cA K "CourtError"))=some true:=by rw [eNoPart];rw [eCourtError];exact xsNoPartCourtError
 have ki_NoPart_NoPart:PySem.W.kitOne K (.ref (cA K "NoPart")) (.ref (cA K "NoPart"))=some true:=by rw [eNoPart];exact kiNoPartNoPart
 have xm_NoFree:mg "NoFree"=some (.ref (cA K "NoFree")):=by rw [eNoFree];exact PySem.W.mg_of X G aNoFree
 have ki_NoPart_NoFree:PySem.W.kitOne K (.ref (cA K "NoPart")) (.ref (cA K "NoFree"))=some false:=by rw [eNoPart];rw [eNoFree];exact kiNoPartNoFree
 have xm_TooGreat:mg "TooGreat"=some (.ref (cA K "TooGreat")):=by rw [eTooGreat];exact PySem.W.mg_of X G aTooGreat
 have ki_NoPart_TooGreat:PySem.W.kitOne K (.ref (cA K "NoPart")) (.ref (cA K "TooGreat"))=some false:=by rw [eNoPart];rw [eTooGreat];exact kiNoPartTooGreat
 obtain⟨_,_,D1⟩:=Em X G d1 ["_law_cell","_law_k"]
 obtain⟨_,_,D2⟩:=Em X G d2 ["_law_cell","_law_bases"]
 obtain⟨_,_,D3⟩:=Em X G d3 ["_law_weights","_law_m"]
 obtain⟨_,_,D4⟩:=Em X G d4 ["number","m"]
 obtain⟨_,_,D5⟩:=Em X G d5 ["weights"]
 obtain⟨_,_,D6⟩:=Em X G d6 ["one","m"]
 obtain⟨_,_,D7⟩:=Em X G d7 ["one"]
 obtain⟨_,_,D8⟩:=Em X G d8 ["one","other","m"]
 obtain⟨_,_,D9⟩:=Em X G d9 ["_law_one","_law_other","_law_way","_law_m"]
 obtain⟨_,_,D10⟩:=Em X G d10 ["_law_one","_law_other"]
 obtain⟨_,_,D11⟩:=Em X G d11 ["_law_one","_law_other","_law_m"]
 obtain⟨_,_,D12⟩:=Em X G d12 ["_law_one","_law_other","_law_m"]
 obtain⟨_,_,D13⟩:=Em X G d13 ["one","factor"]
 obtain⟨_,_,D14⟩:=Em X G d14 ["one","t"]
 obtain⟨_,_,D15⟩:=Em X G d15 ["one","other","m"]
 obtain⟨_,_,D16⟩:=Em X G d16 ["one","other","t"]
 obtain⟨_,_,D17⟩:=Em X G d17 ["_law_figure","_law_t"]
 obtain⟨_,_,D18⟩:=Em X G d18 ["_law_one","_law_other","_law_t"]
 obtain⟨_,_,D19⟩:=Em X G d19 ["_law_one","_law_other","_law_t"]
 obtain⟨_,_,D20⟩:=Em X G d20 ["_law_one","_law_other","_law_t"]
 obtain⟨_,_,D21⟩:=Em X G d21 ["start","one","many","product"]
 obtain⟨_,_,D22⟩:=Em X G d22 ["one","other"]
 obtain⟨_,_,D23,hcode⟩:=Aa5 X G d23 ["one","many","by","m"] htab
 obtain⟨_,_,D24⟩:=Em X G d24 ["_law_figure","_law_m"]
 obtain⟨_,_,D25⟩:=Em X G d25 ["_law_one","_law_by","_law_m"]
 obtain⟨_,_,D26⟩:=Em X G d26 ["_law_one","_law_by","_law_many","_law_m"]
 obtain⟨_,_,D27⟩:=Em X G d27 ["_law_one","_law_by","_law_many","_law_t"]
 have F28:=Uz (st:=Pg) l28 c28 k28
 have D28:Df K mg "law" Pg ["_law_script"] _ _:=⟨F28,F28.binds (ps:=["_law_script"]) fun _ _ _ _ _ _ us hl=>match us,hl with | [_],_=>rfl,PySem.W.mg_of X G a28⟩
 have B_q_mixed:=fun(base:Heap) (py:Pyl l.prog base)=> @Tw l.prog w K mg base _ _ D1
 have B_q_parts:=fun(base:Heap) (py:Pyl l.prog base)=> @Tz l.prog w K mg base _ _ D2 z_enumerate (B_q_mixed base py)
 have B_q_poly:=fun(base:Heap) (py:Pyl l.prog base)=> @Vn l.prog w K mg base _ _ D3 z_len z_tuple
 have BE_inverse_by:=fun(base:Heap) (py:Pyl l.prog base)=> @M7 l.prog w K mg base _ _ D4 xk_NoPart xm_NoPart
 have B_inverse_by:=fun(base:Heap) (py:Pyl l.prog base)=>(BE_inverse_by base py).calm (Ky K)
 have B_poly:=fun(base:Heap) (py:Pyl l.prog base)=> @Zz l.prog w K mg base _ _ D5 z_len z_tuple
 have B_by_number:=fun(base:Heap) (py:Pyl l.prog base)=> @Oz l.prog w K mg base _ _ D6 (B_poly base py)
 have B_degree:=fun(base:Heap) (py:Pyl l.prog base)=> @Vl l.prog w K mg base _ _ D7 z_len
 have BE_m_parted:=fun(base:Heap) (py:Pyl l.prog base)=> @Qn l.prog w K mg base _ _ D8 z_list z_range z_max z_len z_enumerate xk_NoPart xm_NoPart (BE_inverse_by base py) (B_by_number base py) (B_poly base py) (B_degree base py)
 have B_q_sum:=fun(base:Heap) (py:Pyl l.prog base)=> @Xi l.prog w K mg base _ _ D9 z_max z_len z_list z_range (B_q_poly base py)
 have B_q_divides_both:=fun(base:Heap) (py:Pyl l.prog base)=> @Ji l.prog w K mg base _ _ D10 z_abs
 have B_q_product:=fun(base:Heap) (py:Pyl l.prog base)=> @O2 l.prog w K mg base _ _ D11 z_range z_len (B_q_poly base py)
 have B_q_parted_right:=fun(base:Heap) (py:Pyl l.prog base)=> @Jj l.prog w K mg base _ _ D12 z_isinstance z_tuple z_len xk_CourtError xm_CourtError xk_NoPart xi_NoPart xs_NoPart_CourtError xm_NoPart ki_NoPart_NoPart xm_NoFree ki_NoPart_NoFree xm_TooGreat ki_NoPart_TooGreat (BE_m_parted base py) (B_q_sum base py) (B_q_divides_both base py) (B_q_poly base py) (B_q_product base py)
 have B_scaled:=fun(base:Heap) (py:Pyl l.prog base)=> @Vp l.prog w K mg base _ _ D13 z_tuple
 have B_single:=fun(base:Heap) (py:Pyl l.prog base)=> @Vq l.prog w K mg base _ _ D14 (B_by_number base py) (B_scaled base py) (B_inverse_by base py)
 have BE_m_rest:=fun(base:Heap) (py:Pyl l.prog base)=> @Vm l.prog w K mg base _ _ D15 (BE_m_parted base py)
 have B_m_rest:=fun(base:Heap) (py:Pyl l.prog base)=>(BE_m_rest base py).calm (Qk K)
 have B_m_shared:=fun(base:Heap) (py:Pyl l.prog base)=> @Qo l.prog w K mg base _ _ D16 (B_by_number base py) (B_single base py) (B_m_rest base py)
 have B_q_inverse:=fun(base:Heap) (py:Pyl l.prog base)=> @O1 l.prog w K mg base _ _ D17 z_range
 have B_q_rest:=fun(base:Heap) (py:Pyl l.prog base)=> @Vo l.prog w K mg base _ _ D18 z_list z_len z_range (B_q_inverse base py) (B_q_poly base py)
 have B_q_common:=fun(base:Heap) (py:Pyl l.prog base)=> @Qp l.prog w K mg base _ _ D19 (B_q_product base py) (B_q_rest base py) (B_q_inverse base py)
 have B_q_prime_right:=fun(base:Heap) (py:Pyl l.prog base)=> @J0 l.prog w K mg base _ _ D20 z_isinstance z_tuple (B_single base py) (B_m_shared base py) (B_q_common base py) (B_q_product base py) (B_q_inverse base py)
 have B_p_times:=fun(base:Heap) (py:Pyl l.prog base)=> @Tv l.prog w K mg base _ _ D22 z_enumerate z_tuple z_len
 have B_q_turned:=fun(base:Heap) (py:Pyl l.prog base)=> @Qq l.prog w K mg base _ _ D24
 have B_q_rest_by:=fun(base:Heap) (py:Pyl l.prog base)=> @O4 l.prog w K mg base _ _ D25 z_list z_len z_range (B_q_turned base py) (B_q_poly base py)
 refine⟨PySem.W.fnOf "law" "law" (Ho Pg) (Fo Pg) (Ao Pg) .none kV dc pm an cd ct,fun s v=> .of_eq rfl,fun base py lb=> ?_⟩
 have CE_m_power:=Tt D23 D21 py lb hcode (BE_m_rest base py) B_m_rest B_p_times
 have C_m_power:=CE_m_power.calm (Ou K)
 have C_q_any_power_right:= @Ib l.prog w K mg base _ _ D26 z_range z_isinstance xk_CourtError xm_CourtError xk_NoPart xi_NoPart xs_NoPart_CourtError xm_NoPart ki_NoPart_NoPart xm_NoFree ki_NoPart_NoFree xm_TooGreat ki_NoPart_TooGreat CE_m_power (B_q_divides_both base py) (B_q_rest_by base py) (B_q_product base py)
 have C_q_power_right:= @Jz l.prog w K mg base _ _ D27 (B_q_rest base py) C_m_power (B_q_product base py)
 exact @Aa9 l.prog w K mg base _ _ D28 z_len (B_q_parts base py) (B_q_poly base py) (B_q_parted_right base py) (B_q_prime_right base py) (B_m_shared base py) (B_single base py) C_m_power C_q_any_power_right (B_q_product base py) C_q_power_right
theorem walk {l:PySem.W.OpenLaw}{q:Program}{loose:List Str}{XP:(Str->Option Value)->Heap->Prop}{YP:World->Heap->Prop}{d:DefRec}{K:Params->PySem.W.Frag} (hn:l.most=some 63) (hdf:d.params.defaults=[]) (him:PyProof.Rows.importsNone q=true) (htr:l.prog.given.tree=none)
 {d2:DefRec} (hd2:(PyProof.Rows.recsOf q).find? (fun e=>e.name==("m_power":Str))=some d2)
 (hY:∀(w:World) (h:Heap),YP w h->(K w.params).In h)
 (ht:∀w:World,∃c p,PySem.W.tabIn (K w.params) "m_power"=some (c,p)/\(K w.params).lookup p=none)
 (F:∀(w:World) (mg:Str->Option Value) (fa:Addr) (h:Heap),(K w.params).In h->h.Ns mainGlobals mg->mg d.name=some (.ref fa)->
   ∃fd:FuncData,(∀(s:Shared) (u:Value),BindsTo s fd ⟨[u],[]⟩ [("_law_script",u)])/\∀base:Heap,Pyl l.prog base->Yb mg base (Wq (K w.params) "m_power") (Q7 (K w.params) "m_power")->J1 l.prog w (K w.params) mg base CX0 41 fa fd ["_law_script"] (Xq (K w.params))):
 PySem.W.WalkO q loose XP YP l.row.toRowW d [] (fun f vs=>PySem.call f vs):=
 L2.Xz (n:=63) (k:=41) (x:="_law_script") (y:="m_power") (sp:=Xq) hn (by decide) hdf ⟨rfl,by decide,by decide⟩ him htr hd2 hY ht F (fun _ _ a ns hl hS hp=>⟨a,ns,rfl,hS,hl,hp,fun _=>rfl⟩)
end Z
namespace PySem.W.Fast
noncomputable def tw10000404856197627546:=()
noncomputable def tw10153123269742445705:=()
noncomputable def tw10195371379848393519:=()
noncomputable def tw10260093910002899622:=()
noncomputable def tw10296573753822030435:=()
noncomputable def tw10344894715626894353:=()
noncomputable def tw10348724679061619143:=()
noncomputable def tw10364243332124838133:=()
noncomputable def tw10521213553222881120:=()
noncomputable def tw10529772321228898544:=()
noncomputable def tw10612424816521206417:=()
noncomputable def tw10622857155537043759:=()
noncomputable def tw10702470547399278597:=()
noncomputable def tw10704422598364861071:=()
noncomputable def tw10822718221543096158:=()
noncomputable def tw10881072292430284506:=()
noncomputable def tw10945963769382602826:=()
noncomputable def tw10966402767342431391:=()
noncomputable def tw11131066405844338309:=()
noncomputable def tw11187029268105024313:=()
noncomputable def tw11257960718426612417:=()
noncomputable def tw11421768785289743091:=()
noncomputable def tw11488551318921371655:=()
noncomputable def tw11500432155986278173:=()
noncomputable def tw11535701627947140636:=()
noncomputable def tw11607310702139132840:=()
noncomputable def tw11610325669655937546:=()
noncomputable def tw1162744958147017512:=()
noncomputable def tw11713431708009431753:=()
noncomputable def tw11737492188768329051:=()
noncomputable def tw12004446059054861972:=()
noncomputable def tw12031403314797179052:=()
noncomputable def tw12148618288558400298:=()
noncomputable def tw12222768795764576179:=()
noncomputable def tw12254833576247435217:=()
noncomputable def tw12401934473230913872:=()
noncomputable def tw12423058378886577947:=()
noncomputable def tw12536543039875005620:=()
noncomputable def tw12553922001517571980:=()
noncomputable def tw12558380742299758327:=()
noncomputable def tw1265017217702548279:=()
noncomputable def tw12668009688756011871:=()
noncomputable def tw1270298649709000884:=()
noncomputable def tw12856888538989188809:=()
noncomputable def tw12915559348450642541:=()
noncomputable def tw12969166777664729782:=()
noncomputable def tw1300079868586009571:=()
noncomputable def tw13201214432023428538:=()
noncomputable def tw1329723349893641204:=()
noncomputable def tw13299401256329398010:=()
noncomputable def tw13366424520281295604:=()
noncomputable def tw13456805599862041745:=()
noncomputable def tw13488273029834858020:=()
noncomputable def tw13644118281500881555:=()
noncomputable def tw13820494810823386402:=()
noncomputable def tw13823228723502633868:=()
noncomputable def tw13960415401633221666:=()
noncomputable def tw14147306512942630607:=()
noncomputable def tw14237834722145111009:=()
noncomputable def tw14261236638518579471:=()
noncomputable def tw14344979995034600509:=()
noncomputable def tw14361247036593897444:=()
noncomputable def tw14418723192318856707:=()
noncomputable def tw1441883546656752934:=()
noncomputable def tw14525325525662035376:=()
noncomputable def tw14533075904519010026:=()
noncomputable def tw1463697731055586138:=()
noncomputable def tw14669677435727731317:=()
noncomputable def tw14734603969716336367:=()
noncomputable def tw14862950280678641552:=()
noncomputable def tw14866606089169698474:=()
noncomputable def tw14878181215844228494:=()
noncomputable def tw1497741946595441271:=()
noncomputable def tw14981210628663624015:=()
noncomputable def tw150114587558148123:=()
noncomputable def tw15107959717343518447:=()
noncomputable def tw15251844801920176064:=()
noncomputable def tw15325095614497990974:=()
noncomputable def tw15413884371129419938:=()
noncomputable def tw15560468963025683883:=()
noncomputable def tw15581363340198813904:=()
noncomputable def tw15631885426782762081:=()
noncomputable def tw15655328228319885642:=()
noncomputable def tw15758788825223178539:=()
noncomputable def tw15812537256951168494:=()
noncomputable def tw15941102247392954647:=()
noncomputable def tw16303826058219692600:=()
noncomputable def tw1634321378993607799:=()
noncomputable def tw16520180025031506253:=()
noncomputable def tw165336741047178622:=()
noncomputable def tw16547595791385243685:=()
noncomputable def tw16550841729413990979:=()
noncomputable def tw16578735751183286534:=()
noncomputable def tw16624125702576267585:=()
noncomputable def tw16703044022161049366:=()
noncomputable def tw16827595843590381676:=()
noncomputable def tw16871743745772484626:=()
noncomputable def tw16923748860674059911:=()
noncomputable def tw17018786075828956185:=()
noncomputable def tw17067866096698958572:=()
noncomputable def tw17097077916986804138:=()
noncomputable def tw17171535125203243081:=()
noncomputable def tw17213760592156492970:=()
noncomputable def tw17221307823197036900:=()
noncomputable def tw17383178711764593206:=()
noncomputable def tw17452084831847801083:=()
noncomputable def tw17493551129360973453:=()
noncomputable def tw17529414012222428199:=()
noncomputable def tw17623905011417722832:=()
noncomputable def tw17646791673657464466:=()
noncomputable def tw1768559256857926824:=()
noncomputable def tw17792356765603561564:=()
noncomputable def tw17870612100172682502:=()
noncomputable def tw17960719606348456125:=()
noncomputable def tw18009505397331912166:=()
noncomputable def tw18021878488108348299:=()
noncomputable def tw18038813359083768486:=()
noncomputable def tw18120262201395556484:=()
noncomputable def tw18181689475514704695:=()
noncomputable def tw18222892521436169727:=()
noncomputable def tw18364165009949130661:=()
noncomputable def tw1875954032922144260:=()
noncomputable def tw1892014418082548164:=()
noncomputable def tw1962104032480714858:=()
noncomputable def tw1962441102472110574:=()
noncomputable def tw2084326749839671635:=()
noncomputable def tw2247859968017459984:=()
noncomputable def tw2305955161931084234:=()
noncomputable def tw2382363436758107437:=()
noncomputable def tw2448234443690010034:=()
noncomputable def tw2754156044216401265:=()
noncomputable def tw2789513573733020748:=()
noncomputable def tw2818198525334155078:=()
noncomputable def tw2880276174656068066:=()
noncomputable def tw2918667461981546891:=()
noncomputable def tw3062159714938779605:=()
noncomputable def tw3107636128353724648:=()
noncomputable def tw3164795297279541873:=()
noncomputable def tw3268625194217011413:=()
noncomputable def tw3317320790322275088:=()
noncomputable def tw3389400242559486333:=()
noncomputable def tw3454067888837212445:=()
noncomputable def tw3660870814365132706:=()
noncomputable def tw3677873436674910938:=()
noncomputable def tw3740182655675890877:=()
noncomputable def tw3760115698487077043:=()
noncomputable def tw3830885389269751929:=()
noncomputable def tw3867920390901761477:=()
noncomputable def tw3980206926383586829:=()
noncomputable def tw3980215765106380900:=()
noncomputable def tw3989839544240296346:=()
noncomputable def tw4004372665744578198:=()
noncomputable def tw4059412423528407899:=()
noncomputable def tw4133594002419624922:=()
noncomputable def tw4165669998794477965:=()
noncomputable def tw4214358419586924854:=()
noncomputable def tw4328979407002089337:=()
noncomputable def tw4457479116759130373:=()
noncomputable def tw4470157883706980202:=()
noncomputable def tw4476165046849354704:=()
noncomputable def tw4535876954899093401:=()
noncomputable def tw4624267538853054788:=()
noncomputable def tw4754604667287180358:=()
noncomputable def tw48329042710781755:=()
noncomputable def tw50813017306984478:=()
noncomputable def tw5082649102982035001:=()
noncomputable def tw5190667058240734413:=()
noncomputable def tw5202230340737805820:=()
noncomputable def tw5280263100238353098:=()
noncomputable def tw5408103140086008702:=()
noncomputable def tw5448225734748090288:=()
noncomputable def tw5502190052616995181:=()
noncomputable def tw5827855502221294575:=()
noncomputable def tw6003146145633491909:=()
noncomputable def tw603567057791904043:=()
noncomputable def tw6068225466739118278:=()
noncomputable def tw6105858774030156505:=()
noncomputable def tw6169981350286886761:=()
noncomputable def tw6180077614150119565:=()
noncomputable def tw6210017218601338361:=()
noncomputable def tw6313828819765447907:=()
noncomputable def tw6360550587980671972:=()
noncomputable def tw6483623468836225345:=()
noncomputable def tw6595855818691421376:=()
noncomputable def tw6607965006537213586:=()
noncomputable def tw6627934328353663252:=()
noncomputable def tw6727528694885993647:=()
noncomputable def tw6736078761601949676:=()
noncomputable def tw681178135973799823:=()
noncomputable def tw6905973000463358047:=()
noncomputable def tw6912514154270996096:=()
noncomputable def tw6946741874834927425:=()
noncomputable def tw7031200797499373714:=()
noncomputable def tw7092645641107462916:=()
noncomputable def tw7146071942161531507:=()
noncomputable def tw7149205954549604077:=()
noncomputable def tw7202019072865423856:=()
noncomputable def tw7374986810473320386:=()
noncomputable def tw7420054434873538579:=()
noncomputable def tw7443684426140524379:=()
noncomputable def tw7495687697278138666:=()
noncomputable def tw7504792654005052169:=()
noncomputable def tw7535493864853242500:=()
noncomputable def tw7569349766338369436:=()
noncomputable def tw7628385569777937485:=()
noncomputable def tw7637198628801368023:=()
noncomputable def tw7647103512132311934:=()
noncomputable def tw8060240777503456004:=()
noncomputable def tw8218460207230187228:=()
noncomputable def tw8239524086471731670:=()
noncomputable def tw8241024573681728704:=()
noncomputable def tw8248868347089078473:=()
noncomputable def tw8263334485071504283:=()
noncomputable def tw8353790397944367521:=()
noncomputable def tw8481862190804516605:=()
noncomputable def tw8564021206578951630:=()
noncomputable def tw8636785892566463773:=()
noncomputable def tw8883144132230012391:=()
noncomputable def tw8887433556656114108:=()
noncomputable def tw8974882266957220593:=()
noncomputable def tw8999256307924552688:=()
noncomputable def tw9179576976854484501:=()
noncomputable def tw9257185827921286021:=()
noncomputable def tw9269014139169345586:=()
noncomputable def tw9301436364772761643:=()
noncomputable def tw9426474853792343116:=()
noncomputable def tw9606369380368535337:=()
noncomputable def tw9669186586080751718:=()
noncomputable def tw9699114071036237724:=()
noncomputable def tw9741380266918577000:=()
noncomputable def tw9778148524294325884:=()
noncomputable def tw9818543541835626957:=()
noncomputable def tw9822668156202967579:=()
noncomputable def tw9840269657134103545:=()
noncomputable def tw9893148209925392588:=()
noncomputable def tw9949554707603422121:=()
noncomputable def tw9987201728600295615:=()
end PySem.W.Fast
open PySem PySem.W PyProof.Rows
set_option maxRecDepth 100000 in
set_option maxHeartbeats 0 in
theorem PySem.Challenge.cw_rootcourt_k51_divisions_by_a_number_holds : PySem.Challenge.rw_rootcourt_k51_divisions_by_a_number.Holds := by
 w_on;o_law;k_head;(case hw=>w_witness2)
 k_fill
 refine Z.walk (l:=PySem.Challenge.rw_rootcourt_k51_divisions_by_a_number) rfl rfl (by decide+kernel) rfl rfl (fun w h Y=>PySem.W.km_in_of Y) ?ht ?F
 case ht=>
  intro w
  exact L2.Y8 (by k_is) (by k_is) (by exact rfl) (by k_is) (by exact rfl) (by kernel_rfl)
 case F=>
  intro w mg fa h KX G hmg
  refine' Z.all_mk KX G hmg ?d1 ?d2 ?d3 ?d4 ?d5 ?d6 ?d7 ?d8 ?d9 ?d10 ?d11 ?d12 ?d13 ?d14 ?d15 ?d16 ?d17 ?d18 ?d19 ?d20 ?d21 ?d22 ?d23 ?d24 ?d25 ?d26 ?d27 ?d28 ?aNoPart ?aCourtError ?aNoFree ?aTooGreat ?xkNoPart ?xkCourtError ?xigetattributeNoPart ?xigetattrNoPart ?xiclassNoPart ?xiobjectNoPart ?xiBaseExceptionNoPart ?xsNoPartCourtError ?kiNoPartNoPart ?kiNoPartNoFree ?kiNoPartTooGreat ?zenumerate ?zlen ?ztuple ?zlist ?zrange ?zmax ?zabs ?zisinstance ?htab
  (case aNoPart=>k_is);(case aCourtError=>k_is);(case aNoFree=>k_is);(case aTooGreat=>k_is);(case xkNoPart=>k_exc);(case xkCourtError=>k_exc);(case xigetattributeNoPart=>k_is);(case xigetattrNoPart=>k_is);(case xiclassNoPart=>k_is);(case xiobjectNoPart=>k_is);(case xiBaseExceptionNoPart=>k_is);(case xsNoPartCourtError=>k_is);(case kiNoPartNoPart=>kit_is);(case kiNoPartNoFree=>kit_is);(case kiNoPartTooGreat=>kit_is)
  (case htab=>exact L2.Y8 (by k_is) (by k_is) (by exact rfl) (by k_is) (by exact rfl) (by kernel_rfl))
  all_goals first | k_is | exact⟨_,_,_,_,_,_,_,_,_,_,by k_is,by k_is,by k_is,by k_is⟩
