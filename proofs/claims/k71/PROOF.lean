import PyProof.Rows.All
import Wide.All
import OpenK.AllK
import Wide.FinOn
import Lean
import PyProof.EqAt
import PyProof.EqKinds
import PyProof.TupleCall
import PySem.Challenge.RW_rootcourt_k71_equations_solved
set_option maxHeartbeats 4000000
set_option Elab.async false
set_option linter.all false
set_option compiler.extract_closed false
open PySem.W (CodeHd Frag InstAt Looks cellsFrom_some clsIn emptyDict excIn findIn hideAll hideAll_get instObj isFn kIn_of keepIn kia_one kitOne kitx_dict kitx_list kitx_tuple lookIn methodObj mg_none_of mg_of mroIn of_hideAll plainGet specialIn subIn)
open Nat (le_add_right le_antisymm le_of_eq le_of_lt le_refl le_succ le_trans lt_irrefl lt_of_le_of_lt lt_of_lt_of_le lt_succ_of_lt lt_succ_self max_le mod_lt mul_le_mul mul_le_mul_left mul_succ ne_of_gt ne_of_lt not_lt not_lt_zero pow_le_pow_right pow_succ sub_self two_pow_pos zero_le)
open List (Nodup Pairwise Perm all_cons all_eq_true any_cons append_assoc append_nil cons_append contains_iff_mem eq_of_mem_replicate ext_getElem filter_append find?_cons flatten_cons flatten_replicate_singleton foldl foldl_cons forIn_cons forIn_nil getD_eq_getElem?_getD getElem?_append_left getElem?_append_right getElem?_drop getElem?_eq_getElem getElem?_eq_none getElem?_map getElem?_of_mem getElem?_range getElem?_replicate getElem?_set_ne getElem?_set_self getElem?_toArray getElem_map getElem_mem getElem_range length_append length_cons length_drop length_map length_nil length_range length_replicate length_set length_singleton length_take length_zipWith lookup lookup_cons map_append map_congr_left map_cons map_const' map_drop map_map map_nil map_replicate map_set map_take mem_append mem_append_left mem_append_right mem_cons mem_cons_of_mem mem_cons_self mem_filter mem_filterMap mem_map mem_range mem_singleton nil_append nodup_cons not_mem_nil of_mem_zip pairwise_cons pairwise_iff_getElem range_succ replicate replicate_succ size_toArray take_length take_of_length_le take_succ zipWith)
open Int (emod_lt_of_pos emod_nonneg mul_comm mul_eq_zero mul_pos mul_zero natAbs_mul natAbs_neg natCast_emod toNat_natCast zero_add)
open Bool (and_eq_true false_eq_true or_eq_true)
open Option (getD_none getD_some isSome_some map_eq_some_iff map_some)
open Rat (divInt divInt_eq_div intCast_mul)
open PyProof.Rows (boot_abs boot_all boot_any boot_bool boot_int boot_isinstance boot_list boot_set boot_sorted boot_str boot_sum boot_tuple)
open PySem.F (plainAttrs_list)
set_option maxRecDepth 100000
namespace L2
open PySem PySem.Spec PyProof.Rows
abbrev Key:=Sum Int Str
def Aev:Key->Value->Bool
 | .inl k,v=>Value.isInt k v
 | .inr x,v=>Value.isStrOf x v
def Ai1 (w:World):Key->Int
 | .inl k=>hashInt k
 | .inr x=>hashStr w x
theorem Dh:∀ {k:Key}{v:Value},Aev k v=true->(∃i t,k=Sum.inl i/\v=Value.int i t)\/(∃x t,k=Sum.inr x/\v=Value.str x t)
 | .inl i,v,h=>by
   obtain⟨t,e⟩:=Value.isInt_shape (k:=i) (v:=v) h
   exact .inl ⟨i,t,rfl,e⟩
 | .inr x,v,h=>by
   obtain⟨t,e⟩:=Value.isStrOf_shape (x:=x) (v:=v) h
   exact .inr ⟨x,t,rfl,e⟩
theorem Aew (a b:Int):decide ((Sum.inl a:Key)=Sum.inl b)=(a==b):=by
 by_cases e:a=b
 . subst e;simp
 . have h:¬(Sum.inl a:Key)=Sum.inl b:=fun q=>e (Sum.inl.inj q)
   rw [decide_eq_false h]
   exact(beq_eq_false_iff_ne.mpr e).symm
theorem Aez (a b:Str):decide ((Sum.inr a:Key)=Sum.inr b)=decide (a=b):=by
 by_cases e:a=b
 . subst e;simp
 . have h:¬(Sum.inr a:Key)=Sum.inr b:=fun q=>e (Sum.inr.inj q)
   rw [decide_eq_false h,decide_eq_false e]
theorem Aex (a:Int) (b:Str):decide ((Sum.inl a:Key)=Sum.inr b)=false:=decide_eq_false (fun q=>nomatch q)
theorem Aey (a:Str) (b:Int):decide ((Sum.inr a:Key)=Sum.inl b)=false:=decide_eq_false (fun q=>nomatch q)
def Ym (prog:Program) (w:World):PySem.KeyKind prog w Key where
 is:=Aev
 hash:=Ai1 w
 inj:=fun v a b ha hb=>by
  rcases Dh ha with⟨i,t,rfl,rfl⟩ | ⟨x,t,rfl,rfl⟩
  . rcases Dh hb with⟨j,u,rfl,e⟩ | ⟨y,u,rfl,e⟩
    . injection e with e1 _;rw [e1]
    . exact nomatch e
  . rcases Dh hb with⟨j,u,rfl,e⟩ | ⟨y,u,rfl,e⟩
    . exact nomatch e
    . injection e with e1 _;rw [e1]
 byValue:=fun k v h=>by
  rcases Dh h with⟨i,t,rfl,rfl⟩ | ⟨x,t,rfl,rfl⟩<;>rfl
 pyHash:=fun hv h=>by
  rcases Dh hv with⟨i,t,rfl,rfl⟩ | ⟨x,t,rfl,rfl⟩
  . exact wpAny_pyHash_int h
  . exact wpAny_pyHash_str h
 eqBool:=fun hu hv h=>by
  rcases Dh hu with⟨i,t,rfl,rfl⟩ | ⟨x,t,rfl,rfl⟩
  . rcases Dh hv with⟨j,u,rfl,rfl⟩ | ⟨y,u,rfl,rfl⟩
    . rw [Aew]at h;exact wpAny_eqBool_int h
    . rw [Aex]at h;exact SeqAt.EqAt.int_str i t y u _ _ _ _ h
  . rcases Dh hv with⟨j,u,rfl,rfl⟩ | ⟨y,u,rfl,rfl⟩
    . rw [Aey]at h;exact SeqAt.EqAt.str_int x t j u _ _ _ _ h
    . rw [Aez]at h;exact wpAny_eqBool_str h
 «strs» :=fun k x t v h=>by
  rcases Dh h with⟨i,u,rfl,e⟩ | ⟨y,u,rfl,e⟩
  . exact nomatch e
  . injection e with e1 _
    subst e1
    cases v<;>rfl
end L2
namespace L2
open PySem PySem.Spec PyProof.Rows
inductive V where
 | non | bl (b:Bool) | int (i:Int) | str (x:Str) | byt (b:Array UInt8) | flt (b:UInt64) | ref (a:Addr) | ty (n:String)
 deriving DecidableEq
def RelV:V->Value->Prop
 | .non,u=>u=Value.none
 | .bl b,u=>u=Value.bool b
 | .int i,u=>∃t,u=Value.int i t
 | .str x,u=>∃t,u=Value.str x t
 | .byt b,u=>∃t,u=Value.bytes b t
 | .flt b,u=>∃t,u=Value.float b t
 | .ref a,u=>u=Value.ref a
 | .ty n,u=>u=Value.type n
abbrev Vals:List V->List Value->Prop:=Paired RelV
theorem Vals.length {xs:List V}{d:List Value} (r:Vals xs d):xs.length=d.length:=Paired.length r
theorem Vals.get:∀ {xs:List V}{d:List Value}{i:Nat}{x:V},Vals xs d->xs[i]? =some x->∃u,d[i]? =some u/\RelV x u
 | _,_,_,_,.nil,e=>by simp at e
 | _,_,0,_,.cons r _,e=>by simp at e;subst e;exact⟨_,rfl,r⟩
 | _,_,i+1,x,.cons _ t,e=>by
   obtain⟨u,h1,h2⟩:=Vals.get (i:=i) (x:=x) t (by simpa using e)
   exact⟨u,by simpa using h1,h2⟩
theorem Vals.set {x:V}{u:Value} (r:RelV x u):∀ {xs:List V}{d:List Value} (i:Nat),Vals xs d->Vals (xs.set i x) (d.set i u)
 | _,_,_,.nil=> .nil
 | _,_,0,.cons _ t=> .cons r t
 | _,_,i+1,.cons q t=> .cons q (Vals.set r i t)
theorem Vals.append:∀ {xs ys:List V}{d q:List Value},Vals xs d->Vals ys q->Vals (xs++ys) (d++q)
 | _,_,_,_,.nil,s=>s
 | _,_,_,_,.cons r t,s=> .cons r (Vals.append t s)
theorem Vals.take:∀ {xs:List V}{d:List Value} (n:Nat),Vals xs d->Vals (xs.take n) (d.take n)
 | _,_,0,_=> .nil
 | _,_,_+1,.nil=> .nil
 | _,_,n+1,.cons r t=> .cons r (Vals.take n t)
theorem Vals.drop:∀ {xs:List V}{d:List Value} (n:Nat),Vals xs d->Vals (xs.drop n) (d.drop n)
 | _,_,0,r=>r
 | _,_,_+1,.nil=> .nil
 | _,_,n+1,.cons _ t=>Vals.drop n t
def Z6:Option V->Option Value->Prop
 | some v,some u=>RelV v u
 | none,none=>True
 | _,_=>False
def KV {κ:Type}:List (κ × V)->List (κ × Value)->Prop:=Paired fun(p:κ × V) (q:κ × Value)=>p.1=q.1/\RelV p.2 q.2
def kV:Key->V
 | .inl i=> .int i
 | .inr x=> .str x
inductive HO where
 | lst (xs:List V)
 | tup (xs:List V)
 | dK (kvs:List (Key × V)) | dT (kvs:List (List Key × V))
 | set (S:Int->Bool) (n:Nat)
 | ins (C dx:Addr) (fs:List (Str × V))
 | own (x:Addr)
 | xd (fs:List (Str × V))
 | met (f x:Addr)
 | rng (lo hi:Int)
 | frz (o:Obj) (u:HO)
 | tbl (ps:Array Value)
 | ext (φ:Heap->Prop)
abbrev Hp:=Addr->Option HO
def upd (H:Hp) (a:Addr) (o:HO):Hp:=fun b=>if b=a then some o else H b
theorem Ag {H:Hp}{a:Addr}{o:HO}:upd H a o a=some o:=by unfold upd;rw [if_pos rfl]
theorem Bs {H:Hp}{a b:Addr}{o:HO} (h:b≠a):upd H a o b=H b:=by unfold upd;rw [if_neg h]
theorem Aam {H:Hp}{a b:Addr}{o u:HO} (h:H a=some o) (h':H b=some u) (d:o≠u):a≠b:=by
 intro e;subst e;rw [h]at h';exact d (Option.some.inj h')
theorem Bo {H:Hp}{a b:Addr}{o:HO} (h:H a=some o) (h':H b=none):a≠b:=by
 intro e;subst e;rw [h]at h';cases h'
section
variable (P:Program) (w:World)
def Fy (H:Hp) (h:Heap) (a:Addr):HO->Prop
 | .lst xs=>xs.length<=sizeLine/\∃(its:List Value) (n:Nat),Vals xs its/\h.get? a=some { cls:= .type "list",data:= .seq its.toArray n}
 | .tup xs=>xs.length<=sizeLine/\∃its:List Value,Vals xs its/\IsTup h a its.toArray
 | .dK kvs=>kvs.length<=sizeLine/\(a==sysModules)=false/\∃vs,KV kvs vs/\h.DictOf (Ym P w) a vs
 | .dT kvs=>kvs.length<=sizeLine/\(a==sysModules)=false/\∃xs:List (List Key × Addr × Value),
    Paired (fun(p:List Key × V) (q:List Key × Addr × Value)=>p.1=q.1/\H q.2.1=some (.tup (p.1.map kV))/\RelV p.2 q.2.2) kvs xs/\
    ∃o es ep,h.get? a=some o/\o.ExactDict/\o.data= .dict es ep/\es.toList=xs.map (entryOfKey (tupleKind (Ym P w)))/\(xs.map (·.1)).Nodup
 | .set S n=>h.SetOf (intKind P w) a S n
 | .ins C dx fs=>H dx=some (.own a)/\fs.length<=1000/\dx≠a/\h.get? a=some (instObj C dx)/\
    ∃mA,h.Ns1 dx mA/\(∀f,Z6 (fs.lookup f) (mA f))/\PySem.Within mA (fs.map (·.1))
 | .own _=>∃o,h.get? a=some o
 | .xd fs=>∃mA,h.Ns1 a mA/\∀f,Z6 (fs.lookup f) (mA f)
 | .rng lo hi=>∃t u v,h.get? a=some { cls:= .type "range",data:= .fields #[.int lo t,.int hi u,.int 1 v]}
 | .frz o u=>h.get? a=some o/\Fy H h a u
 | .tbl ps=>h.get? a=some { cls:= .none,data:= .fields ps}
 | .met f x=>h.get? a=some (methodObj (.ref f) (.ref x))
 | .ext φ=>φ h/\(∃o,h.get? a=some o)/\∀h1 h2:Heap,φ h1->(∀o,h1.get? a=some o->h2.get? a=some o)->φ h2
def HOk (H:Hp) (h:Heap):Prop:=∀a o,H a=some o->Fy P w H h a o
end
section
variable {P:Program}{w:World}{H H':Hp}{h h':Heap}{a:Addr}{o:HO}
theorem Fy.lt (x:Fy P w H h a o):a<h.objs.size:=by
 cases o with
 | lst xs=>obtain⟨_,_,_,_,e⟩:=x;exact Heap.lt_size e
 | tup xs=>obtain⟨_,_,_,p⟩:=x;exact p.lt
 | dK d=>obtain⟨_,_,_,_,o,_,_,e,_⟩:=x;exact Heap.lt_size e
 | dT d=>obtain⟨_,_,_,_,o,_,_,e,_⟩:=x;exact Heap.lt_size e
 | set S n=>obtain⟨o,_,_,_,e,_⟩:=x;exact Heap.lt_size e
 | ins C dx fs=>obtain⟨_,_,_,e,_⟩:=x;exact Heap.lt_size e
 | own y=>obtain⟨_,e⟩:=x;exact Heap.lt_size e
 | xd fs=>obtain⟨_,⟨_,_,_,e,_⟩,_⟩:=x;exact Heap.lt_size e
 | rng lo hi=>obtain⟨_,_,_,e⟩:=x;exact Heap.lt_size e
 | frz q u=>obtain⟨e,_⟩:=x;exact Heap.lt_size e
 | tbl ps=>exact Heap.lt_size (show h.get? a=some _ from x)
 | met f y=>exact Heap.lt_size (show h.get? a=some _ from x)
 | ext F=>obtain⟨_,⟨_,e⟩,_⟩:=x;exact Heap.lt_size e
theorem Paired.mapP {α y:Type}{F G:α->y->Prop}:∀ {d:List α}{q:List y},Paired F d q->(∀a b,F a b->G a b)->Paired G d q
 | _,_,.nil,_=> .nil
 | _,_,.cons r t,f=> .cons (f _ _ r) (Paired.mapP t f)
theorem Fy.stay (x:Fy P w H h a o) (k:∀b u,(b=a\/H b=some (.own a))->h.get? b=some u->h'.get? b=some u)
 (M:∀b,H b=some (.own a)->H' b=some (.own a)) (O:∀b xs,H b=some (.tup xs)->H' b=some (.tup xs)):Fy P w H' h' a o:=by
 induction o with
 | lst xs=>obtain⟨z,G,n,r,e⟩:=x;exact⟨z,G,n,r,k _ _ (.inl rfl) e⟩
 | tup xs=>obtain⟨z,G,r,F,e,c⟩:=x;exact⟨z,G,r,F,k _ _ (.inl rfl) e,c⟩
 | dK I=>obtain⟨z,y,U,r,F,es,ep,e,c⟩:=x;exact⟨z,y,U,r,F,es,ep,k _ _ (.inl rfl) e,c⟩
 | dT I=>
   obtain⟨z,y,xs,r,F,es,ep,e,c⟩:=x
   exact⟨z,y,xs,Paired.mapP r fun p q z=>⟨z.1,O _ _ z.2.1,z.2.2⟩,F,es,ep,k _ _ (.inl rfl) e,c⟩
 | set S n=>obtain⟨F,es,ep,t,e,c⟩:=x;exact⟨F,es,ep,t,k _ _ (.inl rfl) e,c⟩
 | ins C dx fs=>
   obtain⟨d,z,ne,e,J,⟨L,es,ep,Y,c⟩,r⟩:=x
   exact⟨M _ d,z,ne,k _ _ (.inl rfl) e,J,⟨L,es,ep,k _ _ (.inr d) Y,c⟩,r⟩
 | own y=>obtain⟨F,e⟩:=x;exact⟨F,k _ _ (.inl rfl) e⟩
 | xd fs=>obtain⟨J,⟨L,es,ep,e,c⟩,r⟩:=x;exact⟨J,⟨L,es,ep,k _ _ (.inl rfl) e,c⟩,r⟩
 | rng lo hi=>obtain⟨t,u,v,e⟩:=x;exact⟨t,u,v,k _ _ (.inl rfl) e⟩
 | frz F u Z=>obtain⟨e,q⟩:=x;exact⟨k _ _ (.inl rfl) e,Z q⟩
 | tbl ps=>
   have e:h.get? a=some { cls:= .none,data:= .fields ps}:=x
   show h'.get? a=some { cls:= .none,data:= .fields ps}
   exact k a _ (.inl rfl) e
 | met f y=>
   have e:h.get? a=some (methodObj (.ref f) (.ref y)):=x
   show h'.get? a=some (methodObj (.ref f) (.ref y))
   exact k a _ (.inl rfl) e
 | ext φ=>obtain⟨p,⟨o,e⟩,st⟩:=x;exact⟨st _ _ p fun o q=>k _ _ (.inl rfl) q,⟨o,k _ _ (.inl rfl) e⟩,st⟩
theorem HOk.lt (x:HOk P w H h) (e:H a=some o):a<h.objs.size:=(x a o e).lt
theorem HOk.fresh (x:HOk P w H h) (e:h.objs.size<=a):H a=none:=by
 cases q:H a with
 | none=>rfl
 | some u=>exact absurd (lt_of_lt_of_le (x.lt q) e) (lt_irrefl _)
theorem HOk.kept (x:HOk P w H h) (k:∀b u,h.get? b=some u->h'.get? b=some u):HOk P w H h':=fun a o e=>
 (x a o e).stay (fun b u _ q=>k b u q) (fun _ q=>q) fun _ _ q=>q
theorem HOk.laid (x:HOk P w H h) (k:∀b u,h.get? b=some u->h'.get? b=some u) (G:h.objs.size<=a) (d:Fy P w (upd H a o) h' a o):HOk P w (upd H a o) h':=fun b u e=>by
 have y:=x.fresh G
 by_cases F:b=a
 . subst F;rw [Ag]at e;cases e;exact d
 . rw [Bs F]at e
   exact(x b u e).stay (fun c v _ q=>k c v q) (fun c q=>by rw [Bs (Bo q y)];exact q) fun c xs q=>by rw [Bs (Bo q y)];exact q
end
def Rd (H:Hp) (a:Addr) (u:HO):Prop:=H a=some u\/∃o,H a=some (.frz o u)
theorem Rd.of {H:Hp}{a:Addr}{u:HO} (h:H a=some u):Rd H a u:= .inl h
theorem Rd.ok {P:Program}{w:World}{H:Hp}{h:Heap}{a:Addr}{u:HO} (r:Rd H a u) (x:HOk P w H h):Fy P w H h a u:=by
 rcases r with r | ⟨o,r⟩
 . exact x a u r
 . obtain⟨_,q⟩:=x a _ r
   exact q
def Mut:Option HO->Prop
 | some (.lst _)=>True
 | some (.dK _)=>True
 | some (.dT _)=>True
 | some (.set _ _)=>True
 | some (.ins _ _ _)=>True
 | some (.ext _)=>True
 | _=>False
section
variable {P:Program}{w:World}{H:Hp}{h h':Heap}{x e:Addr}{o':HO}
theorem HOk.write (ok:HOk P w H h) (I:Mut (H x)) (U:e=x\/H e=some (.own x)) (k:∀b u,b≠e->h.get? b=some u->h'.get? b=some u) (M:∃u,h'.get? e=some u)
 (O:Fy P w (upd H x o') h' x o'):HOk P w (upd H x o') h':=fun b u q=>by
 have F:∀c y,H c=some (.own y)->c≠x:=fun c y r z=>by subst z;rw [r]at I;exact I
 have G:∀c xs,H c=some (.tup xs)->c≠x:=fun c xs r z=>by subst z;rw [r]at I;exact I
 by_cases J:b=x
 . subst J;rw [Ag]at q;cases q;exact O
 . rw [Bs J]at q
   by_cases d:b=e
   . have W:H b=some (.own x):=by
      rcases U with z | z
      . exact absurd (d.trans z) J
      . rw [d];exact z
     rw [q]at W;cases W
     obtain⟨v,Y⟩:=M
     exact⟨v,by rw [d];exact Y⟩
   . refine(ok b u q).stay (fun c v L r=>k c v ?_ r) (fun c r=>by rw [Bs (F c b r)];exact r) fun c xs r=>by rw [Bs (G c xs r)];exact r
     rcases L with rfl | L
     . exact d
     . rintro rfl
       rcases U with z | z
       . exact F c b L z
       . rw [L]at z;cases z;exact J rfl
end
structure Un (fs ex:List Addr) (H H':Hp) (h h':Heap):Prop where
 keep:∀b o,h.get? b=some o->H b=none->b∉fs->b∉ex->h'.get? b=some o
 slot:∀b o,h.get? b=some o->H b=none->b∈fs->b∉ex->∃sl,h'.get? b=some { o with slots:=sl}
 free:∀b o,h.get? b=some o->H b=none->b∉ex->H' b=none
 there:∀b o,h.get? b=some o->b∉ex->∃o',h'.get? b=some o'
 tups:∀b xs,H b=some (.tup xs)->H' b=some (.tup xs)
 frzs:∀b o u,H b=some (.frz o u)->H' b=some (.frz o u)
 tbls:∀b ps,H b=some (.tbl ps)->∃more,H' b=some (.tbl (ps++more))
section
variable {fs fs' ex ex':List Addr}{H H1 H2:Hp}{h h1 h2 h':Heap}{a x e:Addr}{o:HO}
theorem Un.any (u:Un fs ex H H1 h h1) {b:Addr}{d:Obj} (q:h.get? b=some d) (n:H b=none) (y:b∉ex):∃G,h1.get? b=some { d with slots:=G}:=by
 by_cases F:b∈fs
 . exact u.slot b d q n F y
 . exact⟨d.slots,u.keep b d q n F y⟩
theorem Un.trans (a:Un fs ex H H1 h h1) (b:Un fs ex H1 H2 h1 h2):Un fs ex H H2 h h2 where
 keep:=fun c d q n G y=>b.keep c d (a.keep c d q n G y) (a.free c d q n y) G y
 slot:=fun c d q n G y=>by
  obtain⟨O,F⟩:=a.slot c d q n G y
  obtain⟨I,J⟩:=b.slot c _ F (a.free c d q n y) G y
  exact⟨I,J⟩
 free:=fun c d q n y=>by
  obtain⟨o',F⟩:=a.there c d q y
  exact b.free c o' F (a.free c d q n y) y
 there:=fun c d q y=>by
  obtain⟨o',F⟩:=a.there c d q y
  exact b.there c o' F y
 tups:=fun c xs q=>b.tups c xs (a.tups c xs q)
 frzs:=fun c d xs q=>b.frzs c d xs (a.frzs c d xs q)
 tbls:=fun c ps q=>by
  obtain⟨L,F⟩:=a.tbls c ps q
  obtain⟨M,J⟩:=b.tbls c _ F
  exact⟨L++M,by rw [J,Array.append_assoc]⟩
theorem Un.kept (k:∀b u,h.get? b=some u->h'.get? b=some u):Un fs ex H H h h':=
 ⟨fun b d q _ _ _=>k b d q,fun b d q _ _ _=>⟨d.slots,k b d q⟩,fun _ _ _ n _=>n,fun b d q _=>⟨d,k b d q⟩,fun _ _ q=>q,fun _ _ _ q=>q,fun _ ps q=>⟨#[],by rw [q];simp⟩⟩
theorem Un.refl:Un fs ex H H h h:=Un.kept fun _ _ q=>q
theorem Un.laid (k:∀b u,h.get? b=some u->h'.get? b=some u) (y:h.objs.size<=a) (d:H a=none):Un fs ex H (upd H a o) h h' where
 keep:=fun b u q _ _ _=>k b u q
 slot:=fun b u q _ _ _=>⟨u.slots,k b u q⟩
 free:=fun b u q n _=>by rw [Bs (ne_of_lt (lt_of_lt_of_le (Heap.lt_size q) y))];exact n
 there:=fun b u q _=>⟨u,k b u q⟩
 tups:=fun b xs q=>by rw [Bs (Bo q d)];exact q
 frzs:=fun b u xs q=>by rw [Bs (Bo q d)];exact q
 tbls:=fun b ps q=>⟨#[],by rw [Bs (Bo q d),q];simp⟩
theorem Un.write (y:Mut (H x)) (L:e=x\/H e=some (.own x)) (k:∀b u,b≠e->h.get? b=some u->h'.get? b=some u) (F:∃u,h'.get? e=some u):Un fs ex H (upd H x o) h h':=by
 have I:∀b,H b=none->b≠x:=fun b n z=>by subst z;rw [n]at y;exact y
 have J:∀b,H b=none->b≠e:=fun b n z=>by
  subst z
  rcases L with r | r
  . exact I b n r
  . rw [n]at r;cases r
 have G:∀b u,H b=some u->¬Mut (some u)->b≠x:=fun b u q nm z=>by subst z;rw [q]at y;exact nm y
 refine⟨fun b u q n _ _=>k b u (J b n) q,fun b u q n _ _=>⟨u.slots,k b u (J b n) q⟩,fun b u q n _=>by rw [Bs (I b n)];exact n,fun b u q _=> ?_,
  fun b xs q=>by rw [Bs (G b _ q fun z=>z)];exact q,fun b u xs q=>by rw [Bs (G b _ q fun z=>z)];exact q,fun b ps q=>⟨#[],by rw [Bs (G b _ q fun z=>z),q];simp⟩⟩
 by_cases d:b=e
 . subst d;exact F
 . exact⟨u,k b u d q⟩
theorem Un.mono (u:Un fs ex H H1 h h1) (G:∀b∈fs,b∈fs') (F:∀b∈ex,b∈ex'):Un fs' ex' H H1 h h1:=
 ⟨fun b y q n I d=>u.keep b y q n (fun z=>I (G b z)) fun z=>d (F b z),fun _ _ q n _ d=>u.any q n fun z=>d (F _ z),fun b y q n d=>u.free b y q n fun z=>d (F b z),fun b y q d=>u.there b y q fun z=>d (F b z),u.tups,u.frzs,u.tbls⟩
end
def trk (h:Heap) (H:Hp):List Addr:=(List.range h.objs.size).filter fun a=>(H a).isSome
def Xa (h:Heap) (H:Hp):Heap:=hideAll h (trk h H)
theorem X8 (h:Heap) (H:Hp):(Xa h H).objs.size=h.objs.size:=PySem.W.hideAll_size _ _
theorem Ve {h:Heap}{H:Hp}{b:Addr}{o:Obj} (e:h.get? b=some o) (n:H b=none):(Xa h H).get? b=some o:=
 hideAll_get _ e fun d=>by
  have q:(H b).isSome=true:=(mem_filter.mp d).2
  rw [n]at q;simp at q
theorem Acz {h:Heap}{H:Hp}{b:Addr}{o:Obj} (e:(Xa h H).get? b=some o):h.get? b=some o/\H b=none:=by
 have d:h.get? b=some o:=of_hideAll (trk h H) e
 refine⟨d,?_⟩
 cases q:H b with
 | none=>rfl
 | some x=>
   have y:b∈trk h H:=mem_filter.mpr ⟨mem_range.mpr (Heap.lt_size d),by simp [q]⟩
   have z:(Xa h H).get? b=none:=PySem.W.hideAll_none (trk h H) y
   rw [z]at e;cases e
def Aci (g h:Heap) (L:Addr):List (Addr × Obj):=(List.range h.objs.size).filterMap fun a=>if a=L\/(g.get? a).isSome=true then none else(h.get? a).map fun o=>(a,o)
def rest (g h:Heap) (L d:Addr):List (Addr × Obj):=(Aci g h L).filter fun p=>decide (p.1≠d)
end L2
namespace L2
open PySem PySem.Spec PyProof.Rows
structure Mod (K:Frag) (mg:Str->Option Value) (base:Heap):Prop where
 kin:K.In base
 glob:base.Ns mainGlobals mg
 blt:∃mb,base.Ns builtinsNs mb/\∀x:Str,x≠"__name__"->mb x=bootBuiltins x
 nolimit:base.NoLimit
structure Cx where
 prog:Program
 w:World
 K:Frag
 mg:Str->Option Value
 base:Heap
 A:Around
 N:List Str
 s₀:Shared
 H₀:Hp
 env:Env
 outer:List Env
 stack:List Env
 ex:List Addr
 fn:Str->Bool
 calm:Bool
 pn:List (Addr × Obj)
 xe:Value->Shared->Prop
def frs (l:List Env):List Addr:=l.filterMap (·.frame)
abbrev Cx.fs (X:Cx):List Addr:=frs X.outer
def Vis (sc:Scope) (x:Str):Prop:=sc.names.lookup x=some .local \/sc.names.lookup x=some .cell\/sc.names.lookup x=some .free
def Loc (sc:Scope) (x:Str):Prop:=sc.names.lookup x=some .local \/sc.names.lookup x=some .cell
def Look (env:Env) (h:Heap) (m:Str->Option Value) (x:Str) (u:Value):Prop:=
 (env.kindOf x=some .local /\m x=some u)\/((env.kindOf x=some .cell\/env.kindOf x=some .free)/\∃c,env.cells.lookup x=some c/\h.IsCell c (some u))
structure Cx.Ok (X:Cx):Prop where
 mod:Mod X.K X.mg X.base
 kind:X.env.scope.kind= .function
 glob:X.env.globals=mainGlobals
 blt:X.env.builtins=builtinsNs
 above:X.s₀.heap.objs.size<=X.env.locals
 inj:∀x y c,X.env.cells.lookup x=some c->X.env.cells.lookup y=some c->x=y
 has:∀x,(X.env.kindOf x=some .cell\/X.env.kindOf x=some .free)->∃c,X.env.cells.lookup x=some c
 cab:∀x c,X.fn x=true->X.env.cells.lookup x=some c->X.s₀.heap.objs.size<=c
 hd:X.calm=true->X.A.handled=none
 frames:X.A.frames=some X.stack
 stk:X.stack=X.outer\/(X.stack=X.env::X.outer/\X.env.frame=some X.env.locals)
 exf:∀b∈X.ex,b≠X.env.locals/\∀x c,X.env.cells.lookup x=some c->c≠b
 bs:∀b o,X.base.get? b=some o->X.s₀.heap.get? b=some o/\X.H₀ b=none
 bsz:X.base.objs.size<=X.s₀.heap.objs.size
 noex:∀b o,X.base.get? b=some o->b∉X.ex
 exfs:∀b∈X.ex,b∉X.fs
 funs:X.s₀.heap.FunFrames X.base X.outer
 frf:∀b∈X.fs,X.H₀ b=none
structure Inv (X:Cx) (pins:List (Addr × Obj)) (σ:List (Option V)) (H:Hp) (s:Shared):Prop where
 ok:X.Ok
 os:s.os=X.s₀.os
 bare:AllBare s.gens
 base:Un X.fs X.ex X.H₀ H X.s₀.heap s.heap
 loc:∃m,s.heap.Ns X.env.locals m/\∀(i:Nat) (x:Str) (v:V),X.N[i]? =some x->σ[i]? =some (some v)->Vis X.env.scope x->∃u,RelV v u/\Look X.env s.heap m x u
 cell:∀x c,X.env.cells.lookup x=some c->∃v,s.heap.IsCell c v
 free:H X.env.locals=none
 freeC:∀x c,X.env.cells.lookup x=some c->H c=none
 pin:∀p∈X.pn++pins,s.heap.get? p.1=some p.2/\H p.1=none/\p.1≠X.env.locals/\p.1∉X.fs/\∀v,p.2.data≠ .cell v
 hok:HOk X.prog X.w H s.heap
 len:σ.length=X.N.length
section
variable {X:Cx}{pins:List (Addr × Obj)}{σ:List (Option V)}{H H':Hp}{s:Shared}{h':Heap}
theorem Cx.Ok.nofr (ok:X.Ok) {b:Addr}{o:Obj} (e:X.base.get? b=some o):b∉X.fs:=fun d=>by
 have:=(ok.funs.mem d).1
 rw [e]at this;cases this
theorem Inv.bs (I:Inv X pins σ H s):∀b o,X.base.get? b=some o->s.heap.get? b=some o/\H b=none:=fun b o e=>
 ⟨I.base.keep b o (I.ok.bs b o e).1 (I.ok.bs b o e).2 (I.ok.nofr e) (I.ok.noex b o e),I.base.free b o (I.ok.bs b o e).1 (I.ok.bs b o e).2 (I.ok.noex b o e)⟩
theorem Inv.bk (I:Inv X pins σ H s):∀b o,X.base.get? b=some o->s.heap.get? b=some o:=fun b o e=>(I.bs b o e).1
theorem Inv.mod (I:Inv X pins σ H s):Mod X.K X.mg X.base:=I.ok.mod
theorem Inv.kIn (I:Inv X pins σ H s):X.K.In s.heap:=I.ok.mod.kin.keeps I.bk
theorem Inv.nolimit (I:Inv X pins σ H s):s.heap.NoLimit:=I.ok.mod.nolimit.keeps I.bk
theorem Inv.fr (I:Inv X pins σ H s):∃m,Fr X.base X.env.locals s.heap m:=
 let ⟨m,hn,_⟩:=I.loc
 ⟨m,hn,I.bk,le_trans I.ok.bsz I.ok.above⟩
theorem Inv.lt (I:Inv X pins σ H s):X.env.locals<s.heap.objs.size:=let ⟨_,hn,_⟩:=I.loc;hn.lt
theorem Inv.sz (I:Inv X pins σ H s):X.s₀.heap.objs.size<=s.heap.objs.size:=le_trans I.ok.above (le_of_lt I.lt)
theorem Inv.nofs (I:Inv X pins σ H s) {a:Addr} (h:s.heap.objs.size<=a):a∉X.fs:=fun d=>by
 obtain⟨_,o,q,_⟩:=I.ok.funs.mem d
 exact absurd (lt_of_lt_of_le (Heap.lt_size q) (le_trans I.sz h)) (lt_irrefl _)
theorem Inv.cne (I:Inv X pins σ H s):∀x c,X.env.cells.lookup x=some c->c≠X.env.locals:=fun x c e z=>by
 obtain⟨v,o,y,F⟩:=I.cell x c e
 obtain⟨m,⟨o',es,ep,d,q,_⟩,_⟩:=I.loc
 rw [z,d]at y;cases y;rw [q]at F;cases F
theorem Inv.funs (I:Inv X pins σ H s):s.heap.FunFrames X.base X.outer:=by
 have all:∀(l:List Env),(∀b∈frs l,b∈X.fs)->X.s₀.heap.FunFrames X.base l->s.heap.FunFrames X.base l:=by
  intro l
  induction l with
  | nil=>intro _ _;trivial
  | cons env r G=>
    intro F J
    obtain⟨M,⟨L,o,d,O,U,W⟩,Y⟩:=J
    have q:L∈X.fs:=F L (by unfold frs;rw [List.filterMap_cons,d];exact mem_cons_self)
    obtain⟨Z,e⟩:=I.base.slot L o U (I.ok.frf L q) q fun z=>I.ok.exfs L z q
    exact⟨M,⟨L,_,d,O,e,W⟩,G (fun b y=>F b (by unfold frs;rw [List.filterMap_cons,d];exact mem_cons_of_mem _ y)) Y⟩
 exact all X.outer (fun _ y=>y) I.ok.funs
theorem Inv.stack (I:Inv X pins σ H s):s.heap.FunFrames X.base X.stack:=by
 rcases I.ok.stk with e | ⟨e,d⟩
 . rw [e];exact I.funs
 . rw [e]
   obtain⟨m,q,_⟩:=I.loc
   refine .cons (by rw [I.ok.kind];decide) d q ?_ I.funs
   exact Heap.get?_none_of_le (le_trans I.ok.bsz I.ok.above)
theorem Inv.stkSub (I:Inv X pins σ H s):∀b∈frs X.stack,b∈X.env.locals::X.fs:=fun b d=>by
 rcases I.ok.stk with e | ⟨e,q⟩
 . rw [e]at d;exact mem_cons_of_mem _ d
 . rw [e]at d
   unfold frs at d
   rw [List.filterMap_cons,q]at d
   exact d
theorem Inv.stkFree (I:Inv X pins σ H s):∀b∈frs X.stack,H b=none:=fun b d=>by
 rcases mem_cons.mp (I.stkSub b d)with e | d
 . rw [e];exact I.free
 . obtain⟨_,o,q,_⟩:=I.ok.funs.mem d
   exact I.base.free b o q (I.ok.frf b d) fun z=>I.ok.exfs b z d
theorem Inv.step {g':Array GenState}{t':Nat}{d':Drawn}{ch:List Addr} (I:Inv X pins σ H s)
 (F:∀b∈ch,(b∈X.ex\/X.s₀.heap.objs.size<=b)/\b≠X.env.locals/\(∀x c,X.env.cells.lookup x=some c->c≠b)/\∀p∈X.pn++pins,p.1≠b)
 (keep:∀b o,b≠X.env.locals->b∉X.fs->b∉ch->s.heap.get? b=some o->H b=none->h'.get? b=some o)
 (M:∀b o,b≠X.env.locals->b∈X.fs->b∉ch->s.heap.get? b=some o->H b=none->∃sl,h'.get? b=some { o with slots:=sl}) (free:∀b o,b∉ch->s.heap.get? b=some o->H b=none->H' b=none)
 (there:∀b o,b∉ch->s.heap.get? b=some o->∃o',h'.get? b=some o')
 (W:∀b xs,H b=some (.tup xs)->H' b=some (.tup xs)) (Y:∀b o u,H b=some (.frz o u)->H' b=some (.frz o u)) (Z:∀b ps,H b=some (.tbl ps)->∃a0,H' b=some (.tbl (ps++a0)))
 (ns:∀m,s.heap.Ns X.env.locals m->h'.Ns X.env.locals m) (a2:HOk X.prog X.w H' h') (hg:AllBare g'):
 Inv X pins σ H' { s with heap:=h',gens:=g',drawn:=d',toks:=t'}:=by
 have a1:∀b o,X.s₀.heap.get? b=some o->b≠X.env.locals:=fun b o e=>ne_of_lt (lt_of_lt_of_le (Heap.lt_size e) I.ok.above)
 have J:∀b o,X.s₀.heap.get? b=some o->b∉X.ex->b∉ch:=fun b o e y O=>by
  rcases(F b O).1 with z | z
  . exact y z
  . exact absurd (lt_of_lt_of_le (Heap.lt_size e) z) (lt_irrefl _)
 have cellK:∀x c,X.env.cells.lookup x=some c->∀v,s.heap.IsCell c v->h'.IsCell c v:=fun x c e v ⟨o,U,hd⟩=>by
  have G:c∉ch:=fun z=>(F c z).2.2.1 x c e rfl
  by_cases hc:c∈X.fs
  . obtain⟨sl,q⟩:=M c o (I.cne x c e) hc G U (I.freeC x c e)
    exact⟨_,q,hd⟩
  . exact⟨o,keep c o (I.cne x c e) hc G U (I.freeC x c e),hd⟩
 refine⟨I.ok,I.os,hg,⟨fun b o e n O y=> ?_,fun b o e n O y=> ?_,fun b o e n y=> ?_,fun b o e y=> ?_,fun b xs e=>W b xs (I.base.tups b xs e),fun b o xs e=>Y b o xs (I.base.frzs b o xs e),fun b ps e=> ?_⟩,?_,fun x c e=> ?_,?_,fun x c e=> ?_,fun p hp=> ?_,a2,I.len⟩
 . exact keep b o (a1 b o e) O (J b o e y) (I.base.keep b o e n O y) (I.base.free b o e n y)
 . obtain⟨sl,L⟩:=I.base.slot b o e n O y
   obtain⟨a3,e2⟩:=M b _ (a1 b o e) O (J b o e y) L (I.base.free b o e n y)
   exact⟨a3,e2⟩
 . obtain⟨o',L⟩:=I.base.there b o e y
   exact free b o' (J b o e y) L (I.base.free b o e n y)
 . obtain⟨o',L⟩:=I.base.there b o e y
   exact there b o' (J b o e y) L
 . obtain⟨m1,L⟩:=I.base.tbls b ps e
   obtain⟨m2,e2⟩:=Z b _ L
   exact⟨m1++m2,by rw [e2,Array.append_assoc]⟩
 . obtain⟨m,hn,hl⟩:=I.loc
   refine⟨m,ns m hn,fun i x v L e2 e3=> ?_⟩
   obtain⟨u,r,l⟩:=hl i x v L e2 e3
   refine⟨u,r,?_⟩
   rcases l with l | ⟨k,c,e,z⟩
   . exact .inl l
   . exact .inr ⟨k,c,e,cellK x c e _ z⟩
 . obtain⟨v,z⟩:=I.cell x c e
   exact⟨v,cellK x c e v z⟩
 . obtain⟨m,⟨o,_,_,U,_⟩,_⟩:=I.loc
   exact free _ o (fun z=>(F _ z).2.1 rfl) U I.free
 . obtain⟨v,o,U,hd⟩:=I.cell x c e
   exact free c o (fun z=>(F c z).2.2.1 x c e rfl) U (I.freeC x c e)
 . obtain⟨e,n,ne,nf,d⟩:=I.pin p hp
   have G:p.1∉ch:=fun z=>(F p.1 z).2.2.2 p hp rfl
   exact⟨keep p.1 p.2 ne nf G e n,free p.1 p.2 G e n,ne,nf,d⟩
theorem Inv.un {t':Nat} (I:Inv X pins σ H s) (u:Un X.fs [] H H' s.heap h') (q:HOk X.prog X.w H' h'):Inv X pins σ H' { s with heap:=h',toks:=t'}:=by
 obtain⟨m,⟨o,es,ep,J,r⟩,_⟩:=id I.loc
 obtain⟨U,L⟩:=u.any J I.free (by simp)
 exact I.step (g':=s.gens) (d':=s.drawn) (ch:=[]) (fun _ z=>nomatch z) (fun b o _ y _ e n=>u.keep b o e n y (by simp)) (fun b o _ y _ e n=>u.slot b o e n y (by simp)) (fun b o _ e n=>u.free b o e n (by simp)) (fun b o _ e=>u.there b o e (by simp)) u.tups u.frzs u.tbls (fun W M=>by
  obtain⟨o',F,G,d,O⟩:=M
  rw [J]at d;cases d
  exact⟨_,F,G,L,O⟩) q I.bare
theorem Inv.call {g':Array GenState}{t':Nat}{d':Drawn}{ch:List Addr} (I:Inv X pins σ H s) (u:Un (frs X.stack) ch H H' s.heap h') (F:HOk X.prog X.w H' h') (O:AllBare g')
 (q:∀b∈ch,(b∈X.ex\/X.s₀.heap.objs.size<=b)/\b≠X.env.locals/\(∀x c,X.env.cells.lookup x=some c->c≠b)/\∀p∈X.pn++pins,p.1≠b):
 Inv X pins σ H' { s with heap:=h',gens:=g',drawn:=d',toks:=t'}:=by
 obtain⟨m,⟨o,es,ep,M,r⟩,_⟩:=id I.loc
 obtain⟨Z,G⟩:=u.any M I.free fun z=>(q _ z).2.1 rfl
 exact I.step (ch:=ch) q (fun b o G U d e n=>u.keep b o e n (fun z=>(mem_cons.mp (I.stkSub b z)).elim G U) d) (fun b o _ _ d e n=>u.any e n d) (fun b o d e n=>u.free b o e n d) (fun b o d e=>u.there b o e d) u.tups u.frzs u.tbls (fun m' W=>by
  obtain⟨o',J,L,y,Y⟩:=W
  rw [M]at y;cases y
  exact⟨_,J,L,G,Y⟩) F O
theorem Inv.turned {t':Nat}{d:Addr} (I:Inv X pins σ H s) (k:∀b o,b≠d->s.heap.get? b=some o->h'.get? b=some o) (J:H d=none) (G:d≠X.env.locals)
 (h1:d∈X.ex\/X.s₀.heap.objs.size<=d) (h2:∀x c,X.env.cells.lookup x=some c->c≠d) (L:∀p∈X.pn++pins,p.1≠d):Inv X pins σ H { s with heap:=h',toks:=t'}:=by
 have F:∀b u,H b=some u->b≠d:=fun b u e z=>by rw [z,J]at e;cases e
 refine I.step (g':=s.gens) (d':=s.drawn) (ch:=[d]) (fun b M=> ?_) (fun b o _ _ y e _=>k b o (fun z=>y (by simp [z])) e) (fun b o _ _ y e _=>⟨o.slots,k b o (fun z=>y (by simp [z])) e⟩) (fun _ _ _ _ n=>n)
  (fun b o y e=>⟨o,k b o (fun z=>y (by simp [z])) e⟩) (fun _ _ e=>e) (fun _ _ _ e=>e) (fun b ps e=>⟨#[],by rw [e];simp⟩) (fun m O=> ?_) (fun b u e=> ?_) I.bare
 . have e:b=d:=by simpa using M
   subst e
   exact⟨h1,G,h2,L⟩
 . obtain⟨o,es,ep,U,r⟩:=O
   exact⟨o,es,ep,k _ o (Ne.symm G) U,r⟩
 . refine(I.hok b u e).stay (fun c v y q=>k c v ?_ q) (fun _ q=>q) fun _ _ q=>q
   rcases y with z | z
   . rw [z];exact F b u e
   . exact F c _ z
theorem Inv.tok (I:Inv X pins σ H s) (t:Nat):Inv X pins σ H { s with toks:=t}:=I.un (h':=s.heap) (t':=t) Un.refl I.hok
theorem Inv.kept {t':Nat} (I:Inv X pins σ H s) (k:∀b u,s.heap.get? b=some u->h'.get? b=some u):Inv X pins σ H { s with heap:=h',toks:=t'}:=I.un (Un.kept k) (I.hok.kept k)
theorem Inv.laid {a:Addr}{o:HO}{t':Nat} (I:Inv X pins σ H s) (k:∀b u,s.heap.get? b=some u->h'.get? b=some u) (d:s.heap.objs.size<=a) (q:Fy X.prog X.w (upd H a o) h' a o):
 Inv X pins σ (upd H a o) { s with heap:=h',toks:=t'}:=I.un (Un.laid k d (I.hok.fresh d)) (I.hok.laid k d q)
theorem Inv.write {x e:Addr}{o:HO}{t':Nat} (I:Inv X pins σ H s) (y:Mut (H x)) (F:e=x\/H e=some (.own x)) (k:∀b u,b≠e->s.heap.get? b=some u->h'.get? b=some u) (d:∃u,h'.get? e=some u)
 (q:Fy X.prog X.w (upd H x o) h' x o):Inv X pins σ (upd H x o) { s with heap:=h',toks:=t'}:=I.un (Un.write y F k d) (I.hok.write y F k d q)
theorem Inv.pins_of {d:List (Addr × Obj)} (I:Inv X pins σ H s) (h:∀p∈d,s.heap.get? p.1=some p.2/\H p.1=none/\p.1≠X.env.locals/\p.1∉X.fs/\∀v,p.2.data≠ .cell v):Inv X d σ H s:=
 ⟨I.ok,I.os,I.bare,I.base,I.loc,I.cell,I.free,I.freeC,fun p q=>(mem_append.mp q).elim (fun z=>I.pin p (mem_append_left _ z)) (h p),I.hok,I.len⟩
theorem Vk {N:List Str} (d:N.Nodup) {i j:Nat}{x:Str} (a:N[i]? =some x) (b:N[j]? =some x):i=j:=by
 obtain⟨h1,q⟩:=List.getElem?_eq_some_iff.mp a
 obtain⟨h2,y⟩:=List.getElem?_eq_some_iff.mp b
 exact(List.getElem_inj d).mp (q.trans y.symm)
theorem Zk {M:Model}{A:Around}{E:Value->Shared->Prop}{i:Nat}{x:Str}{v:V}{u:Value}{Q:Unit->Shared->Prop} (I:Inv X pins σ H s) (hN:X.N.Nodup) (hi:X.N[i]? =some x) (L:Loc X.env.scope x) (r:RelV v u)
 (h:∀s',Inv X pins (σ.set i (some v)) H s'->(∃a,Heap.SameBut a s.heap s'.heap/\(a=X.env.locals\/X.env.cells.lookup x=some a))->Q () s') (hf:X.fn x=true\/X.env.scope.names.lookup x=some .local :=by first | exact .inl rfl | exact .inr rfl | assumption):wpAny M A (storeName X.env x u) Q E s:=by
 obtain⟨m,hn,hl⟩:=id I.loc
 have a1:(X.env.scope.kind== .class||(X.env.scope.kind== .module&&X.env.locals != X.env.globals))=false:=by rw [I.ok.kind];rfl
 have W:i<σ.length:=by rw [I.len];exact(List.getElem?_eq_some_iff.mp hi).1
 have cne:=I.cne
 have tracked:∀ {a:Addr}{h':Heap},(∃o,s.heap.get? a=some o/\H a=none)->Heap.SameBut a s.heap h'->HOk X.prog X.w H h':=fun {a h'} ha F b ob e=>by
  obtain⟨_,_,O⟩:=ha
  refine(I.hok b ob e).stay (fun c w' J q=>(F.2 c ?_).trans q) (fun _ q=>q) fun _ _ q=>q
  rintro rfl
  rcases J with rfl | J
  . rw [O]at e;cases e
  . rw [O]at J;cases J
 rcases L with Y | Y
 . refine wpAny_storeName_local Y hn (fun h' a6 F=> ?_) a1
   obtain⟨oL,_,_,a7,_⟩:=id hn
   refine h _ ⟨I.ok,I.os,I.bare,⟨fun b o e n Z L=> ?_,fun b o e n Z L=> ?_,I.base.free,fun b o e L=> ?_,I.base.tups,I.base.frzs,I.base.tbls⟩,⟨_,a6,fun j y v' G U e3=> ?_⟩,fun y c e=> ?_,I.free,I.freeC,fun p hp=> ?_,tracked ⟨oL,a7,I.free⟩ F,by simpa using I.len⟩ ⟨_,F,.inl rfl⟩
   . exact(F.2 b (ne_of_lt (lt_of_lt_of_le (Heap.lt_size e) I.ok.above))).trans (I.base.keep b o e n Z L)
   . obtain⟨sl,G⟩:=I.base.slot b o e n Z L
     exact⟨sl,(F.2 b (ne_of_lt (lt_of_lt_of_le (Heap.lt_size e) I.ok.above))).trans G⟩
   . obtain⟨o',G⟩:=I.base.there b o e L
     exact⟨o',(F.2 b (ne_of_lt (lt_of_lt_of_le (Heap.lt_size e) I.ok.above))).trans G⟩
   . by_cases hj:j=i
     . subst hj
       rw [hi]at G;cases G
       rw [getElem?_set_self W]at U
       cases U
       exact⟨u,r,.inl ⟨Y,by simp⟩⟩
     . rw [getElem?_set_ne (Ne.symm hj)]at U
       obtain⟨u',r',q⟩:=hl j y v' G U e3
       refine⟨u',r',?_⟩
       rcases q with⟨k,e⟩ | ⟨k,c,e,z⟩
       . refine .inl ⟨k,?_⟩
         have:y≠x:=fun e=>hj (Vk hN G (e▸hi))
         simp [this,e]
       . exact .inr ⟨k,c,e,z.sameBut F (cne y c e)⟩
   . obtain⟨w',z⟩:=I.cell y c e
     exact⟨w',z.sameBut F (cne y c e)⟩
   . obtain⟨e,n,ne,nf,d⟩:=I.pin p hp
     exact⟨(F.2 p.1 ne).trans e,n,ne,nf,d⟩
 . have a0:X.fn x=true:=by
    rcases hf with z | z
    . exact z
    . rw [z]at Y;cases Y
   obtain⟨c,J⟩:=I.ok.has x (.inl Y)
   obtain⟨w',z⟩:=I.cell x c J
   refine wpAny_storeName_cell I.ok.kind Y J z (fun h' a2 F=> ?_)
   obtain⟨oc,a3,a4⟩:=id z
   refine h { s with heap:=h'} ⟨I.ok,I.os,I.bare,⟨fun b o e n Z L=> ?_,fun b o e n Z L=> ?_,I.base.free,fun b o e L=> ?_,I.base.tups,I.base.frzs,I.base.tbls⟩,⟨m,hn.sameBut F (Ne.symm (cne x c J)),fun j y v' G U e3=> ?_⟩,fun y c' e=> ?_,I.free,I.freeC,fun p hp=> ?_,tracked ⟨oc,a3,I.freeC x c J⟩ F,by simpa using I.len⟩ ⟨c,F,.inr J⟩
   . exact(F.2 b (ne_of_lt (lt_of_lt_of_le (Heap.lt_size e) (I.ok.cab x c a0 J)))).trans (I.base.keep b o e n Z L)
   . obtain⟨sl,G⟩:=I.base.slot b o e n Z L
     exact⟨sl,(F.2 b (ne_of_lt (lt_of_lt_of_le (Heap.lt_size e) (I.ok.cab x c a0 J)))).trans G⟩
   . obtain⟨o',G⟩:=I.base.there b o e L
     exact⟨o',(F.2 b (ne_of_lt (lt_of_lt_of_le (Heap.lt_size e) (I.ok.cab x c a0 J)))).trans G⟩
   . by_cases hj:j=i
     . subst hj
       rw [hi]at G;cases G
       rw [getElem?_set_self W]at U
       cases U
       exact⟨u,r,.inr ⟨.inl Y,c,J,a2⟩⟩
     . rw [getElem?_set_ne (Ne.symm hj)]at U
       obtain⟨u',r',q⟩:=hl j y v' G U e3
       refine⟨u',r',?_⟩
       rcases q with q | ⟨k,c',e,z'⟩
       . exact .inl q
       . refine .inr ⟨k,c',e,z'.sameBut F ?_⟩
         rintro rfl
         exact hj (Vk hN G (I.ok.inj _ _ _ e J▸hi))
   . by_cases a5:c'=c
     . subst a5;exact⟨_,a2⟩
     . obtain⟨w2,z2⟩:=I.cell y c' e
       exact⟨w2,z2.sameBut F a5⟩
   . obtain⟨e,n,ne,nf,d⟩:=I.pin p hp
     refine⟨(F.2 p.1 ?_).trans e,n,ne,nf,d⟩
     intro q
     rw [q,a3]at e
     have q':oc=p.2:=Option.some.inj e
     exact d w' (by rw [<-q'];exact a4)
theorem Lw {M:Model}{A:Around}{E:Value->Shared->Prop}{i:Nat}{x:Str}{v:V}{u:Value}{Q:Unit->Shared->Prop} (I:Inv X pins σ H s) (d:X.N.Nodup) (hi:X.N[i]? =some x) (q:Loc X.env.scope x) (r:RelV v u)
 (h:∀s',Inv X pins (σ.set i (some v)) H s'->Q () s') (y:X.fn x=true\/X.env.scope.names.lookup x=some .local :=by first | exact .inl rfl | exact .inr rfl | assumption):wpAny M A (storeName X.env x u) Q E s:=
 Zk I d hi q r (fun s' F _=>h s' F) y
theorem Inv.call' {s':Shared}{ch:List Addr} (I:Inv X pins σ H s) (J:s'.os=s.os) (u:Un (frs X.stack) ch H H' s.heap s'.heap) (d:HOk X.prog X.w H' s'.heap) (L:AllBare s'.gens)
 (q:∀b∈ch,(b∈X.ex\/X.s₀.heap.objs.size<=b)/\b≠X.env.locals/\(∀x c,X.env.cells.lookup x=some c->c≠b)/\∀p∈X.pn++pins,p.1≠b):Inv X pins σ H' s':=by
 obtain⟨h',y,F,G,o'⟩:=s'
 have e:o'=s.os:=J
 subst e
 exact I.call (g':=y) (t':=G) (d':=F) u d L q
end
abbrev XK:=Value->Option Addr->Hp->Prop
abbrev St:=List (Option V)
abbrev VK:=V->Hp->Prop
abbrev TE:=St->Hp->VK->Prop
abbrev TT:=St->Hp->(Bool->Hp->Prop)->Prop
abbrev TA:=St->Hp->(List V->Hp->Prop)->Prop
structure Ends where
 nx:St->Hp->Prop
 rt:VK
 bk:St->Hp->Prop:=fun _ _=>False
 ct:St->Hp->Prop:=fun _ _=>False
abbrev TS:=Ends->St->Hp->Prop
def EP (X:Cx) (pins:List (Addr × Obj)) (σ:St) (Q:VK) (u:Value) (s':Shared):Prop:=∃v H',Inv X pins σ H' s'/\RelV v u/\Q v H'
def TP (X:Cx) (pins:List (Addr × Obj)) (σ:St) (Q:Bool->Hp->Prop) (b:Bool) (s':Shared):Prop:=∃H',Inv X pins σ H' s'/\Q b H'
def AP (X:Cx) (pins:List (Addr × Obj)) (σ:St) (Q:List V->Hp->Prop) (us:List Value) (s':Shared):Prop:=∃vs H',Inv X pins σ H' s'/\Vals vs us/\Q vs H'
def SP (X:Cx) (pins:List (Addr × Obj)) (D:Ends) (f:Flow) (s':Shared):Prop:=
 match f with
 | .next=>∃σ' H',Inv X pins σ' H' s'/\D.nx σ' H'
 | .brk=>∃σ' H',Inv X pins σ' H' s'/\D.bk σ' H'
 | .cont=>∃σ' H',Inv X pins σ' H' s'/\D.ct σ' H'
 | .ret u=>∃v σ' H',Inv X pins σ' H' s'/\RelV v u/\D.rt v H'
def PE (X:Cx) (e:Expr) (t:TE):Prop:=
 ∀(pins:List (Addr × Obj)) (s:Shared) (σ:St) (H:Hp) (Q:VK),Inv X pins σ H s->t σ H Q->wpAny (model X.prog X.w) X.A (eval e X.env) (EP X pins σ Q) X.xe s
def PT (X:Cx) (e:Expr) (t:TT):Prop:=
 ∀(pins:List (Addr × Obj)) (s:Shared) (σ:St) (H:Hp) (Q:Bool->Hp->Prop),Inv X pins σ H s->t σ H Q->wpAny (model X.prog X.w) X.A (isTrue e X.env (eval e X.env)) (TP X pins σ Q) X.xe s
def PW (X:Cx) (e:Expr) (t:TT):Prop:=
 ∀(whole:Sem Value) (pins:List (Addr × Obj)) (s:Shared) (σ:St) (H:Hp) (Q:Bool->Hp->Prop),Inv X pins σ H s->t σ H Q->wpAny (model X.prog X.w) X.A (isTrue e X.env whole) (TP X pins σ Q) X.xe s
theorem PW.pt {X:Cx}{e:Expr}{t:TT} (h:PW X e t):PT X e t:=h _
def PA (X:Cx) (es:List Expr) (t:TA):Prop:=
 ∀(pos:Pos) (pins:List (Addr × Obj)) (s:Shared) (σ:St) (H:Hp) (Q:List V->Hp->Prop),Inv X pins σ H s->t σ H Q->wpAny (model X.prog X.w) X.A (spliced (backTo pos (starEach es X.env))) (AP X pins σ Q) X.xe s
def PS (X:Cx) (st:Stmt) (t:TS):Prop:=
 ∀(pins:List (Addr × Obj)) (s:Shared) (σ:St) (H:Hp) (D:Ends),Inv X pins σ H s->t D σ H->wpAny (model X.prog X.w) X.A (exec st X.env) (SP X pins D) X.xe s
def PSs (X:Cx) (st:List Stmt) (t:TS):Prop:=
 ∀(pins:List (Addr × Obj)) (s:Shared) (σ:St) (H:Hp) (D:Ends),Inv X pins σ H s->t D σ H->wpAny (model X.prog X.w) X.A (execs st X.env) (SP X pins D) X.xe s
theorem thn {α:Type}{t:Sem α}{Q d:α->Shared->Prop}{M:Model}{A:Around}{E:Value->Shared->Prop}{s:Shared} (h:wpAny M A t Q E s) (q:∀a s,Q a s->d a s):wpAny M A t d E s:=wpAny_mono h q fun _ _ x=>x
end L2
namespace L2
open PySem PySem.Spec PyProof.Rows
section
variable {X:Cx}
def W5 (i:Nat):TE:=fun σ H Q=>∃v,σ[i]? =some (some v)/\Q v H
def tC (v:V):TE:=fun _ H Q=>Q v H
theorem Afe {i:Nat}{x:Str}{pos:Pos} (L:X.N[i]? =some x) (M:Vis X.env.scope x) (F:(x==("__debug__":Str))=false:=by decide) (G:(x==("__classdict__":Str))=false:=by decide):PE X (.Name x pos) (W5 i):=by
 intro pins s σ H Q I h
 obtain⟨v,e,h⟩:=h
 obtain⟨m,O,U⟩:=I.loc
 obtain⟨u,r,l⟩:=U i x v L e M
 have q:EP X pins σ Q u s:=⟨v,H,I,r,h⟩
 rcases l with⟨y,W⟩ | ⟨y,c,J,d⟩
 . exact wpAny_Name (wpAny_loadName_local I.ok.kind y O W q) F
 . rcases y with y | y
   . exact wpAny_Name (wpAny_loadName_cell I.ok.kind y J d q) F
   . exact wpAny_Name (wpAny_loadName_free I.ok.kind y J d q G) F
theorem Ae8 {i j pos}:PE X (.Constant (.int i) j pos) (tC (.int i)):=fun _ _ _ H _ I h=>wpAny_Constant_int ⟨.int i,H,I.tok _,⟨_,rfl⟩,h⟩
theorem Ag6 {b j pos}:PE X (.Constant (.bool b) j pos) (tC (.bl b)):=fun _ _ _ H _ I h=>Constant_bool ⟨.bl b,H,I,rfl,h⟩
theorem Afc {x j pos}:PE X (.Constant (.str x) j pos) (tC (.str x)):=fun _ _ _ H _ I h=>Calls.Constant_str ⟨.str x,H,I.tok _,⟨_,rfl⟩,h⟩
def Gl (X:Cx) (x:Str):Prop:=X.env.kindOf x=some .globalImplicit
theorem Tz {E:Value->Shared->Prop}{pins:List (Addr × Obj)}{s:Shared}{σ:St}{H:Hp}{x:Str}{u:Value}{pos:Pos}{Q:Value->Shared->Prop} (I:Inv X pins σ H s) (d:Gl X x) (q:X.mg x=some u) (h:Q u s)
 (y:(x==("__debug__":Str))=false:=by decide):wpAny (model X.prog X.w) X.A (eval (.Name x pos) X.env) Q E s:=
 Calls.Name_function_global I.ok.kind d (Calls.loadGlobal_global (by rw [I.ok.glob];exact I.mod.glob.keeps I.bk) q h) y
theorem Mu {E:Value->Shared->Prop}{pins:List (Addr × Obj)}{s:Shared}{σ:St}{H:Hp}{x:Str}{u:Value}{pos:Pos}{Q:Value->Shared->Prop} (I:Inv X pins σ H s) (d:Gl X x) (q:X.mg x=none) (y:bootBuiltins x=some u) (h:Q u s)
 (F:x≠"__name__":=by decide) (G:(x==("__debug__":Str))=false:=by decide):wpAny (model X.prog X.w) X.A (eval (.Name x pos) X.env) Q E s:=by
 obtain⟨J,h1,h2⟩:=I.mod.blt
 exact Calls.Name_function_global I.ok.kind d (Calls.loadGlobal_builtin (by rw [I.ok.glob];exact I.mod.glob.keeps I.bk) q (by rw [I.ok.blt];exact h1.keeps I.bk) ((h2 x F).trans y) h) G
theorem Ub {x:Str}{v:V}{u:Value}{pos:Pos} (d:Gl X x) (q:X.mg x=some u) (r:RelV v u) (y:(x==("__debug__":Str))=false:=by decide):PE X (.Name x pos) (tC v):=
 fun _ _ _ H _ I h=>Tz I d q ⟨v,H,I,r,h⟩ y
theorem Ua {x:Str}{v:V}{u:Value}{pos:Pos} (d:Gl X x) (q:X.mg x=none) (y:bootBuiltins x=some u) (r:RelV v u) (F:x≠"__name__":=by decide) (G:(x==("__debug__":Str))=false:=by decide):PE X (.Name x pos) (tC v):=
 fun _ _ _ H _ I h=>Mu I d q y ⟨v,H,I,r,h⟩ F G
variable {a b:Expr}{ta tb:TE}{pos:Pos}
def tB (t:TE):TT:=fun σ H Q=>t σ H fun x H1=>∃c,x= .bl c/\Q c H1
theorem Ab3 {e:Expr}{t:TE} (h:PE X e t) (y:∀whole,isTrue e X.env whole=(do let v<-whole;standAt e.pos;holding [v] (truthy v)):=by intro _;rfl):PT X e (tB t):=by
 intro pins s σ H Q I F
 refine isTrue_plain (thn (h pins s σ H _ I F) fun v M ⟨x,H1,G,J,L⟩=> ?_) (y _)
 obtain⟨d,rfl,q⟩:=L
 cases J
 exact wpAny_truthy_bool ⟨H1,G,q⟩
variable {tA tB':TT}{rest:List Expr}
def Ahm (t u:TT):TT:=fun σ H Q=>t σ H fun c H1=>if c=true then u σ H1 Q else Q false H1
def tOr (t u:TT):TT:=fun σ H Q=>t σ H fun c H1=>if c=true then Q true H1 else u σ H1 Q
def Ahq (t:TT):TT:=fun σ H Q=>t σ H fun c H1=>Q (!c) H1
theorem Adg (d:PT X a tA):PW X (.BoolOp .And [a] pos) tA:=by
 intro q pins s σ H Q I h
 refine isTrue_and (thn (d pins s σ H Q I h) fun c y e=> ?_)
 cases c with
 | true=>exact isTrue_and_nil e
 | false=>exact e
theorem Afk (d:PT X a tA):PW X (.BoolOp .Or [a] pos) tA:=by
 intro q pins s σ H Q I h
 refine isTrue_or (thn (d pins s σ H Q I h) fun c y e=> ?_)
 cases c with
 | false=>exact isTrue_or_nil e
 | true=>exact e
theorem Afj (y:PT X a tA) (F:PW X (.BoolOp .And (b::rest) pos) tB'):PW X (.BoolOp .And (a::b::rest) pos) (Ahm tA tB'):=by
 intro G pins s σ H Q I h
 refine isTrue_and (thn (y pins s σ H _ I h) fun c J ⟨H1,d,q⟩=> ?_)
 cases c with
 | true=>exact F G pins J σ H1 Q d q
 | false=>exact⟨H1,d,q⟩
theorem Ahc (y:PT X a tA) (F:PW X (.BoolOp .Or (b::rest) pos) tB'):PW X (.BoolOp .Or (a::b::rest) pos) (tOr tA tB'):=by
 intro G pins s σ H Q I h
 refine isTrue_or (thn (y pins s σ H _ I h) fun c J ⟨H1,d,q⟩=> ?_)
 cases c with
 | true=>exact⟨H1,d,q⟩
 | false=>exact F G pins J σ H1 Q d q
theorem Afi (d:PT X a tA):PT X (.UnaryOp .Not a pos) (Ahq tA):=by
 intro pins s σ H Q I h
 exact isTrue_not (d pins s σ H (fun c H1=>Q (!c) H1) I h)
def Ado (ta tb:TE):TE:=fun σ H Q=>ta σ H fun x H1=>∃c,x= .bl c/\if c=true then tb σ H1 Q else Q (.bl false) H1
def Ahr (ta tb:TE):TE:=fun σ H Q=>ta σ H fun x H1=>∃c,x= .bl c/\if c=true then Q (.bl true) H1 else tb σ H1 Q
def Ads (ta:TE):TE:=fun σ H Q=>ta σ H fun x H1=>∃c,x= .bl c/\Q (.bl (!c)) H1
theorem Afb {op}{t:TE} (h:PE X a t):PE X (.BoolOp op [a] pos) t:=fun pins s σ H Q I d=>BoolOp_one (h pins s σ H Q I d)
theorem Ae7 (y:PE X a ta) (F:PE X (.BoolOp .And (b::rest) pos) tb):PE X (.BoolOp .And (a::b::rest) pos) (Ado ta tb):=by
 intro pins s σ H Q I h
 refine BoolOp_and (thn (y pins s σ H _ I h) fun v G ⟨x,H1,q,J,d⟩=> ?_)
 obtain⟨c,rfl,d⟩:=d
 cases J
 refine wpAny_truthy_bool ?_
 cases c with
 | true=>exact F pins G σ H1 Q q d
 | false=>exact⟨.bl false,H1,q,rfl,d⟩
theorem Ag9 (y:PE X a ta) (F:PE X (.BoolOp .Or (b::rest) pos) tb):PE X (.BoolOp .Or (a::b::rest) pos) (Ahr ta tb):=by
 intro pins s σ H Q I h
 refine BoolOp_or (thn (y pins s σ H _ I h) fun v G ⟨x,H1,q,J,d⟩=> ?_)
 obtain⟨c,rfl,d⟩:=d
 cases J
 refine wpAny_truthy_bool ?_
 cases c with
 | false=>exact F pins G σ H1 Q q d
 | true=>exact⟨.bl true,H1,q,rfl,d⟩
theorem Afa (q:PE X a ta):PE X (.UnaryOp .Not a pos) (Ads ta):=by
 intro pins s σ H Q I h
 refine UnaryOp_ (thn (q pins s σ H _ I h) fun v G ⟨x,H1,y,F,d⟩=> ?_)
 obtain⟨c,rfl,d⟩:=d
 cases F
 exact not_of (wpAny_truthy_bool ⟨.bl (!c),H1,y,rfl,d⟩)
def tIf (t:TT) (ta tb:TE):TE:=fun σ H Q=>t σ H fun c H1=>if c=true then ta σ H1 Q else tb σ H1 Q
theorem Aav {c:Expr} (G:PT X c tA) (J:PE X a ta) (L:PE X b tb):PE X (.IfExp c a b pos) (tIf tA ta tb):=by
 intro pins s σ H Q I h
 refine wpAny_IfExp (thn (G pins s σ H _ I h) fun d q ⟨H1,y,F⟩=> ?_)
 cases d with
 | true=>exact J pins q σ H1 Q y F
 | false=>exact L pins q σ H1 Q y F
end
end L2
namespace L2
open PySem PySem.Spec PyProof.Rows
def SqL (K:Frag) (H:Hp) (a:Addr) (xs:List V):Prop:=
 Rd H a (.lst xs)\/
  ∃(o:Obj) (its:Array Value) (n:Nat),K.lookup a=some o/\o.cls= .type "list"/\o.dict=none/\o.data= .seq its n/\its.size<=sizeLine/\Vals xs its.toList
def SqT (K:Frag) (H:Hp) (a:Addr) (xs:List V):Prop:=
 Rd H a (.tup xs)\/
  ∃(o:Obj) (its:Array Value) (n:Nat),K.lookup a=some o/\o.cls= .type "tuple"/\o.data= .seq its n/\its.size<=sizeLine/\Vals xs its.toList
def Ai0:Value->Option V
 | .none=>some .non
 | .bool b=>some (.bl b)
 | .int i _=>some (.int i)
 | .str x _=>some (.str x)
 | .bytes b _=>some (.byt b)
 | .float b _=>some (.flt b)
 | .ref a=>some (.ref a)
 | .type n=>some (.ty n)
 | _=>none
theorem RelV.abs {x:V}{u:Value} (r:RelV x u):Ai0 u=some x:=by
 cases x with
 | non=>cases r;rfl
 | bl _=>cases r;rfl
 | int _=>obtain⟨t,rfl⟩:=r;rfl
 | str _=>obtain⟨t,rfl⟩:=r;rfl
 | byt _=>obtain⟨t,rfl⟩:=r;rfl
 | flt _=>obtain⟨t,rfl⟩:=r;rfl
 | ref _=>cases r;rfl
 | ty _=>cases r;rfl
theorem RelV.inj {x y:V}{u:Value} (r:RelV x u) (q:RelV y u):x=y:=Option.some.inj (r.abs.symm.trans q.abs)
theorem Vals.inj:∀ {xs ys:List V}{d:List Value},Vals xs d->Vals ys d->xs=ys
 | _,_,_,.nil,.nil=>rfl
 | _,_,_,.cons r t,.cons r' t'=>by rw [r.inj r',Vals.inj t t']
section
variable {X:Cx}{pins:List (Addr × Obj)}{σ:St}{H:Hp}{s:Shared}{a:Addr}{xs ys:List V}
theorem SqL.of {K:Frag} (h:H a=some (.lst xs)):SqL K H a xs:= .inl (.inl h)
theorem SqT.of {K:Frag} (h:H a=some (.tup xs)):SqT K H a xs:= .inl (.inl h)
theorem Inv.list (I:Inv X pins σ H s) (h:SqL X.K H a xs):∃d:List Value,Vals xs d/\PlainL s.heap a d.toArray/\xs.length<=sizeLine:=by
 rcases h with h | ⟨o,d,n,q,y,F,G,J,r⟩
 . obtain⟨z,d,n,r,e⟩:=h.ok I.hok
   exact⟨d,r,⟨_,n,e,rfl,rfl,rfl⟩,z⟩
 . refine⟨d.toList,r,⟨o,n,I.kIn a o q,y,F,by simpa using G⟩,?_⟩
   have e:=r.length
   simp only [Array.length_toList]at e
   omega
theorem Inv.tuple (I:Inv X pins σ H s) (h:SqT X.K H a xs):∃d:List Value,Vals xs d/\IsTup s.heap a d.toArray/\xs.length<=sizeLine:=by
 rcases h with h | ⟨o,d,n,q,y,F,G,r⟩
 . obtain⟨z,d,r,p⟩:=h.ok I.hok
   exact⟨d,r,p,z⟩
 . refine⟨d.toList,r,⟨o,I.kIn a o q,y,n,by simpa using F⟩,?_⟩
   have e:=r.length
   simp only [Array.length_toList]at e
   omega
theorem Inv.list_inj (I:Inv X pins σ H s) (h:SqL X.K H a xs) (h':SqL X.K H a ys):xs=ys:=by
 obtain⟨y,r,⟨o,n,e,_,_,d⟩,_⟩:=I.list h
 obtain⟨q,J,⟨o',L,F,_,_,G⟩,_⟩:=I.list h'
 rw [e]at F;cases F
 rw [d]at G
 injection G with d1 _
 have:y=q:=by simpa using congrArg Array.toList d1
 subst this
 exact r.inj J
theorem Inv.tuple_inj (I:Inv X pins σ H s) (h:SqT X.K H a xs) (h':SqT X.K H a ys):xs=ys:=by
 obtain⟨y,r,⟨o,e,_,n,d⟩,_⟩:=I.tuple h
 obtain⟨q,J,⟨o',F,_,L,G⟩,_⟩:=I.tuple h'
 rw [e]at F;cases F
 rw [d]at G
 injection G with d1 _
 have:y=q:=by simpa using congrArg Array.toList d1
 subst this
 exact r.inj J
end
abbrev Cx.wish (X:Cx) (E:Value->Shared->Prop):Cx:={ X with xe:=E}
abbrev Cx.nox (X:Cx):Cx:=X.wish fun _ _=>False
theorem Cx.Ok.wish {X:Cx} (ok:X.Ok) (E:Value->Shared->Prop):(X.wish E).Ok:=
 ⟨ok.mod,ok.kind,ok.glob,ok.blt,ok.above,ok.inj,ok.has,ok.cab,ok.hd,ok.frames,ok.stk,ok.exf,ok.bs,ok.bsz,ok.noex,ok.exfs,ok.funs,ok.frf⟩
theorem Cx.Ok.unwish {X:Cx}{E:Value->Shared->Prop} (ok:(X.wish E).Ok):X.Ok:=
 ⟨ok.mod,ok.kind,ok.glob,ok.blt,ok.above,ok.inj,ok.has,ok.cab,ok.hd,ok.frames,ok.stk,ok.exf,ok.bs,ok.bsz,ok.noex,ok.exfs,ok.funs,ok.frf⟩
section
variable {X:Cx}{pins:List (Addr × Obj)}{σ:St}{H:Hp}{s:Shared}{E:Value->Shared->Prop}
theorem Inv.wish (I:Inv X pins σ H s) (E:Value->Shared->Prop):Inv (X.wish E) pins σ H s:=⟨I.ok.wish E,I.os,I.bare,I.base,I.loc,I.cell,I.free,I.freeC,I.pin,I.hok,I.len⟩
theorem Inv.unwish (I:Inv (X.wish E) pins σ H s):Inv X pins σ H s:=⟨I.ok.unwish,I.os,I.bare,I.base,I.loc,I.cell,I.free,I.freeC,I.pin,I.hok,I.len⟩
theorem SP.unwish {D:Ends}{f:Flow}{s':Shared} (h:SP (X.wish E) pins D f s'):SP X pins D f s':=by
 cases f with
 | next=>obtain⟨d,H',I,q⟩:=h;exact⟨d,H',I.unwish,q⟩
 | brk=>obtain⟨d,H',I,q⟩:=h;exact⟨d,H',I.unwish,q⟩
 | cont=>obtain⟨d,H',I,q⟩:=h;exact⟨d,H',I.unwish,q⟩
 | ret u=>obtain⟨v,d,H',I,r,q⟩:=h;exact⟨v,d,H',I.unwish,r,q⟩
theorem PE.nox {e:Expr}{t:TE} (h:PE X.nox e t):PE X e t:=fun pins s σ H Q I d=>
 wpAny_mono (h pins s σ H Q (I.wish _) d) (fun _ _ ⟨v,H',y,r,q⟩=>⟨v,H',y.unwish,r,q⟩) fun _ _ z=>False.elim z
theorem PT.nox {e:Expr}{t:TT} (h:PT X.nox e t):PT X e t:=fun pins s σ H Q I d=>
 wpAny_mono (h pins s σ H Q (I.wish _) d) (fun _ _ ⟨H',y,q⟩=>⟨H',y.unwish,q⟩) fun _ _ z=>False.elim z
theorem PSs.nox {st:List Stmt}{t:TS} (h:PSs X.nox st t):PSs X st t:=fun pins s σ H D I d=>
 wpAny_mono (h pins s σ H D (I.wish _) d) (fun _ _ q=>q.unwish) fun _ _ z=>False.elim z
end
section
variable {X:Cx}{st:Stmt}{rest:List Stmt}{t u:TS}{e:Expr}{te:TE}{pos:Pos}
def Adq:TS:=fun D σ H=>D.nx σ H
def Ago (t u:TS):TS:=fun D σ H=>t { D with nx:=u D} σ H
theorem Ada:PSs X [] Adq:=fun _ _ σ H _ I h=>wpAny_execs_nil ⟨σ,H,I,h⟩
theorem Aa1 (h1:PS X st t) (h2:PSs X rest u):PSs X (st::rest) (Ago t u):=by
 intro pins s σ H D I h
 refine wpAny_execs_cons (thn (h1 pins s σ H { D with nx:=u D} I h) fun f y q=> ?_)
 cases f with
 | next=>
   obtain⟨d,H',F,q⟩:=q
   exact h2 pins y d H' D F q
 | ret v=>exact q
 | brk=>exact q
 | cont=>exact q
theorem Adb (h1:PS X st t):PSs X [st] t:=by
 intro pins s σ H D I h
 refine wpAny_execs_cons (thn (h1 pins s σ H D I h) fun f d q=> ?_)
 cases f with
 | next=>exact wpAny_execs_nil q
 | ret v=>exact q
 | brk=>exact q
 | cont=>exact q
theorem Inv.quiet {pins:List (Addr × Obj)}{σ:St}{H:Hp}{s:Shared} (I:Inv X pins σ H s):interactive X.env=false:=by simp [interactive,I.ok.kind]
def Adp (te:TE):TS:=fun D σ H=>te σ H fun _ H1=>D.nx σ H1
theorem Y7 (d:PE X e te) (q:swapsWith e none pos.line X.env=pure false:=by rfl):PS X (.Expr e pos) (Adp te):=by
 intro pins s σ H D I h
 exact wpAny_Expr_any (thn (d pins s σ H _ I h) fun v G ⟨x,H1,y,J,F⟩=>⟨σ,H1,y,F⟩) I.quiet q
def Aht (te:TE):TS:=fun D σ H=>te σ H D.rt
theorem Afh (d:PE X e te):PS X (.Return (some e) pos) (Aht te):=by
 intro pins s σ H D I h
 exact wpAny_Return_some (thn (d pins s σ H _ I h) fun v G ⟨x,H1,q,y,F⟩=>⟨x,σ,H1,q,y,F⟩)
def Aho (c:TT) (t u:TS):TS:=fun D σ H=>c σ H fun b H1=>if b=true then t D σ H1 else u D σ H1
theorem Ahb {c:Expr}{a b:List Stmt}{tc:TT} (G:PT X c tc) (J:PSs X a t) (L:PSs X b u):PS X (.If c a b pos) (Aho tc t u):=by
 intro pins s σ H D I h
 refine wpAny_If (thn (G pins s σ H _ I h) fun d q ⟨H1,y,F⟩=> ?_)
 cases d with
 | true=>exact J pins q σ H1 D y F
 | false=>exact L pins q σ H1 D y F
end
abbrev TG:=V->St->Hp->(St->Hp->Prop)->Prop
abbrev TGs:=List V->St->Hp->(St->Hp->Prop)->Prop
def PG (X:Cx) (target:Expr) (t:TG):Prop:=
 ∀(pins:List (Addr × Obj)) (s:Shared) (σ:St) (H:Hp) (v:V) (u:Value) (Q:St->Hp->Prop),Inv X pins σ H s->RelV v u->t v σ H Q->
   wpAny (model X.prog X.w) X.A (assign target X.env u) (fun _ s'=>∃σ' H',Inv X pins σ' H' s'/\Q σ' H') X.xe s
def PGs (X:Cx) (ts:List Expr) (t:TGs):Prop:=
 ∀(pins:List (Addr × Obj)) (s:Shared) (σ:St) (H:Hp) (vs:List V) (us:List Value) (Q:St->Hp->Prop),Inv X pins σ H s->Vals vs us->t vs σ H Q->
   wpAny (model X.prog X.w) X.A (assignInOrder ((assignEach ts X.env).map (·.2)) us) (fun _ s'=>∃σ' H',Inv X pins σ' H' s'/\Q σ' H') X.xe s
abbrev Aed:=V->V->V->Hp->(Hp->Prop)->Prop
def Agt (X:Cx) (t:Aed):Prop:=
 ∀(pins:List (Addr × Obj)) (s:Shared) (σ:St) (H:Hp) (o i v:V) (ov iv u:Value) (Q:Hp->Prop),Inv X pins σ H s->RelV o ov->RelV i iv->RelV v u->t o i v H Q->
   wpAny (model X.prog X.w) X.A (setItem ov iv u) (fun _ s'=>∃H',Inv X pins σ H' s'/\Q H') X.xe s
section
variable {X:Cx}{pos:Pos}
def Ga (i:Nat):TG:=fun v σ H Q=>Q (σ.set i (some v)) H
theorem Uc {i:Nat}{x:Str} (d:X.N.Nodup) (hi:X.N[i]? =some x) (q:Loc X.env.scope x) (y:X.fn x=true\/X.env.scope.names.lookup x=some .local :=by first | exact .inl rfl | exact .inr rfl | assumption):PG X (.Name x pos) (Ga i):=by
 intro pins s σ H v u Q I r h
 exact wpAny_assign_Name (Lw I d hi q r (fun s' F=>⟨_,H,F,h⟩) y)
def Ad2:TGs:=fun vs σ H Q=>vs=[]/\Q σ H
def Ke (t:TG) (u:TGs):TGs:=fun vs σ H Q=>∃v r,vs=v::r/\t v σ H fun σ' H'=>u r σ' H' Q
theorem Ac7:PGs X [] Ad2:=by
 intro pins s σ H d q Q I r h
 obtain⟨e,h⟩:=h
 subst e
 cases r
 exact assignInOrder_nil ⟨σ,H,I,h⟩
theorem Vp {e:Expr}{es:List Expr}{t:TG}{u:TGs} (h1:PG X e t) (h2:PGs X es u)
 (q:(assignEach (e::es) X.env).map (·.2)=assign e X.env::(assignEach es X.env).map (·.2):=by rfl):PGs X (e::es) (Ke t u):=by
 intro pins s σ H M O Q I r h
 obtain⟨v,U,y,h⟩:=h
 subst y
 cases r with
 | cons r F=>
   rw [q]
   refine assignInOrder_cons (thn (h1 pins s σ H _ _ _ I r h) fun _ G ⟨d,H1,J,L⟩=> ?_)
   exact h2 pins G d H1 _ _ Q J F L
def Abs (K:Frag) (n:Nat) (t:TGs):TG:=fun v σ H Q=>∃a xs,v= .ref a/\SqT K H a xs/\xs.length=n/\t xs σ H Q
theorem Vo {es:List Expr}{k:Nat}{t:TGs}{n:Nat} (F:X.calm=true) (h:PGs X es t)
 (G:(assignEach es X.env).length=n:=by rfl) (d:(assignEach es X.env).findIdx? (·.1)=none:=by rfl):PG X (.Tuple es k pos) (Abs X.K n t):=by
 intro pins s σ H v u Q I r q
 obtain⟨a,xs,J,L,M,q⟩:=q
 subst J
 cases r
 obtain⟨O,y,U,Z⟩:=I.tuple L
 refine assign_Tuple_tuple (I.ok.hd F) U (by simp [G,<-M,y.length]) d fun h' W=> ?_
 have Y:Inv X pins σ H { s with heap:=h'}:=I.kept (t':=s.toks) fun b o e=>W b o (ne_of_lt (Heap.lt_size e)) e
 exact h pins _ σ H xs _ Q Y (by simpa using y) q
def Ag0 (to ti:TE) (t:Aed):TG:=fun v σ H Q=>to σ H fun o H1=>ti σ H1 fun i H2=>t o i v H2 fun H3=>Q σ H3
theorem Abz {o i:Expr}{to F:TE}{t:Aed} (G:PE X o to) (hi:PE X i F) (J:Agt X t)
 (L:∀v,assign (.Subscript o i pos) X.env v=(do
   let d<-holding [v] (eval o X.env)
   let q<-holding [v,d] (eval i X.env)
   standAt pos
   holding [v,d,q] (setItem d q v)
   release [v,d,q] []):=by intro _;rfl):PG X (.Subscript o i pos) (Ag0 to F t):=by
 intro pins s σ H v u Q I r h
 rw [L]
 refine wpAny_bind (wpAny_holding (thn (G pins s σ H _ I h) fun d M ⟨x,H1,O,U,W⟩=> ?_))
 refine wpAny_bind (wpAny_holding (thn (hi pins M σ H1 _ O W) fun q Y ⟨y,H2,Z,r2,q2⟩=> ?_))
 refine wpAny_bind (wpAny_standAt (wpAny_bind (wpAny_holding (thn (J pins Y σ H2 x y v d q u _ Z U r2 r q2) fun _ s3 ⟨H3,I3,q3⟩=> ?_))))
 exact wpAny_release ⟨σ,H3,I3,q3⟩
def Abd (te:TE) (g:TG):TS:=fun D σ H=>te σ H fun x H1=>g x σ H1 D.nx
theorem Vq {tg e:Expr}{te:TE}{g:TG} (d:PE X e te) (y:PG X tg g) (F:swapsWithSole [tg] e pos.line X.env=pure false:=by rfl) (G:swappedStores [tg] e X.env=pure none:=by rfl)
 (h1:(assignEach [tg] X.env).map (·.2)=[assign tg X.env]:=by rfl):PS X (.Assign [tg] e pos) (Abd te g):=by
 intro pins s σ H D I h
 refine wpAny_Assign_stores (thn (d pins s σ H _ I h) fun v J ⟨x,H1,L,M,O⟩=> ?_) F G
 rw [h1]
 exact thn (y pins J σ H1 x v _ L M O) fun _ U q=>q
theorem Vr {i:Nat}{x:Str}{e:Expr}{te:TE}{d:Pos} (q:X.N.Nodup) (hi:X.N[i]? =some x) (F:Loc X.env.scope x) (G:PE X e te) (J:swapsWith e (some (.Name x d)) pos.line X.env=pure false:=by rfl) (L:X.fn x=true\/X.env.scope.names.lookup x=some .local :=by first | exact .inl rfl | exact .inr rfl | assumption):
 PS X (.Assign [.Name x d] e pos) (Abd te (Ga i)):=by
 intro pins s σ H D I h
 refine wpAny_Assign_Name (thn (G pins s σ H _ I h) fun v Y ⟨y,H1,M,O,U⟩=> ?_) J
 exact Lw M q hi F O (fun Z W=>⟨_,H1,W,U⟩) L
def Ahs (i j:Nat) (ta:TA):TS:=fun D σ H=>ta σ H fun vs H1=>∃v w,vs=[v,w]/\D.nx ((σ.set i (some v)).set j (some w)) H1
theorem Ab2 {i j:Nat}{x y:Str}{a b:Expr}{ta:TA}{J L pt:Pos}{kt k2 pt2} (hc:X.calm=true) (Y:X.N.Nodup) (hi:X.N[i]? =some x) (hj:X.N[j]? =some y) (M:i≠j)
 (Z:X.env.scope.names.lookup x=some .local) (hy:X.env.scope.names.lookup y=some .local) (ha:PA X [a,b] ta)
 (hw:swappedStores [.Tuple [.Name x J,.Name y L] kt pt] (.Tuple [a,b] k2 pt2) X.env=pure (some [x,y]))
 (hs:swapsWithSole [.Tuple [.Name x J,.Name y L] kt pt] (.Tuple [a,b] k2 pt2) pos.line X.env=pure false:=by rfl):
 PS X (.Assign [.Tuple [.Name x J,.Name y L] kt pt] (.Tuple [a,b] k2 pt2) pos) (Ahs i j ta):=by
 intro pins s σ H D I h
 rw [exec_Assign_arm]
 refine wpAny_bind (wpAny_standAt ?_)
 rw [hs]
 refine wpAny_bind (wpAny_pure ?_)
 rw [if_neg (by decide)]
 refine wpAny_bind (Tuple_ (thn (ha _ pins s σ H _ I h) fun us d ⟨vs,H1,I1,r1,O⟩=> ?_))
 obtain⟨v,w,e1,O⟩:=O
 subst e1
 obtain⟨F,G,rfl,rv,U⟩:∃F G,us=[F,G]/\RelV v F/\RelV w G:=by
  cases r1 with
  | cons p q=>
    cases q with
    | cons p' q'=>
      cases q'
      exact⟨_,_,rfl,p,p'⟩
 refine wpAny_newObj_type ?_ (by show 2<=sizeLine;decide)
 have I2:Inv X pins σ H1 { d with heap:=d.heap.push { cls:= .type "tuple",data:= .seq [F,G].toArray}}:=I1.kept (t':=d.toks) fun b o e=>Heap.get?_push_of_some _ e
 rw [hw]
 refine wpAny_bind (wpAny_pure ?_)
 show wpAny (model X.prog X.w) X.A (do rule "assign.swapped-stores";let items<-unpackItems (.ref d.heap.objs.size) 2 none;assignInOrder [fun v=>bindName X.env y v,fun v=>bindName X.env x v] items.reverse;pure Flow.next) _ _ _
 refine wpAny_bind (wpAny_rule (wpAny_bind (unpackItems_tuple (items:= #[F,G]) (I.ok.hd hc) (IsTup.new d.heap _) fun h' W=> ?_)))
 have I3:=I2.kept (h':=h') (t':=d.toks) fun b o e=>W b o (ne_of_lt (Heap.lt_size e)) e
 show wpAny _ _ (assignInOrder [fun v=>bindName X.env y v,fun v=>bindName X.env x v] [G,F]>>=fun _=>pure Flow.next) _ _ _
 refine wpAny_bind (assignInOrder_cons (wpAny_bindName (Lw I3 Y hj (.inl hy) U (fun s2 I4=> ?_) (.inr hy))))
 refine assignInOrder_cons (wpAny_bindName (Lw I4 Y hi (.inl Z) rv (fun s3 I5=>assignInOrder_nil (wpAny_pure ?_)) (.inr Z)))
 rw [List.set_comm _ _ (Ne.symm M)]at I5
 exact⟨_,H1,I5,O⟩
end
section
variable {X:Cx}{pos:Pos}
def Zr (c:TT) (tb:TS):TS:=fun D σ H=>∃W:Nat->St->Hp->Prop,(∃m,W m σ H)/\∀m σ H,W m σ H->
 c σ H fun b H1=>if b=true then ∃N:St->Hp->Prop,(∀σ' H',N σ' H'->∃m',m'<m/\W m' σ' H')/\tb { D with nx:=N,ct:=N,bk:=D.nx} σ H1 else D.nx σ H1
theorem Aa0 {c:Expr}{y:List Stmt}{tc:TT}{tb:TS} (hp:PassesOwn (model X.prog X.w) X.A X.env X.xe) (hc:PT X c tc) (hb:PSs X y tb):PS X (.While c y [] pos) (Zr tc tb):=by
 intro pins s σ H D I h
 obtain⟨W,⟨m0,w0⟩,F⟩:=h
 refine wpAny_While (codeAny_whileLoop (fun n s'=>∃G H',Inv X pins G H' s'/\W n G H') ?_ m0 ⟨σ,H,I,w0⟩)
 rintro n s1 ⟨q,H1,I1,w1⟩
 refine wpAny_passesOwn hp (thn (hc pins s1 q H1 _ I1 (F n q H1 w1)) fun b s2 ⟨H2,I2,L⟩=> ?_)
 cases b with
 | true=>
   obtain⟨N,hN,L⟩:=L
   rw [if_pos rfl]
   refine wpAny_passesOwn hp (thn (hb pins s2 q H2 _ I2 L) fun f s3 M=> ?_)
   cases f with
   | next=>
     obtain⟨d,J,O,U⟩:=M
     obtain⟨Y,Z,w3⟩:=hN d J U
     exact⟨Y,Z,d,J,O,w3⟩
   | cont=>
     obtain⟨d,J,O,U⟩:=M
     obtain⟨Y,Z,w3⟩:=hN d J U
     exact⟨Y,Z,d,J,O,w3⟩
   | brk=>exact M
   | ret v=>exact M
 | false=>
   rw [if_neg Bool.false_ne_true]
   exact wpAny_execs_nil ⟨q,H2,I2,L⟩
end
structure It where
 go:Nat->Hp->Prop
 yld:Nat->Hp->V->Hp->Prop
 stop:Nat->Hp->Prop
def Nx (X:Cx) (pins:List (Addr × Obj)) (H:Hp) (b:Addr):Prop:=
 H b=none/\b≠X.env.locals/\b∉X.fs/\(b∈X.ex\/X.s₀.heap.objs.size<=b)/\(∀x c,X.env.cells.lookup x=some c->c≠b)/\∀p∈X.pn++pins,p.1≠b
theorem Inv.fpOk {X:Cx}{pins:List (Addr × Obj)}{σ:St}{H H':Hp}{s:Shared}{b:Addr} (I:Inv X pins σ H s) (d:s.heap.objs.size<=b) (y:H' b=none):Nx X pins H' b:=by
 refine⟨y,ne_of_gt (lt_of_lt_of_le I.lt d),I.nofs d,.inr (le_trans I.sz d),fun x c e z=> ?_,fun p F z=> ?_⟩
 . obtain⟨v,q⟩:=I.cell x c e
   exact absurd (lt_of_lt_of_le q.lt (by rw [z];exact d)) (lt_irrefl _)
 . exact absurd (lt_of_lt_of_le (Heap.lt_size (I.pin p F).1) (by rw [z];exact d)) (lt_irrefl _)
structure Turn (P:Program) (w:World) (K:Frag) (tg:Expr) (J:It) (fp:List Addr) (it:Addr) (tn:Nat->Heap->Prop):Prop where
 mem:it∈fp
 obj:∀i h,tn i h->∀b∈fp,∃o,h.get? b=some o/\∀v,o.data≠ .cell v
 keep:∀i h h',tn i h->(∀b∈fp,∀o,h.get? b=some o->h'.get? b=some o)->tn i h'
 item:∀(X:Cx),X.prog=P->X.w=w->X.K=K->X.calm=true->∀(i:Nat) (pins:List (Addr × Obj)) (s:Shared) (σ:St) (H:Hp) (E:Value->Shared->Prop),Inv X pins σ H s->(∀b∈fp,Nx X pins H b)->tn i s.heap->J.go i H->
  wpAny (model P w) X.A (pyNext (.ref it)) (fun r s1=>∃u,r=some u/\
   wpAny (model P w) X.A (letOwnedTupleGo tg (.ref it) u) (fun _ s2=>∃x H',Inv X pins σ H' s2/\RelV x u/\J.yld i H x H'/\tn (i+1) s2.heap/\∀b∈fp,H' b=none) E s1) E s
 done:∀(X:Cx),X.prog=P->X.w=w->X.K=K->X.calm=true->∀(i:Nat) (pins:List (Addr × Obj)) (s:Shared) (σ:St) (H:Hp) (E:Value->Shared->Prop),Inv X pins σ H s->(∀b∈fp,Nx X pins H b)->tn i s.heap->J.stop i H->
  wpAny (model P w) X.A (pyNext (.ref it)) (fun r s1=>r=none/\Inv X pins σ H s1) E s
 self:∀(A:Around) (i:Nat) (s:Shared) (Q:Value->Shared->Prop) (E:Value->Shared->Prop),tn i s.heap->Q (.ref it) s->wpAny (model P w) A (pyIter (.ref it)) Q E s
abbrev TI:=St->Hp->(It->Hp->Prop)->Prop
def PIE (X:Cx) (pins:List (Addr × Obj)) (σ:St) (tg:Expr) (R:It->Hp->Prop) (itv:Value) (s2:Shared):Prop:=
 ∃(it:Addr) (fp:List Addr) (tn:Nat->Heap->Prop) (J:It) (H':Hp),itv= .ref it/\Inv X pins σ H' s2/\Turn X.prog X.w X.K tg J fp it tn/\tn 0 s2.heap/\(∀b∈fp,Nx X pins H' b)/\R J H'
def PI (X:Cx) (tg iter:Expr) (wi:TI):Prop:=
 ∀(pins:List (Addr × Obj)) (s:Shared) (σ:St) (H:Hp) (R:It->Hp->Prop),Inv X pins σ H s->wi σ H R->
   wpAny (model X.prog X.w) X.A (eval iter X.env) (fun v s1=>wpAny (model X.prog X.w) X.A (pyIter v) (PIE X pins σ tg R) X.xe s1) X.xe s
theorem Acn {M:Model}{A:Around}{E:Value->Shared->Prop}{s:Shared}{tg:Expr}{q:Addr}{u:Value}{o:Obj}{n:String}{y:Array Value}{Q:Unit->Shared->Prop} (F:s.heap.get? q=some o) (G:o.cls= .type n) (I:o.data= .fields y)
 (J:["enumerate","zip","dict_itemiterator","dict_reverseitemiterator","odict_iterator","itertools.zip_longest","itertools.pairwise"].contains n=false) (d:Q () s):wpAny M A (letOwnedTupleGo tg (.ref q) u) Q E s:=by
 unfold letOwnedTupleGo
 cases tg<;>first
  | exact wpAny_pure d
  | (cases u<;>first
      | exact wpAny_pure d
      | (refine wpAny_bind (wpAny_load F ?_)
         rw [G,I]
         show wpAny M A (if(["enumerate","zip","dict_itemiterator","dict_reverseitemiterator","odict_iterator","itertools.zip_longest","itertools.pairwise"].contains n&&y[0]? ==some (rawInt _))=true then _ else _) Q E s
         rw [if_neg (by intro h;rw [J,Bool.false_and]at h;cases h)]
         exact wpAny_pure d))
def Itl (K:Frag) (a:Addr):It:=
 ⟨fun i H=>∃xs x,SqL K H a xs/\xs[i]? =some x,fun i H x H'=>H'=H/\∀xs,SqL K H a xs->xs[i]? =some x,fun i H=>∃xs,SqL K H a xs/\xs.length<=i⟩
def Itt (K:Frag) (a:Addr):It:=
 ⟨fun i H=>∃xs x,SqT K H a xs/\xs[i]? =some x,fun i H x H'=>H'=H/\∀xs,SqT K H a xs->xs[i]? =some x,fun i H=>∃xs,SqT K H a xs/\xs.length<=i⟩
def Itr (lo:Int) (n:Nat):It:=⟨fun i _=>i<n,fun i H x H'=>H'=H/\x= .int (lo+i),fun i _=>n<=i⟩
theorem Zt {P:Program}{w:World}{K:Frag}{tg:Expr} (a q:Addr):Turn P w K tg (Itl K a) [q] q (fun i h=>h.IsListIter q a i) where
 mem:=by simp
 obj:=fun i h st b y=>by
  have e:b=q:=by simpa using y
  subst e
  obtain⟨o,e,c,d⟩:=st
  exact⟨o,e,fun v z=>by rw [d]at z;cases z⟩
 keep:=fun i h h' st k=>st.at fun o e=>k q (by simp) o e
 item:=by
  intro X L M O hc i pins s σ H E I G st U
  subst L M O
  obtain⟨xs,x,J,Y⟩:=U
  obtain⟨Z,rv,p,hz⟩:=I.list J
  obtain⟨u,hu,ru⟩:=rv.get Y
  obtain⟨f0,f1,f2,f3,f4,f5⟩:=G q (by simp)
  refine wpAny_pyNext_list_item st p.isList (x:=u) (by simpa using hu) fun h' F sb=> ?_
  have I1:Inv X pins σ H { s with heap:=h'}:=I.turned (t':=s.toks) (fun b o y e=>(sb.2 b y).trans e) f0 f1 f3 f4 f5
  obtain⟨o,e,c,d⟩:=id F
  exact⟨u,rfl,Acn (s:={ s with heap:=h'}) e c d (by decide) ⟨x,H,I1,ru,⟨rfl,fun ys hy=>by rw [I.list_inj hy J];exact Y⟩,F,fun b y=>(G b y).1⟩⟩
 done:=by
  intro X L M O hc i pins s σ H E I G st U
  subst L M O
  obtain⟨xs,J,Y⟩:=U
  obtain⟨Z,rv,p,hz⟩:=I.list J
  obtain⟨f0,f1,f2,f3,f4,f5⟩:=G q (by simp)
  have hl:=rv.length
  exact wpAny_pyNext_list_end (I.ok.hd hc) st p.isList (by simp;omega) fun h' eb=>⟨rfl,I.turned (t':=s.toks) (fun b o y e=>eb b o y e) f0 f1 f3 f4 f5⟩
 self:=fun _ _ _ _ _ st h=>wpAny_pyIter_listiter st h
theorem W7 {P:Program}{w:World}{K:Frag}{tg:Expr} (a q:Addr):Turn P w K tg (Itt K a) [q] q (fun i h=>h.IsTupleIter q a i) where
 mem:=by simp
 obj:=fun i h st b y=>by
  have e:b=q:=by simpa using y
  subst e
  obtain⟨o,e,c,d⟩:=st
  exact⟨o,e,fun v z=>by rw [d]at z;cases z⟩
 keep:=fun i h h' st k=>st.at fun o e=>k q (by simp) o e
 item:=by
  intro X M O U hc i pins s σ H E I J st Y
  subst M O U
  obtain⟨xs,x,L,Z⟩:=Y
  obtain⟨F,rv,p,hz⟩:=I.tuple L
  obtain⟨u,hu,ru⟩:=rv.get Z
  obtain⟨f0,f1,f2,f3,f4,f5⟩:=J q (by simp)
  refine wpAny_pyNext_tuple_item st (show s.heap.IsTuple a F.toArray from p) (x:=u) (by simpa using hu) fun h' G sb=> ?_
  have I1:Inv X pins σ H { s with heap:=h'}:=I.turned (t':=s.toks) (fun b o y e=>(sb.2 b y).trans e) f0 f1 f3 f4 f5
  obtain⟨o,e,c,d⟩:=id G
  exact⟨u,rfl,Acn (s:={ s with heap:=h'}) e c d (by decide) ⟨x,H,I1,ru,⟨rfl,fun ys hy=>by rw [I.tuple_inj hy L];exact Z⟩,G,fun b y=>(J b y).1⟩⟩
 done:=by
  intro X M O U hc i pins s σ H E I J st Y
  subst M O U
  obtain⟨xs,L,Z⟩:=Y
  obtain⟨F,rv,p,hz⟩:=I.tuple L
  obtain⟨f0,f1,f2,f3,f4,f5⟩:=J q (by simp)
  have hl:=rv.length
  exact wpAny_pyNext_tuple_end (I.ok.hd hc) st (show s.heap.IsTuple a F.toArray from p) (by simp;omega) fun h' eb=>⟨rfl,I.turned (t':=s.toks) (fun b o y e=>eb b o y e) f0 f1 f3 f4 f5⟩
 self:=fun _ _ _ _ _ st h=>wpAny_pyIter_tupleiter st h
theorem W6 {P:Program}{w:World}{K:Frag}{tg:Expr} (d:Addr) (lo:Int) (n:Nat):Turn P w K tg (Itr lo n) [d] d (fun i h=>IsRangeIter h d (lo+(i:Nat)*1) ((n:Int)-(i:Nat)) 1) where
 mem:=by simp
 obj:=fun i h st b q=>by
  have e:b=d:=by simpa using q
  subst e
  exact⟨_,st,fun v z=>by
   have z':Data.fields _=Data.cell v:=z
   cases z'⟩
 keep:=fun i h h' st k=>k d (by simp) _ st
 item:=by
  intro X G J L M i pins s σ H E I F st O
  subst G J L
  obtain⟨U,Y,f2,Z,f4,f5⟩:=F d (by simp)
  have W:=Walks.range (prog:=X.prog) (w:=X.w) (I.ok.hd M) d lo 1 n
  refine W.item i s _ _ O st fun v h' tk hv y kk=> ?_
  obtain⟨t,rfl⟩:=hv
  have I1:Inv X pins σ H { s with heap:=h',toks:=tk}:=I.turned (fun b o q e=>kk b o (by simpa using q) e) U Y Z f4 f5
  refine⟨_,rfl,Acn (s:={ s with heap:=h',toks:=tk}) (n:="range_iterator") y rfl rfl (by decide) ⟨.int (lo+i),H,I1,⟨t,?_⟩,⟨rfl,rfl⟩,y,fun b q=>(F b q).1⟩⟩
  rw [Int.mul_one]
 done:=by
  intro X G J L M i pins s σ H E I F st O
  subst G J L
  obtain⟨U,Y,f2,Z,f4,f5⟩:=F d (by simp)
  exact wpAny_pyNext_range_end (I.ok.hd M) st (by have:n<=i:=O;omega) fun h' eb=>⟨rfl,I.turned (t':=s.toks) (fun b o q e=>eb b o q e) U Y Z f4 f5⟩
 self:=fun _ _ _ _ _ st h=>wpAny_pyIter_rangeiter st h
end L2
namespace L2
open PySem PySem.Spec PyProof.Rows
section
variable {X:Cx}{tg:Expr}
def Yb (K:Frag) (tl:TE):TI:=fun σ H R=>tl σ H fun x H1=>∃a,x= .ref a/\(∃xs,SqL K H1 a xs)/\R (Itl K a) H1
def Ag3 (K:Frag) (tl:TE):TI:=fun σ H R=>tl σ H fun x H1=>∃a,x= .ref a/\(∃xs,SqT K H1 a xs)/\R (Itt K a) H1
theorem Y0 {l:Expr}{tl:TE} (F:PE X l tl):PI X tg l (Yb X.K tl):=by
 intro pins s σ H R I h
 refine thn (F pins s σ H _ I h) fun v d ⟨x,H1,y,G,J⟩=> ?_
 obtain⟨a,e,⟨xs,L⟩,q⟩:=J
 subst e
 cases G
 obtain⟨M,U,p,W⟩:=y.list L
 refine wpAny_pyIter_list p.isList ?_
 refine⟨d.heap.objs.size,[d.heap.objs.size],_,_,H1,rfl,y.kept (t':=d.toks) fun b o e=>Heap.get?_push_of_some _ e,Zt a _,⟨_,Heap.get?_push_size _ rfl,rfl,rfl⟩,fun b O=> ?_,q⟩
 have e:b=d.heap.objs.size:=by simpa using O
 subst e
 exact y.fpOk (le_refl _) (y.hok.fresh (le_refl _))
theorem Afg {l:Expr}{tl:TE} (G:PE X l tl):PI X tg l (Ag3 X.K tl):=by
 intro pins s σ H R I h
 refine thn (G pins s σ H _ I h) fun v d ⟨x,H1,y,J,L⟩=> ?_
 obtain⟨a,e,⟨xs,M⟩,q⟩:=L
 subst e
 cases J
 obtain⟨F,U,p,W⟩:=y.tuple M
 refine wpAny_pyIter_tuple (show d.heap.IsTuple a F.toArray from p) ?_
 refine⟨d.heap.objs.size,[d.heap.objs.size],_,_,H1,rfl,y.kept (t':=d.toks) fun b o e=>Heap.get?_push_of_some _ e,W7 a _,⟨_,Heap.get?_push_size _ rfl,rfl,rfl⟩,fun b O=> ?_,q⟩
 have e:b=d.heap.objs.size:=by simpa using O
 subst e
 exact y.fpOk (le_refl _) (y.hok.fresh (le_refl _))
theorem Vt {pins:List (Addr × Obj)}{σ:St}{H:Hp}{s:Shared}{R:It->Hp->Prop}{E:Value->Shared->Prop}{lo hi:Int}{t u v:Tok}{tk:Nat} (I:Inv X pins σ H s) (h1: -(2^62)<=lo) (h2:lo<2^62) (y: -(2^62)<=hi) (F:hi<2^62)
 (q:R (Itr lo (hi-lo).toNat) H):wpAny (model X.prog X.w) X.A (pyIter (.ref s.heap.objs.size)) (PIE X pins σ tg R) E { s with heap:=s.heap.push { cls:= .type "range",data:= .fields #[.int lo t,.int hi u,.int 1 v]},toks:=tk}:=by
 refine wpAny_pyIter_range (IsRange.new ..) (small_one h1 h2 y F) ?_
 have d:Inv X pins σ H { s with heap:=s.heap.push { cls:= .type "range",data:= .fields #[.int lo t,.int hi u,.int 1 v]},toks:=tk}:=I.kept fun b o e=>Heap.get?_push_of_some _ e
 refine⟨(s.heap.push { cls:= .type "range",data:= .fields #[.int lo t,.int hi u,.int 1 v]}).objs.size,[(s.heap.push { cls:= .type "range",data:= .fields #[.int lo t,.int hi u,.int 1 v]}).objs.size],_,_,H,rfl,
  d.kept (t':=tk) fun b o e=>Heap.get?_push_of_some _ e,W6 _ lo (hi-lo).toNat,?_,fun b G=> ?_,q⟩
 . have J:lo+((0:Nat):Int)*1=lo:=by simp
   have L:(((hi-lo).toNat:Nat):Int)-((0:Nat):Int)=Builtin.Range.rangeSize lo hi 1:=by rw [rangeSize_one];split<;>omega
   show IsRangeIter _ _ (lo+((0:Nat):Int)*1) ((((hi-lo).toNat:Nat):Int)-((0:Nat):Int)) 1
   rw [J,L]
   exact Heap.get?_push_size _ rfl
 . have e:b=(s.heap.push { cls:= .type "range",data:= .fields #[.int lo t,.int hi u,.int 1 v]}).objs.size:=by simpa using G
   subst e
   exact d.fpOk (le_refl _) (d.hok.fresh (le_refl _))
def Acp (ta:TA):TI:=fun σ H R=>ta σ H fun vs H1=>∃j:Int,vs=[.int j]/\ -(2^62)<=j/\j<2^62/\R (Itr 0 j.toNat) H1
def Acq (ta:TA):TI:=fun σ H R=>ta σ H fun vs H1=>∃i j:Int,vs=[.int i,.int j]/\(-(2^62)<=i/\i<2^62/\ -(2^62)<=j/\j<2^62)/\R (Itr i (j-i).toNat) H1
theorem Rr {a:Expr}{ta:TA}{p pos:Pos} (y:Gl X "range") (F:X.mg "range"=none) (G:PA X [a] ta) (J:starEach [a] X.env=[(false,eval a X.env)]:=by rfl):PI X tg (.Call (.Name "range" p) [a] [] pos) (Acp ta):=by
 intro pins s σ H R I h
 refine Call_ (Mu I y F boot_range (PyProof.Rows.callWith_type1 (thn (G pos pins s σ H _ I h) fun W Y ⟨Z,H1,L,M,d⟩=> ?_) J rfl))
 obtain⟨j,e,d,O,q⟩:=d
 subst e
 cases M with
 | cons r U=>
   cases U
   obtain⟨t,rfl⟩:=r
   exact call_range_1 (Vt L (by omega) (by omega) d O (by simpa using q))
theorem M6 {a b:Expr}{ta:TA}{p pos:Pos} (G:Gl X "range") (J:X.mg "range"=none) (L:PA X [a,b] ta) (M:starEach [a,b] X.env=[(false,eval a X.env),(false,eval b X.env)]:=by rfl) (d:starEach [b] X.env=[(false,eval b X.env)]:=by rfl):
 PI X tg (.Call (.Name "range" p) [a,b] [] pos) (Acq ta):=by
 intro pins s σ H R I h
 refine Call_ (Mu I G J boot_range (PyProof.Rows.callWith_type1 (thn (L pos pins s σ H _ I h) fun us s1 ⟨vs,H1,O,U,y⟩=> ?_) (by rw [M,d]) (by rw [d];rfl)))
 obtain⟨i,j,e,⟨y,W,Y,Z⟩,q⟩:=y
 subst e
 cases U with
 | cons r F=>
   cases F with
   | cons r' F=>
     cases F
     obtain⟨t,rfl⟩:=r
     obtain⟨t',rfl⟩:=r'
     exact call_range_2 (Vt O y W Y Z q)
def Ahn (wi:TI) (g:TG) (tb:TS):TS:=fun D σ H=>wi σ H fun J H1=>∃W:Nat->Nat->St->Hp->Prop,(∃m,W 0 m σ H1)/\∀i m σ H,W i m σ H->
 (J.stop i H/\D.nx σ H)\/(J.go i H/\∃N:St->Hp->Prop,(∀σ' H',N σ' H'->∃m',m'<m/\W (i+1) m' σ' H')/\∀x H',J.yld i H x H'->g x σ H' fun σ2 H2=>tb { D with nx:=N,ct:=N,bk:=D.nx} σ2 H2)
def Om (fp:List Addr) (h:Heap):List (Addr × Obj):=fp.filterMap fun b=>(h.get? b).map fun o=>(b,o)
theorem Ew {fp:List Addr}{h:Heap}{b:Addr}{o:Obj} (d:b∈fp) (e:h.get? b=some o):(b,o)∈Om fp h:=mem_filterMap.mpr ⟨b,d,by rw [e];rfl⟩
theorem Yo {fp:List Addr}{h:Heap}{p:Addr × Obj} (d:p∈Om fp h):p.1∈fp/\h.get? p.1=some p.2:=by
 obtain⟨b,y,e⟩:=mem_filterMap.mp d
 cases q:h.get? b with
 | none=>rw [q]at e;cases e
 | some o=>
   rw [q]at e
   have F:(b,o)=p:=Option.some.inj e
   subst F
   exact⟨y,q⟩
theorem Inv.pinned {pins:List (Addr × Obj)}{σ:St}{H:Hp}{s:Shared}{fp:List Addr} (I:Inv X pins σ H s) (F:∀b∈fp,Nx X pins H b) (G:∀b∈fp,∃o,s.heap.get? b=some o/\∀v,o.data≠ .cell v):Inv X (pins++Om fp s.heap) σ H s:=
 I.pins_of fun p J=>(mem_append.mp J).elim (fun z=>I.pin p (mem_append_right _ z)) fun z=>by
  obtain⟨q,e⟩:=Yo z
  obtain⟨L,M,O,_⟩:=F p.1 q
  obtain⟨o,y,d⟩:=G p.1 q
  rw [e]at y;cases y
  exact⟨e,L,M,O,d⟩
theorem Inv.unpinned {pins d:List (Addr × Obj)}{σ:St}{H:Hp}{s:Shared} (I:Inv X (pins++d) σ H s):Inv X pins σ H s:=I.pins_of fun p q=>I.pin p (mem_append_right _ (mem_append_left _ q))
theorem Ab1 {iter:Expr}{U:List Stmt}{wi:TI}{g:TG}{tb:TS}{pos:Pos} (hp:PassesOwn (model X.prog X.w) X.A X.env X.xe) (hc:X.calm=true) (hi:PI X tg iter wi) (hg:PG X tg g) (y:PSs X U tb)
 (hs:∀x,foldedSetIterable iter X.env x=pure x:=by intro _;rfl):PS X (.For tg iter U [] pos) (Ahn wi g tb):=by
 intro pins s σ H D I h
 refine wpAny_For (thn (hi pins s σ H _ I h) fun v s1 h1=>thn h1 fun a8 s2 h2=> ?_) hs
 obtain⟨it,fp,tn,J,H2,e,I2,T,a4,f2,W,⟨m0,w0⟩,a0⟩:=h2
 subst e
 have F:∀ {H':Hp},(∀b∈fp,H' b=none)->∀b∈fp,Nx X pins H' b:=fun hn b y=>⟨hn b y,(f2 b y).2⟩
 refine codeAny_forLoop_any (fun n s'=>∃i G H',Inv X pins G H' s'/\tn i s'.heap/\(∀b∈fp,H' b=none)/\W i n G H') ?_ m0 ⟨0,σ,H2,I2,a4,fun b y=>(f2 b y).1,w0⟩
 rintro n s3 ⟨i,L,H3,I3,a1,a2,w3⟩
 rcases a0 i n L H3 w3 with⟨a3,qn⟩ | ⟨go,N,hN,step⟩
 . refine wpAny_passesOwn hp (thn (T.done X rfl rfl rfl hc i pins s3 L H3 X.xe I3 (F a2) a1 a3) fun r s4 ⟨hr,I4⟩=> ?_)
   subst hr
   exact wpAny_execs_nil ⟨L,H3,I4,qn⟩
 . refine wpAny_passesOwn hp (thn (T.item X rfl rfl rfl hc i pins s3 L H3 X.xe I3 (F a2) a1 go) fun r s4 ⟨u,hr,h4⟩=> ?_)
   subst hr
   refine wpAny_passesOwn hp (thn h4 fun _ s5 ⟨x,H5,I5,r5,y5,Z,a5⟩=> ?_)
   have a6:=I5.pinned (F a5) (T.obj _ _ Z)
   refine wpAny_passesOwn hp (thn (hg _ s5 L H5 x u _ a6 r5 (step x H5 y5)) fun _ s6 ⟨a7,H6,I6,q6⟩=> ?_)
   refine wpAny_passesOwn hp (thn (y _ s6 a7 H6 _ I6 q6) fun f s7 Y=> ?_)
   have again:∀ {q:St}{M:Hp},Inv X (pins++Om fp s5.heap) q M s7->N q M->∃m,m<n/\∃i G H',Inv X pins G H' s7/\tn i s7.heap/\(∀b∈fp,H' b=none)/\W i m G H':=fun {q M} O n7=>by
    obtain⟨m',hm,w7⟩:=hN q M n7
    refine⟨m',hm,i+1,q,M,O.unpinned,T.keep _ _ _ Z fun b y o e=>(O.pin (b,o) (mem_append_right _ (mem_append_right _ (Ew y e)))).1,fun b y=> ?_,w7⟩
    obtain⟨o,e,d⟩:=T.obj _ _ Z b y
    exact(O.pin (b,o) (mem_append_right _ (mem_append_right _ (Ew y e)))).2.1
   cases f with
   | next=>obtain⟨q,M,O,n7⟩:=Y;exact again O n7
   | cont=>obtain⟨q,M,O,n7⟩:=Y;exact again O n7
   | brk=>obtain⟨q,M,O,Y⟩:=Y;exact⟨q,M,O.unpinned,Y⟩
   | ret v=>obtain⟨x7,q,M,O,r7,Y⟩:=Y;exact⟨x7,q,M,O.unpinned,r7,Y⟩
end
theorem V4 {c:TT}{tb:TS}{D:Ends}{σ:St}{H:Hp} (y:St->Hp->Prop) (F:St->Hp->Nat) (I:y σ H)
 (J:∀σ H,y σ H->c σ H fun b H1=>if b=true then tb { D with nx:=fun d H'=>y d H'/\F d H'<F σ H,ct:=fun d H'=>y d H'/\F d H'<F σ H,bk:=D.nx} σ H1 else D.nx σ H1)
 (mono:∀σ H Q G,(∀b H1,Q b H1->G b H1)->c σ H Q->c σ H G):Zr c tb D σ H:=by
 refine⟨fun m σ H=>m=F σ H/\y σ H,⟨_,rfl,I⟩,?_⟩
 rintro m σ H ⟨rfl,p⟩
 refine mono σ H _ _ (fun b H1 q=> ?_) (J σ H p)
 cases b with
 | true=>exact⟨_,fun d H' ⟨L,l⟩=>⟨_,l,rfl,L⟩,q⟩
 | false=>exact q
end L2
namespace L2
open PySem PySem.Spec PyProof.Rows
abbrev R2:=V->V->Hp->VK->Prop
def OpR (X:Cx) (f:Value->Value->Sem Value) (r:R2):Prop:=
 ∀(pins:List (Addr × Obj)) (s:Shared) (σ:St) (H:Hp) (x y:V) (v u:Value) (Q:VK),Inv X pins σ H s->RelV x v->RelV y u->r x y H Q->
   wpAny (model X.prog X.w) X.A (f v u) (EP X pins σ Q) X.xe s
def UnR (X:Cx) (f:Value->Sem Value) (r:V->Hp->VK->Prop):Prop:=
 ∀(pins:List (Addr × Obj)) (s:Shared) (σ:St) (H:Hp) (x:V) (v:Value) (Q:VK),Inv X pins σ H s->RelV x v->r x H Q->
   wpAny (model X.prog X.w) X.A (f v) (EP X pins σ Q) X.xe s
def Gq (X:Cx) (f:Value) (r:List V->Hp->VK->Prop):Prop:=
 ∀(pins:List (Addr × Obj)) (s:Shared) (σ:St) (H:Hp) (xs:List V) (us:List Value) (Q:VK),Inv X pins σ H s->Vals xs us->r xs H Q->
   wpAny (model X.prog X.w) X.A (call f us) (EP X pins σ Q) X.xe s
def tOp (r:R2) (ta tb:TE):TE:=fun σ H Q=>ta σ H fun x H1=>tb σ H1 fun y H2=>r x y H2 Q
def tUn (r:V->Hp->VK->Prop) (ta:TE):TE:=fun σ H Q=>ta σ H fun x H1=>r x H1 Q
def rI (C:Int->Int->Prop) (g:Int->Int->V):R2:=fun x y H Q=>∃i j,x= .int i/\y= .int j/\C i j/\Q (g i j) H
def rI0 (g:Int->Int->V):R2:=fun x y H Q=>∃i j,x= .int i/\y= .int j/\Q (g i j) H
def rU (g:Int->V):V->Hp->VK->Prop:=fun x H Q=>∃i,x= .int i/\Q (g i) H
section
variable {X:Cx}{a b c:Expr}{ta tb tc:TE}{pos:Pos}
theorem Agw (G:PE X a ta) (J:PE X b tb) {pins:List (Addr × Obj)}{s:Shared}{σ:St}{H:Hp}{R:V->V->Hp->Prop} (I:Inv X pins σ H s)
 (h:ta σ H fun x H1=>tb σ H1 fun y H2=>R x y H2) {Q:Value->Shared->Prop}{f:Value->Value->Sem Value}
 (L:∀v u F x y H2,Inv X pins σ H2 F->RelV x v->RelV y u->R x y H2->wpAny (model X.prog X.w) X.A (f v u) Q X.xe F):
 wpAny (model X.prog X.w) X.A (eval a X.env) (fun v d=>wpAny (model X.prog X.w) X.A (eval b X.env) (fun u q=>wpAny (model X.prog X.w) X.A (f v u) Q X.xe q) X.xe d) X.xe s:=by
 refine thn (G pins s σ H _ I h) fun v M ⟨x,H1,O,U,W⟩=> ?_
 refine thn (J pins M σ H1 _ O W) fun u F ⟨y,H2,Y,Z,q2⟩=> ?_
 exact L v u F x y H2 Y U Z q2
theorem Ag8 {d:Operator}{r:R2} (F:OpR X (binaryOp d) r) (G:PE X a ta) (J:PE X b tb):PE X (.BinOp a d b pos) (tOp r ta tb):=by
 intro pins s σ H Q I h
 exact wpAny_BinOp (Agw G J I h fun v u L x y H2 M O U q=>F pins L σ H2 x y v u Q M O U q)
theorem Aha {d:UnaryOp}{r:V->Hp->VK->Prop} (q:UnR X (unaryOp d) r) (y:PE X a ta):PE X (.UnaryOp d a pos) (tUn r ta):=by
 intro pins s σ H Q I h
 exact UnaryOp_ (thn (y pins s σ H _ I h) fun v F ⟨x,H1,G,J,L⟩=>q pins F σ H1 x v Q G J L)
theorem opI {f:Value->Value->Sem Value}{C:Int->Int->Prop}{g:Int->Int->Int}
 (d:∀(i j:Int) (t u:Tok) (s:Shared) (Q:Value->Shared->Prop) (E:Value->Shared->Prop),C i j->Q (.int (g i j) s.toks) { s with toks:=s.toks+1}->wpAny (model X.prog X.w) X.A (f (.int i t) (.int j u)) Q E s):
 OpR X f (rI C fun i j=> .int (g i j)):=by
 intro pins s σ H x y v u Q I F G h
 obtain⟨i,j,rfl,rfl,J,q⟩:=h
 obtain⟨t,rfl⟩:=F
 obtain⟨L,rfl⟩:=G
 exact d i j t L s _ _ J ⟨.int (g i j),H,I.tok _,⟨_,rfl⟩,q⟩
theorem Ait {f:Value->Value->Sem Value}{g:Int->Int->Int}
 (d:∀(i j:Int) (t u:Tok) (s:Shared) (Q:Value->Shared->Prop) (E:Value->Shared->Prop),Q (.int (g i j) s.toks) { s with toks:=s.toks+1}->wpAny (model X.prog X.w) X.A (f (.int i t) (.int j u)) Q E s):
 OpR X f (rI0 fun i j=> .int (g i j)):=by
 intro pins s σ H x y v u Q I F G h
 obtain⟨i,j,rfl,rfl,q⟩:=h
 obtain⟨t,rfl⟩:=F
 obtain⟨J,rfl⟩:=G
 exact d i j t J s _ _ ⟨.int (g i j),H,I.tok _,⟨_,rfl⟩,q⟩
theorem Agn {f:Value->Value->Sem Value}{g:Int->Int->Bool}
 (d:∀(i j:Int) (t u:Tok) (s:Shared) (Q:Value->Shared->Prop) (E:Value->Shared->Prop),Q (.bool (g i j)) s->wpAny (model X.prog X.w) X.A (f (.int i t) (.int j u)) Q E s):
 OpR X f (rI0 fun i j=> .bl (g i j)):=by
 intro pins s σ H x y v u Q I F G h
 obtain⟨i,j,rfl,rfl,q⟩:=h
 obtain⟨t,rfl⟩:=F
 obtain⟨J,rfl⟩:=G
 exact d i j t J s _ _ ⟨.bl (g i j),H,I,rfl,q⟩
def Ain (i j:Int):Prop:=0<=j/\j<=1000000/\i.natAbs<2^64
def Aim (i j:Int):Prop:=(-(2^64)<i/\i<2^64)\/(-(2^64)<j/\j<2^64)
theorem Aim.ok {i j:Int} (h:Aim i j):IntMulOk i j:=by
 rcases h with⟨h1,h2⟩ | ⟨h1,h2⟩
 . exact .of_left (intBits_le_64 h1 h2)
 . exact .of_right (intBits_le_64 h1 h2)
theorem Fi:OpR X (binaryOp .Add) (rI0 fun i j=> .int (i+j)):=Ait fun _ _ _ _ _ _ _ q=>add_int q
theorem M4:OpR X (binaryOp .Sub) (rI0 fun i j=> .int (i-j)):=Ait fun _ _ _ _ _ _ _ q=>sub_int q
theorem Iw:OpR X (binaryOp .Mod) (rI (fun _ j=>0<j) fun i j=> .int (i%j)):=opI fun i j _ _ _ _ _ d q=>by
 have h1:(0:Int)<j:=d
 exact mod_int' (by omega) (by rw [Int.fmod_eq_emod_of_nonneg i (by omega)];exact q)
theorem Yw:OpR X (binaryOp .Pow) (rI Ain fun i j=> .int (i^j.toNat)):=opI fun _ _ _ _ _ _ _ d q=>pow_int_small d.1 d.2.1 d.2.2 q
theorem unI {f:Value->Sem Value}{g:Int->Int}
 (d:∀(i:Int) (t:Tok) (s:Shared) (Q:Value->Shared->Prop) (E:Value->Shared->Prop),Q (.int (g i) s.toks) { s with toks:=s.toks+1}->wpAny (model X.prog X.w) X.A (f (.int i t)) Q E s):
 UnR X f (rU fun i=> .int (g i)):=by
 intro pins s σ H x v Q I y h
 obtain⟨i,rfl,q⟩:=h
 obtain⟨t,rfl⟩:=y
 exact d i t s _ _ ⟨.int (g i),H,I.tok _,⟨_,rfl⟩,q⟩
theorem Zv:UnR X (unaryOp .USub) (rU fun i=> .int (-i)):=unI fun _ _ _ _ _ q=>neg_int q
end
def Ad4:V->V->Bool
 | .non,.non=>true | .non,.int _=>true | .int _,.non=>true | .non,.bl _=>true | .bl _,.non=>true | .non,.str _=>true | .str _,.non=>true
 | .int _,.int _=>true | .bl _,.bl _=>true | .str _,.str _=>true | .byt _,.byt _=>true
 | .int _,.str _=>true | .str _,.int _=>true | .bl _,.str _=>true | .str _,.bl _=>true
 | _,_=>false
def rEq:R2:=fun x y H Q=>Ad4 x y=true/\Q (.bl (decide (x=y))) H
def rNe:R2:=fun x y H Q=>Ad4 x y=true/\Q (.bl (!decide (x=y))) H
theorem Xz {i j:Int}:decide (V.int i=V.int j)=(i==j):=by
 rw [Bool.eq_iff_iff]
 simp
theorem Abp {i j:Bool}:decide (V.bl i=V.bl j)=(i==j):=by
 rw [Bool.eq_iff_iff]
 simp
theorem X3 {i j:Str}:decide (V.str i=V.str j)=(i==j):=by
 rw [Bool.eq_iff_iff]
 simp
theorem Xy {i j:Array UInt8}:decide (V.byt i=V.byt j)=(i.toList==j.toList):=by
 rw [Bool.eq_iff_iff]
 cases i
 cases j
 simp
section
variable {X:Cx}{a b c:Expr}{ta tb tc:TE}{pos:Pos}
theorem Cw {pins:List (Addr × Obj)}{σ:St}{H:Hp}{s:Shared}{Q:VK}{k d:Bool} (I:Inv X pins σ H s) (q:Q (.bl k) H) (e:k=d):EP X pins σ Q (.bool d) s:=by
 subst e
 exact⟨.bl k,H,I,rfl,q⟩
theorem Gf:OpR X (compareOp .Eq) rEq:=by
 intro pins s σ H x y v u Q I J d h
 obtain⟨G,q⟩:=h
 cases x with
 | non=>
   cases J
   cases y with
   | non=>cases d;exact PySem.EqNone.eq_none_none (Cw I q (by simp))
   | bl j=>cases d;exact PySem.EqNone.eq_none_bool (Cw I q (by simp))
   | int j=>obtain⟨F,rfl⟩:=d;exact PySem.EqNone.eq_none_int (Cw I q (by simp))
   | str j=>obtain⟨F,rfl⟩:=d;exact PySem.EqNone.eq_none_str (Cw I q (by simp))
   | _=>exact absurd (show false=true from G) Bool.false_ne_true
 | bl i=>
   cases J
   cases y with
   | non=>cases d;exact PySem.EqNone.eq_bool_none (Cw I q (by simp))
   | bl j=>cases d;exact eq_bool (Cw I q Abp)
   | str j=>obtain⟨F,rfl⟩:=d;exact PySem.EqMixed.eq_bool_str (Cw I q (by simp))
   | _=>exact absurd (show false=true from G) Bool.false_ne_true
 | int i=>
   obtain⟨t,rfl⟩:=J
   cases y with
   | non=>cases d;exact PySem.EqNone.eq_int_none (Cw I q (by simp))
   | int j=>obtain⟨F,rfl⟩:=d;exact eq_int (Cw I q Xz)
   | str j=>obtain⟨F,rfl⟩:=d;exact PySem.EqMixed.eq_int_str (Cw I q (by simp))
   | _=>exact absurd (show false=true from G) Bool.false_ne_true
 | str i=>
   obtain⟨t,rfl⟩:=J
   cases y with
   | non=>cases d;exact PySem.EqNone.eq_str_none (Cw I q (by simp))
   | bl j=>cases d;exact PySem.EqMixed.eq_str_bool (Cw I q (by simp))
   | int j=>obtain⟨F,rfl⟩:=d;exact PySem.EqMixed.eq_str_int (Cw I q (by simp))
   | str j=>obtain⟨F,rfl⟩:=d;exact eq_str (Cw I q X3)
   | _=>exact absurd (show false=true from G) Bool.false_ne_true
 | byt i=>
   obtain⟨t,rfl⟩:=J
   cases y with
   | byt j=>obtain⟨F,rfl⟩:=d;exact PySem.W.eq_bytes (Cw I q Xy)
   | _=>exact absurd (show false=true from G) Bool.false_ne_true
 | _=>cases y<;>exact absurd (show false=true from G) Bool.false_ne_true
theorem Rp:OpR X (compareOp .NotEq) rNe:=by
 intro pins s σ H x y v u Q I J d h
 obtain⟨G,q⟩:=h
 cases x with
 | non=>
   cases J
   cases y with
   | non=>cases d;exact PySem.EqNone.ne_none_none (Cw I q (by simp))
   | bl j=>cases d;exact PySem.EqNone.ne_none_bool (Cw I q (by simp))
   | int j=>obtain⟨F,rfl⟩:=d;exact PySem.EqNone.ne_none_int (Cw I q (by simp))
   | str j=>obtain⟨F,rfl⟩:=d;exact PySem.EqNone.ne_none_str (Cw I q (by simp))
   | _=>exact absurd (show false=true from G) Bool.false_ne_true
 | bl i=>
   cases J
   cases y with
   | non=>cases d;exact PySem.EqNone.ne_bool_none (Cw I q (by simp))
   | bl j=>cases d;exact ne_bool (Cw I q (congrArg not Abp))
   | str j=>obtain⟨F,rfl⟩:=d;exact PySem.EqMixed.ne_bool_str (Cw I q (by simp))
   | _=>exact absurd (show false=true from G) Bool.false_ne_true
 | int i=>
   obtain⟨t,rfl⟩:=J
   cases y with
   | non=>cases d;exact PySem.EqNone.ne_int_none (Cw I q (by simp))
   | int j=>obtain⟨F,rfl⟩:=d;exact ne_int (Cw I q (congrArg not Xz))
   | str j=>obtain⟨F,rfl⟩:=d;exact PySem.EqMixed.ne_int_str (Cw I q (by simp))
   | _=>exact absurd (show false=true from G) Bool.false_ne_true
 | str i=>
   obtain⟨t,rfl⟩:=J
   cases y with
   | non=>cases d;exact PySem.EqNone.ne_str_none (Cw I q (by simp))
   | bl j=>cases d;exact PySem.EqMixed.ne_str_bool (Cw I q (by simp))
   | int j=>obtain⟨F,rfl⟩:=d;exact PySem.EqMixed.ne_str_int (Cw I q (by simp))
   | str j=>obtain⟨F,rfl⟩:=d;exact ne_str (Cw I q (congrArg not X3))
   | _=>exact absurd (show false=true from G) Bool.false_ne_true
 | byt i=>
   obtain⟨t,rfl⟩:=J
   cases y with
   | byt j=>obtain⟨F,rfl⟩:=d;exact PySem.W.ne_bytes (Cw I q (congrArg not Xy))
   | _=>exact absurd (show false=true from G) Bool.false_ne_true
 | _=>cases y<;>exact absurd (show false=true from G) Bool.false_ne_true
theorem Yv:OpR X (compareOp .Lt) (rI0 fun i j=> .bl (decide (i<j))):=Agn fun _ _ _ _ _ _ _ q=>lt_int q
theorem Ae5:OpR X (compareOp .LtE) (rI0 fun i j=> .bl (decide (i<=j))):=Agn fun _ _ _ _ _ _ _ q=>le_int q
theorem Ac2:OpR X (compareOp .Gt) (rI0 fun i j=> .bl (decide (j<i))):=Agn fun _ _ _ _ _ _ _ q=>gt_int q
theorem Ac1:OpR X (compareOp .GtE) (rI0 fun i j=> .bl (decide (j<=i))):=Agn fun _ _ _ _ _ _ _ q=>ge_int q
theorem Bl (b:Expr) {d:CmpOp} (h:d≠ .In:=by decide) (h2:d≠ .NotIn:=by decide):behindInMarks d b=false:=by
 have q:(d==CmpOp.In)=false:=by cases d<;>first | rfl | exact absurd rfl h
 have y:(d==CmpOp.NotIn)=false:=by cases d<;>first | rfl | exact absurd rfl h2
 cases b<;>simp [behindInMarks,q,y]
theorem Ac6 {d:CmpOp}{r:R2} (F:OpR X (compareOp d) r) (G:PE X a ta) (J:PE X b tb) (L:behindInMarks d b=false):PE X (.Compare a [d] [b] pos) (tOp r ta tb):=by
 intro pins s σ H Q I h
 exact wpAny_Compare1 (Agw G J I h fun v u M x y H2 O U W q=>F pins M σ H2 x y v u Q O U W q) L
def Zq (t:TE):TT:=fun σ H Q=>t σ H fun x H'=>∃k,x= .bl k/\Q k H'
theorem Adc {d:CmpOp}{r:R2} (q:OpR X (compareOp d) r) (F:PE X a ta) (G:PE X b tb) (J:behindInMarks d b=false):PT X (.Compare a [d] [b] pos) (Zq (tOp r ta tb)):=by
 intro pins s σ H Q I h
 refine wpAny_isTrue_Compare1 (thn (F pins s σ H _ I h) fun v L ⟨x,H1,M,O,U⟩=>thn (G pins L σ H1 _ M U) fun u W ⟨y,H2,Y,Z,q2⟩=>
  thn (q pins W σ H2 x y v u _ Y O Z q2) fun c s3 ⟨z,H3,I3,r3,k,e,q3⟩=> ?_) J
 subst e
 cases r3
 exact wpAny_truthy_bool ⟨H3,I3,q3⟩
def Zn (r r':R2) (ta tb tc:TE):TE:=fun σ H Q=>ta σ H fun x H1=>tb σ H1 fun y H2=>r x y H2 fun z H3=>∃k,z= .bl k/\
 (if k=true then tc σ H3 fun w' H4=>r' y w' H4 Q else Q (.bl false) H3)
theorem Vs {F q:CmpOp}{r J:R2} (W:OpR X (compareOp F) r) (G:OpR X (compareOp q) J) (Y:PE X a ta) (Z:PE X b tb) (hc:PE X c tc)
 (hm:lastMarks [F,q] [b,c]=false:=by with_unfolding_all rfl):PT X (.Compare a [F,q] [b,c] pos) (Zq (Zn r J ta tb tc)):=by
 intro pins s σ H Q I h
 refine isTrue_chain (thn (Y pins s σ H _ I h) fun v s1 ⟨x,H1,I1,r1,q1⟩=>test_link (thn (Z pins s1 σ H1 _ I1 q1) fun u s2 ⟨y,H2,I2,L,q2⟩=>
  thn (W pins s2 σ H2 x y v u _ I2 r1 L q2) fun d s3 ⟨z,M,O,r3,k,e,U⟩=> ?_)) hm
 subst e
 cases r3
 refine wpAny_truthy_bool ?_
 cases k with
 | false=>
   obtain⟨k',e',q'⟩:=U
   cases e'
   exact ite_ff ⟨M,O,q'⟩
 | true=>
   refine ite_tt (test_last (thn (hc pins s3 σ M _ O U) fun w' s4 ⟨z',H4,I4,r4,q4⟩=>thn (G pins s4 σ H4 y z' u w' _ I4 L r4 q4) fun d' s5 ⟨z2,H5,I5,r5,k2,e2,q5⟩=> ?_))
   subst e2
   cases r5
   exact wpAny_truthy_bool ⟨H5,I5,q5⟩
theorem Vh:(sizeLine:Nat)<2^63:=by rw [sizeLine_eq];decide
theorem vals1 {x:V}{d:List Value} (r:Vals [x] d):∃u,d=[u]/\RelV x u:=by
 cases r with
 | cons q y=>cases y;exact⟨_,rfl,q⟩
theorem vals2 {x y:V}{d:List Value} (r:Vals [x,y] d):∃u q,d=[u,q]/\RelV x u/\RelV y q:=by
 cases r with
 | cons F G=>
   cases G with
   | cons I J=>cases J;exact⟨_,_,rfl,F,I⟩
theorem Pa:Gq X (.builtin "abs") (fun xs H Q=>∃i,xs=[.int i]/\Q (.int (if i<0 then-i else i)) H):=by
 intro pins s σ H xs d Q I r h
 obtain⟨i,rfl,q⟩:=h
 obtain⟨u,rfl,t,rfl⟩:=vals1 r
 exact call_abs_int fun u tk=>⟨.int (if i<0 then-i else i),H,I.tok _,⟨_,rfl⟩,q⟩
theorem Xm:Gq X (.type "int") (fun xs H Q=>(∃i,xs=[.int i]/\Q (.int i) H)\/∃k,xs=[.bl k]/\Q (.int (if k then 1 else 0)) H):=by
 intro pins s σ H xs y Q I r h
 rcases h with⟨i,rfl,q⟩ | ⟨k,rfl,q⟩
 . obtain⟨u,rfl,t,rfl⟩:=vals1 r
   exact call_int_int ⟨.int i,H,I,⟨_,rfl⟩,q⟩
 . obtain⟨u,rfl,d⟩:=vals1 r
   cases d
   exact call_int_bool ⟨.int (if k then 1 else 0),H,I.tok _,⟨_,rfl⟩,q⟩
end
end L2
namespace L2
open PySem PySem.Spec PyProof.Rows
structure Ags (h:Heap) (x dx C:Addr) (mA:Str->Option Value):Prop where
 obj:h.get? x=some (instObj C dx)
 ns:h.Ns1 dx mA
 ne:dx≠x
theorem Yl {h:Heap}{dx:Addr}{F:Str->Option Value} (n:h.Ns1 dx F):∃G,h.get? dx=some G/\∀name,lookIn name G=some (F name):=by
 obtain⟨o,es,ep,I,J,L,_,M⟩:=n
 refine⟨o,I,fun name=> ?_⟩
 have e:=M name
 unfold nsFind findBy at e
 rw [<-Array.find?_toList]at e
 unfold lookIn
 rw [J]
 dsimp only
 split
 . rename_i y q
   rw [q]at e
   exact congrArg some e
 . rename_i q
   rw [q]at e
   have a:es.toList.any (·.refKey)=false:=by
    rw [List.any_eq_false]
    intro y O
    obtain⟨z,t,d⟩:=L y (Array.mem_toList_iff.mp O)
    simp [DictEntry.refKey,d]
   have U:¬es.toList.any (·.refKey)=true:=by rw [a];exact Bool.false_ne_true
   rw [if_neg U]
   exact congrArg some e
theorem Ags.look {h:Heap}{x dx C:Addr}{q:Str->Option Value} (I:Ags h x dx C q):∃d,InstAt h x (instObj C dx) C (some d)/\∀name,lookIn name d=some (q name):=
 let ⟨d,ho,hl⟩:=Yl I.ns
 ⟨d,⟨I.obj,rfl,rfl,ho⟩,hl⟩
section
variable {P:Program}{w:World}{H H':Hp}{h h':Heap}{a C dx:Addr}{fs fs':List (Str × V)}
theorem Acs (F:HOk P w H h) (e:H a=some (.ins C dx fs)):∃y,Ags h a dx C y/\(∀f,Z6 (fs.lookup f) (y f))/\PySem.Within y (fs.map (·.1))/\fs.length<=1000/\H dx=some (.own a):=by
 obtain⟨d,z,ne,G,y,n,r,q⟩:=(show Fy P w H h a (.ins C dx fs)from F a _ e)
 exact⟨y,⟨G,n,ne⟩,r,q,z,d⟩
end
structure Cls (K:Frag) (C:Addr):Prop where
 pg:plainGet K C Str.empty=true
 hd:PySem.W.hasDictIn K C=true
 po:PySem.W.plainOver K C=true
 sa:findIn K (.ref C) "__setattr__"=some (some (.builtin "object.__setattr__"))
theorem Cls.get {K:Frag}{C:Addr} (c:Cls K C) (f:Str):plainGet K C f=true:=c.pg
structure Con (K:Frag) (C:Addr) (f:Str) (v:V) (u:Value):Prop where
 at_:findIn K (.ref C) f=some (some u)
 rel:RelV v u
 get:specialIn K u "__get__"=some none
 cp:PySem.W.copiedNames.contains f=false
structure Meth (K:Frag) (C:Addr) (m:Str) (f:Addr):Prop where
 at_:findIn K (.ref C) m=some (some (.ref f))
 fn:isFn K (.ref f)=true
 kp:keepIn K (.ref f)=true
section
variable {X:Cx}{pins:List (Addr × Obj)}{σ:St}{H:Hp}{s:Shared}{a C dx:Addr}{fs:List (Str × V)}{f:Str}{v:V}{A:Around}{E:Value->Shared->Prop}
theorem Inv.made (I:Inv X pins σ H s):Inv X pins σ (upd (upd H s.heap.objs.size (.own (s.heap.objs.size+1))) (s.heap.objs.size+1) (.ins C s.heap.objs.size []))
 { s with heap:=(s.heap.push emptyDict).push (instObj C s.heap.objs.size)}:=by
 have d:(s.heap.push emptyDict).get? s.heap.objs.size=some emptyDict:=Heap.get?_push_size s.heap rfl
 have F:((s.heap.push emptyDict).push (instObj C s.heap.objs.size)).get? (s.heap.objs.size+1)=some (instObj C s.heap.objs.size):=by
  have:=Heap.get?_push_size (s.heap.push emptyDict) (o:=instObj C s.heap.objs.size) rfl
  rwa [Heap.size_push]at this
 have G:(s.heap.push emptyDict).Ns s.heap.objs.size (fun _=>none):=⟨emptyDict,#[],_,d,rfl,(fun e J=>absurd J (by simp)),fun _=>rfl⟩
 have L:=I.laid (a:=s.heap.objs.size) (o:= .own (s.heap.objs.size+1)) (h':=s.heap.push emptyDict) (t':=s.toks) (fun b u q=>Heap.get?_push_of_some _ q) (le_refl _) ⟨_,d⟩
 refine L.laid (a:=s.heap.objs.size+1) (o:= .ins C s.heap.objs.size []) (t':=s.toks) (fun b u q=>Heap.get?_push_of_some _ q) (le_of_eq (Heap.size_push _ _)) ?_
 have ne:s.heap.objs.size≠s.heap.objs.size+1:=ne_of_lt (lt_succ_self _)
 refine⟨by rw [Bs ne,Ag],zero_le _,ne,F,fun _=>none,(Heap.Ns1.of_empty G).at fun o q=>Heap.get?_push_of_some _ q,fun _=>True.intro,fun y M=>absurd rfl M⟩
end
section
variable {X:Cx}{pins:List (Addr × Obj)}{σ:St}{H:Hp}{s:Shared}{A:Around}{E:Value->Shared->Prop}{Q:Value->Shared->Prop}{c:Value}{b:Bool}
inductive Qy (K:Frag) (H:Hp):V->Value->Prop where
 | non:Qy K H .non (.type "NoneType")
 | bl (x:Bool):Qy K H (.bl x) (.type "bool")
 | int (i:Int):Qy K H (.int i) (.type "int")
 | str (x:Str):Qy K H (.str x) (.type "str")
 | flt (x:UInt64):Qy K H (.flt x) (.type "float")
 | lst {a:Addr}{xs:List V} (e:H a=some (.lst xs)):Qy K H (.ref a) (.type "list")
 | frz {a:Addr}{o:Obj}{xs:List V} (e:H a=some (.frz o (.lst xs))):Qy K H (.ref a) (.type "list")
 | tup {a:Addr}{xs:List V} (e:H a=some (.tup xs)):Qy K H (.ref a) (.type "tuple")
 | dK {a:Addr}{kvs:List (Key × V)} (e:H a=some (.dK kvs)):Qy K H (.ref a) (.type "dict")
 | dT {a:Addr}{kvs:List (List Key × V)} (e:H a=some (.dT kvs)):Qy K H (.ref a) (.type "dict")
 | ins {a C dx:Addr}{fs:List (Str × V)} (e:H a=some (.ins C dx fs)) (cl:Cls K C) (ha:findIn K (.ref C) "__class__"=some (some (.builtin "object.__class__")))
    (hn:specialIn K (.builtin "object.__class__") "__get__"=some (some (.builtin "getset_descriptor.__get__"))) (htk:PySem.W.takesIn K (.builtin "object.__class__")=some true)
    (hm:mroIn K C (.type "object")=some true):Qy K H (.ref a) (.ref C)
theorem Yg {x:V}{u t:Value} (I:Inv X pins σ H s) (d:RelV x u) (U:Qy X.K H x t) (e:kitOne X.K t c=some b) (h:∀tk,Q (.bool b) { s with toks:=tk}):
 wpAny (model X.prog X.w) A (call (.builtin "isinstance") [u,c]) Q E s:=by
 cases U with
 | non=>cases(show u=Value.none from d);exact kia_one PySem.W.kitx_none I.kIn True.intro e (fun z=>nomatch z) h
 | bl y=>cases(show u=Value.bool y from d);exact kia_one PySem.W.kitx_bool I.kIn True.intro e (fun z=>nomatch z) h
 | int i=>obtain⟨t,q⟩:=(show ∃t,u=Value.int i t from d);cases q;exact kia_one PySem.W.kitx_int I.kIn True.intro e (fun z=>nomatch z) h
 | str y=>obtain⟨t,q⟩:=(show ∃t,u=Value.str y t from d);cases q;exact kia_one PySem.W.kitx_str I.kIn True.intro e (fun z=>nomatch z) h
 | flt y=>obtain⟨t,q⟩:=(show ∃t,u=Value.float y t from d);cases q;exact kia_one PySem.W.kitx_float I.kIn True.intro e (fun z=>nomatch z) h
 | @lst a xs F=>
   cases(show u=Value.ref a from d)
   obtain⟨_,_,n,_,h1⟩:=(show Fy X.prog X.w H s.heap a (.lst xs)from I.hok a _ F)
   exact kia_one kitx_list I.kIn ⟨_,h1,rfl⟩ e (fun z=>nomatch z) h
 | @frz a Y xs F=>
   cases(show u=Value.ref a from d)
   obtain⟨_,_,_,n,_,h1⟩:=(show Fy X.prog X.w H s.heap a (.frz Y (.lst xs))from I.hok a _ F)
   exact kia_one kitx_list I.kIn ⟨_,h1,rfl⟩ e (fun z=>nomatch z) h
 | @tup a xs F=>
   cases(show u=Value.ref a from d)
   obtain⟨_,_,_,p⟩:=(show Fy X.prog X.w H s.heap a (.tup xs)from I.hok a _ F)
   obtain⟨o,h1,h2,_⟩:=p
   exact kia_one kitx_tuple I.kIn ⟨o,h1,h2⟩ e (fun z=>nomatch z) h
 | @dK a G F=>
   cases(show u=Value.ref a from d)
   obtain⟨_,_,vs,_,p⟩:=(show Fy X.prog X.w H s.heap a (.dK G)from I.hok a _ F)
   obtain⟨o,es,ep,h1,h2,_⟩:=p
   exact kia_one kitx_dict I.kIn ⟨o,h1,h2.1⟩ e (fun z=>nomatch z) h
 | @dT a G F=>
   cases(show u=Value.ref a from d)
   obtain⟨_,_,xs,_,o,es,ep,h1,h2,_⟩:=(show Fy X.prog X.w H s.heap a (.dT G)from I.hok a _ F)
   exact kia_one kitx_dict I.kIn ⟨o,h1,h2.1⟩ e (fun z=>nomatch z) h
 | @ins a C dx fs F M Z hn L hm=>
   cases(show u=Value.ref a from d)
   obtain⟨mA,O,_⟩:=Acs I.hok F
   obtain⟨od,J,_⟩:=O.look
   exact kia_one (PySem.W.kitx_own (M.get _) M.hd Z hn L hm) I.kIn J e (fun z=>nomatch z) h
end
end L2
namespace L2
open PySem PySem.Spec PyProof.Rows
structure J8 (k:Nat) (A:Around):Prop where
 hd:A.handled=none
 dp:A.depth+3*k+5<recursionLimit
 un:A.units+16*k+200<cLine
theorem J8.mono {j k:Nat}{A:Around} (r:J8 k A) (h:j<=k):J8 j A:=⟨r.hd,by have:=r.dp;omega,by have:=r.un;omega⟩
theorem J8.deeper {k:Nat}{A:Around} (r:J8 (k+1) A) (env:Env):J8 k (A.deeper env):=
 ⟨r.hd,by have:=r.dp;show A.depth+1+3*k+5<_;omega,by have:=r.un;show A.units+3+16*k+200<_;omega⟩
theorem J8.in1 {k:Nat}{A:Around} (r:J8 (k+1) A):J8 k A.in1:=
 ⟨r.hd,by have:=r.dp;show A.depth+3*k+5<_;omega,by have:=r.un;show A.units+1+16*k+200<_;omega⟩
theorem J8.depth {k:Nat}{A:Around} (r:J8 k A):A.depth<recursionLimit:=by have:=r.dp;omega
theorem J8.units {k:Nat}{A:Around} (r:J8 k A):A.units+64<cLine:=by have:=r.un;omega
def Aca:TA:=fun _ H Q=>Q [] H
def Lg (ta:TE) (tr:TA):TA:=fun σ H Q=>ta σ H fun x H1=>tr σ H1 fun xs H2=>Q (x::xs) H2
section
variable {X:Cx}{e:Expr}{es:List Expr}{te:TE}{t:TA}{pos:Pos}
theorem Ae6:PA X [] Aca:=fun _ _ _ _ H Q I h=>Calls.spliced_nil ⟨[],H,I,.nil,h⟩
theorem Ac4 (d:PE X e te) (q:PA X es t) (y:starEach (e::es) X.env=(false,eval e X.env)::starEach es X.env:=by rfl):PA X (e::es) (Lg te t):=by
 intro pos pins s σ H Q I h
 rw [y]
 show wpAny _ _ (spliced ((false,eval e X.env)::backTo pos (starEach es X.env))) _ _ s
 refine Calls.spliced_cons (thn (d pins s σ H _ I h) fun u F ⟨x,H1,G,J,L⟩=> ?_)
 exact thn (q pos pins F σ H1 _ G L) fun W Y ⟨xs,H2,M,O,U⟩=>⟨x::xs,H2,M,.cons J O,U⟩
def Ahu (t:TA):TE:=fun σ H Q=>t σ H fun xs H1=>xs.length<=sizeLine/\∀p,H1 p=none->Q (.ref p) (upd H1 p (.tup xs))
def Ahp (t:TA):TE:=fun σ H Q=>t σ H fun xs H1=>xs.length<=sizeLine/\∀p,H1 p=none->Q (.ref p) (upd H1 p (.lst xs))
theorem Afd {x1} (h:PA X es t):PE X (.Tuple es x1 pos) (Ahu t):=by
 intro pins s σ H Q I F
 refine wpAny_Tuple_spliced (thn (h pos pins s σ H _ I F) fun G d ⟨xs,H1,y,r,z,q⟩=>⟨by rw [<-r.length];exact z,?_⟩)
 have J:H1 d.heap.objs.size=none:=y.hok.fresh (le_refl _)
 refine⟨.ref d.heap.objs.size,upd H1 d.heap.objs.size (.tup xs),y.laid (t':=d.toks) (fun b u e=>Heap.get?_push_of_some _ e) (le_refl _) ?_,rfl,q _ J⟩
 exact⟨z,G,r,⟨_,Heap.get?_push_size _ rfl,rfl,_,rfl⟩⟩
theorem Ae9 (h:PA X es t):PE X (.List es pos) (Ahp t):=by
 intro pins s σ H Q I F
 refine wpAny_List_spliced (thn (h pos pins s σ H _ I F) fun G d ⟨xs,H1,y,r,z,q⟩=>⟨by rw [<-r.length];exact z,?_⟩)
 have J:H1 d.heap.objs.size=none:=y.hok.fresh (le_refl _)
 refine⟨.ref d.heap.objs.size,upd H1 d.heap.objs.size (.lst xs),y.laid (t':=d.toks) (fun b u e=>Heap.get?_push_of_some _ e) (le_refl _) ?_,rfl,q _ J⟩
 exact⟨z,G,0,r,Heap.get?_push_size _ rfl⟩
end
abbrev Sp:=List V->Hp->VK->XK->Prop
abbrev CXT:=List Env->Hp->Shared->XK->Value->Shared->Prop
structure Ace (P:Program) (w:World) (K:Frag) (mg:Str->Option Value) (base:Heap) (A:Around) (outer:List Env) (s:Shared) (H:Hp):Prop where
 frames:A.frames=some outer
 mod:Mod K mg base
 bs:∀b o,base.get? b=some o->s.heap.get? b=some o/\H b=none
 bsz:base.objs.size<=s.heap.objs.size
 funs:s.heap.FunFrames base outer
 frf:∀b∈frs outer,H b=none
 hok:HOk P w H s.heap
 bare:AllBare s.gens
def CE (outer:List Env) (P:Program) (w:World) (H:Hp) (s:Shared) (Q:VK) (u:Value) (s':Shared):Prop:=
 ∃v H',s'.os=s.os/\AllBare s'.gens/\Un (frs outer) [] H H' s.heap s'.heap/\HOk P w H' s'.heap/\RelV v u/\Q v H'
def CR (CX:CXT) (outer:List Env) (P:Program) (w:World) (H:Hp) (s:Shared) (Q:VK) (E:XK) (r:Result) (s':Shared):Prop:=
 match r with
 | .ok (.ret u)=>CE outer P w H s Q u s'
 | .ok _=>False
 | .error e=>CX outer H s E e s'
structure Ny (P:Program) (w:World) (K:Frag) (mg:Str->Option Value) (base:Heap) (CX:CXT) (k:Nat) (f:Addr) (fd:FuncData) (ps:List Str) (sp:Sp):Prop where
 len:∀vs H Q E,sp vs H Q E->vs.length=ps.length
 run:∀(A:Around) (outer:List Env) (s:Shared) (H:Hp) (args:Args) (us:List Value) (vs:List V) (Q:VK) (E:XK),J8 k A->Ace P w K mg base A outer s H->BindsTo s fd args (ps.zip us)->Vals vs us->sp vs H Q E->
  codeAny (model P w) A (.call (.ref f) args) (CR CX outer P w H s Q E) s
theorem Ny.mono {P:Program}{w:World}{K:Frag}{mg:Str->Option Value}{base:Heap}{CX:CXT}{j k:Nat}{f:Addr}{fd:FuncData}{ps:List Str}{sp:Sp} (F:Ny P w K mg base CX j f fd ps sp) (h:j<=k):
 Ny P w K mg base CX k f fd ps sp:=⟨F.len,fun A outer s H args d q Q E y=>F.run A outer s H args d q Q E (y.mono h)⟩
theorem Ny.imp {P:Program}{w:World}{K:Frag}{mg:Str->Option Value}{base:Heap}{CX:CXT}{k:Nat}{f:Addr}{fd:FuncData}{ps:List Str}{sp y:Sp} (F:Ny P w K mg base CX k f fd ps sp)
 (h:∀d H Q E,y d H Q E->sp d H Q E):Ny P w K mg base CX k f fd ps y:=
 ⟨fun d H Q E q=>F.len d H Q E (h _ _ _ _ q),fun A outer s H args G d Q E I J L M O=>F.run A outer s H args G d Q E I J L M (h _ _ _ _ O)⟩
theorem Ace.in1 {P:Program}{w:World}{K:Frag}{mg:Str->Option Value}{base:Heap}{A:Around}{outer:List Env}{s:Shared}{H:Hp} (e:Ace P w K mg base A outer s H):
 Ace P w K mg base A.in1 outer s H:=⟨e.frames,e.mod,e.bs,e.bsz,e.funs,e.frf,e.hok,e.bare⟩
section
variable {X:Cx}{pins:List (Addr × Obj)}{σ:St}{H:Hp}{s s':Shared}
theorem Inv.env0 (I:Inv X pins σ H s):Ace X.prog X.w X.K X.mg X.base X.A X.stack s H:=
 ⟨I.ok.frames,I.ok.mod,I.bs,le_trans I.ok.bsz I.sz,I.stack,I.stkFree,I.hok,I.bare⟩
theorem Inv.after {Q:VK}{u:Value} (I:Inv X pins σ H s) (h:CE X.stack X.prog X.w H s Q u s'):EP X pins σ Q u s':=by
 obtain⟨v,H',J,y,un,F,r,q⟩:=h
 obtain⟨L,g,d,t,G⟩:=s'
 obtain rfl:G=s.os:=J
 exact⟨v,H',I.call (h':=L) (g':=g) (d':=d) (t':=t) (ch:=[]) un F y (fun b z=>absurd z (by simp)),r,q⟩
end
def Lf (sp:Sp) (dvs:List V) (E:XK) (t:TA):TE:=fun σ H Q=>t σ H fun vs H1=>sp (vs++dvs) H1 Q E
def Binds (K:Frag) (fd:FuncData) (ps:List Str) (ds:List Value):Prop:=
 ∀(s:Shared) (us:List Value),K.In s.heap->(us++ds).length=ps.length->BindsTo s fd ⟨us,[]⟩ (ps.zip (us++ds))
theorem Binds.all {K:Frag}{fd:FuncData}{ps:List Str} (h:∀d:List Value,d.length=ps.length->bindArgs fd ⟨d,[]⟩=pure (ps.zip d)):Binds K fd ps []:=fun s d _ q=>by
 rw [append_nil]at q ⊢
 exact .of_eq (h d q)
def Passes (CX:CXT) (X:Cx) (E:XK):Prop:=∀(pins:List (Addr × Obj)) (σ:St) (H:Hp) (s:Shared) (e:Value) (s':Shared),Inv X pins σ H s->CX X.stack H s E e s'->X.xe e s'
section
variable {X:Cx}{CX:CXT}{k:Nat}{f C:Addr}{fd:FuncData}{ps:List Str}{sp:Sp}{dvs:List V}{ds:List Value}{E:XK}{x m:Str}{p pos apos:Pos}{e o:Expr}{es:List Expr}{ta:TE}{t:TA}
theorem Afm {pins:List (Addr × Obj)}{σ:St}{H:Hp}{s:Shared}{Q:VK}{d:List Value}{y:List V} (F:Ny X.prog X.w X.K X.mg X.base CX k f fd ps sp) (J:J8 k X.A) (L:Binds X.K fd ps ds) (M:Vals dvs ds) (O:Passes CX X E)
 (I:Inv X pins σ H s) (r:Vals y d) (h:sp (y++dvs) H Q E):wpAny (model X.prog X.w) X.A (call (.ref f) d) (EP X pins σ Q) X.xe s:=by
 have G:Vals (y++dvs) (d++ds):=r.append M
 have U:(d++ds).length=ps.length:=by rw [<-G.length];exact F.len _ _ _ _ h
 refine wpAny_call (codeAny_mono (F.run X.A X.stack s H ⟨d,[]⟩ (d++ds) (y++dvs) Q E J I.env0 (L s d I.kIn U) G h) fun r s' q=> ?_)
 cases r with
 | error e=>exact O pins σ H s e s' I q
 | ok W=>
   cases W with
   | ret u=>exact I.after q
   | next=>exact False.elim q
   | brk=>exact False.elim q
   | cont=>exact False.elim q
theorem Ac5 (F:Ny X.prog X.w X.K X.mg X.base CX k f fd ps sp) (J:J8 k X.A) (L:Gl X x) (M:X.mg x=some (.ref f)) (O:keepIn X.K (.ref f)=true) (U:Binds X.K fd ps ds) (Y:Vals dvs ds) (Z:Passes CX X E)
 (ha:PA X (e::es) t) (d:(x==("__debug__":Str))=false:=by decide) (he:starEach (e::es) X.env=(false,eval e X.env)::starEach es X.env:=by rfl) (y:(backTo pos (starEach es X.env)).any (·.1)=false:=by rfl):
 PE X (.Call (.Name x p) (e::es) [] pos) (Lf sp dvs E t):=by
 intro pins s σ H Q I h
 refine wpAny_Call_Name_kw (Tz I L M ?_ d)
 refine PySem.W.callWith_K (h₀:=X.base) I.ok.mod.kin O (thn (ha pos pins s σ H _ I h) fun us s1 ⟨vs,H1,G,r,q⟩=>⟨G.kIn,?_⟩) he y
 exact Afm F J U Y Z G r q
structure Mk (K:Frag) (C f:Addr):Prop where
 makes:PySem.W.makesIn K C=true
 init:findIn K (.ref C) "__init__"=some (some (.ref f))
 fn:isFn K (.ref f)=true
 kp:keepIn K (.ref C)=true
end
section
variable {X:Cx}{CX:CXT}{k:Nat}{f C:Addr}{fd:FuncData}{ps ks:List Str}{sp:Sp}{E:XK}{x m:Str}{p pos apos kpos:Pos}{e o:Expr}{es:List Expr}{kws:List Keyword}{te ta:TE}{t tk:TA}{nm:Option Str}
structure Aip (K:Frag) (fd:FuncData) (ps ks:List Str) (g:List Value->List Value->List Value) (gV:List V->List V->List V):Prop where
 to:∀(s:Shared) (us ws:List Value),K.In s.heap->(g us ws).length=ps.length->BindsTo s fd ⟨us,ks.zip ws⟩ (ps.zip (g us ws))
 rel:∀ {vs:List V}{us:List Value}{zs:List V}{ws:List Value},Vals vs us->Vals zs ws->Vals (gV vs zs) (g us ws)
variable {g:List Value->List Value->List Value}{gV:List V->List V->List V}
end
structure Bg (N P:List Str) (sc:Scope):Prop where
 kind:sc.kind= .function
 co:sc.isCoroutine=false
 gen:sc.isGenerator=false
 nd:N.Nodup
 pre:N.take P.length=P
 par:∀x∈P,sc.names.lookup x=some .local \/sc.names.lookup x=some .cell
 nofree:∀y∈sc.names,y.2≠ .free
theorem Q7 {kindOf:Str->Option NameKind}{x:Str}:∀ {binds:List (Str × Value)}{m:Str->Option Value},(∀v,(x,v)∉binds)->bindL kindOf binds m x=m x
 | [],_,_=>rfl
 | (n,v)::r,m,h=>by
   unfold bindL
   rw [Q7 fun w d=>h w (mem_cons_of_mem _ d)]
   split
   . have:x≠n:=by rintro rfl;exact h v mem_cons_self
     simp [this]
   . rfl
theorem Q5 {kindOf:Str->Option NameKind}{x:Str}:∀ {binds:List (Str × Value)}{m:Str->Option Value},(∀v,(x,v)∉binds)->bindC kindOf binds m x=m x
 | [],_,_=>rfl
 | (n,v)::r,m,h=>by
   unfold bindC
   rw [Q5 fun w d=>h w (mem_cons_of_mem _ d)]
   split
   . rfl
   . have:x≠n:=by rintro rfl;exact h v mem_cons_self
     simp [this]
theorem Q6 {kindOf:Str->Option NameKind}{x:Str}{v:Value}:∀ {P:List Str}{d:List Value}{i:Nat}{m:Str->Option Value},P.Nodup->P[i]? =some x->d[i]? =some v->kindOf x=some .local ->
 bindL kindOf (P.zip d) m x=some v
 | [],_,_,_,_,h,_,_=>by simp at h
 | _::_,[],_,_,_,_,h,_=>by simp at h
 | p::P,w::d,0,m,nd,h1,h2,hk=>by
   simp at h1 h2;subst h1;subst h2
   show bindL kindOf ((p,w)::P.zip d) m p=_
   unfold bindL
   rw [Q7 fun v q=>(nodup_cons.mp nd).1 (of_mem_zip q).1,if_pos hk]
   simp
 | p::P,w::d,i+1,m,nd,h1,h2,hk=>by
   show bindL kindOf ((p,w)::P.zip d) m x=_
   unfold bindL
   exact Q6 (i:=i) (nodup_cons.mp nd).2 (by simpa using h1) (by simpa using h2) hk
theorem Q0 {kindOf:Str->Option NameKind}{x:Str}{v:Value}:∀ {P:List Str}{d:List Value}{i:Nat}{m:Str->Option Value},P.Nodup->P[i]? =some x->d[i]? =some v->kindOf x≠some .local ->
 bindC kindOf (P.zip d) m x=some v
 | [],_,_,_,_,h,_,_=>by simp at h
 | _::_,[],_,_,_,_,h,_=>by simp at h
 | p::P,w::d,0,m,nd,h1,h2,hk=>by
   simp at h1 h2;subst h1;subst h2
   show bindC kindOf ((p,w)::P.zip d) m p=_
   unfold bindC
   rw [Q5 fun v q=>(nodup_cons.mp nd).1 (of_mem_zip q).1,if_neg hk]
   simp
 | p::P,w::d,i+1,m,nd,h1,h2,hk=>by
   show bindC kindOf ((p,w)::P.zip d) m x=_
   unfold bindC
   exact Q0 (i:=i) (nodup_cons.mp nd).2 (by simpa using h1) (by simpa using h2) hk
def start (N:List Str) (vs:List V):St:=vs.map some++replicate (N.length-vs.length) none
def Sw (CX:CXT) (P:Program) (w:World) (K:Frag) (mg:Str->Option Value) (base:Heap) (N:List Str) (qual:Str) (scope:Scope) (f:Addr) (cd:Value) (A:Around) (outer:List Env) (s:Shared) (H:Hp) (E:XK):Cx where
 prog:=P
 w:=w
 K:=K
 mg:=mg
 base:=base
 A:=A.deeper (envOfC qual scope s.heap.objs.size f cd)
 N:=N
 s₀:=s
 H₀:=H
 env:=envOfC qual scope s.heap.objs.size f cd
 outer:=outer
 stack:=envOfC qual scope s.heap.objs.size f cd::outer
 ex:=[]
 calm:=true
 fn:=fun _=>true
 pn:=[]
 xe:=fun e s'=>wpAny (model P w) (A.deeper (envOfC qual scope s.heap.objs.size f cd)) (leaving (envOfC qual scope s.heap.objs.size f cd) e) (fun _ s''=>CX outer H s E e s'') (fun e' s''=>CX outer H s E e' s'') s'
theorem Uz {sc:Scope}{n:Nat}{x:Str} (h:sc.names.lookup x=some .cell):∃c,(cellsFrom n sc.names []).lookup x=some c:=by
 have q:=cellsFrom_some sc.names n [] (.inl h)
 exact Option.isSome_iff_exists.mp q
theorem Ye {CX:CXT}{P:Program}{w:World}{K:Frag}{mg:Str->Option Value}{base:Heap}{N ps:List Str}{qual:Str}{scope:Scope}{f:Addr}{cd:Value}{A:Around}{outer:List Env}{s O:Shared}{H:Hp}{E:XK}{M:List Value}{F:List V}
 (S:Bg N ps scope) (Z:A.handled=none) (d:Ace P w K mg base A outer s H) (hl:F.length=ps.length) (r:Vals F M)
 (x:InCallC s s.heap.objs.size (bindL (envOfC qual scope s.heap.objs.size f cd).kindOf (ps.zip M) fun _=>none) (cellsFrom (s.heap.objs.size+1) scope.names []) (bindC (envOfC qual scope s.heap.objs.size f cd).kindOf (ps.zip M) fun _=>none) O):
 Inv (Sw CX P w K mg base N qual scope f cd A outer s H E) [] (start N F) H O:=by
 have a0:ps.length<=N.length:=by have:=congrArg List.length S.pre;rw [length_take]at this;omega
 obtain⟨h1,tk,rfl,U⟩:=x.done
 have G:∀b:Addr,b∉(Sw CX P w K mg base N qual scope f cd A outer s H E).ex:=fun b z=>absurd (show b∈([]:List Addr)from z) (by simp)
 refine⟨⟨d.mod,S.kind,rfl,rfl,le_refl _,fun y z c h1 h2=> ?_,fun y I=> ?_,fun y c _ h=> ?_,fun _=>Z,Around.frames_deeper d.frames,.inr ⟨rfl,rfl⟩,fun b z=>absurd z (G b),d.bs,d.bsz,fun b _ _=>G b,fun b z=>absurd z (G b),d.funs,d.frf⟩,
  rfl,d.bare,Un.kept U,⟨_,x.toInCall.ns,fun i y v h1 h2 h3=> ?_⟩,fun y c h=>⟨_,x.cell y c h⟩,d.hok.fresh (le_refl _),fun y c h=> ?_,fun p J=>absurd (show p∈([]:List (Addr × Obj))from J) (by simp),d.hok.kept U,?_⟩
 . exact name_of_addr x.apart (PySem.mem_of_lookup h1) (PySem.mem_of_lookup h2)
 . have I:scope.names.lookup y=some .cell\/scope.names.lookup y=some .free:=I
   rcases I with I | I
   . exact Uz I
   . exact absurd rfl (S.nofree _ (PySem.mem_of_lookup I))
 . exact le_of_lt (x.above y c (PySem.mem_of_lookup h))
 . have hi:i<F.length:=by
    unfold start at h2
    by_cases hi:i<F.length
    . exact hi
    . rw [getElem?_append_right (by simpa using hi)]at h2
      rw [getElem?_replicate]at h2
      split at h2<;>cases h2
   have ha:F[i]? =some v:=by
    unfold start at h2
    rw [getElem?_append_left (by simpa using hi),getElem?_map]at h2
    cases e:F[i]? with
    | none=>rw [e]at h2;cases h2
    | some a=>rw [e]at h2;cases h2;rfl
   obtain⟨u,Y,rv⟩:=r.get ha
   have J:ps[i]? =some y:=by
    rw [<-S.pre,List.getElem?_take_of_lt (by omega)];exact h1
   have L:ps.Nodup:=by rw [<-S.pre];exact S.nd.sublist (List.take_sublist _ _)
   refine⟨u,rv,?_⟩
   rcases S.par y (List.mem_of_getElem? J)with k | k
   . exact .inl ⟨k,Q6 L J Y k⟩
   . obtain⟨c,e⟩:=Uz (n:=s.heap.objs.size+1) k
     refine .inr ⟨.inl k,c,e,?_⟩
     have q:=x.cell y c e
     rw [Q0 L J Y (by show scope.names.lookup y≠_;rw [k];decide)]at q
     exact q
 . exact d.hok.fresh (le_of_lt (x.above y c (PySem.mem_of_lookup h)))
 . unfold start
   show _=N.length
   rw [length_append,length_map,length_replicate]
   omega
theorem Aeq {CX:CXT}{P:Program}{w:World}{K:Frag}{mg:Str->Option Value}{base:Heap}{k:Nat}{f:Addr}{name qual:Str}{params:Arguments}{F:List Stmt}{scope:Scope}{dV kV Y pm d ct oc:Value}{an od:Option Addr}
 {a2:Array (Option Value)}{N ps:List Str}{sp:Sp} (lk:K.lookup f=some ⟨oc,od,.func (PySem.W.fnOf name qual params F scope dV kV Y pm an d ct),a2⟩) (a3:PySem.W.codeIn K d qual=true) (S:Bg N ps scope)
 (Z:∀G H Q E,sp G H Q E->G.length=ps.length)
 (M:∀(A:Around) (outer:List Env) (s:Shared) (H:Hp) (G:List V) (Q:VK) (E:XK),J8 k (A.deeper (envOfC qual scope s.heap.objs.size f d))->sp G H Q E->
   ∃t,PSs (Sw CX P w K mg base N qual scope f d A outer s H E) F t/\t { nx:=fun _ H'=>Q .non H',rt:=Q} (start N G) H):
 Ny P w K mg base CX (k+1) f (PySem.W.fnOf name qual params F scope dV kV Y pm an d ct) ps sp:=by
 refine⟨Z,fun A outer s H args us G Q E hr e0 hb r a0=> ?_⟩
 have hl:=Z _ _ _ _ a0
 have KX:K.In s.heap:=e0.mod.kin.keeps fun b o e=>(e0.bs b o e).1
 have a4:s.heap.NoLimit:=e0.mod.nolimit.keeps fun b o e=>(e0.bs b o e).1
 have O:∀y∈ps.zip us,scope.names.lookup y.1=some .local \/(scope.names.lookup y.1=some .cell/\((cellsFrom (s.heap.objs.size+1) scope.names []).lookup y.1).isSome=true):=fun⟨n,v⟩ hy=>by
  rcases S.par n (of_mem_zip hy).1 with q | q
  . exact .inl q
  . exact .inr ⟨q,cellsFrom_some _ _ _ (.inl q)⟩
 refine codeAny_call_function hr.depth (KX _ _ lk) rfl S.co S.gen rfl (PySem.W.codeRec_of KX a3) (hb _ _ _ _ ?_)
 refine wpAny_newFunctionEnv_cells S.kind O fun env he s1 x=> ?_
 subst he
 refine⟨a4.keeps x.toInCall.keep,codeAny_func ?_⟩
 obtain⟨t,ht,hq⟩:=M A outer s H G Q E (hr.deeper _) a0
 have I:Inv (Sw CX P w K mg base N qual scope f d A outer s H E) [] (start N G) H s1:=Ye S hr.hd e0 hl r x
 refine wpAny_mono (ht [] s1 (start N G) H _ I hq) (fun fl s' U=> ?_) fun e s' U=>U
 have a1:∀ {L:St}{H':Hp}{v:V}{u:Value},Inv (Sw CX P w K mg base N qual scope f d A outer s H E) [] L H' s'->RelV v u->Q v H'->CE outer P w H s Q u s':=
  fun {L H' v u} J rv q=>⟨v,H',J.os,J.bare,J.base,J.hok,rv,q⟩
 cases fl with
 | ret u=>
   obtain⟨v,L,H',J,rv,q⟩:=U
   exact a1 J rv q
 | next=>
   obtain⟨L,H',J,q⟩:=U
   exact a1 (v:=V.non) (u:=Value.none) J rfl q
 | brk=>
   obtain⟨_,_,_,q⟩:=U
   exact False.elim q
 | cont=>
   obtain⟨_,_,_,q⟩:=U
   exact False.elim q
end L2
namespace L2
open PySem PySem.Spec PyProof.Rows
section
variable {X:Cx}{x:Str}{p pos:Pos}{e:Expr}{es:List Expr}{t:TA}{id T:String}{r:List V->Hp->VK->Prop}
def tCB (r:List V->Hp->VK->Prop) (t:TA):TE:=fun σ H Q=>t σ H fun vs H1=>r vs H1 Q
theorem Aat (y:Gq X (.builtin id) r) (F:Gl X x) (G:X.mg x=none) (J:bootBuiltins x=some (.builtin id)) (L:PA X (e::es) t) (M:x≠"__name__":=by decide) (d:(x==("__debug__":Str))=false:=by decide)
 (O:starEach (e::es) X.env=(false,eval e X.env)::starEach es X.env:=by rfl) (q:(backTo pos (starEach es X.env)).any (·.1)=false:=by rfl):PE X (.Call (.Name x p) (e::es) [] pos) (tCB r t):=by
 intro pins s σ H Q I h
 refine wpAny_Call_Name_kw (Mu I F G J ?_ M d)
 exact PyProof.Rows.callWith_builtin1 (thn (L pos pins s σ H _ I h) fun U W ⟨Y,H1,Z,r1,q1⟩=>y pins W σ H1 Y U Q Z r1 q1) O q
theorem Yy (y:Gq X (.type T) r) (F:Gl X x) (G:X.mg x=none) (J:bootBuiltins x=some (.type T)) (L:PA X (e::es) t) (M:x≠"__name__":=by decide) (d:(x==("__debug__":Str))=false:=by decide)
 (O:starEach (e::es) X.env=(false,eval e X.env)::starEach es X.env:=by rfl) (q:(backTo pos (starEach es X.env)).any (·.1)=false:=by rfl):PE X (.Call (.Name x p) (e::es) [] pos) (tCB r t):=by
 intro pins s σ H Q I h
 refine wpAny_Call_Name_kw (Mu I F G J ?_ M d)
 exact PyProof.Rows.callWith_type1 (thn (L pos pins s σ H _ I h) fun U W ⟨Y,H1,Z,r1,q1⟩=>y pins W σ H1 Y U Q Z r1 q1) O q
end
end L2
namespace HT
open PySem PyProof.Rows
section
variable {prog:Program}{w:World}{A:Around}{E:Value->Shared->Prop}{s:Shared}
def sIx (n d:Nat):Option Int->Nat
 | none=>d
 | some v=>if v<0 then(v+(n:Int)).toNat else min v.toNat n
theorem Vu (n d:Nat):sIx n d none=d:=rfl
theorem Zb (n d k:Nat):sIx n d (some (k:Int))=min k n:=by
 show(if(k:Int)<0 then((k:Int)+(n:Int)).toNat else min (k:Int).toNat n)=min k n
 rw [if_neg (by omega),toNat_natCast]
theorem Afn (n d:Nat) (y:d<=n) (o:Option Int):sIx n d o<=n:=by
 cases o with
 | none=>exact y
 | some v=>
   show(if v<0 then(v+(n:Int)).toNat else min v.toNat n)<=n
   by_cases q:v<0
   . rw [if_pos q];omega
   . rw [if_neg q];exact Nat.min_le_right _ _
theorem Xw (v:Int) (n d:Nat):(if v<0 then max (v+(n:Int)) 0 else min v (n:Int))=((sIx n d (some v):Nat):Int):=by
 show(if v<0 then max (v+(n:Int)) 0 else min v (n:Int))=(((if v<0 then(v+(n:Int)).toNat else min v.toNat n):Nat):Int)
 by_cases q:v<0
 . simp only [if_pos q];omega
 . simp only [if_neg q];omega
theorem V5 (lo hi:Option Int) (n:Nat):Builtin.Slice.sliceAdjust lo hi 1 (n:Int)=(((sIx n 0 lo:Nat):Int),((sIx n n hi:Nat):Int)):=by
 have h1:¬((1:Int)<0):=by omega
 unfold Builtin.Slice.sliceAdjust
 simp only [h1,if_false]
 refine Prod.ext ?_ ?_
 . cases lo with
   | none=>rfl
   | some v=>exact Xw v n 0
 . cases hi with
   | none=>rfl
   | some v=>exact Xw v n n
theorem W0 (i j:Nat):Builtin.Slice.slicePlaces (i:Int) (j:Int) 1=j-i:=by
 unfold Builtin.Slice.slicePlaces
 have h1:(1:Int)>0:=by omega
 simp only [h1,if_true,Int.ediv_one]
 split<;>omega
theorem Ov {v:Value}{o:Option Int}{Q:Option Int->Shared->Prop} (p:IsPart v o) (h:Q o s):wpAny (model prog w) A (Builtin.Slice.slicePartIndex v) Q E s:=by
 cases p with
 | none=>exact slicePart_none h
 | int i t=>exact slicePart_int h
theorem Hr {G:Addr}{y F:Value}{lo hi:Option Int}{n:Nat}{Q:Int × Int × Nat->Shared->Prop} (I:s.heap.IsSliceOf G y F .none) (J:IsPart y lo) (L:IsPart F hi)
 (h:Q (((sIx n 0 lo:Nat):Int),1,sIx n n hi-sIx n 0 lo) s):wpAny (model prog w) A (Builtin.Slice.sliceApplied (.ref G) (pure (n:Int))) Q E s:=by
 obtain⟨O,d,M,q⟩:=id I
 unfold Builtin.Slice.sliceApplied Builtin.Slice.sliceFields
 refine wpAny_bind (wpAny_bind (wpAny_field d q (x:=y) rfl (wpAny_bind (wpAny_field d q (x:=F) rfl (wpAny_bind (wpAny_field d q (x:= .none) rfl (wpAny_pure ?_)))))))
 refine wpAny_bind (slicePart_none ?_)
 show wpAny _ _ (if((1:Int)==0)=true then _ else _) _ _ s
 rw [if_neg (by decide)]
 refine wpAny_bind (Ov J (wpAny_bind (Ov L (wpAny_bind (wpAny_pure ?_)))))
 show wpAny _ _ (match Builtin.Slice.sliceAdjust lo hi 1 (n:Int)with | (lo,hi)=>pure (lo,(1:Int),Builtin.Slice.slicePlaces lo hi 1)) _ _ s
 rw [V5 lo hi n]
 show wpAny _ _ (pure (((sIx n 0 lo:Nat):Int),(1:Int),Builtin.Slice.slicePlaces ((sIx n 0 lo:Nat):Int) ((sIx n n hi:Nat):Int) 1)) _ _ s
 rw [W0]
 exact wpAny_pure h
theorem Aaz (xs:Array Value) (i k:Nat):((List.range k).filterMap fun(m:Nat)=>xs[((i:Int)+(m:Int)*1).toNat]?).toArray=((xs.toList.drop i).take k).toArray:=by
 have e:(fun(m:Nat)=>xs[((i:Int)+(m:Int)*1).toNat]?)=fun m=>xs[i+m]? :=by
  funext m
  have:((i:Int)+(m:Int)*1).toNat=i+m:=by omega
  rw [this]
 rw [e]
 have:=pick_run xs i k
 rw [List.filterMap_map]at this
 have d:((fun x=>xs[x]?) ∘ fun x=>i+x)=fun m=>xs[i+m]? :=rfl
 rw [d]at this
 rw [this]
theorem Kf {t F:Addr}{items:Array Value}{M O:Value}{lo hi:Option Int}{Q:Value->Shared->Prop} (y:IsTup s.heap t items) (U:s.heap.IsSliceOf F M O .none) (W:IsPart M lo) (Y:IsPart O hi)
 (Z:¬(sIx items.size 0 lo=0/\sIx items.size items.size hi=items.size))
 (h:Q (.ref s.heap.objs.size) { s with heap:=s.heap.push { cls:= .type "tuple",data:= .seq ((items.toList.drop (sIx items.size 0 lo)).take (sIx items.size items.size hi-sIx items.size 0 lo)).toArray}})
 (a0:items.size<=sizeLine):wpAny (model prog w) A (getItem (.ref t) (.ref F)) Q E s:=by
 have d:sizeOk (.seq ((items.toList.drop (sIx items.size 0 lo)).take (sIx items.size items.size hi-sIx items.size 0 lo)).toArray):=by
  show((items.toList.drop (sIx items.size 0 lo)).take (sIx items.size items.size hi-sIx items.size 0 lo)).toArray.size<=sizeLine
  rw [size_toArray,length_take,length_drop,Array.length_toList]
  omega
 have hj:sIx items.size items.size hi<=items.size:=Afn _ _ (le_refl _) hi
 obtain⟨os,G,I,a1⟩:=id U
 have J:s.TypeIs (.ref F) "slice":=⟨os,G,I⟩
 unfold getItem
 try with_reducible refine wpAny_holding ?_
 first | refine wpAny_bind (wpAny_pure ?_) | skip
 refine wpAny_bind (wpAny_sequenceKey y.typeIs (by decide) ?_)
 refine wpAny_bind (wpAny_callSpecial?_slot (name:=Str.ofString "__getitem__") y.typeIs PyProof.Rows.slot_tuple_getitem
  (wpAny_call_entry PyProof.Rows.slot_tuple_getitem y.typeIs entry_tuple_getitem ?_ (args_tuple_getitem _ _)))
 show wpAny _ _ (Builtin.Tuple.tupleItemsOf (.ref t)>>=_) _ _ s
 refine wpAny_bind (tupleItemsOf_ y ?_)
 refine wpAny_bind (wpAny_typeOf J ?_)
 rw [if_pos (by decide)]
 refine wpAny_bind (Hr U W Y ?_)
 have L:¬((((sIx items.size 0 lo:Nat):Int)==0&&(1:Int)==1&&(sIx items.size items.size hi-sIx items.size 0 lo)==items.size)=true):=by
  intro q
  rw [and_eq_true,and_eq_true]at q
  have q1:((sIx items.size 0 lo:Nat):Int)=0:=eq_of_beq q.1.1
  have q2:sIx items.size items.size hi-sIx items.size 0 lo=items.size:=eq_of_beq q.2
  exact Z ⟨by omega,by omega⟩
 show wpAny _ _ (if(((sIx items.size 0 lo:Nat):Int)==0&&(1:Int)==1&&(sIx items.size items.size hi-sIx items.size 0 lo)==items.size)=true then _ else _) _ _ s
 rw [if_neg L,Aaz]
 first
  | exact wpAny_bind (m:=Builtin.Tuple.tupleExact _) (wpAny_newObj_type (wpAny_pure ⟨_,rfl,wpAny_pure h⟩) d)
  | exact wpAny_bind (m:=Builtin.Tuple.tupleExact _) (wpAny_newObj_type (wpAny_bind (wpAny_pure (wpAny_pure ⟨_,rfl,wpAny_pure h⟩))) d)
  | exact wpAny_bind (wpAny_bind (m:=Builtin.Tuple.tupleExact _) (wpAny_newObj_type (wpAny_pure (wpAny_pure ⟨_,rfl,wpAny_pure h⟩)) d))
  | exact wpAny_bind (wpAny_bind (m:=Builtin.Tuple.tupleExact _) (wpAny_newObj_type (wpAny_pure ⟨_,rfl,wpAny_pure h⟩) d))
end
end HT
namespace L2
open PySem PySem.Spec PyProof.Rows
abbrev TO:=St->Hp->(Option Int->Hp->Prop)->Prop
def PO (X:Cx) (e:Option Expr) (t:TO):Prop:=
 ∀(pins:List (Addr × Obj)) (s:Shared) (σ:St) (H:Hp) (Q:Option Int->Hp->Prop),Inv X pins σ H s->t σ H Q->
   wpAny (model X.prog X.w) X.A (evalPart e X.env) (fun u s'=>∃o H',Inv X pins σ H' s'/\IsPart u o/\Q o H') X.xe s
def Ut:TO:=fun _ H Q=>Q none H
def Adt (t:TE):TO:=fun σ H Q=>t σ H fun x H1=>∃i,x= .int i/\Q (some i) H1
theorem intsAre_of {ns:List Int}:∀ {d:List Value},Vals (ns.map V.int) d->IntsAre d ns:=by
 induction ns with
 | nil=>intro d r;rw [map_nil]at r;cases r;exact .nil
 | cons n ns q=>
   intro d r
   rw [map_cons]at r
   cases r with
   | cons y F=>
     obtain⟨t,e⟩:=y
     subst e
     exact .cons n t (q F)
section
variable {X:Cx}{e:Expr}{te:TE}{lo hi:Option Expr}{tl th:TO}{pos p2:Pos}
theorem Ac8:PO X none Ut:=by
 intro pins s σ H Q I h
 rw [evalPart_none]
 exact wpAny_pure ⟨none,H,I,.none,h⟩
theorem Ac9 (h:PE X e te):PO X (some e) (Adt te):=by
 intro pins s σ H Q I d
 rw [evalPart_some]
 refine thn (h pins s σ H _ I d) fun u J ⟨x,H1,y,F,G⟩=> ?_
 obtain⟨i,rfl,q⟩:=G
 obtain⟨t,rfl⟩:=F
 exact⟨some i,H1,y,.int i t,q⟩
def SlR (X:Cx) (r:V->Option Int->Option Int->Hp->VK->Prop):Prop:=
 ∀(pins:List (Addr × Obj)) (s:Shared) (σ:St) (H:Hp) (x:V) (v vl vu:Value) (lo hi:Option Int) (sl:Addr) (Q:VK),Inv X pins σ H s->RelV x v->s.heap.IsSliceOf sl vl vu .none->IsPart vl lo->IsPart vu hi->r x lo hi H Q->
   ∃T id,typeLookup (.type T) "__getitem__"=pure (some (.builtin id))/\s.TypeIs v T/\wpAny (model X.prog X.w) X.A (getItem v (.ref sl)) (EP X pins σ Q) X.xe s
def tSl (r:V->Option Int->Option Int->Hp->VK->Prop) (te:TE) (tl th:TO):TE:=fun σ H Q=>te σ H fun x H1=>tl σ H1 fun l H2=>th σ H2 fun u H3=>r x l u H3 Q
theorem Aaw {r:V->Option Int->Option Int->Hp->VK->Prop} (J:SlR X r) (L:PE X e te) (M:PO X lo tl) (O:PO X hi th):PE X (.Subscript e (.Slice lo hi none p2) pos) (tSl r te tl th):=by
 intro pins s σ H Q I h
 refine Subscript_ (thn (L pins s σ H _ I h) fun v U ⟨x,H1,W,Y,Z⟩=> ?_)
 refine wpAny_Slice (thn (M pins U σ H1 _ W Z) fun y s2 ⟨l,H2,I2,pl,q2⟩=>thn (O pins s2 σ H2 _ I2 q2) fun F d ⟨u,G,I3,pu,q3⟩=> ?_)
 rw [evalPart_none]
 refine wpAny_pure ?_
 have I4:Inv X pins σ G { d with heap:=d.heap.push { cls:= .type "slice",data:= .fields #[y,F,.none]}}:=I3.kept (t':=d.toks) fun b ob q=>Heap.get?_push_of_some _ q
 obtain⟨T,id,hT,ht,hg⟩:=J pins { d with heap:=d.heap.push { cls:= .type "slice",data:= .fields #[y,F,.none]}} σ G x v y F l u d.heap.objs.size Q I4 Y (Heap.IsSliceOf.new ..) pl pu q3
 show wpAny (model X.prog X.w) X.A (subscriptTail e (.Slice lo hi none p2) v (.ref d.heap.objs.size)) (EP X pins σ Q) X.xe { d with heap:=d.heap.push { cls:= .type "slice",data:= .fields #[y,F,.none]}}
 exact tail_any (ops:=[.ref d.heap.objs.size,v]) ht hT hg (by with_unfolding_all rfl)
def Pg (xs:List V) (lo hi:Option Int):List V:=(xs.drop (HT.sIx xs.length 0 lo)).take (HT.sIx xs.length xs.length hi-HT.sIx xs.length 0 lo)
theorem Mj (xs:List V) (lo hi:Option Int):(Pg xs lo hi).length<=xs.length:=by
 unfold Pg
 rw [length_take,length_drop]
 omega
def Ai5 (K:Frag):V->Option Int->Option Int->Hp->VK->Prop:=fun x lo hi H Q=>∃a xs,x= .ref a/\SqT K H a xs/\
 ¬(HT.sIx xs.length 0 lo=0/\HT.sIx xs.length xs.length hi=xs.length)/\∀p,H p=none->Q (.ref p) (upd H p (.tup (Pg xs lo hi)))
theorem Afo:SlR X (Ai5 X.K):=by
 intro pins s σ H x v Y Z lo hi sl Q I J L M O h
 obtain⟨a,xs,rfl,U,W,q⟩:=h
 cases J
 obtain⟨y,r,F,G⟩:=I.tuple U
 have d:y.toArray.size=xs.length:=by rw [size_toArray];exact r.length.symm
 refine⟨"tuple",_,PyProof.Rows.slot_tuple_getitem.lookup,F.typeIs,?_⟩
 refine HT.Kf F L M O (by rw [d];exact W) ?_ (by rw [d];exact G)
 rw [d]
 refine⟨.ref s.heap.objs.size,_,I.laid (t':=s.toks) (o:= .tup (Pg xs lo hi)) (fun b ob q=>Heap.get?_push_of_some _ q) (le_refl _) ?_,rfl,q _ (I.hok.fresh (le_refl _))⟩
 exact⟨le_trans (Mj xs lo hi) G,_,(r.drop (HT.sIx xs.length 0 lo)).take (HT.sIx xs.length xs.length hi-HT.sIx xs.length 0 lo),IsTup.new _ _⟩
end
end L2
namespace L2
open PySem PySem.Spec PyProof.Rows
def ixN (n:Nat) (i:Int):Option Nat:=if 0<=i then(if i<n then some i.toNat else none)else if-(n:Int)<=i then some (i+n).toNat else none
def atI {α:Type} (xs:List α) (i:Int):Option α:=(ixN xs.length i).bind fun j=>xs[j]?
theorem Yi {n:Nat}{i:Int}{j:Nat} (h:ixN n i=some j):seqIndex? i n=some j/\j<n/\ -(n:Int)<=i/\i<n:=by
 unfold ixN at h
 by_cases d:0<=i
 . rw [if_pos d]at h
   by_cases h1:i<n
   . rw [if_pos h1]at h
     have e:i.toNat=j:=Option.some.inj h
     exact⟨by rw [seqIndex_of d h1,e],by omega,by omega,h1⟩
   . rw [if_neg h1]at h;cases h
 . rw [if_neg d]at h
   by_cases h1: -(n:Int)<=i
   . rw [if_pos h1]at h
     have e:(i+n).toNat=j:=Option.some.inj h
     exact⟨by rw [seqIndex_neg (by omega) h1,e],by omega,h1,by omega⟩
   . rw [if_neg h1]at h;cases h
theorem Xk {α:Type}{xs:List α}{i:Int}{v:α} (h:atI xs i=some v):∃j,seqIndex? i xs.length=some j/\xs[j]? =some v/\j<xs.length/\ -(xs.length:Int)<=i/\i<xs.length:=by
 unfold atI at h
 cases e:ixN xs.length i with
 | none=>rw [e]at h;cases h
 | some j=>
   rw [e]at h
   obtain⟨h1,h2,d,q⟩:=Yi e
   exact⟨j,h1,h,h2,d,q⟩
theorem Ba {α:Type}{xs:List α}{j:Nat}{v:α} (h:xs[j]? =some v):atI xs (j:Int)=some v:=by
 have d:j<xs.length:=(List.getElem?_eq_some_iff.mp h).1
 have e:ixN xs.length (j:Int)=some j:=by
  unfold ixN
  rw [if_pos (by omega),if_pos (by omega)];simp
 unfold atI;rw [e];exact h
theorem Z9 {α:Type} (xs:List α) (v:α):atI (xs++ [v]) (-1)=some v:=by
 have d:(xs++ [v]).length=xs.length+1:=by simp
 have e:ixN (xs++ [v]).length (-1)=some xs.length:=by
  unfold ixN
  rw [d,if_neg (by decide),if_pos (by omega)]
  congr 1
  omega
 unfold atI
 rw [e]
 show(xs++ [v])[xs.length]? =some v
 simp
def Xj (b:Expr):Prop:=∀o i,subscripted b false o i=operate [o,i] (getItem o i)
def IxR (X:Cx) (r:R2):Prop:=
 ∀(value slice:Expr) (pins:List (Addr × Obj)) (s:Shared) (σ:St) (H:Hp) (x y:V) (v u:Value) (Q:VK),Inv X pins σ H s->RelV x v->RelV y u->r x y H Q->
   subscripted slice false v u=operate [v,u] (getItem v u)->wpAny (model X.prog X.w) X.A (subscriptTail value slice v u) (EP X pins σ Q) X.xe s
def MtR (X:Cx) (id:String) (r:V->List V->Hp->VK->Prop):Prop:=
 ∀(pins:List (Addr × Obj)) (s:Shared) (σ:St) (H:Hp) (x:V) (xs:List V) (v:Value) (us:List Value) (Q:VK),Inv X pins σ H s->RelV x v->Vals xs us->r x xs H Q->
   wpAny (model X.prog X.w) X.A (call (.builtin id) (v::us)) (EP X pins σ Q) X.xe s
section
variable {X:Cx}{a b:Expr}{ta tb:TE}{pos:Pos}
theorem Ag7 {r:R2} (d:IxR X r) (F:PE X a ta) (G:PE X b tb) (J:Xj b):PE X (.Subscript a b pos) (tOp r ta tb):=by
 intro pins s σ H Q I h
 exact Subscript_ (Agw F G I h fun v u L x y H2 M O U q=>d a b pins L σ H2 x y v u Q M O U q (J _ _))
def Ad3 (K:Frag):R2:=fun x y H Q=>∃p xs i v,x= .ref p/\y= .int i/\SqL K H p xs/\atI xs i=some v/\Q v H
def Ahf (K:Frag):R2:=fun x y H Q=>∃p xs i v,x= .ref p/\y= .int i/\SqT K H p xs/\atI xs i=some v/\Q v H
theorem Bp:IxR X (Ad3 X.K):=by
 intro value slice pins s σ H x y v u Q I W Y h M
 obtain⟨p,xs,i,z,rfl,rfl,Z,he,q⟩:=h
 cases W
 obtain⟨t,rfl⟩:=Y
 obtain⟨F,r,G,hz⟩:=I.list Z
 obtain⟨j,h1,h2,h3,h4,h5⟩:=Xk he
 obtain⟨w,O,J⟩:=r.get h2
 have hl:=r.length
 have hn:=Vh
 have d:EP X pins σ Q w s:=⟨z,H,I,J,q⟩
 by_cases U:0<=i
 . have L:i.toNat=j:=by
    rw [seqIndex_of U h5]at h1
    exact Option.some.inj h1
   exact item_listR G.isList U (by omega) (by rw [L];simpa using O) d M
 . have L:(i+(F.toArray.size:Int)).toNat=j:=by
    rw [seqIndex_neg (by omega) h4]at h1
    rw [size_toArray,<-hl]
    exact Option.some.inj h1
   exact subscriptTail_builtinR (x:=w) G.isList.typeIs slot_list_getitem.lookup
    (wpAny_getItem_list_neg (Q:=fun r s'=>r=w/\EP X pins σ Q r s') G.isList (by omega) (by rw [size_toArray]<;>omega) (by omega) (by rw [L];simpa using O) ⟨rfl,d⟩) M
theorem Br:IxR X (Ahf X.K):=by
 intro value slice pins s σ H x y v u Q I J L h M
 obtain⟨p,xs,i,z,rfl,rfl,O,U,q⟩:=h
 cases J
 obtain⟨t,rfl⟩:=L
 obtain⟨W,r,G,hz⟩:=I.tuple O
 obtain⟨j,h1,h2,h3,h4,h5⟩:=Xk U
 obtain⟨w,Y,d⟩:=r.get h2
 have Z:=r.length
 have hn:=Vh
 have F:EP X pins σ Q w s:=⟨z,H,I,d,q⟩
 exact subscriptTail_builtinR (x:=w) G.typeIs slot_tuple_getitem.lookup
  (getItem_tuple (j:=j) (Q:=fun r s'=>r=w/\EP X pins σ Q r s') G (by omega) (by omega) (by rw [size_toArray,<-Z];exact h1) (by simpa using Y) ⟨rfl,F⟩) M
theorem Wj (its:List Value) (n j:Nat) (u:Value):Obj.mapSeq (·.setIfInBounds j u) { cls:= .type "list",data:= .seq its.toArray n}={ cls:= .type "list",data:= .seq (its.set j u).toArray n}:=by
 simp [Obj.mapSeq]
theorem Inv.lst {pins:List (Addr × Obj)}{σ:St}{H:Hp}{s:Shared}{p:Addr}{xs:List V} (I:Inv X pins σ H s) (h:H p=some (.lst xs)):
 ∃(its:List Value) (n:Nat),Vals xs its/\s.heap.get? p=some { cls:= .type "list",data:= .seq its.toArray n}/\xs.length<=sizeLine:=by
 obtain⟨z,its,n,r,e⟩:=I.hok p _ h
 exact⟨its,n,r,e,z⟩
theorem Inv.lstUpd {pins:List (Addr × Obj)}{σ:St}{H:Hp}{s:Shared}{p:Addr}{xs ys:List V}{its its':List Value}{n d:Nat}{f:Obj->Obj} (I:Inv X pins σ H s) (h:H p=some (.lst xs))
 (F:s.heap.get? p=some { cls:= .type "list",data:= .seq its.toArray n}) (y:f { cls:= .type "list",data:= .seq its.toArray n}={ cls:= .type "list",data:= .seq its'.toArray d}) (r:Vals ys its') (hz:ys.length<=sizeLine) (t:Nat):
 Inv X pins σ (upd H p (.lst ys)) { s with heap:=s.heap.update p f,toks:=t}:=by
 have e:(s.heap.update p f).get? p=some { cls:= .type "list",data:= .seq its'.toArray d}:=by
  rw [Heap.get?_update_self f F (by rw [y]<;>rfl),y]
 refine I.write (x:=p) (e:=p) (by rw [h];trivial) (.inl rfl) (fun b u G q=>(Heap.get?_update_other _ _ (Ne.symm G)).trans q) ⟨_,e⟩ ?_
 exact⟨hz,its',d,r,e⟩
def Adh:V->V->V->Hp->(Hp->Prop)->Prop:=fun o i v H Q=>∃p xs k j,o= .ref p/\i= .int k/\H p=some (.lst xs)/\ixN xs.length k=some j/\Q (upd H p (.lst (xs.set j v)))
theorem set_list:Agt X Adh:=by
 intro pins s σ H o i v ov iv u Q I Y Z rv h
 obtain⟨p,xs,k,j,rfl,rfl,J,hj,q⟩:=h
 cases Y
 obtain⟨t,rfl⟩:=Z
 obtain⟨d,n,r,y,hz⟩:=I.lst J
 obtain⟨h1,h2,L,M⟩:=Yi hj
 have F:=r.length
 have hn:=Vh
 have O:Inv X pins σ (upd H p (.lst (xs.set j v))) { s with heap:=s.heap.update p (Obj.mapSeq (·.setIfInBounds j u))}:=
  I.lstUpd J y (Wj d n j u) (r.set rv j) (by rw [length_set];exact hz) s.toks
 by_cases U:0<=k
 . have G:k.toNat=j:=by
    rw [seqIndex_of U M]at h1
    exact Option.some.inj h1
   exact PySem.W.ki_setAt y U (by omega) (by rw [size_toArray,<-F];exact M) (by rw [G];exact⟨_,O,q⟩)
 . have G:(k+(d.toArray.size:Int)).toNat=j:=by
    rw [seqIndex_neg (by omega) L]at h1
    rw [size_toArray,<-F]
    exact Option.some.inj h1
   exact PySem.W.ki_setBack y (by omega) (by rw [size_toArray,<-F];exact L) (by omega) (by rw [G];exact⟨_,O,q⟩)
theorem R8 (lo hi:Option Int) (n:Nat):(sliceBounds lo hi none n).1=((HT.sIx n 0 lo:Nat):Int)/\(sliceBounds lo hi none n).2.1=((HT.sIx n n hi:Nat):Int)/\(sliceBounds lo hi none n).2.2=1:=by
 refine⟨?_,?_,rfl⟩
 . cases lo with
   | none=>simp [sliceBounds,HT.sIx]
   | some i=>
     simp only [sliceBounds,HT.sIx,getD_none,show(1:Int)>0 by decide,if_true]
     by_cases h:i<0
     . simp only [h,if_true]<;>omega
     . simp only [h,if_false]<;>omega
 . cases hi with
   | none=>simp [sliceBounds,HT.sIx]
   | some i=>
     simp only [sliceBounds,HT.sIx,getD_none,show(1:Int)>0 by decide,if_true]
     by_cases h:i<0
     . simp only [h,if_true]<;>omega
     . simp only [h,if_false]<;>omega
theorem Qk (its:List Value) (lo hi:Option Int):slicePick its.toArray lo hi none=((its.drop (HT.sIx its.length 0 lo)).take (HT.sIx its.length its.length hi-HT.sIx its.length 0 lo)).toArray:=by
 obtain⟨h1,h2,d⟩:=R8 lo hi its.toArray.size
 unfold slicePick
 rw [h1,h2,d]
 simp only [sliceRange_one,pick_run,size_toArray]<;>rfl
def Ahg (K:Frag):V->Option Int->Option Int->Hp->VK->Prop:=fun x lo hi H Q=>∃a xs,x= .ref a/\SqL K H a xs/\∀p,H p=none->Q (.ref p) (upd H p (.lst (Pg xs lo hi)))
theorem Nm:SlR X (Ahg X.K):=by
 intro pins s σ H x v W Y lo hi Z Q I F G J L h
 obtain⟨a,xs,rfl,M,q⟩:=h
 cases F
 obtain⟨O,r,y,U⟩:=I.list M
 have d:=r.length
 refine⟨"list",_,slot_list_getitem.lookup,y.isList.typeIs,?_⟩
 refine wpAny_getItem_list_slice y.isList G J L .none (by simp) ?_ (by rw [size_toArray]<;>omega)
 rw [Qk,<-d]
 refine⟨.ref s.heap.objs.size,_,I.laid (t':=s.toks) (o:= .lst (Pg xs lo hi)) (fun b ob q=>Heap.get?_push_of_some _ q) (le_refl _) ?_,rfl,q _ (I.hok.fresh (le_refl _))⟩
 exact⟨le_trans (Mj xs lo hi) U,_,0,(r.drop (HT.sIx xs.length 0 lo)).take (HT.sIx xs.length xs.length hi-HT.sIx xs.length 0 lo),Heap.get?_push_size _ rfl⟩
def N5:V->Bool
 | .non=>true
 | .bl _=>true
 | .int _=>true
 | .str _=>true
 | _=>false
def eqV:V->V->Bool
 | .non,.non=>true
 | .bl a,.bl b=>a==b
 | .bl a,.int b=>(if a then 1 else 0)==b
 | .int a,.bl b=>a==(if b then 1 else 0)
 | .int a,.int b=>a==b
 | .str a,.str b=>a==b
 | _,_=>false
theorem Aen {A:Around}{s:Shared}{y x:V}{u v:Value} (F:RelV y u) (d:RelV x v) (G:N5 y=true) (fx:N5 x=true):SeqAt.EqAt A s u v (eqV y x):=by
 cases y with
 | non=>
   cases F
   cases x with
   | non=>cases d;exact SeqAt.EqAt.same _
   | bl b=>cases d;exact SeqAt.EqAt.none_bool b
   | int b=>obtain⟨t,rfl⟩:=d;exact SeqAt.EqAt.none_int b t
   | str b=>obtain⟨t,rfl⟩:=d;exact SeqAt.EqAt.none_str b t
   | _=>exact absurd (show false=true from fx) Bool.false_ne_true
 | bl a=>
   cases F
   cases x with
   | non=>cases d;exact SeqAt.EqAt.bool_none a
   | bl b=>cases d;exact SeqAt.EqAt.bool_bool a b
   | int b=>obtain⟨t,rfl⟩:=d;exact SeqAt.EqAt.bool_int a b t
   | str b=>obtain⟨t,rfl⟩:=d;exact SeqAt.EqAt.bool_str a b t
   | _=>exact absurd (show false=true from fx) Bool.false_ne_true
 | int a=>
   obtain⟨q,rfl⟩:=F
   cases x with
   | non=>cases d;exact SeqAt.EqAt.int_none a q
   | bl b=>cases d;exact SeqAt.EqAt.int_bool a q b
   | int b=>obtain⟨t,rfl⟩:=d;exact SeqAt.EqAt.int_int a q b t
   | str b=>obtain⟨t,rfl⟩:=d;exact SeqAt.EqAt.int_str a q b t
   | _=>exact absurd (show false=true from fx) Bool.false_ne_true
 | str a=>
   obtain⟨q,rfl⟩:=F
   cases x with
   | non=>cases d;exact SeqAt.EqAt.str_none a q
   | bl b=>cases d;exact SeqAt.EqAt.str_bool a q b
   | int b=>obtain⟨t,rfl⟩:=d;exact SeqAt.EqAt.str_int a q b t
   | str b=>obtain⟨t,rfl⟩:=d;exact SeqAt.EqAt.str_str a q b t
   | _=>exact absurd (show false=true from fx) Bool.false_ne_true
 | _=>exact absurd (show false=true from G) Bool.false_ne_true
def eqU (x:V) (u:Value):Bool:=match u with
 | .none=>eqV .non x
 | .bool b=>eqV (.bl b) x
 | .int i _=>eqV (.int i) x
 | .str z _=>eqV (.str z) x
 | _=>false
theorem Abq {x y:V}{u:Value} (r:RelV y u) (f:N5 y=true):eqU x u=eqV y x:=by
 cases y with
 | non=>cases r;rfl
 | bl b=>cases r;rfl
 | int i=>obtain⟨t,rfl⟩:=r;rfl
 | str z=>obtain⟨t,rfl⟩:=r;rfl
 | _=>exact absurd (show false=true from f) Bool.false_ne_true
theorem Tg {x:V}:∀ {xs:List V}{d:List Value},Vals xs d->xs.all N5=true->d.any (eqU x)=xs.any fun y=>eqV y x
 | _,_,.nil,_=>rfl
 | y::xs,u::d,.cons r t,f=>by
   rw [all_cons,and_eq_true]at f
   rw [any_cons,any_cons,Abq r f.1,Tg t f.2]
theorem Pr {A:Around}{s:Shared}{x:V}{v:Value} (F:RelV x v) (fx:N5 x=true):∀ {xs:List V}{q:List Value},Vals xs q->xs.all N5=true->∀u∈q,SeqAt.EqAt A s u v (eqU x u)
 | _,_,.nil,_=>fun u d=>by cases d
 | y::xs,u::q,.cons r t,f=>fun G d=>by
   rw [all_cons,and_eq_true]at f
   rcases mem_cons.mp d with rfl | d
   . rw [Abq r f.1];exact Aen r F f.1 fx
   . exact Pr F fx t f.2 G d
def inV (x:V) (xs:List V):Bool:=xs.any fun y=>eqV y x
def rIn (K:Frag) (neg:Bool):R2:=fun x y H Q=>∃p xs,y= .ref p/\(SqL K H p xs\/SqT K H p xs)/\N5 x=true/\xs.all N5=true/\Q (.bl (if neg then !inV x xs else inV x xs)) H
theorem Hx:OpR X (compareOp .NotIn) (rIn X.K true):=by
 intro pins s σ H x y v u Q I L M h
 obtain⟨p,xs,rfl,F,fx,fs,q⟩:=h
 cases M
 rcases F with F | F
 . obtain⟨d,r,G,O⟩:=I.list F
   refine SeqAt.notIn_listAt (eqU x) G.isList (fun w J=>Pr L fx r fs w (by simpa using J)) ⟨.bl _,H,I,rfl,?_⟩
   rw [show d.toArray.any (eqU x)=d.any (eqU x)by simp,Tg r fs]
   exact q
 . obtain⟨d,r,G,O⟩:=I.tuple F
   refine SeqAt.notIn_tupleAt (eqU x) G (fun w J=>Pr L fx r fs w (by simpa using J)) ⟨.bl _,H,I,rfl,?_⟩
   rw [show d.toArray.any (eqU x)=d.any (eqU x)by simp,Tg r fs]
   exact q
theorem Aw:Gq X (.builtin "len") (fun xs H Q=>∃p ys,xs=[.ref p]/\(SqL X.K H p ys\/SqT X.K H p ys)/\Q (.int ys.length) H):=by
 intro pins s σ H xs O Q I r h
 obtain⟨p,ys,rfl,y,q⟩:=h
 obtain⟨u,rfl,L⟩:=vals1 r
 cases L
 have U:=Vh
 rcases y with y | y
 . obtain⟨F,G,J,M⟩:=I.list y
   have d:=G.length
   exact Calls.call_len_list J.isList (by simp only [size_toArray]<;>omega) ⟨.int ys.length,H,I.tok _,⟨s.toks+1,by rw [size_toArray,d]⟩,q⟩
 . obtain⟨F,G,J,M⟩:=I.tuple y
   have d:=G.length
   exact len_tuple J (by simp only [size_toArray]<;>omega) ⟨.int ys.length,H,I.tok _,⟨s.toks+1,by rw [size_toArray,d]⟩,q⟩
theorem Hw:Gq X (.type "list") (fun xs H Q=>∃p ys,xs=[.ref p]/\(SqL X.K H p ys\/SqT X.K H p ys)/\∀l,H l=none->Q (.ref l) (upd H l (.lst ys))):=by
 intro pins s σ H xs us Q I r h
 obtain⟨p,ys,rfl,G,q⟩:=h
 obtain⟨u,rfl,rx⟩:=vals1 r
 cases rx
 have J:∀(d:List Value),Vals ys d->ys.length<=sizeLine->∀(h':Heap) (y:Nat),(∀b o',s.heap.get? b=some o'->h'.get? b=some o')->
  h'.get? s.heap.objs.size=some { cls:= .type "list",dict:=none,data:= .seq d.toArray y,slots:= #[]}->EP X pins σ Q (.ref s.heap.objs.size) { s with heap:=h'}:=fun d F L h' y M e=>
  ⟨.ref s.heap.objs.size,_,I.laid (t':=s.toks) M (le_refl _) (show Fy X.prog X.w _ h' _ (.lst ys)from⟨L,d,y,F,e⟩),rfl,q _ (I.hok.fresh (le_refl _))⟩
 rcases G with G | G
 . obtain⟨d,F,U,L⟩:=I.list G
   have O:=F.length
   obtain⟨o,W,Y,n,Z⟩:=U.isList
   exact call_list_seq p (.inl rfl) W Y Z (fun h' y M e=>J d F L h' y M e) (by simp only [size_toArray]<;>omega)
 . obtain⟨d,F,U,L⟩:=I.tuple G
   have O:=F.length
   obtain⟨o,W,Y,n,Z⟩:=U
   exact call_list_seq p (.inr rfl) W Y Z (fun h' y M e=>J d F L h' y M e) (by simp only [size_toArray]<;>omega)
def tyV (K:Frag) (T:String) (x:V) (H:Hp):Prop:=match x with
 | .str _=>T="str"
 | .int _=>T="int"
 | .ref p=>(T="list"/\∃xs,SqL K H p xs)\/(T="tuple"/\∃o,K.lookup p=some o/\o.cls= .type "tuple"/\o.dict=none)\/
    (T="dict"/\((∃kvs,H p=some (.dK kvs))\/∃kvs,H p=some (.dT kvs)))\/(T="set"/\∃S n,H p=some (.set S n))
 | _=>False
theorem Afv {pins:List (Addr × Obj)}{σ:St}{H:Hp}{s:Shared}{T:String}{x:V}{v:Value} (I:Inv X pins σ H s) (r:RelV x v) (q:tyV X.K T x H):
 s.TypeIs v T/\∀a,v= .ref a->∃J,s.heap.get? a=some J/\J.dict=none:=by
 cases x with
 | str z=>
   obtain⟨t,rfl⟩:=r
   cases(show T="str" from q)
   exact⟨typeIs_str s z t,fun _ e=>nomatch e⟩
 | int i=>
   obtain⟨t,rfl⟩:=r
   cases(show T="int" from q)
   exact⟨typeIs_int s i t,fun _ e=>nomatch e⟩
 | ref p=>
   cases r
   rcases q with⟨rfl,xs,M⟩ | ⟨rfl,o,d,O,y⟩ | ⟨rfl,d⟩ | ⟨rfl,S,n,d⟩
   . obtain⟨U,_,L,_⟩:=I.list M
     refine⟨L.isList.typeIs,fun a e=> ?_⟩
     cases e
     obtain⟨o,n,e,c,y,_⟩:=L
     exact⟨o,e,y⟩
   . refine⟨⟨o,I.kIn p o d,O⟩,fun a e=> ?_⟩
     cases e
     exact⟨o,I.kIn _ o d,y⟩
   . have z:∃o,s.heap.get? p=some o/\o.ExactDict:=by
      rcases d with⟨F,d⟩ | ⟨F,d⟩
      . obtain⟨_,_,_,_,o,_,_,e,ex,_⟩:=I.hok p _ d
        exact⟨o,e,ex⟩
      . obtain⟨_,_,_,_,o,_,_,e,ex,_⟩:=I.hok p _ d
        exact⟨o,e,ex⟩
     obtain⟨o,e,ex⟩:=z
     refine⟨⟨o,e,ex.1⟩,fun a G=> ?_⟩
     cases G
     exact⟨o,e,ex.2.1⟩
   . obtain⟨o,_,_,_,e,ex,_⟩:=I.hok p _ d
     refine⟨⟨o,e,ex.1⟩,fun a G=> ?_⟩
     cases G
     exact⟨o,e,ex.2.1⟩
 | _=>exact False.elim q
def tBM (K:Frag) (T:String) (r:V->List V->Hp->VK->Prop) (to:TE) (t:TA):TE:=fun σ H Q=>to σ H fun x H1=>tyV K T x H1/\t σ H1 fun xs H2=>r x xs H2 Q
variable {o e:Expr}{es:List Expr}{to:TE}{t:TA}{name:Str}{apos cpos:Pos}{T id:String}{r:V->List V->Hp->VK->Prop}
theorem Wx (U:PlainAttrs T) (F:Slot T name id) (J:typeOf (.builtin id)=pure (.type "method_descriptor")) (W:MtR X id r) (Y:PE X o to) (Z:PA X (e::es) t)
 (q:attributeBase o name X.env (eval o X.env)=eval o X.env:=by rfl)
 (G:((backTo cpos (starEach (e::es) X.env)).all (fun x=> !x.1)&&(backToKw cpos (keywordEach [] X.env)).all (fun x=>x.1.isSome)
   &&decide ((e::es).length+([]:List Keyword).length+(if([]:List Keyword).isEmpty then 0 else 1)<30))=true:=by rfl)
 (y:(apos.endLine==cpos.line)=true:=by rfl) (hs:starEach (e::es) X.env=(false,eval e X.env)::starEach es X.env:=by rfl) (d:(backTo cpos (starEach es X.env)).any (·.1)=false:=by rfl):
 PE X (.Call (.Attribute o name apos) (e::es) [] cpos) (tBM X.K T r to t):=by
 intro pins s σ H Q I h
 refine wpAny_Call_method_late q G y rfl (thn (Y pins s σ H _ I h) fun v s1 ⟨x,H1,L,M,ty,q1⟩=> ?_)
 obtain⟨h1,h2⟩:=Afv L M ty
 refine⟨T,id,U,F,J,h1,h2,?_⟩
 have O:=Z cpos pins s1 σ H1 _ L q1
 rw [hs]at O ⊢
 refine Calls.callWith_builtin (by show(false||(backTo cpos (starEach es X.env)).any (·.1))=false;rw [d]<;>rfl) (Calls.evalArgs_plain ?_)
 exact thn O fun us s2 ⟨vs,H2,I2,r2,q2⟩=>W pins s2 σ H2 x vs v us Q I2 M r2 q2
/-xs.append(e),list.index on a module's tuple .. are MtR facts of 06m-/
end
end L2
namespace L2
open PySem PySem.Spec PyProof.Rows
def MtM (X:Cx) (id:String) (r:V->List V->Hp->VK->Prop):Prop:=
 ∀(pins:List (Addr × Obj)) (s:Shared) (σ:St) (H:Hp) (x:V) (xs:List V) (v:Value) (us:List Value) (Q:VK),Inv X pins σ H s->RelV x v->Vals xs us->r x xs H Q->
   wpAny (model X.prog X.w) X.A (call (.builtin id) (v::us)) (EP X pins σ Q) X.xe s
theorem Vals.one:∀ {x:V}{d:List Value},Vals [x] d->∃u,d=[u]/\RelV x u
 | _,_,.cons r .nil=>⟨_,rfl,r⟩
theorem Vals.two:∀ {x y:V}{d:List Value},Vals [x,y] d->∃u v,d=[u,v]/\RelV x u/\RelV y v
 | _,_,_,.cons r (.cons q .nil)=>⟨_,_,rfl,r,q⟩
theorem Vals.zero:∀ {d:List Value},Vals [] d->d=[]
 | _,.nil=>rfl
theorem Vals.eraseIdx:∀ {xs:List V}{d:List Value} (i:Nat),Vals xs d->Vals (xs.eraseIdx i) (d.eraseIdx i)
 | _,_,_,.nil=> .nil
 | _,_,0,.cons _ t=>t
 | _,_,i+1,.cons r t=> .cons r (Vals.eraseIdx i t)
theorem Vals.reverse {xs:List V}{d:List Value} (h:Vals xs d):Vals xs.reverse d.reverse:=by
 induction h with
 | nil=>exact .nil
 | cons r t q=>rw [List.reverse_cons,List.reverse_cons];exact Vals.append q (.cons r .nil)
theorem Vals.rep {xs:List V}{d:List Value} (h:Vals xs d):∀k:Nat,Vals (replicate k xs).flatten (replicate k d).flatten
 | 0=> .nil
 | k+1=>by
   rw [replicate_succ,replicate_succ,flatten_cons,flatten_cons]
   exact Vals.append h (Vals.rep h k)
theorem foldl_rep (its:List Value):∀(k:Nat) (d:List Value),
 foldl (fun x1 q=>x1++q) d.toArray (replicate k its.toArray)=(d++(replicate k its).flatten).toArray
 | 0,d=>by simp
 | k+1,d=>by
   have e:d.toArray++its.toArray=(d++its).toArray:=by simp
   have y:(d++its)++(replicate k its).flatten=d++(replicate (k+1) its).flatten:=by
    rw [replicate_succ,flatten_cons,append_assoc]
   rw [<-y,<-foldl_rep its k (d++its),<-e,replicate_succ,foldl_cons]
section
variable {X:Cx}{pins:List (Addr × Obj)}{σ:St}{H:Hp}{s:Shared}{l b:Addr}{xs ys zs:List V}
theorem Inv.lset {its its':List Value}{n:Nat}{f:Array Value->Array Value}{t':Nat} (I:Inv X pins σ H s) (d:H l=some (.lst xs))
 (e:s.heap.get? l=some { cls:= .type "list",data:= .seq its.toArray n}) (y:f its.toArray=its'.toArray) (F:Vals ys its') (hz:ys.length<=sizeLine):
 Inv X pins σ (upd H l (.lst ys)) { s with heap:=s.heap.update l (Obj.mapSeq f),toks:=t'}:=by
 have q:=PySem.IsL.update e f
 rw [y]at q
 refine I.write (x:=l) (e:=l) (by rw [d];exact trivial) (.inl rfl) (fun L u G J=>(Heap.get?_update_other s.heap (Obj.mapSeq f) (Ne.symm G)).trans J) ⟨_,q⟩ ?_
 exact⟨hz,its',_,F,q⟩
theorem Inv.lnew {its:List Value}{t':Nat} (I:Inv X pins σ H s) (d:Vals ys its) (hz:ys.length<=sizeLine):
 Inv X pins σ (upd H s.heap.objs.size (.lst ys)) { s with heap:=s.heap.push { cls:= .type "list",data:= .seq its.toArray},toks:=t'}:=
 I.laid (fun _ _ q=>Heap.get?_push_of_some _ q) (le_refl _) ⟨hz,its,0,d,Heap.get?_push_size _ rfl⟩
theorem Inv.fresh (I:Inv X pins σ H s):H s.heap.objs.size=none:=I.hok.fresh (le_refl _)
theorem Inv.lstM (I:Inv X pins σ H s) (d:H l=some (.lst xs)):xs.length<=sizeLine/\∃(its:List Value) (n:Nat),Vals xs its/\xs.length=its.length/\s.heap.get? l=some { cls:= .type "list",data:= .seq its.toArray n}:=by
 obtain⟨z,its,n,r,e⟩:=I.hok l _ d
 exact⟨z,its,n,r,r.length,e⟩
theorem Aan {n:Nat} (h:n<=sizeLine):Builtin.List.listTooLong n=false:=by
 unfold Builtin.List.listTooLong
 exact decide_eq_false (by omega)
end
section
variable {X:Cx}
def Y9:V->List V->Hp->VK->Prop:=fun x vs H Q=>∃l xs y,x= .ref l/\vs=[y]/\H l=some (.lst xs)/\xs.length<sizeLine/\Q .non (upd H l (.lst (xs++ [y])))
theorem Dq:MtM X "list.append" Y9:=by
 intro pins s σ H x O v U Q I J L h
 obtain⟨l,xs,y,rfl,rfl,G,W,q⟩:=h
 cases J
 obtain⟨u,rfl,M⟩:=L.one
 obtain⟨z,d,n,r,Y,e⟩:=I.lstM G
 refine call_meets F.slot_list_append ⟨_,e,rfl⟩ F.entry_list_append (F.args_list_append_2 _ _) (PySem.list_append l d.toArray n u (by rw [size_toArray];omega)) ⟨e,?_⟩
 refine⟨.non,_,I.lset (its':=d++ [u]) G e (by simp) (r.append (.cons M .nil)) ?_,rfl,q⟩
 rw [length_append,length_singleton]
 omega
def Ai2:R2:=fun x y H Q=>∃l b xs zs,x= .ref l/\y= .ref b/\H l=some (.lst xs)/\H b=some (.lst zs)/\xs.length+zs.length<=sizeLine/\∀p,H p=none->Q (.ref p) (upd H p (.lst (xs++zs)))
theorem Oj:OpR X (binaryOp .Add) Ai2:=by
 intro pins s σ H x y v u Q I G J h
 obtain⟨l,b,xs,zs,rfl,rfl,L,M,Z,q⟩:=h
 cases G
 cases J
 obtain⟨z,F,n,r,hl,e⟩:=I.lstM L
 obtain⟨z2,d,n2,O,U,W⟩:=I.lstM M
 refine PySem.P.add_list e W ?_ (by rw [size_toArray,size_toArray];omega)
 have Y:F.toArray++d.toArray=(F++d).toArray:=by simp
 rw [Y]
 exact⟨.ref _,_,I.lnew (t':=s.toks) (r.append O) (by rw [length_append];omega),rfl,q _ I.fresh⟩
def Ai3:R2:=fun x y H Q=>∃l k xs,x= .ref l/\y= .int k/\H l=some (.lst xs)/\ -(2^63)<=k/\k<2^63/\xs.length*k.toNat<=sizeLine/\
 ∀p,H p=none->Q (.ref p) (upd H p (.lst (replicate k.toNat xs).flatten))
theorem len_rep {α:Type} (xs:List α) (k:Nat):(replicate k xs).flatten.length=k*xs.length:=by
 induction k with
 | zero=>simp
 | succ k d=>rw [replicate_succ,flatten_cons,length_append,d,Nat.succ_mul,Nat.add_comm]
theorem Ol:OpR X (binaryOp .Mult) Ai3:=by
 intro pins s σ H x y v u Q I Z ry h
 obtain⟨l,k,xs,rfl,rfl,hH,h1,h2,Y,q⟩:=h
 cases Z
 obtain⟨t,rfl⟩:=ry
 obtain⟨z,d,n,r,hl,e⟩:=I.lstM hH
 have J:d.toArray.size*k.toNat<=sizeLine:=by rw [size_toArray,<-hl];exact Y
 have L:¬d.toArray.size*k.toNat>(2^63-1)/8:=by
  have:(sizeLine:Nat)<=(2^63-1)/8:=by decide
  omega
 have M:¬(!Builtin.List.listFitsIndex k)=true:=by
  rw [fitsIndex_both h1 h2]
  exact Bool.false_ne_true
 have G:¬Builtin.List.listTooLong (d.toArray.size*k.toNat)=true:=by
  rw [Aan J]
  exact Bool.false_ne_true
 have O:foldl (fun x1 W=>x1++W) #[] (replicate (if d.toArray.isEmpty=true then 0 else k.toNat) d.toArray)=(replicate k.toNat d).flatten.toArray:=by
  have f0:∀m:Nat,foldl (fun x1 W=>x1++W) #[] (replicate m d.toArray)=(replicate m d).flatten.toArray:=fun m=>by
   have:=foldl_rep d m []
   rw [nil_append]at this
   exact this
  rw [f0]
  cases d with
  | nil=>simp
  | cons a r'=>rw [if_neg (by simp)]
 refine wpAny_binaryOp_repeat_ref (T:="list") (U:="int") (by decide) ⟨_,e,rfl⟩ (fun s'=>typeIs_int s' k t) noFill_list_mul F.fills_int_mul F.slot_int_rmul repeat_list F.slot_int_index.lookup
  (call_meets F.slot_int_rmul (typeIs_int s k t) F.entry_int_rmul (F.args_int_rmul_2 _ _) (int___rmul___int_list k t l d.toArray n)
    ⟨e,rfl,⟨_,e,rfl⟩,call_meets F.slot_list_mul ⟨_,e,rfl⟩ F.entry_list_mul (F.args_list_mul_2 _ _) (AutoListH.list___mul___list_int_3 l d.toArray n k t M L G) ⟨e,?_⟩⟩)
 rw [O]
 exact⟨.ref _,_,I.lnew (t':=s.toks) (r.rep k.toNat) (by rw [len_rep,Nat.mul_comm];exact Y),rfl,q _ I.fresh⟩
end
end L2
namespace Att
open PySem PySem.W PySem.Calls PyProof.Rows
theorem Mt {P:Params}{h:Heap}:∀(ns:List Int) (d:List Value),WellAll P h d (ns.map WData.int)->IntsAre d ns:=by
 intro ns
 induction ns with
 | nil=>
   intro d w
   rw [map_nil]at w
   cases w
   exact .nil
 | cons n ns q=>
   intro d w
   rw [map_cons]at w
   cases w with
   | cons a b=>
     cases a
     exact .cons _ _ (q _ b)
theorem Ze {l:OpenLaw}{n:Nat} (Y:l.most=some n) {P:Params}{h:Heap}{args:List WData}{y:List Value}
 (F:l.row.toRowW.claim.pre args=true) (M:WellAll P h y args):
 ∃a U ns,y=[Value.ref a]/\args=[WData.list (ns.map WData.int)]/\h.get? a=some { cls:= .type "list",data:= .seq U.toArray}/\IntsAre U ns/\ns.length<=n:=by
 have O:WShape.hasAll [] args [.list .int]=true:=(pre_splitW F).1
 have W:l.pre.holds [] { args:=args}=true:=(pre_splitW F).2
 obtain⟨d,r,rfl,h1,h2⟩:=hasAllW_cons O
 obtain rfl:=hasAllW_nil h2
 obtain⟨xs,rfl,Z⟩:=hasW_list h1
 obtain⟨ns,rfl⟩:=items_int Z
 have G:ns.length<=n:=by
  unfold OpenLaw.pre at W
  have J:(WTm.not (.lt (.lit (.int (n:Int))) (.len (.arg 0)))).holds [] { args:=[.list (ns.map .int)]}=true:=by
   have J:=(holds_andW W).1
   rw [Y]at J
   exact J
  have L:=condW_of J (w_not (w_lt w_lit (w_len_list (w_arg rfl))))
  rw [length_map]at L
  refine Nat.le_of_not_lt fun q=> ?_
  have q':(n:Int)<((ns.length:Nat):Int):=by omega
  first
   | (rw [decide_eq_true q']at L;exact absurd L (by decide))
   | (simp at L;omega)
 cases M with
 | cons w1 w2=>
   cases w2
   cases w1 with
   | list ho I=>exact⟨_,_,ns,rfl,rfl,ho,Mt ns _ I,G⟩
theorem Y5 (l:OpenLaw) (args:List WData):l.row.toRowW.claim.post args (.bool true) args=true:=
 postW_of (r:=l.row.toRowW) (X:=(true==true))
  (show WShape.has [] (.bool true) .bool=true by first | rfl | decide | simp [WShape.has,WShape.arms,WShape.armsAll])
  (show(WTm.eq .res (.lit (.bool true))).value [] { args:=args,res:=some (.bool true),after:=args}=some (.bool (true==true))from w_eq_bool (w_res rfl) w_lit) rfl
theorem Ti {l:OpenLaw}{n:Nat}{q:Program}{F:List Str}{XP:(Str->Option Value)->Heap->Prop}{YP:World->Heap->Prop}{d:DefRec}
 (hn:l.most=some n) (a0:d.params.defaults=[])
 (call:∀(w:World) (I y:Shared) (mg mb:Str->Option Value) (O:Addr) (o:Obj) (pm cd J:Value) (a:Addr) (M:List Value) (ns:List Int),
   Ground q F [] XP w I mg mb y.heap->YP w y.heap->
   y.heap.get? O=some o->o.data= .func (docDef d.name d.params d.body d.scope pm cd J)->y.heap.CodeRec cd d.name->mg d.name=some (.ref O)->
   y.heap.get? a=some { cls:= .type "list",data:= .seq M.toArray}->IntsAre M ns->ns.length<=n->y.gens= #[]->
   codeAny (model l.prog w) callerA (.call (.ref O) ⟨[.ref a],[]⟩) (fun r s'=>r= .ok (.ret (.bool true))/\OldK y.heap s'.heap/\s'.os=y.os/\AllBare s'.gens) y):
 WalkO q F XP YP l.row.toRowW d [] (fun f M=>PySem.call f M):=by
 intro w I y mg mb G Y O o pm cd J dV kV ho hd a1 hD a2 hg args a4 as U a5 a6 a3 a7
 obtain rfl:dV= .none:=Dflts.none hD a0
 obtain rfl:kV= .none:=Dflts.noKw hD
 obtain⟨a,M,ns,rfl,rfl,W,L,Z⟩:=Ze hn U a3
 refine enter_call (codeAny_mono (call w I y mg mb O o pm cd J a M ns G Y ho (fd_plain hd) a1 a2 W L Z hg) fun r s' hq=> ?_)
 obtain⟨rfl,h2,h3,h4⟩:=hq
 exact⟨.inl ⟨.bool true,.bool true,[],rfl,fun _=>rfl,.bool true,Y5 l _,fun _=>⟨Pairwise.nil,fun _ hm=>(nomatch hm)⟩⟩,h2,h3,h4⟩
end Att
namespace L2
open PySem PySem.Spec PyProof.Rows
theorem Sv:∀ {d:List Value}{ns:List Int},IntsAre d ns->Vals (ns.map V.int) d
 | _,_,.nil=> .nil
 | _,_,.cons n t h=> .cons ⟨t,rfl⟩ (Sv h)
def Only (H:Hp):Prop:=∀b,H b=none\/∃o xs,H b=some (.frz o (.lst xs))
end L2
/-THE LAST THEOREM (shape;LID,My.*are yours):
 My.Adr:a structure of the addresses that your layer names (classes,functions);My.Txt K t:a structure (Prop) of the equations over K;
 My.txt_mk:{K}{implicit addresses ..} (e1:nsIn K mainGlobals "law"=some (some (.ref f))) (e2:K.lookup f=some ⟨oc,od,.func (fnOf "law" "law" params body scope dV kV doc pm an cdv ct),sl⟩) (e3:codeIn K cdv "law"=true) .. :∃t,My.Txt K t
set_option maxRecDepth 100000 in
set_option maxHeartbeats 0 in
theorem PySem.Challenge.cw_LID_holds : PySem.Challenge.rw_LID.Holds := by
 w_on;o_law;k_head;(case hw=>w_witness2)
 k_fill
 refine L2.walk_of (l:=PySem.Challenge.rw_LID) (n:=63) (k:=40) (x:="script") (CX:=fun w=> ..) (sp:=fun _=>My.sp_law) rfl (by decide) rfl ⟨rfl,by decide,by decide⟩ (fun w h Y=>kIn_of Y) ?F ?S ?C
 case F=>
  intro w mg U h O G J
  have T:∃t,My.Txt (L2.KOf O) t:=by
   dsimp only [L2.KOf]                          --K must stand as «<heap const>w.params» for d
   refine' My.txt_mk ?e1 ?e2 ?e3 ..
   (case e1=>PySem.W.k_is)                    --in y order:a name->its address->its object->its parts
   (case e2=>PySem.W.k_is)
   ..
  obtain⟨t,T⟩:=T
  have Z:=J.symm.trans (mg_of O G T.law)
  cases Z                                       --U is y law's own address
  exact⟨_,fun s u=> .of_eq rfl,fun base L M=>My.law_fn T L M⟩     --if «.of_eq rfl» comes too early:refine' ⟨_,?b,fun base L M=>My.law_fn T L M⟩;exact fun s u=> .of_eq rfl
 case S=>exact fun w H a ns hl hO hS=> ..
 case C=>exact ..
(y I d has no q:write d)-/
namespace L2
open PySem PySem.Spec PyProof.Rows
def Jg (s:Stmt):Arguments:=match s with
 | .FunctionDef _ a _ _ _ _ _ _ _ _=>a
 | _=>{ posonlyargs:=[],args:=[],vararg:=none,kwonlyargs:=[],kw_defaults:=[],kwarg:=none,defaults:=[]}
def G7 (s:Stmt):List Stmt:=match s with
 | .FunctionDef _ _ b _ _ _ _ _ _ _=>b
 | _=>[]
def Ak (s:Stmt):Scope:=match s with
 | .FunctionDef _ _ _ _ _ _ sc _ _ _=>sc
 | _=>{ kind:= .function,names:=[],isGenerator:=false,isCoroutine:=false}
abbrev CX0:CXT:=fun _ _ _ _ _ _=>False
abbrev E0:XK:=fun _ _ _=>False
theorem Ag5 {X:Cx}:Passes CX0 X E0:=fun _ _ _ _ _ _ _ h=>h.elim
structure Fun (K:Frag) (x qual:Str) (st:Stmt) (f:Addr) (fd:FuncData):Prop where
 ex:∃(oc:Value) (od:Option Addr) (kV doc pm:Value) (an:Option Addr) (cdv ct:Value) (osl:Array (Option Value)),
  fd=PySem.W.fnOf x qual (Jg st) (G7 st) (Ak st) .none kV doc pm an cdv ct/\K.lookup f=some ⟨oc,od,.func fd,osl⟩/\PySem.W.codeIn K cdv qual=true
 kp:keepIn K (.ref f)=true
section
variable {P:Program}{w:World}{K:Frag}{mg:Str->Option Value}{base:Heap}
theorem Fun.ok {x qual:Str}{st:Stmt}{f:Addr}{fd:FuncData}{N ps:List Str}{k:Nat}{sp:Sp} (F:Fun K x qual st f fd) (S:Bg N ps (Ak st)) (I:∀y H Q E,sp y H Q E->y.length=ps.length)
 (G:∀(d:Value) (A:Around) (outer:List Env) (s:Shared) (H:Hp) (y:List V) (Q:VK) (E:XK),J8 k (A.deeper (envOfC qual (Ak st) s.heap.objs.size f d))->sp y H Q E->
   ∃t,PSs (Sw CX0 P w K mg base N qual (Ak st) f d A outer s H E).nox (G7 st) t/\t { nx:=fun _ H'=>Q .non H',rt:=Q} (start N y) H):Ny P w K mg base CX0 (k+1) f fd ps sp:=by
 obtain⟨Y,Z,kV,M,pm,an,d,ct,O,rfl,U,J⟩:=F.ex
 refine Aeq U J S I fun A outer s H y Q E W L=> ?_
 obtain⟨t,h,q⟩:=G d A outer s H y Q E W L
 exact⟨t,h.nox,q⟩
theorem Fun.binds {x qual:Str}{st:Stmt}{f:Addr}{fd:FuncData}{ps:List Str} (F:Fun K x qual st f fd)
 (h:∀(kV d y:Value) (G:Option Addr) (q ct:Value) (I:List Value),I.length=ps.length->bindArgs (PySem.W.fnOf x qual (Jg st) (G7 st) (Ak st) .none kV d y G q ct) ⟨I,[]⟩=pure (ps.zip I)):Binds K fd ps []:=by
 obtain⟨M,O,kV,d,y,G,q,ct,J,rfl,U,L⟩:=F.ex
 exact .all (h kV d y G q ct)
theorem Abr {x qual:Str}{st:Stmt}{f:Addr}{I:Value}{J F:Option Addr}{y:Array (Option Value)}{kV q G d ct:Value} (l:K.lookup f=some ⟨I,J,.func (PySem.W.fnOf x qual (Jg st) (G7 st) (Ak st) .none kV q G F d ct),y⟩)
 (c:PySem.W.codeIn K d qual=true) (k:keepIn K (.ref f)=true):Fun K x qual st f (PySem.W.fnOf x qual (Jg st) (G7 st) (Ak st) .none kV q G F d ct):=⟨⟨I,J,kV,q,G,F,d,ct,y,rfl,l,c⟩,k⟩
end
section
variable {X:Cx}
theorem pv (i:Nat) {x:Str}{pos:Pos} (q:X.N[i]? =some x:=by rfl) (y:Vis X.env.scope x:=by first | exact Or.inl rfl | exact Or.inr (Or.inl rfl) | exact Or.inr (Or.inr rfl)) (F:(x==("__debug__":Str))=false:=by decide)
 (d:(x==("__classdict__":Str))=false:=by decide):PE X (.Name x pos) (W5 i):=Afe q y F d
end
def Same (H H':Hp):Prop:=∀b o,H b=some o->H' b=some o
theorem Same.refl (H:Hp):Same H H:=fun _ _ h=>h
theorem Same.trans {H H1 H2:Hp} (a:Same H H1) (b:Same H1 H2):Same H H2:=fun c o h=>b c o (a c o h)
theorem Same.free {H H':Hp} (e:Same H H') {l:Addr} (h:H' l=Option.none):H l=Option.none:=by
 cases q:H l with
 | none=>rfl
 | some o=>
   rw [e l o q]at h
   cases h
theorem Same.seq {K:Frag}{H H':Hp}{a:Addr}{xs:List V} (e:Same H H') (h:SqL K H a xs):SqL K H' a xs:=by
 rcases h with(h | ⟨o,h⟩) | h
 . exact .inl (.inl (e _ _ h))
 . exact .inl (.inr ⟨o,e _ _ h⟩)
 . exact .inr h
end L2
namespace L2
open PySem PySem.Spec PyProof.Rows
def Cal (P:Program) (w:World) (K:Frag) (mg:Str->Option Value) (base:Heap) (k:Nat) (x:Str) (ps:List Str) (sp:Sp):Prop:=
 ∃f fd,Ny P w K mg base CX0 k f fd ps sp/\mg x=some (.ref f)/\keepIn K (.ref f)=true/\Binds K fd ps []
structure Df (K:Frag) (mg:Str->Option Value) (x:Str) (st:Stmt) (ps:List Str) (f:Addr) (fd:FuncData):Prop where
 fn:Fun K x x st f fd
 bd:Binds K fd ps []
 at':mg x=some (.ref f)
theorem Df.cal {P:Program}{w:World}{K:Frag}{mg:Str->Option Value}{base:Heap}{k:Nat}{x:Str}{st:Stmt}{ps:List Str}{f:Addr}{fd:FuncData}{sp:Sp}
 (F:Df K mg x st ps f fd) (G:Ny P w K mg base CX0 k f fd ps sp):Cal P w K mg base k x ps sp:=⟨f,fd,G,F.at',F.fn.kp,F.bd⟩
theorem Cal.imp {P:Program}{w:World}{K:Frag}{mg:Str->Option Value}{base:Heap}{k:Nat}{x:Str}{ps:List Str}{sp d:Sp}
 (C:Cal P w K mg base k x ps sp) (h:∀q H Q E,d q H Q E->sp q H Q E):Cal P w K mg base k x ps d:=by
 obtain⟨f,fd,G,a,b,c⟩:=C
 exact⟨f,fd,G.imp h,a,b,c⟩
theorem Aau {X:Cx}{k:Nat}{x:Str}{ps:List Str}{sp:Sp}{p pos:Pos}{e:Expr}{es:List Expr}{t:TA}
 (C:Cal X.prog X.w X.K X.mg X.base k x ps sp) (y:J8 k X.A) (F:PA X (e::es) t) (I:Gl X x:=by rfl) (d:(x==("__debug__":Str))=false:=by decide)
 (J:starEach (e::es) X.env=(false,eval e X.env)::starEach es X.env:=by rfl) (q:(backTo pos (starEach es X.env)).any (·.1)=false:=by rfl):
 PE X (.Call (.Name x p) (e::es) [] pos) (Lf sp [] E0 t):=by
 obtain⟨f,fd,G,a,b,c⟩:=C
 exact Ac5 G y I a b c .nil Ag5 F d J q
def Sz (n:Nat) (a:Int):Prop:=a.natAbs<2^n
theorem Sz.mono {m n:Nat}{a:Int} (h:Sz m a) (l:m<=n):Sz n a:=lt_of_lt_of_le h (pow_le_pow_right (by decide) l)
theorem Sz.mul {m n:Nat}{a b:Int} (h:Sz m a) (g:Sz n b):Sz (m+n) (a*b):=by
 unfold Sz at*
 rw [natAbs_mul,Nat.pow_add]
 exact Nat.mul_lt_mul'' h g
theorem Sz.add {m n:Nat}{a b:Int} (h:Sz m a) (g:Sz n b):Sz (max m n+1) (a+b):=by
 have h1:Sz (max m n) a:=h.mono (Nat.le_max_left _ _)
 have h2:Sz (max m n) b:=g.mono (Nat.le_max_right _ _)
 unfold Sz at*
 have:=Int.natAbs_add_le a b
 rw [pow_succ]
 omega
theorem Sz.neg {n:Nat}{a:Int} (h:Sz n a):Sz n (-a):=by
 unfold Sz at*
 rw [natAbs_neg]
 exact h
theorem Sz.sub {m n:Nat}{a b:Int} (h:Sz m a) (g:Sz n b):Sz (max m n+1) (a-b):=by
 rw [Int.sub_eq_add_neg]
 exact h.add g.neg
theorem Sz.of_abs {n:Nat}{a b:Int} (h:Sz n b) (l:a.natAbs<=b.natAbs):Sz n a:=lt_of_le_of_lt l h
theorem Sz.mulOk {m n:Nat}{a b:Int} (h:Sz m a) (g:Sz n b) (l:m+n<=134217728):IntMulOk a b:=
 IntMulOk.of_le (PySem.intBits_le_iff.mpr h) (PySem.intBits_le_iff.mpr g) l
theorem Sz.log2 {n:Nat}{a:Int} (h:Sz n a) (d:a≠0) (l:n<=9000):a.natAbs.log2<9000:=
 lt_of_lt_of_le ((Nat.log2_lt (by omega)).mpr h) l
section
variable {X:Cx}{a b:Expr}{ta tb:TE}{pos:Pos}
theorem Dg:OpR X (binaryOp .Mult) (rI IntMulOk fun i j=> .int (i*j)):=opI fun _ _ _ _ _ _ _ d q=>mul_int q d
end
mutual
inductive RdD (K:Frag) (H:Hp):V->PyData->Prop where
 | non:RdD K H .non .none
 | bl (b:Bool):RdD K H (.bl b) (.bool b)
 | int (i:Int):RdD K H (.int i) (.int i)
 | str (x:Str):RdD K H (.str x) (.str x)
 | tup {a:Addr}{xs:List V}{ds:List PyData}:SqT K H a xs->S7 K H xs ds->RdD K H (.ref a) (.tuple ds)
 | lst {a:Addr}{xs:List V}{ds:List PyData}:SqL K H a xs->S7 K H xs ds->RdD K H (.ref a) (.list ds)
inductive S7 (K:Frag) (H:Hp):List V->List PyData->Prop where
 | nil:S7 K H [] []
 | cons {x:V}{d:PyData}{xs:List V}{ds:List PyData}:RdD K H x d->S7 K H xs ds->S7 K H (x::xs) (d::ds)
end
section
variable {X:Cx}{pins:List (Addr × Obj)}{σ:St}{H:Hp}{s:Shared}
mutual
theorem RdD.reads (I:Inv X pins σ H s):∀ {x:V}{d:PyData}{u:Value},RdD X.K H x d->RelV x u->∃as,Reads s.heap u d as
 | _,_,_,.non,r=>by cases r;exact⟨_,.none⟩
 | _,_,_,.bl b,r=>by cases r;exact⟨_,.bool b⟩
 | _,_,_,.int i,r=>by obtain⟨t,rfl⟩:=r;exact⟨_,.int i t⟩
 | _,_,_,.str x,r=>by obtain⟨t,rfl⟩:=r;exact⟨_,.str x t⟩
 | _,_,_,.tup hq hr,r=>by
   cases r
   obtain⟨its,rv,pl,hz⟩:=I.tuple hq
   obtain⟨as,q⟩:=S7.reads I hr rv
   obtain⟨o,ho,hc,n,hd⟩:=pl
   exact⟨_,.tuple ho hc hd (by simpa using q)⟩
 | _,_,_,.lst hq hr,r=>by
   cases r
   obtain⟨its,rv,pl,hz⟩:=I.list hq
   obtain⟨as,q⟩:=S7.reads I hr rv
   obtain⟨o,ho,hc,n,hd⟩:=pl.isList
   exact⟨_,.list ho hc hd (by simpa using q)⟩
theorem S7.reads (I:Inv X pins σ H s):∀ {xs:List V}{ds:List PyData}{us:List Value},S7 X.K H xs ds->Vals xs us->∃as,ReadsAll s.heap us ds as
 | _,_,_,.nil,r=>by cases r;exact⟨_,.nil⟩
 | _,_,_,.cons h t,r=>by
   cases r with
   | cons r1 r2=>
     obtain⟨as,q⟩:=RdD.reads I h r1
     obtain⟨bs,p⟩:=S7.reads I t r2
     exact⟨_,.cons q p⟩
end
end
theorem S7.ints {K:Frag}{H:Hp}:∀ns:List Int,S7 K H (ns.map V.int) (ns.map PyData.int)
 | []=> .nil
 | n::r=> .cons (.int n) (S7.ints r)
theorem RdD.ints {K:Frag}{H:Hp}{a:Addr}{ns:List Int} (h:SqT K H a (ns.map V.int)):RdD K H (.ref a) (.tuple (ns.map PyData.int)):= .tup h (.ints ns)
theorem RdD.lints {K:Frag}{H:Hp}{a:Addr}{ns:List Int} (h:SqL K H a (ns.map V.int)):RdD K H (.ref a) (.list (ns.map PyData.int)):= .lst h (.ints ns)
theorem U8:∀ns ms:List Int,PyData.eqvAll (ns.map PyData.int) (ms.map PyData.int)=decide (ns=ms)
 | [],[]=>by simp [PyData.eqvAll]
 | [],_::_=>by simp [PyData.eqvAll]
 | _::_,[]=>by simp [PyData.eqvAll]
 | a::r,b::t=>by
   simp only [map_cons,PyData.eqvAll,PyData.eqv,U8 r t]
   by_cases h:a=b<;>by_cases h':r=t<;>simp [h,h']
section
variable {X:Cx}
def Ab6 (K:Frag) (f:Bool->Bool):R2:=fun x y H Q=>∃d e,RdD K H x d/\RdD K H y e/\SeqAt.shaped d=true/\SeqAt.shaped e=true/\Q (.bl (f (PyData.eqv d e))) H
theorem Abx (F:X.A.units+64<cLine):OpR X (compareOp .Eq) (Ab6 X.K fun b=>b):=by
 intro pins s σ H x y v u Q I G J h
 obtain⟨d,e,L,M,O,U,q⟩:=h
 obtain⟨Z,W⟩:=RdD.reads I L G
 obtain⟨bs,Y⟩:=RdD.reads I M J
 exact eq_dataH W Y O U F ⟨.bl _,H,I,rfl,q⟩
theorem Gi (F:X.A.units+64<cLine):OpR X (compareOp .NotEq) (Ab6 X.K fun b=> !b):=by
 intro pins s σ H x y v u Q I G J h
 obtain⟨d,e,L,M,O,U,q⟩:=h
 obtain⟨Z,W⟩:=RdD.reads I L G
 obtain⟨bs,Y⟩:=RdD.reads I M J
 exact ne_dataH W Y O U F ⟨.bl _,H,I,rfl,q⟩
theorem Fo:Gq X (.builtin "isinstance") (fun xs H Q=>∃x t T b,xs=[x,.ty T]/\Qy X.K H x t/\kitOne X.K t (.type T)=some b/\Q (.bl b) H):=by
 intro pins s σ H xs J Q I r h
 obtain⟨x,t,T,b,rfl,d,y,q⟩:=h
 obtain⟨u,c,rfl,F,G⟩:=vals2 r
 cases G
 exact Yg I F d y fun tk=>⟨.bl b,H,I.tok tk,rfl,q⟩
end
theorem Same.tup {K:Frag}{H H':Hp}{a:Addr}{xs:List V} (e:Same H H') (h:SqT K H a xs):SqT K H' a xs:=by
 rcases h with(h | ⟨o,h⟩) | h
 . exact .inl (.inl (e _ _ h))
 . exact .inl (.inr ⟨o,e _ _ h⟩)
 . exact .inr h
theorem Same.upd {H:Hp}{p:Addr} (h:H p=none) (o:HO):Same H (upd H p o):=fun b u q=>by
 rw [Bs (Bo q h)]
 exact q
end L2
namespace L2
open PySem PySem.Spec PyProof.Rows
section
variable {X:Cx}{K:Frag}{σ:St}{H:Hp}{Q:VK}{D:Ends}{B:Bool->Hp->Prop}
theorem Aik {t u:TS}:Ago t u D σ H=t { D with nx:=u D} σ H:=rfl
theorem Aga:Adq D σ H=D.nx σ H:=rfl
theorem Ah7 {c:TT}{t u:TS}:Aho c t u D σ H=c σ H (fun b H1=>if b=true then t D σ H1 else u D σ H1):=rfl
theorem Aij {te:TE}:Aht te D σ H=te σ H D.rt:=rfl
theorem Af2 {te:TE}:Adp te D σ H=te σ H (fun _ H1=>D.nx σ H1):=rfl
theorem Ahx {te:TE}{g:TG}:Abd te g D σ H=te σ H (fun x H1=>g x σ H1 D.nx):=rfl
theorem Adx {i:Nat}{v:V}{R:St->Hp->Prop}:Ga i v σ H R=R (σ.set i (some v)) H:=rfl
theorem Aih {i j:Nat}{ta:TA}:Ahs i j ta D σ H=ta σ H (fun d H1=>∃v w,d=[v,w]/\D.nx ((σ.set i (some v)).set j (some w)) H1):=rfl
theorem Agg {v:V}{r:St}:W5 0 (some v::r) H Q=Q v H:=propext ⟨fun⟨_,e,h⟩=>by cases e;exact h,fun h=>⟨v,rfl,h⟩⟩
theorem Agh {i:Nat}{o:Option V}{r:St}:W5 (i+1) (o::r) H Q=W5 i r H Q:=rfl
theorem z_c {v:V}:tC v σ H Q=Q v H:=rfl
theorem Aif {r:R2}{ta tb:TE}:tOp r ta tb σ H Q=ta σ H (fun x H1=>tb σ H1 fun y H2=>r x y H2 Q):=rfl
theorem Aje {r:V->Hp->VK->Prop}{ta:TE}:tUn r ta σ H Q=ta σ H (fun x H1=>r x H1 Q):=rfl
theorem Aja {C:Int->Int->Prop}{g:Int->Int->V}{i j:Int}:rI C g (.int i) (.int j) H Q=(C i j/\Q (g i j) H):=
 propext ⟨fun⟨_,_,e,f,h⟩=>by cases e;cases f;exact h,fun h=>⟨i,j,rfl,rfl,h⟩⟩
theorem Aii {g:Int->Int->V}{i j:Int}:rI0 g (.int i) (.int j) H Q=Q (g i j) H:=
 propext ⟨fun⟨_,_,e,f,h⟩=>by cases e;cases f;exact h,fun h=>⟨i,j,rfl,rfl,h⟩⟩
theorem Ajb {g:Int->V}{i:Int}:rU g (.int i) H Q=Q (g i) H:=propext ⟨fun⟨_,e,h⟩=>by cases e;exact h,fun h=>⟨i,rfl,h⟩⟩
theorem Ah0 {i j:Int}:rEq (.int i) (.int j) H Q=Q (.bl (decide (i=j))) H:=by
 unfold rEq
 simp only [Ad4,V.int.injEq,true_and]
theorem Aic {i j:Int}:rNe (.int i) (.int j) H Q=Q (.bl (!decide (i=j))) H:=by
 unfold rNe
 simp only [Ad4,V.int.injEq,true_and]
theorem Ahz {i j:Bool}:rEq (.bl i) (.bl j) H Q=Q (.bl (decide (i=j))) H:=by
 unfold rEq
 simp only [Ad4,V.bl.injEq,true_and]
theorem Aib {i j:Bool}:rNe (.bl i) (.bl j) H Q=Q (.bl (!decide (i=j))) H:=by
 unfold rNe
 simp only [Ad4,V.bl.injEq,true_and]
theorem Zz {t:TE}:Zq t σ H B=t σ H (fun x H'=>∃k,x= .bl k/\B k H'):=rfl
theorem Ajd {t:TE}:tB t σ H B=t σ H (fun x H'=>∃k,x= .bl k/\B k H'):=rfl
theorem Ah2 {b:Bool}{p:Bool->Prop}:(∃k,V.bl b= .bl k/\p k)=p b:=propext ⟨fun⟨_,e,h⟩=>by cases e;exact h,fun h=>⟨b,rfl,h⟩⟩
theorem Ah4 {b:Int}{p:Int->Prop}:(∃k,V.int b= .int k/\p k)=p b:=propext ⟨fun⟨_,e,h⟩=>by cases e;exact h,fun h=>⟨b,rfl,h⟩⟩
theorem Ah1 {a b:V}{p:V->V->Prop}:(∃v w,[a,b]=[v,w]/\p v w)=p a b:=propext ⟨fun⟨_,_,e,h⟩=>by cases e;exact h,fun h=>⟨a,b,rfl,h⟩⟩
theorem Af3 {b:Int}{p:Int->Prop}:(∃k,[V.int b]=[.int k]/\p k)=p b:=propext ⟨fun⟨_,e,h⟩=>by cases e;exact h,fun h=>⟨b,rfl,h⟩⟩
theorem Af4 {a b:Int}{p:Int->Int->Prop}:(∃i j,[V.int a,V.int b]=[.int i,.int j]/\p i j)=p a b:=propext ⟨fun⟨_,_,e,h⟩=>by cases e;exact h,fun h=>⟨a,b,rfl,h⟩⟩
theorem Aie {t:TT}:Ahq t σ H B=t σ H (fun c H1=>B (!c) H1):=rfl
theorem Ahw {t u:TT}:Ahm t u σ H B=t σ H (fun c H1=>if c=true then u σ H1 B else B false H1):=rfl
theorem Ai9 {t u:TT}:tOr t u σ H B=t σ H (fun c H1=>if c=true then B true H1 else u σ H1 B):=rfl
theorem Afy {ta tb:TE}:Ado ta tb σ H Q=ta σ H (fun x H1=>∃c,x= .bl c/\if c=true then tb σ H1 Q else Q (.bl false) H1):=rfl
theorem Aig {ta tb:TE}:Ahr ta tb σ H Q=ta σ H (fun x H1=>∃c,x= .bl c/\if c=true then Q (.bl true) H1 else tb σ H1 Q):=rfl
theorem Agb {ta:TE}:Ads ta σ H Q=ta σ H (fun x H1=>∃c,x= .bl c/\Q (.bl (!c)) H1):=rfl
theorem Ai8 {t:TT}{ta tb:TE}:tIf t ta tb σ H Q=t σ H (fun c H1=>if c=true then ta σ H1 Q else tb σ H1 Q):=rfl
theorem Afz {sp:Sp}{dvs:List V}{E:XK}{t:TA}:Lf sp dvs E t σ H Q=t σ H (fun d H1=>sp (d++dvs) H1 Q E):=rfl
theorem Aid {R:List V->Hp->Prop}:Aca σ H R=R [] H:=rfl
theorem Af1 {te:TE}{t:TA}{R:List V->Hp->Prop}:Lg te t σ H R=te σ H (fun x H1=>t σ H1 fun xs H2=>R (x::xs) H2):=rfl
theorem Ai7 {r:List V->Hp->VK->Prop}{t:TA}:tCB r t σ H Q=t σ H (fun d H1=>r d H1 Q):=rfl
theorem Ail {t:TA}:Ahu t σ H Q=t σ H (fun xs H1=>xs.length<=sizeLine/\∀p,H1 p=none->Q (.ref p) (upd H1 p (.tup xs))):=rfl
theorem Aia {t:TA}:Ahp t σ H Q=t σ H (fun xs H1=>xs.length<=sizeLine/\∀p,H1 p=none->Q (.ref p) (upd H1 p (.lst xs))):=rfl
theorem Adw {r d:R2}{ta tb tc:TE}:Zn r d ta tb tc σ H Q=ta σ H (fun x H1=>tb σ H1 fun y H2=>r x y H2 fun z q=>∃k,z= .bl k/\(if k=true then tc σ q fun F G=>d y F G Q else Q (.bl false) q)):=rfl
theorem Cd {a:Addr}{xs:List V}{i:Int}{v:V} (h:SqT K H a xs) (e:atI xs i=some v) (q:Q v H):Ahf K (.ref a) (.int i) H Q:=⟨a,xs,i,v,rfl,rfl,h,e,q⟩
theorem Cq {a:Addr}{xs:List V}{i:Int}{v:V} (h:SqL K H a xs) (e:atI xs i=some v) (q:Q v H):Ad3 K (.ref a) (.int i) H Q:=⟨a,xs,i,v,rfl,rfl,h,e,q⟩
end
def Agp (_ j:Int):Prop:=0<j/\j.natAbs.log2<9000
theorem Lp {X:Cx}:OpR X (binaryOp .FloorDiv) (rI Agp fun i j=> .int (i/j)):=opI fun i j _ _ _ _ _ d q=>by
 have h:j≠0:=by have:=d.1;omega
 refine floordiv_int h ?_ (.inl (PyProof.noPylong_of_log2 d.2))
 rw [Int.fdiv_eq_ediv_of_nonneg _ (Int.le_of_lt d.1)]
 exact q
theorem Afp:(1:Nat)<=sizeLine:=by decide
theorem Afq:(2:Nat)<=sizeLine:=by decide
end L2
namespace L2
open PySem PySem.Spec PyProof.Rows
def clF (env:Env) (cs:List (Str × Addr)) (x:Str × NameKind):List (Str × Addr):=if x.2== .free then(x.1,(env.cells.lookup x.1).getD 0)::cs else cs
theorem Od {scope:Scope}{env:Env} (h:∀x∈scope.names,x.2= .free->∃c,env.cells.lookup x.1=some c):closureFor scope env=pure (scope.names.foldl (clF env) []):=by
 unfold closureFor
 have F:∀(names:List (Str × NameKind)) (d:List (Str × Addr)),(∀x∈names,x.2= .free->∃c,env.cells.lookup x.1=some c)->
  (forIn names d (fun(x:Str × NameKind) (L:List (Str × Addr))=>(if x.2== .free then(do let c<-cellOf env x.1;pure (ForInStep.yield ((x.1,c)::L)))else pure (ForInStep.yield L):Sem (ForInStep (List (Str × Addr))))))=(pure (names.foldl (clF env) d):Sem (List (Str × Addr))):=by
  intro names
  induction names with
  | nil=>intro d _;rfl
  | cons x r M=>
    intro d G
    rw [forIn_cons,foldl_cons]
    by_cases q:x.2= .free
    . obtain⟨c,O⟩:=G x mem_cons_self q
      have W:cellOf env x.1=pure c:=by unfold cellOf;rw [O]
      have I:clF env d x=(x.1,c)::d:=by unfold clF;rw [q,O];rfl
      rw [I,<-M _ fun y J=>G y (mem_cons_of_mem _ J)]
      rw [q,W]
      rfl
    . have U:(x.2==NameKind.free)=false:=by simpa using q
      have I:clF env d x=d:=by unfold clF;rw [U];rfl
      rw [I,<-M _ fun y J=>G y (mem_cons_of_mem _ J),U]
      rfl
 exact(congrArg (fun m=>m>>=fun r=>pure r) (F scope.names [] h)).trans (by rfl)
theorem Pb {env:Env}:∀(names:List (Str × NameKind)) (q:List (Str × Addr)) (y:Str) (c:Addr),(∀x∈names,x.2= .free->∃c,env.cells.lookup x.1=some c)->(names.foldl (clF env) q).lookup y=some c->q.lookup y=some c\/env.cells.lookup y=some c
 | [],_,_,_,_,h=> .inl h
 | x::r,q,y,c,hx,h=>by
   rw [foldl_cons]at h
   rcases Pb r _ y c (fun z I=>hx z (mem_cons_of_mem _ I)) h with h1 | h1
   . unfold clF at h1
     by_cases F:x.2= .free
     . obtain⟨d,G⟩:=hx x mem_cons_self F
       rw [F,G]at h1
       change lookup y ((x.1,d)::q)=some c at h1
       rw [lookup_cons]at h1
       cases hy:y==x.1 with
       | true=>
         rw [hy]at h1
         have:y=x.1:=by simpa using hy
         subst this
         exact .inr (G.trans h1)
       | false=>
         rw [hy]at h1
         exact .inl h1
     . have J:(x.2==NameKind.free)=false:=by simpa using F
       rw [J]at h1
       exact .inl h1
   . exact .inr h1
theorem Kc {env:Env}:∀(names:List (Str × NameKind)) (d:List (Str × Addr)) (y:Str),((∃x∈names,x.2= .free/\x.1=y)\/∃c,d.lookup y=some c)->∃c,(names.foldl (clF env) d).lookup y=some c
 | [],_,_,h=>by
   rcases h with⟨_,h,_⟩ | h
   . cases h
   . exact h
 | x::r,d,y,h=>by
   rw [foldl_cons]
   apply Kc r
   rcases h with⟨z,F,q,rfl⟩ | ⟨c,G⟩
   . rcases mem_cons.mp F with rfl | F
     . refine .inr ⟨(env.cells.lookup z.1).getD 0,?_⟩
       unfold clF
       rw [q]
       show lookup z.1 ((z.1,_)::d)=_
       rw [lookup_cons]
       simp
     . exact .inl ⟨z,F,q,rfl⟩
   . refine .inr ?_
     unfold clF
     by_cases q:x.2= .free
     . rw [q]
       show ∃c,lookup y ((x.1,_)::d)=some c
       rw [lookup_cons]
       cases y==x.1 with
       | true=>exact⟨_,rfl⟩
       | false=>exact⟨c,G⟩
     . have I:(x.2==NameKind.free)=false:=by simpa using q
       rw [I]
       exact⟨c,G⟩
theorem Kv {prog:Program}{w:World}{A:Around}{R:Result->Shared->Prop}{s:Shared}{elt target iter:Expr}{ifs:List Expr}{scope:Scope}{pos:Pos}{it O:Value}{env:Env} (I:Nat->Shared->Prop)
 (W:∀n s,I n s->wpAny (model prog w) A (pyNext it) (fun r d=>match r with
   | none=>R (.ok .next) d
   | some v=>wpAny (model prog w) A (letOwnedTupleGo target it v) (fun _ y=>wpAny (model prog w) A (assign target env v) (fun _ F=>
      wpAny (model prog w) A (forIn ifs true fun c r=>if r=true then do let ok<-isTrue c env (eval c env);pure (ForInStep.yield ok)else pure (ForInStep.yield r)) (fun ok q=>
       if ok=true then wpAny (model prog w) A (eval elt env) (fun x G=>
        wpAny (model prog w) A (call (.builtin "list.append") [O,x]) (fun _ J=>∃m,m<n/\I m J) (fun _ _=>False) G) (fun _ _=>False) q
       else ∃m,m<n/\I m q) (fun _ _=>False) F) (fun _ _=>False) y) (fun _ _=>False) d) (fun _ _=>False) s)
 (n:Nat) (h:I n s):
 codeAny (model prog w) A (.compLoop (.ListComp elt [⟨target,iter,ifs,0⟩] scope pos) 0 it O env) R s:=by
 have U:∀(x:Value) (s':Shared),False->notedBy (model prog w) A env (fun e s'=>R (.error e) s') x s':=fun _ _ z=>z.elim
 refine codeAny_loop rfl I (fun n s hI=> ?_) n h
 show wpAny _ A ((compTurn (.ListComp elt [⟨target,iter,ifs,0⟩] scope pos) 0 it O env).onRaise (fun x=>do noteFrame x env;theTreesLotGoes x)) _ _ s
 refine wpAny_noted ?_
 rw [compTurn_list]
 refine wpAny_bind (wpAny_standAt (wpAny_bind (wpAny_mono (W n s hI) (fun r d L=> ?_) U)))
 cases r with
 | none=>exact wpAny_pure L
 | some v=>
   refine wpAny_bind (wpAny_mono L (fun _ y Y=> ?_) U)
   refine wpAny_bind (wpAny_mono Y (fun _ F Z=>wpAny_bind (wpAny_mono Z (fun ok q M=> ?_) U)) U)
   cases ok with
   | false=>exact wpAny_pure ⟨rfl,M⟩
   | true=>
     exact wpAny_bind (wpAny_bind (wpAny_mono M (fun x G a0=>wpAny_bind (wpAny_mono a0 (fun _ J a1=>wpAny_pure (wpAny_pure ⟨rfl,a1⟩)) U)) U))
def cxC (X:Cx) (N:List Str) (scope:Scope) (ex:List Addr) (s:Shared) (H:Hp):Cx where
 prog:=X.prog
 w:=X.w
 K:=X.K
 mg:=X.mg
 base:=X.base
 A:=X.A
 N:=N
 s₀:=s
 H₀:=H
 env:=compEnvC scope (scope.names.foldl (clF X.env) []) s.heap.objs.size X.env
 outer:=X.stack
 stack:=X.stack
 ex:=ex
 fn:=fun _=>false
 calm:=X.calm
 pn:=[]
 xe:=fun _ _=>False
structure Bb (X:Cx) (ts:List Str) (fs:List (Nat × Str)) (scope:Scope):Prop where
 kind:scope.kind= .function
 cell:∀y∈scope.names,y.2≠ .cell
 names:∀y∈scope.names,y.2= .local ->scope.names.lookup y.1=some .local
 free:∀y∈scope.names,y.2= .free->X.env.kindOf y.1=some .cell\/X.env.kindOf y.1=some .free
 at':∀p∈fs,X.N[p.1]? =some p.2/\(p.2,NameKind.free)∈scope.names/\((relabel scope X.env).names.lookup p.2=some .cell\/(relabel scope X.env).names.lookup p.2=some .free)
def rlb (sc scope:Scope):List (Str × NameKind):=scope.names.map fun(n,k)=>if(k==NameKind.free&&sc.kind== .function&&sc.names.lookup n==some .cell)then(n,NameKind.cell)else(n,k)
def Agy (sc:Scope) (N:List Str) (fs:List (Nat × Str)) (scope:Scope):Bool:=
 (scope.kind== .function)&&(scope.names.all fun y=>y.2 != .cell)&&(scope.names.all fun y=>y.2 != .local ||scope.names.lookup y.1==some .local)&&
 (scope.names.all fun y=>y.2 != .free||(sc.names.lookup y.1==some .cell||sc.names.lookup y.1==some .free))&&
 fs.all fun p=>N[p.1]? ==some p.2&&(scope.names.contains (p.2,NameKind.free)&&((rlb sc scope).lookup p.2==some .cell||(rlb sc scope).lookup p.2==some .free))
theorem Bb.of {X:Cx}{ts:List Str}{fs:List (Nat × Str)}{scope sc:Scope}{N:List Str} (q:X.env.scope=sc) (F:X.N=N) (h:Agy sc N fs scope=true):Bb X ts fs scope:=by
 unfold Agy at h
 simp only [and_eq_true,all_eq_true,or_eq_true,bne_iff_ne,beq_iff_eq,contains_iff_mem]at h
 obtain⟨⟨⟨⟨h1,h2⟩,G⟩,I⟩,J⟩:=h
 refine⟨h1,h2,fun y d e=> ?_,fun y d e=> ?_,fun p L=> ?_⟩
 . rcases G y d with z | z
   . exact absurd e z
   . exact z
 . rcases I y d with z | z
   . exact absurd e z
   . show X.env.scope.names.lookup y.1=_\/X.env.scope.names.lookup y.1=_
     rw [q]
     exact z
 . obtain⟨a,b,c⟩:=J p L
   refine⟨by rw [F];exact a,b,?_⟩
   subst q
   exact c
def cpN (ts:List Str) (fs:List (Nat × Str)):List Str:=ts++fs.map (·.2)
def cpσ (n:Nat) (fs:List (Nat × Str)) (σ:St):St:=replicate n none++fs.map fun p=>(σ[p.1]?).join
theorem Gk {env:Env}{x:Str}{q:NameKind}:∀ {names:List (Str × NameKind)},(names.map fun(n,k)=>if(k==NameKind.free&&env.scope.kind== .function&&env.kindOf n==some .cell)then(n,NameKind.cell)else(n,k)).lookup x=some q->
 ∃k,(x,k)∈names/\(q=k\/(k= .free/\q= .cell))
 | [],h=>by simp at h
 | (n,k)::r,h=>by
   rw [map_cons]at h
   dsimp only at h
   by_cases d:(k==NameKind.free&&env.scope.kind== .function&&env.kindOf n==some .cell)=true
   . rw [if_pos d,lookup_cons]at h
     cases hx:x==n with
     | true=>
       rw [hx]at h
       have e:x=n:=by simpa using hx
       subst e
       have F:k= .free:=by
        rw [and_eq_true,and_eq_true]at d
        simpa using d.1.1
       exact⟨k,mem_cons_self,.inr ⟨F,(Option.some.inj h).symm⟩⟩
     | false=>
       rw [hx]at h
       obtain⟨y,h1,h2⟩:=Gk h
       exact⟨y,mem_cons_of_mem _ h1,h2⟩
   . rw [if_neg d,lookup_cons]at h
     cases hx:x==n with
     | true=>
       rw [hx]at h
       have e:x=n:=by simpa using hx
       subst e
       exact⟨k,mem_cons_self,.inl (Option.some.inj h).symm⟩
     | false=>
       rw [hx]at h
       obtain⟨y,h1,h2⟩:=Gk h
       exact⟨y,mem_cons_of_mem _ h1,h2⟩
def PTs (X:Cx) (ifs:List Expr) (t:TT):Prop:=
 ∀(pins:List (Addr × Obj)) (s:Shared) (σ:St) (H:Hp) (B:Bool->Hp->Prop),Inv X pins σ H s->t σ H B->
   wpAny (model X.prog X.w) X.A (forIn ifs true fun c r=>if r=true then do let ok<-isTrue c X.env (eval c X.env);pure (ForInStep.yield ok)else pure (ForInStep.yield r)) (TP X pins σ B) X.xe s
def Gy:TT:=fun _ H B=>B true H
theorem Ade {X:Cx}:PTs X [] Gy:=fun _ _ _ H _ I h=>wpAny_pure ⟨H,I,h⟩
theorem Adf {X:Cx}{c:Expr}{t:TT} (h:PT X c t):PTs X [c] t:=by
 intro pins s σ H B I d
 rw [forIn_cons]
 simp only [if_true]
 refine wpAny_bind (wpAny_bind (thn (h pins s σ H B I d) fun b y q=>wpAny_pure ?_))
 exact wpAny_pure q
def Kp (σ σ':St):Prop:=σ'.length=σ.length/\∀(i:Nat) v,σ[i]? =some (some v)->σ'[i]? =some (some v)
def cIn (J:It) (cσ:St) (g:TG) (tt:TT) (te:TE) (Q:VK) (H1:Hp) (p:Addr):Prop:=∃W:Nat->Nat->List V->Hp->Prop,(∃m,W 0 m [] (upd H1 p (.lst [])))/\∀i m acc H2,W i m acc H2->
 (J.stop i H2/\Q (.ref p) H2)\/(J.go i H2/\∀x H3,J.yld i H2 x H3->g x cσ H3 fun σ4 H4=>Kp cσ σ4/\tt σ4 H4 fun b H5=>
   if b=true then te σ4 H5 fun y H6=>H6 p=some (.lst acc)/\acc.length<sizeLine/\∃m',m'<m/\W (i+1) m' (acc++ [y]) (upd H6 p (.lst (acc++ [y])))else ∃m',m'<m/\W (i+1) m' acc H5)
def Qn (n:Nat) (fs:List (Nat × Str)) (wi:TI) (g:TG) (tt:TT) (te:TE):TE:=fun σ H Q=>wi σ H fun J H1=>∀p,H1 p=none->cIn J (cpσ n fs σ) g tt te Q H1 p
section
variable {X:Cx}{elt tg iter:Expr}{ifs:List Expr}{scope:Scope}{pos:Pos}{wi:TI}{g:TG}{tt:TT}{te:TE}{ts:List Str}{fs:List (Nat × Str)}
theorem Bb.clos (S:Bb X ts fs scope) (ok:X.Ok):∀x∈scope.names,x.2= .free->∃c,X.env.cells.lookup x.1=some c:=fun x d q=>ok.has x.1 (S.free x d q)
theorem Bb.sub (S:Bb X ts fs scope) (ok:X.Ok) {y:Str}{c:Addr} (h:(scope.names.foldl (clF X.env) []).lookup y=some c):X.env.cells.lookup y=some c:=by
 rcases Pb scope.names [] y c (S.clos ok) h with z | z
 . simp at z
 . exact z
theorem Wd {pins:List (Addr × Obj)}{σ:St}{H:Hp}{J s4:Shared}{ex:List Addr} (S:Bb X ts fs scope) (I:Inv X pins σ H J)
 (F:∀b∈ex,Nx X pins H b/\∃o,J.heap.get? b=some o) (a0:s4.os=J.os) (hg:s4.gens=J.gens) (Y:∀b u,J.heap.get? b=some u->s4.heap.get? b=some u)
 (hn:s4.heap.Ns J.heap.objs.size fun _=>none):Inv (cxC X (cpN ts fs) scope ex J H) [] (cpσ ts.length fs σ) H s4:=by
 have ok:=I.ok
 have a4:∀b∈ex,b≠J.heap.objs.size:=fun b G=>by
  obtain⟨_,o,M⟩:=F b G
  exact ne_of_lt (Heap.lt_size M)
 refine⟨⟨ok.mod,S.kind,ok.glob,ok.blt,le_refl _,fun y z c h1 h2=>ok.inj y z c (S.sub ok h1) (S.sub ok h2),fun y O=> ?_,fun y c h _=>absurd h (by intro z;cases z),ok.hd,ok.frames,.inl rfl,fun b G=>⟨a4 b G,fun x c e=>(F b G).1.2.2.2.2.1 x c (S.sub ok e)⟩,
  I.bs,le_trans ok.bsz I.sz,fun b o e G=> ?_,fun b G=> ?_,I.stack,I.stkFree⟩,a0,by rw [hg];exact I.bare,Un.kept Y,⟨_,hn,fun i x v h1 h2 h3=> ?_⟩,fun y c e=> ?_,I.hok.fresh (le_refl _),fun y c e=>I.freeC y c (S.sub ok e),
  fun p hp=>absurd (show p∈([]:List (Addr × Obj))from hp) (by simp),I.hok.kept Y,?_⟩
 . have z:∃Z,(Z=NameKind.cell\/Z= .free)/\(scope.names.map fun(n,k)=>if(k==NameKind.free&&X.env.scope.kind== .function&&X.env.kindOf n==some .cell)then(n,NameKind.cell)else(n,k)).lookup y=some Z:=by
    rcases O with O | O
    . exact⟨_,.inl rfl,O⟩
    . exact⟨_,.inr rfl,O⟩
   obtain⟨Z,a5,hl⟩:=z
   obtain⟨k,hm,h2⟩:=Gk hl
   have hf:k= .free:=by
    rcases h2 with e | ⟨e,_⟩
    . subst e
      rcases a5 with e | e
      . exact absurd e (S.cell _ hm)
      . exact e
    . exact e
   exact Kc scope.names [] y (.inl ⟨_,hm,hf,rfl⟩)
 . rcases(F b G).1.2.2.2.1 with z | z
   . exact ok.noex b o e z
   . exact absurd (lt_of_lt_of_le (Heap.lt_size e) (le_trans ok.bsz z)) (lt_irrefl _)
 . intro a6
   rcases mem_cons.mp (I.stkSub b a6)with e | e
   . exact(F b G).1.2.1 e
   . exact(F b G).1.2.2.1 e
 . unfold cpσ at h2
   by_cases hi:i<ts.length
   . rw [getElem?_append_left (by simpa using hi),getElem?_replicate]at h2
     split at h2<;>cases h2
   . rw [getElem?_append_right (by simpa using hi),length_replicate]at h2
     have d:(cpN ts fs)[i]? =some x:=h1
     unfold cpN at d
     rw [getElem?_append_right (by omega)]at d
     rw [getElem?_map]at d h2
     cases e:fs[i-ts.length]? with
     | none=>rw [e]at d;cases d
     | some p=>
       rw [e]at d h2
       have ex':p.2=x:=Option.some.inj d
       have U:(σ[p.1]?).join=some v:=Option.some.inj h2
       have e3:σ[p.1]? =some (some v):=by
        cases q:σ[p.1]? with
        | none=>rw [q]at U;cases U
        | some o=>rw [q]at U;cases o with | none=>cases U | some v'=>cases U;rfl
       obtain⟨a1,a2,a3⟩:=S.at' p (List.mem_of_getElem? e)
       obtain⟨m,_,hl⟩:=I.loc
       have kd:=S.free _ a2 rfl
       have a7:Vis X.env.scope p.2:=by
        rcases kd with z | z
        . exact .inr (.inl z)
        . exact .inr (.inr z)
       obtain⟨u,r,l⟩:=hl p.1 p.2 v a1 e3 a7
       refine⟨u,r,?_⟩
       rcases l with⟨z,_⟩ | ⟨_,c,hc,L⟩
       . rcases kd with q | q
         . rw [q]at z;cases z
         . rw [q]at z;cases z
       . obtain⟨c',W⟩:=Kc (env:=X.env) scope.names [] p.2 (.inl ⟨_,a2,rfl,rfl⟩)
         have ec:c'=c:=Option.some.inj ((S.sub ok W).symm.trans hc)
         subst ec
         subst ex'
         refine .inr ⟨?_,c',W,?_⟩
         . exact a3
         . obtain⟨o,M,hd⟩:=L
           exact⟨o,Y _ _ M,hd⟩
 . obtain⟨v,o,M,hd⟩:=I.cell y c (S.sub ok e)
   exact⟨v,o,Y _ _ M,hd⟩
 . unfold cpσ
   show _=(cpN ts fs).length
   unfold cpN
   simp
theorem U0 {pins:List (Addr × Obj)}{σ M:St}{H H':Hp}{d G:Shared}{h':Heap}{ex:List Addr} (S:Bb X ts fs scope) (I:Inv X pins σ H d) (F:∀b∈ex,Nx X pins H b)
 (J:Inv (cxC X (cpN ts fs) scope ex d H) [] M H' G) (W:Heap.SameBut d.heap.objs.size G.heap h'):Inv X pins σ H' { G with heap:=h'}:=by
 have U:H' d.heap.objs.size=none:=J.free
 have old:∀b o,b≠d.heap.objs.size->G.heap.get? b=some o->h'.get? b=some o:=fun b o y e=>W.extBut b o y e
 have lt:∀b o,d.heap.get? b=some o->b≠d.heap.objs.size:=fun b o e=>ne_of_lt (Heap.lt_size e)
 have u:Un (frs X.stack) ex H H' d.heap G.heap:=J.base
 have Y:Un (frs X.stack) ex H H' d.heap h':=
  ⟨fun b o e n y L=>old b o (lt b o e) (u.keep b o e n y L),fun b o e n y L=>by
   obtain⟨Z,q⟩:=u.slot b o e n y L
   exact⟨Z,old b _ (lt b o e) q⟩,u.free,fun b o e L=>by
   obtain⟨o',q⟩:=u.there b o e L
   exact⟨o',old b o' (lt b o e) q⟩,u.tups,u.frzs,u.tbls⟩
 have O:HOk X.prog X.w H' h':=fun b o e=>by
  have nb:b≠d.heap.objs.size:=fun z=>by rw [z,U]at e;cases e
  refine(J.hok b o e).stay (fun c v hc q=>old c v ?_ q) (fun _ q=>q) fun _ _ q=>q
  rcases hc with z | z
  . rw [z];exact nb
  . intro z2;rw [z2,U]at z;cases z
 exact I.call' (s':={ G with heap:=h'}) (ch:=ex) J.os Y O J.bare fun b y=>⟨(F b y).2.2.2.1,(F b y).2.1,(F b y).2.2.2.2.1,(F b y).2.2.2.2.2⟩
theorem Inv.fade {pins:List (Addr × Obj)}{σ d:St}{H:Hp}{s:Shared} (I:Inv X pins d H s) (k:Kp σ d):Inv X pins σ H s:=by
 refine⟨I.ok,I.os,I.bare,I.base,?_,I.cell,I.free,I.freeC,I.pin,I.hok,k.1.symm.trans I.len⟩
 obtain⟨m,q,y⟩:=I.loc
 exact⟨m,q,fun i x v h1 h2 F=>y i x v h1 (k.2 i v h2) F⟩
theorem Aah {pins:List (Addr × Obj)}{σ:St}{G:Hp}{I s4:Shared}{Q:VK}{R:Result->Shared->Prop}{fp:List Addr}{it p:Addr}{tn:Nat->Heap->Prop}{J:It}{W:Nat->Nat->List V->Hp->Prop}{m0:Nat} (hc:X.calm=true) (S:Bb X ts fs scope)
 (hg:∀ex s H,PG (cxC X (cpN ts fs) scope ex s H) tg g) (ht:∀ex s H,PTs (cxC X (cpN ts fs) scope ex s H) ifs tt) (he:∀ex s H,PE (cxC X (cpN ts fs) scope ex s H) elt te)
 (I3:Inv X pins σ G I) (T:Turn X.prog X.w X.K tg J fp it tn) (Z:∀b∈fp,Nx X pins G b) (lt:∀b∈fp,b<I.heap.objs.size)
 (I4:Inv (cxC X (cpN ts fs) scope fp I G) [] (cpσ ts.length fs σ) G s4) (a9:tn 0 s4.heap) (w0:W 0 m0 [] G)
 (aa:∀Y s6,Inv (cxC X (cpN ts fs) scope fp I G) [] (cpσ ts.length fs σ) Y s6->Q (.ref p) Y->R (.ok .next) s6)
 (a3:∀i m F H2,W i m F H2->(J.stop i H2/\Q (.ref p) H2)\/(J.go i H2/\∀x G,J.yld i H2 x G->g x (cpσ ts.length fs σ) G fun a1 H4=>Kp (cpσ ts.length fs σ) a1/\tt a1 H4 fun b Y=>
   if b=true then te a1 Y fun y H6=>H6 p=some (.lst F)/\F.length<sizeLine/\∃M,M<m/\W (i+1) M (F++ [y]) (upd H6 p (.lst (F++ [y])))else ∃M,M<m/\W (i+1) M F Y)):
 codeAny (model X.prog X.w) X.A (.compLoop (.ListComp elt [⟨tg,iter,ifs,0⟩] scope pos) 0 (.ref it) (.ref p) (cxC X (cpN ts fs) scope fp I G).env) R s4:=by
 have O:∀ {H':Hp},(∀b∈fp,H' b=none)->∀b∈fp,Nx (cxC X (cpN ts fs) scope fp I G) [] H' b:=fun hn b L=>
  ⟨hn b L,ne_of_lt (lt b L),fun z=>(mem_cons.mp (I3.stkSub b z)).elim (Z b L).2.1 (Z b L).2.2.1,.inl L,fun x c e=>(Z b L).2.2.2.2.1 x c (S.sub I3.ok e),fun q hq=>absurd (show q∈([]:List (Addr × Obj))from hq) (by simp)⟩
 refine Kv (fun n s'=>∃i F H',Inv (cxC X (cpN ts fs) scope fp I G) [] (cpσ ts.length fs σ) H' s'/\tn i s'.heap/\(∀b∈fp,H' b=none)/\W i n F H') ?_ m0 ⟨0,[],G,I4,a9,fun b L=>(Z b L).1,w0⟩
 rintro n s5 ⟨i,F,Y,I5,a4,a5,w5⟩
 rcases a3 i n F Y w5 with⟨a6,q⟩ | ⟨go,step⟩
 . refine thn (T.done (cxC X (cpN ts fs) scope fp I G) rfl rfl rfl hc i [] s5 _ Y _ I5 (O a5) a4 a6) fun r s6 ⟨hr,I6⟩=> ?_
   subst hr
   exact aa Y s6 I6 q
 . refine thn (T.item (cxC X (cpN ts fs) scope fp I G) rfl rfl rfl hc i [] s5 _ Y _ I5 (O a5) a4 go) fun r s6 ⟨u,hr,h6⟩=> ?_
   subst hr
   refine thn h6 fun _ s7 ⟨x,H7,I7,r7,y7,a2,ac⟩=> ?_
   have ad:=I7.pinned (O ac) (T.obj _ _ a2)
   refine thn (hg fp I G _ s7 _ H7 x u _ ad r7 (step x H7 y7)) fun _ s8 ⟨a0,H8,I8,kp,q8⟩=> ?_
   have again:∀ {H9:Hp}{s9:Shared}{U:List V}{M:Nat},Inv (cxC X (cpN ts fs) scope fp I G) ([]++Om fp s7.heap) a0 H9 s9->M<n->W (i+1) M U H9->
    ∃m,m<n/\∃i F H',Inv (cxC X (cpN ts fs) scope fp I G) [] (cpσ ts.length fs σ) H' s9/\tn i s9.heap/\(∀b∈fp,H' b=none)/\W i m F H':=fun {H9 s9 U M} I9 hm w9=>by
    refine⟨M,hm,i+1,U,H9,(I9.fade kp).unpinned,T.keep _ _ _ a2 fun b L o e=>(I9.pin (b,o) (mem_append_right _ (mem_append_right _ (Ew L e)))).1,fun b L=> ?_,w9⟩
    obtain⟨o,e,d⟩:=T.obj _ _ a2 b L
    exact(I9.pin (b,o) (mem_append_right _ (mem_append_right _ (Ew L e)))).2.1
   refine thn (ht fp I G _ s8 a0 H8 _ I8 q8) fun ok s9 ⟨H9,I9,q9⟩=> ?_
   cases ok with
   | false=>
     rw [if_neg Bool.false_ne_true]at q9 ⊢
     obtain⟨M,hm,w9⟩:=q9
     exact again I9 hm w9
   | true=>
     rw [if_pos rfl]at q9 ⊢
     refine thn (he fp I G _ s9 a0 H9 _ I9 q9) fun y ae ⟨yv,ag,ah,ai,a7,a8,M,hm,aj⟩=> ?_
     exact thn (Dq _ ae a0 ag (.ref p) [yv] (.ref p) [y] _ ah rfl (.cons ai .nil) ⟨p,F,yv,rfl,rfl,a7,a8,aj⟩) fun _ am ⟨_,an,ak,_,al⟩=>again ak hm al
set_option maxHeartbeats 2000000 in
theorem Oe {U:Pos}{pins:List (Addr × Obj)}{σ:St}{H:Hp}{s:Shared}{Q:VK}{QQ:Value->Shared->Prop}{use:Option (Value->Sem Unit)} (hc:X.calm=true) (S:Bb X ts fs scope) (hi:PI X tg iter wi) (hg:∀ex s H,PG (cxC X (cpN ts fs) scope ex s H) tg g) (ht:∀ex s H,PTs (cxC X (cpN ts fs) scope ex s H) ifs tt)
 (he:∀ex s H,PE (cxC X (cpN ts fs) scope ex s H) elt te) (hs:∀x,foldedSetIterable iter X.env x=pure x) (I:Inv X pins σ H s) (h:Qn ts.length fs wi g tt te σ H Q)
 (a3:∀(H3:Hp) (s3:Shared) (fp:List Addr) (p:Addr) (H5:Hp) (s6:Shared),Inv X pins σ H3 s3->(∀b∈fp,Nx X pins H3 b)->Inv (cxC X (cpN ts fs) scope fp s3 H3) [] (cpσ ts.length fs σ) H5 s6->Q (.ref p) H5->compPost (model X.prog X.w) X.A X.xe use QQ (.ref p) s3.heap.objs.size (.ok .next) s6):
 wpAny (model X.prog X.w) X.A (comprehension (.ListComp elt [⟨tg,iter,ifs,0⟩] scope pos) scope X.env U (newList []) false (eval iter X.env) use) QQ X.xe s:=by
 refine wpAny_comprehension_free (use:=use) rfl hs (Od (S.clos I.ok)) S.kind S.names (thn (hi pins s σ H _ I h) fun v s1 h1=>thn h1 fun a4 L h2=> ?_)
 obtain⟨it,fp,tn,J,H2,rfl,I2,T,Y,f2,hw⟩:=h2
 refine wpAny_newObj_type (wpAny_newFunctionEnv S.cell (by intro y hy;simp at hy) (fun G d F=> ?_) S.kind)
 dsimp only at d F ⊢
 have I3:=I2.lnew (its:=[]) (ys:=[]) (t':=L.toks) .nil (zero_le _)
 have hD:H2 L.heap.objs.size=none:=I2.fresh
 obtain⟨W,⟨m0,w0⟩,Z⟩:=hw _ hD
 have up:∀b o,L.heap.get? b=some o->(L.heap.push { cls:= .type "list",data:= .seq ([]:List Value).toArray}).get? b=some o:=fun b o e=>Heap.get?_push_of_some _ e
 have M:∀b∈fp,Nx X pins (upd H2 L.heap.objs.size (.lst [])) b/\∃o,(L.heap.push { cls:= .type "list",data:= .seq ([]:List Value).toArray}).get? b=some o:=fun b O=>by
  obtain⟨o,ho,_⟩:=T.obj _ _ Y b O
  have nb:b≠L.heap.objs.size:=ne_of_lt (Heap.lt_size ho)
  exact⟨⟨by rw [Bs nb];exact(f2 b O).1,(f2 b O).2⟩,o,up b o ho⟩
 have a0:∀b u,(L.heap.push { cls:= .type "list",data:= .seq ([]:List Value).toArray}).get? b=some u->G.get? b=some u:=fun b u e=>
  F.extBut b u (ne_of_lt (Heap.lt_size e)) (Heap.get?_push_of_some _ e)
 have I4:=Wd (s4:={ L with heap:=G,toks:=L.toks}) S I3 M rfl rfl a0 d
 have a1:tn 0 G:=T.keep _ _ _ Y fun b _ o e=>a0 b o (up b o e)
 have a2:=Aah (elt:=elt) (iter:=iter) (pos:=pos) hc S hg ht he I3 T (fun b O=>(M b O).1) (fun b O=>Heap.lt_size (M b O).2.choose_spec) I4 a1 w0 (fun H5 s6 I6 q=>a3 _ _ fp _ H5 s6 I3 (fun b O=>(M b O).1) I6 q) Z
 exact codeAny_compStart_list a2 (T.self X.A 0 _ _ _ a1 a2)
theorem Yz (F:X.calm=true) (S:Bb X ts fs scope) (hi:PI X tg iter wi) (G:∀ex s H,PG (cxC X (cpN ts fs) scope ex s H) tg g) (J:∀ex s H,PTs (cxC X (cpN ts fs) scope ex s H) ifs tt)
 (L:∀ex s H,PE (cxC X (cpN ts fs) scope ex s H) elt te) (M:∀x,foldedSetIterable iter X.env x=pure x:=by intro _;rfl):
 PE X (.ListComp elt [⟨tg,iter,ifs,0⟩] scope pos) (Qn ts.length fs wi g tt te):=by
 intro pins s σ H Q I h
 rw [eval_ListComp]
 refine Oe (use:=none) F S hi G J L M I h fun Z s3 fp p O s6 U d y q=> ?_
 obtain⟨m,W,_⟩:=y.loc
 exact⟨m,W,fun h' Y=>⟨.ref p,O,U0 S U d y Y,rfl,q⟩⟩
theorem Ug {g':TG}{y:Str}{G d:Pos} (hc:X.calm=true) (S:Bb X ts fs scope) (hi:PI X tg iter wi) (hg:∀ex s H,PG (cxC X (cpN ts fs) scope ex s H) tg g) (ht:∀ex s H,PTs (cxC X (cpN ts fs) scope ex s H) ifs tt)
 (he:∀ex s H,PE (cxC X (cpN ts fs) scope ex s H) elt te) (hn:PG X (.Name y G) g') (U:swapsWith (.ListComp elt [⟨tg,iter,ifs,0⟩] scope pos) (some (.Name y G)) d.line X.env=pure true:=by rfl) (hs:∀x,foldedSetIterable iter X.env x=pure x:=by intro _;rfl):
 PS X (.Assign [.Name y G] (.ListComp elt [⟨tg,iter,ifs,0⟩] scope pos) d) (Abd (Qn ts.length fs wi g tt te) g'):=by
 intro pins s σ H D I h
 rw [exec_Assign_Name_used _ _ _ _ U]
 refine wpAny_bind (wpAny_standAt (wpAny_bind ?_))
 show wpAny _ X.A (do let _<-comprehension (.ListComp elt [⟨tg,iter,ifs,0⟩] scope pos) scope X.env _ (newList []) false (eval iter X.env) (some (assign (.Name y G) X.env))) _ _ s
 refine wpAny_bind (wpAny_mono (Oe (use:=some (assign (.Name y G) X.env)) (QQ:=fun _ s'=>SP X pins D .next s') hc S hi hg ht he hs I h fun H3 F fp p W Y I3 Z I6 q=> ?_) (fun _ s' hq=>wpAny_pure (wpAny_pure hq)) fun _ _ e=>e)
 have J:Inv X pins σ W Y:=U0 S I3 Z I6 (Heap.SameBut.refl _ _)
 obtain⟨m,⟨o,es,ep,ho,hd,a0,hf⟩,_⟩:=I6.loc
 have L:Y.heap.get? F.heap.objs.size=some o:=ho
 have M:Nx X pins W F.heap.objs.size:=I3.fpOk (le_refl _) I6.free
 have J':=J.pinned (fp:=[F.heap.objs.size]) (fun b O=>by
  have e:b=F.heap.objs.size:=by simpa using O
  subst e
  exact M) (fun b O=>by
  have e:b=F.heap.objs.size:=by simpa using O
  subst e
  exact⟨o,L,fun v z=>by rw [hd]at z;cases z⟩)
 refine thn (hn _ Y σ W (.ref p) (.ref p) _ J' rfl q) fun _ s7 ⟨a1,H7,I7,q7⟩=> ?_
 have pC:=I7.pin (F.heap.objs.size,o) (mem_append_right _ (mem_append_right _ (Ew (by simp) L)))
 exact⟨m,⟨o,es,ep,pC.1,hd,a0,hf⟩,fun h' sb=>⟨a1,H7,I7.unpinned.turned (t':=s7.toks) (fun b o O e=>sb.extBut b o O e) pC.2.1 M.2.1 M.2.2.2.1 M.2.2.2.2.1 M.2.2.2.2.2,q7⟩⟩
end
section
variable {K:Frag}{H1:Hp}{p:Addr}{cσ:St}{g:TG}{te:TE}{Q:VK}{α:Type}{es:List α}{inj:α->V}
def Wk (J:It) (H1:Hp) (es:List α) (inj:α->V):Prop:=∀i H',Same H1 H'->(es[i]? =none->J.stop i H')/\∀e,es[i]? =some e->J.go i H'/\∀x H3,J.yld i H' x H3->H3=H'/\x=inj e
theorem Ec {a:Addr} (h:SqL K H1 a (es.map inj)):Wk (Itl K a) H1 es inj:=fun i H' s=>by
 have h':=s.seq h
 refine⟨fun e=>⟨_,h',?_⟩,fun e d=>⟨⟨_,inj e,h',by rw [getElem?_map,d];rfl⟩,fun x F ⟨q,y⟩=>⟨q,?_⟩⟩⟩
 . rw [length_map]
   exact List.getElem?_eq_none_iff.mp e
 . have z:=y _ h'
   rw [getElem?_map,d]at z
   exact(Option.some.inj z).symm
theorem Acd {a:Addr} (h:SqT K H1 a (es.map inj)):Wk (Itt K a) H1 es inj:=fun i H' s=>by
 have h':=s.tup h
 refine⟨fun e=>⟨_,h',?_⟩,fun e d=>⟨⟨_,inj e,h',by rw [getElem?_map,d];rfl⟩,fun x F ⟨q,y⟩=>⟨q,?_⟩⟩⟩
 . rw [length_map]
   exact List.getElem?_eq_none_iff.mp e
 . have z:=y _ h'
   rw [getElem?_map,d]at z
   exact(Option.some.inj z).symm
theorem Ft {lo:Int}{n:Nat}:Wk (Itr lo n) H1 (List.range n) (fun i=> .int (lo+(i:Nat))):=fun i H' s=>by
 refine⟨fun e=> ?_,fun e d=> ?_⟩
 . have:=List.getElem?_eq_none_iff.mp e
   show n<=i
   simpa using this
 . obtain⟨h,z⟩:=List.getElem?_eq_some_iff.mp d
   have hi:i<n:=by simpa using h
   have q:i=e:=by simpa using z
   subst q
   exact⟨hi,fun x G ⟨y,F⟩=>⟨y,F⟩⟩
theorem Gs {J:It} (f:α->V) (hz:es.length<=sizeLine) (hp:H1 p=none) (O:Wk J H1 es inj)
 (step:∀e H' R,e∈es->Same H1 H'->(∀G,Same H' G->R (f e) G)->g (inj e) cσ H' fun d F=>Kp cσ d/\te d F R)
 (done:∀H',Same H1 H'->H' p=some (.lst (es.map f))->Q (.ref p) H'):cIn J cσ g Gy te Q H1 p:=by
 have U:∀ {H':Hp}{o:HO},Same H1 H'->Same H1 (upd H' p o):=fun {H' o} s b u e=>by
  rw [Bs (Bo e hp)]
  exact s b u e
 refine⟨fun i m I H'=>m=es.length-i/\i<=es.length/\I=(es.take i).map f/\H' p=some (.lst I)/\Same H1 H',⟨es.length,by simp,zero_le _,by simp,Ag,U (Same.refl _)⟩,?_⟩
 rintro i m I H' ⟨rfl,hi,rfl,L,s⟩
 cases he:es[i]? with
 | none=>
   have hl:=List.getElem?_eq_none_iff.mp he
   have e:i=es.length:=le_antisymm hi hl
   subst e
   rw [take_length]at L
   exact .inl ⟨(O _ _ s).1 he,done _ s L⟩
 | some e=>
   obtain⟨go,yl⟩:=(O _ _ s).2 e he
   refine .inr ⟨go,fun x W y=> ?_⟩
   obtain⟨rfl,rfl⟩:=yl x W y
   obtain⟨M,e'⟩:=List.getElem?_eq_some_iff.mp he
   have tk:es.take (i+1)=es.take i++ [e]:=by rw [take_succ,he];rfl
   have q:=step e W (fun y G=>G p=some (.lst ((es.take i).map f))/\((es.take i).map f).length<sizeLine/\∃Y,Y<es.length-i/\Y=es.length-(i+1)/\i+1<=es.length/\(es.take i).map f++ [y]=(es.take (i+1)).map f/\
    upd G p (.lst ((es.take i).map f++ [y])) p=some (.lst ((es.take i).map f++ [y]))/\Same H1 (upd G p (.lst ((es.take i).map f++ [y])))) (List.mem_of_getElem? he) s
    (fun G Z=>⟨Z _ _ L,by rw [length_map,length_take];omega,_,by omega,rfl,M,by rw [tk,map_append];rfl,Ag,U (s.trans Z)⟩)
   have eq:∀(R:VK) (B:Hp->Prop),(fun d F=>Kp cσ d/\Gy d F fun b H5=>if b=true then te d H5 R else B H5)=(fun d F=>Kp cσ d/\te d F R):=fun R B=>by
    funext d F
    show(Kp cσ d/\if true=true then te d F R else B F)=_
    rw [if_pos rfl]
   rw [eq]
   exact q
end
section
variable {X:Cx}{K:Frag}{σ:St}{H:Hp}{Q:VK}{R:It->Hp->Prop}
theorem Af0 {n:Nat}{fs:List (Nat × Str)}{wi:TI}{g:TG}{tt:TT}{te:TE}:Qn n fs wi g tt te σ H Q=wi σ H (fun J H1=>∀p,H1 p=none->cIn J (cpσ n fs σ) g tt te Q H1 p):=rfl
theorem Age {ta:TA}:Acp ta σ H R=ta σ H (fun d H1=>∃j:Int,d=[.int j]/\ -(2^62)<=j/\j<2^62/\R (Itr 0 j.toNat) H1):=rfl
theorem Agf {ta:TA}:Acq ta σ H R=ta σ H (fun d H1=>∃i j:Int,d=[.int i,.int j]/\(-(2^62)<=i/\i<2^62/\ -(2^62)<=j/\j<2^62)/\R (Itr i (j-i).toNat) H1):=rfl
theorem Ady {tl:TE}:Yb K tl σ H R=tl σ H (fun x H1=>∃a,x= .ref a/\(∃xs,SqL K H1 a xs)/\R (Itl K a) H1):=rfl
theorem Af9 {tl:TE}:Ag3 K tl σ H R=tl σ H (fun x H1=>∃a,x= .ref a/\(∃xs,SqT K H1 a xs)/\R (Itt K a) H1):=rfl
theorem Ah5 {a:Addr}{p:Addr->Prop}:(∃b,V.ref a= .ref b/\p b)=p a:=propext ⟨fun⟨_,e,h⟩=>by cases e;exact h,fun h=>⟨a,rfl,h⟩⟩
theorem Ah8 {v:Option V}{r:St}:Kp (none::r) (v::r)=True:=by
 refine eq_true ⟨rfl,fun i u e=> ?_⟩
 cases i with
 | zero=>cases e
 | succ i=>exact e
theorem Ah9 {v d:Option V}{r:St}:Kp (none::none::r) (v::d::r)=True:=by
 refine eq_true ⟨rfl,fun i u e=> ?_⟩
 cases i with
 | zero=>cases e
 | succ i=>
   cases i with
   | zero=>cases e
   | succ i=>exact e
theorem Af8 {k:Bool}{p:Int->Prop}{q:Bool->Prop}:((∃i,[V.bl k]=[V.int i]/\p i)\/∃d,[V.bl k]=[V.bl d]/\q d)=q k:=
 propext ⟨fun h=>h.elim (fun⟨_,e,_⟩=>by cases e) fun⟨_,e,h⟩=>by cases e;exact h,fun h=> .inr ⟨k,rfl,h⟩⟩
end
end L2
namespace L2
open PySem PySem.Spec PyProof.Rows
def FI (J:It) (g:TG) (tb:TS) (D:Ends) (σ:St) (H:Hp):Prop:=∃W:Nat->Nat->St->Hp->Prop,(∃m,W 0 m σ H)/\∀i m σ H,W i m σ H->
 (J.stop i H/\D.nx σ H)\/(J.go i H/\∃N:St->Hp->Prop,(∀σ' H',N σ' H'->∃m',m'<m/\W (i+1) m' σ' H')/\∀x H',J.yld i H x H'->g x σ H' fun σ2 H2=>tb { D with nx:=N,ct:=N,bk:=D.nx} σ2 H2)
theorem Ah6 {wi:TI}{g:TG}{tb:TS}{D:Ends}{σ:St}{H:Hp}:Ahn wi g tb D σ H=wi σ H (fun J H1=>FI J g tb D σ H1):=rfl
section
variable {K:Frag}{σ:St}{H:Hp}{g:TG}{tb:TS}{D:Ends}{α:Type}{es:List α}{inj:α->V}
def Ach (J:It) (H:Hp) (es:List α) (inj:α->V):Prop:=∀i,(es[i]? =none->J.stop i H)/\∀e,es[i]? =some e->J.go i H/\∀x H3,J.yld i H x H3->H3=H/\x=inj e
theorem Dv {a:Addr} (h:SqL K H a (es.map inj)):Ach (Itl K a) H es inj:=fun i=>Ec h i H (Same.refl _)
theorem Abi {a:Addr} (h:SqT K H a (es.map inj)):Ach (Itt K a) H es inj:=fun i=>Acd h i H (Same.refl _)
theorem G5 {lo:Int}{n:Nat}:Ach (Itr lo n) H (List.range n) (fun i=> .int (lo+(i:Nat))):=fun i=>Ft i H (Same.refl _)
theorem Ra {J:It} (F:List α->St->Hp->Prop) (M:F [] σ H) (O:∀d σ H,F d σ H->Ach J H es inj)
 (U:∀d e G σ H,es=d++e::G->F d σ H->g (inj e) σ H fun L H2=>tb { D with nx:=F (d++ [e]),ct:=F (d++ [e]),bk:=D.nx} L H2) (W:∀σ H,F es σ H->D.nx σ H):FI J g tb D σ H:=by
 refine⟨fun i m σ H=>m=es.length-i/\i<=es.length/\F (es.take i) σ H,⟨es.length,by simp,zero_le _,M⟩,?_⟩
 rintro i m σ H ⟨rfl,hi,p⟩
 have w:=O _ _ _ p i
 cases he:es[i]? with
 | none=>
   have e:i=es.length:=le_antisymm hi (List.getElem?_eq_none_iff.mp he)
   subst e
   rw [take_length]at p
   exact .inl ⟨w.1 he,W _ _ p⟩
 | some e=>
   obtain⟨I,Y⟩:=List.getElem?_eq_some_iff.mp he
   have tk:es.take (i+1)=es.take i++ [e]:=by rw [take_succ,he];rfl
   have sp:es=es.take i++e::es.drop (i+1):=by
    rw [<-Y,<-List.drop_eq_getElem_cons I,List.take_append_drop]
   refine .inr ⟨(w.2 e he).1,F (es.take i++ [e]),fun Z H' q=>⟨es.length-(i+1),by omega,rfl,I,by rw [tk];exact q⟩,fun x H' y=> ?_⟩
   obtain⟨rfl,rfl⟩:=(w.2 e he).2 x H' y
   exact U _ e _ σ H' sp p
end
end L2
namespace L2
open PySem PySem.Spec PyProof.Rows
section
variable {K:Frag}{σ:St}{H:Hp}{Q:VK}
theorem Ajc {r:V->Option Int->Option Int->Hp->VK->Prop}{te:TE}{tl th:TO}:tSl r te tl th σ H Q=te σ H (fun x H1=>tl σ H1 fun l H2=>th σ H2 fun u d=>r x l u d Q):=rfl
theorem Abk {R:Option Int->Hp->Prop}:Ut σ H R=R none H:=rfl
theorem Agd {t:TE}{R:Option Int->Hp->Prop}:Adt t σ H R=t σ H (fun x H1=>∃i,x= .int i/\R (some i) H1):=rfl
theorem Ai6 {T:String}{r:V->List V->Hp->VK->Prop}{to:TE}{t:TA}:tBM K T r to t σ H Q=to σ H (fun x H1=>tyV K T x H1/\t σ H1 fun xs H2=>r x xs H2 Q):=rfl
end
section
variable {CX:CXT}{P:Program}{w:World}{K:Frag}{mg:Str->Option Value}{base:Heap}{N:List Str}{qual:Str}{scope:Scope}{f:Addr}{cd:Value}{A:Around}{outer:List Env}{s:Shared}{H H1 H2:Hp}{E:XK}{Q:VK}{a b:Addr}{ns ms:List Int}{g:Bool->Bool}
theorem Ahy:(Sw CX P w K mg base N qual scope f cd A outer s H E).K=K:=rfl
theorem Agc:(Sw CX P w K mg base N qual scope f cd A outer s H E).nox.K=K:=rfl
theorem Kw (ns:List Int):SeqAt.shaped (.list (ns.map PyData.int))=true:=by
 simp [SeqAt.shaped,PyData.canLay0,PyData.depth,PySem.W.ke_canLayAll0,PySem.W.ke_depthAll]
theorem Lk (d:SqL K H a (ns.map V.int)) (q:SqL K H b (ms.map V.int)) (h:Q (.bl (g (decide (ns=ms)))) H):Ab6 K g (.ref a) (.ref b) H Q:=
 ⟨_,_,.lints d,.lints q,Kw _,Kw _,by rw [PyData.eqv,U8];exact h⟩
end
end L2
namespace L2
open PySem PySem.Spec PyProof.Rows
theorem Af5 {a:Addr}{p:Addr->Prop}:(∃b,[V.ref a]=[.ref b]/\p b)=p a:=propext ⟨fun⟨_,e,h⟩=>by cases e;exact h,fun h=>⟨a,rfl,h⟩⟩
section
variable {K:Frag}{σ:St}{H:Hp}{Q:St->Hp->Prop}{R:VK}{p a b:Addr}{v w:V}{i j:Nat}{xs:List V}{ns ms:List Int}{f:Bool->Bool}
theorem Eb (h:SqT K H p [v,w]) (q:Q ((σ.set i (some v)).set j (some w)) H):Abs K 2 (Ke (Ga i) (Ke (Ga j) Ad2)) (.ref p) σ H Q:=⟨p,_,rfl,h,rfl,v,_,rfl,w,_,rfl,rfl,q⟩
theorem Af6 {to d:TE}{t:Aed}:Ag0 to d t v σ H Q=to σ H (fun o H1=>d σ H1 fun i H2=>t o i v H2 fun q=>Q σ q):=rfl
theorem N6 {G:Hp->Prop} (d:H p=some (.lst xs)) (y:j<xs.length) (q:G (upd H p (.lst (xs.set j v)))):Adh (.ref p) (.int (j:Nat)) v H G:=by
 refine⟨p,xs,j,j,rfl,rfl,d,?_,q⟩
 unfold ixN
 rw [if_pos (by omega),if_pos (by omega),toNat_natCast]
end
end L2
namespace L2
open PySem PySem.Spec PyProof.Rows
section
variable {prog:Program}{w:World}{A:Around}{E:Value->Shared->Prop}{s:Shared}{j u:Addr}{i:Nat}{xs:Array Value}
theorem nextT {y:Value}{Q:Value->Shared->Prop} (G:s.heap.IsTupleIter j u i) (I:s.heap.IsTuple u xs) (J:xs[i]? =some y)
 (k:∀g,g.IsTupleIter j u (i+1)->Heap.SameBut j s.heap g->Q y { s with heap:=g}):wpAny (model prog w) A (Builtin.SmallTypes.nextOf (.ref j)) Q E s:=by
 obtain⟨U,q,L,d⟩:=id G
 obtain⟨W,M,_,Y,O⟩:=I
 unfold Builtin.SmallTypes.nextOf
 refine wpAny_bind (wpAny_callSpecial?_slot (name:=Str.ofString "__next__") G.typeIs F.slot_tuple_iterator_next (wpAny_call_entry F.slot_tuple_iterator_next G.typeIs F.entry_tuple_iterator_next ?_ (F.args_tuple_iterator_next_1 _)))
 show wpAny _ _ (field (.ref j) 0>>=_) _ _ s
 refine wpAny_bind (wpAny_field q d (x:= .ref u) rfl ?_)
 show wpAny _ _ (if(Value.ref u==Value.none)=true then _ else _) _ _ s
 rw [if_neg (show ¬((Value.ref u==Value.none)=true)from Bool.false_ne_true)]
 show wpAny _ _ (field (.ref j) 1>>=_) _ _ s
 refine wpAny_bind (wpAny_field q d (x:= .int i 0) rfl ?_)
 show wpAny _ _ (seqItems? (.ref u)>>=_) _ _ s
 refine wpAny_bind (wpAny_seqItems M O ?_)
 simp only [J,toNat_natCast]
 refine wpAny_bind (wpAny_setField q d (by simp) (wpAny_pure ⟨y,rfl,wpAny_pure (k _ ?_ (Heap.SameBut.update ..))⟩))
 exact⟨_,Heap.get?_update_self _ q (Obj.isFreed_of_fields (Obj.data_mapFields d _)),(Obj.cls_mapFields ..).trans L,by rw [Obj.data_mapFields d];simp [rawInt]⟩
theorem Yn {Q:Value->Shared->Prop} (G:A.handled=none) (d:s.heap.IsTupleIter j u i) (I:s.heap.IsTuple u xs) (J:xs[i]? =none)
 (k:∀g e,Heap.ExtBut j s.heap g->(∃o,g.get? e=some o/\o.cls= .type "StopIteration")->E (.ref e) { s with heap:=g}):wpAny (model prog w) A (Builtin.SmallTypes.nextOf (.ref j)) Q E s:=by
 obtain⟨O,q,U,y⟩:=id d
 obtain⟨W,L,_,Y,M⟩:=I
 unfold Builtin.SmallTypes.nextOf
 refine wpAny_bind (wpAny_callSpecial?_slot (name:=Str.ofString "__next__") d.typeIs F.slot_tuple_iterator_next (wpAny_call_entry F.slot_tuple_iterator_next d.typeIs F.entry_tuple_iterator_next ?_ (F.args_tuple_iterator_next_1 _)))
 show wpAny _ _ (field (.ref j) 0>>=_) _ _ s
 refine wpAny_bind (wpAny_field q y (x:= .ref u) rfl ?_)
 show wpAny _ _ (if(Value.ref u==Value.none)=true then _ else _) _ _ s
 rw [if_neg (show ¬((Value.ref u==Value.none)=true)from Bool.false_ne_true)]
 show wpAny _ _ (field (.ref j) 1>>=_) _ _ s
 refine wpAny_bind (wpAny_field q y (x:= .int i 0) rfl ?_)
 show wpAny _ _ (seqItems? (.ref u)>>=_) _ _ s
 refine wpAny_bind (wpAny_seqItems L M ?_)
 simp only [J,toNat_natCast]
 refine wpAny_bind (wpAny_rule (wpAny_bind (wpAny_setField q y (by simp) ?_)))
 show wpAny _ A.in1 (newExc (.type "StopIteration") []>>=_) _ _ _
 refine wpAny_bind ?_
 simp only [newTuple,newExc]
 refine wpAny_bind (wpAny_newObj_type ?_ (by size_fits))
 refine wpAny_bind (m:=firstArgMember _ _) (wpAny_of_eq (a:=Value.none) (by first | rfl | (simp only [firstArgMember];rfl)) ?_)
 refine(wpAny_newObj_type ?_ (by size_fits))
 simp only [raiseNew]
 refine wpAny_bind (wpAny_handled ?_)
 first | rw [show A.in1.handled=none from G] | (rw [G])
 refine wpAny_bind (wpAny_pure (wpAny_throw ?_))
 exact k _ _ (((Heap.SameBut.update ..).extBut.push _).push _) ⟨_,Heap.get?_push_size _ rfl,rfl⟩
end
section
variable {X:Cx}{pins:List (Addr × Obj)}{σ:St}{H:Hp}{s:Shared}{h':Heap}
theorem Inv.turnL {t':Nat}{fp:List Addr} (I:Inv X pins σ H s) (k:∀b o,b∉fp->s.heap.get? b=some o->h'.get? b=some o) (y:∀b∈fp,Nx X pins H b):Inv X pins σ H { s with heap:=h',toks:=t'}:=by
 have G:∀b u,H b=some u->b∉fp:=fun b u e z=>by
  have:=(y b z).1
  rw [this]at e
  cases e
 refine I.step (g':=s.gens) (d':=s.drawn) (ch:=fp) (fun b F=>⟨(y b F).2.2.2.1,(y b F).2.1,(y b F).2.2.2.2.1,(y b F).2.2.2.2.2⟩) (fun b o _ _ d e _=>k b o d e) (fun b o _ _ d e _=>⟨o.slots,k b o d e⟩) (fun _ _ _ _ n=>n)
  (fun b o d e=>⟨o,k b o d e⟩) (fun _ _ e=>e) (fun _ _ _ e=>e) (fun b ps e=>⟨#[],by rw [e];simp⟩) (fun m J=> ?_) (fun b u e=> ?_) I.bare
 . obtain⟨o,es,ep,L,r⟩:=J
   exact⟨o,es,ep,k _ o (fun z=>(y _ z).2.1 rfl) L,r⟩
 . refine(I.hok b u e).stay (fun c v d q=>k c v ?_ q) (fun _ q=>q) fun _ _ q=>q
   rcases d with z | z
   . rw [z]
     exact G b u e
   . exact G c _ z
end
end L2
namespace L2
open PySem PySem.Spec PyProof.Rows
section
variable {X:Cx}
theorem Fl (Y:X.calm=true):Gq X (.builtin "all") (fun xs H Q=>∃(a:Addr) (bs:List Bool),xs=[.ref a]/\SqL X.K H a (bs.map V.bl)/\Q (.bl (bs.all id)) H):=by
 intro pins s σ H xs us Q I r h
 obtain⟨a,bs,rfl,Z,q⟩:=h
 obtain⟨u,rfl,ru⟩:=vals1 r
 cases ru
 obtain⟨d,L,p,hz⟩:=I.list Z
 have F:s.heap.IsList a d.toArray:=p.isList
 have lt:a<s.heap.objs.size:=by
  obtain⟨_,e,_⟩:=F
  exact Heap.lt_size e
 have ln:d.length=bs.length:=by
  have:=L.length
  rw [length_map]at this
  exact this.symm
 refine call_all_walk (wpAny_pyIter_list F ?_)
 refine⟨s.heap.objs.size,[s.heap.objs.size,a],[s.heap.objs.size],d.toArray.size,_,_,fun i=>(bs[i]?).getD true,rfl,Walks.list (A:=X.A.in1) (I.ok.hd Y) _ a (ne_of_lt lt) d.toArray,
  ⟨⟨_,Heap.get?_push_size _ rfl,rfl,rfl⟩,F.push _⟩,fun i v s' Q' E' hP M=> ?_,fun g tk hk=> ?_⟩
 . have O:d[i]? =some v:=by simpa using hP
   have hi:i<d.length:=(List.getElem?_eq_some_iff.mp O).1
   have U:bs[i]? =some bs[i]:=getElem?_eq_getElem (by omega)
   obtain⟨w',W,G⟩:=L.get (show(bs.map V.bl)[i]? =some (V.bl bs[i])by rw [getElem?_map,U];rfl)
   rw [O]at W
   cases W
   cases G
   simp only [U,getD_some]at M
   exact wpAny_truthy_bool M
 . have e:((List.range d.toArray.size).all fun i=>(bs[i]?).getD true)=bs.all id:=by
    rw [size_toArray,ln,Bool.eq_iff_iff,all_eq_true,all_eq_true]
    constructor
    . intro h x hx
      obtain⟨i,hi,ei⟩:=List.getElem_of_mem hx
      have:=h i (mem_range.mpr hi)
      rw [getElem?_eq_getElem hi,ei]at this
      exact this
    . intro h i hi
      have y:=mem_range.mp hi
      rw [getElem?_eq_getElem y]
      exact h _ (getElem_mem y)
   rw [e]
   exact⟨.bl _,H,I.kept (t':=tk) fun b o J=>hk b o (fun hm=>by rw [mem_singleton.mp hm]at J;exact lt_irrefl _ (Heap.lt_size J)) (Heap.get?_push_of_some _ J),rfl,q⟩
end
section
variable {X:Cx}
theorem Dw (K:Frag) (h:X.K=K:=by rfl):IxR X (Ad3 K):=by subst h;exact Bp
theorem Yj (K:Frag) (h:X.K=K:=by rfl):IxR X (Ahf K):=by subst h;exact Br
end
section
variable {X:Cx}
theorem Aab:Gq X (.builtin "isinstance") (fun xs H Q=>∃(a:Addr) (ys:List V) (T:String) (b:Bool),xs=[.ref a,.ty T]/\SqT X.K H a ys/\kitOne X.K (.type "tuple") (.type T)=some b/\Q (.bl b) H):=by
 intro pins s σ H xs L Q I r h
 obtain⟨a,ys,T,b,rfl,y,F,q⟩:=h
 obtain⟨u,c,rfl,G,J⟩:=vals2 r
 cases J
 cases G
 obtain⟨d,M,p,_⟩:=I.tuple y
 obtain⟨o,h1,h2,_⟩:=(show s.heap.IsTuple a d.toArray from p)
 exact kia_one kitx_tuple I.kIn ⟨o,h1,h2⟩ F (fun z=>nomatch z) fun tk=>⟨.bl b,H,I.tok tk,rfl,q⟩
end
section
variable {prog:Program}{w:World}{A:Around}{E:Value->Shared->Prop}{s:Shared}
theorem Zx {t q:Addr}{ys:Array Value}{G I:Value}{lo hi:Option Int}{Q:Value->Shared->Prop} (d:IsTup s.heap t ys) (J:s.heap.IsSliceOf q G I .none) (L:IsPart G lo) (M:IsPart I hi)
 (O:HT.sIx ys.size 0 lo=0) (U:HT.sIx ys.size ys.size hi=ys.size) (h:Q (.ref t) s):wpAny (model prog w) A (getItem (.ref t) (.ref q)) Q E s:=by
 obtain⟨W,y,Y,ds⟩:=id J
 have Z:s.TypeIs (.ref q) "slice":=⟨W,y,Y⟩
 unfold getItem
 try with_reducible refine(wpAny_holding ?_)
 first | refine(wpAny_bind (wpAny_pure ?_)) | skip
 refine wpAny_bind (wpAny_sequenceKey d.typeIs (by decide) (?_))
 refine wpAny_bind (wpAny_callSpecial?_slot (name:=Str.ofString "__getitem__") d.typeIs PyProof.Rows.slot_tuple_getitem (wpAny_call_entry PyProof.Rows.slot_tuple_getitem d.typeIs entry_tuple_getitem ?_ (args_tuple_getitem _ _)))
 show wpAny _ A.in1 (Builtin.Tuple.tupleItemsOf (.ref t)>>=_) _ _ s
 refine wpAny_bind (tupleItemsOf_ d (?_))
 refine wpAny_bind (wpAny_typeOf Z ?_)
 rw [if_pos (by decide)]
 refine wpAny_bind (HT.Hr J L M ?_)
 have F:(((HT.sIx ys.size 0 lo:Nat):Int)==0&&(1:Int)==1&&(HT.sIx ys.size ys.size hi-HT.sIx ys.size 0 lo)==ys.size)=true:=by
  rw [O,U]
  simp
 show wpAny _ A.in1 (if(((HT.sIx ys.size 0 lo:Nat):Int)==0&&(1:Int)==1&&(HT.sIx ys.size ys.size hi-HT.sIx ys.size 0 lo)==ys.size)=true then _ else _) _ _ s
 rw [if_pos F]
 refine wpAny_bind ?_
 unfold Builtin.Tuple.tupleIsExact
 refine wpAny_bind (wpAny_typeOf d.typeIs (wpAny_pure ?_))
 rw [if_pos (by decide)]
 exact wpAny_bind (wpAny_rule (wpAny_pure ⟨_,rfl,wpAny_pure h⟩))
end
section
variable {X:Cx}
def Ai4 (K:Frag):V->Option Int->Option Int->Hp->VK->Prop:=fun x lo hi H Q=>∃a xs,x= .ref a/\SqT K H a xs/\∀z H',Same H H'->SqT K H' z (Pg xs lo hi)->Q (.ref z) H'
theorem Zi:SlR X (Ai4 X.K):=by
 intro pins s σ H x v W Y lo hi Z Q I J L M O h
 obtain⟨a,xs,rfl,F,q⟩:=h
 by_cases y:HT.sIx xs.length 0 lo=0/\HT.sIx xs.length xs.length hi=xs.length
 . cases J
   obtain⟨G,r,U,hz⟩:=I.tuple F
   have d:G.toArray.size=xs.length:=by rw [size_toArray];exact r.length.symm
   refine⟨"tuple",_,PyProof.Rows.slot_tuple_getitem.lookup,U.typeIs,Zx U L M O (by rw [d];exact y.1) (by rw [d];exact y.2) ⟨.ref a,H,I,rfl,q a H (Same.refl _) ?_⟩⟩
   have e:Pg xs lo hi=xs:=by
    unfold Pg
    rw [y.1,y.2,List.drop_zero,Nat.sub_zero,take_length]
   rw [e]
   exact F
 . exact Afo pins s σ H _ v W Y lo hi Z Q I J L M O ⟨a,xs,rfl,F,y,fun p hp=>q p _ (Same.upd hp _) (.of Ag)⟩
end
end L2
namespace L2
open PySem PySem.Spec PyProof.Rows
theorem Eu {H1:Hp}{p:Addr}{cσ:St}{g:TG}{tt:TT}{te:TE}{Q:VK}{α:Type}{es:List α}{inj:α->V}{J:It} (I:α->Bool) (f:α->V) (hz:es.length<=sizeLine) (hp:H1 p=none) (U:Wk J H1 es inj)
 (step:∀(e:α) (H':Hp) (R:VK) (W:Hp->Prop),e∈es->Same H1 H'->(I e=true->∀d,Same H' d->R (f e) d)->(I e=false->∀d,Same H' d->W d)->g (inj e) cσ H' fun q H4=>Kp cσ q/\tt q H4 fun b Y=>if b=true then te q Y R else W Y)
 (done:∀H',Same H1 H'->H' p=some (.lst ((es.filter I).map f))->Q (.ref p) H'):cIn J cσ g tt te Q H1 p:=by
 have Z:∀ {H':Hp}{o:HO},Same H1 H'->Same H1 (upd H' p o):=fun {H' o} s b u e=>by
  rw [Bs (Bo e hp)]
  exact s b u e
 refine⟨fun i m F H'=>m=es.length-i/\i<=es.length/\F=((es.take i).filter I).map f/\H' p=some (.lst F)/\Same H1 H',⟨es.length,by simp,zero_le _,by simp,Ag,Z (Same.refl _)⟩,?_⟩
 rintro i m F H' ⟨rfl,hi,rfl,O,s⟩
 cases he:es[i]? with
 | none=>
   have e:i=es.length:=le_antisymm hi (List.getElem?_eq_none_iff.mp he)
   subst e
   rw [take_length]at O
   exact .inl ⟨(U _ _ s).1 he,done _ s O⟩
 | some e=>
   obtain⟨go,yl⟩:=(U _ _ s).2 e he
   refine .inr ⟨go,fun x H3 y=> ?_⟩
   obtain⟨rfl,rfl⟩:=yl x H3 y
   obtain⟨L,_⟩:=List.getElem?_eq_some_iff.mp he
   have tk:es.take (i+1)=es.take i++ [e]:=by rw [take_succ,he];rfl
   have fl:((es.take i).filter I).length<=i:=le_trans (List.length_filter_le _ _) (by rw [length_take];omega)
   refine step e H3 _ _ (List.mem_of_getElem? he) s (fun G d M=>⟨M _ _ O,by rw [length_map];omega,_,by omega,rfl,L,?_,Ag,Z (s.trans M)⟩) (fun G d M=>⟨_,by omega,rfl,L,?_,?_,s.trans M⟩)
   . rw [tk,filter_append,map_append]
     simp [G]
   . rw [tk,filter_append,map_append]
     simp [G]
   . exact M _ _ O
end L2
namespace L2
open PySem PySem.Spec PyProof.Rows
set_option maxRecDepth 100000
theorem Ud {X:Cx}{es:List Expr}{k:Nat}{pos:Pos}{t:TGs} (K:Frag) (n:Nat) (q:X.K=K) (y:X.calm=true) (h:PGs X es t)
 (F:(assignEach es X.env).length=n:=by rfl) (d:(assignEach es X.env).findIdx? (·.1)=none:=by rfl):PG X (.Tuple es k pos) (Abs K n t):=by
 subst q
 exact Vo y h F d
end L2
namespace L2
open PySem PySem.Spec PyProof.Rows
set_option maxRecDepth 100000
theorem Fy.has {P:Program}{w:World}{H:Hp}{h:Heap}{a:Addr}{o:HO} (x:Fy P w H h a o):∃d,h.get? a=some d:=by
 cases o with
 | lst xs=>obtain⟨_,_,_,_,e⟩:=x;exact⟨_,e⟩
 | tup xs=>obtain⟨_,_,_,d,e,_⟩:=x;exact⟨_,e⟩
 | dK q=>obtain⟨_,_,_,_,o,_,_,e,_⟩:=x;exact⟨_,e⟩
 | dT q=>obtain⟨_,_,_,_,o,_,_,e,_⟩:=x;exact⟨_,e⟩
 | set S n=>obtain⟨o,_,_,_,e,_⟩:=x;exact⟨_,e⟩
 | ins C dx fs=>obtain⟨_,_,_,e,_⟩:=x;exact⟨_,e⟩
 | own y=>exact x
 | xd fs=>obtain⟨_,⟨_,_,_,e,_⟩,_⟩:=x;exact⟨_,e⟩
 | rng lo hi=>obtain⟨_,_,_,e⟩:=x;exact⟨_,e⟩
 | frz d u=>obtain⟨e,_⟩:=x;exact⟨_,e⟩
 | tbl ps=>exact⟨_,show h.get? a=some _ from x⟩
 | met f y=>exact⟨_,show h.get? a=some _ from x⟩
 | ext F=>exact x.2.1
structure FX (P:Program) (w:World) (fr:List Addr) (H:Hp) (h0:Heap) (B:Heap) (H':Hp) (h:Heap):Prop where
 stay:B.StaysIn h
 k1:∀b o,h0.get? b=some o->b∉fr->∃o',B.get? b=some o'/\(H b=none->o'=o)
 k2:∀b u,H' b=some u->∃o,B.get? b=some o
 fr0:∀b∈fr,H b=none/\∃o,h0.get? b=some o/\∀vs,o.data≠ .fields vs
 un:Un fr [] H H' h0 h
 hok:HOk P w H' h
theorem FX.step {P:Program}{w:World}{fr:List Addr}{H H':Hp}{I B h h':Heap} (x:FX P w fr H I B H' h) (k:B.StaysIn h') (u:h.UpToSlots h'):FX P w fr H I B H' h':=by
 have y:∀b o,I.get? b=some o->H b=none->b∈fr->∃J,h'.get? b=some { o with slots:=J}:=fun b o e n d=>by
  obtain⟨J,F⟩:=x.un.slot b o e n d (by simp)
  obtain⟨_,Y,G,O⟩:=x.fr0 b d
  rw [e]at G;cases G
  obtain⟨L,U⟩:=u b _ F O
  exact⟨L,U⟩
 refine⟨k,x.k1,x.k2,x.fr0,⟨fun b o e n d _=> ?_,fun b o e n d _=>y b o e n d,x.un.free,fun b o e _=> ?_,x.un.tups,x.un.frzs,x.un.tbls⟩,fun b v e=>(x.hok b v e).stay (fun c z W q=> ?_) (fun _ q=>q) fun _ _ q=>q⟩
 . obtain⟨o',F,G⟩:=x.k1 b o e d
   rw [G n]at F
   exact k b o F
 . by_cases d:b∈fr
   . obtain⟨J,F⟩:=y b o e (x.fr0 b d).1 d
     exact⟨_,F⟩
   . obtain⟨o',F,_⟩:=x.k1 b o e d
     exact⟨o',k b o' F⟩
 . have t:∃o,B.get? c=some o:=by
    rcases W with z | z
    . rw [z];exact x.k2 _ _ e
    . exact x.k2 _ _ z
   obtain⟨o,M⟩:=t
   have:=x.stay c o M
   rw [q]at this;cases this
   exact k c _ M
section
variable {X:Cx}{pins:List (Addr × Obj)}{σ:St}{H H':Hp}{s s':Shared}{B:Heap}
theorem Inv.old (I:Inv X pins σ H s) {b:Addr}{o:Obj} (e:X.s₀.heap.get? b=some o) (d:b∉X.fs):b∉frs X.stack:=fun z=>by
 rcases mem_cons.mp (I.stkSub b z)with q | q
 . exact absurd (lt_of_lt_of_le (Heap.lt_size e) I.ok.above) (by rw [q];exact lt_irrefl _)
 . exact d q
theorem Inv.fr0 (I:Inv X pins σ H s):∀b∈X.fs,X.H₀ b=none/\∃o,X.s₀.heap.get? b=some o/\∀q,o.data≠ .fields q:=fun b d=>by
 obtain⟨_,o,y,F⟩:=I.ok.funs.mem d
 exact⟨I.ok.frf b d,o,y,F⟩
theorem Inv.one (I:Inv X pins σ H s) (d:X.ex=[]) {b:Addr}{o:Obj} (e:X.s₀.heap.get? b=some o) (q:b∉X.fs):∃o',s.heap.get? b=some o'/\(X.H₀ b=none->o'=o/\H b=none):=by
 by_cases n:X.H₀ b=none
 . exact⟨o,I.base.keep b o e n q (by rw [d];simp),fun _=>⟨rfl,I.base.free b o e n (by rw [d];simp)⟩⟩
 . obtain⟨o',y⟩:=I.base.there b o e (by rw [d];simp)
   exact⟨o',y,fun z=>absurd z n⟩
theorem Inv.fx (I:Inv X pins σ H s) (d:X.ex=[]):FX X.prog X.w X.fs X.H₀ X.s₀.heap (hideAll s.heap (frs X.stack)) H s.heap:=by
 refine⟨fun b o q=>of_hideAll _ q,fun b o e y=> ?_,fun b u e=> ?_,I.fr0,d▸I.base,I.hok⟩
 . obtain⟨o',F,G⟩:=I.one d e y
   exact⟨o',hideAll_get _ F (I.old e y),fun n=>(G n).1⟩
 . obtain⟨o,J⟩:=(I.hok b u e).has
   exact⟨o,hideAll_get _ J fun z=>by have:=I.stkFree b z;rw [e]at this;cases this⟩
end
def CXE (P:Program) (w:World):CXT:=fun outer H s E e s'=>∃(x C:Addr) (a0:Value) (B:Heap) (H':Hp),e= .ref x/\s'.os=s.os/\AllBare s'.gens/\Heap.FlyingW B outer x (.ref C) a0 s'.heap/\FX P w (frs outer) H s.heap B H' s'.heap/\E (.ref C) none H'
abbrev VE:List Value:=[.type "ValueError",.type "Exception",.type "BaseException",.type "object"]
def Z5 (K:Frag) (C:Addr):Prop:=excIn K C VE "ValueError.__new__"=true
def cA (K:Frag) (x:Str):Addr:=match PySem.W.nsIn K mainGlobals x with
 | some (some (.ref C))=>C
 | _=>0
theorem Aaa {K:Frag}{x:Str}{C:Addr} (e:PySem.W.nsIn K mainGlobals x=some (some (.ref C))):cA K x=C:=by
 unfold cA
 rw [e]
def Aix (h:Heap) (C:Addr):Prop:=∃bm N nm q bs hdct sn sub ab col dd k0 k1 k2 k3 k5 mN,h.get? C=some (excClassObj nm q C N bs bm hdct sn sub ab col dd k0 k1 k2 k3 k5 "ValueError.__new__")/\h.Ns N mN/\mN "__init__"=none/\OwnTail h VE bm
theorem Z5.obj {K:Frag}{C:Addr}{h:Heap} (q:Z5 K C) (X:K.In h):Aix h C:=by
 unfold Z5 excIn at q
 cases e:K.lookup C with
 | none=>rw [e]at q;cases q
 | some ob=>
   rw [e]at q
   have F:=X _ _ e
   split at q
   . rename_i dd cd G z
     cases z
     split at q
     . rename_i C1 bm I J L M n O U hs
       rw [and_eq_true,and_eq_true,and_eq_true,and_eq_true,and_eq_true]at q
       obtain⟨⟨⟨⟨⟨z1,z2⟩,z3⟩,z4⟩,d⟩,z6⟩:=q
       have y1:C1=C:=by simpa using z1
       have y2:n="ValueError.__new__":=by simpa using z2
       have Y:cd.hasDel=false:=by simpa using z3
       have Z:PySem.W.nsIn K cd.ns "__init__"=some none:=by simpa using z6
       obtain⟨c1,c2,c3,c4,c5,c6,c7,c8,c9,y,a4⟩:=cd
       have hl:G= #[I,J,L,M,some (.builtin n),O]:=by
        cases G
        exact congrArg Array.mk hs
       dsimp only at U Y Z d
       rw [hl,U,y1,y2,Y]at F
       exact⟨bm,c4,c1,c5,c2,c6,c7,c8,c9,y,dd,I,J,L,M,O,_,F,Heap.Ns.of_isNs (PySem.W.isNs_of_in X d),PySem.W.nsMap_none_of_in X d Z,PySem.W.tail_of_in X z4⟩
     . cases q
   . cases q
section
variable {P:Program}{w:World}{K:Frag}{mg:Str->Option Value}{base:Heap}{N:List Str}{qual:Str}{scope:Scope}{f:Addr}{cd:Value}{A:Around}{outer:List Env}{s0:Shared}{H0:Hp}{E:XK}
def Zo (C:Addr) (E:XK) (t:TA):TS:=fun _ σ H=>t σ H fun vs H1=>vs.length<=sizeLine/\E (.ref C) none H1
theorem Jv {C:Addr}{x:Str}{np cpos pos:Pos}{e:Expr}{es:List Expr}{t:TA} (hq:Z5 K C) (hm:mg x=some (.ref C))
 (ha:PA (Sw (CXE P w) P w K mg base N qual scope f cd A outer s0 H0 E) (e::es) t) (hg:Gl (Sw (CXE P w) P w K mg base N qual scope f cd A outer s0 H0 E) x:=by rfl) (O:(x==("__debug__":Str))=false:=by decide)
 (M:starEach (e::es) (envOfC qual scope s0.heap.objs.size f cd)=(false,eval e (envOfC qual scope s0.heap.objs.size f cd))::starEach es (envOfC qual scope s0.heap.objs.size f cd):=by rfl)
 (U:(backTo cpos (starEach es (envOfC qual scope s0.heap.objs.size f cd))).any (·.1)=false:=by rfl):
 PS (Sw (CXE P w) P w K mg base N qual scope f cd A outer s0 H0 E) (.Raise (some (.Call (.Name x np) (e::es) [] cpos)) none pos) (Zo C E t):=by
 intro pins s σ H D I h
 obtain⟨bm,N',nm,q,bs,d,sn,sub,ab,G,dd,k0,k1,k2,k3,k5,mN,hC,hN,Y,TL⟩:=hq.obj I.mod.kin
 refine wpAny_Raise_call_subT (nm:=nm) (q:=q) (C:=C) (N:=N') (bs:=bs) (bm:=bm) (hdct:=d) (sn:=sn) (sub:=sub) (ab:=ab) (col:=G) (dd:=dd) (k0:=k0) (k1:=k1) (k2:=k2) (k3:=k3) (k5:=k5) PySem.F.excBase_ValueError (TL.hasType (by decide)) (I.ok.hd rfl) (by
  show(backTo cpos (starEach (e::es) (envOfC qual scope s0.heap.objs.size f cd))).any (·.1)=false
  rw [M]
  show(false||(backTo cpos (starEach es _)).any (·.1))=false
  rw [U];rfl) Y (Tz I hg hm ⟨rfl,?_⟩ O)
 have Z:=ha cpos pins s σ H _ I h
 show wpAny _ _ (evalArgs (.ref C) true (backTo cpos (starEach (e::es) (envOfC qual scope s0.heap.objs.size f cd))) []) _ _ s
 have J:wpAny (model P w) (A.deeper (envOfC qual scope s0.heap.objs.size f cd)) (spliced (backTo cpos (starEach (e::es) (envOfC qual scope s0.heap.objs.size f cd)))) _ _ s:=Z
 rw [M]at J ⊢
 refine Calls.evalArgs_plain (thn J fun us s2 ⟨vs,H2,y,r,z,q2⟩=>⟨rfl,by rw [<-r.length];exact z,y.bk _ _ hC,hN.keeps y.bk,TL.keeps y.bk,fun h' x' L=> ?_⟩)
 show wpAny _ _ (leaving _ (.ref x')) _ _ _
 refine wpAny_leaves_madeW (base:=hideAll s2.heap (frs (envOfC qual scope s0.heap.objs.size f cd::outer))) (h:=s2.heap) y.ok.frames rfl (fun b o q=>of_hideAll _ q) (PySem.W.funFrames_hide y.stack fun env M b hb=>mem_filterMap.mpr ⟨env,M,hb⟩) L fun a0 t' fl _ _ up=> ?_
 exact⟨x',C,.ref t',_,H2,rfl,y.os,y.bare,fl,(y.fx rfl).step fl.1 ((Heap.UpToSlots.of_keeps L.keeps).trans up),q2⟩
end
theorem Ad0 {C:Addr}{E:XK}{t:TA}{D:Ends}{σ:St}{H:Hp}:Zo C E t D σ H=t σ H (fun d H1=>d.length<=sizeLine/\E (.ref C) none H1):=rfl
theorem PS.nox {X:Cx}{st:Stmt}{t:TS} (h:PS X.nox st t):PS X st t:=fun pins s σ H D I d=>
 wpAny_mono (h pins s σ H D (I.wish _) d) (fun _ _ q=>q.unwish) fun _ _ z=>False.elim z
theorem Fun.okE {P:Program}{w:World}{K:Frag}{mg:Str->Option Value}{base:Heap}{x qual:Str}{st:Stmt}{f:Addr}{fd:FuncData}{N ps:List Str}{k:Nat}{sp:Sp} (F:Fun K x qual st f fd) (S:Bg N ps (Ak st)) (G:∀q H Q E,sp q H Q E->q.length=ps.length)
 (y:∀(d:Value) (A:Around) (outer:List Env) (s:Shared) (H:Hp) (q:List V) (Q:VK) (E:XK),J8 k (A.deeper (envOfC qual (Ak st) s.heap.objs.size f d))->sp q H Q E->
   ∃t,PSs (Sw (CXE P w) P w K mg base N qual (Ak st) f d A outer s H E) (G7 st) t/\t { nx:=fun _ H'=>Q .non H',rt:=Q} (start N q) H):Ny P w K mg base (CXE P w) (k+1) f fd ps sp:=by
 obtain⟨Y,Z,kV,L,pm,an,d,ct,M,rfl,O,I⟩:=F.ex
 exact Aeq O I S G fun A outer s H q Q E U J=>y d A outer s H q Q E U J
def Ad5 (P:Program) (w:World) (K:Frag) (mg:Str->Option Value) (base:Heap) (k:Nat) (x:Str) (ps:List Str) (sp:Sp):Prop:=
 ∃f fd,Ny P w K mg base (CXE P w) k f fd ps sp/\mg x=some (.ref f)/\keepIn K (.ref f)=true/\Binds K fd ps []
theorem Df.calE {P:Program}{w:World}{K:Frag}{mg:Str->Option Value}{base:Heap}{k:Nat}{x:Str}{st:Stmt}{ps:List Str}{f:Addr}{fd:FuncData}{sp:Sp}
 (F:Df K mg x st ps f fd) (G:Ny P w K mg base (CXE P w) k f fd ps sp):Ad5 P w K mg base k x ps sp:=⟨f,fd,G,F.at',F.fn.kp,F.bd⟩
theorem Ad5.calm {P:Program}{w:World}{K:Frag}{mg:Str->Option Value}{base:Heap}{k:Nat}{x:Str}{ps:List Str}{sp y:Sp}
 (C:Ad5 P w K mg base k x ps sp) (h:∀d H Q E,y d H Q E->sp d H Q E0):Cal P w K mg base k x ps y:=by
 obtain⟨f,fd,G,a,b,c⟩:=C
 refine⟨f,fd,⟨fun d H Q E z=>G.len d H Q E0 (h _ _ _ _ z),fun A outer s H args F d Q E I J L M O=> ?_⟩,a,b,c⟩
 refine codeAny_mono (G.run A outer s H args F d Q E0 I J L M (h _ _ _ _ O)) fun r s' q=> ?_
 cases r with
 | ok U=>cases U<;>exact q
 | error e=>
   obtain⟨_,_,_,_,_,_,_,_,_,_,z⟩:=q
   exact z.elim
end L2
namespace L2
open PySem PySem.Spec PyProof.Rows
set_option maxRecDepth 100000
end L2
namespace L2
open PySem PySem.Spec PyProof.Rows
set_option maxRecDepth 100000
structure Aio (K:Frag) (C:Addr):Prop where
 ga:findIn K (.ref C) "__getattribute__"=some (some (.builtin "BaseException.__getattribute__"))
 gn:findIn K (.ref C) "__getattr__"=some none
 cl:findIn K (.ref C) "__class__"=some (some (.builtin "object.__class__"))
 ob:mroIn K C (.type "object")=some true
 be:mroIn K C (.type "BaseException")=some true
theorem Aio.is {K:Frag}{C:Addr} (Z:Aio K C):(clsIn K C).isSome=true:=by
 obtain⟨cd,a,_⟩:=Option.bind_eq_some_iff.mp Z.ob
 rw [a];rfl
theorem nw {H H':Hp}{p:Addr}{o:HO} (d:H p=none) (e:upd H p o=H'):Same H H'/\H' p=some o:=by
 subst e
 exact⟨Same.upd d _,Ag⟩
end L2
namespace L2
open PySem PySem.Spec PyProof.Rows
def El:Expr->Bool
 | .Starred _ _=>false
 | _=>true
theorem J6 {e:Expr}{es:List Expr}{env:Env} (h:El e=true):starEach (e::es) env=(false,eval e env)::starEach es env:=by
 cases e<;>first | rfl | cases h
theorem Ls {env:Env}{pos:Pos}:∀ {es:List Expr},es.all El=true->(backTo pos (starEach es env)).any (·.1)=false
 | [],_=>rfl
 | e::es,h=>by
   rw [all_cons,and_eq_true]at h
   rw [J6 h.1]
   have d:=Ls (env:=env) (pos:=pos) h.2
   unfold backTo at d ⊢
   rw [map_cons,any_cons,d]
   rfl
section
variable {X:Cx}{e:Expr}{es:List Expr}{te:TE}{t:TA}{x:Str}{p pos:Pos}{id T:String}{r:List V->Hp->VK->Prop}{k:Nat}{ps:List Str}{sp:Sp}
theorem Aby (d:PE X e te) (q:PA X es t) (h:El e=true:=by rfl):PA X (e::es) (Lg te t):=Ac4 d q (J6 h)
theorem Yx (q:Gq X (.builtin id) r) (y:Gl X x) (F:X.mg x=none) (G:bootBuiltins x=some (.builtin id)) (I:PA X (e::es) t) (h1:El e=true:=by rfl) (h2:es.all El=true:=by rfl) (J:x≠"__name__":=by decide) (d:(x==("__debug__":Str))=false:=by decide):
 PE X (.Call (.Name x p) (e::es) [] pos) (tCB r t):=Aat q y F G I J d (J6 h1) (Ls h2)
theorem Rq (q:Gq X (.type T) r) (y:Gl X x) (F:X.mg x=none) (G:bootBuiltins x=some (.type T)) (I:PA X (e::es) t) (h1:El e=true:=by rfl) (h2:es.all El=true:=by rfl) (J:x≠"__name__":=by decide) (d:(x==("__debug__":Str))=false:=by decide):
 PE X (.Call (.Name x p) (e::es) [] pos) (tCB r t):=Yy q y F G I J d (J6 h1) (Ls h2)
theorem Wy (C:Cal X.prog X.w X.K X.mg X.base k x ps sp) (q:J8 k X.A) (y:PA X (e::es) t) (h1:El e=true:=by rfl) (h2:es.all El=true:=by rfl) (F:Gl X x:=by rfl) (d:(x==("__debug__":Str))=false:=by decide):
 PE X (.Call (.Name x p) (e::es) [] pos) (Lf sp [] E0 t):=Aau C q y F d (J6 h1) (Ls h2)
theorem Wz {n:Nat} (C:Cal X.prog X.w X.K X.mg X.base k x ps sp) (q:J8 n X.A) (y:PA X (e::es) t) (F:k<=n:=by decide) (h1:El e=true:=by rfl) (h2:es.all El=true:=by rfl) (G:Gl X x:=by rfl) (d:(x==("__debug__":Str))=false:=by decide):
 PE X (.Call (.Name x p) (e::es) [] pos) (Lf sp [] E0 t):=Wy C (q.mono F) y h1 h2 G d
theorem Y8 {te:TE}{x:Str}{d:Pos} (i:Nat) (q:X.N.Nodup) (y:PE X e te) (hi:X.N[i]? =some x:=by rfl) (F:Loc X.env.scope x:=by first | exact Or.inl rfl | exact Or.inr rfl) (G:swapsWith e (some (.Name x d)) pos.line X.env=pure false:=by rfl) (I:X.fn x=true\/X.env.scope.names.lookup x=some .local :=by first | exact .inl rfl | exact .inr rfl | assumption):
 PS X (.Assign [.Name x d] e pos) (Abd te (Ga i)):=Vr q hi F y G I
theorem Aax {x:Str} (i:Nat) (d:X.N.Nodup) (hi:X.N[i]? =some x:=by rfl) (q:Loc X.env.scope x:=by first | exact Or.inl rfl | exact Or.inr rfl) (y:X.fn x=true\/X.env.scope.names.lookup x=some .local :=by first | exact .inl rfl | exact .inr rfl | assumption):PG X (.Name x pos) (Ga i):=Uc d hi q y
end
end L2
namespace L2
open PySem PySem.Spec PyProof.Rows
section
variable {X:Cx}{tg:Expr}
theorem Ah3 {i j:Int}{G:Int->Int->Prop}:(∃d q:Int,[V.int i,.int j,.int (-1)]=[.int d,.int q,.int (-1)]/\G d q)=G i j:=propext ⟨fun⟨_,_,e,h⟩=>by cases e;exact h,fun h=>⟨i,j,rfl,h⟩⟩
end
end L2
namespace L2
open PySem PySem.Spec PyProof.Rows
theorem Agz {σ:St}{H:Hp}{g:TG}{tb:TS}{D:Ends}{J:It} (n:Nat) (inj:Nat->V) (q:Nat->St->Hp->Prop) (I:q 0 σ H) (L:∀i σ H,q i σ H->Ach J H (List.range n) inj)
 (M:∀i σ H,i<n->q i σ H->g (inj i) σ H fun y H2=>tb { D with nx:=q (i+1),ct:=q (i+1),bk:=D.nx} y H2) (O:∀σ H,q n σ H->D.nx σ H):FI J g tb D σ H:=by
 refine Ra (es:=List.range n) (inj:=inj) (fun d=>q d.length) I (fun d σ H p=>L d.length σ H p) (fun d e F σ H G p=> ?_) (fun σ H p=>O σ H (by rw [length_range]at p;exact p))
 have U:=congrArg List.length G
 rw [length_range,length_append,length_cons]at U
 have W:e=d.length:=by
  have:=congrArg (fun l=>l[d.length]?) G
  simp only [getElem?_append_right (le_refl _),sub_self,List.getElem?_cons_zero]at this
  rw [getElem?_range (by omega)]at this
  exact(Option.some.inj this).symm
 subst W
 have:=M d.length σ H (by omega) p
 rw [length_append,length_singleton]
 exact this
theorem Same.put {H H':Hp}{p:Addr}{o:HO} (s:Same H H') (d:H p=none):Same H (L2.upd H' p o):=fun b u e=>by
 rw [Bs (Bo e d)]
 exact s b u e
end L2
namespace L2
open PySem PySem.Spec PyProof.Rows
theorem Q8 {X:Cx} (K:Frag) (h:X.K=K:=by rfl):Gq X (.builtin "isinstance") (fun xs H Q=>∃x t T b,xs=[x,.ty T]/\Qy K H x t/\kitOne K t (.type T)=some b/\Q (.bl b) H):=by
 subst h
 exact Fo
end L2
namespace L2
theorem Ot {t u:TS}{D:Ends}{σ:St}{H:Hp} (P:St->Hp->Prop) (h1:∀N:St->Hp->Prop,(∀d H',P d H'->N d H')->t { D with nx:=N} σ H) (h2:∀d H',P d H'->u D d H'):Ago t u D σ H:=h1 (u D) h2
end L2
namespace L2
open PySem PySem.Spec PyProof.Rows
theorem Qo {K:Frag}{H:Hp}{p a:Addr}{d xs:List V}{o:HO} (h:SqT K H a xs) (q:H p=some (.lst d)):SqT K (upd H p o) a xs:=by
 rcases h with(h | ⟨o',h⟩) | h
 . exact .inl (.inl (by rw [Bs (Aam h q (by intro z;cases z))];exact h))
 . exact .inl (.inr ⟨o',by rw [Bs (Aam h q (by intro z;cases z))];exact h⟩)
 . exact .inr h
section
variable {K:Frag}{H1:Hp}{p:Addr}{cσ:St}{g:TG}{te:TE}{Q:VK}{α:Type}{es:List α}{inj:α->V}
theorem Jf {J:It} (G:α->V->Hp->Prop) (hz:es.length<=sizeLine) (hp:H1 p=none) (Y:Wk J H1 es inj)
 (hm:∀e v H H',G e v H->Same H H'->G e v H') (hu:∀e v H d o,G e v H->H p=some (.lst d)->G e v (upd H p o))
 (step:∀e H' R,e∈es->Same H1 H'->(∀v F,Same H' F->G e v F->R v F)->g (inj e) cσ H' fun I H4=>Kp cσ I/\te I H4 R)
 (done:∀(ns:List V) H',ns.length=es.length->(∀(i:Nat) e n,es[i]? =some e->ns[i]? =some n->G e n H')->Same H1 H'->H' p=some (.lst ns)->Q (.ref p) H'):cIn J cσ g Gy te Q H1 p:=by
 have Z:∀ {H':Hp}{o:HO},Same H1 H'->Same H1 (upd H' p o):=fun {H' o} s b u e=>by
  rw [Bs (Bo e hp)]
  exact s b u e
 refine⟨fun i m d H'=>m=es.length-i/\i<=es.length/\(d.length=i/\∀(j:Nat) e n,es[j]? =some e->d[j]? =some n->G e n H')/\H' p=some (.lst d)/\Same H1 H',⟨es.length,by simp,zero_le _,⟨rfl,fun j e n _ h=>by simp at h⟩,Ag,Z (Same.refl _)⟩,?_⟩
 rintro i m ns H' ⟨rfl,hi,⟨hl,hn⟩,M,s⟩
 cases he:es[i]? with
 | none=>
   have e:i=es.length:=le_antisymm hi (List.getElem?_eq_none_iff.mp he)
   exact .inl ⟨(Y _ _ s).1 he,done ns _ (hl.trans e) hn s M⟩
 | some e=>
   obtain⟨go,yl⟩:=(Y _ _ s).2 e he
   refine .inr ⟨go,fun x H3 y=> ?_⟩
   obtain⟨rfl,rfl⟩:=yl x H3 y
   obtain⟨O,_⟩:=List.getElem?_eq_some_iff.mp he
   have q:=step e H3 (fun y F=>F p=some (.lst ns)/\ns.length<sizeLine/\∃m',m'<es.length-i/\m'=es.length-(i+1)/\i+1<=es.length/\((ns++ [y]).length=i+1/\∀(j:Nat) e n,es[j]? =some e->(ns++ [y])[j]? =some n->G e n (upd F p (.lst (ns++ [y]))))/\
    upd F p (.lst (ns++ [y])) p=some (.lst (ns++ [y]))/\Same H1 (upd F p (.lst (ns++ [y])))) (List.mem_of_getElem? he) s
    (fun n F L pn=>⟨L _ _ M,by omega,_,by omega,rfl,O,⟨by rw [length_append,hl];rfl,fun j e' n' h1 h2=>by
      refine hu _ _ _ _ _ ?_ (L _ _ M)
      by_cases hj:j<ns.length
      . rw [getElem?_append_left hj]at h2
        exact hm _ _ _ _ (hn j e' n' h1 h2) L
      . rw [getElem?_append_right (by omega)]at h2
        have U:j-ns.length=0:=by
         have:=(List.getElem?_eq_some_iff.mp h2).1
         simp at this
         omega
        rw [U]at h2
        have W:j=i:=by omega
        subst W
        rw [he]at h1
        cases h1
        cases h2
        exact pn⟩,Ag,Z (s.trans L)⟩)
   exact q
end
end L2
namespace L2
open PySem PySem.SeqAt PySem.Spec PyProof.Rows
section
variable {X:Cx}
theorem Ac3:OpR X (compareOp .IsNot) (fun x y H Q=>∃a b:Bool,x= .bl a/\y= .bl b/\Q (.bl (a != b)) H):=by
 intro pins s σ H x y v u Q I d F h
 obtain⟨a,b,rfl,rfl,q⟩:=h
 cases d
 cases F
 exact isnot_bool ⟨.bl _,H,I,rfl,q⟩
theorem Vf:∀ {ns:List Int}{d:List Value},Vals (ns.map V.int) d->PyProof.Rows.IntsAre d ns
 | [],_,.nil=> .nil
 | n::ns,_,.cons r rs=>by
   obtain⟨t,rfl⟩:=r
   exact .cons n t (Vf rs)
end
end L2
namespace L2
open PySem PySem.Spec PyProof.Rows
theorem Vn {X:Cx}{x:Str}{v:V}{pos:Pos} (d:Gl X x) (h:∃u,X.mg x=some u/\RelV v u) (q:(x==("__debug__":Str))=false:=by decide):PE X (.Name x pos) (tC v):=by
 obtain⟨u,a,b⟩:=h
 exact Ub d a b q
end L2
namespace L2
open PySem PySem.Spec PyProof.Rows
def Ad8 (K:Frag) (a:Addr):It:=
 ⟨fun i H=>∃xs x,SqL K H a xs/\xs[i]? =some x,fun i H x H'=>∃p v,(∀xs,SqL K H a xs->xs[i]? =some v)/\H p=none/\x= .ref p/\H'=upd H p (.tup [.int (i:Nat),v]),fun i H=>∃xs,SqL K H a xs/\xs.length<=i⟩
theorem M7 {h:Heap}{a:Addr}{its:Array Value} (p:PlainL h a its):h.IsList a its:=by
 obtain⟨o,n,e,c,_,d⟩:=p
 exact⟨o,e,c,n,d⟩
theorem Abe {P:Program}{w:World}{K:Frag}{el:List Expr}{x1}{tp:Pos} (a e j:Addr) (ne:e≠j):Turn P w K (.Tuple el x1 tp) (Ad8 K a) [e,j] e (fun i h=>(∃old,IsEnum h e j i old)/\h.IsListIter j a i) where
 mem:=by simp
 obj:=fun i h st b d=>by
  obtain⟨⟨old,y⟩,Y,G,cj,dj⟩:=st
  rcases mem_cons.mp d with rfl | d
  . exact⟨_,y,fun v z=>by cases(show Data.fields _=Data.cell v from z)⟩
  . have z:b=j:=by simpa using d
    subst z
    exact⟨Y,G,fun v z=>by rw [dj]at z;cases z⟩
 keep:=fun i h h' st k=>by
  obtain⟨⟨old,y⟩,Y,G,r⟩:=st
  exact⟨⟨old,k e (by simp) _ y⟩,Y,k j (by simp) _ G,r⟩
 item:=by
  intro X Z hw hK hc i pins s σ H E I M st hg
  subst Z hw hK
  obtain⟨xs,x,O,hx⟩:=hg
  obtain⟨a0,rv,p,hz⟩:=I.list O
  obtain⟨u,hu,ru⟩:=rv.get hx
  obtain⟨⟨old,y⟩,U⟩:=st
  refine wpAny_pyNext_enum_item y U (M7 p) (x:=u) (by simpa using hu) ne fun g J a1 hT a6 kk=>⟨_,rfl,?_⟩
  refine wpAny_letOwnedTupleGo_enum J fun g2 a2 F=> ?_
  replace F:Heap.SameBut e g g2:=F
  have a3:e<s.heap.objs.size:=Heap.lt_size y
  have a4:j<s.heap.objs.size:=by
   obtain⟨_,G,_⟩:=U
   exact Heap.lt_size G
  have hn:H s.heap.objs.size=none:=I.fresh
  have I1:Inv X pins σ (upd H s.heap.objs.size (.tup [.int (i:Nat),x])) { s with heap:=s.heap.push { cls:= .type "tuple",data:= .seq #[.int i s.toks,u]},toks:=s.toks+1}:=
   I.laid (fun b o q=>Heap.get?_push_of_some _ q) (le_refl _) ⟨by show 2<=sizeLine;decide,[.int i s.toks,u],.cons ⟨_,rfl⟩ (.cons ru .nil),⟨_,Heap.get?_push_size _ rfl,rfl,_,rfl⟩⟩
  have L:∀b∈ [e,j],Nx X pins (upd H s.heap.objs.size (.tup [.int (i:Nat),x])) b:=fun b d=>by
   have nb:b≠s.heap.objs.size:=by
    rcases mem_cons.mp d with rfl | a5
    . exact ne_of_lt a3
    . have z:b=j:=by simpa using a5
      subst z
      exact ne_of_lt a4
   exact⟨by rw [Bs nb];exact(M b d).1,(M b d).2⟩
  have I2:=I1.turnL (h':=g2) (t':=s.toks+1) (fp:=[e,j]) (fun b o d q=>by
   have n1:b≠e:=fun z=>d (by simp [z])
   have n2:b≠j:=fun z=>d (by simp [z])
   refine(F.2 b n1).trans ?_
   rcases Heap.get?_push_cases q with⟨rfl,rfl⟩ | q0
   . exact hT
   . exact kk b o n1 n2 q0) L
  refine⟨.ref s.heap.objs.size,_,I2,rfl,⟨_,x,fun ys hy=>by rw [I.list_inj hy O];exact hx,hn,rfl,rfl⟩,⟨⟨_,by simpa using a2⟩,?_⟩,fun b d=>(L b d).1⟩
  exact a1.extBut F.extBut (Ne.symm ne)
 done:=by
  intro X Z hw hK hc i pins s σ H E I M st hg
  subst Z hw hK
  obtain⟨xs,O,hx⟩:=hg
  obtain⟨a0,rv,p,hz⟩:=I.list O
  obtain⟨⟨old,y⟩,U⟩:=st
  have hl:=rv.length
  exact wpAny_pyNext_enum_end (I.ok.hd hc) y U (M7 p) (by simp;omega) fun g eb=>⟨rfl,I.turnL (t':=s.toks) (fp:=[e,j]) (fun b o d q=>eb b o (fun z=>d (by simp [z])) q) M⟩
 self:=fun _ _ _ _ _ st h=>by
  obtain⟨⟨old,y⟩,_⟩:=st
  exact wpAny_pyIter_enum y h
section
variable {X:Cx}{a:Expr}{ta:TA}{el:List Expr}{x1}{tp p pos:Pos}
def Ag2 (K:Frag) (ta:TA):TI:=fun σ H R=>ta σ H fun vs H1=>∃a,vs=[.ref a]/\(∃xs,SqL K H1 a xs)/\R (Ad8 K a) H1
theorem Ab0 (L:Gl X "enumerate") (M:X.mg "enumerate"=none) (O:PA X [a] ta) (U:starEach [a] X.env=[(false,eval a X.env)]:=by rfl):PI X (.Tuple el x1 tp) (.Call (.Name "enumerate" p) [a] [] pos) (Ag2 X.K ta):=by
 intro pins s σ H R I h
 refine Call_ (Mu I L M boot_enumerate (PyProof.Rows.callWith_type1 (thn (O pos pins s σ H _ I h) fun us d ⟨vs,H1,G,W,Y⟩=> ?_) U rfl))
 obtain⟨b,rfl,⟨xs,Z⟩,q⟩:=Y
 obtain⟨v,rfl,rv⟩:=vals1 W
 cases rv
 obtain⟨a0,rr,pl,hz⟩:=G.list Z
 refine call_enumerate_list (M7 pl) fun h' J hj a1 hk=> ?_
 have I2:Inv X pins σ H1 { d with heap:=h'}:=G.kept (t':=d.toks) hk
 refine wpAny_pyIter_enum J ⟨d.heap.objs.size+1,[d.heap.objs.size+1,d.heap.objs.size],_,_,H1,rfl,I2,Abe b _ _ (ne_of_gt (lt_succ_self _)),⟨⟨_,J⟩,hj⟩,fun c y=> ?_,q⟩
 have F:d.heap.objs.size<=c:=by
  rcases mem_cons.mp y with rfl | y
  . exact le_succ _
  . have z:c=d.heap.objs.size:=by simpa using y
    exact le_of_eq z.symm
 exact G.fpOk F (G.hok.fresh F)
end
theorem Af7 {K:Frag}{σ:St}{H:Hp}{ta:TA}{R:It->Hp->Prop}:Ag2 K ta σ H R=ta σ H (fun d H1=>∃a,d=[.ref a]/\(∃xs,SqL K H1 a xs)/\R (Ad8 K a) H1):=rfl
theorem Va {K:Frag}{σ:St}{H:Hp}{g:TG}{tb:TS}{D:Ends}{α:Type}{es:List α}{inj:α->V}{a:Addr} (F:List α->St->Hp->Prop) (M:F [] σ H) (O:∀d σ H,F d σ H->SqL K H a (es.map inj))
 (U:∀d e G σ H p,es=d++e::G->F d σ H->H p=none->g (.ref p) σ (upd H p (.tup [.int (d.length:Nat),inj e])) fun J H2=>tb { D with nx:=F (d++ [e]),ct:=F (d++ [e]),bk:=D.nx} J H2) (Y:∀σ H,F es σ H->D.nx σ H):FI (Ad8 K a) g tb D σ H:=by
 refine⟨fun i m σ H=>m=es.length-i/\i<=es.length/\F (es.take i) σ H,⟨es.length,by simp,zero_le _,M⟩,?_⟩
 rintro i m σ H ⟨rfl,hi,p⟩
 have w:=O _ _ _ p
 cases he:es[i]? with
 | none=>
   have e:i=es.length:=le_antisymm hi (List.getElem?_eq_none_iff.mp he)
   subst e
   rw [take_length]at p
   exact .inl ⟨⟨_,w,by rw [length_map];exact le_refl _⟩,Y _ _ p⟩
 | some e=>
   obtain⟨I,Z⟩:=List.getElem?_eq_some_iff.mp he
   have tk:es.take (i+1)=es.take i++ [e]:=by rw [take_succ,he];rfl
   have sp:es=es.take i++e::es.drop (i+1):=by
    rw [<-Z,<-List.drop_eq_getElem_cons I,List.take_append_drop]
   refine .inr ⟨⟨_,inj e,w,by rw [getElem?_map,he];rfl⟩,F (es.take i++ [e]),fun a0 H' q=>⟨es.length-(i+1),by omega,rfl,I,by rw [tk];exact q⟩,fun x H' y=> ?_⟩
   obtain⟨b,v,y1,y2,rfl,rfl⟩:=y
   have L:=y1 _ w
   rw [getElem?_map,he]at L
   obtain rfl:inj e=v:=Option.some.inj L
   have hl:(es.take i).length=i:=by rw [length_take];omega
   have z:=U _ e _ σ H b sp p y2
   rw [hl]at z
   exact z
end L2
namespace L2
open PySem PySem.Spec PyProof.Rows
def It1 (t:Bool) (h:Heap) (j u:Addr) (k:Nat):Prop:=if t=true then h.IsTupleIter j u k else h.IsListIter j u k
def Sq1 (t:Bool) (h:Heap) (u:Addr) (xs:Array Value):Prop:=if t=true then h.IsTuple u xs else h.IsList u xs
theorem It1.ext {t:Bool}{h g:Heap}{j u b:Addr}{k:Nat} (x:It1 t h j u k) (e:Heap.ExtBut b h g) (n:j≠b):It1 t g j u k:=by
 cases t
 . exact Heap.IsListIter.extBut x e n
 . exact Heap.IsTupleIter.extBut x e n
theorem It1.to {t:Bool}{h g:Heap}{j u:Addr}{k:Nat} (x:It1 t h j u k) (e:∀o,h.get? j=some o->g.get? j=some o):It1 t g j u k:=by
 cases t
 . exact Heap.IsListIter.at x e
 . exact Heap.IsTupleIter.at x e
theorem Sq1.ext {t:Bool}{h g:Heap}{u b:Addr}{xs:Array Value} (x:Sq1 t h u xs) (e:Heap.ExtBut b h g) (n:u≠b):Sq1 t g u xs:=by
 cases t
 . exact Heap.IsList.extBut x e n
 . exact Heap.IsTuple.extBut x e n
theorem It1.there {t:Bool}{h:Heap}{j u:Addr}{k:Nat} (x:It1 t h j u k):∃o,h.get? j=some o/\∀v,o.data≠ .cell v:=by
 cases t
 . obtain⟨o,e,_,d⟩:=(show h.IsListIter j u k from x)
   exact⟨o,e,fun v z=>by rw [d]at z;cases z⟩
 . obtain⟨o,e,_,d⟩:=(show h.IsTupleIter j u k from x)
   exact⟨o,e,fun v z=>by rw [d]at z;cases z⟩
section
variable {prog:Program}{w:World}{A:Around}{E:Value->Shared->Prop}{s:Shared}
theorem Acy {t:Bool}{j u:Addr}{k:Nat}{xs:Array Value}{y:Value}{Q:Value->Shared->Prop} (d:It1 t s.heap j u k) (q:Sq1 t s.heap u xs) (F:xs[k]? =some y)
 (c:∀g,It1 t g j u (k+1)->Heap.SameBut j s.heap g->Q y { s with heap:=g}):wpAny (model prog w) A (Builtin.SmallTypes.nextOf (.ref j)) Q E s:=by
 cases t
 . exact wpAny_nextOf_list_item d q F c
 . exact nextT d q F c
theorem Rf {t:Bool}{j u:Addr}{k:Nat}{xs:Array Value}{Q:Value->Shared->Prop} (d:A.handled=none) (q:It1 t s.heap j u k) (y:Sq1 t s.heap u xs) (F:xs[k]? =none)
 (c:∀g e,Heap.ExtBut j s.heap g->(∃o,g.get? e=some o/\o.cls= .type "StopIteration")->E (.ref e) { s with heap:=g}):wpAny (model prog w) A (Builtin.SmallTypes.nextOf (.ref j)) Q E s:=by
 cases t
 . exact wpAny_nextOf_list_end d q y F c
 . exact Yn d q y F c
theorem Z0 {t1 t2:Bool}{d TI TO G I U W:Addr}{k1 k2:Nat}{xs ys:Array Value}{x y p q:Value}{Q:Value->Shared->Prop} (D:ZipApart d TI TO G I U W)
 (hz:IsZip s.heap d TI TO .none) (a3:IsPair s.heap TI (.ref G) (.ref I)) (a4:IsPair s.heap TO p q) (j1:It1 t1 s.heap G U k1) (j2:It1 t2 s.heap I W k2) (a1:Sq1 t1 s.heap U xs) (a2:Sq1 t2 s.heap W ys) (hx:xs[k1]? =some x) (hy:ys[k2]? =some y)
 (c:∀g,IsZip g d TI TO (rawInt s.heap.objs.size)->IsPair g TO x y->It1 t1 g G U (k1+1)->It1 t2 g I W (k2+1)->IsPair g s.heap.objs.size x y->g.objs.size=s.heap.objs.size+1->
   (∀b o,b≠d->b≠TO->b≠G->b≠I->s.heap.get? b=some o->g.get? b=some o)->Q (.ref s.heap.objs.size) { s with heap:=g}):
 wpAny (model prog w) A (Builtin.«zip.__next__» ⟨[.ref d],[]⟩) (fun a5 s'=>∃v,a5= .done (.ret v)/\Q v s') E s:=by
 show wpAny _ _ (field (.ref d) 2>>=_) _ _ s
 refine wpAny_bind (wpAny_field hz rfl (x:= .bool false) rfl ?z1)
 case z1=>
 show wpAny _ _ (field (.ref d) 3>>=_) _ _ s
 refine wpAny_bind (wpAny_field hz rfl (x:= .ref TI) rfl (wpAny_bind (wpAny_seqItems a3 rfl ?z2)))
 case z2=>
 show wpAny _ _ (Builtin.SmallTypes.ownedTupleIsFree (.ref d)>>=_) _ _ s
 refine wpAny_bind (m:=Builtin.SmallTypes.ownedTupleIsFree (.ref d)) ?z3
 case z3=>
 unfold Builtin.SmallTypes.ownedTupleIsFree;refine wpAny_bind (wpAny_field hz rfl (x:= .none) rfl (wpAny_pure ?z4))
 case z4=>
 simp only [if_true];refine wpAny_bind (wpAny_rule (wpAny_bind (wpAny_field hz rfl (x:= .ref TO) rfl (wpAny_bind (wpAny_setField_rec hz (by simp) fun g1 (z1:IsZip g1 d TI TO .ellipsis) J=> ?z5)))))
 case z5=>
 refine wpAny_bind ?z6
 case z6=>
 simp only [forIn_cons,forIn_nil,List.zipIdx_cons,List.zipIdx_nil]
 refine wpAny_bind (wpAny_bind (wpAny_onRaise ?z7))
 case z7=>
 show wpAny _ _ (Builtin.SmallTypes.nextOf (.ref G)>>=_) _ _ { s with heap:=g1}
 refine wpAny_bind (Acy (j1.ext J.extBut D.i1z) (a1.ext J.extBut D.l1z) hx fun g2 n1 M=>wpAny_pure ?z8)
 case z8=>
 have o2:IsPair g2 TO p q:=M.extBut _ _ D.TOi1 (J.extBut _ _ D.TOz a4)
 refine wpAny_bind (wpAny_seqItems o2 rfl (wpAny_bind (wpAny_updateSeq_pair o2 fun g3 (o3:IsPair g3 TO x q) O=>wpAny_bind (wpAny_letGo (wpAny_pure (wpAny_bind (wpAny_bind (wpAny_onRaise ?z9))))))))
 case z9=>
 show wpAny _ _ (Builtin.SmallTypes.nextOf (.ref I)>>=_) _ _ { s with heap:=g3}
 refine wpAny_bind (Acy (((j2.ext J.extBut D.i2z).ext M.extBut D.i12.symm).ext O.extBut D.TOi2.symm) (((a2.ext J.extBut D.l2z).ext M.extBut D.l2i1).ext O.extBut D.l2TO) hy fun g4 n2 Y=>wpAny_pure ?z10)
 case z10=>
 have o4:IsPair g4 TO x q:=Y.extBut _ _ D.TOi2 o3
 refine wpAny_bind (wpAny_seqItems o4 rfl (wpAny_bind (wpAny_updateSeq_pair o4 fun F (o5:IsPair F TO x y) Z=>wpAny_bind (wpAny_letGo (wpAny_pure (wpAny_pure (wpAny_bind (wpAny_seqItems o5 rfl (wpAny_bind (wpAny_newTuple ?z11))))))))))
 case z11=>
 have sz:F.objs.size=s.heap.objs.size:=by rw [Z.1,Y.1,O.1,M.1,J.1]
 have z5:IsZip F d TI TO .ellipsis:=Z.extBut _ _ D.TOz.symm (Y.extBut _ _ D.i2z.symm (O.extBut _ _ D.TOz.symm (M.extBut _ _ D.i1z.symm z1)))
 have k5:∀b o,b≠d->b≠TO->b≠G->b≠I->s.heap.get? b=some o->F.get? b=some o:=fun b o L c2 c3 c4 e=>Z.extBut _ _ c2 (Y.extBut _ _ c4 (O.extBut _ _ c2 (M.extBut _ _ c3 (J.extBut _ _ L e))))
 have m1:It1 t1 F G U (k1+1):=((n1.ext O.extBut D.TOi1.symm).ext Y.extBut D.i12).ext Z.extBut D.TOi1.symm
 have m2:It1 t2 F I W (k2+1):=n2.ext Z.extBut D.TOi2.symm
 have a0:d<F.objs.size:=Heap.lt_size z5
 show wpAny _ _ (Builtin.SmallTypes.ownedTupleHandOut (.ref d) (.ref F.objs.size)>>=_) _ _ _
 refine wpAny_bind (m:=Builtin.SmallTypes.ownedTupleHandOut (.ref d) (.ref F.objs.size)) ?z12
 case z12=>
 unfold Builtin.SmallTypes.ownedTupleHandOut
 have z6:IsZip (F.push { cls:= .type "tuple",data:= .seq #[x,y]}) d TI TO .ellipsis:=Heap.get?_push_of_some _ z5
 refine wpAny_bind (wpAny_setField_rec z6 (by simp) fun g7 (z7:IsZip g7 d TI TO (rawInt F.objs.size)) b7=>wpAny_setField_rec z7 (by simp) fun g8 (z8:IsZip g8 d TI TO (rawInt F.objs.size)) b8=> ?z13)
 case z13=>
 have up:∀b o,b≠d->F.get? b=some o->g8.get? b=some o:=fun b o L e=>b8.extBut _ _ L (b7.extBut _ _ L (Heap.get?_push_of_some _ e))
 have t8:IsPair g8 F.objs.size x y:=b8.extBut _ _ (ne_of_gt a0) (b7.extBut _ _ (ne_of_gt a0) (Heap.get?_push_size _ rfl))
 have w8:g8.objs.size=F.objs.size+1:=by rw [b8.1,b7.1,Heap.size_push]
 rw [sz]at z8 t8 w8
 refine wpAny_pure ⟨_,rfl,?z14⟩
 case z14=>
 show Q (.ref F.objs.size) _
 rw [sz]
 exact c g8 z8 (up _ _ D.TOz o5) (m1.to fun o e=>up _ o D.i1z e) (m2.to fun o e=>up _ o D.i2z e) t8 w8 fun b o L c2 c3 c4 e=>up b o L (k5 b o L c2 c3 c4 e)
theorem Abl {t1 t2:Bool}{F TI TO M O u1 u2:Addr}{k1 k2:Nat}{xs ys:Array Value}{p q:Value}{Q:Fin->Shared->Prop} (hh:A.handled=none) (D:ZipApart F TI TO M O u1 u2)
 (hz:IsZip s.heap F TI TO .none) (a0:IsPair s.heap TI (.ref M) (.ref O)) (a3:IsPair s.heap TO p q) (j1:It1 t1 s.heap M u1 k1) (j2:It1 t2 s.heap O u2 k2) (a1:Sq1 t1 s.heap u1 xs) (a2:Sq1 t2 s.heap u2 ys) (he:xs[k1]? =none\/ys[k2]? =none)
 (c:∀g e,(∀b o,b≠F->b≠TO->b≠M->b≠O->s.heap.get? b=some o->g.get? b=some o)->(∃o,g.get? e=some o/\o.cls= .type "StopIteration")->E (.ref e) { s with heap:=g}):
 wpAny (model prog w) A (Builtin.«zip.__next__» ⟨[.ref F],[]⟩) Q E s:=by
 show wpAny _ _ (field (.ref F) 2>>=_) _ _ s
 refine wpAny_bind (wpAny_field hz rfl (x:= .bool false) rfl ?W)
 case W=>
 show wpAny _ _ (field (.ref F) 3>>=_) _ _ s
 refine wpAny_bind (wpAny_field hz rfl (x:= .ref TI) rfl (wpAny_bind (wpAny_seqItems a0 rfl ?Y)))
 case Y=>
 show wpAny _ _ (Builtin.SmallTypes.ownedTupleIsFree (.ref F)>>=_) _ _ s
 refine wpAny_bind (m:=Builtin.SmallTypes.ownedTupleIsFree (.ref F)) ?z3
 case z3=>
 unfold Builtin.SmallTypes.ownedTupleIsFree;refine wpAny_bind (wpAny_field hz rfl (x:= .none) rfl (wpAny_pure ?Z))
 case Z=>
 simp only [if_true];refine wpAny_bind (wpAny_rule (wpAny_bind (wpAny_field hz rfl (x:= .ref TO) rfl (wpAny_bind (wpAny_setField_rec hz (by simp) fun g1 (W:IsZip g1 F TI TO .ellipsis) I=> ?z5)))))
 case z5=>
 refine wpAny_bind ?z6
 case z6=>
 simp only [forIn_cons,forIn_nil,List.zipIdx_cons,List.zipIdx_nil]
 refine wpAny_bind (wpAny_bind (wpAny_onRaise ?z7))
 case z7=>
 show wpAny _ _ (Builtin.SmallTypes.nextOf (.ref M)>>=_) _ _ { s with heap:=g1}
 cases hx:xs[k1]? with
 | none=>
   refine wpAny_bind (Rf hh (j1.ext I.extBut D.i1z) (a1.ext I.extBut D.l1z) hx fun g2 e J ⟨oe,d,G⟩=> ?_)
   have Y:IsZip g2 F TI TO .ellipsis:=J _ _ D.i1z.symm W
   have ne:e≠F:=fun y=>by subst y;rw [Y]at d;cases d;simp at G
   exact wpAny_setField_rec Y (by simp) fun g3 _ L=>c g3 e (fun b o U _ c3 _ y=>L.extBut _ _ U (J _ _ c3 (I.extBut _ _ U y))) ⟨oe,L.extBut _ _ ne d,G⟩
 | some x=>
   have hy:ys[k2]? =none:=by
    rcases he with h | h
    . rw [hx]at h;cases h
    . exact h
   refine wpAny_bind (Acy (j1.ext I.extBut D.i1z) (a1.ext I.extBut D.l1z) hx fun g2 n1 J=>wpAny_pure ?_)
   have o2:IsPair g2 TO p q:=J.extBut _ _ D.TOi1 (I.extBut _ _ D.TOz a3)
   refine wpAny_bind (wpAny_seqItems o2 rfl (wpAny_bind (wpAny_updateSeq_pair o2 fun g3 o3 L=>wpAny_bind (wpAny_letGo (wpAny_pure (wpAny_bind (wpAny_bind (wpAny_onRaise ?z9))))))))
   case z9=>
   show wpAny _ _ (Builtin.SmallTypes.nextOf (.ref O)>>=_) _ _ { s with heap:=g3}
   refine wpAny_bind (Rf hh (((j2.ext I.extBut D.i2z).ext J.extBut D.i12.symm).ext L.extBut D.TOi2.symm) (((a2.ext I.extBut D.l2z).ext J.extBut D.l2i1).ext L.extBut D.l2TO) hy fun g4 e b4 ⟨oe,d,G⟩=> ?_)
   have Z:IsZip g4 F TI TO .ellipsis:=b4 _ _ D.i2z.symm (L.extBut _ _ D.TOz.symm (J.extBut _ _ D.i1z.symm W))
   have ne:e≠F:=fun y=>by subst y;rw [Z]at d;cases d;simp at G
   exact wpAny_setField_rec Z (by simp) fun g5 _ b5=>c g5 e (fun b o U c2 c3 c4 y=>b5.extBut _ _ U (b4 _ _ c4 (L.extBut _ _ c2 (J.extBut _ _ c3 (I.extBut _ _ U y))))) ⟨oe,b5.extBut _ _ ne d,G⟩
theorem Z1 {M O:Bool}{d TI TO G I J L:Addr}{k1 k2:Nat}{xs ys:Array Value}{x y p q:Value}{Q:Option Value->Shared->Prop} (D:ZipApart d TI TO G I J L)
 (hz:IsZip s.heap d TI TO .none) (U:IsPair s.heap TI (.ref G) (.ref I)) (W:IsPair s.heap TO p q) (Z:It1 M s.heap G J k1) (j2:It1 O s.heap I L k2) (a1:Sq1 M s.heap J xs) (a2:Sq1 O s.heap L ys) (hx:xs[k1]? =some x) (hy:ys[k2]? =some y)
 (c:∀g,IsZip g d TI TO (rawInt s.heap.objs.size)->IsPair g TO x y->It1 M g G J (k1+1)->It1 O g I L (k2+1)->IsPair g s.heap.objs.size x y->g.objs.size=s.heap.objs.size+1->
   (∀b o,b≠d->b≠TO->b≠G->b≠I->s.heap.get? b=some o->g.get? b=some o)->Q (some (.ref s.heap.objs.size)) { s with heap:=g}):wpAny (model prog w) A (pyNext (.ref d)) Q E s:=by
 have Y:s.TypeIs (.ref d) "zip":=⟨_,hz,rfl⟩
 unfold pyNext
 exact wpAny_bind (wpAny_attempt (wpAny_callSpecial?_slot (name:=Str.ofString "__next__") Y F.slot_zip_next (wpAny_call_entry F.slot_zip_next Y F.entry_zip_next
  (Z0 D hz U W Z j2 a1 a2 hx hy fun g b1 b2 b3 b4 b5 b6 b7=>wpAny_pure (c g b1 b2 b3 b4 b5 b6 b7)) (F.args_zip_next_1 _))))
theorem Z2 {O U:Bool}{d TI TO y G I J:Addr}{k1 k2:Nat}{xs ys:Array Value}{p q:Value}{Q:Option Value->Shared->Prop} (Y:A.handled=none) (D:ZipApart d TI TO y G I J)
 (hz:IsZip s.heap d TI TO .none) (L:IsPair s.heap TI (.ref y) (.ref G)) (M:IsPair s.heap TO p q) (Z:It1 O s.heap y I k1) (j2:It1 U s.heap G J k2) (a1:Sq1 O s.heap I xs) (a2:Sq1 U s.heap J ys) (he:xs[k1]? =none\/ys[k2]? =none)
 (c:∀g,(∀b o,b≠d->b≠TO->b≠y->b≠G->s.heap.get? b=some o->g.get? b=some o)->Q none { s with heap:=g}):wpAny (model prog w) A (pyNext (.ref d)) Q E s:=by
 have W:s.TypeIs (.ref d) "zip":=⟨_,hz,rfl⟩
 unfold pyNext
 refine wpAny_bind (wpAny_attempt (wpAny_callSpecial?_slot (name:=Str.ofString "__next__") W F.slot_zip_next (wpAny_call_entry F.slot_zip_next W F.entry_zip_next (Abl Y D hz L M Z j2 a1 a2 he fun g e hk ⟨o,ho,hc⟩=> ?_) (F.args_zip_next_1 _))))
 exact wpAny_bind (wpAny_isInstance (T:="StopIteration") (b:=true) ⟨o,ho,hc⟩ isSubtype_stop (wpAny_pure (c _ hk)))
end
def Aeu (t:Bool):String:=if t=true then "tuple_iterator" else "list_iterator"
abbrev Tw (t:Bool) (u:Addr):Obj:={ cls:= .type (Aeu t),data:= .fields #[.ref u,.int 0 0]}
theorem iter1 {prog:Program}{w:World}{A:Around}{E:Value->Shared->Prop}{s:Shared}{t:Bool}{u:Addr}{xs:Array Value}{Q:Value->Shared->Prop} (h:Sq1 t s.heap u xs) (q:Q (.ref s.heap.objs.size) { s with heap:=s.heap.push (Tw t u)}):wpAny (model prog w) A (pyIter (.ref u)) Q E s:=by
 cases t
 . exact wpAny_pyIter_list h q
 . exact wpAny_pyIter_tuple h q
theorem Yh {t:Bool}{u j:Addr}{g:Heap} (e:g.get? j=some (Tw t u)):It1 t g j u 0:=by
 cases t
 . exact⟨_,e,rfl,rfl⟩
 . exact⟨_,e,rfl,rfl⟩
theorem Sq1.push {t:Bool}{h:Heap}{u:Addr}{xs:Array Value} (x:Sq1 t h u xs) (o:Obj):Sq1 t (h.push o) u xs:=by
 cases t
 . exact Heap.IsList.push x _
 . obtain⟨d,e,r⟩:=(show h.IsTuple u xs from x)
   exact⟨d,Heap.get?_push_of_some _ e,r⟩
abbrev zA1 (t1:Bool) (h:Heap) (u1:Addr):Heap:=h.push (Tw t1 u1)
abbrev zA2 (t1 t2:Bool) (h:Heap) (u1 u2:Addr):Heap:=(zA1 t1 h u1).push (Tw t2 u2)
abbrev zA3 (t1 t2:Bool) (h:Heap) (u1 u2:Addr):Heap:=(zA2 t1 t2 h u1 u2).push { cls:= .type "tuple",data:= .seq #[.ref h.objs.size,.ref (zA1 t1 h u1).objs.size]}
abbrev zA4 (t1 t2:Bool) (h:Heap) (u1 u2:Addr):Heap:=(zA3 t1 t2 h u1 u2).push { cls:= .type "tuple",data:= .seq #[.none,.none]}
abbrev zA5 (t1 t2:Bool) (h:Heap) (u1 u2:Addr):Heap:=(zA4 t1 t2 h u1 u2).push { cls:= .type "zip",data:= .fields #[.none,.bool false,.bool false,.ref (zA2 t1 t2 h u1 u2).objs.size,.ref (zA3 t1 t2 h u1 u2).objs.size]}
theorem Wm (y G:Bool) (q F:Addr) (xs ys:Array Value):
 Meets (Builtin.«zip.__new__» ⟨[.type "zip",.ref q,.ref F],[]⟩) (fun _ R s=>Sq1 y s.heap q xs/\Sq1 G s.heap F ys/\R (.ok (.ret (.ref (zA4 y G s.heap q F).objs.size))) { s with heap:=zA5 y G s.heap q F}):=
 .of_wp fun prog w A R s h=>by
  obtain⟨I,g,d,tk,J⟩:=s;obtain⟨L,M,h⟩:=h
  have W:=sub_zip
  have O:Sq1 y (Shared.heap ⟨I,g,d,tk,J⟩) q xs:=L
  have U:Sq1 G (Shared.heap ⟨I.push (Tw y q),g,d,tk,J⟩) F ys:=M.push _
  wp_walk using iter1 O,iter1 U
  exact⟨_,rfl,h⟩
theorem Xp {prog:Program}{w:World}{A:Around}{E:Value->Shared->Prop}{s:Shared}{q G:Bool}{d y:Addr}{xs ys:Array Value}{Q:Value->Shared->Prop} (Z:Sq1 q s.heap d xs) (b2:Sq1 G s.heap y ys)
 (c:∀g,IsZip g (s.heap.objs.size+4) (s.heap.objs.size+2) (s.heap.objs.size+3) .none->IsPair g (s.heap.objs.size+2) (.ref s.heap.objs.size) (.ref (s.heap.objs.size+1))->IsPair g (s.heap.objs.size+3) .none .none->
   It1 q g s.heap.objs.size d 0->It1 G g (s.heap.objs.size+1) y 0->(∀b o,s.heap.get? b=some o->g.get? b=some o)->Q (.ref (s.heap.objs.size+4)) { s with heap:=g}):wpAny (model prog w) A (call (.type "zip") [.ref d,.ref y]) Q E s:=by
 refine callType_new F.called_zip (by decide) (F.typeCall_zip_2 _ _) (F.newCall_zip_2 _ _) (fun obj=>F.args_object_init_3 obj _ _) F.entry_zip_new (Wm q G d y xs ys) ⟨Z,b2,?_⟩
 have I:(zA1 q s.heap d).objs.size=s.heap.objs.size+1:=Heap.size_push ..
 have J:(zA2 q G s.heap d y).objs.size=s.heap.objs.size+2:=by rw [Heap.size_push,I]
 have L:(zA3 q G s.heap d y).objs.size=s.heap.objs.size+3:=by rw [Heap.size_push,J]
 have O:(zA4 q G s.heap d y).objs.size=s.heap.objs.size+4:=by rw [Heap.size_push,L]
 have M:(zA5 q G s.heap d y).get? (zA4 q G s.heap d y).objs.size=some _:=Heap.get?_push_size _ rfl
 have U:(zA5 q G s.heap d y).get? (zA3 q G s.heap d y).objs.size=some _:=Heap.get?_push_of_some _ (Heap.get?_push_size _ rfl)
 have W:(zA5 q G s.heap d y).get? (zA2 q G s.heap d y).objs.size=some _:=Heap.get?_push_of_some _ (Heap.get?_push_of_some _ (Heap.get?_push_size _ rfl))
 have Y:(zA5 q G s.heap d y).get? (zA1 q s.heap d).objs.size=some (Tw G y):=Heap.get?_push_of_some _ (Heap.get?_push_of_some _ (Heap.get?_push_of_some _ (Heap.get?_push_size _ rfl)))
 have e1:(zA5 q G s.heap d y).get? s.heap.objs.size=some (Tw q d):=Heap.get?_push_of_some _ (Heap.get?_push_of_some _ (Heap.get?_push_of_some _ (Heap.get?_push_of_some _ (Heap.get?_push_size _ rfl))))
 show _/\_
 rw [J,L,O]at M
 rw [I,J]at W
 rw [L]at U
 rw [I]at Y
 rw [O]
 exact⟨⟨_,M,rfl⟩,c _ M W U (Yh e1) (Yh Y) fun b o x=>Heap.get?_push_of_some _ (Heap.get?_push_of_some _ (Heap.get?_push_of_some _ (Heap.get?_push_of_some _ (Heap.get?_push_of_some _ x))))⟩
def SqB (t:Bool) (K:Frag) (H:Hp) (a:Addr) (xs:List V):Prop:=if t=true then SqT K H a xs else SqL K H a xs
theorem Inv.sqB {X:Cx}{pins:List (Addr × Obj)}{σ:St}{H:Hp}{s:Shared}{t:Bool}{a:Addr}{xs:List V} (I:Inv X pins σ H s) (h:SqB t X.K H a xs):∃d:List Value,Vals xs d/\Sq1 t s.heap a d.toArray:=by
 cases t
 . obtain⟨d,r,p,_⟩:=I.list h
   exact⟨d,r,p.isList⟩
 . obtain⟨d,r,p,_⟩:=I.tuple h
   exact⟨d,r,p⟩
theorem Inv.sqB_inj {X:Cx}{pins:List (Addr × Obj)}{σ:St}{H:Hp}{s:Shared}{t:Bool}{a:Addr}{xs ys:List V} (I:Inv X pins σ H s) (h:SqB t X.K H a xs) (h':SqB t X.K H a ys):xs=ys:=by
 cases t
 . exact I.list_inj h h'
 . exact I.tuple_inj h h'
def Acf (t1 t2:Bool) (K:Frag) (a b:Addr):It:=
 ⟨fun i H=>∃xs ys x y,SqB t1 K H a xs/\SqB t2 K H b ys/\xs[i]? =some x/\ys[i]? =some y,
  fun i H x H'=>∃p u v,(∀xs,SqB t1 K H a xs->xs[i]? =some u)/\(∀ys,SqB t2 K H b ys->ys[i]? =some v)/\H p=none/\x= .ref p/\H'=upd H p (.tup [u,v]),
  fun i H=>∃xs ys,SqB t1 K H a xs/\SqB t2 K H b ys/\(xs.length<=i\/ys.length<=i)⟩
theorem Zu {P:Program}{w:World}{K:Frag}{el:List Expr}{x1}{tp:Pos} (t1 t2:Bool) (a b z TI TO O U:Addr) (D:ZipApart z TI TO O U a b):
 Turn P w K (.Tuple el x1 tp) (Acf t1 t2 K a b) [z,TI,TO,O,U] z (fun i h=>IsZip h z TI TO .none/\IsPair h TI (.ref O) (.ref U)/\(∃c d,IsPair h TO c d)/\It1 t1 h O a i/\It1 t2 h U b i) where
 mem:=by simp
 obj:=fun i h st c hc=>by
  obtain⟨M,F,⟨u,v,J⟩,h1,h2⟩:=st
  simp only [mem_cons,not_mem_nil,or_false]at hc
  rcases hc with rfl | rfl | rfl | rfl | rfl
  . exact⟨_,M,fun v z=>by cases(show Data.fields _=Data.cell v from z)⟩
  . exact⟨_,F,fun v z=>by cases(show Data.seq _ _=Data.cell v from z)⟩
  . exact⟨_,J,fun v z=>by cases(show Data.seq _ _=Data.cell v from z)⟩
  . exact h1.there
  . exact h2.there
 keep:=fun i h h' st k=>by
  obtain⟨M,F,⟨u,v,J⟩,h1,h2⟩:=st
  exact⟨k z (by simp) _ M,k TI (by simp) _ F,⟨u,v,k TO (by simp) _ J⟩,h1.to fun o e=>k O (by simp) _ e,h2.to fun o e=>k U (by simp) _ e⟩
 item:=by
  intro X hP hw hK hc i pins s σ H E I hf st hg
  subst hP hw hK
  obtain⟨xs,ys,x,y,Y,Z,hx,hy⟩:=hg
  obtain⟨a9,rv,p⟩:=I.sqB Y
  obtain⟨a7,a0,p2⟩:=I.sqB Z
  obtain⟨u,hu,ru⟩:=rv.get hx
  obtain⟨v,hv,aa⟩:=a0.get hy
  obtain⟨M,F,⟨c,d,J⟩,h1,h2⟩:=st
  refine Z1 D M F J h1 h2 p p2 (x:=u) (y:=v) (by simpa using hu) (by simpa using hv) fun g a1 a2 a3 a4 a5 a6 hk=>⟨_,rfl,?_⟩
  refine wpAny_letOwnedTupleGo_zip a1 fun g2 ac L=> ?_
  replace L:Heap.SameBut z g g2:=L
  have lt:∀b∈ [z,TI,TO,O,U],b≠s.heap.objs.size:=fun b G=>by
   obtain⟨o1,e1,_⟩:=h1.there
   obtain⟨o2,e2,_⟩:=h2.there
   simp only [mem_cons,not_mem_nil,or_false]at G
   rcases G with rfl | rfl | rfl | rfl | rfl
   . exact ne_of_lt (Heap.lt_size M)
   . exact ne_of_lt (Heap.lt_size F)
   . exact ne_of_lt (Heap.lt_size J)
   . exact ne_of_lt (Heap.lt_size e1)
   . exact ne_of_lt (Heap.lt_size e2)
  have hn:H s.heap.objs.size=none:=I.fresh
  have I1:Inv X pins σ (upd H s.heap.objs.size (.tup [x,y])) { s with heap:=s.heap.push { cls:= .type "tuple",data:= .seq #[u,v]},toks:=s.toks}:=
   I.laid (fun b o q=>Heap.get?_push_of_some _ q) (le_refl _) ⟨by show 2<=sizeLine;decide,[u,v],.cons ru (.cons aa .nil),⟨_,Heap.get?_push_size _ rfl,rfl,_,rfl⟩⟩
  have a8:∀b∈ [z,TI,TO,O,U],Nx X pins (upd H s.heap.objs.size (.tup [x,y])) b:=fun b G=>
   ⟨by rw [Bs (lt b G)];exact(hf b G).1,(hf b G).2⟩
  have I2:=I1.turnL (h':=g2) (t':=s.toks) (fp:=[z,TI,TO,O,U]) (fun b o G q=>by
   have n1:b≠z:=fun e=>G (by simp [e])
   refine(L.2 b n1).trans ?_
   rcases Heap.get?_push_cases q with⟨rfl,rfl⟩ | q0
   . exact a5
   . exact hk b o n1 (fun e=>G (by simp [e])) (fun e=>G (by simp [e])) (fun e=>G (by simp [e])) q0) a8
  refine⟨.ref s.heap.objs.size,_,I2,rfl,⟨_,x,y,fun zs M=>by rw [I.sqB_inj M Y];exact hx,fun zs M=>by rw [I.sqB_inj M Z];exact hy,hn,rfl,rfl⟩,⟨ac,?_,⟨u,v,L.extBut _ _ D.TOz a2⟩,a3.ext L.extBut D.i1z,a4.ext L.extBut D.i2z⟩,fun b G=>(a8 b G).1⟩
  exact L.extBut _ _ D.TIz (hk _ _ D.TIz D.TITO D.TIi1 D.TIi2 F)
 done:=by
  intro X hP hw hK hc i pins s σ H E I hf st hg
  subst hP hw hK
  obtain⟨xs,ys,Y,Z,ad⟩:=hg
  obtain⟨a9,rv,p⟩:=I.sqB Y
  obtain⟨a7,a0,p2⟩:=I.sqB Z
  obtain⟨M,F,⟨c,d,J⟩,h1,h2⟩:=st
  have l1:=rv.length
  have l2:=a0.length
  exact Z2 (I.ok.hd hc) D M F J h1 h2 p p2 (by
   rcases ad with h | h
   . exact .inl (by simp;omega)
   . exact .inr (by simp;omega)) fun g hk=>⟨rfl,I.turnL (t':=s.toks) (fp:=[z,TI,TO,O,U]) (fun b o G q=>hk b o (fun e=>G (by simp [e])) (fun e=>G (by simp [e])) (fun e=>G (by simp [e])) (fun e=>G (by simp [e])) q) hf⟩
 self:=fun _ _ _ _ _ st h=>wpAny_pyIter_zip st.1 h
section
variable {X:Cx}{a b:Expr}{ta:TA}{el:List Expr}{x1}{tp p pos:Pos}
def Acr (t1 t2:Bool) (K:Frag) (ta:TA):TI:=fun σ H R=>ta σ H fun vs H1=>∃a b,vs=[.ref a,.ref b]/\(∃xs,SqB t1 K H1 a xs)/\(∃ys,SqB t2 K H1 b ys)/\R (Acf t1 t2 K a b) H1
theorem Ue (L M:Bool) (hg:Gl X "zip") (hm:X.mg "zip"=none) (ha:PA X [a,b] ta) (hs:starEach [a,b] X.env=[(false,eval a X.env),(false,eval b X.env)]:=by rfl) (y:starEach [b] X.env=[(false,eval b X.env)]:=by rfl):
 PI X (.Tuple el x1 tp) (.Call (.Name "zip" p) [a,b] [] pos) (Acr L M X.K ta):=by
 intro pins s σ H R I h
 refine Call_ (Mu I hg hm boot_zip (PyProof.Rows.callWith_type1 (thn (ha pos pins s σ H _ I h) fun us d ⟨vs,H1,F,O,q1⟩=> ?_) (by rw [hs,y]) (by rw [y];rfl)))
 obtain⟨u,v,rfl,⟨xs,U⟩,⟨ys,W⟩,q⟩:=q1
 obtain⟨v1,v2,rfl,O,r2⟩:=vals2 O
 cases O
 cases r2
 obtain⟨a7,rx,Y⟩:=F.sqB U
 obtain⟨a6,ry,Z⟩:=F.sqB W
 have a0:u<d.heap.objs.size:=by
  cases L
  . obtain⟨o,e,_⟩:=(show d.heap.IsList u _ from Y)
    exact Heap.lt_size e
  . obtain⟨o,e,_⟩:=(show d.heap.IsTuple u _ from Y)
    exact Heap.lt_size e
 have a1:v<d.heap.objs.size:=by
  cases M
  . obtain⟨o,e,_⟩:=(show d.heap.IsList v _ from Z)
    exact Heap.lt_size e
  . obtain⟨o,e,_⟩:=(show d.heap.IsTuple v _ from Z)
    exact Heap.lt_size e
 refine Xp Y Z fun h' hz a2 a3 a4 a5 hk=> ?_
 have I2:Inv X pins σ H1 { d with heap:=h'}:=F.kept (t':=d.toks) fun c o' e=>hk c o' e
 refine wpAny_pyIter_zip hz ⟨d.heap.objs.size+4,[d.heap.objs.size+4,d.heap.objs.size+2,d.heap.objs.size+3,d.heap.objs.size,d.heap.objs.size+1],_,_,H1,rfl,I2,Zu L M u v _ _ _ _ _ (zipApart_new a0 a1),⟨hz,a2,⟨_,_,a3⟩,a4,a5⟩,fun c G=> ?_,q⟩
 have J:d.heap.objs.size<=c:=by
  simp only [mem_cons,not_mem_nil,or_false]at G
  rcases G with rfl | rfl | rfl | rfl | rfl
  . exact le_add_right _ 4
  . exact le_add_right _ 2
  . exact le_add_right _ 3
  . exact le_refl _
  . exact le_add_right _ 1
 exact F.fpOk J (F.hok.fresh J)
end
theorem Adz {d q:Bool}{K:Frag}{ta:TA}{σ:St}{H:Hp}{R:It->Hp->Prop}:Acr d q K ta σ H R=ta σ H (fun y H1=>∃a b,y=[.ref a,.ref b]/\(∃xs,SqB d K H1 a xs)/\(∃ys,SqB q K H1 b ys)/\R (Acf d q K a b) H1):=rfl
theorem Jh {J L:Bool}{K:Frag}{σ:St}{H:Hp}{g:TG}{tb:TS}{D:Ends}{a b:Addr}{xs ys:List V} (n:Nat) (hn:n=min xs.length ys.length) (d:Nat->St->Hp->Prop) (Z:d 0 σ H)
 (hw:∀i σ H,d i σ H->SqB J K H a xs/\SqB L K H b ys)
 (hs:∀i σ H p,i<n->d i σ H->H p=none->g (.ref p) σ (upd H p (.tup [xs.getD i .non,ys.getD i .non])) fun F H2=>tb { D with nx:=d (i+1),ct:=d (i+1),bk:=D.nx} F H2) (hd:∀σ H,d n σ H->D.nx σ H):FI (Acf J L K a b) g tb D σ H:=by
 refine⟨fun i m σ H=>m=n-i/\i<=n/\d i σ H,⟨n,by simp,zero_le _,Z⟩,?_⟩
 rintro i m σ H ⟨rfl,hi,p⟩
 obtain⟨G,I⟩:=hw _ _ _ p
 by_cases he:i=n
 . subst he
   exact .inl ⟨⟨xs,ys,G,I,by omega⟩,hd _ _ p⟩
 . have M:i<n:=by omega
   have ex:xs[i]? =some (xs.getD i .non):=by rw [getD_eq_getElem?_getD,getElem?_eq_getElem (by omega)];rfl
   have O:ys[i]? =some (ys.getD i .non):=by rw [getD_eq_getElem?_getD,getElem?_eq_getElem (by omega)];rfl
   refine .inr ⟨⟨xs,ys,_,_,G,I,ex,O⟩,d (i+1),fun a0 H' p'=>⟨n-(i+1),by omega,rfl,M,p'⟩,fun x H3 y=> ?_⟩
   obtain⟨q,u,v,hu,hv,hq,rfl,rfl⟩:=y
   have U:=hu _ G
   have Y:=hv _ I
   rw [ex]at U
   rw [O]at Y
   cases U
   cases Y
   exact hs i σ H q M p hq
end L2
namespace L2
open PySem PySem.Spec PyProof.Rows
set_option maxRecDepth 100000
abbrev TB:=St->Hp->(St->Hp->Prop)->XK->Prop
end L2
namespace L2
open PySem PySem.Spec PyProof.Rows
theorem O4:∀ {ns:List Int}{d:List Value},Vals (ns.map V.int) d->IntsAre d ns
 | [],_,r=>by cases r;exact .nil
 | n::ns,_,r=>by
   cases r with
   | cons q y=>
     obtain⟨t,rfl⟩:=q
     exact .cons n t (O4 y)
end L2
namespace L2
open PySem PySem.Spec PySem.Calls PyProof.Rows
theorem Oh:∀ {ns:List Int}{d:List Value},IntsAre d ns->Vals (ns.map V.int) d
 | _,_,.nil=> .nil
 | _,_,.cons _ t r=> .cons ⟨t,rfl⟩ (Oh r)
end L2
namespace L2
open PySem PySem.Spec PyProof.Rows
section
variable {κ:Type} [DecidableEq κ]
def Xb (kvs:List (κ × V)) (k:κ):Option V:=(kvs.find? fun kv=>decide (kv.1=k)).map (·.2)
def putK (kvs:List (κ × V)) (k:κ) (v:V):List (κ × V):=
 if(kvs.any fun kv=>decide (kv.1=k))=true then kvs.map (fun kv=>if kv.1=k then(kv.1,v)else kv)else kvs++ [(k,v)]
def Aem (kvs:List (κ × V)) (k:κ):List (κ × V):=kvs.filter fun kv=>decide (kv.1≠k)
theorem Qq {p:κ × V}{r:List (κ × V)}{k:κ} (e:p.1=k):Xb (p::r) k=some p.2:=by simp [Xb,find?_cons,e]
theorem Qp {p:κ × V}{r:List (κ × V)}{k:κ} (e:¬p.1=k):Xb (p::r) k=Xb r k:=by simp [Xb,find?_cons,e]
theorem V3 (k:κ):∀d:List (κ × V),(d.any fun q=>decide (q.1=k))=(Xb d k).isSome
 | []=>rfl
 | p::r=>by
   rw [any_cons]
   by_cases e:p.1=k
   . simp only [Qq e,decide_eq_true e,Bool.true_or,isSome_some]
   . rw [Qp e,decide_eq_false e,Bool.false_or];exact V3 k r
theorem Z6.isSome_eq {o:Option V}{u:Option Value} (r:Z6 o u):o.isSome=u.isSome:=by
 cases o with
 | none=>cases u with
   | none=>rfl
   | some _=>exact(show False from r).elim
 | some _=>cases u with
   | none=>exact(show False from r).elim
   | some _=>rfl
theorem Z6.getD {o:Option V}{u:Option Value}{d:V}{d':Value} (r:Z6 o u) (q:RelV d d'):RelV (o.getD d) (u.getD d'):=by
 cases o with
 | none=>cases u with
   | none=>exact q
   | some _=>exact(show False from r).elim
 | some _=>cases u with
   | none=>exact(show False from r).elim
   | some _=>exact r
theorem KV.val {d:List (κ × V)}{G:List (κ × Value)} (r:KV d G) (k:κ):Z6 (Xb d k) (valueAt G k):=by
 unfold KV at r
 induction r with
 | nil=>exact True.intro
 | @cons p q ps y h t I=>
   obtain⟨h1,h2⟩:=h
   by_cases e:p.1=k
   . have F:q.1=k:=h1.symm.trans e
     have b:valueAt (q::y) k=some q.2:=by simp [valueAt,find?_cons,F]
     rw [Qq e,b];exact h2
   . have F:¬q.1=k:=fun z=>e (h1.trans z)
     have b:valueAt (q::y) k=valueAt y k:=by simp [valueAt,find?_cons,F]
     rw [Qp e,b];exact I
theorem KV.any {d:List (κ × V)}{y:List (κ × Value)} (r:KV d y) (k:κ):(d.any fun q=>decide (q.1=k))=y.any fun q=>decide (q.1=k):=by
 unfold KV at r
 induction r with
 | nil=>rfl
 | cons h t F=>rw [any_cons,any_cons,F,h.1]
theorem KV.repl {F:List (κ × V)}{G:List (κ × Value)} (r:KV F G) (k:κ) {y:V}{u:Value} (I:RelV y u):
 KV (F.map fun d=>if d.1=k then(d.1,y)else d) (G.map fun d=>if d.1=k then(d.1,u)else d):=by
 unfold KV at r ⊢
 induction r with
 | nil=>exact .nil
 | @cons p q ps L h t J=>
   rw [map_cons,map_cons]
   refine .cons ?_ J
   obtain⟨h1,h2⟩:=h
   by_cases e:p.1=k
   . rw [if_pos e,if_pos (h1.symm.trans e)];exact⟨h1,I⟩
   . rw [if_neg e,if_neg (fun z=>e (h1.trans z))];exact⟨h1,h2⟩
theorem KV.put {d:List (κ × V)}{q:List (κ × Value)} (r:KV d q) (k:κ) {y:V}{u:Value} (F:RelV y u):KV (putK d k y) (stored q k u):=by
 unfold putK stored
 rw [r.any k]
 by_cases e:(q.any fun G=>decide (G.1=k))=true
 . rw [if_pos e,if_pos e];exact r.repl k F
 . rw [if_neg e,if_neg e];exact Paired.snoc r ⟨rfl,F⟩
theorem KV.drop {d:List (κ × V)}{y:List (κ × Value)} (r:KV d y) (k:κ):KV (Aem d k) (without y k):=by
 unfold KV at r ⊢
 unfold Aem without
 induction r with
 | nil=>exact .nil
 | @cons p q ps I h t F=>
   obtain⟨h1,h2⟩:=h
   rw [List.filter_cons,List.filter_cons]
   by_cases e:p.1=k
   . have a:¬decide (p.1≠k)=true:=by simp [e]
     have b:¬decide (q.1≠k)=true:=by simp [h1.symm.trans e]
     rw [if_neg a,if_neg b];exact F
   . have G:¬q.1=k:=fun z=>e (h1.trans z)
     have a:decide (p.1≠k)=true:=by simp [e]
     have b:decide (q.1≠k)=true:=by simp [G]
     rw [if_pos a,if_pos b];exact .cons ⟨h1,h2⟩ F
theorem KV.length {d:List (κ × V)}{q:List (κ × Value)} (r:KV d q):d.length=q.length:=Paired.length r
end
abbrev KT (H:Hp):List (List Key × V)->List (List Key × Addr × Value)->Prop:=Paired fun p q=>p.1=q.1/\H q.2.1=some (.tup (p.1.map kV))/\RelV p.2 q.2.2
theorem KT.val {H:Hp}{d:List (List Key × V)}{xs:List (List Key × Addr × Value)} (r:KT H d xs) (k:List Key):Z6 (Xb d k) ((atKey xs k).map (·.2)):=by
 induction r with
 | nil=>exact True.intro
 | @cons p q ps y h t G=>
   obtain⟨h1,_,h2⟩:=h
   by_cases e:p.1=k
   . have F:q.1=k:=h1.symm.trans e
     have b:atKey (q::y) k=some q.2:=by simp [atKey,find?_cons,F]
     rw [Qq e,b];exact h2
   . have F:¬q.1=k:=fun z=>e (h1.trans z)
     have b:atKey (q::y) k=atKey y k:=by simp [atKey,find?_cons,F]
     rw [Qp e,b];exact G
theorem KT.repl {H:Hp}{d:List (List Key × V)}{xs:List (List Key × Addr × Value)} (r:KT H d xs) (k:List Key) {y:V}{u:Value} (G:RelV y u):
 KT H (d.map fun F=>if F.1=k then(F.1,y)else F) (xs.map (putAt k u)):=by
 induction r with
 | nil=>exact .nil
 | @cons p q ps L h t I=>
   rw [map_cons,map_cons]
   refine .cons ?_ I
   obtain⟨h1,h2,J⟩:=h
   unfold putAt
   by_cases e:p.1=k
   . rw [if_pos e,if_pos (h1.symm.trans e)];exact⟨h1,h2,G⟩
   . rw [if_neg e,if_neg (fun z=>e (h1.trans z))];exact⟨h1,h2,J⟩
theorem KT.put {H:Hp}{d:List (List Key × V)}{xs:List (List Key × Addr × Value)} (r:KT H d xs) (k:List Key) {b:Addr}{y:V}{u:Value} (G:H b=some (.tup (k.map kV))) (F:RelV y u):
 KT H (putK d k y) (storedH xs k b u):=by
 have e:(d.any fun I=>decide (I.1=k))=(atKey xs k).isSome:=by
  rw [V3,(r.val k).isSome_eq,Option.isSome_map]
 unfold putK storedH
 rw [e]
 by_cases q:(atKey xs k).isSome=true
 . rw [if_pos q,if_pos q];exact r.repl k F
 . rw [if_neg q,if_neg q];exact Paired.snoc r ⟨rfl,G,F⟩
theorem KT.keeps {H H':Hp}{d:List (List Key × V)}{xs:List (List Key × Addr × Value)} (r:KT H d xs) (q:∀b ys,H b=some (.tup ys)->H' b=some (.tup ys)):KT H' d xs:=
 Paired.mapP r fun _ _ z=>⟨z.1,q _ _ z.2.1,z.2.2⟩
def Agi (H:Hp) (a:Addr) (y:V) (r:Option V):Prop:=
 (∃kvs k,Rd H a (.dK kvs)/\y=kV k/\r=Xb kvs k)\/∃kvs k b,Rd H a (.dT kvs)/\y= .ref b/\H b=some (.tup (k.map kV))/\r=Xb kvs k
def Agj (H:Hp) (a:Addr) (y v:V) (H':Hp):Prop:=
 (∃kvs k,H a=some (.dK kvs)/\y=kV k/\kvs.length<sizeLine/\H'=upd H a (.dK (putK kvs k v)))\/
 ∃kvs k b,H a=some (.dT kvs)/\y= .ref b/\H b=some (.tup (k.map kV))/\kvs.length<sizeLine/\H'=upd H a (.dT (putK kvs k v))
theorem Agi.k {H:Hp}{a:Addr}{d:List (Key × V)}{k:Key} (e:H a=some (.dK d)):Agi H a (kV k) (Xb d k):= .inl ⟨d,k,.inl e,rfl,rfl⟩
theorem Agi.t {H:Hp}{a b:Addr}{d:List (List Key × V)}{k:List Key} (e:H a=some (.dT d)) (q:H b=some (.tup (k.map kV))):Agi H a (.ref b) (Xb d k):= .inr ⟨d,k,b,.inl e,rfl,q,rfl⟩
theorem Agj.k {H:Hp}{a:Addr}{d:List (Key × V)}{k:Key}{v:V} (e:H a=some (.dK d)) (q:d.length<sizeLine):Agj H a (kV k) v (upd H a (.dK (putK d k v))):= .inl ⟨d,k,e,rfl,q,rfl⟩
theorem Agj.t {H:Hp}{a b:Addr}{d:List (List Key × V)}{k:List Key}{v:V} (e:H a=some (.dT d)) (q:H b=some (.tup (k.map kV))) (y:d.length<sizeLine):
 Agj H a (.ref b) v (upd H a (.dT (putK d k v))):= .inr ⟨d,k,b,e,rfl,q,y,rfl⟩
structure M1 (X:Cx) (o:Expr) (m:Str) (apos:Pos) (e:Expr) (cpos:Pos):Prop where
 base:attributeBase o m X.env (eval o X.env)=eval o X.env
 few:((backTo cpos (starEach [e] X.env)).all (fun x=> !x.1)&&(backToKw cpos (keywordEach [] X.env)).all (fun x=>x.1.isSome)
  &&decide (([e]:List Expr).length+([]:List Keyword).length+(if([]:List Keyword).isEmpty then 0 else 1)<30))=true
 line:(apos.endLine==cpos.line)=true
 trees:backTo cpos (starEach [e] X.env)=[(false,eval e X.env)]
structure M2 (X:Cx) (o:Expr) (m:Str) (apos:Pos) (e f:Expr) (cpos:Pos):Prop where
 base:attributeBase o m X.env (eval o X.env)=eval o X.env
 few:((backTo cpos (starEach [e,f] X.env)).all (fun x=> !x.1)&&(backToKw cpos (keywordEach [] X.env)).all (fun x=>x.1.isSome)
  &&decide (([e,f]:List Expr).length+([]:List Keyword).length+(if([]:List Keyword).isEmpty then 0 else 1)<30))=true
 line:(apos.endLine==cpos.line)=true
 trees:backTo cpos (starEach [e,f] X.env)=[(false,eval e X.env),(false,eval f X.env)]
end L2
namespace L2
open PySem PySem.Spec PyProof.Rows
theorem Jp {M O:Bool}{K:Frag}{a b:Addr}{xs ys:List V}{H1:Hp}{p:Addr}{cσ:St}{g:TG}{te:TE}{Q:VK} (n:Nat) (hn:n=min xs.length ys.length) (f:Nat->V) (hz:n<=sizeLine) (hp:H1 p=none)
 (J:∀H',Same H1 H'->SqB M K H' a xs) (L:∀H',Same H1 H'->SqB O K H' b ys)
 (step:∀(i:Nat) (H':Hp) (q:Addr) (R:VK),i<n->Same H1 H'->H' q=some (.tup [xs.getD i .non,ys.getD i .non])->(∀F,Same H' F->R (f i) F)->g (.ref q) cσ H' fun d I=>Kp cσ d/\te d I R)
 (done:∀H',Same H1 H'->H' p=some (.lst ((List.range n).map f))->Q (.ref p) H'):cIn (Acf M O K a b) cσ g Gy te Q H1 p:=by
 have U:∀ {H':Hp}{o:HO},Same H1 H'->Same H1 (upd H' p o):=fun {H' o} s b u e=>by
  rw [Bs (Bo e hp)]
  exact s b u e
 refine⟨fun i m G H'=>m=n-i/\i<=n/\G=(List.range i).map f/\H' p=some (.lst G)/\Same H1 H',⟨n,by simp,zero_le _,by simp,Ag,U (Same.refl _)⟩,?_⟩
 rintro i m G H' ⟨rfl,hi,rfl,Y,s⟩
 by_cases he:i=n
 . subst he
   exact .inl ⟨⟨xs,ys,J _ s,L _ s,by omega⟩,done _ s Y⟩
 . have Z:i<n:=by omega
   have ex:xs[i]? =some (xs.getD i .non):=by rw [getD_eq_getElem?_getD,getElem?_eq_getElem (by omega)];rfl
   have ey:ys[i]? =some (ys.getD i .non):=by rw [getD_eq_getElem?_getD,getElem?_eq_getElem (by omega)];rfl
   refine .inr ⟨⟨xs,ys,_,_,J _ s,L _ s,ex,ey⟩,fun x H3 y=> ?_⟩
   obtain⟨q,u,v,hu,hv,hq,rfl,rfl⟩:=y
   have eu:=hu _ (J _ s)
   have ev:=hv _ (L _ s)
   rw [ex]at eu
   rw [ey]at ev
   cases eu
   cases ev
   have sq:=Same.upd hq (.tup [xs.getD i .non,ys.getD i .non])
   have q0:=step i (upd H' q (.tup [xs.getD i .non,ys.getD i .non])) q (fun y F=>F p=some (.lst ((List.range i).map f))/\((List.range i).map f).length<sizeLine/\∃m',m'<n-i/\m'=n-(i+1)/\i+1<=n/\(List.range i).map f++ [y]=(List.range (i+1)).map f/\
    upd F p (.lst ((List.range i).map f++ [y])) p=some (.lst ((List.range i).map f++ [y]))/\Same H1 (upd F p (.lst ((List.range i).map f++ [y])))) Z (s.trans sq) Ag
    (fun F s6=>⟨s6 _ _ (sq _ _ Y),by rw [length_map,length_range];omega,_,by omega,rfl,Z,by rw [range_succ,map_append];rfl,Ag,U ((s.trans sq).trans s6)⟩)
   have eq:∀(R:VK) (B:Hp->Prop),(fun d I=>Kp cσ d/\Gy d I fun b H5=>if b=true then te d H5 R else B H5)=(fun d I=>Kp cσ d/\te d I R):=fun R B=>by
    funext d I
    simp only [Gy,if_pos]
   rw [eq]
   exact q0
end L2
namespace L2
open PySem PySem.W PyProof.Rows
structure LO (n:Nat) (lt:Nat->Nat->Bool):Prop where
 tri:∀i j,i<n->j<n->i≠j->lt i j= !lt j i
 trans:∀i j k,i<n->j<n->k<n->lt i j=true->lt j k=true->lt i k=true
def KOk {α:Type} (lt:Nat->Nat->Bool) (n:Nat):KasT α->(α->Prop)->Prop
 | .ret a,P=>P a
 | .ask i j k,P=>i<n/\j<n/\i≠j/\KOk lt n (k (lt i j)) P
theorem KOk.bind {α d:Type}{lt:Nat->Nat->Bool}{n:Nat}{f:α->KasT d}{P:d->Prop}:∀ {t:KasT α},KOk lt n t (fun a=>KOk lt n (f a) P)->KOk lt n (t.bind f) P
 | .ret _,h=>h
 | .ask _ _ k,h=>⟨h.1,h.2.1,h.2.2.1,KOk.bind (t:=k _) h.2.2.2⟩
theorem KOk.mono {α:Type}{lt:Nat->Nat->Bool}{n:Nat}{P Q:α->Prop} (d:∀a,P a->Q a):∀ {t:KasT α},KOk lt n t P->KOk lt n t Q
 | .ret a,h=>d a h
 | .ask _ _ k,h=>⟨h.1,h.2.1,h.2.2.1,KOk.mono d (t:=k _) h.2.2.2⟩
def aT (p:Array Nat) (i:Nat):Nat:=p.getD i 0
structure PM (n:Nat) (p:Array Nat):Prop where
 sz:p.size=n
 lt:∀i,i<n->aT p i<n
 ne:∀i j,i<n->j<n->i≠j->aT p i≠aT p j
 pm:p.toList.Perm (List.range n)
theorem PM.of {n:Nat}{p:Array Nat} (h:p.toList.Perm (List.range n)):PM n p:=by
 have sz:p.size=n:=by
  have:=h.length_eq
  simpa using this
 have G:p.toList.Nodup:=h.nodup_iff.mpr List.nodup_range
 refine⟨sz,fun i hi=> ?_,fun i j hi M I e=> ?_,h⟩
 . have d:i<p.size:=by omega
   have e:aT p i=p[i]:=by simp [aT,d]
   have m:p[i]∈p.toList:=by simp
   rw [e]
   exact mem_range.mp (h.mem_iff.mp m)
 . have d:i<p.toList.length:=by rw [Array.length_toList];omega
   have q:j<p.toList.length:=by rw [Array.length_toList];omega
   have J:aT p i=p.toList[i]:=by simp [aT,show i<p.size by omega]
   have L:aT p j=p.toList[j]:=by simp [aT,show j<p.size by omega]
   have y:=pairwise_iff_getElem.mp G
   have F:p.toList[i]=p.toList[j]:=by rw [<-J,<-L,e]
   rcases Nat.lt_or_gt_of_ne I with l | l
   . exact y i j d q l F
   . exact y j i q d l F.symm
theorem PM.start (n:Nat):PM n (List.toArray (List.range n)):=PM.of (by simp)
theorem PM.perm {n:Nat}{p q:Array Nat} (h:PM n p) (e:q.Perm p):PM n q:=PM.of (e.toList.trans h.pm)
end L2
namespace L2
open PySem PySem.Spec PySem.Calls PyProof.Rows PySem.W
abbrev Prt:=Addr × Addr × List Int × V
def Prt.ks (t:Prt):List Int:=t.2.2.1
structure Aiq (K:Frag) (H:Hp) (t:Prt):Prop where
 pr:SqT K H t.1 [.ref t.2.1,t.2.2.2]
 tu:SqT K H t.2.1 (t.ks.map V.int)
structure Agk (P:Program) (w:World) (h:Heap) (t:Prt):Prop where
 pr:∃o xs n u,h.get? t.1=some o/\o.cls= .type "tuple"/\o.data= .seq xs n/\xs.toList=[.ref t.2.1,u]
 tu:∃its:List Value,IsTup h t.2.1 its.toArray/\IntsAre its t.ks
theorem Agk.keeps {P:Program}{w:World}{h h':Heap}{a:Addr}{t:Prt} (x:Agk P w h t) (k:∀b o,b≠a->h.get? b=some o->h'.get? b=some o) (h1:t.1≠a) (h2:t.2.1≠a):Agk P w h' t:=by
 obtain⟨⟨o,xs,n,u,e,r⟩,d,⟨q,y,rt⟩,i⟩:=x
 exact⟨⟨o,xs,n,u,k _ _ h1 e,r⟩,d,⟨q,k _ _ h2 y,rt⟩,i⟩
theorem Aiq.at {X:Cx}{pins:List (Addr × Obj)}{σ:St}{H:Hp}{s:Shared}{t:Prt} (I:Inv X pins σ H s) (x:Aiq X.K H t):Agk X.prog X.w s.heap t/\t.1<s.heap.objs.size/\t.2.1<s.heap.objs.size:=by
 obtain⟨y,r,⟨o,e,c,n,d⟩,_⟩:=I.tuple x.pr
 obtain⟨q,F,p2,_⟩:=I.tuple x.tu
 refine⟨⟨?_,q,p2,intsAre_of F⟩,Heap.lt_size e,p2.lt⟩
 cases r with
 | cons G J=>
   cases G
   cases J with
   | cons M L=>
     cases L
     exact⟨o,_,n,_,e,c,d,rfl⟩
end L2
namespace L2
open PySem PySem.Spec PyProof.Rows
structure M0 (X:Cx) (o:Expr) (m:Str) (apos cpos:Pos):Prop where
 base:attributeBase o m X.env (eval o X.env)=eval o X.env
 few:((backTo cpos (starEach [] X.env)).all (fun x=> !x.1)&&(backToKw cpos (keywordEach [] X.env)).all (fun x=>x.1.isSome)
  &&decide (([]:List Expr).length+([]:List Keyword).length+(if([]:List Keyword).isEmpty then 0 else 1)<30))=true
 line:(apos.endLine==cpos.line)=true
 trees:backTo cpos (starEach [] X.env)=[]
end L2
namespace L2
open PySem PySem.Spec PySem.Calls PyProof.Rows PySem.W
abbrev Tpt:=Addr × List Int
structure Agu (h:Heap) (t:Tpt):Prop where
 tu:∃its:List Value,IsTup h t.1 its.toArray/\IntsAre its t.2
theorem Agu.keeps {h h':Heap}{a:Addr}{t:Tpt} (x:Agu h t) (k:∀b o,b≠a->h.get? b=some o->h'.get? b=some o) (h1:t.1≠a):Agu h' t:=by
 obtain⟨d,⟨q,y,rt⟩,i⟩:=x
 exact⟨d,⟨q,k _ _ h1 y,rt⟩,i⟩
end L2
namespace L2
open PySem PySem.Spec PyProof.Rows
set_option maxRecDepth 100000
end L2
namespace L2
open PySem PySem.Spec PyProof.Rows
theorem Tp:∀(names:List (Str × NameKind)) (n:Nat) (d:List (Str × Addr)) (y:Str) (c:Addr),(cellsFrom n names d).lookup y=some c->d.lookup y=some c\/(n<=c/\(y,NameKind.cell)∈names)
 | [],_,_,_,_,h=> .inl h
 | (x,k)::r,n,d,y,c,h=>by
   unfold cellsFrom at h
   by_cases q:(k==NameKind.cell)=true
   . rw [if_pos q]at h
     have F:k= .cell:=by simpa using q
     subst F
     rcases Tp r (n+1) _ y c h with z | ⟨z,m⟩
     . rw [lookup_cons]at z
       cases e:y==x with
       | true=>
         rw [e]at z
         have G:y=x:=by simpa using e
         subst G
         exact .inr ⟨le_of_eq (Option.some.inj z),mem_cons_self⟩
       | false=>
         rw [e]at z
         exact .inl z
     . exact .inr ⟨by omega,mem_cons_of_mem _ m⟩
   . rw [if_neg q]at h
     rcases Tp r n d y c h with z | ⟨z,m⟩
     . exact .inl z
     . exact .inr ⟨z,mem_cons_of_mem _ m⟩
theorem Xv:∀(names:List (Str × NameKind)) (n:Nat) (d:List (Str × Addr)) (y:Str),¬(y,NameKind.cell)∈names->(cellsFrom n names d).lookup y=d.lookup y
 | [],_,_,_,_=>rfl
 | (x,k)::r,n,d,y,h=>by
   have F:¬(y,NameKind.cell)∈r:=fun z=>h (mem_cons_of_mem _ z)
   unfold cellsFrom
   by_cases q:(k==NameKind.cell)=true
   . have G:k= .cell:=by simpa using q
     subst G
     rw [if_pos q,Xv r _ _ y F,lookup_cons]
     cases e:y==x with
     | true=>
       have I:y=x:=by simpa using e
       subst I
       exact absurd mem_cons_self h
     | false=>rfl
   . rw [if_neg q,Xv r _ _ y F]
theorem Xq:∀(names:List (Str × NameKind)) (n:Nat) (d:List (Str × Addr)) (y:Str),((y,NameKind.cell)∈names\/∃c,d.lookup y=some c)->∃c,(cellsFrom n names d).lookup y=some c
 | [],_,_,_,h=>by
   rcases h with h | h
   . cases h
   . exact h
 | (x,k)::r,n,d,y,h=>by
   unfold cellsFrom
   by_cases q:(k==NameKind.cell)=true
   . rw [if_pos q]
     refine Xq r _ _ y ?_
     rw [lookup_cons]
     cases e:y==x with
     | true=>exact .inr ⟨n,rfl⟩
     | false=>
       rcases h with h | h
       . rcases mem_cons.mp h with z | z
         . cases z
           simp at e
         . exact .inl z
       . exact .inr h
   . rw [if_neg q]
     refine Xq r _ _ y ?_
     rcases h with h | h
     . rcases mem_cons.mp h with z | z
       . cases z
         exact absurd rfl q
       . exact .inl z
     . exact .inr h
theorem Xu:∀(names:List (Str × NameKind)) (n lo:Nat) (q:List (Str × Addr)) (y:Str) (c:Addr),lo<=n->((y,NameKind.cell)∈names\/∀d,q.lookup y=some d->lo<=d)->(cellsFrom n names q).lookup y=some c->lo<=c
 | [],_,_,_,_,_,_,h,e=>by
   rcases h with h | h
   . cases h
   . exact h _ e
 | (x,k)::r,n,lo,q,y,c,hl,h,e=>by
   unfold cellsFrom at e
   by_cases G:(k==NameKind.cell)=true
   . rw [if_pos G]at e
     refine Xu r (n+1) lo _ y c (by omega) ?_ e
     cases ex:y==x with
     | true=>
       refine .inr fun d F=> ?_
       rw [lookup_cons,ex]at F
       have:n=d:=Option.some.inj F
       omega
     | false=>
       rcases h with h | h
       . rcases mem_cons.mp h with z | z
         . cases z
           simp at ex
         . exact .inl z
       . refine .inr fun d F=>h d ?_
         rw [lookup_cons,ex]at F
         exact F
   . rw [if_neg G]at e
     refine Xu r n lo q y c hl ?_ e
     rcases h with h | h
     . rcases mem_cons.mp h with z | z
       . cases z
         exact absurd rfl G
       . exact .inl z
     . exact .inr h
theorem Xr:∀(names:List (Str × NameKind)) (n:Nat) (d:List (Str × Addr)),(∀x y c,d.lookup x=some c->d.lookup y=some c->x=y)->(∀x c,d.lookup x=some c->c<n)->
 ∀x y c,(cellsFrom n names d).lookup x=some c->(cellsFrom n names d).lookup y=some c->x=y
 | [],_,_,h,_=>h
 | (z,k)::r,n,d,h,hb=>by
   unfold cellsFrom
   by_cases J:(k==NameKind.cell)=true
   . rw [if_pos J]
     have G:∀x c,((z,n)::d).lookup x=some c->(x=z/\c=n)\/(d.lookup x=some c):=fun x c e=>by
      rw [lookup_cons]at e
      cases ex:x==z with
      | true=>
        rw [ex]at e
        exact .inl ⟨by simpa using ex,(Option.some.inj e).symm⟩
      | false=>
        rw [ex]at e
        exact .inr e
     refine Xr r (n+1) _ (fun x y c M L=> ?_) fun x c e=> ?_
     . rcases G x c M with⟨q,I⟩ | q
       . rcases G y c L with⟨F,_⟩ | F
         . rw [q,F]
         . exact absurd (hb y c F) (by rw [I];exact lt_irrefl _)
       . rcases G y c L with⟨_,O⟩ | F
         . exact absurd (hb x c q) (by rw [O];exact lt_irrefl _)
         . exact h x y c q F
     . rcases G x c e with⟨_,I⟩ | q
       . rw [I]
         exact lt_succ_self _
       . exact lt_succ_of_lt (hb x c q)
   . rw [if_neg J]
     exact Xr r n d h hb
theorem Tn:∀(names:List (Str × NameKind)) (h:Heap) (d:List (Str × Addr)) (y:Str) (c:Addr),(cellsFrom h.objs.size names d).lookup y=some c->d.lookup y=some c\/(pushCells h names).IsCell c none
 | [],_,_,_,_,e=> .inl e
 | (x,k)::r,h,d,y,c,e=>by
   unfold cellsFrom at e
   unfold pushCells
   by_cases q:(k==NameKind.cell)=true
   . rw [if_pos q]at e ⊢
     rw [<-Heap.size_push h { cls:= .type "cell",data:= .cell none}]at e
     rcases Tn r _ _ y c e with z | z
     . rw [lookup_cons]at z
       cases ex:y==x with
       | true=>
         rw [ex]at z
         have:h.objs.size=c:=Option.some.inj z
         subst this
         exact .inr ⟨_,pushCells_keeps r _ _ _ (Heap.get?_push_size _ rfl),rfl⟩
       | false=>
         rw [ex]at z
         exact .inl z
     . exact .inr z
   . rw [if_neg q]at e ⊢
     exact Tn r h d y c e
theorem Aeg {M:Model}{A:Around}{E:Value->Shared->Prop}{s:Shared}{scope:Scope}{g:Addr}{d:List (Str × Addr)}{qual:Str}{env:Env}{Q:Env->Shared->Prop}
 (q:Q { scope:=scope,locals:=s.heap.objs.size,globals:=g,cells:=cellsFrom (s.heap.objs.size+1) scope.names d,qual:=qual,func:=none,code:=env.code,frame:=env.frame,builtins:=env.builtins} { s with heap:=pushCells (s.heap.push { cls:= .type "dict",data:= .dict #[]}) scope.names}):
 wpAny M A (newFunctionEnv scope g d [] qual none .none (some env)) Q E s:=by
 simp only [newFunctionEnv,isSome_some,if_true]
 refine wpAny_bind (wpAny_alloc (wpAny_bind (wpAny_layCells _ (fun x k y=>by cases h:k==NameKind.cell<;>simp [h]) _ _ _ _ ?_)))
 have z:({ s with heap:=s.heap.push { cls:= .type "dict",data:= .dict #[]}}:Shared).heap.objs.size=s.heap.objs.size+1:=Heap.size_push ..
 rw [z]
 refine wpAny_bind ?_
 rw [forIn_nil]
 exact wpAny_pure (wpAny_pure q)
def cxD (X:Cx) (N:List Str) (scope:Scope) (ex:List Addr) (s:Shared) (H:Hp):Cx where
 prog:=X.prog
 w:=X.w
 K:=X.K
 mg:=X.mg
 base:=X.base
 A:=X.A
 N:=N
 s₀:=s
 H₀:=H
 env:=compEnvC scope (cellsFrom (s.heap.objs.size+1) scope.names (scope.names.foldl (clF X.env) [])) s.heap.objs.size X.env
 outer:=X.stack
 stack:=X.stack
 ex:=ex
 fn:=fun x=>scope.names.contains (x,NameKind.cell)
 calm:=X.calm
 pn:=[]
 xe:=fun _ _=>False
structure Jd (X:Cx) (ts:List Str) (fs:List (Nat × Str)) (scope:Scope):Prop where
 kind:scope.kind= .function
 names:∀y∈scope.names,y.2= .local ->scope.names.lookup y.1=some .local
 free:∀y∈scope.names,y.2= .free->X.env.kindOf y.1=some .cell\/X.env.kindOf y.1=some .free
 at':∀p∈fs,X.N[p.1]? =some p.2/\(p.2,NameKind.free)∈scope.names/\((relabel scope X.env).names.lookup p.2=some .cell\/(relabel scope X.env).names.lookup p.2=some .free)/\¬(p.2,NameKind.cell)∈scope.names
def rls (sc scope:Scope):Scope:={ scope with names:=rlb sc scope}
def Air (sc:Scope) (N:List Str) (fs:List (Nat × Str)) (scope:Scope):Bool:=
 (scope.kind== .function)&&(scope.names.all fun y=>y.2 != .local ||scope.names.lookup y.1==some .local)&&
 (scope.names.all fun y=>y.2 != .free||(sc.names.lookup y.1==some .cell||sc.names.lookup y.1==some .free))&&
 fs.all fun p=>N[p.1]? ==some p.2&&(scope.names.contains (p.2,NameKind.free)&&(((rlb sc scope).lookup p.2==some .cell||(rlb sc scope).lookup p.2==some .free)&& !scope.names.contains (p.2,NameKind.cell)))
theorem Jd.of {X:Cx}{ts:List Str}{fs:List (Nat × Str)}{scope sc:Scope}{N:List Str} (F:X.env.scope=sc) (G:X.N=N) (h:Air sc N fs scope=true):Jd X ts fs scope:=by
 unfold Air at h
 simp only [and_eq_true,all_eq_true,or_eq_true,bne_iff_ne,beq_iff_eq,contains_iff_mem,Bool.not_eq_true']at h
 obtain⟨⟨⟨h1,I⟩,J⟩,L⟩:=h
 refine⟨h1,fun y q e=> ?_,fun y q e=> ?_,fun p M=> ?_⟩
 . rcases I y q with z | z
   . exact absurd e z
   . exact z
 . rcases J y q with z | z
   . exact absurd e z
   . show X.env.scope.names.lookup y.1=_\/X.env.scope.names.lookup y.1=_
     rw [F]
     exact z
 . obtain⟨a,b,c,d⟩:=L p M
   refine⟨by rw [G];exact a,b,?_,fun z=> ?_⟩
   . subst F
     exact c
   . rw [<-contains_iff_mem]at z
     rw [z]at d
     cases d
theorem Bb.inD {X:Cx}{q:List Str}{ex:List Addr}{s:Shared}{H:Hp}{ts:List Str}{fs:List (Nat × Str)}{scope d sc:Scope} (y:X.env.scope=sc) (h:Agy (rls sc d) q fs scope=true):Bb (cxD X q d ex s H) ts fs scope:= .of (by subst y;rfl) rfl h
section
variable {X:Cx}{elt tg iter:Expr}{ifs:List Expr}{scope:Scope}{pos:Pos}{wi:TI}{g:TG}{tt:TT}{te:TE}{ts:List Str}{fs:List (Nat × Str)}
theorem Jd.clos (S:Jd X ts fs scope) (ok:X.Ok):∀x∈scope.names,x.2= .free->∃c,X.env.cells.lookup x.1=some c:=fun x d q=>ok.has x.1 (S.free x d q)
theorem Jd.sub0 (S:Jd X ts fs scope) (ok:X.Ok) {y:Str}{c:Addr} (h:(scope.names.foldl (clF X.env) []).lookup y=some c):X.env.cells.lookup y=some c:=by
 rcases Pb scope.names [] y c (S.clos ok) h with z | z
 . simp at z
 . exact z
theorem Jd.sub (S:Jd X ts fs scope) (ok:X.Ok) {n:Nat}{y:Str}{c:Addr} (h:(cellsFrom n scope.names (scope.names.foldl (clF X.env) [])).lookup y=some c):X.env.cells.lookup y=some c\/n<=c:=by
 rcases Tp _ _ _ _ _ h with z | ⟨z,_⟩
 . exact .inl (S.sub0 ok z)
 . exact .inr z
theorem Wc {pins:List (Addr × Obj)}{σ:St}{H:Hp}{G s4:Shared}{ex:List Addr} (S:Jd X ts fs scope) (I:Inv X pins σ H G)
 (F:∀b∈ex,Nx X pins H b/\∃o,G.heap.get? b=some o) (a0:s4.os=G.os) (hg:s4.gens=G.gens) (Y:∀b u,G.heap.get? b=some u->s4.heap.get? b=some u)
 (hn:s4.heap.Ns G.heap.objs.size fun _=>none) (a5:∀y c,(cellsFrom (G.heap.objs.size+1) scope.names (scope.names.foldl (clF X.env) [])).lookup y=some c->(scope.names.foldl (clF X.env) []).lookup y=some c\/s4.heap.IsCell c none):Inv (cxD X (cpN ts fs) scope ex G H) [] (cpσ ts.length fs σ) H s4:=by
 have ok:=I.ok
 have cl:∀y c,X.env.cells.lookup y=some c->c<G.heap.objs.size:=fun y c e=>(I.cell y c e).choose_spec.lt
 have a6:∀b∈ex,b≠G.heap.objs.size:=fun b J=>by
  obtain⟨_,o,L⟩:=F b J
  exact ne_of_lt (Heap.lt_size L)
 refine⟨⟨ok.mod,S.kind,ok.glob,ok.blt,le_refl _,Xr _ _ _ (fun y z c h1 h2=>ok.inj y z c (S.sub0 ok h1) (S.sub0 ok h2)) (fun y c h=>lt_succ_of_lt (cl y c (S.sub0 ok h))),fun y O=> ?_,fun y c h e=>Nat.le_of_succ_le (Xu _ _ _ _ y c (le_refl _) (.inl (contains_iff_mem.mp h)) e),ok.hd,ok.frames,.inl rfl,fun b J=>⟨a6 b J,fun x c e=>(S.sub ok e).elim ((F b J).1.2.2.2.2.1 x c) fun z z2=> ?_⟩,
  I.bs,le_trans ok.bsz I.sz,fun b o e J=> ?_,fun b J=> ?_,I.stack,I.stkFree⟩,a0,by rw [hg];exact I.bare,Un.kept Y,⟨_,hn,fun i x v h1 h2 h3=> ?_⟩,fun y c e=> ?_,I.hok.fresh (le_refl _),fun y c e=>(S.sub ok e).elim (I.freeC y c) fun z=>I.hok.fresh (Nat.le_of_succ_le z),
  fun p hp=>absurd (show p∈([]:List (Addr × Obj))from hp) (by simp),I.hok.kept Y,?_⟩
 . have z:∃Z,(Z=NameKind.cell\/Z= .free)/\(scope.names.map fun(n,k)=>if(k==NameKind.free&&X.env.scope.kind== .function&&X.env.kindOf n==some .cell)then(n,NameKind.cell)else(n,k)).lookup y=some Z:=by
    rcases O with O | O
    . exact⟨_,.inl rfl,O⟩
    . exact⟨_,.inr rfl,O⟩
   obtain⟨Z,a7,hl⟩:=z
   obtain⟨k,hm,h2⟩:=Gk hl
   refine Xq _ _ _ y ?_
   rcases h2 with e | ⟨e,_⟩
   . subst e
     rcases a7 with e | e
     . subst e
       exact .inl hm
     . exact .inr (Kc scope.names [] y (.inl ⟨_,hm,e,rfl⟩))
   . exact .inr (Kc scope.names [] y (.inl ⟨_,hm,e,rfl⟩))
 . subst z2
   obtain⟨_,o,L⟩:=F c J
   have:=Heap.lt_size L
   exact lt_irrefl _ (lt_of_lt_of_le (lt_succ_of_lt this) z)
 . rcases(F b J).1.2.2.2.1 with z | z
   . exact ok.noex b o e z
   . exact absurd (lt_of_lt_of_le (Heap.lt_size e) (le_trans ok.bsz z)) (lt_irrefl _)
 . intro a8
   rcases mem_cons.mp (I.stkSub b a8)with e | e
   . exact(F b J).1.2.1 e
   . exact(F b J).1.2.2.1 e
 . unfold cpσ at h2
   by_cases hi:i<ts.length
   . rw [getElem?_append_left (by simpa using hi),getElem?_replicate]at h2
     split at h2<;>cases h2
   . rw [getElem?_append_right (by simpa using hi),length_replicate]at h2
     have d:(cpN ts fs)[i]? =some x:=h1
     unfold cpN at d
     rw [getElem?_append_right (by omega)]at d
     rw [getElem?_map]at d h2
     cases e:fs[i-ts.length]? with
     | none=>rw [e]at d;cases d
     | some p=>
       rw [e]at d h2
       have ex':p.2=x:=Option.some.inj d
       have U:(σ[p.1]?).join=some v:=Option.some.inj h2
       have e3:σ[p.1]? =some (some v):=by
        cases q:σ[p.1]? with
        | none=>rw [q]at U;cases U
        | some o=>rw [q]at U;cases o with | none=>cases U | some v'=>cases U;rfl
       obtain⟨a1,a2,a3,a4⟩:=S.at' p (List.mem_of_getElem? e)
       obtain⟨m,_,hl⟩:=I.loc
       have kd:=S.free _ a2 rfl
       have a9:Vis X.env.scope p.2:=by
        rcases kd with z | z
        . exact .inr (.inl z)
        . exact .inr (.inr z)
       obtain⟨u,r,l⟩:=hl p.1 p.2 v a1 e3 a9
       refine⟨u,r,?_⟩
       rcases l with⟨z,_⟩ | ⟨_,c,hc,M⟩
       . rcases kd with q | q
         . rw [q]at z;cases z
         . rw [q]at z;cases z
       . obtain⟨c',W⟩:=Kc (env:=X.env) scope.names [] p.2 (.inl ⟨_,a2,rfl,rfl⟩)
         have ec:c'=c:=Option.some.inj ((S.sub0 ok W).symm.trans hc)
         subst ec
         subst ex'
         refine .inr ⟨?_,c',(Xv _ _ _ _ a4).trans W,?_⟩
         . exact a3
         . obtain⟨o,L,hd⟩:=M
           exact⟨o,Y _ _ L,hd⟩
 . rcases a5 y c e with z | z
   . obtain⟨v,o,L,hd⟩:=I.cell y c (S.sub0 ok z)
     exact⟨v,o,Y _ _ L,hd⟩
   . exact⟨none,z⟩
 . unfold cpσ
   show _=(cpN ts fs).length
   unfold cpN
   simp
theorem Aaf {pins:List (Addr × Obj)}{σ M:St}{H H':Hp}{d G:Shared}{h':Heap}{ex:List Addr} (S:Jd X ts fs scope) (I:Inv X pins σ H d) (F:∀b∈ex,Nx X pins H b)
 (J:Inv (cxD X (cpN ts fs) scope ex d H) [] M H' G) (W:Heap.SameBut d.heap.objs.size G.heap h'):Inv X pins σ H' { G with heap:=h'}:=by
 have U:H' d.heap.objs.size=none:=J.free
 have old:∀b o,b≠d.heap.objs.size->G.heap.get? b=some o->h'.get? b=some o:=fun b o y e=>W.extBut b o y e
 have lt:∀b o,d.heap.get? b=some o->b≠d.heap.objs.size:=fun b o e=>ne_of_lt (Heap.lt_size e)
 have u:Un (frs X.stack) ex H H' d.heap G.heap:=J.base
 have Y:Un (frs X.stack) ex H H' d.heap h':=
  ⟨fun b o e n y L=>old b o (lt b o e) (u.keep b o e n y L),fun b o e n y L=>by
   obtain⟨Z,q⟩:=u.slot b o e n y L
   exact⟨Z,old b _ (lt b o e) q⟩,u.free,fun b o e L=>by
   obtain⟨o',q⟩:=u.there b o e L
   exact⟨o',old b o' (lt b o e) q⟩,u.tups,u.frzs,u.tbls⟩
 have O:HOk X.prog X.w H' h':=fun b o e=>by
  have nb:b≠d.heap.objs.size:=fun z=>by rw [z,U]at e;cases e
  refine(J.hok b o e).stay (fun c v hc q=>old c v ?_ q) (fun _ q=>q) fun _ _ q=>q
  rcases hc with z | z
  . rw [z];exact nb
  . intro z2;rw [z2,U]at z;cases z
 exact I.call' (s':={ G with heap:=h'}) (ch:=ex) J.os Y O J.bare fun b y=>⟨(F b y).2.2.2.1,(F b y).2.1,(F b y).2.2.2.2.1,(F b y).2.2.2.2.2⟩
theorem Aag {pins:List (Addr × Obj)}{σ:St}{G:Hp}{I s4:Shared}{Q:VK}{R:Result->Shared->Prop}{fp:List Addr}{it p:Addr}{tn:Nat->Heap->Prop}{J:It}{W:Nat->Nat->List V->Hp->Prop}{m0:Nat} (hc:X.calm=true) (S:Jd X ts fs scope)
 (hg:∀ex s H,PG (cxD X (cpN ts fs) scope ex s H) tg g) (ht:∀ex s H,PTs (cxD X (cpN ts fs) scope ex s H) ifs tt) (he:∀ex s H,PE (cxD X (cpN ts fs) scope ex s H) elt te)
 (I3:Inv X pins σ G I) (T:Turn X.prog X.w X.K tg J fp it tn) (Z:∀b∈fp,Nx X pins G b) (lt:∀b∈fp,b<I.heap.objs.size)
 (I4:Inv (cxD X (cpN ts fs) scope fp I G) [] (cpσ ts.length fs σ) G s4) (a9:tn 0 s4.heap) (w0:W 0 m0 [] G)
 (aa:∀Y s6,Inv (cxD X (cpN ts fs) scope fp I G) [] (cpσ ts.length fs σ) Y s6->Q (.ref p) Y->R (.ok .next) s6)
 (a3:∀i m F H2,W i m F H2->(J.stop i H2/\Q (.ref p) H2)\/(J.go i H2/\∀x G,J.yld i H2 x G->g x (cpσ ts.length fs σ) G fun a1 H4=>Kp (cpσ ts.length fs σ) a1/\tt a1 H4 fun b Y=>
   if b=true then te a1 Y fun y H6=>H6 p=some (.lst F)/\F.length<sizeLine/\∃M,M<m/\W (i+1) M (F++ [y]) (upd H6 p (.lst (F++ [y])))else ∃M,M<m/\W (i+1) M F Y)):
 codeAny (model X.prog X.w) X.A (.compLoop (.ListComp elt [⟨tg,iter,ifs,0⟩] scope pos) 0 (.ref it) (.ref p) (cxD X (cpN ts fs) scope fp I G).env) R s4:=by
 have O:∀ {H':Hp},(∀b∈fp,H' b=none)->∀b∈fp,Nx (cxD X (cpN ts fs) scope fp I G) [] H' b:=fun hn b L=>
  ⟨hn b L,ne_of_lt (lt b L),fun z=>(mem_cons.mp (I3.stkSub b z)).elim (Z b L).2.1 (Z b L).2.2.1,.inl L,fun x c e=>(S.sub I3.ok e).elim ((Z b L).2.2.2.2.1 x c) (fun z z2=>lt_irrefl _ (lt_of_lt_of_le (lt_succ_of_lt (lt b L)) (by rw [<-z2];exact z))),fun q hq=>absurd (show q∈([]:List (Addr × Obj))from hq) (by simp)⟩
 refine Kv (fun n s'=>∃i F H',Inv (cxD X (cpN ts fs) scope fp I G) [] (cpσ ts.length fs σ) H' s'/\tn i s'.heap/\(∀b∈fp,H' b=none)/\W i n F H') ?_ m0 ⟨0,[],G,I4,a9,fun b L=>(Z b L).1,w0⟩
 rintro n s5 ⟨i,F,Y,I5,a4,a5,w5⟩
 rcases a3 i n F Y w5 with⟨a6,q⟩ | ⟨go,step⟩
 . refine thn (T.done (cxD X (cpN ts fs) scope fp I G) rfl rfl rfl hc i [] s5 _ Y _ I5 (O a5) a4 a6) fun r s6 ⟨hr,I6⟩=> ?_
   subst hr
   exact aa Y s6 I6 q
 . refine thn (T.item (cxD X (cpN ts fs) scope fp I G) rfl rfl rfl hc i [] s5 _ Y _ I5 (O a5) a4 go) fun r s6 ⟨u,hr,h6⟩=> ?_
   subst hr
   refine thn h6 fun _ s7 ⟨x,H7,I7,r7,y7,a2,ac⟩=> ?_
   have ad:=I7.pinned (O ac) (T.obj _ _ a2)
   refine thn (hg fp I G _ s7 _ H7 x u _ ad r7 (step x H7 y7)) fun _ s8 ⟨a0,H8,I8,kp,q8⟩=> ?_
   have again:∀ {H9:Hp}{s9:Shared}{U:List V}{M:Nat},Inv (cxD X (cpN ts fs) scope fp I G) ([]++Om fp s7.heap) a0 H9 s9->M<n->W (i+1) M U H9->
    ∃m,m<n/\∃i F H',Inv (cxD X (cpN ts fs) scope fp I G) [] (cpσ ts.length fs σ) H' s9/\tn i s9.heap/\(∀b∈fp,H' b=none)/\W i m F H':=fun {H9 s9 U M} I9 hm w9=>by
    refine⟨M,hm,i+1,U,H9,(I9.fade kp).unpinned,T.keep _ _ _ a2 fun b L o e=>(I9.pin (b,o) (mem_append_right _ (mem_append_right _ (Ew L e)))).1,fun b L=> ?_,w9⟩
    obtain⟨o,e,d⟩:=T.obj _ _ a2 b L
    exact(I9.pin (b,o) (mem_append_right _ (mem_append_right _ (Ew L e)))).2.1
   refine thn (ht fp I G _ s8 a0 H8 _ I8 q8) fun ok s9 ⟨H9,I9,q9⟩=> ?_
   cases ok with
   | false=>
     rw [if_neg Bool.false_ne_true]at q9 ⊢
     obtain⟨M,hm,w9⟩:=q9
     exact again I9 hm w9
   | true=>
     rw [if_pos rfl]at q9 ⊢
     refine thn (he fp I G _ s9 a0 H9 _ I9 q9) fun y ae ⟨yv,ag,ah,ai,a7,a8,M,hm,aj⟩=> ?_
     exact thn (Dq _ ae a0 ag (.ref p) [yv] (.ref p) [y] _ ah rfl (.cons ai .nil) ⟨p,F,yv,rfl,rfl,a7,a8,aj⟩) fun _ am ⟨_,an,ak,_,al⟩=>again ak hm al
set_option maxHeartbeats 2000000 in
theorem Wa {L:Pos}{pins:List (Addr × Obj)}{σ:St}{H:Hp}{s:Shared}{Q:VK}{QQ:Value->Shared->Prop}{use:Option (Value->Sem Unit)} (hc:X.calm=true) (S:Jd X ts fs scope) (hi:PI X tg iter wi) (hg:∀ex s H,PG (cxD X (cpN ts fs) scope ex s H) tg g) (ht:∀ex s H,PTs (cxD X (cpN ts fs) scope ex s H) ifs tt)
 (he:∀ex s H,PE (cxD X (cpN ts fs) scope ex s H) elt te) (hs:∀x,foldedSetIterable iter X.env x=pure x) (I:Inv X pins σ H s) (h:Qn ts.length fs wi g tt te σ H Q)
 (a0:∀(H3:Hp) (s3:Shared) (fp:List Addr) (p:Addr) (H5:Hp) (s6:Shared),Inv X pins σ H3 s3->(∀b∈fp,Nx X pins H3 b)->Inv (cxD X (cpN ts fs) scope fp s3 H3) [] (cpσ ts.length fs σ) H5 s6->Q (.ref p) H5->compPost (model X.prog X.w) X.A X.xe use QQ (.ref p) s3.heap.objs.size (.ok .next) s6):
 wpAny (model X.prog X.w) X.A (comprehension (.ListComp elt [⟨tg,iter,ifs,0⟩] scope pos) scope X.env L (newList []) false (eval iter X.env) use) QQ X.xe s:=by
 refine wpAny_comprehension_free (use:=use) rfl hs (Od (S.clos I.ok)) S.kind S.names (thn (hi pins s σ H _ I h) fun v s1 h1=>thn h1 fun a1 d h2=> ?_)
 obtain⟨it,fp,tn,J,H2,rfl,I2,T,M,f2,hw⟩:=h2
 refine wpAny_newObj_type (Aeg ?_)
 dsimp only
 have I3:=I2.lnew (its:=[]) (ys:=[]) (t':=d.toks) .nil (zero_le _)
 have hD:H2 d.heap.objs.size=none:=I2.fresh
 obtain⟨W,⟨m0,w0⟩,O⟩:=hw _ hD
 have up:∀b o,d.heap.get? b=some o->(d.heap.push { cls:= .type "list",data:= .seq ([]:List Value).toArray}).get? b=some o:=fun b o e=>Heap.get?_push_of_some _ e
 have F:∀b∈fp,Nx X pins (upd H2 d.heap.objs.size (.lst [])) b/\∃o,(d.heap.push { cls:= .type "list",data:= .seq ([]:List Value).toArray}).get? b=some o:=fun b G=>by
  obtain⟨o,ho,_⟩:=T.obj _ _ M b G
  have nb:b≠d.heap.objs.size:=ne_of_lt (Heap.lt_size ho)
  exact⟨⟨by rw [Bs nb];exact(f2 b G).1,(f2 b G).2⟩,o,up b o ho⟩
 have U:∀b u,(d.heap.push { cls:= .type "list",data:= .seq ([]:List Value).toArray}).get? b=some u->(pushCells ((d.heap.push { cls:= .type "list",data:= .seq ([]:List Value).toArray}).push { cls:= .type "dict",data:= .dict #[]}) scope.names).get? b=some u:=fun b u e=>
  pushCells_keeps _ _ _ _ (Heap.get?_push_of_some _ e)
 have I4:=Wc (s4:={ d with heap:=pushCells ((d.heap.push { cls:= .type "list",data:= .seq ([]:List Value).toArray}).push { cls:= .type "dict",data:= .dict #[]}) scope.names,toks:=d.toks}) S I3 F rfl rfl U ((Heap.Ns.new _ (.type "dict")).keeps (pushCells_keeps _ _)) (fun y c e=>by
  have z:=Tn scope.names ((d.heap.push { cls:= .type "list",data:= .seq ([]:List Value).toArray}).push { cls:= .type "dict",data:= .dict #[]}) (scope.names.foldl (clF X.env) []) y c
  rw [Heap.size_push]at z
  exact z e)
 have Y:tn 0 (pushCells ((d.heap.push { cls:= .type "list",data:= .seq ([]:List Value).toArray}).push { cls:= .type "dict",data:= .dict #[]}) scope.names):=T.keep _ _ _ M fun b _ o e=>U b o (up b o e)
 have Z:=Aag (elt:=elt) (iter:=iter) (pos:=pos) hc S hg ht he I3 T (fun b G=>(F b G).1) (fun b G=>Heap.lt_size (F b G).2.choose_spec) I4 Y w0 (fun H5 s6 I6 q=>a0 _ _ fp _ H5 s6 I3 (fun b G=>(F b G).1) I6 q) O
 exact codeAny_compStart_list Z (T.self X.A 0 _ _ _ Y Z)
theorem Vm (F:X.calm=true) (S:Jd X ts fs scope) (hi:PI X tg iter wi) (G:∀ex s H,PG (cxD X (cpN ts fs) scope ex s H) tg g) (J:∀ex s H,PTs (cxD X (cpN ts fs) scope ex s H) ifs tt)
 (L:∀ex s H,PE (cxD X (cpN ts fs) scope ex s H) elt te) (M:∀x,foldedSetIterable iter X.env x=pure x:=by intro _;rfl):
 PE X (.ListComp elt [⟨tg,iter,ifs,0⟩] scope pos) (Qn ts.length fs wi g tt te):=by
 intro pins s σ H Q I h
 rw [eval_ListComp]
 refine Wa (use:=none) F S hi G J L M I h fun Z s3 fp p O s6 U d y q=> ?_
 obtain⟨m,W,_⟩:=y.loc
 exact⟨m,W,fun h' Y=>⟨.ref p,O,Aaf S U d y Y,rfl,q⟩⟩
theorem Aay (K:Frag) (d:X.K=K) {l:Expr}{tl:TE} (q:PE X l tl):PI X tg l (Yb K tl):=by
 subst d
 exact Y0 q
end
end L2
namespace L2
open PySem PySem.Spec PyProof.Rows
structure Pyl (P:Program) (base:Heap):Prop where
 seer:base.NoSeer
 tree:P.given.tree=none
theorem J8.far {k:Nat}{A:Around} (r:J8 k A) (h:32<=k):A.depth+Builtin.pylongFrames<recursionLimit:=by
 have h1:=r.dp
 have h2:Builtin.pylongFrames=100:=rfl
 omega
section
variable {X:Cx}{env:Env}{l:List Env}
theorem Aa2 {pins:List (Addr × Obj)}{σ:St}{H:Hp}{s:Shared} (d:Pyl X.prog X.base) (q:X.A.depth+Builtin.pylongFrames<recursionLimit) (y:X.stack=env::l) (h1:env.scope.isGenerator=false) (h2:env.scope.isCoroutine=false) (F:env.builtins=builtinsNs) (G:env.globals=mainGlobals)
 (I:Inv X pins σ H s):PylongRoom (model X.prog X.w) X.A s:=by
 refine PylongRoom.of I.nolimit q (SeerAt.of (l:=l) (d.seer.keeps I.bk) d.tree ?_ h1 h2 F G)
 rw [I.ok.frames,y]
theorem Il (d:Pyl X.prog X.base) (F:X.A.depth+Builtin.pylongFrames<recursionLimit) (G:X.stack=env::l) (h1:env.scope.isGenerator=false) (h2:env.scope.isCoroutine=false) (J:env.builtins=builtinsNs) (L:env.globals=mainGlobals):
 OpR X (binaryOp .FloorDiv) (rI (fun _ j=>j≠0) fun i j=> .int (i.fdiv j)):=by
 intro pins s σ H x y v u Q I M O h
 obtain⟨i,j,rfl,rfl,U,q⟩:=h
 obtain⟨t,rfl⟩:=M
 obtain⟨W,rfl⟩:=O
 exact floordiv_int U ⟨.int (i.fdiv j),H,I.tok _,⟨_,rfl⟩,q⟩ (.inr (Aa2 d F G h1 h2 J L I))
theorem Aas (F:Pyl X.prog X.base) (G:X.A.depth+Builtin.pylongFrames<recursionLimit) (J:X.stack=env::l) (h1:env.scope.isGenerator=false) (h2:env.scope.isCoroutine=false) (L:env.builtins=builtinsNs) (M:env.globals=mainGlobals):
 OpR X (binaryOp .FloorDiv) (rI (fun _ j=>0<j) fun i j=> .int (i/j)):=by
 intro pins s σ H x y v u Q I O U h
 obtain⟨i,j,W,Y,d,q⟩:=h
 refine Il F G J h1 h2 L M pins s σ H x y v u Q I O U ⟨i,j,W,Y,Int.ne_of_gt d,?_⟩
 show Q (.int (i.fdiv j)) H
 rw [Int.fdiv_eq_ediv_of_nonneg i (Int.le_of_lt d)]
 exact q
end
theorem Aa5 {h:Heap}{H:Hp}{a:Addr}{F:List Value} (y:h.NoSeer) (I:h.get? a=some { cls:= .type "list",data:= .seq F.toArray}) (J:∀b,H b≠none->b=a):(Xa h H).NoSeer:=by
 have keep:∀ {b o},h.get? b=some o->o.cls≠ .type "list"\/(∃es ep,o.data=Data.dict es ep)->(Xa h H).get? b=some o:=fun {b o} e z=>by
  refine Ve e ?_
  cases q:H b with
  | none=>rfl
  | some u=>
    obtain rfl:b=a:=J b (by rw [q];simp)
    rw [I]at e
    cases e
    rcases z with z | ⟨es,ep,z⟩
    . exact absurd rfl z
    . cases(show Data.seq F.toArray _=Data.dict es ep from z)
 have ns:∀ {b m},h.Ns b m->(Xa h H).Ns b m:=fun {b m} ⟨o,es,ep,e,d,r⟩=>⟨o,es,ep,keep e (.inr ⟨es,ep,d⟩),d,r⟩
 obtain⟨⟨L,M,O⟩,⟨U,W,Y⟩,⟨Z,a3,b3⟩,⟨m4,bm,ob,a4,b4,c4,G,e4⟩⟩:=y
 exact⟨⟨L,ns M,O⟩,⟨U,ns W,Y⟩,⟨Z,ns a3,b3⟩,⟨m4,bm,ob,ns a4,b4,keep c4 (.inl (by rw [G];decide)),G,e4⟩⟩
theorem Yk {P:Program}{w:World}{K:Frag}{mg mb:Str->Option Value}{k:Nat}{fa a:Addr}{fd:FuncData}{x:Str}{sp:Sp}{y:Shared}{L:List Value}{ns:List Int}
 (KX:K.In y.heap) (M:y.heap.Ns mainGlobals mg) (hb:y.heap.Ns builtinsNs mb) (a1:∀x:Str,x≠"__name__"->mb x=bootBuiltins x) (O:y.heap.NoLimit) (a2:y.heap.NoSeer) (hg:y.gens= #[])
 (U:y.heap.get? a=some { cls:= .type "list",data:= .seq L.toArray}) (hi:IntsAre L ns) (hl:ns.length<=sizeLine) (hr:J8 k callerA)
 (F:∀base:Heap,K.In base->base.Ns mainGlobals mg->base.NoSeer->Ny P w K mg base CX0 k fa fd [x] sp) (J:∀(s:Shared) (u:Value),BindsTo s fd ⟨[u],[]⟩ [(x,u)])
 (a3:∀H:Hp,SqL K H a (ns.map V.int)->sp [.ref a] H (fun v _=>v= .bl true) fun _ _ _=>False)
 (a4:∀H e s',CX0 [] H y (fun _ _ _=>False) e s'->False):
 codeAny (model P w) callerA (.call (.ref fa) ⟨[.ref a],[]⟩) (fun r s'=>r= .ok (.ret (.bool true))/\OldK y.heap s'.heap/\s'.os=y.os/\AllBare s'.gens) y:=by
 have rv:=Sv hi
 have ln:=hi.length
 obtain⟨H,hO,hS,Y,hA,hK⟩:∃H:Hp,Only H/\SqL K H a (ns.map V.int)/\HOk P w H y.heap/\(∀b,H b≠none->b=a)/\(H a≠none->K.lookup a=none):=by
  cases hk:K.lookup a with
  | some o=>
    have e:=KX a o hk
    rw [U]at e
    cases e
    exact⟨fun _=>none,fun _=> .inl rfl,.inr ⟨_,L.toArray,_,hk,rfl,rfl,rfl,by rw [size_toArray,ln];exact hl,by simpa using rv⟩,by intro b u z;exact(nomatch (show(none:Option HO)=some u from z)),fun b z=>absurd rfl z,fun z=>absurd rfl z⟩
  | none=>
    refine⟨upd (fun _=>none) a (.frz { cls:= .type "list",data:= .seq L.toArray} (.lst (ns.map V.int))),fun b=> ?_,.inl (.inr ⟨_,Ag⟩),fun b u z=> ?_,fun b z=> ?_,fun _=>rfl⟩
    . by_cases e:b=a
      . subst e
        exact .inr ⟨_,_,Ag⟩
      . exact .inl (Bs e)
    . by_cases e:b=a
      . subst e
        rw [Ag]at z
        cases z
        exact⟨U,by rw [length_map];exact hl,L,_,rv,U⟩
      . rw [Bs e]at z
        cases z
    . exact Classical.byContradiction fun e=>z (Bs e)
 have I:∀ {b:Addr}{o:Obj},y.heap.get? b=some o->H b=none->(Xa y.heap H).get? b=some o:=fun e n=>Ve e n
 have G:∀ {b:Addr}{m:Str->Option Value},y.heap.Ns b m->(Xa y.heap H).Ns b m:=fun {b m} ⟨o,es,ep,e,d,r⟩=>by
  refine⟨o,es,ep,I e ?_,d,r⟩
  cases q:H b with
  | none=>rfl
  | some u=>
    obtain rfl:b=a:=hA b (by rw [q];simp)
    rw [U]at e
    cases e
    cases(show Data.seq L.toArray _=Data.dict es ep from d)
 have kb:K.In (Xa y.heap H):=fun b o e=>I (KX b o e) (by
  cases q:H b with
  | none=>rfl
  | some u=>
    obtain rfl:b=a:=hA b (by rw [q];simp)
    rw [hK (by rw [q];simp)]at e
    cases e)
 have hM:Mod K mg (Xa y.heap H):=⟨kb,G M,⟨mb,G hb,a1⟩,let ⟨mc,h1,h2⟩:=O;⟨mc,G h1,h2⟩⟩
 have e0:Ace P w K mg (Xa y.heap H) callerA [] y H:=⟨rfl,hM,fun b o e=>Acz e,le_of_eq (X8 _ _),trivial,fun b hb=>absurd (show b∈([]:List Addr)from hb) (by simp),Y,.of_eq hg⟩
 refine codeAny_mono ((F _ kb (G M) (Aa5 a2 U hA)).run callerA [] y H ⟨[.ref a],[]⟩ [.ref a] [.ref a] _ _ hr e0 (J y (.ref a)) (.cons rfl .nil) (a3 H hS)) fun r s' h=> ?_
 match r,h with
 | .error e,h=>exact(a4 H e s' h).elim
 | .ok .next,h=>exact False.elim h
 | .ok .brk,h=>exact False.elim h
 | .ok .cont,h=>exact False.elim h
 | .ok (.ret u),h=>
   obtain⟨v,H',os,Z,un,a0,r',q⟩:=h
   obtain rfl:v= .bl true:=q
   obtain rfl:u=Value.bool true:=r'
   refine⟨rfl,OldK.of_keep fun b o e=> ?_,os,Z⟩
   rcases hO b with q | ⟨ob,xs,z⟩
   . exact un.keep b o e q (by intro z;exact absurd (show b∈([]:List Addr)from z) (by simp)) (by simp)
   . obtain⟨e1,_⟩:=Y b _ z
     obtain⟨e2,_⟩:=a0 b _ (un.frzs b ob _ z)
     rw [e]at e1
     cases e1
     exact e2
theorem Abh {l:PySem.W.OpenLaw}{n k:Nat}{q:Program}{I:List Str}{XP:(Str->Option Value)->Heap->Prop}{YP:World->Heap->Prop}{d:DefRec}{K:Params->Frag}{sp:Frag->Sp}{x:Str}
 (hn:l.most=some n) (U:n<=sizeLine) (Z:d.params.defaults=[]) (hr:J8 k callerA) (a0:importsNone q=true) (a1:l.prog.given.tree=none)
 (hY:∀(w:World) (h:Heap),YP w h->(K w.params).In h)
 (F:∀(w:World) (mg:Str->Option Value) (O:Addr) (h:Heap),(K w.params).In h->h.Ns mainGlobals mg->mg d.name=some (.ref O)->
   ∃fd:FuncData,(∀(s:Shared) (u:Value),BindsTo s fd ⟨[u],[]⟩ [(x,u)])/\∀base:Heap,Pyl l.prog base->Ny l.prog w (K w.params) mg base CX0 k O fd [x] (sp (K w.params)))
 (a2:∀(K:Frag) (H:Hp) (a:Addr) (ns:List Int),ns.length<=n->SqL K H a (ns.map V.int)->sp K [.ref a] H (fun v _=>v= .bl true) fun _ _ _=>False)
 (a3:∀(H:Hp) (s:Shared) (e:Value) (s':Shared),CX0 [] H s (fun _ _ _=>False) e s'->False):
 PySem.W.WalkO q I XP YP l.row.toRowW d [] (fun f vs=>PySem.call f vs):=by
 refine Att.Ti hn Z fun w a5 L mg mb O o pm cd a6 a vs ns G Y ho hd a7 a4 M J y hg=> ?_
 have KX:=hY w _ Y
 obtain⟨fd,hb,hF⟩:=F w mg O _ KX G.T.g a4
 exact Yk KX G.T.g G.T.b G.T.builtins G.T.nolimit (G.T.seer a0) hg M J (le_trans y U) hr (fun base _ _ ns=>hF base ⟨ns,a1⟩) hb (fun H hS=>a2 (K w.params) H a ns y hS) fun H e s'=>a3 H L e s'
end L2
namespace L2
open PySem PySem.Spec PyProof.Rows
set_option maxRecDepth 100000
end L2
namespace L2
open PySem PySem.Spec PyProof.Rows
structure Aiw (P:Program) (w:World) (K:Frag) (mg:Str->Option Value) (base:Heap) (k:Nat) (a:Addr) (ps:List Str) (sp:Sp):Prop where
 ex:∃fd,Ny P w K mg base CX0 k a fd ps sp/\Binds K fd ps []
 kp:∀(M:Model) (h:Heap),(∀b o,base.get? b=some o->h.get? b=some o)->K.In h->∃k,(k=Keeper.frame\/k=Keeper.machine\/k=Keeper.boundFrame)/\Looks M h (keeperOf (.ref a)) k
theorem Cal.val {P:Program}{w:World}{K:Frag}{mg:Str->Option Value}{base:Heap}{k:Nat}{x:Str}{ps:List Str}{sp:Sp}{a:Addr} (C:Cal P w K mg base k x ps sp) (e:mg x=some (.ref a)):Aiw P w K mg base k a ps sp:=by
 obtain⟨f,fd,G,g,b,c⟩:=C
 rw [e]at g
 cases g
 exact⟨⟨fd,G,c⟩,fun M h _ X=>PySem.W.keeps_K b h X⟩
structure Aiz (ps fs:List Str) (sc:Scope):Prop where
 kind:sc.kind= .function
 co:sc.isCoroutine=false
 gen:sc.isGenerator=false
 nd:ps.Nodup
 par:∀x∈ps,sc.names.lookup x=some .local
 fre:∀x∈fs,sc.names.lookup x=some .free
 nocell:∀y∈sc.names,y.2≠ .cell
 only:∀y∈sc.names,y.2= .free->y.1∈fs
structure Aiy (base:Heap) (fs:List Str) (cl:List (Str × Addr)) (ws:List V):Prop where
 inj:∀x y c,cl.lookup x=some c->cl.lookup y=some c->x=y
 has:∀x∈fs,∃c,cl.lookup x=some c
 cell:∀x c,cl.lookup x=some c->∃v,base.IsCell c v
 val:∀(i:Nat) (x:Str) (v:V),fs[i]? =some x->ws[i]? =some v->∃c u,cl.lookup x=some c/\base.IsCell c (some u)/\RelV v u
 len:ws.length=fs.length
def Agq (c:Addr) (q:Str):HO:= .ext fun h=>h.CodeRec (.ref c) q
def SmP (p:Addr) (H H':Hp):Prop:=∀b o,b≠p->H b=some o->H' b=some o
def Tab (p:Addr) (lp:Pos) (q:Str) (H:Hp):Prop:=∃ps,H p=some (.tbl ps)/\(ps= #[]\/∃c',ps= #[rawInt lp.line,rawInt lp.col,.ref c']/\H c'=some (Agq c' q))
structure Ajf (mg:Str->Option Value) (base:Heap) (c p:Addr):Prop where
 code:CodeHd base c p
 bm:∃bm ob,mg "__builtins__"=some (.ref bm)/\bm≠builtinsNs/\base.get? bm=some ob/\ob.cls= .type "module"/\ob.dict=some builtinsNs/\ob.data= .plain
theorem Pyl.keeps {P:Program}{b d:Heap} (h:Pyl P b) (k:∀a o,b.get? a=some o->d.get? a=some o):Pyl P d:=⟨h.seer.keeps k,h.tree⟩
theorem SmP.trans {p:Addr}{H H1 H2:Hp} (a:SmP p H H1) (b:SmP p H1 H2):SmP p H H2:=fun c o n e=>b c o n (a c o n e)
theorem Tab.same {p:Addr}{d:Pos}{q:Str}{H H':Hp} (h:Tab p d q H) (s:Same H H'):Tab p d q H':=by
 obtain⟨ps,a,b⟩:=h
 refine⟨ps,s _ _ a,?_⟩
 rcases b with b | ⟨c,y,F⟩
 . exact .inl b
 . exact .inr ⟨c,y,s _ _ F⟩
theorem Tab.is {p:Addr}{d:Pos}{q:Str}{H:Hp} (h:Tab p d q H):∃ps,H p=some (.tbl ps):=by
 obtain⟨ps,a,_⟩:=h
 exact⟨ps,a⟩
end L2
namespace L2
open PySem PySem.Spec PySem.Calls PyProof.Rows PySem.W
abbrev Tk:=Addr × List Int
structure Ajg (h:Heap) (k:Addr) (t:Tk):Prop where
 pr:∃o xs n tk,h.get? k=some o/\o.cls= .type "tuple"/\o.data= .seq xs n/\xs.toList=[.int t.2.length tk,.ref t.1]
 tu:∃its:List Value,IsTup h t.1 its.toArray/\IntsAre its t.2
def EX (a:Addr) (o:Obj):HO:= .ext fun h=>h.get? a=some o
structure KyI (X:Cx) (pins:List (Addr × Obj)) (σ:St) (H2:Hp) (a kS f:Addr) (oa of:Obj) (ts:List Tk) (i:Nat) (H':Hp) (ks:List Addr) (s':Shared):Prop where
 inv:Inv X pins σ H' s'
 sm:Same H2 H'
 ea:H' a=some (EX a oa)
 ky:H' kS=some (.lst (ks.map V.ref))
 ln:ks.length=i
 tu:∀(j:Nat) (k:Addr) (t:Tk),ks[j]? =some k->ts[j]? =some t->H' k=some (.tup [.int t.2.length,.ref t.1])
 fo:s'.heap.get? f=some of
 fn:H' f=none
end L2
namespace L2
open PySem PySem.Spec PyProof.Rows
abbrev Is3 (h:Heap) (T:Addr) (a b c:Value):Prop:=h.get? T=some { cls:= .type "tuple",data:= .seq #[a,b,c]}
section
variable {prog:Program}{w:World}{A:Around}{E:Value->Shared->Prop}{s:Shared}
theorem nz {a b:Nat} (h:a<b\/b<a):(show Addr from a)≠b:=fun e=>by
 have e:a=b:=e
 omega
structure Zp3 (h:Heap) (n l1 l2 l3 k:Nat) (f0:Value):Prop where
 z:IsZip h (n+5) (n+3) (n+4) f0
 ti:Is3 h (n+3) (.ref n) (.ref (n+1)) (.ref (n+2))
 to:∃p q r,Is3 h (n+4) p q r
 j1:h.IsListIter n l1 k
 j2:h.IsListIter (n+1) l2 k
 j3:h.IsListIter (n+2) l3 k
structure Zl3 (h:Heap) (n l1 l2 l3:Nat) (xs ys zs:Array Value):Prop where
 b1:l1<n
 b2:l2<n
 b3:l3<n
 a1:h.IsList l1 xs
 a2:h.IsList l2 ys
 a3:h.IsList l3 zs
end
end L2
namespace L2
open PySem PySem.Spec PyProof.Rows
def Ris (xs:Array Nat):Prop:=xs.toList.Pairwise (· < ·)
theorem O7 {xs:Array Nat} (h:Ris xs) (j:Nat):∀(n lo hi:Nat),hi-lo<=n->lo<=hi->hi<=xs.size->(∀i,i<lo->xs.getD i j<j)->(∀i,hi<=i->i<xs.size->j<=xs.getD i j)->
 SetTable.below.go xs j n lo hi<=xs.size/\(∀i,i<SetTable.below.go xs j n lo hi->xs.getD i j<j)/\∀i,SetTable.below.go xs j n lo hi<=i->i<xs.size->j<=xs.getD i j
 | 0,lo,hi,hn,hl,hs,a,b=>by
   have e:lo=hi:=by omega
   subst e
   exact⟨hs,a,b⟩
 | n+1,lo,hi,hn,hl,hs,a,b=>by
   unfold SetTable.below.go
   by_cases d:lo<hi
   . rw [if_pos d]
     dsimp only
     have up:∀p q:Nat,p<=q->q<xs.size->xs.getD p j<=xs.getD q j:=fun p q G J=>by
      rcases Nat.lt_or_eq_of_le G with z | z
      . have L:=pairwise_iff_getElem.mp h
        have:=L p q (by simpa using(by omega:p<xs.size)) (by simpa using J) z
        simp only [Array.getElem_toList]at this
        rw [Array.getD_eq_getD_getElem?,Array.getD_eq_getD_getElem?,Array.getElem?_eq_getElem (by omega),Array.getElem?_eq_getElem J]
        exact le_of_lt this
      . rw [z]
        exact le_refl _
     by_cases F:xs.getD ((lo+hi)/2) j<j
     . rw [if_pos F]
       refine O7 h j n _ hi (by omega) (by omega) hs (fun i y=> ?_) b
       exact lt_of_le_of_lt (up i ((lo+hi)/2) (by omega) (by omega)) F
     . rw [if_neg F]
       refine O7 h j n lo _ (by omega) (by omega) (by omega) a (fun i y I=> ?_)
       exact le_trans (Nat.le_of_not_lt F) (up _ i y I)
   . rw [if_neg d]
     have e:lo=hi:=by omega
     subst e
     exact⟨hs,a,b⟩
theorem O8 {xs:Array Nat} (h:Ris xs) (j:Nat):SetTable.below xs j<=xs.size/\(∀i,i<SetTable.below xs j->xs.getD i j<j)/\∀i,SetTable.below xs j<=i->i<xs.size->j<=xs.getD i j:=
 O7 h j xs.size 0 xs.size (by omega) (zero_le _) (le_refl _) (fun i h=>absurd h (not_lt_zero i)) (fun i h1 h2=>absurd h1 (by omega))
theorem V6 {xs:Array Nat} (h:Ris xs) {k:Nat} (d:k<xs.size):SetTable.below xs (xs[k]+1)=k+1:=by
 obtain⟨h1,h2,I⟩:=O8 h (xs[k]+1)
 have J:=pairwise_iff_getElem.mp h
 have y:∀i (hi:i<xs.size),xs.getD i (xs[k]+1)=xs[i]:=fun i hi=>by rw [Array.getD_eq_getD_getElem?,Array.getElem?_eq_getElem hi];rfl
 have lt:∀p q (F:p<xs.size) (G:q<xs.size),p<q->xs[p]<xs[q]:=fun p q F G z=>by
  have:=J p q (by simpa using F) (by simpa using G) z
  simpa only [Array.getElem_toList]using this
 rcases Nat.lt_trichotomy (SetTable.below xs (xs[k]+1)) (k+1)with z | z | z
 . have:=I k (by omega) d
   rw [y k d]at this
   omega
 . exact z
 . have:=h2 (k+1) z
   rw [y (k+1) (by omega)]at this
   have:=lt k (k+1) d (by omega) (lt_succ_self k)
   omega
theorem Tj {xs:Array Nat} (h:Ris xs):SetTable.below xs 0=0:=by
 obtain⟨h1,h2,d⟩:=O8 h 0
 refine Nat.eq_zero_of_not_pos fun z=> ?_
 exact absurd (h2 0 z) (not_lt_zero _)
theorem Adk {xs:Array Nat} (h:Ris xs) {j:Nat} (L:xs[SetTable.below xs j]? ≠some j):Ris (SetTable.insertAt xs (SetTable.below xs j) j):=by
 obtain⟨h1,h2,J⟩:=O8 h j
 have M:=pairwise_iff_getElem.mp h
 have G:∀i (hi:i<xs.size),xs.getD i j=xs[i]:=fun i hi=>by rw [Array.getD_eq_getD_getElem?,Array.getElem?_eq_getElem hi];rfl
 unfold Ris
 rw [SetTable.toList_insertAt]
 generalize SetTable.below xs j=p at*
 refine List.pairwise_append.mpr ⟨h.sublist (List.take_sublist _ _),pairwise_cons.mpr ⟨fun b F=> ?_,h.sublist (List.drop_sublist _ _)⟩,fun a O b F=> ?_⟩
 . obtain⟨i,hi⟩:=List.mem_iff_getElem?.mp F
   rw [getElem?_drop]at hi
   have y:=(List.getElem?_eq_some_iff.mp hi).1
   have I:xs[p+i]'(by simpa using y)=b:=by
    have:=(List.getElem?_eq_some_iff.mp hi).2
    simpa only [Array.getElem_toList]using this
   have d:p+i<xs.size:=by simpa using y
   have:=J (p+i) (by omega) d
   rw [G _ d,I]at this
   rcases Nat.lt_or_eq_of_le this with z | z
   . exact z
   . exfalso
     by_cases U:i=0
     . subst U
       exact L (show xs[p+0]? =some j by rw [Array.getElem?_eq_getElem d,I,z])
     . have q:=J p (le_refl _) (by omega)
       rw [G p (by omega)]at q
       have w:=M p (p+i) (by simpa using(by omega:p<xs.size)) (by simpa using d) (by omega)
       simp only [Array.getElem_toList]at w
       omega
 . have W:a<j:=by
    obtain⟨i,hi⟩:=List.mem_iff_getElem?.mp O
    have y:=(List.getElem?_eq_some_iff.mp hi).1
    rw [length_take]at y
    have d:i<xs.size:=by
     have:=Array.length_toList (xs:=xs)
     omega
    have Y:xs[i]=a:=by
     have:=(List.getElem?_eq_some_iff.mp hi).2
     rw [List.getElem_take]at this
     simpa only [Array.getElem_toList]using this
    have:=h2 i (by omega)
    rw [G i d,Y]at this
    exact this
   rcases mem_cons.mp F with rfl | F
   . exact W
   . obtain⟨i,hi⟩:=List.mem_iff_getElem?.mp F
     rw [getElem?_drop]at hi
     have y:=(List.getElem?_eq_some_iff.mp hi).1
     have d:p+i<xs.size:=by simpa using y
     have I:xs[p+i]=b:=by
      have:=(List.getElem?_eq_some_iff.mp hi).2
      simpa only [Array.getElem_toList]using this
     have:=J (p+i) (by omega) d
     rw [G _ d,I]at this
     omega
structure WT (led:Bool) (t:SetTable):Prop where
 led:t.led=led
 dum:t.dummies= #[]
 ris:t.plain=true->Ris t.place
theorem WT.fresh (led:Bool):WT led (.fresh 0 0 led):=⟨rfl,rfl,fun _=>Pairwise.nil⟩
theorem WT.standIn {led:Bool}{t:SetTable} (h:WT led t) (n:Nat):WT led (t.standIn n):=⟨h.led,rfl,fun z=>nomatch z⟩
theorem X7 (j:Nat):SetTable.has #[] j=false:=by
 unfold SetTable.has
 simp
theorem Vy {t:SetTable} (h:t.dummies= #[]) (j:Nat):t.slot j≠ .dummy/\(t.slot j= .empty->t.place[SetTable.below t.place j]? ≠some j):=by
 unfold SetTable.slot
 dsimp only
 by_cases c:(t.place[SetTable.below t.place j]? ==some j)=true
 . rw [if_pos c]
   exact⟨nofun,nofun⟩
 . rw [if_neg c,h,X7]
   simp only [false_eq_true,if_false]
   exact⟨nofun,fun _ z=>c (by rw [z];simp)⟩
theorem Ru {t:SetTable} (h:t.dummies= #[]) (G:Nat->Int) (I:Int):∀(n:Nat) (p:SetTable.Probe) (j:Nat) (d:Option Nat),p.dummy=none->SetTable.probe.go t G I n p=some (.empty j d)->d=none/\t.slot j= .empty
 | 0,p,j,d,_,e=>by
   unfold SetTable.probe.go at e
   cases e
 | n+1,p,j,d,hp,e=>by
   have y:∀q:SetTable.Probe,q.dummy=none->(t.advance q).dummy=none:=fun q J=>by
    unfold SetTable.advance
    split
    . exact J
    . exact J
   unfold SetTable.probe.go at e
   have L:=Vy h p.j
   split at e
   . rename_i F
     cases e
     exact⟨hp,F⟩
   . rename_i F
     exact absurd F L.1
   . split at e
     . cases e
     . exact Ru h G I n _ j d (y p hp) e
theorem WT.layNew {led:Bool}{t:SetTable} (h:WT led t) (es:Array (Int × Value)) (G:Int) (x:Value):WT led (PySem.layNew t es G x).2.1:=by
 unfold PySem.layNew
 split
 . rename_i F L q
   dsimp only
   unfold SetTable.orStandIn
   split
   . unfold SetTable.freeSlot at q
     split at q
     . rename_i j d I
       obtain⟨rfl,J⟩:=Ru h.dum _ _ _ _ j d rfl I
       cases q
       refine⟨h.led,?_,fun y=>Adk (h.ris y) ((Vy h.dum _).2 J)⟩
       show(if SetTable.has t.dummies _=true then _ else t.dummies)= #[]
       rw [h.dum,X7]
       rfl
     . cases q
   . refine⟨h.led,rfl,fun z=>nomatch z⟩
 . exact h.standIn _
theorem WT.relayAll {led:Bool}{t:SetTable} (h:WT led t) (es:Array (Int × Value)) (n:Nat):WT led (PySem.relayAll t es n).2.1:=by
 unfold PySem.relayAll
 split
 . rename_i G order d
   dsimp only
   split
   . unfold SetTable.relaid SetTable.laid at d
     cases hl:SetTable.layClean (SetTable.sizeAbove n-1) (es.map (·.1))with
     | none=>rw [hl]at d;cases d
     | some owner=>
       rw [hl]at d
       cases d
       refine⟨h.led,rfl,fun _=> ?_⟩
       unfold Ris
       rw [List.toList_toArray]
       refine List.pairwise_map.mpr ?_
       refine Pairwise.filterMap _ (R:=(· < ·)) (fun a I q b F J y=> ?_) List.pairwise_lt_range
       obtain⟨k,_,rfl⟩:=map_eq_some_iff.mp F
       obtain⟨L,_,rfl⟩:=map_eq_some_iff.mp y
       exact q
   . exact h.standIn _
 . exact h.standIn _
def S8 (P:Program) (w:World) (led:Bool) (h:Heap) (a:Addr) (S:Int->Bool) (n:Nat):Prop:=
 ∃o es ep t,h.get? a=some o/\o.ExactSet/\o.data= .set es ep t/\ElemsOf (intKind P w) es.toList/\(∀k,S k=true↔ ∃e∈es.toList,(intKind P w).is k e.2=true)/\es.size<scanBound/\t.fits es.size=true/\es.size=n/\WT led t
section
variable {P:Program}{w:World}{A:Around}{E:Value->Shared->Prop}{s:Shared}{led:Bool}
theorem Vv {h:Heap}{a:Addr}{o:Obj}{es d:Array (Int × Value)}{ep:Nat}{t t':SetTable}{S:Int->Bool} (I:h.get? a=some o) (q:o.ExactSet) (J:o.data= .set es ep t) (el:ElemsOf (intKind P w) d.toList) (y:∀k,S k=true↔ ∃e∈d.toList,(intKind P w).is k e.2=true) (F:d.size<scanBound) (G:t'.fits d.size=true) (L:WT led t'):
 ∃o',(h.update a (Obj.putSet d t')).get? a=some o'/\o'.ExactSet/\o'.data= .set d (ep+1) t'/\S8 P w led (h.update a (Obj.putSet d t')) a S d.size:=by
 obtain⟨g,_⟩:=SetOf_store (knd:=intKind P w) I q J el y F G
 exact⟨_,g,q,rfl,_,d,ep+1,t',g,q,rfl,el,y,F,G,rfl,L⟩
theorem Agv {a:Addr}{S:Int->Bool}{n:Nat}{k:Int}{tk:Tok}{Q:Bool->Shared->Prop} (hS:S8 P w led s.heap a S n) (hr:n+1<scanBound)
 (q:∀h',Heap.SameBut a s.heap h'->S8 P w led h' a (fun i=>S i||decide (i=k)) (if S k then n else n+1)->Q (!S k) { s with heap:=h'}):
 wpAny (model P w) A (setAddHashed a (.int k tk) ((intKind P w).hash k)) Q E s:=by
 obtain⟨o,es,ep,t,Y,hx,Z,el,hm,hb,hf,hn,wt⟩:=hS
 have G:(intKind P w).is k (.int k tk)=true:=intKind_is _ _ _ _
 have O:(Value.int k tk).scannable=true:=rfl
 unfold setAddHashed setAddHashedIn
 refine wpAny_holding (wpAny_bind (wpAny_setState_of Y Z hf ?_))
 dsimp only
 rw [byScan_of O hb el]
 simp only [↓reduceIte]
 unfold setAddByScan
 refine wpAny_bind (wpAny_bind (wpAny_rule (wpAny_bind (wpAny_setScan_of G Y Z hf el ?_))))
 cases hi:List.findIdx? (fun e=>(intKind P w).is k e.2) es.toList with
 | some j=>
   dsimp only
   obtain⟨jl,jp,_⟩:=List.findIdx?_eq_some_iff_getElem.mp hi
   have sk:S k=true:=(hm k).mpr ⟨es.toList[j],getElem_mem jl,jp⟩
   refine wpAny_pure (wpAny_pure ?_)
   have z:=q s.heap (Heap.SameBut.refl a s.heap) ⟨o,es,ep,t,Y,hx,Z,el,fun i=>by
    rw [or_eq_true,decide_eq_true_eq,<-hm i]
    exact⟨fun y=>y.elim id fun y=>y▸sk,.inl⟩,hb,hf,by rw [sk];exact hn,wt⟩
   rw [sk]at z
   exact z
 | none=>
   dsimp only
   have sk:S k=false:=by
    cases y:S k with
    | false=>rfl
    | true=>
      obtain⟨e,he,hp⟩:=(hm k).mp y
      have:=List.findIdx?_eq_none_iff.mp hi e he
      rw [hp]at this
      cases this
   have gw:∀(b:Bool) {s1:Shared}{R:Unit->Shared->Prop},R () s1->wpAny (model P w) A (match b with | true=>rule "set.scan.the-table-gave-way" | false=>pure ()) R E s1:=fun b s1 R y=>by cases b<;>first | exact wpAny_pure y | exact wpAny_rule y
   have W:=layNew_perm t es ((intKind P w).hash k) (.int k tk)
   have fi:=layNew_fits t es ((intKind P w).hash k) (.int k tk)
   have w1:=wt.layNew es ((intKind P w).hash k) (.int k tk)
   generalize PySem.layNew t es ((intKind P w).hash k) (.int k tk)=L at W fi w1 ⊢
   obtain⟨d,I,wd,aa⟩:=L
   dsimp only at W fi w1 ⊢
   rw [Array.toList_push]at W
   have a0:ElemsOf (intKind P w) d.toList:=(el.push G O).perm W
   have a1:∀i,(S i||decide (i=k))=true↔ ∃e∈d.toList,(intKind P w).is i e.2=true:=mem_push_iff G hm W
   have z1:d.size=n+1:=by rw [<-Array.length_toList,W.length_eq,length_append,Array.length_toList,hn];rfl
   have J:d.size<scanBound:=by rw [z1];exact hr
   have a2:∀h',Heap.SameBut a s.heap h'->S8 P w led h' a (fun i=>S i||decide (i=k)) d.size->Q true { s with heap:=h'}:=fun h' sb y=>by
    have z:=q h' sb
    rw [sk]at z
    rw [z1]at y
    exact z y
   refine wpAny_bind (gw _ ?_)
   have M:wpAny (model P w) A (do
    storeSet a d I
    if(!wd&&I.tooFull)=true then do
     (match(PySem.relayAll I d (SetTable.grown d.size)).2.2 with | true=>rule "set.scan.the-table-gave-way" | false=>pure ())
     storeSet a (PySem.relayAll I d (SetTable.grown d.size)).1 (PySem.relayAll I d (SetTable.grown d.size)).2.1
     pure (some true)
    else pure (some true)) (fun r s'=>r=some true/\Q true s') E s:=by
    refine wpAny_bind (wpAny_storeSet_of Y Z ?_ (fits_of_scanBound J))
    obtain⟨o1,a3,a7,a4,a8⟩:=Vv (P:=P) (w:=w) Y hx Z a0 a1 J fi w1
    have a5:=Heap.SameBut.update s.heap a (Obj.putSet d I)
    split
    . have F:=relayAll_perm I d (SetTable.grown d.size)
      have U:=relayAll_fits I d (SetTable.grown d.size)
      have w2:=w1.relayAll d (SetTable.grown d.size)
      generalize PySem.relayAll I d (SetTable.grown d.size)=L at F U w2 ⊢
      obtain⟨a9,t2,g2⟩:=L
      dsimp only at F U w2 ⊢
      have z2:a9.size=d.size:=by rw [<-Array.length_toList,F.length_eq,Array.length_toList]
      refine wpAny_bind (gw _ ?_)
      refine wpAny_bind (wpAny_storeSet_of a3 a4 ?_ (fits_of_scanBound (by rw [z2];exact J)))
      obtain⟨_,_,_,_,a6⟩:=Vv (P:=P) (w:=w) a3 a7 a4 (a0.perm F) (fun i=>(a1 i).trans ⟨fun⟨e,he,y⟩=>⟨e,F.mem_iff.mpr he,y⟩,fun⟨e,he,y⟩=>⟨e,F.mem_iff.mp he,y⟩⟩) (by rw [z2];exact J) U w2
      rw [z2]at a6
      exact wpAny_pure ⟨rfl,a2 _ (a5.trans (Heap.SameBut.update _ a _)) a6⟩
    . exact wpAny_pure ⟨rfl,a2 _ a5 a8⟩
   split
   . refine wpAny_bind ?_
     rw [hashByValue_scannable 8 O]
     refine wpAny_pure ?_
     simp only [plainKind,↓reduceIte]
     refine wpAny_mono M (fun r s' ⟨e,y⟩=> ?_) fun _ _ y=>y
     subst e
     exact wpAny_pure y
   . refine wpAny_bind (wpAny_pure ?_)
     simp only [↓reduceIte]
     refine wpAny_mono M (fun r s' ⟨e,y⟩=> ?_) fun _ _ y=>y
     subst e
     exact wpAny_pure y
abbrev byT (w:World):Bool:=w.params.followText "set-order"
abbrev Zf (led:Bool):Obj:={ cls:= .type "set",dict:=none,data:= .set #[] 0 (.fresh 0 0 led)}
theorem Aa8 (h:Heap) (led:Bool):S8 P w led (h.push (Zf led)) h.objs.size (fun _=>false) 0:=
 ⟨_,#[],0,_,Heap.get?_push_size _ rfl,⟨rfl,rfl,rfl⟩,rfl,fun e d=>by simp at d,fun k=>by simp,by decide,by cases led<;>decide,rfl,.fresh led⟩
theorem Aa7 (a:Value) {Q:Value->Shared->Prop} (q:Q (.ref s.heap.objs.size) { s with heap:=s.heap.push (Zf (!byT w))}):
 codeAny (model P w) A (.call (.builtin "set.__new__") ⟨[.type "set",a],[]⟩) (wants Q E) s:=by
 refine codeAny_of_tree ?_
 show wpAny _ A.in1 (checkBuiltinCall "set.__new__" ⟨[.type "set",a],[]⟩>>=fun _=>again (.builtin "set.__new__" ⟨[.type "set",a],[]⟩)) _ _ s
 refine wpAny_bind (wpAny_of_eq (F.newCall_set_1 a) (wpAny_pure ⟨plainId_quiet F.plain_set_new _,codeAny_builtin F.entry_set_new ?_⟩))
 rw [Around.under_plainId F.plain_set_new _]
 unfold Builtin.«set.__new__» Builtin.Frozenset.newClass
 have y:=sub_set_self
 obtain⟨G,g,d,tk,I⟩:=s
 dsimp only
 wp_walk
 refine wpAny_askSetting (wpAny_pure ?_)
 dsimp only
 simp only [newObj]
 exact wpAny_bind (wpAny_alloc (wpAny_pure (wpAny_pure q)))
theorem Ahv {R:Result->Shared->Prop}{I:Addr}{fp y:List Addr}{G:Array GenState->Array GenState->Prop}{n:Nat}{Pi:Nat->Value->Prop}{St:Nat->Shared->Prop} (W:WalksS P w A.in1 I fp y G n Pi St) (a:Addr) (ha:a∉fp) (val:Nat->Int) (hv:∀i v,Pi i v->∃t,v= .int (val i) t) (J:n+1<scanBound):
 ∀(k i:Nat) (s:Shared),n-i=k->i<=n->St i s->S8 P w led s.heap a (fun j=>(firstMet val i).any (· ==j)) (firstMet val i).length->
   (∀s',Moved (a::y) G s s'->S8 P w led s'.heap a (fun j=>(firstMet val n).any (· ==j)) (firstMet val n).length->R (.ok (.ret .none)) s')->
   codeAny (model P w) A (.builtin "set.update.loop" ⟨[.ref a,.ref I],[]⟩) R s:=by
 have aw:a∉y:=fun h=>ha (W.sub _ h)
 have sub:∀b∈y,b∈a::y:=fun b J=>mem_cons_of_mem _ J
 have mv:∀ {s s':Shared}{S:Int->Bool}{m:Nat},Moved y G s s'->S8 P w led s.heap a S m->S8 P w led s'.heap a S m:=fun d ⟨o,es,ep,t,ho,r⟩=>⟨o,es,ep,t,d.heap a _ aw ho,r⟩
 intro k
 induction k with
 | zero=>
   intro i s hk hi st O q
   obtain rfl:i=n:=by omega
   refine codeAny_builtin F.entry_set_update_loop ?_
   rw [Around.under_plainId F.plain_set_update_loop _]
   show wpAny _ A.in1 (pyNext (.ref I)>>=_) _ _ s
   refine wpAny_bind (W.done s _ _ st fun s' d=> ?_)
   show wpAny _ A.in1 (ret Value.none) _ _ s'
   exact wpAny_pure (q s' (d.mono sub) (mv d O))
 | succ k ih=>
   intro i s hk hi st O q
   have L:i<n:=by omega
   refine codeAny_builtin F.entry_set_update_loop ?_
   rw [Around.under_plainId F.plain_set_update_loop _]
   show wpAny _ A.in1 (pyNext (.ref I)>>=_) _ _ s
   refine wpAny_bind (W.item i s _ _ L st fun v s' hP U d=> ?_)
   obtain⟨t,rfl⟩:=hv i v hP
   have Y:=mv d O
   show wpAny _ A.in1 (holding [Value.int (val i) t] (setAdd a (.int (val i) t))>>=_) _ _ s'
   refine wpAny_bind (wpAny_holding ?_)
   unfold setAdd
   refine wpAny_holding (wpAny_bind ((intKind P w).pyHash (k:=val i) (intKind_is _ _ _ _) ?_))
   have M:(firstMet val i).length+1<scanBound:=by have:=firstMet_length_le val i;omega
   refine Agv (s:={ s' with toks:=s'.toks+1}) Y M fun h' sb s2=> ?_
   have s3:S8 P w led h' a (fun j=>(firstMet val (i+1)).any (· ==j)) (firstMet val (i+1)).length:=by
    have e1:(fun j=>(firstMet val i).any (· ==j)||decide (j=val i))=fun j=>(firstMet val (i+1)).any (· ==j):=funext fun j=>by rw [firstMet_succ,step_any]
    rw [e1]at s2
    rw [show(firstMet val (i+1)).length=if(firstMet val i).any (· ==val i)then(firstMet val i).length else(firstMet val i).length+1 by rw [firstMet_succ,step_length]]
    exact s2
   refine wpAny_pure ⟨plainId_quiet F.plain_set_update_loop _,ih (i+1) _ (by omega) L (W.frame _ s' _ _ U (le_succ _) fun b J o e=> ?_) s3 fun Z a0 a1=> ?_⟩
   . rw [sb.2 b fun z:b=a=>ha (z▸J)]
     exact e
   . refine q Z (Moved.trans W.gtrans ((d.mono sub).then_heap (le_succ _) fun b o J e=> ?_) a0) a1
     rw [sb.2 b fun z:b=a=>J (by rw [z];exact mem_cons_self)]
     exact e
theorem Ahi {l:Addr}{items:Array Value}{ns:List Int}{Q:Value->Shared->Prop} (hh:A.handled=none) (hl:s.heap.IsList l items) (hi:IntsAre items.toList ns) (hb:items.size+1<scanBound)
 (q:∀(h':Heap) (tk:Nat),S8 P w (!byT w) h' s.heap.objs.size (fun j=>(firstMet (fun i=>ns.getD i 0) items.size).any (· ==j)) (firstMet (fun i=>ns.getD i 0) items.size).length->
   (∀b o,b<s.heap.objs.size->s.heap.get? b=some o->h'.get? b=some o)->Q (.ref s.heap.objs.size) { s with heap:=h',toks:=tk}):
 wpAny (model P w) A (call (.type "set") [.ref l]) Q E s:=by
 obtain⟨c,tl,aa⟩:=F.called_set.mro
 have a2:=F.called_set.made
 have ac:=F.called_set.sub
 refine wpAny_call (codeAny_of_tree ?_)
 show wpAny _ _ (callAny (.type "set") _) _ _ _
 refine wpAny_pure ⟨Code.quiet_builtin _ (by decide+kernel),codeAny_builtin F.entry_type_call ?_⟩
 rw [Around.under_plain (weight_type_call_type "set" [.ref l] []) rfl]
 have h1:=F.called_set.notType
 have h2:=F.called_set.canCreate
 have ah:=F.typeCall_set_1 (.ref l)
 repeat (any_goals (first | assumption | wp_step))
 refine codeAny_mono (Aa7 (.ref l) (E:=E) (Q:=fun obj G=>obj= .ref s.heap.objs.size/\G={ s with heap:=s.heap.push (Zf (!byT w))}) ⟨rfl,rfl⟩) fun r G hr=> ?_
 cases r with
 | error e=>exact hr
 | ok fl=>
   cases fl with
   | ret obj=>
     obtain⟨rfl,rfl⟩:=hr
     have hS:(s.heap.push (Zf (!byT w))).get? s.heap.objs.size=some (Zf (!byT w)):=Heap.get?_push_size _ rfl
     have hT:Shared.TypeIs { s with heap:=s.heap.push (Zf (!byT w))} (.ref s.heap.objs.size) "set":=⟨_,hS,rfl⟩
     have ai:=F.called_set.init.lookup
     have aj:=F.called_set.init.bind (.ref s.heap.objs.size)
     repeat (any_goals (first | assumption | wp_step))
     refine codeAny_mono (codeAny_call_builtin (R:=wants (fun r I=>r= .none/\∃h' tk,I={ s with heap:=h',toks:=tk}/\S8 P w (!byT w) h' s.heap.objs.size (fun j=>(firstMet (fun i=>ns.getD i 0) items.size).any (· ==j)) (firstMet (fun i=>ns.getD i 0) items.size).length/\∀b o,b<s.heap.objs.size->s.heap.get? b=some o->h'.get? b=some o) E) F.called_set.init.plain F.entry_set_init (check_set_init_1 hT ?_)) fun M I d=> ?_
     . obtain⟨ol,O,U,nl,W⟩:=hl
       obtain⟨ad,J,a3,y⟩:=ol
       simp only at U W
       subst U
       subst W
       have Y:(s.heap.push (Zf (!byT w))).get? l=some { cls:= .type "list",dict:=J,data:= .seq items nl,slots:=y}:=Heap.get?_push_of_some _ O
       have ae:=F.sub_list_set
       have ag:=F.sub_list_frozenset
       have ak:(Value.type "list"==Value.type "dict")=false:=by decide
       have Z:(s.heap.push (Zf (!byT w))).IsList l items:=⟨_,Y,rfl,nl,rfl⟩
       unfold Builtin.«set.__init__» noKeywords Builtin.Frozenset.updateFrom
       generalize a4:pyIter=PI
       wp_walk
       subst a4
       refine wpAny_pyIter_list Z (wpAny_bind (wpAny_runValue ?_))
       have a0:l<s.heap.objs.size:=Heap.lt_size O
       have a5:A.in1.in1.in1.handled=none:=by simp [hh]
       have zs:(s.heap.push (Zf (!byT w))).objs.size=s.heap.objs.size+1:=Heap.size_push ..
       have a6:l≠(s.heap.push (Zf (!byT w))).objs.size:=by rw [zs];exact ne_of_lt (lt_succ_of_lt a0)
       have a7:s.heap.objs.size∉ [(s.heap.push (Zf (!byT w))).objs.size,l]:=by
        rw [zs]
        simp only [mem_cons,not_mem_nil,or_false,not_or]
        exact⟨ne_of_lt (lt_succ_self _),ne_of_gt a0⟩
       have a1:∀(i:Nat) (v:Value),items[i]? =some v->∃t,v= .int ((fun i=>ns.getD i 0) i) t:=fun i v hv=>IntsAre.int_at hi i v (by rw [Array.getElem?_toList];exact hv)
       refine Ahv (led:= !byT w) ((Walks.list a5 _ l a6 items).toS) s.heap.objs.size a7 (fun i=>ns.getD i 0) a1 hb (items.size-0) 0 _ (by omega) (zero_le _) ⟨⟨_,Heap.get?_push_size _ rfl,rfl,rfl⟩,Z.push _⟩ ?_ ?_
       . obtain⟨o,es,ep,t,ho,r⟩:=Aa8 (P:=P) (w:=w) s.heap (!byT w)
         exact⟨o,es,ep,t,Heap.get?_push_of_some _ ho,r⟩
       . intro s' hm sw
         obtain⟨h',g',d',a8,a9⟩:=s'
         obtain rfl:g'=s.gens:=hm.gens
         obtain rfl:d'=s.drawn:=hm.drawn
         obtain rfl:a9=s.os:=hm.os
         show wpAny _ _ _ _ _ _
         refine wpAny_pure ?_
         show wpAny _ _ (ret Value.none) _ _ _
         refine wpAny_pure ⟨rfl,h',a8,rfl,sw,fun b o hb e=> ?_⟩
         refine hm.heap b o ?_ (Heap.get?_push_of_some _ (Heap.get?_push_of_some _ e))
         rw [zs]
         simp only [mem_cons,not_mem_nil,or_false,not_or]
         exact⟨ne_of_lt hb,ne_of_lt (lt_succ_of_lt hb)⟩
     . cases M with
       | error e=>exact d
       | ok L=>
         cases L with
         | ret r=>
           obtain⟨rfl,h',tk,rfl,sw,kp⟩:=d
           repeat (any_goals (first | assumption | wp_step))
           exact q _ _ sw kp
         | _=>exact d.elim
   | _=>exact hr.elim
end
end L2
namespace L2
open PySem PySem.Spec PyProof.Rows PySem.W
theorem Ck:Slot "set_iterator" "__next__" "set_iterator.__next__":=
 .of (owner:="set_iterator") (n:="__next__") (by rw [typeLookup_type,builtinLookup_eq_fast];kernel_rfl) (by decide+kernel) (by decide+kernel) (by decide+kernel)
  (by first | exact .inl (by decide+kernel) | exact .inr (by decide+kernel)) (by rw [isSubtype_type];kernel_rfl)
theorem Ky:Slot "set_iterator" "__iter__" "set_iterator.__iter__":=
 .of (owner:="set_iterator") (n:="__iter__") (by rw [typeLookup_type,builtinLookup_eq_fast];kernel_rfl) (by decide+kernel) (by decide+kernel) (by decide+kernel)
  (by first | exact .inl (by decide+kernel) | exact .inr (by decide+kernel)) (by rw [isSubtype_type];kernel_rfl)
theorem Fp:entryFor table "set_iterator.__next__"=some Builtin.«set_iterator.__next__» :=entryFor_of_tree (by kernel_rfl)
theorem Pj:entryFor table "set_iterator.__iter__"=some Builtin.«dict_keyiterator.__iter__» :=
 entryFor_alias (id':="dict_keyiterator.__iter__") (by kernel_rfl) rfl (by decide+kernel) (by kernel_rfl)
theorem Nz:entryFor table "set.__iter__"=some Builtin.«frozenset.__iter__» :=
 entryFor_alias (id':="frozenset.__iter__") (by kernel_rfl) rfl (by decide+kernel) (by kernel_rfl)
theorem Vl:Manifest.owners.lookup (String.ofList "set_iterator".toList.reverse.reverse)=some Manifest.sig_set_iterator:=by kernel_rfl
theorem Gg (a:Value):argsOk "set_iterator.__next__" ⟨[a],[]⟩:=by
 unfold argsOk;rw [signature?_of (id:="set_iterator.__next__") (n:="__next__".toList.reverse) (o:="set_iterator".toList.reverse) (by kernel_rfl) Vl];kernel_rfl
theorem Qz (a:Value):argsOk "set_iterator.__iter__" ⟨[a],[]⟩:=by
 unfold argsOk;rw [signature?_of (id:="set_iterator.__iter__") (n:="__iter__".toList.reverse) (o:="set_iterator".toList.reverse) (by kernel_rfl) Vl];kernel_rfl
theorem Kd {α:Type}:∀ {l:List α}{i:Nat} (h:i<l.length),(l[i]::l.eraseIdx i).Perm l
 | a::l,0,h=> .refl _
 | a::l,i+1,h=>((Perm.swap ..).trans ((Kd (Nat.lt_of_succ_lt_succ h)).cons a))
theorem Y4 {α:Type} (next:Nat->Nat):∀(n k:Nat) (left:List α) (out:Array α),left.length=n->((pickOrder.go next n k left out).toList).Perm (out.toList++left)
 | 0,_,left,out,h=>by
   rw [List.length_eq_zero_iff.mp h,append_nil]
   exact .refl _
 | n+1,k,left,out,h=>by
   unfold pickOrder.go
   have d:next k%left.length<left.length:=mod_lt _ (by omega)
   rw [getElem?_eq_getElem d]
   dsimp only
   refine(Y4 next n (k+1) _ _ (by rw [List.length_eraseIdx_of_lt d];omega)).trans ?_
   rw [Array.toList_push,append_assoc]
   exact Perm.append_left _ (Kd d)
theorem Rt {α:Type} (next:Nat->Nat) (xs:Array α):((pickOrder next xs).toList).Perm xs.toList:=by
 have:=Y4 next xs.size 0 xs.toList #[] (Array.length_toList)
 unfold pickOrder
 simpa using this
section
variable {P:Program}{w:World}{A:Around}{E:Value->Shared->Prop}
theorem wp_choose {q:Source}{n:Nat}{Q:Nat->Shared->Prop}{s:Shared} (y:n≠0) (h:∀(i:Nat),i<n->∀d,Q i { s with drawn:=d}):wpAny (model P w) A (choose q n) Q E s:=
 fun _ _ _=>⟨y,h _ (mod_lt _ (Nat.pos_of_ne_zero y)) _⟩
theorem X4 {α:Type}:∀(n:Nat) (xs:List α) {Q:List α->Shared->Prop}{s:Shared},xs.length=n->(∀ys d,ys.Perm xs->Q ys { s with drawn:=d})->wpAny (model P w) A (drawOrder n xs) Q E s
 | 0,xs,Q,s,h,q=>by
   unfold drawOrder
   exact wpAny_pure (q [] s.drawn (by rw [List.length_eq_zero_iff.mp h]))
 | n+1,[],Q,s,h,q=>by simp at h
 | n+1,x::xs,Q,s,h,q=>by
   unfold drawOrder
   refine wpAny_bind (wp_choose (by simp) fun i hi d=> ?_)
   rw [getElem?_eq_getElem hi]
   dsimp only
   refine wpAny_bind (X4 n _ (by rw [List.length_eraseIdx_of_lt hi];omega) fun ys y F=>wpAny_pure ?_)
   exact q _ y ((F.cons _).trans (Kd hi))
structure Lies (h:Heap) (a:Addr) (es:Array (Int × Value)) (ep:Nat) (t:SetTable):Prop where
 obj:∃o,h.get? a=some o/\o.cls= .type "set"/\o.data= .set es ep t
 fit:t.fits es.size=true
structure SIt (h:Heap) (it:Addr) (first:Value) (i:Nat) (a:Addr) (n ep:Nat):Prop where
 obj:∃o,h.get? it=some o/\o.cls= .type "set_iterator"/\o.data= .fields #[first,.int i 0,.ref a,.int n 0,.int ep 0]
theorem SIt.typeIs {s:Shared}{d:Addr}{first:Value}{i:Nat}{a:Addr}{n ep:Nat} (x:SIt s.heap d first i a n ep):s.TypeIs (.ref d) "set_iterator":=let ⟨o,ho,hc,_⟩:=x.obj;⟨o,ho,hc⟩
variable {s:Shared}{a:Addr}{es:Array (Int × Value)}{ep:Nat}{t:SetTable}
theorem Fb {Q:(Array (Int × Value) × Nat × SetTable)->Shared->Prop} (L:Lies s.heap a es ep t) (h:Q (es,ep,t) s):wpAny (model P w) A (setState a) Q E s:=
 let ⟨_,ho,_,hd⟩:=L.obj
 wpAny_setState_of ho hd L.fit h
theorem Rg {d i:Nat}{Q:Option (Value × Nat)->Shared->Prop} (L:Lies s.heap a es ep t) (y:byT w=true) (h:Q (((pickOrder (w.params.setOrder a ep) es)[i]?).map fun e=>(e.2,d)) s):
 wpAny (model P w) A (setNext a d i ep) Q E s:=by
 have q:∀ {R:Bool->Shared->Prop},R true s->wpAny (model P w) A setsByText R E s:=fun r=>wpAny_bind (wpAny_askSetting (wpAny_pure (show _ by have e:(model P w).w.params.followText "set-order"=true:=y;rw [e];exact r)))
 unfold setNext
 refine wpAny_bind (Fb L ?_)
 dsimp only
 refine wpAny_bind (q ?_)
 simp only [↓reduceIte,bne_self_eq_false,false_eq_true]
 refine wpAny_bind ?_
 unfold setWalk
 refine wpAny_bind (Fb L ?_)
 dsimp only
 refine wpAny_bind (q ?_)
 simp only [↓reduceIte]
 exact wpAny_bind (wpAny_askSetting (wpAny_pure (wpAny_pure h)))
theorem Vj {d i:Nat}{Q:Option (Value × Nat)->Shared->Prop} (L:Lies s.heap a es ep t) (q:byT w=false) (y:(!t.plain&&decide (es.size>1))=false) (F:t.led=true)
 (h:Q (match es[SetTable.below t.place d]?,t.place[SetTable.below t.place d]? with | some (_,x),some j=>some (x,j+1) | _,_=>none) s):
 wpAny (model P w) A (setNext a d i ep) Q E s:=by
 have G:∀ {R:Bool->Shared->Prop},R false s->wpAny (model P w) A setsByText R E s:=fun r=>wpAny_bind (wpAny_askSetting (wpAny_pure (show _ by have e:(model P w).w.params.followText "set-order"=false:=q;rw [e];exact r)))
 unfold setNext
 refine wpAny_bind (Fb L ?_)
 dsimp only
 refine wpAny_bind (G ?_)
 simp only [↓reduceIte,false_eq_true]
 refine wpAny_ite_split (fun z=>absurd (y▸(show(!t.plain&&decide (es.size>1))=true from z)) (by decide)) (fun _=> ?_)
 refine wpAny_bind (show wpAny _ _ (if(!t.led&& !es.isEmpty)=true then _ else _) _ _ _ from ?_)
 rw [F]
 exact wpAny_pure (wpAny_pure h)
theorem Zh {y:Addr}{d i n next:Nat}{x:Value}{Q:Option Value->Shared->Prop} (I:SIt s.heap y (.int d 0) i a n ep) (L:Lies s.heap a es ep t) (M:es.size=n)
 (nx:∀(A:Around) (E:Value->Shared->Prop) {R:Option (Value × Nat)->Shared->Prop},R (some (x,next)) s->wpAny (model P w) A (setNext a d i ep) R E s)
 (q:∀h',SIt h' y (.int next 0) (i+1) a n ep->Heap.SameBut y s.heap h'->Q (some x) { s with heap:=h'}):
 wpAny (model P w) A (pyNext (.ref y)) Q E s:=by
 obtain⟨o,G,O,F⟩:=I.obj
 unfold pyNext
 refine wpAny_bind (wpAny_attempt (wpAny_callSpecial?_slot (name:=Str.ofString "__next__") I.typeIs Ck (wpAny_call_entry Ck I.typeIs Fp ?_ (Gg _))))
 unfold Builtin.«set_iterator.__next__»
 refine wpAny_bind (wpAny_pure ?_)
 refine wpAny_bind (wpAny_fieldsOf G F ?_)
 dsimp only
 unfold setEntries
 refine wpAny_bind (wpAny_bind (Fb L (wpAny_pure ?_)))
 dsimp only
 rw [M]
 simp only [bne_self_eq_false,false_eq_true,↓reduceIte,toNat_natCast]
 refine wpAny_bind (nx _ _ ?_)
 dsimp only
 refine wpAny_bind (wpAny_setField G F (by simp) ?_)
 have h1:=Heap.get?_update_self (h:=s.heap) (Obj.mapFields (·.setIfInBounds 0 (rawInt (next:Int)))) G (Obj.isFreed_of_fields (Obj.data_mapFields F _))
 have J:=Obj.data_mapFields F (·.setIfInBounds 0 (rawInt (next:Int)))
 refine wpAny_bind (wpAny_setField h1 J (by simp) ?_)
 have h2:=Heap.get?_update_self (Obj.mapFields (·.setIfInBounds 1 (rawInt ((i:Int)+1)))) h1 (Obj.isFreed_of_fields (Obj.data_mapFields J _))
 exact wpAny_pure ⟨_,rfl,wpAny_pure (q _ ⟨_,h2,(Obj.cls_mapFields ..).trans ((Obj.cls_mapFields ..).trans O),by rw [Obj.data_mapFields J];simp [rawInt]⟩ ((Heap.SameBut.update ..).trans (Heap.SameBut.update ..)))⟩
theorem Zj {h:Heap}{Q:Option Value->Shared->Prop} (y:A.handled=none) (q:∀h',(∀b o,h.get? b=some o->h'.get? b=some o)->Q none { s with heap:=h'}):
 wpAny (model P w) A.in1 (do raiseNew (<-newExc (.type "StopIteration") [])) (fun(d:Fin) s'=>∃v,d=Fin.done (Flow.ret v)/\wpAny (model P w) A (pure (some v)) Q E s')
  (fun e s'=>wpAny (model P w) A (do if<-isInstance e (.type "StopIteration")then pure none else throw e) Q E s') { s with heap:=h}:=by
 refine wpAny_bind ?_
 simp only [newExc,newTuple]
 refine wpAny_bind (wpAny_newObj_type ?_ (by size_fits))
 refine wpAny_bind (m:=firstArgMember _ _) (wpAny_of_eq (a:=Value.none) (by first | rfl | (simp only [firstArgMember];rfl)) ?_)
 refine wpAny_newObj_type ?_ (by size_fits)
 simp only [raiseNew]
 refine wpAny_bind (wpAny_handled ?_)
 rw [show A.in1.handled=none from y]
 refine wpAny_bind (wpAny_pure (wpAny_throw ?_))
 refine wpAny_bind (wpAny_isInstance (T:="StopIteration") (b:=true) ⟨_,Heap.get?_push_size _ rfl,rfl⟩ isSubtype_stop ?_)
 exact wpAny_pure (q _ fun b o e=>Heap.get?_push_of_some _ (Heap.get?_push_of_some _ e))
theorem Ab8 {y:Addr}{d i n:Nat}{Q:Option Value->Shared->Prop} (J:A.handled=none) (I:SIt s.heap y (.int d 0) i a n ep) (L:Lies s.heap a es ep t) (M:es.size=n)
 (nx:∀(A:Around) (E:Value->Shared->Prop) {R:Option (Value × Nat)->Shared->Prop},R none s->wpAny (model P w) A (setNext a d i ep) R E s)
 (q:∀h',(∀b o,b≠y->s.heap.get? b=some o->h'.get? b=some o)->Q none { s with heap:=h'}):
 wpAny (model P w) A (pyNext (.ref y)) Q E s:=by
 obtain⟨o,F,U,G⟩:=I.obj
 unfold pyNext
 refine wpAny_bind (wpAny_attempt (wpAny_callSpecial?_slot (name:=Str.ofString "__next__") I.typeIs Ck (wpAny_call_entry Ck I.typeIs Fp ?_ (Gg _))))
 unfold Builtin.«set_iterator.__next__»
 refine wpAny_bind (wpAny_pure ?_)
 refine wpAny_bind (wpAny_fieldsOf F G ?_)
 dsimp only
 unfold setEntries
 refine wpAny_bind (wpAny_bind (Fb L (wpAny_pure ?_)))
 dsimp only
 rw [M]
 simp only [bne_self_eq_false,false_eq_true,↓reduceIte,toNat_natCast]
 refine wpAny_bind (nx _ _ ?_)
 dsimp only
 refine wpAny_bind (wpAny_setField F G (by simp) ?_)
 refine Zj J fun h' k=>q h' fun b o O e=>k b o ?_
 rw [Heap.get?_update_other _ _ (Ne.symm O)]
 exact e
structure Tup (h:Heap) (tp:Addr) (ps:List Nat):Prop where
 obj:∃o k,h.get? tp=some o/\o.data= .seq (ps.map fun(i:Nat)=>rawInt i).toArray k
theorem Acm {d tp:Addr}{i n p:Nat}{ps:List Nat}{x:Int × Value}{Q:Option Value->Shared->Prop} (I:SIt s.heap d (.ref tp) i a n ep) (L:Lies s.heap a es ep t) (T:Tup s.heap tp ps) (M:es.size=n) (O:ps[i]? =some p) (U:es[p]? =some x)
 (q:∀h',SIt h' d (.ref tp) (i+1) a n ep->Heap.SameBut d s.heap h'->Q (some x.2) { s with heap:=h'}):
 wpAny (model P w) A (pyNext (.ref d)) Q E s:=by
 obtain⟨o,F,W,y⟩:=I.obj
 obtain⟨Z,k,G,J⟩:=T.obj
 unfold pyNext
 refine wpAny_bind (wpAny_attempt (wpAny_callSpecial?_slot (name:=Str.ofString "__next__") I.typeIs Ck (wpAny_call_entry Ck I.typeIs Fp ?_ (Gg _))))
 unfold Builtin.«set_iterator.__next__»
 refine wpAny_bind (wpAny_pure ?_)
 refine wpAny_bind (wpAny_fieldsOf F y ?_)
 dsimp only
 unfold setEntries
 refine wpAny_bind (wpAny_bind (Fb L (wpAny_pure ?_)))
 dsimp only
 rw [M]
 simp only [bne_self_eq_false,false_eq_true,↓reduceIte,toNat_natCast]
 refine wpAny_bind (wpAny_seqItems G J ?_)
 dsimp only
 have Y:((ps.map fun(i:Nat)=>rawInt i).toArray)[i]? =some (.int (p:Int) 0):=by
  rw [getElem?_toArray,getElem?_map,O]
  rfl
 rw [Y]
 dsimp only
 refine wpAny_bind ?_
 unfold setNextDrawn
 refine wpAny_bind (Fb L ?_)
 simp only [toNat_natCast,bne_self_eq_false,false_eq_true,↓reduceIte,U]
 refine wpAny_pure ?_
 refine wpAny_bind (wpAny_setField F y (by simp) ?_)
 have h2:=Heap.get?_update_self (Obj.mapFields (·.setIfInBounds 1 (rawInt ((i:Int)+1)))) F (Obj.isFreed_of_fields (Obj.data_mapFields y _))
 exact wpAny_pure ⟨_,rfl,wpAny_pure (q _ ⟨_,h2,(Obj.cls_mapFields ..).trans W,by rw [Obj.data_mapFields y];simp [rawInt]⟩ (Heap.SameBut.update ..))⟩
theorem Ael {y tp:Addr}{i n:Nat}{ps:List Nat}{Q:Option Value->Shared->Prop} (O:A.handled=none) (I:SIt s.heap y (.ref tp) i a n ep) (L:Lies s.heap a es ep t) (T:Tup s.heap tp ps) (U:es.size=n) (W:ps[i]? =none)
 (q:∀h',(∀b o,b≠y->s.heap.get? b=some o->h'.get? b=some o)->Q none { s with heap:=h'}):
 wpAny (model P w) A (pyNext (.ref y)) Q E s:=by
 obtain⟨o,F,hc,d⟩:=I.obj
 obtain⟨ot,k,G,J⟩:=T.obj
 unfold pyNext
 refine wpAny_bind (wpAny_attempt (wpAny_callSpecial?_slot (name:=Str.ofString "__next__") I.typeIs Ck (wpAny_call_entry Ck I.typeIs Fp ?_ (Gg _))))
 unfold Builtin.«set_iterator.__next__»
 refine wpAny_bind (wpAny_pure ?_)
 refine wpAny_bind (wpAny_fieldsOf F d ?_)
 dsimp only
 unfold setEntries
 refine wpAny_bind (wpAny_bind (Fb L (wpAny_pure ?_)))
 dsimp only
 rw [U]
 simp only [bne_self_eq_false,false_eq_true,↓reduceIte,toNat_natCast]
 refine wpAny_bind (wpAny_seqItems G J ?_)
 dsimp only
 have Y:((ps.map fun(i:Nat)=>rawInt i).toArray)[i]? =none:=by
  rw [getElem?_toArray,getElem?_map,W]
  rfl
 rw [Y]
 dsimp only
 refine wpAny_bind (wpAny_setField F d (by simp) ?_)
 have h1:=Heap.get?_update_self (h:=s.heap) (Obj.mapFields (·.setIfInBounds 0 (rawInt (0:Int)))) F (Obj.isFreed_of_fields (Obj.data_mapFields d _))
 have Z:=Obj.data_mapFields d (·.setIfInBounds 0 (rawInt (0:Int)))
 refine wpAny_bind (wpAny_setField h1 Z (by simp) ?_)
 refine Zj O fun h' k=>q h' fun b o M e=>k b o ?_
 rw [Heap.get?_update_other _ _ (Ne.symm M),Heap.get?_update_other _ _ (Ne.symm M)]
 exact e
theorem Ur {d:Addr}{first:Value}{i n:Nat}{Q:Value->Shared->Prop} (I:SIt s.heap d first i a n ep) (h:Q (.ref d) s):wpAny (model P w) A (pyIter (.ref d)) Q E s:=by
 refine wpAny_pyIter_slot I.typeIs Ky (wpAny_call_entry Ky I.typeIs Pj ?_ (Qz _))
 show wpAny _ _ (ret (.ref d)) _ _ s
 exact wpAny_pure ⟨_,rfl,"set_iterator",_,I.typeIs,Ck.lookup,h⟩
theorem Lies.keep {h h':Heap} (L:Lies h a es ep t) (k:∀o,h.get? a=some o->h'.get? a=some o):Lies h' a es ep t:=⟨let ⟨o,ho,r⟩:=L.obj;⟨o,k _ ho,r⟩,L.fit⟩
theorem SIt.keep {h h':Heap}{d:Addr}{first:Value}{i n:Nat} (I:SIt h d first i a n ep) (k:∀o,h.get? d=some o->h'.get? d=some o):SIt h' d first i a n ep:=⟨let ⟨o,ho,r⟩:=I.obj;⟨o,k _ ho,r⟩⟩
theorem Tup.keep {h h':Heap}{tp:Addr}{ps:List Nat} (T:Tup h tp ps) (k:∀o,h.get? tp=some o->h'.get? tp=some o):Tup h' tp ps:=⟨let ⟨o,n,ho,r⟩:=T.obj;⟨o,n,k _ ho,r⟩⟩
theorem Adu {l:List (Int × Value)}{i:Nat} (h:i<l.length):∃x:Int × Value,l[i]? =some x/\(l.map (·.2))[i]? =some x.2:=
 ⟨l[i],getElem?_eq_getElem h,by rw [getElem?_map,getElem?_eq_getElem h];rfl⟩
theorem Zw (M:A.handled=none) (I:Addr) (y:a≠I) (F:byT w=true) {l:List (Int × Value)} (G:pickOrder (w.params.setOrder a ep) es=l.toArray) (Y:l.length=es.size):
 Walks P w A I [I,a] [I] l.length (fun i v=>(l.map (·.2))[i]? =some v) (fun i h=>SIt h I (.int (0:Nat) 0) i a es.size ep/\Lies h a es ep t) where
 sub:=fun b d=>by simp at d;simp [d]
 frame:=fun _ _ _ st J=>⟨st.1.keep fun o e=>J I (by simp) o e,st.2.keep fun o e=>J a (by simp) o e⟩
 item:=fun i s Q E hi st q=>by
  obtain⟨x,O,U⟩:=Adu (l:=l) hi
  refine Zh (x:=x.2) (next:=0) st.1 st.2 rfl (fun A E R r=>Rg st.2 F ?_) fun h' W L=> ?_
  . rw [G,getElem?_toArray,O]
    exact r
  . exact q x.2 h' s.toks U ⟨W,st.2.keep fun o e=>(L.2 a y).trans e⟩ fun b o d e=>(L.2 b fun z=>d (by simp [z])).trans e
 done:=fun s Q E st q=>Ab8 M st.1 st.2 rfl (fun A E R r=>Rg st.2 F (by rw [G,getElem?_toArray,getElem?_eq_none (le_refl _)];exact r)) fun h' k=>q h' s.toks fun b o d e=>k b o (fun z=>d (by simp [z])) e
 self:=fun _ _ _ _ st q=>Ur st.1 q
def Vx (ps:Array Nat):Nat->Nat
 | 0=>0
 | i+1=>ps.getD i 0+1
theorem Oc {ps:Array Nat} (r:Ris ps):∀ {i:Nat},i<=ps.size->SetTable.below ps (Vx ps i)=i
 | 0,_=>Tj r
 | i+1,h=>by
   have e:ps.getD i 0=ps[i]:=by rw [Array.getD_eq_getD_getElem?,Array.getElem?_eq_getElem h];rfl
   show SetTable.below ps (ps.getD i 0+1)=i+1
   rw [e]
   exact V6 r h
theorem Abg (W:A.handled=none) (I:Addr) (F:a≠I) (G:byT w=false) (J:(!t.plain&&decide (es.size>1))=false) (L:t.led=true) (M:Ris t.place) (hz:t.place.size=es.size):
 Walks P w A I [I,a] [I] es.toList.length (fun i v=>(es.toList.map (·.2))[i]? =some v) (fun i h=>SIt h I (.int (Vx t.place i) 0) i a es.size ep/\Lies h a es ep t) where
 sub:=fun b q=>by simp at q;simp [q]
 frame:=fun _ _ _ st O=>⟨st.1.keep fun o e=>O I (by simp) o e,st.2.keep fun o e=>O a (by simp) o e⟩
 item:=fun i s Q E hi st y=>by
  obtain⟨x,Y,Z⟩:=Adu (l:=es.toList) hi
  have d:i<t.place.size:=by rw [hz];simpa using hi
  refine Zh (x:=x.2) (next:=Vx t.place (i+1)) st.1 st.2 rfl (fun A E R r=>Vj st.2 G J L ?_) fun h' I' U=> ?_
  . rw [Oc M (le_of_lt d),<-Array.getElem?_toList,Y,Array.getElem?_eq_getElem d]
    dsimp only
    have e:Vx t.place (i+1)=t.place[i]+1:=by
     show t.place.getD i 0+1=_
     rw [Array.getD_eq_getD_getElem?,Array.getElem?_eq_getElem d];rfl
    rw [<-e]
    exact r
  . exact y x.2 h' s.toks Z ⟨I',st.2.keep fun o e=>(U.2 a F).trans e⟩ fun b o q e=>(U.2 b fun z=>q (by simp [z])).trans e
 done:=fun s Q E st y=>Ab8 W st.1 st.2 rfl (fun A E R r=>Vj st.2 G J L (by
  have z:es.toList.length=es.size:=Array.length_toList
  rw [z,Oc M (by rw [hz];exact le_refl _),Array.getElem?_eq_none (le_refl _)]
  exact r)) fun h' k=>y h' s.toks fun b o q e=>k b o (fun z=>q (by simp [z])) e
 self:=fun _ _ _ _ st y=>Ur st.1 y
theorem W8 (O:A.handled=none) (I tp:Addr) (F:a≠I) (G:tp≠I) {ps:List Nat}{l:List (Int × Value)} (M:l.length=ps.length) (U:∀i p:Nat,ps[i]? =some p->es[p]? =l[i]?):
 Walks P w A I [I,a,tp] [I] l.length (fun i v=>(l.map (·.2))[i]? =some v) (fun i h=>SIt h I (.ref tp) i a es.size ep/\Lies h a es ep t/\Tup h tp ps) where
 sub:=fun b d=>by simp at d;simp [d]
 frame:=fun _ _ _ st J=>⟨st.1.keep fun o e=>J I (by simp) o e,st.2.1.keep fun o e=>J a (by simp) o e,st.2.2.keep fun o e=>J tp (by simp) o e⟩
 item:=fun i s Q E hi st q=>by
  obtain⟨x,W,Y⟩:=Adu (l:=l) hi
  have y:i<ps.length:=by rw [<-M];exact hi
  refine Acm (x:=x) st.1 st.2.1 st.2.2 rfl (getElem?_eq_getElem y) (by rw [U i _ (getElem?_eq_getElem y),W]) fun h' Z L=> ?_
  exact q x.2 h' s.toks Y ⟨Z,st.2.1.keep fun o e=>(L.2 a F).trans e,st.2.2.keep fun o e=>(L.2 tp G).trans e⟩ fun b o d e=>(L.2 b fun z=>d (by simp [z])).trans e
 done:=fun s Q E st q=>Ael O st.1 st.2.1 st.2.2 rfl (by rw [M];exact getElem?_eq_none (le_refl _)) fun h' k=>q h' s.toks fun b o d e=>k b o (fun z=>d (by simp [z])) e
 self:=fun _ _ _ _ st q=>Ur st.1 q
theorem Aa6 {Q:Value->Shared->Prop} (L:Lies s.heap a es ep t) (wt:WT (!byT w) t) (hz:es.size<=sizeLine)
 (q:∀(h':Heap) (d':Drawn) (I:Addr) (fp:List Addr) (St:Nat->Heap->Prop) (l:List (Int × Value)),s.heap.objs.size<=I->(∀b∈fp,b=a\/s.heap.objs.size<=b)->(∀b o,s.heap.get? b=some o->h'.get? b=some o)->l.Perm es.toList->(∀A:Around,A.handled=none->Walks P w A I fp [I] l.length (fun i v=>(l.map (·.2))[i]? =some v) St)->St 0 h'->Q (.ref I) { s with heap:=h',drawn:=d'}):
 wpAny (model P w) A (pyIter (.ref a)) Q E s:=by
 obtain⟨o,W,hc,hd⟩:=L.obj
 have hT:s.TypeIs (.ref a) "set":=⟨o,W,hc⟩
 have Y:a<s.heap.objs.size:=Heap.lt_size W
 have zp:t.place.size=es.size:=by
  have:=L.fit
  simp only [SetTable.fits,and_eq_true,beq_iff_eq]at this
  exact this.1
 refine wpAny_pyIter_slot hT F.slot_set_iter (wpAny_call_entry F.slot_set_iter hT Nz ?_ (F.args_set_iter_1 _))
 unfold Builtin.«frozenset.__iter__»
 refine wpAny_bind (wpAny_bind (wpAny_pure (wpAny_pure ?_)))
 refine wpAny_bind ?_
 unfold Builtin.Frozenset.sizeOf setEntries
 refine wpAny_bind (wpAny_bind (Fb L (wpAny_pure (wpAny_pure ?_))))
 dsimp only
 refine wpAny_bind ?_
 unfold setDrawn
 refine wpAny_bind (Fb L ?_)
 dsimp only
 refine wpAny_bind (wpAny_bind (wpAny_askSetting (wpAny_pure ?_)))
 refine wpAny_pure ?_
 have G:∀ {s':Shared}{R:Nat->Shared->Prop}{A E},Lies s'.heap a es ep t->R ep s'->wpAny (model P w) A (setEpoch a) R E s':=fun L r=>let ⟨_,W,_,hd⟩:=L.obj;wpAny_setEpoch_of W hd L.fit r
 refine wpAny_ite_split (fun z=> ?_) (fun z=> ?_)
 . refine wpAny_bind (X4 es.size _ length_range fun ps d y=> ?_)
   have Z:ps.length=es.size:=by rw [y.length_eq,length_range]
   refine wpAny_bind (wpAny_newTuple ?_ (by rw [length_map,Z];exact hz))
   have J:Lies (s.heap.push { cls:= .type "tuple",data:= .seq (ps.map fun(i:Nat)=>rawInt i).toArray}) a es ep t:=L.keep fun o e=>Heap.get?_push_of_some _ e
   refine wpAny_bind (G J ?_)
   refine wpAny_bind (m:=newFields _ _) (wpAny_newObj_type ?_ (by size_fits))
   refine wpAny_pure ⟨_,rfl,"set_iterator",_,⟨_,Heap.get?_push_size _ rfl,rfl⟩,Ck.lookup,?_⟩
   have mm:(List.range es.size).map (fun p=>es.getD p (0,.none))=es.toList:=by
    refine ext_getElem (by simp) fun i h1 h2=> ?_
    have hi:i<es.size:=by simpa using h1
    rw [getElem_map,getElem_range,Array.getElem_toList,Array.getD_eq_getD_getElem?,Array.getElem?_eq_getElem hi]
    rfl
   have zs:(s.heap.push { cls:= .type "tuple",data:= .seq (ps.map fun(i:Nat)=>rawInt i).toArray}).objs.size=s.heap.objs.size+1:=Heap.size_push ..
   refine q _ d _ [_,a,s.heap.objs.size] _ (ps.map fun p=>es.getD p (0,.none)) (by rw [zs];exact le_succ _) (fun b M=> ?_) (fun b o e=>Heap.get?_push_of_some _ (Heap.get?_push_of_some _ e)) (mm▸y.map _) (fun A O=>W8 (es:=es) (ep:=ep) (t:=t) (ps:=ps) O _ s.heap.objs.size (by rw [zs];exact ne_of_lt (lt_succ_of_lt Y)) (by rw [zs];exact ne_of_lt (lt_succ_self _)) (by simp) fun i p e=> ?_) ⟨⟨_,Heap.get?_push_size _ rfl,rfl,rfl⟩,J.keep fun o e=>Heap.get?_push_of_some _ e,⟨_,_,Heap.get?_push_of_some _ (Heap.get?_push_size _ rfl),rfl⟩⟩
   . simp only [mem_cons,not_mem_nil,or_false]at M
     rcases M with rfl | rfl | rfl
     . exact .inr (by rw [zs];exact le_succ _)
     . exact .inl rfl
     . exact .inr (le_refl _)
   . have hm:p<es.size:=mem_range.mp (y.mem_iff.mp (List.mem_of_getElem? e))
     rw [getElem?_map,e,Array.getElem?_eq_getElem hm]
     show _=some (es.getD p (0,.none))
     rw [Array.getD_eq_getD_getElem?,Array.getElem?_eq_getElem hm]
     rfl
 . refine wpAny_bind (wpAny_pure ?_)
   refine wpAny_bind (G L ?_)
   refine wpAny_bind (m:=newFields _ _) (wpAny_newObj_type ?_ (by size_fits))
   refine wpAny_pure ⟨_,rfl,"set_iterator",_,⟨_,Heap.get?_push_size _ rfl,rfl⟩,Ck.lookup,?_⟩
   have U:∀b∈ [s.heap.objs.size,a],b=a\/s.heap.objs.size<=b:=fun b M=>by
    simp only [mem_cons,not_mem_nil,or_false]at M
    rcases M with rfl | rfl
    . exact .inr (le_refl _)
    . exact .inl rfl
   have J:∀o',Lies (s.heap.push o') a es ep t:=fun o'=>L.keep fun o e=>Heap.get?_push_of_some _ e
   cases ht:byT w with
   | true=>
     refine q _ s.drawn _ _ _ (pickOrder (w.params.setOrder a ep) es).toList (le_refl _) U (fun b o e=>Heap.get?_push_of_some _ e) (Rt _ _) (fun A O=>Zw (es:=es) (ep:=ep) (t:=t) O _ (ne_of_lt Y) ht (by simp) ?_) ⟨⟨_,Heap.get?_push_size _ rfl,rfl,rfl⟩,J _⟩
     rw [(Rt _ _).length_eq,Array.length_toList]
   | false=>
     have nd:(!t.plain&&decide (es.size>1))=false:=by
      have z':¬((!byT w&&(!t.plain&&decide (es.size>1)))=true):=z
      rw [ht]at z'
      simpa using z'
     have hr:Ris t.place:=by
      cases y:t.plain with
      | true=>exact wt.ris y
      | false=>
        rw [y]at nd
        have:¬es.size>1:=by simpa using nd
        have l1:t.place.toList.length<=1:=by rw [Array.length_toList,zp];omega
        unfold Ris
        match t.place.toList,l1 with
        | [],_=>exact .nil
        | [x],_=>exact List.pairwise_singleton _ _
     exact q _ s.drawn _ _ _ es.toList (le_refl _) U (fun b o e=>Heap.get?_push_of_some _ e) (.refl _) (fun A O=>Abg (ep:=ep) O _ (ne_of_lt Y) ht nd (by rw [wt.led,ht];rfl) hr zp) ⟨⟨_,Heap.get?_push_size _ rfl,rfl,rfl⟩,J _⟩
theorem Aak {r:Addr}{Q:Bool->Shared->Prop} (y:s.TypeIs (.ref r) "set") (h:Q false s):wpAny (model P w) A (Builtin.List.listLengthHint (.ref r)) Q E s:=by
 unfold Builtin.List.listLengthHint
 refine wpAny_bind (wpAny_specialOf y PySem.F.slot_set_len.lookup ?_)
 generalize q:("set.__len__":String)=G
 wp_delta
 rw [show splitId G=some ("set","__len__")from by subst q;decide+kernel]
 subst q
 refine wpAny_bind (wpAny_isInstance (T:="set") (b:=true) y (by rw [isSubtype_type];kernel_rfl) ?_)
 refine wpAny_ite_split (fun d=>absurd d (by decide)) (fun _=> ?_)
 refine wpAny_ite_split (fun _=> ?_) (fun d=>absurd (by decide+kernel) d)
 refine wpAny_bind (wpAny_typeOf y ?_)
 exact wpAny_pure h
theorem W4 {R:Result->Shared->Prop} (hh:A.handled=none) (L:Lies s.heap a es ep t) (wt:WT (!byT w) t) (hz:es.size<=sizeLine) (S:Addr) (a0:S≠a) (res:Value) (O:Nat) (hS:s.heap.get? S=some { cls:= .type "list",data:= .seq #[] O})
 (hR:∀h' tk d' q Z (l:List (Int × Value)),l.Perm es.toList->(∀b o,b≠S->s.heap.get? b=some o->h'.get? b=some o)->h'.get? S=some { cls:= .type "list",dict:=none,data:= .seq q Z,slots:= #[]}->ItemsOf (fun i v=>(l.map (·.2))[i]? =some v) q l.length->R (.ok (.ret res)) { s with heap:=h',toks:=tk,drawn:=d'}):
 wpAny (model P w) A.in1 (Builtin.List.listExtendWith (.ref S) (.ref a) res)
  (fun a6 s'=>match a6 with | .done f=>R (.ok f) s' | .again Z=>Z.quiet=true/\codeAny (model P w) A Z R s') (fun e s'=>R (.error e) s') s:=by
 obtain⟨o,ho,hc,hd⟩:=L.obj
 have hT:s.TypeIs (.ref a) "set":=⟨o,ho,hc⟩
 have a1:=Heap.lt_size hS
 unfold Builtin.List.listExtendWith
 refine wpAny_bind (wpAny_typeOf hT ?_)
 have h1:Builtin.List.listSameRef (.ref S) (.ref a)=false:=by simp [Builtin.List.listSameRef,a0]
 have h2:(Value.type "set"==Value.type "list")=false:=by decide
 have h3:(Value.type "set"==Value.type "tuple")=false:=by decide
 simp only [h1,h2,h3,Bool.or_false,false_eq_true,if_false]
 refine wpAny_bind (Aa6 L wt hz fun h' d' I fp St l hI a7 kp pm W st=> ?_)
 have aa:S≠I:=ne_of_lt (lt_of_lt_of_le a1 hI)
 have a2:S∉fp:=fun z=>(a7 S z).elim a0 fun y=>absurd a1 (not_lt.mpr y)
 have hn:l.length<=sizeLine:=by rw [pm.length_eq,Array.length_toList];exact hz
 have a3:∀(h:Heap) (G tk:Nat),St 0 h->(∀b o,b≠S->s.heap.get? b=some o->h.get? b=some o)->
  h.get? S=some { cls:= .type "list",data:= .seq #[] G}->codeAny (model P w) A (.builtin "list.extend.loop" ⟨[.ref S,.ref I,res],[]⟩) R { s with heap:=h,toks:=tk,drawn:=d'}:=by
  intro h G tk a8 hk d
  refine codeAny_extend_loopS (W A.in1 hh).toS hn S a2 res l.length 0 _ #[] G rfl (zero_le _) a8 d (ItemsOf.nil _) fun s' q Z hm a9 a4=> ?_
  rw [Moved.eq_with hm]
  refine hR s'.heap s'.toks d' q Z l pm (fun b o U e=>hm.heap b o (fun J=> ?_) (hk b o U e)) a9 a4
  rcases mem_cons.mp J with e' | J
  . exact U e'
  . exact absurd (Heap.lt_size e) (by rw [mem_singleton.mp J];exact not_lt.mpr hI)
 refine wpAny_bind (wpAny_holding (Aak ⟨o,kp _ _ ho,hc⟩ ?_))
 refine wpAny_ite_split (fun _=> ?_) (fun _=>wpAny_pure ⟨plainId_quiet PySem.F.plain_extend_loop _,a3 _ O _ st (fun b o _ e=>kp b o e) (kp _ _ hS)⟩)
 have d:=kp _ _ hS
 refine wpAny_bind (wpAny_rule ?_)
 refine wpAny_bind ?_
 show wpAny _ _ (updateSeq S (·.push .none)>>=fun _=>updateSeq S (·.pop)) _ _ _
 refine wpAny_bind (wpAny_updateSeq d rfl ?_)
 have M:=Heap.get?_update_self (Obj.mapSeq (·.push Value.none)) d rfl
 refine wpAny_updateSeq (hz:=by seq_fits) M rfl ?_
 have Y:=Heap.get?_update_self (Obj.mapSeq (·.pop)) M rfl
 refine wpAny_pure ⟨plainId_quiet PySem.F.plain_extend_loop _,a3 _ _ _ ?_ (fun b o U e=> ?_) Y⟩
 . refine(W A.in1 hh).frame 0 _ _ st fun b U o e=> ?_
   have a5:b≠S:=fun h=>a2 (h▸U)
   exact(Heap.get?_update_other _ _ (Ne.symm a5)).trans ((Heap.get?_update_other _ _ (Ne.symm a5)).trans e)
 . exact(Heap.get?_update_other _ _ (Ne.symm U)).trans ((Heap.get?_update_other _ _ (Ne.symm U)).trans (kp _ _ e))
theorem Uo {R:List Value->Shared->Prop} (hh:A.handled=none) (L:Lies s.heap a es ep t) (wt:WT (!byT w) t) (hz:es.size<=sizeLine)
 (h:∀(h':Heap) (tk:Nat) (d':Drawn) (Y:List Value),(∀b o,s.heap.get? b=some o->h'.get? b=some o)->Y.Perm (es.toList.map (·.2))->R Y { s with heap:=h',toks:=tk,drawn:=d'}):
 wpAny (model P w) A (collect (.ref a)) R E s:=by
 obtain⟨o,ho,hc,hd⟩:=L.obj
 have al:=Heap.lt_size ho
 unfold collect
 refine wpAny_bind (wpAny_runValue (codeAny_builtin entry_proto_collect' ?_))
 rw [Around.under_plainId PySem.F.plain_proto_collect _]
 show wpAny _ A.in1 (newList []>>=fun l=>again (.builtin "list.__iadd__" ⟨[l,.ref a],[]⟩)) _ _ s
 refine wpAny_bind (wpAny_newObj_type ?_)
 refine wpAny_pure ⟨plainId_quiet PySem.F.plain_list_iadd _,codeAny_builtin entry_list_iadd' ?_⟩
 rw [Around.under_plainId PySem.F.plain_list_iadd _]
 have J:(s.heap.push { cls:= .type "list",data:= .seq ([]:List Value).toArray}).get? s.heap.objs.size=some { cls:= .type "list",data:= .seq #[]}:=Heap.get?_push_size _ rfl
 show wpAny _ A.in1 (Builtin.List.listExtendWith (.ref s.heap.objs.size) (.ref a) (.ref s.heap.objs.size)) _ _ _
 have U:=W4 (P:=P) (w:=w) (A:=A) (s:={ s with heap:=s.heap.push { cls:= .type "list",data:= .seq ([]:List Value).toArray}})
  (R:=fun(q:Result) (s':Shared)=>∃(h':Heap) (tk:Nat) (d':Drawn) (d:Array Value) (M:Nat),q= .ok (.ret (.ref s.heap.objs.size))/\s'={ s with heap:=h',toks:=tk,drawn:=d'}/\
    (∀b o,s.heap.get? b=some o->h'.get? b=some o)/\h'.get? s.heap.objs.size=some { cls:= .type "list",dict:=none,data:= .seq d M,slots:= #[]}/\d.toList.Perm (es.toList.map (·.2)))
  hh (L.keep fun o e=>Heap.get?_push_of_some _ e) wt hz s.heap.objs.size (ne_of_gt al) (.ref s.heap.objs.size) 0 J
  (fun h' tk d' d M l pm O I G=>⟨h',tk,d',d,M,rfl,rfl,fun b o e=>O b o (ne_of_lt (Heap.lt_size e)) (Heap.get?_push_of_some _ e),I,by
    have e1:d.toList=l.map (·.2):=by
     refine List.ext_getElem? fun i=> ?_
     rcases Nat.lt_or_ge i d.size with z | z
     . have:=G.2 i _ (Array.getElem?_eq_getElem z)
       rw [this,Array.getElem?_toList,Array.getElem?_eq_getElem z]
     . rw [getElem?_eq_none (by simpa using z),getElem?_eq_none (by rw [length_map,<-G.1];exact z)]
    rw [e1]
    exact pm.map _⟩)
 refine wpAny_mono U (fun W s' x=> ?_) fun e s' x=> ?_
 . cases W with
   | done f=>
     obtain⟨h',tk,d',d,M,e,rfl,O,I,G⟩:=x
     cases e
     show wpAny _ A (load s.heap.objs.size>>=_) _ _ _
     refine wpAny_bind (wpAny_load I ?_)
     exact wpAny_pure (h h' tk d' d.toList O G)
   | again Z=>
     refine⟨x.1,codeAny_mono x.2 fun q a0 y=> ?_⟩
     obtain⟨h',tk,d',d,M,rfl,rfl,O,I,G⟩:=y
     show wpAny _ A (load s.heap.objs.size>>=_) _ _ _
     refine wpAny_bind (wpAny_load I ?_)
     exact wpAny_pure (h h' tk d' d.toList O G)
 . obtain⟨h',tk,d',d,M,e,_⟩:=x
   cases e
end
end L2
namespace L2
open PySem PySem.Spec PySem.Calls PyProof.Rows PySem.W
def uq (ns:List Int):List Int:=ns.foldl step_dedup []
theorem Abo:∀(ns d:List Int) (k:Int),k∈ns.foldl step_dedup d↔k∈d\/k∈ns
 | [],d,k=>by simp
 | n::ns,d,k=>by
   rw [foldl_cons,Abo ns _ k]
   unfold step_dedup
   split
   . rename_i h
     have q:n∈d:=by simpa using h
     constructor
     . rintro(z | z)
       . exact .inl z
       . exact .inr (mem_cons_of_mem _ z)
     . rintro(z | z)
       . exact .inl z
       . rcases mem_cons.mp z with rfl | z
         . exact .inl q
         . exact .inr z
   . simp only [mem_append,mem_cons,not_mem_nil,or_false]
     exact or_assoc
theorem U3:∀(ns d:List Int),d.Nodup->(ns.foldl step_dedup d).Nodup
 | [],d,h=>h
 | n::ns,d,h=>by
   rw [foldl_cons]
   refine U3 ns _ ?_
   unfold step_dedup
   split
   . exact h
   . rename_i q
     have y:n∉d:=by simpa using q
     exact List.nodup_append.mpr ⟨h,by simp,fun a F b G z=>y (by
      have:b=n:=by simpa using G
      rw [<-this,<-z]
      exact F)⟩
theorem Afx {ns:List Int}{k:Int}:k∈uq ns↔k∈ns:=by
 unfold uq
 rw [Abo]
 simp
theorem V2 (ns:List Int):(uq ns).Nodup:=U3 ns [] .nil
theorem Abn:∀(ns d:List Int),(ns.foldl step_dedup d).length<=d.length+ns.length
 | [],d=>le_refl _
 | n::ns,d=>by
   rw [foldl_cons]
   refine le_trans (Abn ns _) ?_
   unfold step_dedup
   split
   . simp only [length_cons];omega
   . simp only [length_append,length_cons,length_nil];omega
theorem Afw (ns:List Int):(uq ns).length<=ns.length:=by
 have:=Abn ns []
 unfold uq
 simpa using this
theorem Ae2 (ns:List Int):firstMet (fun i=>ns.getD i 0) ns.length=uq ns:=by
 unfold firstMet uq
 have e:(List.range ns.length).map (fun i=>ns.getD i 0)=ns:=by
  refine ext_getElem (by simp) fun i h1 h2=> ?_
  rw [getElem_map,getElem_range,getD_eq_getElem?_getD,getElem?_eq_getElem h2]
  rfl
 rw [e]
theorem M5:∀ {d ms:List Int},d.Nodup->(∀k∈d,k∈ms)->ms.length=d.length->ms.Perm d
 | [],ms,_,_,h=>by
   rw [List.length_eq_zero_iff.mp h]
 | u::d,ms,n,k,h=>by
   have q:u∈ms:=k u (mem_cons_self)
   obtain⟨F,G⟩:=nodup_cons.mp n
   refine(List.perm_cons_erase q).trans ((M5 G (fun j y=> ?_) ?_).cons u)
   . exact(List.mem_erase_of_ne (show j≠u from fun z=>F (by rw [<-z];exact y))).mpr (k j (mem_cons_of_mem _ y))
   . rw [List.length_erase_of_mem q,h]
     rfl
theorem ints_of:∀(d:List Value),(∀v∈d,∃(k:Int) (t:Tok),v= .int k t)->∃ms:List Int,IntsAre d ms/\∀k t,Value.int k t∈d->k∈ms
 | [],_=>⟨[],.nil,fun _ _ h=>nomatch h⟩
 | v::d,h=>by
   obtain⟨k,t,rfl⟩:=h v mem_cons_self
   obtain⟨ms,h1,h2⟩:=ints_of d fun v q=>h v (mem_cons_of_mem _ q)
   refine⟨k::ms,.cons k t h1,fun j u y=> ?_⟩
   rcases mem_cons.mp y with z | z
   . cases z
     exact mem_cons_self
   . exact mem_cons_of_mem _ (h2 j u z)
def Aea (X:Cx) (p:Addr) (us:List Int):HO:= .ext fun h=>S8 X.prog X.w (!byT X.w) h p (fun j=>us.any (· ==j)) us.length
theorem Inv.dr {X:Cx}{pins:List (Addr × Obj)}{σ:List (Option V)}{H:Hp}{s:Shared} (I:Inv X pins σ H s) (d:Drawn):Inv X pins σ H { s with drawn:=d}:=
 ⟨I.ok,I.os,I.bare,I.base,I.loc,I.cell,I.free,I.freeC,I.pin,I.hok,I.len⟩
theorem Xn {X:Cx} (L:X.calm=true):Gq X (.type "set") (fun xs H Q=>∃a,∃ns:List Int,xs=[.ref a]/\SqL X.K H a (ns.map V.int)/\ns.length<1000/\∀p,H p=none->Q (.ref p) (upd H p (Aea X p (uq ns)))):=by
 intro pins s σ H xs Z Q I r h
 obtain⟨a,ns,rfl,M,hl,q⟩:=h
 obtain⟨u,rfl,O⟩:=vals1 r
 cases O
 obtain⟨d,G,U,hz⟩:=I.list M
 have J:=G.length
 rw [length_map]at J
 refine Ahi (I.ok.hd L) U.isList (ns:=ns) (Vf G) ?_ fun h' tk y W=> ?_
 . rw [size_toArray]
   show d.length+1<4096
   omega
 have Y:d.toArray.size=ns.length:=by rw [size_toArray,J]
 rw [Y,Ae2]at y
 have st:∀h1 h2:Heap,S8 X.prog X.w (!byT X.w) h1 s.heap.objs.size (fun j=>(uq ns).any (· ==j)) (uq ns).length->(∀o,h1.get? s.heap.objs.size=some o->h2.get? s.heap.objs.size=some o)->S8 X.prog X.w (!byT X.w) h2 s.heap.objs.size (fun j=>(uq ns).any (· ==j)) (uq ns).length:=
  fun h1 h2 ⟨o,es,ep,t,F,r⟩ k=>⟨o,es,ep,t,k o F,r⟩
 exact⟨.ref s.heap.objs.size,_,I.laid (a:=s.heap.objs.size) (o:=Aea X s.heap.objs.size (uq ns)) (t':=tk) (fun b o q=>W b o (Heap.lt_size q) q) (le_refl _) ⟨y,let ⟨o,_,_,_,F,_⟩:=y;⟨o,F⟩,st⟩,rfl,q _ (I.hok.fresh (le_refl _))⟩
theorem V9 {X:Cx} (hc:X.calm=true):Gq X (.builtin "sorted") (fun xs H Q=>∃(p:Addr) (d:List Int),xs=[.ref p]/\H p=some (Aea X p d)/\d.Nodup/\d.length<64/\∀(l:Addr) (ms:List Int),H l=none->ms.Perm d->ms.Pairwise (· <= ·)->Q (.ref l) (upd H l (.lst (ms.map V.int)))):=by
 intro pins s σ H xs a5 Q I r h
 obtain⟨p,d,rfl,hp,a0,U,q⟩:=h
 obtain⟨u,rfl,ru⟩:=vals1 r
 cases ru
 obtain⟨⟨o,es,ep,t,ho,hx,hd,el,hm,hb,hf,hn,wt⟩,_,_⟩:Fy X.prog X.w H s.heap p (Aea X p d):=I.hok p _ hp
 have hs:d.length<=sizeLine:=le_trans (le_of_lt U) (by decide)
 refine call_function_entry kind_sorted plain_sorted entry_sorted (args_sorted1 _) ?_
 unfold Builtin.«sorted»
 refine wpAny_bind (m:=checkCount "sorted" 1 1 _) (wpAny_pure ?_)
 refine wpAny_bind (Uo (I.ok.hd hc) ⟨⟨o,ho,hx.1,hd⟩,hf⟩ wt (by rw [hn];exact hs) fun h' tk d' O F G=> ?_)
 obtain⟨ks,hI,a4⟩:=ints_of O fun v hv=>by
  obtain⟨e,W,rfl⟩:=mem_map.mp (G.mem_iff.mp hv)
  obtain⟨⟨k,hk,_⟩,_⟩:=el e W
  obtain⟨t,ht⟩:=Value.isInt_shape (k:=k) (v:=e.2) hk
  exact⟨k,t,ht⟩
 have J:O.length=d.length:=by rw [G.length_eq,length_map,Array.length_toList,hn]
 have Y:ks.length=d.length:=by rw [<-J];exact hI.length.symm
 have pm:ks.Perm d:=M5 a0 (fun k hk=>by
  obtain⟨e,W,hi⟩:=(hm k).mp (by simpa using hk)
  obtain⟨t,ht⟩:=Value.isInt_shape (k:=k) (v:=e.2) hi
  exact a4 k t (G.mem_iff.mpr (mem_map.mpr ⟨e,W,ht⟩))) Y
 refine wpAny_bind (wpAny_newList ?_ (by rw [J];exact hs))
 have L:(h'.push (seqObj "list" O.toArray 0)).get? h'.objs.size=some (seqObj "list" O.toArray 0):=Heap.get?_push_size _ rfl
 refine wpAny_bind (wpAny_holding (wpAny_call_entry slot_list_sort ⟨_,L,rfl⟩ entry_list_sort (list_sort_tree L hI (by rw [J];exact U) fun y M a1 a2 a3=>⟨_,rfl,?_⟩) (args_list_sort _)))
 refine wpAny_pure ⟨_,rfl,?_⟩
 obtain⟨e,W⟩:=sortedHeap_at (out:=y) L
 have Z:M.length=d.length:=by rw [a2.length_eq,Y]
 have I1:Inv X pins σ H { s with heap:=h',toks:=tk,drawn:=d'}:=(I.dr d').kept F
 have kp:∀b o,h'.get? b=some o->(sortedHeap (h'.push (seqObj "list" O.toArray 0)) h'.objs.size O y).get? b=some o:=fun b o e1=>by
  have lt:b<h'.objs.size:=Heap.lt_size e1
  rw [sortedHeap_old (ne_of_lt lt) (by rw [size_push'];exact lt_succ_of_lt lt),Heap.get?_push_ne _ _ _ (ne_of_lt lt)]
  exact e1
 exact⟨.ref h'.objs.size,_,I1.laid (a:=h'.objs.size) (t':=tk) kp (le_refl _) (show Fy X.prog X.w _ _ _ (.lst (M.map V.int))from⟨by rw [length_map,Z];exact hs,y.toList,e,Oh a1,W⟩),rfl,q _ M (I1.hok.fresh (le_refl _)) (a2.trans pm) a3⟩
theorem Xo {X:Cx} (G:X.calm=true):Gq X (.builtin "sum") (fun xs H Q=>∃(a:Addr) (ns:List Int),xs=[.ref a]/\SqL X.K H a (ns.map V.int)/\Q (.int ns.sum) H):=by
 intro pins s σ H xs Z Q I r h
 obtain⟨a,ns,rfl,J,q⟩:=h
 obtain⟨u,rfl,L⟩:=vals1 r
 cases L
 obtain⟨d,M,O,hz⟩:=I.list J
 have hi:=O4 M
 have F:s.heap.IsList a d.toArray:=O.isList
 obtain⟨xs,U⟩:=hi.allInts.items
 have y:numsOf d.toArray.toList=ns:=by rw [show d.toArray.toList=d from rfl,hi.numsOf]
 rw [U]at F y
 rw [nums_intItems]at y
 refine sum_intListG (I.ok.hd G) F fun h' tk W Y=> ?_
 rw [preSum_eq,take_of_length_le (by simp),y]
 exact⟨.int _,H,I.kept (t':=tk) Y,⟨_,rfl⟩,q⟩
theorem Uy {X:Cx} (Y:X.calm=true):Gq X (.builtin "any") (fun xs H Q=>∃(a:Addr) (bs:List Bool),xs=[.ref a]/\SqL X.K H a (bs.map V.bl)/\Q (.bl (bs.any id)) H):=by
 intro pins s σ H xs us Q I r h
 obtain⟨a,bs,rfl,Z,q⟩:=h
 obtain⟨u,rfl,ru⟩:=vals1 r
 cases ru
 obtain⟨d,L,p,hz⟩:=I.list Z
 have F:s.heap.IsList a d.toArray:=p.isList
 have lt:a<s.heap.objs.size:=by
  obtain⟨_,e,_⟩:=F
  exact Heap.lt_size e
 have ln:d.length=bs.length:=by
  have:=L.length
  rw [length_map]at this
  exact this.symm
 refine call_any_walk (wpAny_pyIter_list F ?_)
 refine⟨s.heap.objs.size,[s.heap.objs.size,a],[s.heap.objs.size],d.toArray.size,_,_,fun i=>(bs[i]?).getD false,rfl,Walks.list (A:=X.A.in1) (I.ok.hd Y) _ a (ne_of_lt lt) d.toArray,
  ⟨⟨_,Heap.get?_push_size _ rfl,rfl,rfl⟩,F.push _⟩,fun i v s' Q' E' hP M=> ?_,fun g tk hk=> ?_⟩
 . have O:d[i]? =some v:=by simpa using hP
   have hi:i<d.length:=(List.getElem?_eq_some_iff.mp O).1
   have U:bs[i]? =some bs[i]:=getElem?_eq_getElem (by omega)
   obtain⟨w',W,G⟩:=L.get (show(bs.map V.bl)[i]? =some (V.bl bs[i])by rw [getElem?_map,U];rfl)
   rw [O]at W
   cases W
   cases G
   simp only [U,getD_some]at M
   exact wpAny_truthy_bool M
 . have e:((List.range d.toArray.size).any fun i=>(bs[i]?).getD false)=bs.any id:=by
    rw [size_toArray,ln,Bool.eq_iff_iff,List.any_eq_true,List.any_eq_true]
    constructor
    . rintro⟨i,hi,h⟩
      have y:=mem_range.mp hi
      rw [getElem?_eq_getElem y]at h
      exact⟨_,getElem_mem y,h⟩
    . rintro⟨x,hx,h⟩
      obtain⟨i,hi,ei⟩:=List.getElem_of_mem hx
      exact⟨i,mem_range.mpr hi,by rw [getElem?_eq_getElem hi,ei];exact h⟩
   rw [e]
   exact⟨.bl _,H,I.kept (t':=tk) fun b o J=>hk b o (fun hm=>by rw [mem_singleton.mp hm]at J;exact lt_irrefl _ (Heap.lt_size J)) (Heap.get?_push_of_some _ J),rfl,q⟩
end L2
namespace L2
open PySem L2
@[irreducible] def Bw (X:Cx) (e:Expr) (t:TE):Prop:=L2.PE X e t
@[irreducible] def Jm (X:Cx) (e:Expr) (t:TT):Prop:=L2.PT X e t
@[irreducible] def S9 (X:Cx) (e:Expr) (t:TT):Prop:=L2.PW X e t
@[irreducible] def Iu (X:Cx) (es:List Expr) (t:TA):Prop:=L2.PA X es t
@[irreducible] def J9 (X:Cx) (st:Stmt) (t:TS):Prop:=L2.PS X st t
@[irreducible] def Ht (X:Cx) (st:List Stmt) (t:TS):Prop:=L2.PSs X st t
@[irreducible] def K6 (X:Cx) (target:Expr) (t:TG):Prop:=L2.PG X target t
@[irreducible] def Qt (X:Cx) (ts:List Expr) (t:TGs):Prop:=L2.PGs X ts t
@[irreducible] def Ly (X:Cx) (tg iter:Expr) (wi:TI):Prop:=L2.PI X tg iter wi
@[irreducible] def Z7 (X:Cx) (e:Option Expr) (t:TO):Prop:=L2.PO X e t
@[irreducible] def Qu (X:Cx) (ifs:List Expr) (t:TT):Prop:=L2.PTs X ifs t
theorem Aeb {X:Cx}{b:List Stmt}{t:TS} (h:Ht X b t):L2.PSs X b t:=by unfold Ht at h;exact h
theorem Ac:∀ {X:Cx} (i:Nat) {x:Str}{pos:Pos},autoParam ((Cx.N X)[i]? =Option.some x) L2.pv._auto_1->autoParam (Vis (Env.scope (Cx.env X)) x) L2.pv._auto_2->autoParam ((x==("__debug__":Str))=Bool.false) L2.pv._auto_3->autoParam ((x==("__classdict__":Str))=Bool.false) L2.pv._auto_4->Bw X (Expr.Name x pos) (W5 i):=by with_unfolding_all exact @L2.pv
theorem Cm:∀ {X:Cx}{x:Str}{v:V}{u:Value}{pos:Pos},Gl X x->Cx.mg X x=Option.none->bootBuiltins x=Option.some u->RelV v u->autoParam (x≠("__name__":Str)) L2.Ua._auto_1->autoParam ((x==("__debug__":Str))=Bool.false) L2.Ua._auto_2->Bw X (Expr.Name x pos) (tC v):=by with_unfolding_all exact @L2.Ua
theorem Dj:∀ {X:Cx}{x:Str}{v:V}{u:Value}{pos:Pos},Gl X x->Cx.mg X x=Option.some u->RelV v u->autoParam ((x==("__debug__":Str))=Bool.false) L2.Ub._auto_1->Bw X (Expr.Name x pos) (tC v):=by with_unfolding_all exact @L2.Ub
theorem Ad:∀ {X:Cx}{i:Int}{j:Nat}{pos:Pos},Bw X (Expr.Constant (Const.int i) j pos) (tC (V.int i)):=by with_unfolding_all exact @L2.Ae8
theorem Bk:∀ {X:Cx}{b:Bool}{j:Nat}{pos:Pos},Bw X (Expr.Constant (Const.bool b) j pos) (tC (V.bl b)):=by with_unfolding_all exact @L2.Ag6
theorem Cy:∀ {X:Cx}{x:Str}{j:Nat}{pos:Pos},Bw X (Expr.Constant (Const.str x) j pos) (tC (V.str x)):=by with_unfolding_all exact @L2.Afc
theorem Ao:∀ {X:Cx}{a b:Expr}{ta tb:TE}{pos:Pos}{d:Operator}{r:R2},OpR X (binaryOp d) r->Bw X a ta->Bw X b tb->Bw X (Expr.BinOp a d b pos) (tOp r ta tb):=by with_unfolding_all exact @L2.Ag8
theorem Qv:∀ {X:Cx}{a:Expr}{ta:TE}{pos:Pos},Bw X a ta->Bw X (Expr.UnaryOp UnaryOp.Not a pos) (Ads ta):=by with_unfolding_all exact @L2.Afa
theorem O6:∀ {X:Cx}{a:Expr}{ta:TE}{pos:Pos}{d:UnaryOp}{r:V->Hp->VK->Prop},UnR X (unaryOp d) r->Bw X a ta->Bw X (Expr.UnaryOp d a pos) (tUn r ta):=by with_unfolding_all exact @L2.Aha
theorem Bx:∀ {X:Cx}{a b:Expr}{ta tb:TE}{pos:Pos}{d:CmpOp}{r:R2},OpR X (compareOp d) r->Bw X a ta->Bw X b tb->behindInMarks d b=Bool.false->Bw X (Expr.Compare a [d] [b] pos) (tOp r ta tb):=by with_unfolding_all exact @L2.Ac6
theorem Di:∀ {X:Cx}{a b:Expr}{ta tb:TE}{pos:Pos}{rest:List Expr},Bw X a ta->Bw X (Expr.BoolOp BoolOp.And (b::rest) pos) tb->Bw X (Expr.BoolOp BoolOp.And (a::b::rest) pos) (Ado ta tb):=by with_unfolding_all exact @L2.Ae7
theorem Z8:∀ {X:Cx}{a b:Expr}{ta tb:TE}{pos:Pos}{rest:List Expr},Bw X a ta->Bw X (Expr.BoolOp BoolOp.Or (b::rest) pos) tb->Bw X (Expr.BoolOp BoolOp.Or (a::b::rest) pos) (Ahr ta tb):=by with_unfolding_all exact @L2.Ag9
theorem Dn:∀ {X:Cx}{a:Expr}{pos:Pos}{d:BoolOp}{t:TE},Bw X a t->Bw X (Expr.BoolOp d [a] pos) t:=by with_unfolding_all exact @L2.Afb
theorem Je:∀ {X:Cx}{a b:Expr}{ta tb:TE}{pos:Pos}{tA:TT}{c:Expr},Jm X c tA->Bw X a ta->Bw X b tb->Bw X (Expr.IfExp c a b pos) (tIf tA ta tb):=by with_unfolding_all exact @L2.Aav
theorem Bq:∀ {X:Cx}{es:List Expr}{t:TA}{pos:Pos}{x1:Nat},Iu X es t->Bw X (Expr.Tuple es x1 pos) (Ahu t):=by with_unfolding_all exact @L2.Afd
theorem Bt:∀ {X:Cx}{es:List Expr}{t:TA}{pos:Pos},Iu X es t->Bw X (Expr.List es pos) (Ahp t):=by with_unfolding_all exact @L2.Ae9
theorem Dp:∀ {X:Cx}{e:Expr}{te:TE}{lo hi:Option Expr}{tl th:TO}{pos p2:Pos}{r:V->Option Int->Option Int->Hp->VK->Prop},SlR X r->Bw X e te->Z7 X lo tl->Z7 X hi th->Bw X (Expr.Subscript e (Expr.Slice lo hi Option.none p2) pos) (tSl r te tl th):=by with_unfolding_all exact @L2.Aaw
theorem Ej:∀ {X:Cx},Z7 X Option.none Ut:=by with_unfolding_all exact @L2.Ac8
theorem Ek:∀ {X:Cx}{e:Expr}{te:TE},Bw X e te->Z7 X (Option.some e) (Adt te):=by with_unfolding_all exact @L2.Ac9
theorem Al:∀ {X:Cx}{a b:Expr}{ta tb:TE}{pos:Pos}{r:R2},IxR X r->Bw X a ta->Bw X b tb->Xj b->Bw X (Expr.Subscript a b pos) (tOp r ta tb):=by with_unfolding_all exact @L2.Ag7
theorem Bf:∀ {X:Cx}{elt tg iter:Expr}{ifs:List Expr}{scope:Scope}{pos:Pos}{wi:TI}{g:TG}{tt:TT}{te:TE}{ts:List Str}{fs:List (Nat × Str)},Cx.calm X=Bool.true->Bb X ts fs scope->Ly X tg iter wi->(∀(ex:List Addr) (s:Shared) (H:Hp),K6 (cxC X (cpN ts fs) scope ex s H) tg g)->(∀(ex:List Addr) (s:Shared) (H:Hp),Qu (cxC X (cpN ts fs) scope ex s H) ifs tt)->(∀(ex:List Addr) (s:Shared) (H:Hp),Bw (cxC X (cpN ts fs) scope ex s H) elt te)->autoParam (∀(x:Value),foldedSetIterable iter (Cx.env X) x=Pure.pure x) L2.Yz._auto_1->Bw X (Expr.ListComp elt [{ target:=tg,iter:=iter,ifs:=ifs,is_async:=(0:Int)}] scope pos) (Qn (List.length ts) fs wi g tt te):=by with_unfolding_all exact @L2.Yz
theorem Tc:∀ {X:Cx}{elt tg iter:Expr}{ifs:List Expr}{scope:Scope}{pos:Pos}{wi:TI}{g:TG}{tt:TT}{te:TE}{ts:List Str}{fs:List (Nat × Str)},Cx.calm X=Bool.true->Jd X ts fs scope->Ly X tg iter wi->(∀(ex:List Addr) (s:Shared) (H:Hp),K6 (cxD X (cpN ts fs) scope ex s H) tg g)->(∀(ex:List Addr) (s:Shared) (H:Hp),Qu (cxD X (cpN ts fs) scope ex s H) ifs tt)->(∀(ex:List Addr) (s:Shared) (H:Hp),Bw (cxD X (cpN ts fs) scope ex s H) elt te)->autoParam (∀(x:Value),foldedSetIterable iter (Cx.env X) x=Pure.pure x) L2.Vm._auto_1->Bw X (Expr.ListComp elt [{ target:=tg,iter:=iter,ifs:=ifs,is_async:=(0:Int)}] scope pos) (Qn (List.length ts) fs wi g tt te):=by with_unfolding_all exact @L2.Vm
theorem Ar:∀ {X:Cx}{e:Expr}{es:List Expr}{t:TA}{x:Str}{p pos:Pos}{id:String}{r:List V->Hp->VK->Prop},Gq X (Value.builtin id) r->Gl X x->Cx.mg X x=Option.none->bootBuiltins x=Option.some (Value.builtin id)->Iu X (e::es) t->autoParam (El e=Bool.true) L2.Yx._auto_1->autoParam (List.all es El=Bool.true) L2.Yx._auto_2->autoParam (x≠("__name__":Str)) L2.Yx._auto_3->autoParam ((x==("__debug__":Str))=Bool.false) L2.Yx._auto_4->Bw X (Expr.Call (Expr.Name x p) (e::es) [] pos) (tCB r t):=by with_unfolding_all exact @L2.Yx
theorem Hu:∀ {X:Cx}{e:Expr}{es:List Expr}{t:TA}{x:Str}{p pos:Pos}{T:String}{r:List V->Hp->VK->Prop},Gq X (Value.type T) r->Gl X x->Cx.mg X x=Option.none->bootBuiltins x=Option.some (Value.type T)->Iu X (e::es) t->autoParam (El e=Bool.true) L2.Rq._auto_1->autoParam (List.all es El=Bool.true) L2.Rq._auto_2->autoParam (x≠("__name__":Str)) L2.Rq._auto_3->autoParam ((x==("__debug__":Str))=Bool.false) L2.Rq._auto_4->Bw X (Expr.Call (Expr.Name x p) (e::es) [] pos) (tCB r t):=by with_unfolding_all exact @L2.Rq
theorem Agl:∀ {X:Cx}{e:Expr}{es:List Expr}{t:TA}{x:Str}{p pos:Pos}{k:Nat}{ps:List Str}{sp:Sp},Cal (Cx.prog X) (Cx.w X) (Cx.K X) (Cx.mg X) (Cx.base X) k x ps sp->J8 k (Cx.A X)->Iu X (e::es) t->autoParam (El e=Bool.true) L2.Wy._auto_1->autoParam (List.all es El=Bool.true) L2.Wy._auto_2->autoParam (Gl X x) L2.Wy._auto_3->autoParam ((x==("__debug__":Str))=Bool.false) L2.Wy._auto_4->Bw X (Expr.Call (Expr.Name x p) (e::es) [] pos) (Lf sp [] E0 t):=by with_unfolding_all exact @L2.Wy
theorem Ai:∀ {X:Cx}{e:Expr}{es:List Expr}{t:TA}{x:Str}{p pos:Pos}{k:Nat}{ps:List Str}{sp:Sp}{n:Nat},Cal (Cx.prog X) (Cx.w X) (Cx.K X) (Cx.mg X) (Cx.base X) k x ps sp->J8 n (Cx.A X)->Iu X (e::es) t->autoParam (k<=n) L2.Wz._auto_1->autoParam (El e=Bool.true) L2.Wz._auto_2->autoParam (List.all es El=Bool.true) L2.Wz._auto_3->autoParam (Gl X x) L2.Wz._auto_4->autoParam ((x==("__debug__":Str))=Bool.false) L2.Wz._auto_5->Bw X (Expr.Call (Expr.Name x p) (e::es) [] pos) (Lf sp [] E0 t):=by with_unfolding_all exact @L2.Wz
theorem Lz:∀ {X:Cx}{x:Str}{v:V}{pos:Pos},Gl X x->(∃(u:Value),Cx.mg X x=Option.some u/\RelV v u)->autoParam ((x==("__debug__":Str))=Bool.false) L2.Vn._auto_1->Bw X (Expr.Name x pos) (tC v):=by with_unfolding_all exact @L2.Vn
theorem Fj:∀ {X:Cx}{o e:Expr}{es:List Expr}{to:TE}{t:TA}{name:Str}{apos cpos:Pos}{T id:String}{r:V->List V->Hp->VK->Prop},PlainAttrs T->Slot T name id->typeOf (Value.builtin id)=Pure.pure (Value.type "method_descriptor")->MtR X id r->Bw X o to->Iu X (e::es) t->autoParam (attributeBase o name (Cx.env X) (eval o (Cx.env X))=eval o (Cx.env X)) L2.Wx._auto_1->autoParam ((((List.all (backTo cpos (starEach (e::es) (Cx.env X))) fun(x:Bool × Sem Value) ↦ !Prod.fst x)&&List.all (backToKw cpos (keywordEach [] (Cx.env X))) fun(x:Option Str × Sem Value) ↦ Option.isSome (Prod.fst x))&&Decidable.decide ((List.length (e::es)+List.length ([]:List Keyword)+if List.isEmpty ([]:List Keyword)=Bool.true then(0:Nat)else(1:Nat))<(30:Nat)))=Bool.true) L2.Wx._auto_2->autoParam ((Pos.endLine apos==Pos.line cpos)=Bool.true) L2.Wx._auto_3->autoParam (starEach (e::es) (Cx.env X)=(Bool.false,eval e (Cx.env X))::starEach es (Cx.env X)) L2.Wx._auto_4->autoParam ((List.any (backTo cpos (starEach es (Cx.env X))) fun(x:Bool × Sem Value) ↦ Prod.fst x)=Bool.false) L2.Wx._auto_5->Bw X (Expr.Call (Expr.Attribute o name apos) (e::es) [] cpos) (tBM (Cx.K X) T r to t):=by with_unfolding_all exact @L2.Wx
theorem Hv:∀ {X:Cx}{a:Expr}{ta:TA}{el:List Expr}{x1:Nat}{tp p pos:Pos},Gl X (("enumerate":Str))->Cx.mg X (("enumerate":Str))=Option.none->Iu X [a] ta->autoParam (starEach [a] (Cx.env X)=[(Bool.false,eval a (Cx.env X))]) L2.Ab0._auto_1->Ly X (Expr.Tuple el x1 tp) (Expr.Call (Expr.Name (("enumerate":Str)) p) [a] [] pos) (Ag2 (Cx.K X) ta):=by with_unfolding_all exact @L2.Ab0
theorem Cr:∀ {X:Cx}{a b:Expr}{ta:TA}{el:List Expr}{x1:Nat}{tp p pos:Pos} (d q:Bool),Gl X (("zip":Str))->Cx.mg X (("zip":Str))=Option.none->Iu X [a,b] ta->autoParam (starEach [a,b] (Cx.env X)=[(Bool.false,eval a (Cx.env X)),(Bool.false,eval b (Cx.env X))]) L2.Ue._auto_1->autoParam (starEach [b] (Cx.env X)=[(Bool.false,eval b (Cx.env X))]) L2.Ue._auto_2->Ly X (Expr.Tuple el x1 tp) (Expr.Call (Expr.Name (("zip":Str)) p) [a,b] [] pos) (Acr d q (Cx.K X) ta):=by with_unfolding_all exact @L2.Ue
theorem Cj:∀ {X:Cx}{tg a:Expr}{ta:TA}{p pos:Pos},Gl X (("range":Str))->Cx.mg X (("range":Str))=Option.none->Iu X [a] ta->autoParam (starEach [a] (Cx.env X)=[(Bool.false,eval a (Cx.env X))]) L2.Rr._auto_1->Ly X tg (Expr.Call (Expr.Name (("range":Str)) p) [a] [] pos) (Acp ta):=by with_unfolding_all exact @L2.Rr
theorem Ku:∀ {X:Cx}{tg a b:Expr}{ta:TA}{p pos:Pos},Gl X (("range":Str))->Cx.mg X (("range":Str))=Option.none->Iu X [a,b] ta->autoParam (starEach [a,b] (Cx.env X)=[(Bool.false,eval a (Cx.env X)),(Bool.false,eval b (Cx.env X))]) L2.M6._auto_1->autoParam (starEach [b] (Cx.env X)=[(Bool.false,eval b (Cx.env X))]) L2.M6._auto_2->Ly X tg (Expr.Call (Expr.Name (("range":Str)) p) [a,b] [] pos) (Acq ta):=by with_unfolding_all exact @L2.M6
theorem Bj:∀ {X:Cx}{tg l:Expr}{tl:TE},Bw X l tl->Ly X tg l (Yb (Cx.K X) tl):=by with_unfolding_all exact @L2.Y0
theorem Qw:∀ {X:Cx}{tg l:Expr}{tl:TE},Bw X l tl->Ly X tg l (Ag3 (Cx.K X) tl):=by with_unfolding_all exact @L2.Afg
theorem Td:∀ {X:Cx}{tg:Expr} (K:W.Frag),Cx.K X=K->∀ {l:Expr}{tl:TE},Bw X l tl->Ly X tg l (Yb K tl):=by with_unfolding_all exact @L2.Aay
theorem Az:∀ {X:Cx},Qu X [] Gy:=by with_unfolding_all exact @L2.Ade
theorem Et:∀ {X:Cx}{c:Expr}{t:TT},Jm X c t->Qu X [c] t:=by with_unfolding_all exact @L2.Adf
theorem Aq:∀ {X:Cx}{a b:Expr}{ta tb:TE}{pos:Pos}{d:CmpOp}{r:R2},OpR X (compareOp d) r->Bw X a ta->Bw X b tb->behindInMarks d b=Bool.false->Jm X (Expr.Compare a [d] [b] pos) (Zq (tOp r ta tb)):=by with_unfolding_all exact @L2.Adc
theorem Te:∀ {X:Cx}{a b c:Expr}{ta tb tc:TE}{pos:Pos}{q d:CmpOp}{r y:R2},OpR X (compareOp q) r->OpR X (compareOp d) y->Bw X a ta->Bw X b tb->Bw X c tc->autoParam (lastMarks [q,d] [b,c]=Bool.false) L2.Vs._auto_1->Jm X (Expr.Compare a [q,d] [b,c] pos) (Zq (Zn r y ta tb tc)):=by with_unfolding_all exact @L2.Vs
theorem Bh:∀ {X:Cx}{a:Expr}{pos:Pos}{tA:TT},Jm X a tA->Jm X (Expr.UnaryOp UnaryOp.Not a pos) (Ahq tA):=by with_unfolding_all exact @L2.Afi
theorem Mf:∀ {X:Cx}{a b:Expr}{pos:Pos}{tA tB':TT}{rest:List Expr},Jm X a tA->S9 X (Expr.BoolOp BoolOp.And (b::rest) pos) tB'->S9 X (Expr.BoolOp BoolOp.And (a::b::rest) pos) (Ahm tA tB'):=by with_unfolding_all exact @L2.Afj
theorem Cg:∀ {X:Cx}{a b:Expr}{pos:Pos}{tA tB':TT}{rest:List Expr},Jm X a tA->S9 X (Expr.BoolOp BoolOp.Or (b::rest) pos) tB'->S9 X (Expr.BoolOp BoolOp.Or (a::b::rest) pos) (tOr tA tB'):=by with_unfolding_all exact @L2.Ahc
theorem Ka:∀ {X:Cx}{a:Expr}{pos:Pos}{tA:TT},Jm X a tA->S9 X (Expr.BoolOp BoolOp.And [a] pos) tA:=by with_unfolding_all exact @L2.Adg
theorem Ca:∀ {X:Cx}{a:Expr}{pos:Pos}{tA:TT},Jm X a tA->S9 X (Expr.BoolOp BoolOp.Or [a] pos) tA:=by with_unfolding_all exact @L2.Afk
theorem Ce:∀ {X:Cx}{e:Expr}{t:TT},S9 X e t->Jm X e t:=by with_unfolding_all exact @L2.PW.pt
theorem Bd:∀ {X:Cx}{e:Expr}{t:TE},Bw X e t->autoParam (∀(whole:Sem Value),isTrue e (Cx.env X) whole=do let v<-whole;standAt (Expr.pos e);holding [v] (truthy v)) L2.Ab3._auto_1->Jm X e (tB t):=by with_unfolding_all exact @L2.Ab3
theorem Ab:∀ {X:Cx},Iu X [] Aca:=by with_unfolding_all exact @L2.Ae6
theorem Aa:∀ {X:Cx}{e:Expr}{es:List Expr}{te:TE}{t:TA},Bw X e te->Iu X es t->autoParam (El e=Bool.true) L2.Aby._auto_1->Iu X (e::es) (Lg te t):=by with_unfolding_all exact @L2.Aby
theorem Av:∀ {X:Cx},Ht X [] Adq:=by with_unfolding_all exact @L2.Ada
theorem Af:∀ {X:Cx}{st:Stmt}{t:TS},J9 X st t->Ht X [st] t:=by with_unfolding_all exact @L2.Adb
theorem Ae:∀ {X:Cx}{st:Stmt}{rest:List Stmt}{t u:TS},J9 X st t->Ht X rest u->Ht X (st::rest) (Ago t u):=by with_unfolding_all exact @L2.Aa1
theorem Ad1:∀ {X:Cx}{pos:Pos}{i:Nat}{x:Str},Nodup (Cx.N X)->(Cx.N X)[i]? =Option.some x->Loc (Env.scope (Cx.env X)) x->∀(d:autoParam (Cx.fn X x=Bool.true\/lookup x (Scope.names (Env.scope (Cx.env X)))=Option.some NameKind.local) L2.Uc._auto_1),K6 X (Expr.Name x pos) (Ga i):=by with_unfolding_all exact @L2.Uc
theorem Ah:∀ {X:Cx}{pos:Pos}{x:Str} (i:Nat),Nodup (Cx.N X)->autoParam ((Cx.N X)[i]? =Option.some x) L2.Aax._auto_1->autoParam (Loc (Env.scope (Cx.env X)) x) L2.Aax._auto_2->autoParam (Cx.fn X x=Bool.true\/lookup x (Scope.names (Env.scope (Cx.env X)))=Option.some NameKind.local) L2.Aax._auto_3->K6 X (Expr.Name x pos) (Ga i):=by with_unfolding_all exact @L2.Aax
theorem Bm:∀ {X:Cx},Qt X [] Ad2:=by with_unfolding_all exact @L2.Ac7
theorem Am:∀ {X:Cx}{e:Expr}{es:List Expr}{t:TG}{u:TGs},K6 X e t->Qt X es u->autoParam (List.map (fun(x:Bool × (Value->Sem Unit)) ↦ Prod.snd x) (assignEach (e::es) (Cx.env X))=assign e (Cx.env X)::List.map (fun(x:Bool × (Value->Sem Unit)) ↦ Prod.snd x) (assignEach es (Cx.env X))) L2.Vp._auto_1->Qt X (e::es) (Ke t u):=by with_unfolding_all exact @L2.Vp
theorem Es:∀ {X:Cx}{es:List Expr}{k:Nat}{pos:Pos}{t:TGs} (K:W.Frag) (n:Nat),Cx.K X=K->Cx.calm X=Bool.true->Qt X es t->autoParam (List.length (assignEach es (Cx.env X))=n) L2.Ud._auto_1->autoParam (List.findIdx? (fun(x:Bool × (Value->Sem Unit)) ↦ Prod.fst x) (assignEach es (Cx.env X))=Option.none) L2.Ud._auto_2->K6 X (Expr.Tuple es k pos) (Abs K n t):=by with_unfolding_all exact @L2.Ud
theorem Ci:∀ {X:Cx}{pos:Pos}{es:List Expr}{k:Nat}{t:TGs}{n:Nat},Cx.calm X=Bool.true->Qt X es t->autoParam (List.length (assignEach es (Cx.env X))=n) L2.Vo._auto_1->autoParam (List.findIdx? (fun(x:Bool × (Value->Sem Unit)) ↦ Prod.fst x) (assignEach es (Cx.env X))=Option.none) L2.Vo._auto_2->K6 X (Expr.Tuple es k pos) (Abs (Cx.K X) n t):=by with_unfolding_all exact @L2.Vo
theorem Ed:∀ {X:Cx}{pos:Pos}{o i:Expr}{to d:TE}{t:Aed},Bw X o to->Bw X i d->Agt X t->autoParam (∀(v:Value),assign (Expr.Subscript o i pos) (Cx.env X) v=do let ov<-holding [v] (eval o (Cx.env X));let iv<-holding [v,ov] (eval i (Cx.env X));standAt pos;holding [v,ov,iv] (setItem ov iv v);release [v,ov,iv] []) L2.Abz._auto_1->K6 X (Expr.Subscript o i pos) (Ag0 to d t):=by with_unfolding_all exact @L2.Abz
theorem Dk:∀ {X:Cx}{elt tg iter:Expr}{ifs:List Expr}{scope:Scope}{pos:Pos}{wi:TI}{g:TG}{tt:TT}{te:TE}{ts:List Str}{fs:List (Nat × Str)}{g':TG}{y:Str}{q d:Pos},Cx.calm X=Bool.true->Bb X ts fs scope->Ly X tg iter wi->(∀(ex:List Addr) (s:Shared) (H:Hp),K6 (cxC X (cpN ts fs) scope ex s H) tg g)->(∀(ex:List Addr) (s:Shared) (H:Hp),Qu (cxC X (cpN ts fs) scope ex s H) ifs tt)->(∀(ex:List Addr) (s:Shared) (H:Hp),Bw (cxC X (cpN ts fs) scope ex s H) elt te)->K6 X (Expr.Name y q) g'->autoParam (swapsWith (Expr.ListComp elt [{ target:=tg,iter:=iter,ifs:=ifs,is_async:=(0:Int)}] scope pos) (Option.some (Expr.Name y q)) (Pos.line d) (Cx.env X)=Pure.pure Bool.true) L2.Ug._auto_1->autoParam (∀(x:Value),foldedSetIterable iter (Cx.env X) x=Pure.pure x) L2.Ug._auto_2->J9 X (Stmt.Assign [Expr.Name y q] (Expr.ListComp elt [{ target:=tg,iter:=iter,ifs:=ifs,is_async:=(0:Int)}] scope pos) d) (Abd (Qn (List.length ts) fs wi g tt te) g'):=by with_unfolding_all exact @L2.Ug
theorem Aec:∀ {X:Cx}{pos:Pos}{i:Nat}{x:Str}{e:Expr}{te:TE}{d:Pos},Nodup (Cx.N X)->(Cx.N X)[i]? =Option.some x->Loc (Env.scope (Cx.env X)) x->Bw X e te->autoParam (swapsWith e (Option.some (Expr.Name x d)) (Pos.line pos) (Cx.env X)=Pure.pure Bool.false) L2.Vr._auto_1->autoParam (Cx.fn X x=Bool.true\/lookup x (Scope.names (Env.scope (Cx.env X)))=Option.some NameKind.local) L2.Vr._auto_2->J9 X (Stmt.Assign [Expr.Name x d] e pos) (Abd te (Ga i)):=by with_unfolding_all exact @L2.Vr
theorem Bc:∀ {X:Cx}{e:Expr}{pos:Pos}{te:TE}{x:Str}{d:Pos} (i:Nat),Nodup (Cx.N X)->Bw X e te->autoParam ((Cx.N X)[i]? =Option.some x) L2.Y8._auto_1->autoParam (Loc (Env.scope (Cx.env X)) x) L2.Y8._auto_2->autoParam (swapsWith e (Option.some (Expr.Name x d)) (Pos.line pos) (Cx.env X)=Pure.pure Bool.false) L2.Y8._auto_3->autoParam (Cx.fn X x=Bool.true\/lookup x (Scope.names (Env.scope (Cx.env X)))=Option.some NameKind.local) L2.Y8._auto_4->J9 X (Stmt.Assign [Expr.Name x d] e pos) (Abd te (Ga i)):=by with_unfolding_all exact @L2.Y8
theorem Qx:∀ {X:Cx}{pos:Pos}{i j:Nat}{x y:Str}{a b:Expr}{ta:TA}{q F pt:Pos}{G k2:Nat}{d:Pos},Cx.calm X=Bool.true->Nodup (Cx.N X)->(Cx.N X)[i]? =Option.some x->(Cx.N X)[j]? =Option.some y->i≠j->lookup x (Scope.names (Env.scope (Cx.env X)))=Option.some NameKind.local->lookup y (Scope.names (Env.scope (Cx.env X)))=Option.some NameKind.local->Iu X [a,b] ta->swappedStores [Expr.Tuple [Expr.Name x q,Expr.Name y F] G pt] (Expr.Tuple [a,b] k2 d) (Cx.env X)=Pure.pure (Option.some [x,y])->autoParam (swapsWithSole [Expr.Tuple [Expr.Name x q,Expr.Name y F] G pt] (Expr.Tuple [a,b] k2 d) (Pos.line pos) (Cx.env X)=Pure.pure Bool.false) L2.Ab2._auto_1->J9 X (Stmt.Assign [Expr.Tuple [Expr.Name x q,Expr.Name y F] G pt] (Expr.Tuple [a,b] k2 d) pos) (Ahs i j ta):=by with_unfolding_all exact @L2.Ab2
theorem Cp:∀ {X:Cx}{pos:Pos}{tg e:Expr}{te:TE}{g:TG},Bw X e te->K6 X tg g->autoParam (swapsWithSole [tg] e (Pos.line pos) (Cx.env X)=Pure.pure Bool.false) L2.Vq._auto_1->autoParam (swappedStores [tg] e (Cx.env X)=Pure.pure Option.none) L2.Vq._auto_2->autoParam (List.map (fun(x:Bool × (Value->Sem Unit)) ↦ Prod.snd x) (assignEach [tg] (Cx.env X))=[assign tg (Cx.env X)]) L2.Vq._auto_3->J9 X (Stmt.Assign [tg] e pos) (Abd te g):=by with_unfolding_all exact @L2.Vq
theorem Aj:∀ {X:Cx}{e:Expr}{te:TE}{pos:Pos},Bw X e te->J9 X (Stmt.Return (Option.some e) pos) (Aht te):=by with_unfolding_all exact @L2.Afh
theorem Ay:∀ {X:Cx}{t u:TS}{pos:Pos}{c:Expr}{a b:List Stmt}{tc:TT},Jm X c tc->Ht X a t->Ht X b u->J9 X (Stmt.If c a b pos) (Aho tc t u):=by with_unfolding_all exact @L2.Ahb
theorem G6:∀ {P:Program}{w:World}{K:W.Frag}{mg:Str->Option Value}{base:Heap}{N:List Str}{qual:Str}{scope:Scope}{f:Addr}{cd:Value}{A:Around}{outer:List Env}{s0:Shared}{H0:Hp}{E:XK}{C:Addr}{x:Str}{d cpos pos:Pos}{e:Expr}{es:List Expr}{t:TA},Z5 K C->mg x=Option.some (Value.ref C)->Iu (Sw (CXE P w) P w K mg base N qual scope f cd A outer s0 H0 E) (e::es) t->autoParam (Gl (Sw (CXE P w) P w K mg base N qual scope f cd A outer s0 H0 E) x) L2.Jv._auto_1->autoParam ((x==("__debug__":Str))=Bool.false) L2.Jv._auto_2->autoParam (starEach (e::es) (PyProof.Rows.envOfC qual scope (Array.size (Heap.objs (Shared.heap s0))) f cd)=(Bool.false,eval e (PyProof.Rows.envOfC qual scope (Array.size (Heap.objs (Shared.heap s0))) f cd))::starEach es (PyProof.Rows.envOfC qual scope (Array.size (Heap.objs (Shared.heap s0))) f cd)) L2.Jv._auto_3->autoParam ((List.any (backTo cpos (starEach es (PyProof.Rows.envOfC qual scope (Array.size (Heap.objs (Shared.heap s0))) f cd))) fun(x:Bool × Sem Value) ↦ Prod.fst x)=Bool.false) L2.Jv._auto_4->J9 (Sw (CXE P w) P w K mg base N qual scope f cd A outer s0 H0 E) (Stmt.Raise (Option.some (Expr.Call (Expr.Name x d) (e::es) [] cpos)) Option.none pos) (Zo C E t):=by with_unfolding_all exact @L2.Jv
theorem Ma:∀ {X:Cx}{pos:Pos}{c:Expr}{d:List Stmt}{tc:TT}{tb:TS},PassesOwn (model (Cx.prog X) (Cx.w X)) (Cx.A X) (Cx.env X) (Cx.xe X)->Jm X c tc->Ht X d tb->J9 X (Stmt.While c d [] pos) (Zr tc tb):=by with_unfolding_all exact @L2.Aa0
theorem Bu:∀ {X:Cx}{tg iter:Expr}{d:List Stmt}{wi:TI}{g:TG}{tb:TS}{pos:Pos},PassesOwn (model (Cx.prog X) (Cx.w X)) (Cx.A X) (Cx.env X) (Cx.xe X)->Cx.calm X=Bool.true->Ly X tg iter wi->K6 X tg g->Ht X d tb->autoParam (∀(x:Value),foldedSetIterable iter (Cx.env X) x=Pure.pure x) L2.Ab1._auto_1->J9 X (Stmt.For tg iter d [] pos) (Ahn wi g tb):=by with_unfolding_all exact @L2.Ab1
theorem Dd:∀ {X:Cx}{e:Expr}{te:TE}{pos:Pos},Bw X e te->autoParam (swapsWith e Option.none (Pos.line pos) (Cx.env X)=Pure.pure Bool.false) L2.Y7._auto_1->J9 X (Stmt.Expr e pos) (Adp te):=by with_unfolding_all exact @L2.Y7
theorem Ax {X:Cx}{b:List Stmt}{d:TS->Prop} (h:∃t,Ht X b t/\d t):∃t,L2.PSs X b t/\d t:=by
 obtain⟨t,h1,h2⟩:=h
 exact⟨t,Aeb h1,h2⟩
end L2
namespace Z
section
variable {C:Type}
def La (r:C->Int) (f:List C->Int):List C->Int
 | []=>0
 | c::cs=>r c*f cs-La r (fun x=>f (c::x)) cs
def Dt:List (C->Int)->List C->Int
 | [],[]=>1
 | [],_::_=>0
 | r::rows,cs=>La r (Dt rows) cs
theorem Lx (r:C->Int):∀d,La r (fun _=>0) d=0
 | []=>rfl
 | c::d=>by rw [La,Lx r d];simp
theorem Xf (r:C->Int):∀(cs:List C) (f g:List C->Int),La r (fun x=>f x+g x) cs=La r f cs+La r g cs
 | [],f,g=>rfl
 | c::cs,f,g=>by
   rw [La,La,La,Xf r cs]
   grind
theorem Qs (r:C->Int) (k:Int):∀(cs:List C) (f:List C->Int),La r (fun x=>k*f x) cs=k*La r f cs
 | [],f=>by simp [La]
 | c::cs,f=>by
   rw [La,La,Qs r k cs]
   grind
theorem Abm (r:C->Int) (cs:List C) (f g:List C->Int):La r (fun x=>f x-g x) cs=La r f cs-La r g cs:=by
 have h1:=Xf r cs (fun x=>f x-g x) g
 have h2:(fun x=>f x-g x+g x)=f:=by funext x;omega
 rw [h2]at h1
 omega
theorem Xg (r s:C->Int):∀(cs:List C) (f:List C->Int),La (fun c=>r c+s c) f cs=La r f cs+La s f cs
 | [],f=>rfl
 | c::cs,f=>by
   rw [La,La,La,Xg r s cs]
   grind
theorem Xh (r:C->Int) (k:Int):∀(cs:List C) (f:List C->Int),La (fun c=>k*r c) f cs=k*La r f cs
 | [],f=>by simp [La]
 | c::cs,f=>by
   rw [La,La,Xh r k cs]
   grind
theorem Uw:∀(cs:List C) (f:List C->Int),La (fun _=>0) f cs=0
 | [],f=>rfl
 | c::cs,f=>by rw [La,Uw cs];simp
theorem Xi (r s:C->Int):∀(cs:List C) (f:List C->Int),La r (La s f) cs= -La s (La r f) cs
 | [],f=>rfl
 | c::cs,f=>by
   rw [La,La]
   have d:(fun x=>La s f (c::x))=fun x=>s c*f x-La s (fun y=>f (c::y)) x:=rfl
   have q:(fun x=>La r f (c::x))=fun x=>r c*f x-La r (fun y=>f (c::y)) x:=rfl
   rw [d,q,Abm,Abm,Qs,Qs,Xi r s cs]
   grind
theorem S6 (r s:C->Int) (rows:List (C->Int)) (cs:List C):Dt (r::s::rows) cs= -Dt (s::r::rows) cs:=Xi r s cs (Dt rows)
theorem Xe {b:C->Int}:∀ {d:List (C->Int)},b∈d->∀q,Dt (b::d) q=0
 | x::xs,h,q=>by
   rcases mem_cons.mp h with rfl | h
   . have:=S6 b b xs q
     omega
   . rw [S6]
     show-La x (Dt (b::xs)) q=0
     have e:Dt (b::xs)=fun _=>0:=by funext y;exact Xe h y
     rw [e,Lx]
     rfl
theorem S5 {rows:List (C->Int)} (h:∀cs,Dt rows cs=0):∀(d:List (C->Int)) (cs:List C),Dt (d++rows) cs=0
 | [],cs=>h cs
 | p::d,cs=>by
   show La p (Dt (d++rows)) cs=0
   have e:Dt (d++rows)=fun _=>0:=by funext y;exact S5 h d y
   rw [e,Lx]
theorem Xc (r s:C->Int) (d:List (C->Int)):∀(q:List (C->Int)) (cs:List C),Dt (q++(fun c=>r c+s c)::d) cs=Dt (q++r::d) cs+Dt (q++s::d) cs
 | [],cs=>Xg r s cs _
 | p::q,cs=>by
   show La p (Dt (q++(fun c=>r c+s c)::d)) cs=La p (Dt (q++r::d)) cs+La p (Dt (q++s::d)) cs
   rw [<-Xf]
   congr 1
   funext y
   exact Xc r s d q y
theorem Uv (r:C->Int) (k:Int) (d:List (C->Int)):∀(q:List (C->Int)) (cs:List C),Dt (q++(fun c=>k*r c)::d) cs=k*Dt (q++r::d) cs
 | [],cs=>Xh r k cs _
 | p::q,cs=>by
   show La p (Dt (q++(fun c=>k*r c)::d)) cs=k*La p (Dt (q++r::d)) cs
   rw [<-Qs]
   congr 1
   funext y
   exact Uv r k d q y
inductive Sn (B:List (C->Int)):(C->Int)->Prop where
 | zero:Sn B (fun _=>0)
 | add (k:Int) {b v:C->Int} (hb:b∈B) (hv:Sn B v):Sn B (fun c=>k*b c+v c)
theorem Sn.mono {B d:List (C->Int)} (h:∀b∈B,b∈d) {v:C->Int} (s:Sn B v):Sn d v:=by
 induction s with
 | zero=>exact .zero
 | add k q _ y=>exact .add k (h _ q) y
theorem Agr {B:List (C->Int)}{v:C->Int} (s:Sn B v) (d:List (C->Int)) (y:∀b∈B,b∈d) (q:List (C->Int)) (cs:List C):Dt (q++v::d) cs=0:=by
 induction s with
 | zero=>exact S5 (rows:=(fun _=>0)::d) (fun cs=>Uw cs _) q cs
 | @add k b v F _ G=>
   rw [Xc (fun c=>k*b c) v d q cs,G,Uv,S5 (Xe (y b F)) q cs]
   simp
inductive Rel (k:Int) (B:List (C->Int)):List (C->Int)->List (C->Int)->Prop where
 | nil:Rel k B [] []
 | cons {a a' v:C->Int}{A A':List (C->Int)} (hv:Sn B v) (h:∀c,k*a c=a' c+v c) (t:Rel k B A A'):Rel k B (a::A) (a'::A')
theorem Ad7 {k:Int}{B:List (C->Int)}{A A':List (C->Int)} (h:Rel k B A A') (cs:List C):∀d:List (C->Int),k^A.length*Dt (d++(A++B)) cs=Dt (d++(A'++B)) cs:=by
 induction h with
 | nil=>intro d;simp
 | @cons a q v A A' F h t G=>
   intro d
   have e:(fun c=>k*a c)=fun c=>q c+v c:=funext h
   have I:k*Dt (d++a::(A++B)) cs=Dt (d++q::(A++B)) cs:=by
    rw [<-Uv,e,Xc,Agr F (A++B) (fun b J=>mem_append_right _ J),Int.add_zero]
   have y:=G (d++ [q])
   rw [append_assoc,append_assoc]at y
   show k^(A.length+1)*Dt (d++a::(A++B)) cs=Dt (d++q::(A'++B)) cs
   rw [Int.pow_succ,Int.mul_assoc,I]
   exact y
theorem Z4 {k:Int}{R:List (C->Int)} (B:List (C->Int)) (cs:List C):∀d:List (C->Int),Dt (d++(R.map (fun r c=>k*r c)++B)) cs=k^R.length*Dt (d++(R++B)) cs:=by
 induction R with
 | nil=>intro d;simp
 | cons r R y=>
   intro d
   show Dt (d++(fun c=>k*r c)::(R.map (fun r c=>k*r c)++B)) cs=k^(R.length+1)*Dt (d++r::(R++B)) cs
   rw [Uv]
   have q:=y (d++ [r])
   rw [append_assoc,append_assoc]at q
   have F:Dt (d++r::(R.map (fun r c=>k*r c)++B)) cs=k^R.length*Dt (d++r::(R++B)) cs:=q
   rw [F,Int.pow_succ]
   grind
def Sg (e:Int):Prop:=e=1\/e= -1
theorem Sg.mul {a b:Int} (d:Sg a) (q:Sg b):Sg (a*b):=by
 rcases d with rfl | rfl<;>rcases q with rfl | rfl<;>simp [Sg]
theorem Sg.sq {a:Int} (d:Sg a):a*a=1:=by rcases d with rfl | rfl<;>rfl
theorem O5 (a:C->Int) (d:List (C->Int)):∀B:List (C->Int),∃e,Sg e/\∀q,Dt (a::(B++d)) q=e*Dt (B++a::d) q
 | []=>⟨1,.inl rfl,fun q=>by simp⟩
 | b::B=>by
   obtain⟨e,F,h⟩:=O5 a d B
   refine⟨-e,by rcases F with rfl | rfl<;>simp [Sg],fun q=> ?_⟩
   show Dt (a::b::(B++d)) q=_
   rw [S6]
   show-La b (Dt (a::(B++d))) q= -e*La b (Dt (B++a::d)) q
   have G:Dt (a::(B++d))=fun y=>e*Dt (B++a::d) y:=funext h
   rw [G,Qs]
   grind
theorem Xd {c:C}:∀ {rows:List (C->Int)},(∀r∈rows,r c=0)->∀ {cs:List C},c∈cs->Dt rows cs=0
 | [],_,c'::cs,_=>rfl
 | r::rows,h,cs,hc=>by
   have I:=h r mem_cons_self
   have J:∀ds:List C,c∈ds->Dt rows ds=0:=fun ds q=>Xd (fun x L=>h x (mem_cons_of_mem _ L)) q
   show La r (Dt rows) cs=0
   have y:∀(cs:List C) (f:List C->Int),c∈cs->(∀ds,c∈ds->f ds=0)->La r f cs=0:=fun cs=>by
    induction cs with
    | nil=>intro f h;cases h
    | cons d ds F=>
      intro f h G
      rw [La]
      by_cases q:c∈ds
      . rw [G ds q,F (fun x=>f (d::x)) q (fun e M=>G _ (mem_cons_of_mem _ M))]
        simp
      . have:c=d:=by
         rcases mem_cons.mp h with z | z
         . exact z
         . exact absurd z q
        subst this
        rw [I]
        have e:(fun x=>f (c::x))=fun _=>0:=by funext x;exact G _ mem_cons_self
        rw [e,Lx]
        simp
   exact y cs (Dt rows) hc J
theorem Ad6 {c:C}{r:C->Int}{rows:List (C->Int)} (h:∀s∈rows,s c=0) (cs:List C):Dt (r::rows) (c::cs)=r c*Dt rows cs:=by
 show La r (Dt rows) (c::cs)=_
 rw [La]
 have e:(fun x=>Dt rows (c::x))=fun _=>0:=by funext x;exact Xd h mem_cons_self
 rw [e,Lx]
 simp
end
end Z
namespace Z
section
variable {C:Type}
def Exd (R:List (C->Int)) (d:Int):Prop:=∀(S:List (C->Int)) (cs:List C),(∀s∈S,s∈R)->d^(S.length-1)∣Dt S cs
theorem Exd.start (R:List (C->Int)):Exd R 1:=fun S d _=>by
 rw [Int.one_pow]
 exact Int.one_dvd _
theorem Exd.sub {R q:List (C->Int)}{d:Int} (h:Exd R d) (y:∀u∈q,u∈R):Exd q d:=fun S F G=>h S F fun s I=>y s (G s I)
theorem Exd.two {R:List (C->Int)}{d:Int} (h:Exd R d) {t s:C->Int} (y:t∈R) (F:s∈R) (c j:C):d∣t c*s j-s c*t j:=by
 have e:Dt [t,s] [c,j]=t c*s j-s c*t j:=by
  simp only [Dt,La]
  grind
 rw [<-e]
 have:=h [t,s] [c,j] (by
  intro u G
  have q:u=t\/u=s:=by simpa using G
  rcases q with rfl | rfl
  . exact y
  . exact F)
 have I:d^([t,s].length-1)=d:=by show d^1=d;rw [Int.pow_one]
 rwa [I]at this
theorem Xl {R:List (C->Int)}{d:Int}{t:C->Int}{c:C}:∀ {A':List (C->Int)},(∀u∈A',∃s∈R,∀j,d*u j=t c*s j-s c*t j)->∃A:List (C->Int),A.length=A'.length/\(∀s∈A,s∈R)/\Rel (t c) [t] A (A'.map fun r j=>d*r j)
 | [],_=>⟨[],rfl,by simp,.nil⟩
 | u::A',h=>by
   obtain⟨s,y,e⟩:=h u (.head _)
   obtain⟨A,F,G,I⟩:=Xl fun v q=>h v (.tail _ q)
   refine⟨s::A,by rw [length_cons,length_cons,F],fun v q=> ?_,.cons (v:=fun j=>s c*t j+0) (.add (s c) (by simp) .zero) (fun j=> ?_) I⟩
   . rcases mem_cons.mp q with rfl | q
     . exact y
     . exact G v q
   . have:=e j
     show t c*s j=d*u j+(s c*t j+0)
     omega
theorem Ux {R:List (C->Int)}{d:Int} (h:Exd R d) (F:d≠0) {t:C->Int}{c:C} (G:t∈R) {A':List (C->Int)} (I:∀u∈A',∃s∈R,∀j,d*u j=t c*s j-s c*t j) (cs:List C):t c^A'.length∣Dt (A'++ [t]) cs:=by
 obtain⟨A,J,L,M⟩:=Xl I
 have h1:=Ad7 M cs []
 have h2:=Z4 (k:=d) (R:=A') [t] cs []
 rw [nil_append,nil_append]at h1 h2
 obtain⟨z,y⟩:=h (A++ [t]) cs (by
  intro u q
  rcases mem_append.mp q with q | q
  . exact L u q
  . have:u=t:=by simpa using q
    rw [this]
    exact G)
 rw [length_append,length_singleton,Nat.add_sub_cancel]at y
 rw [h2,y,J]at h1
 refine⟨z,Int.eq_of_mul_eq_mul_left (Int.pow_ne_zero (m:=A'.length) F) ?_⟩
 rw [<-h1]
 grind
theorem Exd.step {R O:List (C->Int)}{d:Int} (h:Exd R d) (L:d≠0) {t:C->Int}{c:C} (p0:t c≠0) (U:t∈R) (W:∀u∈O,u=t\/∃s∈R,∀j,d*u j=t c*s j-s c*t j):Exd O (t c):=fun S F Z=>by
 by_cases J:t∈S
 . obtain⟨X,Y,rfl⟩:=List.append_of_mem J
   obtain⟨e,he,f⟩:=O5 t Y X
   have f':Dt (X++t::Y) F=e*Dt (t::(X++Y)) F:=by
    have:=f F
    rcases he with rfl | rfl<;>omega
   rw [f']
   by_cases hd:t∈X++Y
   . rw [Xe hd]
     exact⟨0,by simp⟩
   . obtain⟨G,M,g⟩:=O5 t [] (X++Y)
     have I:=g F
     rw [append_nil]at I
     rw [I]
     have k:=Ux h L (c:=c) U (A':=X++Y) (fun u y=>by
      rcases W u (Z u (by
       rcases mem_append.mp y with q | q
       . exact mem_append_left _ q
       . exact mem_append_right _ (.tail _ q)))with z | z
      . rw [z]at y
        exact absurd y hd
      . exact z) F
     have l:(X++t::Y).length-1=(X++Y).length:=by
      simp only [length_append,length_cons]
      omega
     rw [l]
     exact Int.dvd_trans k ⟨e*G,by grind⟩
 . have hA:∀u∈S,∃s∈R,∀j,d*u j=t c*s j-s c*t j:=fun u y=>by
    rcases W u (Z u y)with z | z
    . rw [z]at y
      exact absurd y J
    . exact z
   cases hn:S.length with
   | zero=>exact⟨Dt S F,by simp⟩
   | succ n=>
     have z0:∀u∈S,u c=0:=fun u y=>by
      obtain⟨s,_,e⟩:=hA u y
      have e1:=e c
      have G:d*u c=0:=by
       rw [e1]
       grind
      exact(mul_eq_zero.mp G).resolve_left L
     obtain⟨G,M,g⟩:=O5 t [] S
     have I:=g (c::F)
     rw [append_nil,Ad6 z0]at I
     obtain⟨z,hz⟩:=Ux h L (c:=c) U hA (c::F)
     rw [hz,hn,Int.pow_succ]at I
     refine⟨G*z,Int.eq_of_mul_eq_mul_left p0 ?_⟩
     rw [I]
     show _=t c*(t c^(n+1-1)*(G*z))
     rw [Nat.add_sub_cancel]
     grind
end
end Z
namespace Z
theorem Js {a b:Int} (h:0<b):a.fdiv (Int.gcd a b:Int)=(divInt a b).num/\b.fdiv (Int.gcd a b:Int)=((divInt a b).den:Int):=by
 have d:(0:Int)<=(Int.gcd a b:Int):=Int.natCast_nonneg _
 rw [Int.fdiv_eq_ediv_of_nonneg _ d,Int.fdiv_eq_ediv_of_nonneg _ d,Rat.num_divInt,Rat.den_divInt]
 rw [if_neg (by omega),Int.sign_eq_one_of_pos h,Int.one_mul,Int.gcd_comm b a]
 refine⟨rfl,?_⟩
 rw [Int.natCast_ediv]
 congr 1
 omega
theorem Vb {a b:Int} (h:b<0):a.fdiv (-(Int.gcd a b:Int))=(divInt a b).num/\b.fdiv (-(Int.gcd a b:Int))=((divInt a b).den:Int):=by
 have e:divInt a b=divInt (-a) (-b):=(Rat.neg_divInt_neg a b).symm
 have p:=Js (a:= -a) (b:= -b) (by omega)
 have d:Int.gcd (-a) (-b)=Int.gcd a b:=by rw [Int.gcd_neg,Int.neg_gcd]
 rw [d]at p
 rw [e,<-p.1,<-p.2]
 constructor
 . rw [<-Int.neg_fdiv_neg (-a),Int.neg_neg]
 . rw [<-Int.neg_fdiv_neg (-b),Int.neg_neg]
theorem Aiu (p q:Rat):divInt (p.num*q.den+q.num*p.den) (p.den*q.den)=p+q:=by
 rw [Rat.add_def',<-Rat.divInt_ofNat];congr 1
theorem Aiv (p q:Rat):divInt (p.num*q.num) (p.den*q.den)=p*q:=by
 rw [Rat.mul_def',<-Rat.divInt_ofNat];congr 1
theorem Ae4 (a b:Int):(divInt a b).num.natAbs<=a.natAbs:=by
 rw [Rat.num_divInt]
 refine le_trans (Int.natAbs_ediv_le_natAbs _ _) ?_
 rw [natAbs_mul]
 have:b.sign.natAbs<=1:=by
  rcases Int.lt_trichotomy b 0 with h | h | h
  . rw [Int.sign_eq_neg_one_of_neg h];decide
  . subst h;decide
  . rw [Int.sign_eq_one_of_pos h];decide
 calc b.sign.natAbs*a.natAbs<=1*a.natAbs:=Nat.mul_le_mul_right _ this
  _=a.natAbs:=Nat.one_mul _
theorem Aek {a b:Int} (h:b≠0):(divInt a b).den<=b.natAbs:=by
 rw [Rat.den_divInt,if_neg h]
 exact Nat.div_le_self _ _
theorem abs_eq (i:Int):(if i<0 then-i else i)=((i.natAbs:Nat):Int):=by
 split<;>omega
theorem Vd (x y:Nat):Nat.gcd y (x%y)=Nat.gcd x y:=by
 rw [Nat.gcd_comm y (x%y),<-Nat.gcd_rec,Nat.gcd_comm]
end Z
namespace Z
def rf (l:List Int):Nat->Int:=fun j=>l.getD j 0
def K7 (l:List Int) (z:Nat->Rat):Nat->Rat
 | 0=>0
 | u+1=>K7 l z u+(rf l u:Rat)*z u
def Sol (M:List (List Int)) (u:Nat) (z:Nat->Rat):Prop:=∀l∈M,K7 l z u=(rf l u:Rat)
def Lin (d p q:Int) (x s t:List Int):Prop:=∀j,d*rf x j=p*rf s j-q*rf t j
theorem Lin.dot {d p q:Int}{x s t:List Int} (h:Lin d p q x s t) (z:Nat->Rat):∀u,(d:Rat)*K7 x z u=p*K7 s z u-q*K7 t z u
 | 0=>by
   simp only [K7]
   grind
 | u+1=>by
   have y:=h.dot z u
   have e:(d:Rat)*(rf x u:Rat)=p*(rf s u:Rat)-q*(rf t u:Rat):=by exact_mod_cast h u
   simp only [K7]
   grind
theorem Aa9 {M F:List (List Int)}{u:Nat}{z:Nat->Rat}{t:List Int}{d p:Int} (U:d≠0) (W:p≠0) (L:t∈M) (y:t∈F) (h1:∀x∈F,x=t\/∃s∈M,∃q,Lin d p q x s t) (h2:∀s∈M,s=t\/∃x∈F,∃q,Lin d p q x s t):Sol M u z↔Sol F u z:=by
 have Y:(d:Rat)≠0:=by exact_mod_cast U
 have Z:(p:Rat)≠0:=by exact_mod_cast W
 constructor
 . intro h x G
   rcases h1 x G with rfl | ⟨s,I,q,l⟩
   . exact h _ L
   . have J:=l.dot z u
     have O:(d:Rat)*(rf x u:Rat)=p*(rf s u:Rat)-q*(rf t u:Rat):=by exact_mod_cast l u
     rw [h s I,h t L,<-O]at J
     grind
 . intro h s I
   rcases h2 s I with rfl | ⟨x,G,q,l⟩
   . exact h _ y
   . have J:=l.dot z u
     have O:(d:Rat)*(rf x u:Rat)=p*(rf s u:Rat)-q*(rf t u:Rat):=by exact_mod_cast l u
     rw [h x G,h t y]at J
     grind
end Z
namespace Z
def clr (t:List Int) (c:Nat) (d:Int) (s:List Int):List Int:=zipWith (fun w o=>(t.getD c 0*w-s.getD c 0*o).fdiv d) s t
theorem Ack {t s:List Int}{c N:Nat}{d:Int} (q:t.length=N) (y:s.length=N):(clr t c d s).length=N:=by
 unfold clr
 rw [length_zipWith]
 omega
theorem Aei {t s:List Int}{c N:Nat}{d:Int} (q:t.length=N) (y:s.length=N) (j:Nat):rf (clr t c d s) j=(rf t c*rf s j-rf s c*rf t j).fdiv d:=by
 unfold rf clr
 by_cases h:j<N
 . rw [getD_eq_getElem?_getD,List.getElem?_zipWith,getD_eq_getElem?_getD (l:=s) (i:=j),getD_eq_getElem?_getD (l:=t) (i:=j),getElem?_eq_getElem (by omega),getElem?_eq_getElem (by omega)]
   rfl
 . rw [getD_eq_getElem?_getD,getElem?_eq_none (by rw [length_zipWith];omega),getD_eq_getElem?_getD (l:=s) (i:=j),getElem?_eq_none (by omega),getD_eq_getElem?_getD (l:=t) (i:=j),getElem?_eq_none (by omega)]
   simp
theorem Acl {t s:List Int}{c N:Nat}{d:Int} (y:d≠0) (F:t.length=N) (G:s.length=N) (I:∀j,d∣rf t c*rf s j-rf s c*rf t j):Lin d (rf t c) (rf s c) (clr t c d s) s t:=fun j=>by
 rw [Aei F G]
 obtain⟨q,J⟩:=I j
 rw [J,Int.mul_fdiv_cancel_left q y]
structure Red (M0 L:List (List Int)) (cs:List Nat) (d:Int) (c u N n:Nat):Prop where
 d0:d≠0
 ex:Exd (L.map rf) d
 so:∀z,Sol M0 u z↔Sol L u z
 ln:∀r∈L,r.length=N
 sz:∀r∈L,∀j,(rf r j).natAbs<2^((n+1)*2^cs.length-1)
 kl:cs.length<=L.length
 pv:∀(i j:Nat) r cj,L[i]? =some r->cs[j]? =some cj->rf r cj=if i=j then d else 0
 lo:∀(i:Nat) r,cs.length<=i->L[i]? =some r->∀j,j<c->rf r j=0
 lt:∀x∈cs,x<c
 inc:cs.Pairwise (· < ·)
 ll:L.length=M0.length
 fn:∀g:Nat->Rat,(∀r∈M0,K7 r g N=0)->∀r∈L,K7 r g N=0
 fs:∀(i:Nat) r ci,L[i]? =some r->cs[i]? =some ci->∀j,j<ci->rf r j=0
theorem Red.start {M:List (List Int)}{u N n:Nat} (d:∀r∈M,r.length=N) (sz:∀r∈M,∀j,(rf r j).natAbs<2^n):Red M M [] 1 0 u N n:=
 ⟨by decide,Exd.start _,fun _=>Iff.rfl,d,fun r q j=>by simpa using sz r q j,zero_le _,by simp,fun _ _ _ _ _ h=>absurd h (not_lt_zero _),by simp,.nil,rfl,fun _ h=>h,by simp⟩
theorem Red.skip {M0 L:List (List Int)}{cs:List Nat}{d:Int}{c u N n:Nat} (h:Red M0 L cs d c u N n) (z:∀(i:Nat) r,cs.length<=i->L[i]? =some r->rf r c=0):Red M0 L cs d (c+1) u N n:=
 ⟨h.d0,h.ex,h.so,h.ln,h.sz,h.kl,h.pv,fun i r hi q j F=>by
  by_cases e:j=c
  . rw [e]
    exact z i r hi q
  . exact h.lo i r hi q j (by omega),fun x y=>lt_succ_of_lt (h.lt x y),h.inc,h.ll,h.fn,h.fs⟩
theorem Hq {α:Type}{L:List α}{k f:Nat}{x y:α} (q:L[k]? =some x) (F:L[f]? =some y) (i:Nat):((L.set k y).set f x)[i]? =if i=f then some x else if i=k then some y else L[i]? :=by
 have G:=(List.getElem?_eq_some_iff.mp q).1
 have I:=(List.getElem?_eq_some_iff.mp F).1
 by_cases e:i=f
 . rw [e,if_pos rfl,getElem?_set_self (by rw [length_set];exact I)]
 . rw [if_neg e,getElem?_set_ne (Ne.symm e)]
   by_cases d:i=k
   . rw [d,if_pos rfl,getElem?_set_self G]
   . rw [if_neg d,getElem?_set_ne (Ne.symm d)]
theorem Adm {α:Type}{L:List α}{k f:Nat}{x y:α} (q:L[k]? =some x) (d:L[f]? =some y) (r:α):r∈(L.set k y).set f x↔r∈L:=by
 constructor
 . intro h
   obtain⟨i,hi⟩:=getElem?_of_mem h
   rw [Hq q d]at hi
   split at hi
   . cases hi
     exact List.mem_of_getElem? q
   . split at hi
     . cases hi
       exact List.mem_of_getElem? d
     . exact List.mem_of_getElem? hi
 . intro h
   obtain⟨i,hi⟩:=getElem?_of_mem h
   by_cases e:i=f
   . subst e
     rw [d]at hi
     cases hi
     by_cases F:i=k
     . subst F
       rw [d]at q
       cases q
       exact List.mem_of_getElem? (by rw [Hq d d i,if_pos rfl])
     . exact List.mem_of_getElem? (i:=k) (by rw [Hq q d,if_neg (Ne.symm F),if_pos rfl])
   . by_cases F:i=k
     . subst F
       rw [q]at hi
       cases hi
       exact List.mem_of_getElem? (i:=f) (by rw [Hq q d,if_pos rfl])
     . exact List.mem_of_getElem? (i:=i) (by rw [Hq q d,if_neg e,if_neg F];exact hi)
theorem Red.swap {M0 L:List (List Int)}{cs:List Nat}{d:Int}{c u N n f:Nat}{x y:List Int} (h:Red M0 L cs d c u N n) (F:L[cs.length]? =some x) (G:L[f]? =some y) (W:cs.length<=f):Red M0 ((L.set cs.length y).set f x) cs d c u N n:=by
 have I:=Adm F G
 refine⟨h.d0,h.ex.sub fun v Y=> ?_,fun z=>(h.so z).trans ⟨fun g l M=>g l ((I l).mp M),fun g l M=>g l ((I l).mpr M)⟩,fun r q=>h.ln r ((I r).mp q),fun r q=>h.sz r ((I r).mp q),by rw [length_set,length_set];exact h.kl,fun i j r O hi J=> ?_,fun i r hi q=> ?_,h.lt,h.inc,by rw [length_set,length_set];exact h.ll,fun g Z r q=>h.fn g Z r ((I r).mp q),fun i r ci hi U=> ?_⟩
 . obtain⟨r,q,rfl⟩:=mem_map.mp Y
   exact mem_map.mpr ⟨r,(I r).mp q,rfl⟩
 . have jl:=(List.getElem?_eq_some_iff.mp J).1
   rw [Hq F G]at hi
   split at hi
   . rename_i e
     cases hi
     have:=h.pv cs.length j x O F J
     rw [this,if_neg (by omega),if_neg (by omega)]
   . split at hi
     . rename_i e1 e2
       cases hi
       have:=h.pv f j y O G J
       rw [this,if_neg (by omega),if_neg (by omega)]
     . exact h.pv i j r O hi J
 . rw [Hq F G]at q
   split at q
   . cases q
     exact h.lo cs.length x (le_refl _) F
   . split at q
     . cases q
       exact h.lo f y W G
     . exact h.lo i r hi q
 . have il:=(List.getElem?_eq_some_iff.mp U).1
   rw [Hq F G,if_neg (by omega),if_neg (by omega)]at hi
   exact h.fs i r ci hi U
theorem Red.clear {M0 L L':List (List Int)}{cs:List Nat}{d:Int}{c u N n:Nat}{t:List Int} (h:Red M0 L cs d c u N n) (U:L[cs.length]? =some t) (p0:rf t c≠0) (ll:L'.length=L.length) (me:L'[cs.length]? =some t) (ot:∀j r,j≠cs.length->L[j]? =some r->L'[j]? =some (clr t c d r)):Red M0 L' (cs++ [c]) (rf t c) (c+1) u N n:=by
 have J:=List.mem_of_getElem? U
 have a4:=List.mem_of_getElem? me
 have tN:=h.ln t J
 have dv:∀s∈L,∀j,d∣rf t c*rf s j-rf s c*rf t j:=fun s q j=>h.ex.two (mem_map.mpr ⟨t,J,rfl⟩) (mem_map.mpr ⟨s,q,rfl⟩) c j
 have O:∀s∈L,Lin d (rf t c) (rf s c) (clr t c d s) s t:=fun s q=>Acl h.d0 tN (h.ln s q) (dv s q)
 have M:∀(i:Nat) x,L'[i]? =some x->i≠cs.length->∃s,L[i]? =some s/\s∈L/\x=clr t c d s:=fun i x G hi=>by
  have il:=(List.getElem?_eq_some_iff.mp G).1
  have e:L[i]? =some L[i]:=getElem?_eq_getElem (by omega)
  have:=ot i _ hi e
  rw [G]at this
  exact⟨_,e,getElem_mem _,by simpa using this⟩
 have y:∀x∈L',x=t\/∃s∈L,x=clr t c d s:=fun x G=>by
  obtain⟨i,hi⟩:=getElem?_of_mem G
  by_cases e:i=cs.length
  . subst e
    rw [me]at hi
    exact .inl (by simpa using hi.symm)
  . obtain⟨s,_,b,e⟩:=M i x hi e
    exact .inr ⟨s,b,e⟩
 have a0:∀(j:Nat) I,cs[j]? =some I->rf t I=0:=fun j I F=>by
  have jl:=(List.getElem?_eq_some_iff.mp F).1
  rw [h.pv _ _ _ _ U F,if_neg (by omega)]
 refine⟨p0,h.ex.step h.d0 (t:=rf t) (c:=c) p0 (mem_map.mpr ⟨t,J,rfl⟩) (fun v hv=> ?_),fun z=>(h.so z).trans (Aa9 h.d0 p0 J a4 (fun x G=> ?_) fun s q=> ?_),fun r hr=> ?_,fun r hr j=> ?_,?_,fun i j r I hi F=> ?_,fun i r hi hr j F=> ?_,fun x G=> ?_,?_,by rw [ll];exact h.ll,fun g hg x G=> ?_,fun i r ci hi Y j F=> ?_⟩
 . obtain⟨x,G,rfl⟩:=mem_map.mp hv
   rcases y x G with rfl | ⟨s,q,rfl⟩
   . exact .inl rfl
   . exact .inr ⟨rf s,mem_map.mpr ⟨s,q,rfl⟩,fun j=>O s q j⟩
 . rcases y x G with rfl | ⟨s,q,rfl⟩
   . exact .inl rfl
   . exact .inr ⟨s,q,_,O s q⟩
 . obtain⟨i,hi⟩:=getElem?_of_mem q
   by_cases e:i=cs.length
   . subst e
     rw [U]at hi
     exact .inl (by simpa using hi.symm)
   . exact .inr ⟨_,List.mem_of_getElem? (ot i s e hi),_,O s q⟩
 . rcases y r hr with rfl | ⟨s,q,rfl⟩
   . exact tN
   . exact Ack tN (h.ln s q)
 . have m0:(n+1)*2^cs.length<=(n+1)*2^(cs++ [c]).length:=mul_le_mul_left _ (pow_le_pow_right (by decide) (by simp))
   have m1:(n+1)*2^(cs++ [c]).length=(n+1)*2^cs.length*2:=by rw [length_append,length_singleton,pow_succ,Nat.mul_assoc]
   have m2:0<(n+1)*2^cs.length:=Nat.mul_pos (Nat.succ_pos _) (two_pow_pos _)
   rcases y r hr with rfl | ⟨s,q,rfl⟩
   . exact lt_of_lt_of_le (h.sz _ J j) (pow_le_pow_right (by decide) (by omega))
   . have e:=O s q j
     rw [m1]
     have z1:=h.sz t J c
     have z2:=h.sz s q j
     have z3:=h.sz s q c
     have z4:=h.sz t J j
     generalize (n+1)*2^cs.length=m at m2 z1 z2 z3 z4
     have ep:2^(m*2-1)=2^(m-1)*2^(m-1)+2^(m-1)*2^(m-1):=by
      rw [<-Nat.two_mul,<-Nat.pow_add,Nat.mul_comm 2,<-pow_succ]
      congr 1
      omega
     have a1:(rf t c*rf s j).natAbs<2^(m-1)*2^(m-1):=by
      rw [natAbs_mul]
      exact Nat.mul_lt_mul'' z1 z2
     have a2:(rf s c*rf t j).natAbs<2^(m-1)*2^(m-1):=by
      rw [natAbs_mul]
      exact Nat.mul_lt_mul'' z3 z4
     have a3:(rf (clr t c d s) j).natAbs<=(d*rf (clr t c d s) j).natAbs:=by
      rw [natAbs_mul]
      exact Nat.le_mul_of_pos_left _ (by have:=h.d0;omega)
     rw [e]at a3
     rw [ep]
     omega
 . have:=(List.getElem?_eq_some_iff.mp U).1
   rw [length_append,length_singleton,ll]
   exact this
 . by_cases Z:i=cs.length
   . subst Z
     rw [me]at hi
     cases hi
     by_cases ej:j<cs.length
     . rw [getElem?_append_left ej]at F
       rw [a0 j I F,if_neg (by omega)]
     . have jl:=(List.getElem?_eq_some_iff.mp F).1
       rw [length_append,length_singleton]at jl
       have W:j=cs.length:=by omega
       subst W
       rw [getElem?_append_right (le_refl _),sub_self]at F
       have:c=I:=by simpa using F
       rw [if_pos rfl,<-this]
   . obtain⟨s,es,q,rfl⟩:=M i r hi Z
     have e:=O s q I
     have d0:=h.d0
     by_cases ej:j<cs.length
     . rw [getElem?_append_left ej]at F
       rw [a0 j I F,mul_zero,Int.sub_zero,h.pv i j s I es F]at e
       split
       . rename_i eq
         rw [if_pos eq,mul_comm (rf t c)]at e
         exact Int.eq_of_mul_eq_mul_left d0 e
       . rename_i eq
         rw [if_neg eq,mul_zero]at e
         exact(mul_eq_zero.mp e).resolve_left d0
     . have jl:=(List.getElem?_eq_some_iff.mp F).1
       rw [length_append,length_singleton]at jl
       have W:j=cs.length:=by omega
       subst W
       rw [getElem?_append_right (le_refl _),sub_self]at F
       have:c=I:=by simpa using F
       subst this
       rw [if_neg Z]
       rw [mul_comm (rf s c),Int.sub_self]at e
       exact(mul_eq_zero.mp e).resolve_left d0
 . rw [length_append,length_singleton]at hi
   obtain⟨s,es,q,rfl⟩:=M i r hr (by omega)
   have e:=O s q j
   have d0:=h.d0
   by_cases ej:j=c
   . subst ej
     rw [mul_comm (rf s j),Int.sub_self]at e
     exact(mul_eq_zero.mp e).resolve_left d0
   . rw [h.lo i s (by omega) es j (by omega),h.lo _ t (le_refl _) U j (by omega),mul_zero,mul_zero,Int.sub_self]at e
     exact(mul_eq_zero.mp e).resolve_left d0
 . rcases mem_append.mp G with G | G
   . exact lt_succ_of_lt (h.lt x G)
   . have:x=c:=by simpa using G
     omega
 . rw [List.pairwise_append]
   refine⟨h.inc,List.pairwise_singleton _ _,fun a ha b hb=> ?_⟩
   have:b=c:=by simpa using hb
   have:=h.lt a ha
   omega
 . rcases y x G with rfl | ⟨s,q,rfl⟩
   . exact h.fn g hg _ J
   . have e:=(O s q).dot g N
     rw [h.fn g hg s q,h.fn g hg t J,Rat.mul_zero,Rat.mul_zero,Rat.sub_self]at e
     exact(Rat.mul_eq_zero.mp e).resolve_left (by exact_mod_cast h.d0)
 . by_cases Z:i=cs.length
   . subst Z
     rw [me]at hi
     cases hi
     rw [getElem?_append_right (le_refl _),sub_self]at Y
     have:c=ci:=by simpa using Y
     exact h.lo _ t (le_refl _) U j (by omega)
   . have il:=(List.getElem?_eq_some_iff.mp Y).1
     rw [length_append,length_singleton]at il
     rw [getElem?_append_left (by omega)]at Y
     obtain⟨s,es,q,rfl⟩:=M i r hi Z
     have e:=O s q j
     have cc:=h.lt ci (List.mem_of_getElem? Y)
     rw [h.fs i s ci es Y j F,h.lo _ t (le_refl _) U j (by omega),mul_zero,mul_zero,Int.sub_self]at e
     exact(mul_eq_zero.mp e).resolve_left h.d0
end Z
namespace Z
def Mp (l z:Nat->Rat):Nat->Rat
 | 0=>0
 | u+1=>Mp l z u+l u*z u
def dq:List Rat->List Rat->Rat
 | a::l,b::z=>a*b+dq l z
 | _,_=>0
theorem Tv:∀ {l z:List Rat}{a b:Rat},l.length=z.length->dq (l++ [a]) (z++ [b])=dq l z+a*b
 | [],[],a,b,_=>by simp only [nil_append,dq];grind
 | x::l,y::z,a,b,h=>by
   have:=Tv (l:=l) (z:=z) (a:=a) (b:=b) (by simpa using h)
   simp only [cons_append,dq,this]
   grind
theorem U7 (f g:Nat->Rat):∀u,dq ((List.range u).map f) ((List.range u).map g)=Mp f g u
 | 0=>rfl
 | u+1=>by
   rw [range_succ,map_append,map_append]
   show dq (_++ [f u]) (_++ [g u])=_
   rw [Tv (by simp),U7 f g u]
   rfl
def qf (l:List Rat):Nat->Rat:=fun j=>l.getD j 0
theorem Gj {l:List Rat}{u:Nat} (h:l.length=u):l=(List.range u).map (qf l):=by
 refine List.ext_getElem? fun j=> ?_
 rw [getElem?_map]
 by_cases d:j<u
 . rw [getElem?_range d,getElem?_eq_getElem (by omega)]
   unfold qf
   rw [map_some,getD_eq_getElem?_getD,getElem?_eq_getElem (by omega)]
   rfl
 . rw [getElem?_eq_none (by omega),getElem?_eq_none (by simp;omega)]
   rfl
theorem Wg {l z:List Rat}{u:Nat} (d:l.length=u) (hz:z.length=u):dq l z=Mp (qf l) (qf z) u:=by
 rw [<-U7,<-Gj d,<-Gj hz]
theorem Og {m:List Int}{l z:Nat->Rat}{B:Rat}:∀ {u:Nat},(∀j,j<u->(rf m j:Rat)=B*l j)->K7 m z u=B*Mp l z u
 | 0,_=>by simp only [K7,Mp];grind
 | u+1,h=>by
   have h1:=Og (z:=z) fun j (d:j<u)=>h j (by omega)
   have h2:=h u (by omega)
   simp only [K7,Mp,h1,h2]
   grind
structure Whl (M:List (List Int)) (R:List (List Rat)) (b:List Rat) (u:Nat):Prop where
 lm:M.length=R.length
 lb:b.length=R.length
 lr:∀r∈R,r.length=u
 ok:∀(i:Nat) m r q,M[i]? =some m->R[i]? =some r->b[i]? =some q->∃B:Rat,B≠0/\(∀j,j<u->(rf m j:Rat)=B*qf r j)/\(rf m u:Rat)=B*q
theorem Whl.sol {M:List (List Int)}{R:List (List Rat)}{b:List Rat}{u:Nat} (h:Whl M R b u) {z:List Rat} (hz:z.length=u):Sol M u (qf z)↔R.map (dq · z)=b:=by
 have d:∀(i:Nat) m r q,M[i]? =some m->R[i]? =some r->b[i]? =some q->(K7 m (qf z) u=(rf m u:Rat)↔dq r z=q):=fun i m r q G I L=>by
  obtain⟨B,Y,O,U⟩:=h.ok i m r q G I L
  rw [Og O,U,Wg (h.lr r (List.mem_of_getElem? I)) hz]
  constructor
  . intro e
    grind
  . intro e
    rw [e]
 constructor
 . intro s
   refine List.ext_getElem? fun i=> ?_
   by_cases hi:i<R.length
   . have y:R[i]? =some R[i]:=getElem?_eq_getElem hi
     have W:M[i]? =some (M[i]'(by rw [h.lm];exact hi)):=getElem?_eq_getElem _
     have F:b[i]? =some (b[i]'(by rw [h.lb];exact hi)):=getElem?_eq_getElem _
     rw [getElem?_map,y,F,map_some,(d i _ _ _ W y F).mp (s _ (getElem_mem _))]
   . rw [getElem?_eq_none (by simp;omega),getElem?_eq_none (by rw [h.lb];omega)]
 . intro e m G
   obtain⟨i,hi⟩:=getElem?_of_mem G
   have J:=(List.getElem?_eq_some_iff.mp hi).1
   have y:R[i]? =some (R[i]'(by rw [<-h.lm];exact J)):=getElem?_eq_getElem _
   have F:b[i]? =some (b[i]'(by rw [h.lb,<-h.lm];exact J)):=getElem?_eq_getElem _
   refine(d i m _ _ hi y F).mpr ?_
   have:=congrArg (·[i]?) e
   simp only [getElem?_map,y,F,map_some,Option.some.injEq]at this
   exact this
def sgm (g:Nat->Rat):List Nat->Rat
 | []=>0
 | a::l=>g a+sgm g l
theorem Ou (g:Nat->Rat):∀l m,sgm g (l++m)=sgm g l+sgm g m
 | [],m=>by simp only [nil_append,sgm];grind
 | a::l,m=>by
   simp only [cons_append,sgm,Ou g l m]
   grind
def frees (cs:List Nat) (u:Nat):List Nat:=(List.range u).filter fun j=> !(cs.contains j)
theorem Wi (cs:List Nat) (u:Nat):frees cs (u+1)=frees cs u++if cs.contains u then []else [u]:=by
 unfold frees
 rw [range_succ,filter_append]
 congr 1
 by_cases d:u∈cs<;>simp [d]
theorem Tq {r:List Int}{cs:List Nat}{q:Nat}{d:Int}{z:Nat->Rat} (G:q∈cs) (h1:rf r q=d) (h2:∀x∈cs,x≠q->rf r x=0):∀u,K7 r z u=sgm (fun f=>(rf r f:Rat)*z f) (frees cs u)+if q<u then(d:Rat)*z q else 0
 | 0=>by
   simp only [K7,frees,List.range_zero,List.filter_nil,sgm]
   rw [if_neg (not_lt_zero _)]
   grind
 | u+1=>by
   rw [Wi,Ou]
   simp only [K7,Tq G h1 h2 u]
   by_cases y:u∈cs
   . have F:(if cs.contains u then []else [u])=([]:List Nat):=if_pos (by simpa using y)
     rw [F]
     by_cases e:u=q
     . subst e
       rw [if_neg (lt_irrefl _),if_pos (lt_succ_self _),h1]
       simp only [sgm]
       try grind
     . rw [h2 u y e]
       have:(q<u+1)=(q<u):=by simp only [eq_iff_iff];omega
       simp only [this,sgm]
       grind
   . have F:(if cs.contains u then []else [u])=[u]:=if_neg (by simpa using y)
     rw [F]
     have e:u≠q:=fun e=>y (e▸G)
     have:(q<u+1)=(q<u):=by simp only [eq_iff_iff];omega
     simp only [this,sgm]
     grind
theorem Tr {r:List Int}{z:Nat->Rat}:∀ {u:Nat},(∀j,j<u->rf r j=0)->K7 r z u=0
 | 0,_=>rfl
 | u+1,h=>by
   simp only [K7,Tr (z:=z) fun j (d:j<u)=>h j (by omega),h u (by omega)]
   grind
def smd:List Rat->List (Rat × List Rat)->List Rat
 | x,[]=>x
 | x,(s,g)::r=>smd (zipWith (fun a b=>a+s*b) x g) r
theorem Ab5 {x g:List Rat}{u:Nat}{s:Rat} (d:x.length=u) (q:g.length=u) (j:Nat):qf (zipWith (fun a b=>a+s*b) x g) j=qf x j+s*qf g j:=by
 unfold qf
 by_cases h:j<u
 . rw [getD_eq_getElem?_getD,List.getElem?_zipWith,getD_eq_getElem?_getD,getD_eq_getElem?_getD,getElem?_eq_getElem (by omega),getElem?_eq_getElem (by omega)]
   rfl
 . rw [getD_eq_getElem?_getD,getElem?_eq_none (by rw [length_zipWith];omega),getD_eq_getElem?_getD,getElem?_eq_none (by omega),getD_eq_getElem?_getD,getElem?_eq_none (by omega)]
   simp only [getD_none]
   grind
theorem R9 {u:Nat}{s:Nat->Rat}{d:Nat->List Rat}:∀ {fr:List Nat}{x:List Rat},x.length=u->(∀f∈fr,(d f).length=u)->(smd x (fr.map fun f=>(s f,d f))).length=u/\∀j,qf (smd x (fr.map fun f=>(s f,d f))) j=qf x j+sgm (fun f=>s f*qf (d f) j) fr
 | [],x,hx,_=>⟨hx,fun j=>by simp only [map_nil,smd,sgm];grind⟩
 | f::fr,x,hx,hb=>by
   have q:=hb f (.head _)
   obtain⟨a,b⟩:=R9 (s:=s) (fr:=fr) (x:=zipWith (fun a b=>a+s f*b) x (d f)) (by rw [length_zipWith];omega) fun g y=>hb g (.tail _ y)
   refine⟨a,fun j=> ?_⟩
   have:=b j
   rw [Ab5 hx q]at this
   simp only [map_cons,smd,sgm,this]
   grind
theorem Zg {s:Nat->Rat}{g:Nat->Rat}{f0:Nat}:∀ {fr:List Nat},(∀f∈fr,g f=if f0=f then 1 else 0)->f0∉fr->sgm (fun f=>s f*g f) fr=0
 | [],_,_=>rfl
 | f::fr,h,n=>by
   have d:f0≠f/\f0∉fr:=⟨fun e=>n (e▸ .head _),fun e=>n (.tail _ e)⟩
   simp only [sgm,Zg (s:=s) (fun g q=>h g (.tail _ q)) d.2,h f (.head _)]
   rw [if_neg d.1]
   grind
theorem Qj {s:Nat->Rat}{g:Nat->Rat}{f0:Nat}:∀ {fr:List Nat},(∀f∈fr,g f=if f0=f then 1 else 0)->f0∈fr->fr.Nodup->sgm (fun f=>s f*g f) fr=s f0
 | f::fr,h,m,n=>by
   have y:=nodup_cons.mp n
   have d:=h f (.head _)
   rcases mem_cons.mp m with e | e
   . subst e
     rw [if_pos rfl]at d
     simp only [sgm,Zg (s:=s) (fun g F=>h g (.tail _ F)) y.1,d]
     grind
   . rw [if_neg (fun q:f0=f=>y.1 (q▸e))]at d
     simp only [sgm,Qj (s:=s) (fun g F=>h g (.tail _ F)) e y.2,d]
     grind
theorem X6 {α:Type} [Inhabited α]:∀ {fr:List Nat}{s:List α},fr.Nodup->s.length=fr.length->∃g:Nat->α,s=fr.map g
 | [],[],_,_=>⟨fun _=>default,rfl⟩
 | f::fr,a::s,n,h=>by
   have d:=nodup_cons.mp n
   obtain⟨g,e⟩:=X6 (s:=s) d.2 (by simpa using h)
   refine⟨fun j=>if j=f then a else g j,?_⟩
   rw [map_cons,if_pos rfl,e]
   congr 1
   refine map_congr_left fun x y=> ?_
   rw [if_neg (fun q:x=f=>d.1 (q▸y))]
theorem J7 {α d q:Type} (f:α->d) (g:α->q):∀l:List α,(l.map f).zip (l.map g)=l.map fun x=>(f x,g x)
 | []=>rfl
 | _::l=>by rw [map_cons,map_cons,List.zip_cons_cons,J7 f g l];rfl
theorem Qi {g:Nat->Rat}{k:Rat}:∀fr,sgm (fun f=>k*g f) fr=k*sgm g fr
 | []=>by simp only [sgm];grind
 | f::fr=>by
   simp only [sgm,Qi (g:=g) (k:=k) fr]
   grind
theorem Ia {g h:Nat->Rat}:∀ {fr:List Nat},(∀f∈fr,g f=h f)->sgm g fr=sgm h fr
 | [],_=>rfl
 | f::fr,e=>by
   simp only [sgm,e f (.head _),Ia (fr:=fr) fun x d=>e x (.tail _ d)]
theorem Cz {cs:List Nat}{u j:Nat}:j∈frees cs u↔j<u/\j∉cs:=by
 unfold frees
 rw [mem_filter,mem_range]
 simp
theorem Fz (cs:List Nat) (u:Nat):(frees cs u).Nodup:=Pairwise.filter _ List.nodup_range
structure All (R:List (List Rat)) (b:List Rat) (u:Nat) (x:List Rat) (fr:List Nat) (bs:List (List Rat)):Prop where
 lx:x.length=u
 lb:bs.length=fr.length
 bu:∀g∈bs,g.length=u
 lf:∀f∈fr,f<u
 sl:∀z:List Rat,z.length=u->(R.map (dq · z)=b↔z=smd x ((fr.map (qf z)).zip bs))
 an:∀s:List Rat,s.length=fr.length->(smd x (s.zip bs)).length=u/\fr.map (qf (smd x (s.zip bs)))=s
theorem Red.none {M0 L:List (List Int)}{cs:List Nat}{d:Int}{u N n i:Nat}{r:List Int} (h:Red M0 L cs d u u N n) (hi:cs.length<=i) (q:L[i]? =some r) (y:rf r u≠0) (z:Nat->Rat):¬Sol M0 u z:=fun s=>by
 have:=(h.so z).mp s r (List.mem_of_getElem? q)
 rw [Tr (h.lo i r hi q)]at this
 exact y (by exact_mod_cast this.symm)
theorem Red.led {M0 L:List (List Int)}{cs:List Nat}{d:Int}{c u N n i:Nat}{r:List Int}{q:Nat} (h:Red M0 L cs d c u N n) (F:L[i]? =some r) (G:cs[i]? =some q):rf r q=d/\∀x∈cs,x≠q->rf r x=0:=by
 refine⟨by rw [h.pv i i r q F G,if_pos rfl],fun x I J=> ?_⟩
 obtain⟨k,y⟩:=getElem?_of_mem I
 rw [h.pv i k r x F y,if_neg]
 intro e
 subst e
 rw [G]at y
 exact J (by simpa using y.symm)
theorem Red.sol {M0 L:List (List Int)}{cs:List Nat}{d:Int}{u N n:Nat} (h:Red M0 L cs d u u N n) (lo:∀(i:Nat) r,cs.length<=i->L[i]? =some r->rf r u=0) (z:Nat->Rat):Sol M0 u z↔ ∀(i:Nat) r F,L[i]? =some r->cs[i]? =some F->sgm (fun f=>(rf r f:Rat)*z f) (frees cs u)+(d:Rat)*z F=(rf r u:Rat):=by
 refine(h.so z).trans ⟨fun s i r F G q=> ?_,fun s r I=> ?_⟩
 . have:=s r (List.mem_of_getElem? G)
   obtain⟨a,b⟩:=h.led G q
   have y:=List.mem_of_getElem? q
   rwa [Tq y a b,if_pos (h.lt F y)]at this
 . obtain⟨i,hi⟩:=getElem?_of_mem I
   by_cases J:i<cs.length
   . have q:cs[i]? =some cs[i]:=getElem?_eq_getElem J
     obtain⟨a,b⟩:=h.led hi q
     have y:=List.mem_of_getElem? q
     rw [Tq y a b,if_pos (h.lt _ y)]
     exact s i r _ hi q
   . rw [Tr (h.lo i r (by omega) hi),lo i r (by omega) hi]
     rfl
theorem Red.all {M0 L:List (List Int)}{cs:List Nat}{d:Int}{u N n:Nat}{R:List (List Rat)}{b x:List Rat}{F:Nat->List Rat} (h:Red M0 L cs d u u N n) (w:Whl M0 R b u) (lo:∀(i:Nat) r,cs.length<=i->L[i]? =some r->rf r u=0)
 (lx:x.length=u) (Y:∀j,j∉cs->qf x j=0) (x1:∀(i:Nat) r c,L[i]? =some r->cs[i]? =some c->qf x c=divInt (rf r u) d)
 (lb:∀f∈frees cs u,(F f).length=u) (Z:∀f∈frees cs u,∀j,j<u->j∉cs->qf (F f) j=if j=f then 1 else 0) (b1:∀f∈frees cs u,∀(i:Nat) r c,L[i]? =some r->cs[i]? =some c->qf (F f) c=divInt (-rf r f) d):All R b u x (frees cs u) ((frees cs u).map F):=by
 have dR:(d:Rat)≠0:=by exact_mod_cast h.d0
 have kl:=h.kl
 refine⟨lx,by rw [length_map],fun g hg=> ?_,fun f q=>(Cz.mp q).1,fun z hz=> ?_,fun s hs=> ?_⟩
 . obtain⟨f,q,rfl⟩:=mem_map.mp hg
   exact lb f q
 . rw [J7]
   obtain⟨M,G⟩:=R9 (s:=qf z) (fr:=frees cs u) lx lb
   refine(w.sol hz).symm.trans ((h.sol lo (qf z)).trans ⟨fun e=> ?_,fun e=> ?_⟩)
   . rw [Gj M]
     refine(Gj hz).trans (map_congr_left fun j I=> ?_)
     have J:=mem_range.mp I
     rw [G]
     by_cases y:j∈cs
     . obtain⟨i,hi⟩:=getElem?_of_mem y
       have il:=(List.getElem?_eq_some_iff.mp hi).1
       have O:L[i]? =some (L[i]'(by omega)):=getElem?_eq_getElem _
       have U:=e i _ j O hi
       rw [x1 i _ j O hi,Ia (h:=fun f=>(-1/(d:Rat))*((rf (L[i]'(by omega)) f:Rat)*qf z f)) (fun f q=>by
        rw [b1 f q i _ j O hi,divInt_eq_div]
        rw [Rat.intCast_neg]
        grind),Qi,divInt_eq_div]
       grind
     . rw [Y j y,Qj (f0:=j) (g:=fun f=>qf (F f) j) (fun f q=>Z f q j J y) (Cz.mpr ⟨J,y⟩) (Fz _ _)]
       grind
   . intro i r W hr y
     have cm:=List.mem_of_getElem? y
     have U:=G W
     rw [<-e]at U
     rw [x1 i r W hr y,Ia (h:=fun f=>(-1/(d:Rat))*((rf r f:Rat)*qf z f)) (fun f q=>by
      rw [b1 f q i _ W hr y,divInt_eq_div]
      rw [Rat.intCast_neg]
      grind),Qi,divInt_eq_div]at U
     grind
 . obtain⟨g,rfl⟩:=X6 (Fz cs u) hs
   rw [J7]
   obtain⟨M,G⟩:=R9 (s:=g) (fr:=frees cs u) lx lb
   refine⟨M,map_congr_left fun j I=> ?_⟩
   obtain⟨J,y⟩:=Cz.mp I
   rw [G,Y j y,Qj (f0:=j) (g:=fun f=>qf (F f) j) (fun f q=>Z f q j J y) I (Fz _ _)]
   grind
structure Sti (x0:List Rat) (w:Nat->Rat) (cs:List Nat) (i:Nat) (q:List Rat):Prop where
 ln:q.length=x0.length
 un:∀j,(∀k,k<i->cs[k]? ≠some j)->qf q j=qf x0 j
 st:∀(k c:Nat),k<i->cs[k]? =some c->qf q c=w k
theorem Sti.start (d:List Rat) (w:Nat->Rat) (cs:List Nat):Sti d w cs 0 d:=⟨rfl,fun _ _=>rfl,fun k c h=>absurd h (not_lt_zero _)⟩
theorem Ab4 {q:List Rat}{c:Nat}{v:Rat} (d:c<q.length) (j:Nat):qf (q.set c v) j=if j=c then v else qf q j:=by
 unfold qf
 rw [getD_eq_getElem?_getD]
 by_cases e:j=c
 . subst e
   rw [if_pos rfl,getElem?_set_self d]
   rfl
 . rw [if_neg e,getElem?_set_ne (Ne.symm e),getD_eq_getElem?_getD]
theorem Yd {cs:List Nat}{k i c:Nat} (h:cs.Pairwise (· < ·)) (d:cs[k]? =some c) (hi:cs[i]? =some c):k=i:=by
 obtain⟨a,q⟩:=List.getElem?_eq_some_iff.mp d
 obtain⟨b,y⟩:=List.getElem?_eq_some_iff.mp hi
 have h':=pairwise_iff_getElem.mp h
 rcases Nat.lt_trichotomy k i with l | l | l
 . have:=h' k i a b l
   omega
 . exact l
 . have:=h' i k b a l
   omega
theorem Sti.step {F q:List Rat}{w:Nat->Rat}{cs:List Nat}{i c:Nat} (h:Sti F w cs i q) (G:cs.Pairwise (· < ·)) (hi:cs[i]? =some c) (J:c<F.length):Sti F w cs (i+1) (q.set c (w i)):=by
 have y:c<q.length:=by rw [h.ln];exact J
 refine⟨by rw [length_set];exact h.ln,fun j I=> ?_,fun k L M d=> ?_⟩
 . rw [Ab4 y,if_neg (fun e=>I i (lt_succ_self _) (by rw [hi,e]))]
   exact h.un j fun k M=>I k (by omega)
 . rw [Ab4 y]
   split
   . rename_i e
     subst e
     rw [Yd G d hi]
   . rename_i e
     have:k≠i:=by
      rintro rfl
      rw [hi]at d
      exact e (by simpa using d.symm)
     exact h.st k L (by omega) d
theorem Sti.done {d q:List Rat}{w:Nat->Rat}{cs:List Nat}{m:Nat} (h:Sti d w cs m q) (F:m=cs.length):(∀j,j∉cs->qf q j=qf d j)/\∀(k c:Nat),cs[k]? =some c->qf q c=w k:=
 ⟨fun j y=>h.un j fun k _ e=>y (List.mem_of_getElem? e),fun k c e=>h.st k c (by have:=(List.getElem?_eq_some_iff.mp e).1;omega) e⟩
end Z
namespace Z
theorem Q9 (l:List Int) (c:Nat) (g:Nat->Rat):∀ {n:Nat},c<n->(∀x,x<n->g x=if x=c then 1 else 0)->K7 l g n=(rf l c:Rat)
 | 0,h,_=>absurd h (not_lt_zero _)
 | n+1,h,k=>by
   have z:∀ {m:Nat},m<=c->(∀x,x<m->g x=if x=c then 1 else 0)->K7 l g m=0:=fun {m}=>by
    induction m with
    | zero=>exact fun _ _=>rfl
    | succ m q=>
      intro y k
      show K7 l g m+(rf l m:Rat)*g m=0
      rw [q (by omega) fun x d=>k x (by omega),k m (by omega),if_neg (by omega)]
      grind
   show K7 l g n+(rf l n:Rat)*g n=_
   by_cases e:c=n
   . subst e
     rw [z (le_refl _) fun x d=>k x (by omega),k c (by omega),if_pos rfl]
     grind
   . rw [Q9 l c g (by omega) fun x d=>k x (by omega),k n (by omega),if_neg (by omega)]
     grind
theorem Ml (l:List Int) (c u:Nat) (col:Nat->Rat) (g:Nat->Rat) (d:c<u) (q:∀x,x<u->g x=if x=c then 1 else 0) (y:∀k,g (u+k)= -(col k)):∀m,K7 l g (u+m)=(rf l c:Rat)-Mp (fun k=>(rf l (u+k):Rat)) col m
 | 0=>by
   show K7 l g u=(rf l c:Rat)-0
   rw [Q9 l c g d q]
   grind
 | m+1=>by
   show K7 l g (u+m)+(rf l (u+m):Rat)*g (u+m)=_-(Mp _ col m+(rf l (u+m):Rat)*col m)
   rw [Ml l c u col g d q y m,y]
   grind
theorem U6 {f col:Nat->Rat}{B:Rat}{i:Nat}:∀ {m:Nat},(∀k,k<m->f k=if k=i then B else 0)->Mp f col m=if i<m then B*col i else 0
 | 0,_=>rfl
 | m+1,h=>by
   show Mp f col m+f m*col m=_
   rw [U6 fun k d=>h k (by omega),h m (by omega)]
   by_cases e:m=i
   . subst e
     rw [if_neg (lt_irrefl _),if_pos rfl,if_pos (lt_succ_self _)]
     grind
   . rw [if_neg e]
     by_cases h2:i<m
     . rw [if_pos h2,if_pos (by omega)]
       grind
     . rw [if_neg h2,if_neg (by omega)]
       grind
structure Wht (M:List (List Int)) (R:List (List Rat)) (b:List Rat) (u:Nat):Prop where
 lm:M.length=R.length
 lb:b.length=R.length
 lr:∀r∈R,r.length=u
 ok:∀(i:Nat) m r q,M[i]? =some m->R[i]? =some r->b[i]? =some q->∃B:Rat,B≠0/\(∀j,j<u->(rf m j:Rat)=B*qf r j)/\(rf m u:Rat)=B*q/\∀k,k<R.length->(rf m (u+1+k):Rat)=if k=i then B else 0
theorem Wht.whl {M:List (List Int)}{R:List (List Rat)}{b:List Rat}{u:Nat} (h:Wht M R b u):Whl M R b u:=
 ⟨h.lm,h.lb,h.lr,fun i m r q h1 h2 d=>let ⟨B,b0,b1,b2,_⟩:=h.ok i m r q h1 h2 d;⟨B,b0,b1,b2⟩⟩
theorem Aac {M0 L:List (List Int)}{cs:List Nat}{d:Int}{G u n m:Nat} (h:Red M0 L cs d G u (u+1+m) n) {c:Nat} (q:c<u+1) {col:Nat->Rat}
 (I:∀(i:Nat) l,M0[i]? =some l->∃B:Rat,(rf l c:Rat)=B*col i/\(∀k,k<m->(rf l (u+1+k):Rat)=if k=i then B else 0)/\i<m) {r:List Int} (J:r∈L):(rf r c:Rat)=Mp (fun k=>(rf r (u+1+k):Rat)) col m:=by
 let g:Nat->Rat:=fun x=>if x<u+1 then(if x=c then 1 else 0)else-(col (x-(u+1)))
 have y:∀x,x<u+1->g x=if x=c then 1 else 0:=fun x M=>if_pos M
 have F:∀k,g (u+1+k)= -(col k):=fun k=>by
  show(if u+1+k<u+1 then _ else _)=_
  rw [if_neg (by omega),Nat.add_sub_cancel_left]
 have z:=h.fn g (fun l O=>by
  obtain⟨i,hi⟩:=getElem?_of_mem O
  obtain⟨B,U,W,Y⟩:=I i l hi
  rw [Ml l c (u+1) col g q y F m,U,U6 W,if_pos Y]
  grind) r J
 rw [Ml r c (u+1) col g q y F m]at z
 grind
theorem U5 {f g col:Nat->Rat}{e:Rat}:∀ {m:Nat},(∀k,k<m->g k=f k/e)->Mp g col m=Mp f col m/e
 | 0,_=>by
   show(0:Rat)=0/e
   grind
 | m+1,h=>by
   show Mp g col m+g m*col m=(Mp f col m+f m*col m)/e
   rw [U5 fun k d=>h k (by omega),h m (by omega)]
   grind
def mul (u:Nat) (r:List Int) (e:Int):List Rat:=(r.drop (u+1)).map fun x=>divInt x e
theorem T3 {u m:Nat}{r:List Int}{e:Int} (h:r.length=u+1+m):(mul u r e).length=m:=by
 unfold mul
 rw [length_map,length_drop,h]
 omega
theorem Ae3 {u m:Nat}{r:List Int}{e:Int} (h:r.length=u+1+m) {k:Nat} (d:k<m):qf (mul u r e) k=(rf r (u+1+k):Rat)/(e:Rat):=by
 unfold qf mul rf
 rw [getD_eq_getElem?_getD,getElem?_map,getElem?_drop,getD_eq_getElem?_getD,getElem?_eq_getElem (by omega),<-divInt_eq_div]
 rfl
theorem Red.cert {M0 L:List (List Int)}{cs:List Nat}{d:Int}{U u n:Nat}{R:List (List Rat)}{b:List Rat} (h:Red M0 L cs d U u (u+1+R.length) n) (w:Wht M0 R b u) {r:List Int} (M:r∈L) (e:Int):
 (∀j,j<u->dq (mul u r e) (R.map (qf · j))=(rf r j:Rat)/(e:Rat))/\dq (mul u r e) b=(rf r u:Rat)/(e:Rat):=by
 have O:=h.ln r M
 have W:=T3 (e:=e) O
 have F:∀(c:Nat) (y:List Rat),c<u+1->y.length=R.length->(∀(i:Nat) l,M0[i]? =some l->∃B:Rat,(rf l c:Rat)=B*qf y i/\(∀k,k<R.length->(rf l (u+1+k):Rat)=if k=i then B else 0)/\i<R.length)->dq (mul u r e) y=(rf r c:Rat)/(e:Rat):=fun c y Y Z hm=>by
  rw [Wg W Z,U5 (f:=fun k=>(rf r (u+1+k):Rat)) (e:=(e:Rat)) (fun k hk=>Ae3 O hk),Aac h Y hm M]
 have G:∀(i:Nat) l,M0[i]? =some l->i<R.length:=fun i l hi=>by
  have:=(List.getElem?_eq_some_iff.mp hi).1
  rw [<-w.lm]
  exact this
 refine⟨fun j hj=>F j _ (by omega) (by rw [length_map]) fun i l hi=> ?_,F u b (by omega) w.lb fun i l hi=> ?_⟩
 . have q:=G i l hi
   obtain⟨B,_,b1,_,I⟩:=w.ok i l _ _ hi (getElem?_eq_getElem q) (getElem?_eq_getElem (by rw [w.lb];exact q))
   refine⟨B,?_,I,q⟩
   have J:qf (R.map (qf · j)) i=qf R[i] j:=by
    show(R.map (qf · j)).getD i 0=_
    rw [getD_eq_getElem?_getD,getElem?_map,getElem?_eq_getElem q]
    rfl
   rw [J]
   exact b1 j hj
 . have q:=G i l hi
   obtain⟨B,_,_,b2,I⟩:=w.ok i l _ _ hi (getElem?_eq_getElem q) (getElem?_eq_getElem (by rw [w.lb];exact q))
   refine⟨B,?_,I,q⟩
   have J:qf b i=b[i]'(by rw [w.lb];exact q):=by
    show b.getD i 0=_
    rw [getD_eq_getElem?_getD,getElem?_eq_getElem (by rw [w.lb];exact q)]
    rfl
   rw [J]
   exact b2
end Z
namespace Z
theorem U4 {l f g h:Nat->Rat}:∀ {u:Nat},(∀j,j<u->h j=f j+g j)->Mp l h u=Mp l f u+Mp l g u
 | 0,_=>by
   show(0:Rat)=0+0
   grind
 | u+1,k=>by
   show Mp l h u+l u*h u=(Mp l f u+l u*f u)+(Mp l g u+l u*g u)
   rw [U4 fun j d=>k j (by omega),k u (by omega)]
   grind
theorem All.anys {R:List (List Rat)}{b x:List Rat}{u:Nat}{fr:List Nat}{d:Nat->List Rat} (a:All R b u x fr (fr.map d)) (s:Nat->Rat):
 (smd x (fr.map fun f=>(s f,d f))).length=u/\R.map (dq · (smd x (fr.map fun f=>(s f,d f))))=b:=by
 have h:=a.an (fr.map s) (by rw [length_map])
 rw [J7]at h
 refine⟨h.1,(a.sl _ h.1).mpr ?_⟩
 rw [h.2,J7]
theorem All.here {R:List (List Rat)}{b x:List Rat}{u:Nat}{fr:List Nat}{d:Nat->List Rat} (a:All R b u x fr (fr.map d)):R.map (dq · x)=b:=by
 have lb:∀f∈fr,(d f).length=u:=fun f q=>a.bu _ (mem_map.mpr ⟨f,q,rfl⟩)
 obtain⟨h1,h2⟩:=a.anys fun _=>0
 have e:smd x (fr.map fun f=>((0:Rat),d f))=x:=by
  rw [Gj h1,Gj a.lx]
  refine map_congr_left fun j y=> ?_
  rw [<-Gj a.lx,(R9 (s:=fun _=>0) a.lx lb).2 j,Ia (h:=fun f=>(0:Rat)*qf (d f) j) (fun f _=>rfl),Qi]
  grind
 rw [e]at h2
 exact h2
theorem All.nought {R:List (List Rat)}{b x:List Rat}{u:Nat}{fr:List Nat}{d:Nat->List Rat} (a:All R b u x fr (fr.map d)) (L:fr.Nodup) (G:∀r∈R,r.length=u) {f:Nat} (y:f∈fr) {r:List Rat} (F:r∈R):dq r (d f)=0:=by
 have lb:∀f∈fr,(d f).length=u:=fun f y=>a.bu _ (mem_map.mpr ⟨f,y,rfl⟩)
 obtain⟨h1,h2⟩:=a.anys fun g=>if f=g then 1 else 0
 have q:=(R9 (s:=fun g=>if f=g then(1:Rat)else 0) a.lx lb).2
 have e:∀j,qf (smd x (fr.map fun g=>((if f=g then(1:Rat)else 0),d g))) j=qf x j+qf (d f) j:=fun j=>by
  rw [q j,Ia (h:=fun g=>qf (d g) j*(if f=g then(1:Rat)else 0)) (fun g _=>by grind),Qj (f0:=f) (s:=fun g=>qf (d g) j) (g:=fun g=>if f=g then(1:Rat)else 0) (fun g _=>rfl) y L]
 have I:=a.here
 rw [<-h2]at I
 obtain⟨i,hi⟩:=getElem?_of_mem F
 have J:=congrArg (·[i]?) I
 simp only [getElem?_map,hi,map_some,Option.some.injEq]at J
 rw [Wg (G r F) a.lx,Wg (G r F) h1,U4 (fun j _=>e j)]at J
 rw [Wg (G r F) (lb f y)]
 grind
theorem Yc:∀ {l m:List Nat},l.Pairwise (· < ·)->m.Pairwise (· < ·)->(∀k,k∈l↔k∈m)->l=m
 | [],[],_,_,_=>rfl
 | [],b::m,_,_,h=>absurd ((h b).mpr mem_cons_self) (by simp)
 | a::l,[],_,_,h=>absurd ((h a).mp mem_cons_self) (by simp)
 | a::l,b::m,hl,hm,h=>by
   obtain⟨q,G⟩:=pairwise_cons.mp hl
   obtain⟨F,I⟩:=pairwise_cons.mp hm
   have e:a=b:=by
    rcases mem_cons.mp ((h a).mp mem_cons_self)with z | z
    . exact z
    . rcases mem_cons.mp ((h b).mpr mem_cons_self)with y | y
      . exact y.symm
      . have:=F a z
        have:=q b y
        omega
   subst e
   rw [Yc G I fun k=> ?_]
   constructor
   . intro d
     have:=q k d
     exact(mem_cons.mp ((h k).mp (mem_cons_of_mem _ d))).resolve_left (by omega)
   . intro d
     have:=F k d
     exact(mem_cons.mp ((h k).mpr (mem_cons_of_mem _ d))).resolve_left (by omega)
theorem Ms (cs:List Nat) (u:Nat):(frees cs u).Pairwise (· < ·):=Pairwise.filter _ List.pairwise_lt_range
theorem Mr {cs:List Nat}{u:Nat} (d:cs.Pairwise (· < ·)) (lt:∀c∈cs,c<u):frees (frees cs u) u=cs:=
 Yc (Ms _ _) d fun k=>by
  rw [Cz,Cz]
  constructor
  . rintro⟨h1,h2⟩
    exact Classical.byContradiction fun z=>h2 ⟨h1,z⟩
  . exact fun h=>⟨lt k h,fun z=>z.2 h⟩
structure Acg (R:List (List Rat)) (b:List Rat) (u:Nat) (x:List Rat) (fr:List Nat) (bs ys:List (List Rat)):Prop where
 lx:x.length=u
 xz:∀f∈fr,qf x f=0
 sx:R.map (dq · x)=b
 fi:fr.Pairwise (· < ·)
 fl:∀f∈fr,f<u
 lb:bs.length=fr.length
 bu:∀g∈bs,g.length=u
 bf:∀(k i:Nat) g f,bs[k]? =some g->fr[i]? =some f->qf g f=if i=k then 1 else 0
 bz:∀g∈bs,∀r∈R,dq r g=0
 bh:∀(k:Nat) g f,bs[k]? =some g->fr[k]? =some f->∀j,f<j->j<u->qf g j=0
 ly:ys.length=(frees fr u).length
 yu:∀y∈ys,y.length=R.length
 yl:∀(k:Nat) y c,ys[k]? =some y->(frees fr u)[k]? =some c->∀j,j<u->j∉fr->dq y (R.map (qf · j))=if j=c then 1 else 0
 yf:∀(k i:Nat) y c f g,ys[k]? =some y->(frees fr u)[k]? =some c->fr[i]? =some f->bs[i]? =some g->dq y (R.map (qf · f))= -(qf g c)
theorem Red.shown {M0 L:List (List Int)}{cs:List Nat}{d:Int}{u n:Nat}{R:List (List Rat)}{b x:List Rat}{J:Nat->List Rat} (h:Red M0 L cs d u u (u+1+R.length) n) (w:Wht M0 R b u) (lo:∀(i:Nat) r,cs.length<=i->L[i]? =some r->rf r u=0)
 (lx:x.length=u) (x0:∀j,j∉cs->qf x j=0) (x1:∀(i:Nat) r c,L[i]? =some r->cs[i]? =some c->qf x c=divInt (rf r u) d)
 (lb:∀f∈frees cs u,(J f).length=u) (O:∀f∈frees cs u,∀j,j<u->j∉cs->qf (J f) j=if j=f then 1 else 0) (U:∀f∈frees cs u,∀(i:Nat) r c,L[i]? =some r->cs[i]? =some c->qf (J f) c=divInt (-rf r f) d):
 Acg R b u x (frees cs u) ((frees cs u).map J) ((L.take cs.length).map fun r=>mul u r d):=by
 have a:=h.all w.whl lo lx x0 x1 lb O U
 have kl:=h.kl
 have dR:(d:Rat)≠0:=by exact_mod_cast h.d0
 have W:frees (frees cs u) u=cs:=Mr h.inc h.lt
 have Y:∀(k:Nat) g,((frees cs u).map J)[k]? =some g->∃f,(frees cs u)[k]? =some f/\g=J f/\f∈frees cs u:=fun k g q=>by
  rw [getElem?_map]at q
  obtain⟨f,G,rfl⟩:=map_eq_some_iff.mp q
  exact⟨f,G,rfl,List.mem_of_getElem? G⟩
 have Z:∀(k:Nat) y,((L.take cs.length).map fun r=>mul u r d)[k]? =some y->∃r,L[k]? =some r/\y=mul u r d/\r∈L/\k<cs.length:=fun k y q=>by
  rw [getElem?_map]at q
  obtain⟨r,F,rfl⟩:=map_eq_some_iff.mp q
  have kk:=(List.getElem?_eq_some_iff.mp F).1
  rw [length_take]at kk
  rw [List.getElem?_take_of_lt (by omega)]at F
  exact⟨r,F,rfl,List.mem_of_getElem? F,by omega⟩
 refine⟨lx,fun f G=>x0 f (Cz.mp G).2,a.here,Ms _ _,fun f G=>(Cz.mp G).1,by rw [length_map],a.bu,fun k i g f q hi=> ?_,fun g hg r F=> ?_,fun k g f q G j M ju=> ?_,?_,fun y hy=> ?_,fun k y c q I j M jf=> ?_,fun k i y c f g q I hi hg=> ?_⟩
 . obtain⟨f',h1,rfl,h2⟩:=Y k g q
   have hm:=Cz.mp (List.mem_of_getElem? hi)
   rw [O f' h2 f hm.1 hm.2]
   by_cases e:i=k
   . subst e
     rw [hi]at h1
     cases h1
     rw [if_pos rfl,if_pos rfl]
   . rw [if_neg e,if_neg fun z=>e ?_]
     subst z
     exact Yd (Ms cs u) hi h1
 . obtain⟨f,G,rfl⟩:=mem_map.mp hg
   exact a.nought (Fz _ _) w.lr G F
 . obtain⟨f',h1,rfl,h2⟩:=Y k g q
   rw [G]at h1
   cases h1
   by_cases I:j∈cs
   . obtain⟨i,hi⟩:=getElem?_of_mem I
     have il:=(List.getElem?_eq_some_iff.mp hi).1
     have er:L[i]? =some (L[i]'(by omega)):=getElem?_eq_getElem _
     rw [U f h2 i _ j er hi,h.fs i _ j er hi f M]
     simp
   . rw [O f h2 j ju I,if_neg (by omega)]
 . rw [W,length_map,length_take]
   omega
 . obtain⟨k,q⟩:=getElem?_of_mem hy
   obtain⟨r,_,rfl,F,_⟩:=Z k y q
   exact T3 (h.ln r F)
 . obtain⟨r,h1,rfl,F,h2⟩:=Z k y q
   rw [W]at I
   have jc:j∈cs:=Classical.byContradiction fun z=>jf (Cz.mpr ⟨M,z⟩)
   obtain⟨i,hi⟩:=getElem?_of_mem jc
   rw [(h.cert w F d).1 j M,h.pv k i r j h1 hi]
   by_cases e:j=c
   . subst e
     rw [if_pos rfl,if_pos (Yd h.inc I hi)]
     grind
   . rw [if_neg e,if_neg fun z=>e ?_]
     . simp only [Rat.intCast_zero]
       grind
     . subst z
       rw [I]at hi
       exact(Option.some.inj hi).symm
 . obtain⟨r,h1,rfl,F,h2⟩:=Z k y q
   rw [W]at I
   obtain⟨f',h3,rfl,h4⟩:=Y i g hg
   rw [hi]at h3
   cases h3
   rw [(h.cert w F d).1 f (Cz.mp h4).1,U f h4 k r c h1 I,divInt_eq_div,Rat.intCast_neg]
   grind
theorem Red.shows_none {M0 L:List (List Int)}{cs:List Nat}{d:Int}{u n i:Nat}{R:List (List Rat)}{b:List Rat}{r:List Int} (h:Red M0 L cs d u u (u+1+R.length) n) (w:Wht M0 R b u) (hi:cs.length<=i) (q:L[i]? =some r) (G:rf r u≠0):
 (mul u r (rf r u)).length=R.length/\(∀j,j<u->dq (mul u r (rf r u)) (R.map (qf · j))=0)/\dq (mul u r (rf r u)) b=1:=by
 have y:=List.mem_of_getElem? q
 obtain⟨I,J⟩:=h.cert w y (rf r u)
 have M:(rf r u:Rat)≠0:=by exact_mod_cast G
 refine⟨T3 (h.ln r y),fun j F=> ?_,?_⟩
 . rw [I j F,h.lo i r hi q j F]
   simp only [Rat.intCast_zero]
   grind
 . rw [J]
   grind
end Z
namespace Z
open PySem L2
local macro_rules | `(tactic| done)=> `(tactic| simp only [Aik,Aga,Ah7,Aij,Af2,Ahx,Adx,Aih,Agg,Agh,z_c,Aif,Aje,Aja,Aii,Ajb,Ah0,Aic,Ahz,Aib,Zz,Ajd,Ah2,Ah4,Ah1,Af3,Af4,Aie,Ahw,Ai9,Afy,Aig,Agb,Ai8,Afz,Aid,Af1,Ai7,Ail,Aia,Adw,Af0,Age,Agf,Ady,Af9,Ah5,Ah8,Ah9,Ah6,Ajc,Abk,Agd,Ai6,Ahy,Agc,Af7,Af6,Af5,Af8,Ad0,Ah3,Adz,cpσ,List.getElem?_cons_zero,List.getElem?_cons_succ,Option.join_some,List.set_cons_zero,List.set_cons_succ,append_nil,decide_eq_true_eq,Bool.not_eq_true',decide_eq_false_iff_not,Bool.not_not,ite_not,false_eq_true,Bool.true_eq_false,if_false,if_true,if_pos,length_cons,length_nil,Nat.zero_add,Nat.reduceAdd,Afp,Afq,true_and,and_true,L2.start,map_cons,map_nil,Bool.not_true,Bool.not_false,Nat.reduceSub,replicate_succ,List.replicate_zero,cons_append,nil_append])
def top (i:Nat):Stmt:=PySem.Challenge.pw_rootcourt_k71_equations_solved.main.body.getD i (.Pass ⟨0,0,0,0⟩)
theorem Cu {N P:List Str}{sc:Scope} (h1:sc.kind= .function:=by rfl) (h2:sc.isCoroutine=false:=by rfl) (d:sc.isGenerator=false:=by rfl) (q:N.Nodup:=by decide+kernel) (F:N.take P.length=P:=by rfl) (G:∀x∈P,sc.names.lookup x=some .local \/sc.names.lookup x=some .cell:=by decide+kernel) (I:∀y∈sc.names,y.2≠ .free:=by decide+kernel):Bg N P sc:=⟨h1,h2,d,q,F,G,I⟩
abbrev Kh:Stmt:=top 5
theorem Ul:Bg ["thing"] ["thing"] (Ak Kh):=Cu
abbrev M9:Stmt:=top 6
theorem Ir:Bg ["one","other","greater","lesser"] ["one","other"] (Ak M9):=Cu
abbrev Hh:Stmt:=top 8
theorem Gw:Bg ["thing","top","bottom"] ["thing"] (Ak Hh):=Cu
abbrev Kg:Stmt:=top 9
theorem Jj:Bg ["top","bottom","shared"] ["top","bottom"] (Ak Kg):=Cu
abbrev Uh:Stmt:=top 10
theorem Aa3:Bg ["one","other"] ["one","other"] (Ak Uh):=Cu
abbrev Io:Stmt:=top 15
theorem Du:Bg ["rows","right","unknowns","row","free","x","base","led","reduced","lead","place"] ["rows","right"] (Ak Io):=Cu
abbrev Dr:Stmt:=top 16
theorem Le:Bg ["rows","right"] ["rows","right"] (Ak Dr):=Cu
abbrev Hy:Stmt:=top 17
theorem Qh:Bg ["thing","fewest","most"] ["thing","fewest","most"] (Ak Hy):=Cu
abbrev Gn:Stmt:=top 18
theorem Ea:Bg ["rows","right","found","place","row","tops","bottom"] ["rows","right"] (Ak Gn):=Cu
abbrev Dy:Stmt:=top 19
theorem Dm:Bg ["some","bottom","one"] ["some"] (Ak Dy):=Cu
abbrev Ez:Stmt:=top 20
theorem Bv:Bg ["rows","unknowns","left","led","lead","unknown","turn","fitting"] ["rows","unknowns"] (Ak Ez):=Cu
abbrev Nh:Stmt:=top 21
theorem Oq:Bg ["rows","one","other","found"] ["rows","one","other"] (Ak Nh):=Cu
abbrev Jw:Stmt:=top 22
theorem G3:Bg ["rows","turn","unknown","lead","leader","found","place","row"] ["rows","turn","unknown","lead"] (Ak Jw):=Cu
abbrev Hg:Stmt:=top 23
theorem Ry:Bg ["tops","bottom"] ["tops","bottom"] (Ak Hg):=Cu
abbrev M8:Stmt:=top 24
theorem Ip:Bg ["here","led","reduced","lead","unknowns","found","place","row"] ["here","led","reduced","lead","unknowns"] (Ak M8):=Cu
abbrev Hj:Stmt:=top 25
theorem R7:Bg ["length","here"] ["length","here"] (Ak Hj):=Cu
abbrev Gv:Stmt:=top 26
theorem Nj:Bg ["rows","right","paper"] ["rows","right","paper"] (Ak Gv):=Cu
abbrev Gm:Stmt:=top 27
theorem Jz:Bg ["rows","right","ys","full"] ["rows","right","ys"] (Ak Gm):=Cu
abbrev En:Stmt:=top 28
theorem Ld:Bg ["thing","length"] ["thing","length"] (Ak En):=Cu
abbrev Fe:Stmt:=top 29
theorem Qg:Bg ["rows"] ["rows"] (Ak Fe):=Cu
abbrev Jx:Stmt:=top 30
theorem Fw:Bg ["lists","some","wanted","factors","scale","one","sought","weights"] ["lists","some","wanted"] (Ak Jx):=Cu
abbrev Ei:Stmt:=top 31
theorem Ds:Bg ["rows","right","paper","unknowns","led","x","free","base","ys"] ["rows","right","paper"] (Ak Ei):=Cu
abbrev Gb:Stmt:=top 32
theorem R0:Bg ["free","unknowns"] ["free","unknowns"] (Ak Gb):=Cu
abbrev Hf:Stmt:=top 33
theorem Rx:Bg ["thing","many","length"] ["thing","many","length"] (Ak Hf):=Cu
abbrev Jy:Stmt:=top 34
theorem W2:Bg ["rows","one","free","here"] ["rows","one","free","here"] (Ak Jy):=Cu
abbrev Uk:Stmt:=top 35
theorem Lr:Bg ["rows","ys","free","base","here","wanted","place","one"] ["rows","ys","free","base","here"] (Ak Uk):=Cu
abbrev Nf:Stmt:=top 38
theorem Ko:Bg ["_law_draw","_law_k","_law_mix"] ["_law_draw","_law_k"] (Ak Nf):=Cu
abbrev Qe:Stmt:=top 39
theorem R4:Bg ["_law_source_here","_law_many","_law_found"] ["_law_source_here","_law_many"] (Ak Qe):=Cu
abbrev Km:Stmt:=top 40
theorem Um:Bg ["_law_draw"] ["_law_draw"] (Ak Km):=Cu
abbrev Kl:Stmt:=top 41
theorem Ni:Bg ["_law_one","_law_other"] ["_law_one","_law_other"] (Ak Kl):=Cu
abbrev Qc:Stmt:=top 42
theorem R3:Bg ["_law_top","_law_bottom","_law_by"] ["_law_top","_law_bottom"] (Ak Qc):=Cu
abbrev Uj:Stmt:=top 43
theorem Aa4:Bg ["_law_one","_law_other"] ["_law_one","_law_other"] (Ak Uj):=Cu
abbrev Ji:Stmt:=top 44
theorem R5:Bg ["_law_one","_law_other"] ["_law_one","_law_other"] (Ak Ji):=Cu
abbrev Ui:Stmt:=top 45
theorem J0:Bg ["_law_some","_law_others","_law_found","_law_one","_law_other"] ["_law_some","_law_others"] (Ak Ui):=Cu
abbrev Nb:Stmt:=top 46
theorem Oo:Bg ["_law_source_here","_law_way"] ["_law_source_here"] (Ak Nb):=Cu
abbrev Eo:Stmt:=top 47
theorem Ef:Bg ["_law_source_here","_law_rows_here","_law_many","_law_found","_law_row","_law_by"] ["_law_source_here","_law_rows_here","_law_many"] (Ak Eo):=Cu
abbrev Lq:Stmt:=top 48
theorem J1:Bg ["_law_source_here","_law_many","_law_rows_here","_law_k"] ["_law_source_here"] (Ak Lq):=Cu
abbrev Em:Stmt:=top 49
theorem Dz:Bg ["_law_source_here","_law_rows_here","_law_x","_law_right_here","_law_way","_law_at"] ["_law_source_here","_law_rows_here"] (Ak Em):=Cu
abbrev Hi:Stmt:=top 50
theorem Hz:Bg ["_law_ys","_law_rows_here","_law_found","_law_k"] ["_law_ys","_law_rows_here"] (Ak Hi):=Cu
abbrev Qf:Stmt:=top 51
theorem R6:Bg ["_law_at","_law_many","_law_found"] ["_law_at","_law_many"] (Ak Qf):=Cu
abbrev Qd:Stmt:=top 52
theorem Zd:Bg ["_law_thing","_law_many"] ["_law_thing","_law_many"] (Ak Qd):=Cu
abbrev Fq:Stmt:=top 53
theorem Ja:Bg ["_law_thing","_law_many","_law_one"] ["_law_thing","_law_many"] (Ak Fq):=Cu
abbrev Dl:Stmt:=top 54
theorem Dc:Bg ["_law_rows_here","_law_right_here","_law_x","_law_free","_law_base","_law_ys","_law_many","_law_led","_law_k","_law_one","_law_weights","_law_due","_law_j"] ["_law_rows_here","_law_right_here","_law_x","_law_free","_law_base","_law_ys"] (Ak Dl):=Cu
abbrev Zc:Stmt:=top 55
theorem Adl:Bg ["_law_rows_here","_law_right_here","_law_paper"] ["_law_rows_here","_law_right_here","_law_paper"] (Ak Zc):=Cu
abbrev Im:Stmt:=top 56
theorem Jk:Bg ["_law_paper","_law_at","_law_one"] ["_law_paper"] (Ak Im):=Cu
abbrev Ng:Stmt:=top 57
theorem W3:Bg ["_law_rows_here","_law_right_here","_law_paper"] ["_law_rows_here","_law_right_here","_law_paper"] (Ak Ng):=Cu
abbrev Ob:Stmt:=top 58
theorem Iz:Bg ["_law_script","_law_draw","_law_source_here","_law_rows_here","_law_handed","_law_paper","_law_part","_law_right_here","_law_x","_law_one"] ["_law_script"] (Ak Ob):=Cu
def Aba (K:Frag):Sp:=fun vs H Q _=>∃(a:Addr) (ns:List Int),vs=[.ref a]/\SqL K H a (ns.map V.int)/\ns.length<=63/\∀H',Q (.bl true) H'
def cell (ns:List Int) (k:Int):Int:=ns.getD k.toNat 0
section
variable {P:Program}{w:World}{K:Frag}{mg:Str->Option Value}{base:Heap}
def Ahj:Sp:=fun vs H Q _=>∃a b:Int,vs=[.int a,.int b]/\Q (.int (Int.gcd a b:Int)) H
def Kq (_:Frag):Sp:=Ahj
theorem Wr {f:Addr}{fd:FuncData} (F:Df K mg "divisor" M9 ["one","other"] f fd) (d:mg "abs"=none)   :Cal P w K mg base 33 "divisor" ["one","other"] (Kq K):=by
 refine F.cal (F.fn.ok Ir (fun L H Q E h=> ?_) (fun M A outer s H L Q E hr h=> ?_))
 . obtain⟨a,b,rfl,_⟩:=h
   rfl
 obtain⟨a,b,rfl,q⟩:=h
 refine Ax ⟨_,(Ae (Bc 2 Ir.nd (Ar Pa rfl d boot_abs (Aa (Ac 0) Ab)))
  (Ae (Bc 3 Ir.nd (Ar Pa rfl d boot_abs (Aa (Ac 1) Ab)))
  (Ae (Ma PassesOwn.never (Aq Rp (Ac 3) Ad (Bl _)) (Af (Qx (i:=2) (j:=3) rfl Ir.nd rfl rfl (by decide) rfl rfl (Aa (Ac 3) (Aa (Ao Iw (Ac 2) (Ac 3)) Ab)) rfl)))
  (Af (Aj (Ac 2)))))),?_⟩
 repeat (first | done | simp only [abs_eq])
 refine V4 (fun σ H'=>H'=H/\∃x y:Nat,σ=[some (.int a),some (.int b),some (.int x),some (.int y)]/\Nat.gcd x y=Nat.gcd a.natAbs b.natAbs)
  (fun σ _=>match σ with | [_,_,_,some (.int y)]=>y.toNat | _=>0) ⟨rfl,_,_,rfl,rfl⟩ ?_ ?_
 . rintro σ H' ⟨rfl,x,y,rfl,e⟩
   done
   by_cases J:(y:Int)=0
   . rw [if_pos J]
     have G:y=0:=by omega
     subst G
     rw [Nat.gcd_zero_right]at e
     subst e
     exact q
   . rw [if_neg J]
     refine⟨by omega,⟨y,x%y,by rw [natCast_emod],by rw [Vd];exact e⟩,?_⟩
     show((x:Int)%(y:Int)).toNat<(y:Int).toNat
     rw [<-natCast_emod,toNat_natCast,toNat_natCast]
     exact mod_lt _ (by omega)
 . intro σ H' Q1 Q2 I
   simp only [Zz,Aif]
   rintro⟨v,O,U⟩
   exact⟨v,O,by
    obtain⟨W,k,Y,Z⟩:=U
    exact⟨W,k,Y,I _ _ Z⟩⟩
def IsQ (K:Frag) (H:Hp) (v:V) (q:Rat):Prop:=∃a,v= .ref a/\SqT K H a [.int q.num,.int (q.den:Int)]
def Szq (n:Nat) (q:Rat):Prop:=Sz n q.num/\Sz n (q.den:Int)
theorem IsQ.mono {H H':Hp}{v:V}{q:Rat} (h:IsQ K H v q) (s:Same H H'):IsQ K H' v q:=by
 obtain⟨a,e,t⟩:=h
 exact⟨a,e,s.tup t⟩
theorem Szq.of {n:Nat}{a b:Int} (h:Sz n a) (g:Sz n b) (d:b≠0):Szq n (divInt a b):=
 ⟨h.of_abs (Ae4 a b),g.of_abs (by have:=Aek (a:=a) d;omega)⟩
theorem Iv (q:Rat):((q.den:Nat):Int)≠0:=by have:=q.den_nz;omega
def Kz (K:Frag):Sp:=fun vs H Q E=>∃a b:Int,vs=[.int a,.int b]/\(b≠0->∀z H',Same H H'->IsQ K H' z (divInt a b)->Q z H')/\(b=0->E (.ref (cA K "NoPart")) none H)
def Ge (K:Frag):Sp:=fun vs H Q _=>∃a b:Int,vs=[.int a,.int b]/\b≠0/\∀z H',Same H H'->IsQ K H' z (divInt a b)->Q z H'
theorem Pq (K:Frag):∀d H Q E,Ge K d H Q E->Kz K d H Q E0:=by
 rintro d H Q E ⟨a,b,rfl,y,q⟩
 exact⟨a,b,rfl,fun _=>q,fun z=>(y z).elim⟩
theorem T4 {f:Addr}{fd:FuncData} (F:Df K mg "fraction" Kg ["top","bottom"] f fd)  (W:Pyl P base) (d:Z5 K (cA K "NoPart")) (y:mg "NoPart"=some (.ref (cA K "NoPart"))) (G:Cal P w K mg base 33 "divisor" ["one","other"] (Kq K)):Ad5 P w K mg base 34 "fraction" ["top","bottom"] (Kz K):=by
 refine F.calE (F.fn.okE Jj (fun Y H Q E h=> ?_) (fun Z A outer s H Y Q E O h=> ?_))
 . obtain⟨a,b,rfl,_⟩:=h
   rfl
 obtain⟨a,b,rfl,q,q0⟩:=h
 refine Ax ⟨_,(Ae (Ay (Aq Gf (Ac 1) Ad (Bl _)) (Af (G6 d y (Aa Cy Ab))) Av)
  (Ae (Bc 2 Jj.nd (Ai G O (Aa (Ac 0) (Aa (Ac 1) Ab))))
  (Ae (Ay (Aq Yv (Ac 1) Ad (Bl _)) (Af (Bc 2 Jj.nd (O6 Zv (Ac 2)))) Av)
  (Af (Aj (Bq (Aa (Ao (Il W (O.far (by decide)) rfl rfl rfl rfl rfl) (Ac 0) (Ac 2)) (Aa (Ao (Il W (O.far (by decide)) rfl rfl rfl rfl rfl) (Ac 1) (Ac 2)) Ab)))))))),?_⟩
 done
 by_cases L:b=0
 . rw [if_pos L]
   exact q0 L
 rw [if_neg L]
 replace q:=q L
 refine⟨a,b,rfl,?_⟩
 done
 have M:((Int.gcd a b:Nat):Int)≠0:=by
  have:=Int.gcd_pos_of_ne_zero_right a L
  omega
 split
 . rename_i I
   refine⟨by omega,by omega,fun p U=> ?_⟩
   rw [(Vb I).1,(Vb I).2]
   exact q _ _ (Same.upd U _) ⟨p,rfl,.of Ag⟩
 . rename_i I
   have J:0<b:=by omega
   refine⟨M,M,fun p U=> ?_⟩
   rw [(Js J).1,(Js J).2]
   exact q _ _ (Same.upd U _) ⟨p,rfl,.of Ag⟩
theorem at0 {α:Type} (x:α) (r:List α):atI (x::r) 0=some x:=Ba (j:=0) rfl
theorem at1 {α:Type} (x y:α) (r:List α):atI (x::y::r) 1=some y:=Ba (j:=1) rfl
structure Eqh (H H':Hp):Prop where
 e:H'=H
def Hs (b:Int) (q:Rat):Int:=q.num*(b/(q.den:Int))
def Er (K:Frag):Sp:=fun vs H Q _=>∃(a:Addr) (es:List (V × Rat)) (n:Nat),vs=[.ref a]/\H a=some (.lst (es.map (·.1)))/\(∀e∈es,IsQ K H e.1 e.2/\Szq n e.2)/\es.length<=10/\n<=10000000/\
 ∀z l b H',Same H H'->H' z=some (.tup [.ref l,.int b])->H' l=some (.lst (es.map fun e=>V.int (Hs b e.2)))->0<b->Sz (n*10+1) b->(∀e∈es,(e.2.den:Int)∣b)->Q (.ref z) H'
structure Oob (es:List Rat) (n:Nat) (b:Int):Prop where
 pos:0<b
 sz:Sz (n*es.length+1) b
 dv:∀q∈es,(q.den:Int)∣b
theorem Ju {f:Addr}{fd:FuncData} (F:Df K mg "over_one_bottom" Dy ["some"] f fd)  (py:Pyl P base)  :Cal P w K mg base 33 "over_one_bottom" ["some"] (Er K):=by
 refine F.cal (F.fn.ok Dm (fun vs H Q E h=> ?_) (fun a1 A outer s H vs Q E hr h=> ?_))
 . obtain⟨a,es,n,rfl,_⟩:=h
   rfl
 obtain⟨a,es,n,rfl,M,hq,hl,hn,k⟩:=h
 refine Ax ⟨_,(Ae (Bc 1 Dm.nd Ad)
  (Ae (Bu PassesOwn.never rfl (Bj (Ac 0)) (Ah 2 Dm.nd) (Af (Ay (Aq Rp (Ao Iw (Ac 1) (Al Br (Ac 2) Ad (fun _ _=>rfl))) Ad (Bl _)) (Af (Bc 1 Dm.nd (Ao Dg (Ac 1) (Al Br (Ac 2) Ad (fun _ _=>rfl))))) Av)))
  (Af (Aj (Bq (Aa (Bf (ts:=["one"]) (fs:=[(1,"bottom")]) rfl (Bb.of (sc:=Ak Dy) (N:=["some","bottom","one"]) rfl rfl (by decide+kernel)) (Bj (Ac 0)) (fun _ _ _=>(Ah 0 (show Nodup (["one","bottom"]:List Str)by decide+kernel))) (fun _ _ _=>Az) (fun _ _ _=>(Ao Dg (Al (Yj K) (Ac 0) Ad (fun _ _=>rfl)) (Ao (Aas py (hr.far (by decide)) rfl rfl rfl rfl rfl) (Ac 1) (Al (Yj K) (Ac 0) Ad (fun _ _=>rfl)))))) (Aa (Ac 1) Ab))))))),?_⟩
 done
 refine⟨⟨_,.of M⟩,Ra (es:=es) (inj:=(·.1)) (fun d I H'=>∃(b:Int) (o:Option V),Eqh H H'/\I=[some (.ref a),some (.int b),o]/\Oob (d.map (·.2)) n b) ⟨1,_,⟨rfl⟩,rfl,⟨by decide,by rw [map_nil,length_nil,Nat.mul_zero];unfold Sz;decide,by simp⟩⟩ ?_ ?_ ?_⟩
 . rintro d I H' ⟨b,o,⟨rfl⟩,rfl,_⟩
   exact Dv (.of M)
 . rintro d e a0 I H' hE ⟨b,o,⟨rfl⟩,rfl,G⟩
   have hm:e∈es:=by rw [hE];simp
   obtain⟨⟨c,Y,L⟩,O⟩:=hq e hm
   have U:(0:Int)<(e.2.den:Int):=by have:=e.2.den_pos;omega
   have pl:d.length<=10:=by
    have:=congrArg List.length hE
    rw [length_append]at this
    omega
   have nl:n*d.length<=10000000*10:=mul_le_mul hn pl
   have y:=G.sz
   rw [length_map]at y
   have ls:(d++ [e]).map (·.2)=d.map (·.2)++ [e.2]:=by rw [map_append];rfl
   rw [ls,Y]
   done
   refine Cd L (at1 _ _ _) ?_
   try done
   refine⟨U,?_⟩
   by_cases Z:b%(e.2.den:Int)=0
   . rw [if_pos Z]
     refine⟨b,_,⟨rfl⟩,rfl,G.pos,y.mono ?_,fun q J=> ?_⟩
     . rw [length_append,length_map,length_singleton,mul_succ]
       omega
     . rcases mem_append.mp J with h | h
       . exact G.dv q h
       . have e1:q=e.2:=by simpa using h
         rw [e1]
         exact Int.dvd_of_emod_eq_zero Z
   . rw [if_neg Z]
     refine Cd L (at1 _ _ _) ?_
     try done
     refine⟨y.mulOk O.2 (by omega),b*(e.2.den:Int),_,⟨rfl⟩,rfl,mul_pos G.pos U,(y.mul O.2).mono ?_,fun q J=> ?_⟩
     . rw [length_append,length_map,length_singleton,mul_succ]
       omega
     . rcases mem_append.mp J with h | h
       . exact Int.dvd_mul_of_dvd_left (G.dv q h)
       . have e1:q=e.2:=by simpa using h
         rw [e1]
         exact Int.dvd_mul_left _ _
 rintro I H' ⟨b,o,⟨rfl⟩,rfl,G⟩
 have el:n*es.length<=n*10:=mul_le_mul_left _ hl
 have y:=G.sz
 rw [length_map]at y
 have zb:Sz (n*10+1) b:=y.mono (by omega)
 done
 refine⟨⟨_,.of M⟩,fun p hp=>Gs (es:=es) (inj:=(·.1)) (fun e=> .int (Hs b e.2)) (le_trans hl (by decide)) hp (Ec (.of M)) ?_ ?_⟩
 . intro e H2 R he W hR
   obtain⟨⟨c,Y,L⟩,O⟩:=hq e he
   have U:(0:Int)<(e.2.den:Int):=by have:=e.2.den_pos;omega
   rw [Y]
   done
   refine Cd (W.tup L) (at0 _ _) (Cd (W.tup L) (at1 _ _ _) ?_)
   try done
   refine⟨U,?_⟩
   have zq:Sz (n*10+1) (b/(e.2.den:Int)):=zb.of_abs (by
    have h1:b/(e.2.den:Int)<=b:=Int.ediv_le_self _ (by have:=G.pos;omega)
    have h2:0<=b/(e.2.den:Int):=Int.ediv_nonneg (by have:=G.pos;omega) (by omega)
    omega)
   exact⟨O.1.mulOk zq (by omega),hR _ (Same.refl _)⟩
 intro H2 W h2
 try done
 exact fun z hz=>k z p b _ (W.trans (Same.upd hz _)) Ag (Same.upd hz _ _ _ h2) G.pos zb fun e he=>G.dv e.2 (mem_map.mpr ⟨e,he,rfl⟩)
abbrev Rw:=Addr × List Int
structure Mx (H:Hp) (a:Addr) (rs:List Rw):Prop where
 it:H a=some (.lst (rs.map fun r=>V.ref r.1))
 al:∀r∈rs,H r.1=some (.lst (r.2.map V.int))
theorem Mx.mono {H H':Hp}{a:Addr}{rs:List Rw} (h:Mx H a rs) (s:Same H H'):Mx H' a rs:=⟨s _ _ h.it,fun r d=>s _ _ (h.al r d)⟩
def O2 (K:Frag):Sp:=fun vs H Q _=>∃(a:Addr) (rs:List Rw) (i j:Nat) (x y:Rw),vs=[.ref a,.int (i:Nat),.int (j:Nat)]/\Mx H a rs/\rs.length<=20/\rs[i]? =some x/\rs[j]? =some y/\∀z H',Same H H'->Mx H' z ((rs.set i y).set j x)->Q (.ref z) H'
theorem Ww {f:Addr}{fd:FuncData} (F:Df K mg "swapped" Nh ["rows","one","other"] f fd) (d:mg "list"=none)   :Cal P w K mg base 33 "swapped" ["rows","one","other"] (O2 K):=by
 refine F.cal (F.fn.ok Oq (fun W H Q E h=> ?_) (fun Y A outer s H W Q E hr h=> ?_))
 . obtain⟨a,q,i,j,x,y,rfl,_⟩:=h
   rfl
 obtain⟨a,q,i,j,x,y,rfl,G,hl,hi,I,k⟩:=h
 have Z:=(List.getElem?_eq_some_iff.mp hi).1
 have lj:=(List.getElem?_eq_some_iff.mp I).1
 refine Ax ⟨_,(Ae (Bc 3 Oq.nd (Hu Hw rfl d boot_list (Aa (Ac 0) Ab)))
  (Ae (Cp (Al Bp (Ac 0) (Ac 2) (fun _ _=>rfl)) (Ed (Ac 3) (Ac 1) set_list))
  (Ae (Cp (Al Bp (Ac 0) (Ac 1) (fun _ _=>rfl)) (Ed (Ac 3) (Ac 2) set_list))
  (Af (Aj (Ac 3)))))),?_⟩
 done
 refine⟨a,_,rfl,.inl (.of G.it),fun z J=> ?_⟩
 have M:=Same.upd J (.lst (q.map fun r=>V.ref r.1))
 refine Cq (.of (M _ _ G.it)) (v:= .ref y.1) (Ba (by rw [getElem?_map,I];rfl)) ?_
 try done
 refine N6 (j:=i) Ag (by rw [length_map];exact Z) ?_
 have O:∀ {b o},H b=some o->upd (upd H z (.lst (q.map fun r=>V.ref r.1))) z (.lst ((q.map fun r=>V.ref r.1).set i (.ref y.1))) b=some o:=fun {b o} e=>by
  rw [Bs (Bo e J)]
  exact M _ _ e
 refine Cq (.of (O G.it)) (v:= .ref x.1) (Ba (by rw [getElem?_map,hi];rfl)) ?_
 try done
 refine N6 (j:=j) Ag (by rw [length_set,length_map];exact lj) ?_
 have U:∀ {b o},H b=some o->upd (upd (upd H z (.lst (q.map fun r=>V.ref r.1))) z (.lst ((q.map fun r=>V.ref r.1).set i (.ref y.1)))) z (.lst (((q.map fun r=>V.ref r.1).set i (.ref y.1)).set j (.ref x.1))) b=some o:=fun {b o} e=>by
  rw [Bs (Bo e J)]
  exact O e
 try done
 refine k z _ (fun b o e=>U e) ⟨?_,fun r L=>U (G.al r ?_)⟩
 . rw [Ag,map_set,map_set]
 . rcases List.mem_or_eq_of_mem_set L with h | h
   . rcases List.mem_or_eq_of_mem_set h with h | h
     . exact h
     . rw [h]
       exact List.mem_of_getElem? I
   . rw [h]
     exact List.mem_of_getElem? hi
structure Clr (rs rs':List Rw) (t:Rw) (i c:Nat) (d:Int):Prop where
 ln:rs'.length=rs.length
 me:rs'[i]? =some t
 ot:∀j r,j≠i->rs[j]? =some r->∃r',rs'[j]? =some r'/\r'.2=clr t.2 c d r.2
structure Cli (H H':Hp) (p:Addr) (qs pre:List Rw) (t:Rw) (i c:Nat) (d:Int):Prop where
 sm:Same H H'
 it:H' p=some (.lst (qs.map fun r=>V.ref r.1))
 al:∀r∈qs,H' r.1=some (.lst (r.2.map V.int))/\r.1≠p
 ln:qs.length=pre.length
 me:i<pre.length->qs[i]? =some t
 ot:∀j r,j≠i->pre[j]? =some r->∃r',qs[j]? =some r'/\r'.2=clr t.2 c d r.2
theorem Cli.snoc {H H1 H2:Hp}{p:Addr}{qs q:List Rw}{t e x:Rw}{i c:Nat}{d:Int} (h:Cli H H1 p qs q t i c d) (I:H p=none) (s:Same H1 H2) (J:H2 x.1=some (.lst (x.2.map V.int))) (nx:x.1≠p) (h1:q.length=i->x=t) (h2:q.length≠i->x.2=clr t.2 c d e.2):
 Cli H (upd H2 p (.lst ((qs.map fun r=>V.ref r.1)++ [.ref x.1]))) p (qs++ [x]) (q++ [e]) t i c d:=by
 refine⟨(h.sm.trans s).put I,by rw [Ag,map_append];rfl,fun r y=> ?_,by rw [length_append,length_append,h.ln];rfl,fun hi=> ?_,fun j r G y=> ?_⟩
 . rcases mem_append.mp y with y | y
   . obtain⟨a,b⟩:=h.al r y
     exact⟨by rw [Bs b];exact s _ _ a,b⟩
   . have L:r=x:=by simpa using y
     rw [L]
     exact⟨by rw [Bs nx];exact J,nx⟩
 . rw [length_append,length_singleton]at hi
   by_cases F:i<q.length
   . rw [getElem?_append_left (by rw [h.ln];exact F)]
     exact h.me F
   . have el:q.length=i:=by omega
     rw [<-el,<-h.ln,getElem?_append_right (le_refl _),sub_self,h1 el]
     rfl
 . by_cases F:j<q.length
   . rw [getElem?_append_left F]at y
     obtain⟨M,a,b⟩:=h.ot j r G y
     exact⟨M,by rw [getElem?_append_left (by rw [h.ln];exact F)];exact a,b⟩
   . have O:j<(q++ [e]).length:=(List.getElem?_eq_some_iff.mp y).1
     rw [length_append,length_singleton]at O
     have el:j=q.length:=by omega
     subst el
     rw [getElem?_append_right (le_refl _),sub_self]at y
     have U:e=r:=by simpa using y
     refine⟨x,?_,?_⟩
     . rw [<-h.ln,getElem?_append_right (le_refl _),sub_self]
       rfl
     . rw [<-U]
       exact h2 G
theorem Aaj {l:List Int}{j:Nat} (h:j<l.length):(l.map V.int)[j]? =some (.int (l.getD j 0)):=by
 rw [getElem?_map,getD_eq_getElem?_getD,getElem?_eq_getElem h]
 rfl
theorem Ais {l:List Int}{j:Nat} (h:j<l.length):(l.map V.int).getD j .non= .int (l.getD j 0):=by
 rw [getD_eq_getElem?_getD,Aaj h]
 rfl
theorem Aeh {t s:List Int}{c N:Nat}{d:Int} (q:t.length=N) (y:s.length=N):(List.range N).map (fun j=>V.int ((t.getD c 0*s.getD j 0-s.getD c 0*t.getD j 0).fdiv d))=(clr t c d s).map V.int:=by
 refine List.ext_getElem? fun j=> ?_
 unfold clr
 rw [getElem?_map,getElem?_map,List.getElem?_zipWith]
 by_cases h:j<N
 . rw [getElem?_range h,getElem?_eq_getElem (by omega),getElem?_eq_getElem (by omega)]
   simp only [map_some]
   rw [getD_eq_getElem?_getD (l:=s) (i:=j),getElem?_eq_getElem (by omega),getD_eq_getElem?_getD (l:=t) (i:=j),getElem?_eq_getElem (by omega)]
   rfl
 . rw [getElem?_eq_none (by simp;omega),getElem?_eq_none (show s.length<=j by omega)]
   rfl
def Ox (K:Frag):Sp:=fun vs H Q _=>∃(a:Addr) (rs:List Rw) (i c N n:Nat) (d:Int) (t:Rw),vs=[.ref a,.int (i:Nat),.int (c:Nat),.int d]/\Mx H a rs/\rs.length<=20/\rs[i]? =some t/\c<N/\N<=100/\(∀r∈rs,r.2.length=N/\∀x∈r.2,Sz n x)/\n<=10000000/\d≠0/\
 ∀z H' rs',Same H H'->Mx H' z rs'->Clr rs rs' t i c d->Q (.ref z) H'
theorem Wo {f:Addr}{fd:FuncData} (F:Df K mg "cleared" Jw ["rows","turn","unknown","lead"] f fd) (y:mg "enumerate"=none) (M:mg "zip"=none) (py:Pyl P base)  :Cal P w K mg base 33 "cleared" ["rows","turn","unknown","lead"] (Ox K):=by
 refine F.cal (F.fn.ok G3 (fun vs H Q E h=> ?_) (fun a5 A outer s H vs Q E hr h=> ?_))
 . obtain⟨a,rs,i,c,N,n,d,t,rfl,_⟩:=h
   rfl
 obtain⟨a,rs,i,c,N,n,d,t,rfl,O,hl,hi,hc,hN,W,hn,d0,k⟩:=h
 have tm:=List.mem_of_getElem? hi
 refine Ax ⟨_,(Ae (Bc 4 G3.nd (Al Bp (Ac 0) (Ac 1) (fun _ _=>rfl)))
  (Ae (Bc 5 G3.nd (Bt Ab))
  (Ae (Bu PassesOwn.never rfl (Hv rfl y (Aa (Ac 0) Ab)) (Ci rfl (Am (Ah 6 G3.nd) (Am (Ah 7 G3.nd) Bm))) (Af (Ay (Aq Gf (Ac 6) (Ac 1) (Bl _)) (Af (Dd (Fj plainAttrs_list PySem.F.slot_list_append PySem.F.type_list_append Dq (Ac 5) (Aa (Ac 4) Ab)))) (Af (Dd (Fj plainAttrs_list PySem.F.slot_list_append PySem.F.type_list_append Dq (Ac 5) (Aa (Bf (ts:=["weight","other"]) (fs:=[(3,"lead"),(4,"leader"),(2,"unknown"),(7,"row")]) rfl (Bb.of (sc:=Ak Jw) (N:=["rows","turn","unknown","lead","leader","found","place","row"]) rfl rfl (by decide+kernel)) (Cr false false rfl M (Aa (Ac 7) (Aa (Ac 4) Ab))) (fun _ _ _=>(Es K 2 rfl rfl (Am (Ah 0 (show Nodup (["weight","other","lead","leader","unknown","row"]:List Str)by decide+kernel)) (Am (Ah 1 (show Nodup (["weight","other","lead","leader","unknown","row"]:List Str)by decide+kernel)) Bm)))) (fun _ _ _=>Az) (fun _ _ _=>(Ao (Il py (hr.far (by decide)) rfl rfl rfl rfl rfl) (Ao M4 (Ao Dg (Al (Dw K) (Ac 3) (Ac 4) (fun _ _=>rfl)) (Ac 0)) (Ao Dg (Al (Dw K) (Ac 5) (Ac 4) (fun _ _=>rfl)) (Ac 1))) (Ac 2)))) Ab)))))))
  (Af (Aj (Ac 5)))))),?_⟩
 done
 refine Cq (.of O.it) (v:= .ref t.1) (Ba (by rw [getElem?_map,hi];rfl)) ?_
 try done
 refine⟨by decide,fun p hp=> ?_⟩
 have s1:=Same.upd hp (.lst [])
 have tp:t.1≠p:=Bo (O.al t tm) hp
 obtain⟨tN,tz⟩:=W t tm
 refine⟨⟨_,.of (s1 _ _ O.it)⟩,Va (es:=rs) (inj:=fun r=>V.ref r.1) (fun G J H'=>∃(L:List Rw) (o6 o7:Option V),J=[some (.ref a),some (.int (i:Nat)),some (.int (c:Nat)),some (.int d),some (.ref t.1),some (.ref p),o6,o7]/\Cli H H' p L G t i c d) ⟨[],_,_,rfl,⟨s1,Ag,by simp,rfl,fun h=>absurd h (not_lt_zero _),by simp⟩⟩ ?_ ?_ ?_⟩
 . rintro G J H' ⟨L,o6,o7,rfl,I⟩
   exact .of (I.sm _ _ O.it)
 . rintro G e a4 J H1 b hE ⟨L,o6,o7,rfl,I⟩ hb
   have U:=Same.upd hb (.tup [V.int (G.length:Nat),V.ref e.1])
   refine Eb (.of Ag) ?_
   generalize upd H1 b (.tup [V.int (G.length:Nat),V.ref e.1])=H2 at U
   have em:e∈rs:=by rw [hE];simp
   obtain⟨eN,ez⟩:=W e em
   have lq:(L.map fun r=>V.ref r.1).length<sizeLine:=by
    have:=congrArg List.length hE
    rw [length_append,length_cons]at this
    rw [length_map,I.ln]
    exact lt_of_lt_of_le (show G.length<21 by omega) (by decide)
   have Y:=U _ _ I.it
   done
   by_cases Z:((G.length:Nat):Int)=(i:Nat)
   . rw [if_pos Z]
     have a1:G.length=i:=by omega
     exact⟨.inl ⟨rfl,_,.of Y⟩,p,_,_,rfl,rfl,Y,lq,L++ [t],_,_,rfl,I.snoc hp U (U _ _ (I.sm _ _ (O.al t tm))) tp (fun _=>rfl) fun h=>absurd a1 h⟩
   . rw [if_neg Z]
     have a2:G.length≠i:=by omega
     have a0:=I.sm.trans U
     have ge:=a0 _ _ (O.al e em)
     have gt:=a0 _ _ (O.al t tm)
     refine⟨.inl ⟨rfl,_,.of Y⟩,e.1,t.1,rfl,⟨_,show SqL K H2 e.1 _ from .of ge⟩,⟨_,show SqL K H2 t.1 _ from .of gt⟩,fun q hq=> ?_⟩
     refine Jp (xs:=e.2.map V.int) (ys:=t.2.map V.int) N (by rw [length_map,length_map,eN,tN,Nat.min_self]) (fun j=>V.int ((t.2.getD c 0*e.2.getD j 0-e.2.getD c 0*t.2.getD j 0).fdiv d)) (le_trans hN (by decide)) hq (fun H' s'=>show SqL K H' e.1 _ from .of (s' _ _ ge)) (fun H' s'=>show SqL K H' t.1 _ from .of (s' _ _ gt)) ?_ ?_
     . intro j H3 b3 R hj s3 h3 hR
       rw [Ais (by omega),Ais (by omega)]at h3
       refine Eb (.of h3) ?_
       have sz:∀(l:List Int),(∀x∈l,Sz n x)->l.length=N->∀m,m<N->Sz n (l.getD m 0):=fun l a3 a6 m a7=>by
        rw [getD_eq_getElem?_getD,getElem?_eq_getElem (by omega)]
        exact a3 _ (getElem_mem _)
       done
       refine Cq (.of (s3 _ _ gt)) (v:= .int (t.2.getD c 0)) (Ba (Aaj (by omega))) ?_
       try done
       refine⟨(sz _ tz tN c hc).mulOk (sz _ ez eN j hj) (by omega),Cq (.of (s3 _ _ ge)) (v:= .int (e.2.getD c 0)) (Ba (Aaj (by omega))) ?_⟩
       try done
       exact⟨(sz _ ez eN c hc).mulOk (sz _ tz tN j hj) (by omega),d0,hR _ (Same.refl _)⟩
     intro H3 s3 h3
     rw [Aeh tN eN]at h3
     have nq:q≠p:=Ne.symm (Bo Y hq)
     exact⟨p,_,_,rfl,rfl,s3 _ _ Y,lq,L++ [(q,clr t.2 c d e.2)],_,_,rfl,I.snoc (x:=(q,clr t.2 c d e.2)) (e:=e) hp (U.trans s3) h3 nq (fun h=>absurd h a2) fun _=>rfl⟩
 . rintro J H' ⟨L,o6,o7,rfl,I⟩
   done
   have li:=(List.getElem?_eq_some_iff.mp hi).1
   exact k p H' L I.sm ⟨I.it,fun r hr=>(I.al r hr).1⟩ ⟨I.ln,I.me li,I.ot⟩
def Tf (K:Frag) (a:Addr) (xs:List V):Prop:=∃(o:Obj) (its:Array Value) (n:Nat),K.lookup a=some o/\o.cls= .type "tuple"/\o.data= .seq its n/\its.size<=sizeLine/\Vals xs its.toList
theorem Tf.sq {K:Frag}{H:Hp}{a:Addr}{xs:List V} (h:Tf K a xs):SqT K H a xs:= .inr h
def nats (cs:List Nat):List V:=cs.map fun c:Nat=>V.int (c:Nat)
theorem G8 {cs:List Nat}{j c:Nat} (h:cs[j]? =some c):(nats cs)[j]? =some (.int (c:Nat)):=by
 unfold nats
 rw [getElem?_map,h]
 rfl
theorem Ahh {l:List Int}{n:Nat} (h:∀x∈l,Sz n x) (j:Nat):(rf l j).natAbs<2^n:=by
 unfold rf
 rw [getD_eq_getElem?_getD]
 cases e:l[j]? with
 | none=>exact two_pow_pos _
 | some x=>exact h x (List.mem_of_getElem? e)
theorem Aft {l:List Int}{n:Nat} (h:∀j,(rf l j).natAbs<2^n):∀x∈l,Sz n x:=fun x d=>by
 obtain⟨j,q⟩:=getElem?_of_mem d
 have:=h j
 unfold rf at this
 rw [getD_eq_getElem?_getD,q]at this
 exact this
theorem Mx.keep {H:Hp}{a p:Addr}{rs:List Rw}{o:HO} (h:Mx H a rs) (q:a≠p) (y:∀r∈rs,r.1≠p):Mx (upd H p o) a rs:=⟨by rw [Bs q];exact h.it,fun r d=>by rw [Bs (y r d)];exact h.al r d⟩
theorem Mx.off {H:Hp}{a p:Addr}{rs:List Rw}{cs:List Nat}{N:Nat} (h:Mx H a rs) (d:H p=some (.lst (nats cs))) (h1:rs≠ []) (G:cs.length<N) (F:∀r∈rs,r.2.length=N):a≠p/\∀r∈rs,r.1≠p:=by
 constructor
 . rintro rfl
   have:=h.it.symm.trans d
   simp only [Option.some.injEq,HO.lst.injEq]at this
   match rs,cs,h1,this with
   | _::_,[],_,q=>cases q
   | _::_,_::_,_,q=>cases q
 . rintro r y rfl
   have:=(h.al r y).symm.trans d
   simp only [Option.some.injEq,HO.lst.injEq]at this
   have e:=congrArg List.length this
   unfold nats at e
   rw [length_map,length_map,F r y]at e
   omega
structure Rdi (H H':Hp) (p la:Addr) (rs L:List Rw) (cs:List Nat) (d:Int) (i u N n:Nat):Prop where
 sm:Same H H'
 it:H' p=some (.lst (nats cs))
 mx:Mx H' la L
 rd:Red (rs.map (·.2)) (L.map (·.2)) cs d i u N n
 ci:cs.length<=i
def rowAt (L:List Rw) (j:Nat):List Int:=(L.map (·.2)).getD j []
theorem G9 {L:List Rw}{j:Nat}{r:Rw} (h:L[j]? =some r):rowAt L j=r.2:=by
 unfold rowAt
 rw [getD_eq_getElem?_getD,getElem?_map,h]
 rfl
def Ih (K:Frag):Sp:=fun vs H Q _=>∃(a:Addr) (rs:List Rw) (u N n:Nat),vs=[.ref a,.int (u:Nat)]/\Mx H a rs/\1<=rs.length/\rs.length<=20/\u<=6/\u<N/\N<=100/\(∀r∈rs,r.2.length=N/\∀x∈r.2,Sz n x)/\n<=100000/\
 ∀z l m d cs L H',Same H H'->H' z=some (.tup [.ref l,.ref m,.int d])->H' l=some (.lst (nats cs))->Mx H' m L->Red (rs.map (·.2)) (L.map (·.2)) cs d u u N n->cs.length<=u->Q (.ref z) H'
theorem Mv {f:Addr}{fd:FuncData} (F:Df K mg "reduced_rows" Ez ["rows","unknowns"] f fd) (J:mg "range"=none) (O:mg "len"=none)  (U:Cal P w K mg base 33 "swapped" ["rows","one","other"] (O2 K)) (W:Cal P w K mg base 33 "cleared" ["rows","turn","unknown","lead"] (Ox K)):Cal P w K mg base 34 "reduced_rows" ["rows","unknowns"] (Ih K):=by
 refine F.cal (F.fn.ok Bv (fun vs H Q E h=> ?_) (fun a9 A outer s H vs Q E Y h=> ?_))
 . obtain⟨a,rs,u,N,n,rfl,_⟩:=h
   rfl
 obtain⟨a,rs,u,N,n,rfl,hm,h1,hl,u6,uN,hN,hs,hn,k⟩:=h
 refine Ax ⟨_,(Ae (Bc 2 Bv.nd (Ac 0))
  (Ae (Bc 3 Bv.nd (Bt Ab))
  (Ae (Bc 4 Bv.nd Ad)
  (Ae (Bu PassesOwn.never rfl (Cj rfl J (Aa (Ac 1) Ab)) (Ah 5 Bv.nd) (Ae (Bc 6 Bv.nd (Ar Aw rfl O PySem.boot_len (Aa (Ac 3) Ab)))
  (Ae (Dk (ts:=["place"]) (fs:=[(5,"unknown"),(2,"left")]) rfl (Bb.of (sc:=Ak Ez) (N:=["rows","unknowns","left","led","lead","unknown","turn","fitting"]) rfl rfl (by decide+kernel)) (Ku rfl J (Aa (Ac 6) (Aa (Ar Aw rfl O PySem.boot_len (Aa (Ac 2) Ab)) Ab))) (fun _ _ _=>(Ah 0 (show Nodup (["place","unknown","left"]:List Str)by decide+kernel))) (fun _ _ _=>(Et (Aq Rp (Al (Dw K) (Al (Dw K) (Ac 2) (Ac 0) (fun _ _=>rfl)) (Ac 1) (fun _ _=>rfl)) Ad (Bl _)))) (fun _ _ _=>(Ac 0)) (Ah 7 Bv.nd))
  (Af (Ay (Aq Ac2 (Ar Aw rfl O PySem.boot_len (Aa (Ac 7) Ab)) Ad (Bl _)) (Ae (Bc 2 Bv.nd (Ai U Y (Aa (Ac 2) (Aa (Ac 6) (Aa (Al Bp (Ac 7) Ad (fun _ _=>rfl)) Ab)))))
  (Ae (Bc 2 Bv.nd (Ai W Y (Aa (Ac 2) (Aa (Ac 6) (Aa (Ac 5) (Aa (Ac 4) Ab))))))
  (Ae (Bc 4 Bv.nd (Al Bp (Al Bp (Ac 2) (Ac 6) (fun _ _=>rfl)) (Ac 5) (fun _ _=>rfl)))
  (Af (Dd (Fj plainAttrs_list PySem.F.slot_list_append PySem.F.type_list_append Dq (Ac 3) (Aa (Ac 5) Ab))))))) Av)))))
  (Af (Aj (Bq (Aa (Ac 3) (Aa (Ac 2) (Aa (Ac 4) Ab)))))))))),?_⟩
 done
 refine⟨by decide,fun p hp=> ?_⟩
 refine⟨by omega,by omega,?_⟩
 rw [toNat_natCast]
 refine Agz u (fun i=> .int (0+(i:Nat))) (fun i a0 H'=>∃(la:Addr) (L:List Rw) (G:List Nat) (d:Int) (o5 o6 o7:Option V),a0=[some (.ref a),some (.int (u:Nat)),some (.ref la),some (.ref p),some (.int d),o5,o6,o7]/\Rdi H H' p la rs L G d i u N n) ⟨a,rs,[],1,_,_,_,rfl,⟨Same.upd hp _,Ag,hm.mono (Same.upd hp _),.start (fun r Y=> ?_) (fun r Y=> ?_),le_refl _⟩⟩ ?_ ?_ ?_
 . obtain⟨x,hx,rfl⟩:=mem_map.mp Y
   exact(hs x hx).1
 . obtain⟨x,hx,rfl⟩:=mem_map.mp Y
   exact Ahh (hs x hx).2
 . rintro i a0 H' _
   exact G5
 . rintro i a0 H1 hi ⟨la,L,G,d,o5,o6,o7,rfl,I⟩
   have lL:L.length=rs.length:=by simpa using I.rd.ll
   have kL:G.length<=L.length:=by simpa using I.rd.kl
   have LN:∀r∈L,r.2.length=N:=fun r Y=>I.rd.ln _ (mem_map.mpr ⟨r,Y,rfl⟩)
   have gL:∀ {j:Nat}{r:Rw},L[j]? =some r->(L.map (·.2))[j]? =some r.2:=fun {j r} h=>by rw [getElem?_map,h];rfl
   have ci:=I.ci
   have a3:(nats G).length=G.length:=length_map _
   done
   rw [zero_add]
   refine⟨p,_,rfl,.inl (.of I.it),la,_,rfl,.inl (.of I.mx.it),?_⟩
   rw [length_map,a3]
   refine⟨⟨by omega,by omega,by omega,by omega⟩,fun q hq=> ?_⟩
   rw [show(((L.length:Nat):Int)-((G.length:Nat):Int)).toNat=L.length-G.length by omega]
   refine Eu (es:=List.range (L.length-G.length)) (inj:=fun j=> .int ((G.length:Nat)+(j:Nat))) (fun j=>decide (rf (rowAt L (G.length+j)) i≠0)) (fun j=> .int ((G.length:Nat)+(j:Nat))) (by rw [length_range];exact le_trans (show L.length-G.length<=20 by omega) (by decide)) hq Ft ?_ ?_
   . intro j H4 R RF hj s4 hR hF
     have a8:G.length+j<L.length:=by have:=mem_range.mp hj;omega
     obtain⟨r,M⟩:∃r,L[G.length+j]? =some r:=⟨_,getElem?_eq_getElem a8⟩
     rw [G9 M]at hR hF
     have rm:=List.mem_of_getElem? M
     rw [show((G.length:Nat):Int)+((j:Nat):Int)=((G.length+j:Nat):Int)by omega]
     done
     refine Cq (.of (s4 _ _ I.mx.it)) (v:= .ref r.1) (Ba (by rw [getElem?_map,M];rfl)) ?_
     try done
     refine Cq (.of (s4 _ _ (I.mx.al r rm))) (v:= .int (rf r.2 i)) (Ba (Aaj (by rw [LN r rm];omega))) ?_
     try done
     by_cases h0:rf r.2 i=0
     . rw [if_pos h0]
       exact hF (decide_eq_false fun h=>h h0) _ (Same.refl _)
     . rw [if_neg h0]
       refine hR (decide_eq_true h0) _ (Same.refl _)
   intro H2 s2 h2
   have a4:=s2 _ _ I.it
   have a5:=I.mx.mono s2
   refine⟨q,_,rfl,.inl (.of h2),?_⟩
   have fa:∀ {j:Nat}{r:Rw},G.length<=j->L[j]? =some r->((j-G.length∈(List.range (L.length-G.length)).filter fun j=>decide (rf (rowAt L (G.length+j)) i≠0))↔rf r.2 i≠0):=fun {j r} hj M=>by
    have jl:=(List.getElem?_eq_some_iff.mp M).1
    rw [mem_filter,mem_range,show G.length+(j-G.length)=j by omega,G9 M,decide_eq_true_iff]
    exact⟨fun h=>h.2,fun h=>⟨by omega,h⟩⟩
   have fb:∀j∈(List.range (L.length-G.length)).filter (fun j=>decide (rf (rowAt L (G.length+j)) i≠0)),G.length+j<L.length:=fun j hj=>by
    have:=mem_range.mp (mem_filter.mp hj).1
    omega
   generalize (List.range (L.length-G.length)).filter (fun j=>decide (rf (rowAt L (G.length+j)) i≠0))=fl at h2 fa fb
   cases fl with
   | nil=>
     rw [if_neg (by simp)]
     refine⟨la,L,G,d,_,_,_,rfl,I.sm.trans s2,a4,a5,I.rd.skip fun j r hj M=> ?_,by omega⟩
     have jl:=(List.getElem?_eq_some_iff.mp M).1
     rw [length_map]at jl
     have a6:L[j]? =some L[j]:=getElem?_eq_getElem jl
     rw [getElem?_map,a6]at M
     have e:r=L[j].2:=by simpa using M.symm
     rw [e]
     refine Decidable.byContradiction fun h=> ?_
     have:=(fa hj a6).mpr h
     cases this
   | cons Z fl=>
     rw [if_pos (by simp only [map_cons,length_cons];omega)]
     have jl:=fb Z (.head _)
     obtain⟨y,ey⟩:∃y,L[G.length+Z]? =some y:=⟨_,getElem?_eq_getElem jl⟩
     obtain⟨x,ex⟩:∃x,L[G.length]? =some x:=⟨_,getElem?_eq_getElem (by omega)⟩
     have y0:rf y.2 i≠0:=(fa (by omega) ey).mp (by rw [show G.length+Z-G.length=Z by omega];exact .head _)
     refine Cq (.of h2) (v:= .int ((G.length:Nat)+(Z:Nat))) (Ba (j:=0) rfl) ?_
     rw [show((G.length:Nat):Int)+((Z:Nat):Int)=((G.length+Z:Nat):Int)by omega]
     refine⟨la,L,G.length,G.length+Z,x,y,rfl,a5,by omega,ex,ey,fun lb H3 s3 a7=> ?_⟩
     have r3:=I.rd.swap (gL ex) (gL ey) (by omega)
     rw [<-map_set,<-map_set]at r3
     have l3:((L.set G.length y).set (G.length+Z) x).length=L.length:=by rw [length_set,length_set]
     have k3:((L.set G.length y).set (G.length+Z) x)[G.length]? =some y:=by
      rw [Hq ex ey]
      split
      . rename_i e
        rw [<-e,ex]at ey
        exact ey
      . rw [if_pos rfl]
     generalize (L.set G.length y).set (G.length+Z) x=L3 at r3 l3 k3 a7
     have m6:(n+1)*2^G.length<=100001*2^6:=mul_le_mul (by omega) (pow_le_pow_right (by decide) (by omega))
     refine⟨lb,L3,G.length,i,N,(n+1)*2^G.length-1,d,y,rfl,a7,by omega,k3,by omega,hN,fun r Y=> ?_,by omega,r3.d0,fun lc H4 L4 s4 a1 cl=> ?_⟩
     . have rm:r.2∈L3.map (·.2):=mem_map.mpr ⟨r,Y,rfl⟩
       exact⟨r3.ln _ rm,Aft (r3.sz _ rm)⟩
     have l4:=cl.ln
     have r4:=r3.clear (L':=L4.map (·.2)) (by rw [getElem?_map,k3];rfl) y0 (by rw [length_map,length_map,l4]) (by rw [getElem?_map,cl.me];rfl) (fun j r hj M=>by
      rw [getElem?_map]at M
      cases e:L3[j]? with
      | none=>
        rw [e]at M
        cases M
      | some r0=>
        rw [e]at M
        obtain⟨r',e1,e2⟩:=cl.ot j r0 hj e
        have e3:r0.2=r:=by simpa using M
        rw [getElem?_map,e1,<-e3,<-e2]
        rfl)
     have N4:∀r∈L4,r.2.length=N:=fun r Y=>r4.ln _ (mem_map.mpr ⟨r,Y,rfl⟩)
     have ym:=List.mem_of_getElem? cl.me
     refine Cq (.of a1.it) (v:= .ref y.1) (Ba (by rw [getElem?_map,cl.me];rfl)) ?_
     refine Cq (.of (a1.al y ym)) (v:= .int (rf y.2 i)) (Ba (Aaj (by rw [N4 y ym];omega))) ?_
     have a2:=s4 _ _ (s3 _ _ a4)
     refine⟨.inl ⟨rfl,_,.of a2⟩,p,_,_,rfl,rfl,a2,by rw [a3];exact lt_of_le_of_lt (show G.length<=6 by omega) (by decide),lc,L4,G++ [i],_,_,_,_,rfl,(I.sm.trans (s2.trans (s3.trans s4))).put hp,?_,?_,r4,by rw [length_append];exact Nat.succ_le_succ ci⟩
     . rw [Ag]
       unfold nats
       rw [map_append]
       rfl
     . obtain⟨e1,e2⟩:=a1.off a2 (by rintro rfl;simp at l4;omega) (by omega) N4
       exact a1.keep e1 e2
 . rintro a0 H' ⟨la,L,G,d,o5,o6,o7,rfl,I⟩
   done
   exact⟨by decide,fun z hz=>k z p la d G L _ (I.sm.trans (Same.upd hz _)) Ag (Same.upd hz _ _ _ I.it) (I.mx.mono (Same.upd hz _)) I.rd I.ci⟩
structure Ql (K:Frag) (H:Hp) (a:Addr) (es:List (V × Rat)):Prop where
 it:H a=some (.lst (es.map (·.1)))
 al:∀e∈es,IsQ K H e.1 e.2
theorem Ql.mono {H H':Hp}{a:Addr}{es:List (V × Rat)} (h:Ql K H a es) (s:Same H H'):Ql K H' a es:=⟨s _ _ h.it,fun e d=>(h.al e d).mono s⟩
abbrev Qr:=Addr × List (V × Rat)
structure Qm (K:Frag) (H:Hp) (a:Addr) (rs:List Qr):Prop where
 it:H a=some (.lst (rs.map fun r=>V.ref r.1))
 al:∀r∈rs,Ql K H r.1 r.2
theorem Qm.mono {H H':Hp}{a:Addr}{rs:List Qr} (h:Qm K H a rs) (s:Same H H'):Qm K H' a rs:=⟨s _ _ h.it,fun e d=>(h.al e d).mono s⟩
abbrev qv (es:List (V × Rat)):List Rat:=es.map (·.2)
theorem Nv {b:Int}{q:Rat} (h:(q.den:Int)∣b):((Hs b q:Int):Rat)=(b:Rat)*q:=by
 obtain⟨k,rfl⟩:=h
 unfold Hs
 rw [Int.mul_ediv_cancel_left _ (Iv q),intCast_mul,intCast_mul]
 have h1:(((q.den:Nat):Int):Rat)≠0:=by exact_mod_cast Iv q
 have h2:=divInt_eq_div q.num (q.den:Int)
 rw [Rat.num_divInt_den]at h2
 grind
def Abj (b:Int) (es:List Rat) (i m:Nat):List Int:=es.map (Hs b)++(List.range m).map fun o=>if i=o then b else 0
theorem Zy {b:Int}{es:List Rat}{i m j:Nat} (h:j<es.length):rf (Abj b es i m) j=Hs b (es.getD j 0):=by
 unfold rf Abj
 rw [getD_eq_getElem?_getD,getElem?_append_left (by rw [length_map];exact h),getElem?_map,getD_eq_getElem?_getD,getElem?_eq_getElem h]
 rfl
theorem Adv {b:Int}{es:List Rat}{i m k:Nat} (h:k<m):rf (Abj b es i m) (es.length+k)=if i=k then b else 0:=by
 unfold rf Abj
 rw [getD_eq_getElem?_getD,getElem?_append_right (by rw [length_map];omega),length_map,Nat.add_sub_cancel_left,getElem?_map,getElem?_range h]
 rfl
structure Wri (H H':Hp) (p:Addr) (L:List Rw) (pre:List Qr) (qs:List Rat) (u m n:Nat):Prop where
 sm:Same H H'
 it:H' p=some (.lst (L.map fun r=>V.ref r.1))
 al:∀r∈L,H' r.1=some (.lst (r.2.map V.int))/\r.1≠p/\r.2.length=u+1+m/\∀x∈r.2,Sz (n*11+1) x
 ln:L.length=pre.length
 ok:∀(i:Nat) r e q,L[i]? =some r->pre[i]? =some e->qs[i]? =some q->∃B:Rat,B≠0/\(∀j,j<u->(rf r.2 j:Rat)=B*qf (qv e.2) j)/\(rf r.2 u:Rat)=B*q/\∀k,k<m->(rf r.2 (u+1+k):Rat)=if k=i then B else 0
theorem Wri.snoc {H H1 H2:Hp}{p:Addr}{L:List Rw}{d:List Qr}{es:List (V × Rat)}{u m n:Nat}{x:Rw}{e:Qr}{I:V × Rat}{B:Rat} (h:Wri H H1 p L d (qv es) u m n) (W:H p=none) (s:Same H1 H2) (Y:H2 x.1=some (.lst (x.2.map V.int))) (nx:x.1≠p) (Z:x.2.length=u+1+m) (xz:∀y∈x.2,Sz (n*11+1) y) (eq:es[d.length]? =some I) (b0:B≠0) (b1:∀j,j<u->(rf x.2 j:Rat)=B*qf (qv e.2) j) (b2:(rf x.2 u:Rat)=B*I.2) (b3:∀k,k<m->(rf x.2 (u+1+k):Rat)=if k=d.length then B else 0):Wri H (upd H2 p (.lst ((L.map fun r=>V.ref r.1)++ [.ref x.1]))) p (L++ [x]) (d++ [e]) (qv es) u m n:=by
 refine⟨(h.sm.trans s).put W,by rw [Ag,map_append];rfl,fun r F=> ?_,by rw [length_append,length_append,h.ln];rfl,fun i r O q F G J=> ?_⟩
 . rcases mem_append.mp F with F | F
   . obtain⟨a,b,c⟩:=h.al r F
     exact⟨by rw [Bs b];exact s _ _ a,b,c⟩
   . have M:r=x:=by simpa using F
     rw [M]
     exact⟨by rw [Bs nx];exact Y,nx,Z,xz⟩
 . by_cases U:i<d.length
   . rw [getElem?_append_left (by rw [h.ln];exact U)]at F
     rw [getElem?_append_left U]at G
     exact h.ok i r O q F G J
   . have li:=(List.getElem?_eq_some_iff.mp G).1
     rw [length_append,length_singleton]at li
     have ei:i=d.length:=by omega
     subst ei
     rw [getElem?_append_right (le_refl _),sub_self]at G
     rw [<-h.ln,getElem?_append_right (le_refl _),sub_self]at F
     have M:x=r:=by simpa using F
     have e2:e=O:=by simpa using G
     rw [getElem?_map,eq]at J
     have e3:I.2=q:=by simpa using J
     rw [<-M,<-e2,<-e3]
     exact⟨B,b0,b1,b2,b3⟩
def J5 (K:Frag):Sp:=fun vs H Q _=>∃(a b:Addr) (rs:List Qr) (es:List (V × Rat)) (u n:Nat),vs=[.ref a,.ref b]/\Qm K H a rs/\Ql K H b es/\es.length=rs.length/\rs.length<=6/\u<=6/\(∀r∈rs,r.2.length=u/\∀e∈r.2,Szq n e.2)/\(∀e∈es,Szq n e.2)/\n<=100000/\
 ∀z L H',Same H H'->Mx H' z L->(∀r∈L,r.2.length=u+1+rs.length/\∀x∈r.2,Sz (n*11+1) x)->Wht (L.map (·.2)) (rs.map fun r=>qv r.2) (qv es) u->Q (.ref z) H'
theorem P0 {f:Addr}{fd:FuncData} (F:Df K mg "whole_rows" Gn ["rows","right"] f fd) (J:mg "enumerate"=none) (W:mg "range"=none) (Z:mg "len"=none)  (I:Cal P w K mg base 33 "over_one_bottom" ["some"] (Er K)):Cal P w K mg base 34 "whole_rows" ["rows","right"] (J5 K):=by
 refine F.cal (F.fn.ok Ea (fun vs H Q E h=> ?_) (fun ai A outer s H vs Q E hr h=> ?_))
 . obtain⟨a,b,O,es,u,n,rfl,_⟩:=h
   rfl
 obtain⟨a,b,O,es,u,n,rfl,hm,hb,el,rl,u6,hs,a6,hn,k⟩:=h
 refine Ax ⟨_,(Ae (Bc 2 Ea.nd (Bt Ab))
  (Ae (Bu PassesOwn.never rfl (Hv rfl J (Aa (Ac 0) Ab)) (Ci rfl (Am (Ah 3 Ea.nd) (Am (Ah 4 Ea.nd) Bm))) (Ae (Cp (Ai I hr (Aa (Ao Oj (Ac 4) (Bt (Aa (Al Bp (Ac 1) (Ac 3) (fun _ _=>rfl)) Ab))) Ab)) (Ci rfl (Am (Ah 5 Ea.nd) (Am (Ah 6 Ea.nd) Bm))))
  (Af (Dd (Fj plainAttrs_list PySem.F.slot_list_append PySem.F.type_list_append Dq (Ac 2) (Aa (Ao Oj (Ac 5) (Bf (ts:=["other"]) (fs:=[(6,"bottom"),(3,"place")]) rfl (Bb.of (sc:=Ak Gn) (N:=["rows","right","found","place","row","tops","bottom"]) rfl rfl (by decide+kernel)) (Cj rfl W (Aa (Ar Aw rfl Z PySem.boot_len (Aa (Ac 0) Ab)) Ab)) (fun _ _ _=>(Ah 0 (show Nodup (["other","bottom","place"]:List Str)by decide+kernel))) (fun _ _ _=>Az) (fun _ _ _=>(Je (Aq Gf (Ac 2) (Ac 0) (Bl _)) (Ac 1) Ad)))) Ab))))))
  (Af (Aj (Ac 2))))),?_⟩
 done
 refine⟨by decide,fun p hp=> ?_⟩
 have s1:=Same.upd hp (.lst [])
 refine⟨⟨_,.of (s1 _ _ hm.it)⟩,Va (es:=O) (inj:=fun r=>V.ref r.1) (fun d Y H'=>∃(L:List Rw) (o3 o4 o5 o6:Option V),Y=[some (.ref a),some (.ref b),some (.ref p),o3,o4,o5,o6]/\Wri H H' p L d (qv es) u O.length n) ⟨[],_,_,_,_,rfl,⟨s1,Ag,by simp,rfl,by simp⟩⟩ ?_ ?_ ?_⟩
 . rintro d Y H' ⟨L,o3,o4,o5,o6,rfl,wi⟩
   exact .of (wi.sm _ _ hm.it)
 . rintro d e ah Y H1 c hE ⟨L,o3,o4,o5,o6,rfl,wi⟩ hc
   have sb:=Same.upd hc (.tup [V.int (d.length:Nat),V.ref e.1])
   refine Eb (.of Ag) ?_
   generalize upd H1 c (.tup [V.int (d.length:Nat),V.ref e.1])=H2 at sb
   have em:e∈O:=by rw [hE];simp
   obtain⟨eN,ez⟩:=hs e em
   have pl:d.length<O.length:=by
    have:=congrArg List.length hE
    rw [length_append,length_cons]at this
    omega
   done
   have a7:=wi.sm.trans sb
   obtain⟨G,a0⟩:∃G,es[d.length]? =some G:=⟨_,getElem?_eq_getElem (by omega)⟩
   have qm:=List.mem_of_getElem? a0
   refine Cq (.of (a7 _ _ hb.it)) (v:=G.1) (Ba (by rw [getElem?_map,a0];rfl)) ?_
   try done
   intro l1 ac
   have t1:=Same.upd ac (.lst [G.1])
   refine⟨e.1,l1,_,_,rfl,rfl,t1 _ _ (a7 _ _ (hm.al e em).it),Ag,by rw [length_map];exact le_trans (show e.2.length+1<=7 by omega) (by decide),fun l2 ad=> ?_⟩
   have t2:=Same.upd ad (.lst (e.2.map (·.1)++ [G.1]))
   have a1:=sb.trans (t1.trans t2)
   have a8:upd (upd H2 l1 (.lst [G.1])) l2 (.lst (e.2.map (·.1)++ [G.1])) l2=some (.lst ((e.2++ [G]).map (·.1))):=by rw [Ag,map_append];rfl
   generalize upd (upd H2 l1 (.lst [G.1])) l2 (.lst (e.2.map (·.1)++ [G.1]))=H3 at a1 a8
   have a2:=wi.sm.trans a1
   have nl:(e.2++ [G]).length=u+1:=by rw [length_append,eN];rfl
   refine⟨l2,e.2++ [G],n,rfl,a8,fun x U=> ?_,by omega,by omega,fun z l M H4 s4 hz hl b0 zb dv=> ?_⟩
   . rcases mem_append.mp U with U | U
     . exact⟨((hm.al e em).al x U).mono a2,ez x U⟩
     . have e1:x=G:=by simpa using U
       rw [e1]
       exact⟨(hb.al G qm).mono a2,a6 G qm⟩
   refine Eb (.of hz) ?_
   have ae:=a2.trans s4
   have a3:=a1.trans s4
   done
   refine⟨.inl ⟨rfl,_,.of (a3 _ _ wi.it)⟩,?_⟩
   refine⟨a,_,rfl,.inl (.of (ae _ _ hm.it)),?_⟩
   rw [length_map]
   refine⟨by omega,by omega,fun q hq=> ?_⟩
   rw [toNat_natCast]
   refine Gs (es:=List.range O.length) (inj:=fun i=> .int (0+(i:Nat))) (fun o=> .int (if d.length=o then M else 0)) (by rw [length_range];exact le_trans rl (by decide)) hq Ft ?_ ?_
   . intro o H5 R ho s5 hR
     rw [zero_add]
     done
     by_cases a4:d.length=o
     . rw [if_pos a4]at hR
       rw [if_pos (by rw [a4])]
       exact hR _ (Same.refl _)
     . rw [if_neg a4]at hR
       rw [if_neg (by omega)]
       exact hR _ (Same.refl _)
   intro H5 s5 h5
   try done
   refine⟨l,q,_,_,rfl,rfl,s5 _ _ hl,h5,by rw [length_map,length_map,length_range,nl];exact le_trans (show u+1+O.length<=13 by omega) (by decide),fun r a9=> ?_⟩
   have t6:=Same.upd a9 (.lst ((e.2++ [G]).map (fun e=>V.int (Hs M e.2))++(List.range O.length).map fun o=>V.int (if d.length=o then M else 0)))
   have a5:=(a3.trans s5).trans t6
   have aa:upd H5 r (.lst ((e.2++ [G]).map (fun e=>V.int (Hs M e.2))++(List.range O.length).map fun o=>V.int (if d.length=o then M else 0))) r=some (.lst ((Abj M (qv (e.2++ [G])) d.length O.length).map V.int)):=by
    rw [Ag]
    unfold Abj
    simp only [map_append,map_map]
    rfl
   have np:r≠p:=Ne.symm (Bo ((a3.trans s5) _ _ wi.it) a9)
   generalize upd H5 r (.lst ((e.2++ [G]).map (fun e=>V.int (Hs M e.2))++(List.range O.length).map fun o=>V.int (if d.length=o then M else 0)))=H6 at a5 aa
   have nq:(qv (e.2++ [G])).length=u+1:=by rw [length_map];exact nl
   have bR:(M:Rat)≠0:=by
    have:M≠0:=by omega
    exact_mod_cast this
   refine⟨p,_,_,rfl,rfl,a5 _ _ wi.it,by rw [length_map,wi.ln];exact lt_of_le_of_lt (show d.length<=6 by omega) (by decide),L++ [(r,Abj M (qv (e.2++ [G])) d.length O.length)],_,_,_,_,rfl,wi.snoc (x:=(r,Abj M (qv (e.2++ [G])) d.length O.length)) (e:=e) hp a5 aa np ?_ (fun x U=> ?_) a0 bR (fun j hj=> ?_) ?_ (fun o ho=> ?_)⟩
   . unfold Abj
     simp only [length_append,length_map,length_range,length_singleton,eN]
   . rcases mem_append.mp U with U | U
     . obtain⟨y,hy,rfl⟩:=mem_map.mp U
       obtain⟨y',ag,rfl⟩:=mem_map.mp hy
       have zy:Szq n y'.2:=by
        rcases mem_append.mp ag with h | h
        . exact ez y' h
        . have e1:y'=G:=by simpa using h
          rw [e1]
          exact a6 G qm
       have zq:Sz (n*10+1) (M/(y'.2.den:Int)):=zb.of_abs (by
        have h1:M/(y'.2.den:Int)<=M:=Int.ediv_le_self _ (by omega)
        have h2:0<=M/(y'.2.den:Int):=Int.ediv_nonneg (by omega) (by omega)
        omega)
       exact(zy.1.mul zq).mono (by omega)
     . obtain⟨o,_,rfl⟩:=mem_map.mp U
       split
       . exact zb.mono (by omega)
       . exact two_pow_pos _
   . rw [Zy (by omega),Nv]
     . congr 1
       unfold qf
       rw [getD_eq_getElem?_getD,getD_eq_getElem?_getD,show qv (e.2++ [G])=qv e.2++ [G.2]from map_append,getElem?_append_left (by rw [length_map,eN];exact hj)]
     . obtain⟨y,ey⟩:∃y,(e.2++ [G])[j]? =some y:=⟨_,getElem?_eq_getElem (by omega)⟩
       rw [getD_eq_getElem?_getD,getElem?_map,ey]
       exact dv y (List.mem_of_getElem? ey)
   . have ey:(e.2++ [G])[u]? =some G:=by
      rw [getElem?_append_right (by omega),eN,sub_self]
      rfl
     have e2:(qv (e.2++ [G])).getD u 0=G.2:=by
      rw [getD_eq_getElem?_getD,getElem?_map,ey]
      rfl
     rw [Zy (by omega),e2,Nv (dv G (List.mem_of_getElem? ey))]
   . rw [<-nq,Adv ho]
     by_cases e:o=d.length
     . rw [if_pos e.symm,if_pos e]
     . rw [if_neg (Ne.symm e),if_neg e]
       rfl
 . rintro Y H' ⟨L,o3,o4,o5,o6,rfl,wi⟩
   done
   refine k p L H' wi.sm ⟨wi.it,fun r hr=>(wi.al r hr).1⟩ (fun r hr=>(wi.al r hr).2.2) ⟨?_,?_,fun r hr=> ?_,fun i m r q h1 h2 h3=> ?_⟩
   . rw [length_map,length_map,wi.ln]
   . rw [length_map,length_map,el]
   . obtain⟨x,U,rfl⟩:=mem_map.mp hr
     rw [length_map]
     exact(hs x U).1
   . rw [getElem?_map]at h1 h2
     cases e1:L[i]? with
     | none=>rw [e1]at h1;cases h1
     | some x=>
     cases e2:O[i]? with
     | none=>rw [e2]at h2;cases h2
     | some y=>
     rw [e1]at h1
     rw [e2]at h2
     cases h1
     cases h2
     simpa only [length_map]using wi.ok i x y q e1 e2 h3
theorem IsQ.put {H:Hp}{p:Addr}{v:V}{q:Rat}{d:List V}{o:HO} (h:IsQ K H v q) (y:H p=some (.lst d)):IsQ K (upd H p o) v q:=by
 obtain⟨a,e,t⟩:=h
 exact⟨a,e,Qo t y⟩
theorem Rv {α:Type}{H:Hp}{p:Addr}{ns:List V}{xs:List α}{f:α->Rat} (h:H p=some (.lst ns)) (d:ns.length=xs.length) (q:∀(i:Nat) x n,xs[i]? =some x->ns[i]? =some n->IsQ K H n (f x)):Ql K H p (ns.zip (xs.map f))/\qv (ns.zip (xs.map f))=xs.map f:=by
 refine⟨⟨?_,fun e y=> ?_⟩,?_⟩
 . rw [h,show(fun e:V × Rat=>e.1)=Prod.fst from rfl,List.map_fst_zip (by rw [length_map,d];exact le_refl _)]
 . obtain⟨i,hi⟩:=getElem?_of_mem y
   obtain⟨h1,h2⟩:=List.getElem?_zip_eq_some.mp hi
   rw [getElem?_map]at h2
   cases ex:xs[i]? with
   | none=>rw [ex]at h2;cases h2
   | some x=>
     rw [ex]at h2
     have F:f x=e.2:=by simpa using h2
     rw [<-F]
     exact q i x e.1 ex h1
 . rw [show qv (ns.zip (xs.map f))=(ns.zip (xs.map f)).map Prod.snd from rfl,List.map_snd_zip (by rw [length_map,d];exact le_refl _)]
def K4 (K:Frag):Sp:=fun vs H Q _=>∃(a:Addr) (xs:List Int) (b:Int),vs=[.ref a,.int b]/\H a=some (.lst (xs.map V.int))/\xs.length<=100/\b≠0/\∀z es H',H z=none->Same H H'->Ql K H' z es->qv es=xs.map (fun x=>divInt x b)->Q (.ref z) H'
theorem Rj {f:Addr}{fd:FuncData} (F:Df K mg "fractions" Hg ["tops","bottom"] f fd)   (d:Cal P w K mg base 34 "fraction" ["top","bottom"] (Ge K)):Cal P w K mg base 35 "fractions" ["tops","bottom"] (K4 K):=by
 refine F.cal (F.fn.ok Ry (fun I H Q E h=> ?_) (fun J A outer s H I Q E L h=> ?_))
 . obtain⟨a,xs,b,rfl,_⟩:=h
   rfl
 obtain⟨a,xs,b,rfl,y,M,O,k⟩:=h
 refine Ax ⟨_,(Af (Aj (Bf (ts:=["top"]) (fs:=[(1,"bottom")]) rfl (Bb.of (sc:=Ak Hg) (N:=["tops","bottom"]) rfl rfl (by decide+kernel)) (Bj (Ac 0)) (fun _ _ _=>(Ah 0 (show Nodup (["top","bottom"]:List Str)by decide+kernel))) (fun _ _ _=>Az) (fun _ _ _=>(Ai d L (Aa (Ac 0) (Aa (Ac 1) Ab))))))),?_⟩
 done
 refine⟨⟨_,.of y⟩,fun p q=>Jf (es:=xs) (inj:=V.int) (fun x v H=>IsQ K H v (divInt x b)) (le_trans M (by decide)) q (Ec (.of y)) (fun e v H H' h s=>h.mono s) (fun e v H U o h q=>h.put q) ?_ ?_⟩
 . intro x H2 R hx G W
   done
   exact⟨x,b,rfl,O,fun z Y Z h3=>W z Y Z h3⟩
 intro ns H2 nl hq G h2
 try done
 obtain⟨q1,q2⟩:=Rv h2 nl hq
 exact k p _ _ q G q1 q2
theorem Ag4 {H:Hp} (h:Tf K (cA K "ONE") [.int 1,.int 1]):IsQ K H (.ref (cA K "ONE")) 1:=⟨_,rfl,h.sq⟩
theorem Acu {H:Hp} (h:Tf K (cA K "NOUGHT") [.int 0,.int 1]):IsQ K H (.ref (cA K "NOUGHT")) 0:=⟨_,rfl,h.sq⟩
def Ij (K:Frag):Sp:=fun vs H Q _=>∃u c:Nat,vs=[.int (u:Nat),.int (c:Nat)]/\u<=100/\∀z es H',H z=none->Same H H'->Ql K H' z es->qv es=(List.range u).map (fun j=>if j=c then 1 else 0)->Q (.ref z) H'
theorem Ro {f:Addr}{fd:FuncData} (F:Df K mg "unit_list" Hj ["length","here"] f fd) (y:mg "range"=none) (G:mg "ONE"=some (.ref (cA K "ONE"))) (I:Tf K (cA K "ONE") [.int 1,.int 1]) (d:mg "NOUGHT"=some (.ref (cA K "NOUGHT"))) (q:Tf K (cA K "NOUGHT") [.int 0,.int 1])  :Cal P w K mg base 33 "unit_list" ["length","here"] (Ij K):=by
 refine F.cal (F.fn.ok R7 (fun U H Q E h=> ?_) (fun W A outer s H U Q E hr h=> ?_))
 . obtain⟨u,c,rfl,_⟩:=h
   rfl
 obtain⟨u,c,rfl,Y,k⟩:=h
 refine Ax ⟨_,(Af (Aj (Bf (ts:=["place"]) (fs:=[(1,"here")]) rfl (Bb.of (sc:=Ak Hj) (N:=["length","here"]) rfl rfl (by decide+kernel)) (Cj rfl y (Aa (Ac 0) Ab)) (fun _ _ _=>(Ah 0 (show Nodup (["place","here"]:List Str)by decide+kernel))) (fun _ _ _=>Az) (fun _ _ _=>(Je (Aq Gf (Ac 0) (Ac 1) (Bl _)) (Dj (v:= .ref (cA K "ONE")) rfl G rfl) (Dj (v:= .ref (cA K "NOUGHT")) rfl d rfl)))))),?_⟩
 done
 refine⟨by omega,by omega,fun p L=> ?_⟩
 rw [toNat_natCast]
 refine Jf (es:=List.range u) (inj:=fun i=> .int (0+(i:Nat))) (fun j v H=>IsQ K H v (if j=c then 1 else 0)) (by rw [length_range];exact le_trans Y (by decide)) L Ft (fun e v H H' h s=>h.mono s) (fun e v H Z o h L=>h.put L) ?_ ?_
 . intro j H2 R hj M O
   rw [zero_add]
   done
   by_cases J:j=c
   . rw [if_pos (by rw [J])]
     exact O _ _ (Same.refl _) (by rw [if_pos J];exact Ag4 I)
   . rw [if_neg (by omega)]
     exact O _ _ (Same.refl _) (by rw [if_neg J];exact Acu q)
 intro ns H2 nl hq M h2
 try done
 obtain⟨q1,q2⟩:=Rv h2 nl hq
 exact k p _ _ L M q1 q2
structure Bsi (K:Frag) (H H':Hp) (p:Addr) (x0:List Rat) (w:Nat->Rat) (cs:List Nat) (i:Nat):Prop where
 sm:Same H H'
 ex:∃es,Ql K H' p es/\Sti x0 w cs i (qv es)
theorem Ql.put {H:Hp}{p:Addr}{es:List (V × Rat)}{c:Nat}{v:V}{q:Rat} (h:Ql K H p es) (y:IsQ K H v q):Ql K (upd H p (.lst ((es.map (·.1)).set c v))) p (es.set c (v,q)):=by
 refine⟨by rw [Ag,map_set],fun e d=> ?_⟩
 rcases List.mem_or_eq_of_mem_set d with d | d
 . exact(h.al e d).put h.it
 . rw [d]
   exact y.put h.it
theorem Bsi.step {H H1 H2:Hp}{p:Addr}{d:List Rat}{w:Nat->Rat}{cs:List Nat}{i c:Nat}{es:List (V × Rat)}{v:V} (y:Same H H2) (F:H p=none) (G:Ql K H2 p es) (st:Sti d w cs i (qv es)) (q:cs.Pairwise (· < ·)) (hi:cs[i]? =some c) (I:c<d.length) (J:IsQ K H2 v (w i)):Bsi K H (upd H2 p (.lst ((es.map (·.1)).set c v))) p d w cs (i+1):=
 ⟨y.put F,_,G.put J,by rw [show qv (es.set c (v,w i))=(qv es).set c (w i)from map_set];exact st.step q hi I⟩
def Ow (K:Frag):Sp:=fun vs H Q _=>∃(c u N:Nat) (l m:Addr) (cs:List Nat) (L:List Rw) (d:Int),vs=[.int (c:Nat),.ref l,.ref m,.int d,.int (u:Nat)]/\u<=100/\c<N/\H l=some (.lst (nats cs))/\Mx H m L/\(∀r∈L,r.2.length=N)/\cs.length<=L.length/\cs.Pairwise (· < ·)/\(∀x∈cs,x<u)/\d≠0/\
 ∀z es H',H z=none->Same H H'->Ql K H' z es->es.length=u->(∀j,j<u->j∉cs->qf (qv es) j=if j=c then 1 else 0)->(∀(k:Nat) x r,L[k]? =some r->cs[k]? =some x->qf (qv es) x=divInt (-(rf r.2 c)) d)->Q (.ref z) H'
theorem Wn {f:Addr}{fd:FuncData} (F:Df K mg "base_of" M8 ["here","led","reduced","lead","unknowns"] f fd) (J:mg "zip"=none)  (q:Cal P w K mg base 33 "unit_list" ["length","here"] (Ij K)) (y:Cal P w K mg base 34 "fraction" ["top","bottom"] (Ge K)):Cal P w K mg base 35 "base_of" ["here","led","reduced","lead","unknowns"] (Ow K):=by
 refine F.cal (F.fn.ok Ip (fun vs H Q E h=> ?_) (fun a3 A outer s H vs Q E hr h=> ?_))
 . obtain⟨c,u,N,l,m,M,L,d,rfl,_⟩:=h
   rfl
 obtain⟨c,u,N,l,m,M,L,d,rfl,u1,cN,hl,hm,hN,cl,a0,lt,d0,k⟩:=h
 refine Ax ⟨_,(Ae (Bc 5 Ip.nd (Ai q hr (Aa (Ac 4) (Aa (Ac 0) Ab))))
  (Ae (Bu PassesOwn.never rfl (Cr false false rfl J (Aa (Ac 1) (Aa (Ac 2) Ab))) (Ci rfl (Am (Ah 6 Ip.nd) (Am (Ah 7 Ip.nd) Bm))) (Af (Cp (Ai y hr (Aa (O6 Zv (Al Bp (Ac 7) (Ac 0) (fun _ _=>rfl))) (Aa (Ac 3) Ab))) (Ed (Ac 5) (Ac 6) set_list))))
  (Af (Aj (Ac 5))))),?_⟩
 done
 refine⟨u,c,rfl,u1,fun z O H1 nz s1 q1 e1=> ?_⟩
 try done
 have gl:=s1 _ _ hl
 have gm:=hm.mono s1
 have a4:(qv O).length=u:=by rw [e1,length_map,length_range]
 refine⟨l,m,rfl,⟨_,show SqL K H1 l _ from .of gl⟩,⟨_,show SqL K H1 m _ from .of gm.it⟩,Jh (xs:=nats M) (ys:=L.map fun r=>V.ref r.1) M.length (by unfold nats;rw [length_map,length_map];omega) (fun i G H'=>∃Z o7:Option V,G=[some (.int (c:Nat)),some (.ref l),some (.ref m),some (.int d),some (.int (u:Nat)),some (.ref z),Z,o7]/\Bsi K H H' z (qv O) (fun k=>divInt (-(rf (rowAt L k) c)) d) M i) ⟨_,_,rfl,s1,O,q1,Sti.start _ _ _⟩ ?_ ?_ ?_⟩
 . rintro i G H' ⟨Z,o7,rfl,I⟩
   exact⟨show SqL K H' l _ from .of (I.sm _ _ hl),show SqL K H' m _ from .of (I.sm _ _ hm.it)⟩
 . rintro i G H2 b hi ⟨Z,o7,rfl,I⟩ hb
   obtain⟨es,ql,st⟩:=I.ex
   have U:=Same.upd hb (.tup [(nats M).getD i .non,(L.map fun r=>V.ref r.1).getD i .non])
   obtain⟨x,ex⟩:∃x,M[i]? =some x:=⟨_,getElem?_eq_getElem hi⟩
   obtain⟨r,W⟩:∃r,L[i]? =some r:=⟨_,getElem?_eq_getElem (by omega)⟩
   have rm:=List.mem_of_getElem? W
   have v1:(nats M).getD i .non= .int (x:Nat):=by rw [getD_eq_getElem?_getD,G8 ex];rfl
   have v2:(L.map fun r=>V.ref r.1).getD i .non= .ref r.1:=by rw [getD_eq_getElem?_getD,getElem?_map,W];rfl
   rw [v1,v2]at U
   rw [v1,v2]
   refine Eb (.of Ag) ?_
   generalize upd H2 b (.tup [V.int (x:Nat),.ref r.1])=H3 at U
   done
   refine Cq (.of ((I.sm.trans U) _ _ (hm.al r rm))) (v:= .int (rf r.2 c)) (Ba (Aaj (by rw [hN r rm];exact cN))) ?_
   try done
   refine⟨_,_,rfl,d0,fun v H4 s4 h4=> ?_⟩
   try done
   have Y:=ql.mono (U.trans s4)
   have xu:=lt x (List.mem_of_getElem? ex)
   refine N6 (j:=x) Y.it (by rw [length_map];have:=st.ln;rw [length_map]at this;omega) ?_
   refine⟨_,_,rfl,Bsi.step (H1:=H) (I.sm.trans (U.trans s4)) nz Y st a0 ex (by omega) ?_⟩
   rw [G9 W]
   exact h4
 . rintro G H' ⟨Z,o7,rfl,I⟩
   done
   obtain⟨es,ql,st⟩:=I.ex
   obtain⟨a1,a2⟩:=st.done rfl
   refine k z es H' nz I.sm ql (by have:=st.ln;rw [length_map]at this;omega) (fun j hj hc=> ?_) fun i x r W ex=> ?_
   . rw [a1 j hc,e1]
     unfold qf
     rw [getD_eq_getElem?_getD,getElem?_map,getElem?_range hj]
     rfl
   . rw [a2 i x ex,G9 W]
theorem Mg {X:Cx} (K:Frag) (h:X.K=K:=by rfl):Gq X (.builtin "len") (fun xs H Q=>∃p ys,xs=[.ref p]/\(SqL K H p ys\/SqT K H p ys)/\Q (.int ys.length) H):=by
 subst h
 exact Aw
def Ep (K:Frag):Sp:=fun vs H Q _=>∃(a:Addr) (xs:List V) (f m:Nat),vs=[.ref a,.int (f:Nat),.int (m:Nat)]/\H a=some (.lst xs)/\f<=xs.length/\xs.length<=m/\Q (.bl true) H
theorem Px {f:Addr}{fd:FuncData} (F:Df K mg "is_list_of" Hy ["thing","fewest","most"] f fd) (d:mg "isinstance"=none) (y:mg "list"=none) (q:mg "len"=none)   :Cal P w K mg base 33 "is_list_of" ["thing","fewest","most"] (Ep K):=by
 refine F.cal (F.fn.ok Qh (fun I H Q E h=> ?_) (fun J A outer s H I Q E L h=> ?_))
 . obtain⟨a,xs,f,m,rfl,_⟩:=h
   rfl
 obtain⟨a,xs,M,O,rfl,G,h1,h2,k⟩:=h
 refine Ax ⟨_,(Af (Aj (Di (Ar Fo rfl d boot_isinstance (Aa (Ac 0) (Aa (Cm (v:= .ty "list") rfl y boot_list rfl) Ab))) (Di (Bx Ac1 (Ar Aw rfl q PySem.boot_len (Aa (Ac 0) Ab)) (Ac 1) (Bl _)) (Dn (Bx Ae5 (Ar Aw rfl q PySem.boot_len (Aa (Ac 0) Ab)) (Ac 2) (Bl _))))))),?_⟩
 done
 refine⟨_,_,_,true,rfl,.lst G,rfl,?_⟩
 rw [if_pos rfl]
 refine⟨a,_,rfl,.inl (.of G),?_⟩
 rw [if_pos (by omega)]
 refine⟨a,_,rfl,.inl (.of G),?_⟩
 rw [decide_eq_true (by omega)]
 exact k
def Ey (K:Frag):Sp:=fun vs H Q E=>∃(a b:Addr) (rs:List Qr) (es:List (V × Rat)) (u:Nat),vs=[.ref a,.ref b]/\Qm K H a rs/\Ql K H b es/\es.length=rs.length/\1<=rs.length/\rs.length<=6/\1<=u/\u<=6/\(∀r∈rs,r.2.length=u)/\∀H',Same H H'->Q .non H'
def Fg (K:Frag):Sp:=Ey K
theorem Jt (K:Frag):∀d H Q E,Fg K d H Q E->Ey K d H Q E0:=fun _ _ _ _ h=>h
theorem Lb {f:Addr}{fd:FuncData} (F:Df K mg "refuse_shapes" Dr ["rows","right"] f fd) (M:mg "all"=none) (I:mg "len"=none) (J:∃u,mg "MOST"=some u/\RelV (V.int 6) u) (y:Z5 K (cA K "NoShape")) (G:mg "NoShape"=some (.ref (cA K "NoShape"))) (d:Cal P w K mg base 33 "is_list_of" ["thing","fewest","most"] (Ep K)):Ad5 P w K mg base 34 "refuse_shapes" ["rows","right"] (Ey K):=by
 refine F.calE (F.fn.okE Le (fun vs H Q E h=> ?_) (fun a2 A outer s H vs Q E hr h=> ?_))
 . obtain⟨a,b,O,es,u,rfl,_⟩:=h
   rfl
 obtain⟨a,b,O,es,u,rfl,Y,hb,el,r1,r6,u1,u6,hu,k⟩:=h
 refine Ax ⟨_,(Ae (Ay (Ce (Cg (Bh (Bd (Ai d hr (Aa (Ac 0) (Aa Ad (Aa (Lz (v:= .int 6) rfl J) Ab)))))) (Ca (Bh (Bd (Ar (Fl rfl) rfl M boot_all (Aa (Bf (ts:=["row"]) (fs:=[]) rfl (Bb.of (sc:=Ak Dr) (N:=["rows","right"]) rfl rfl (by decide+kernel)) (Bj (Ac 0)) (fun _ _ _=>(Ah 0 (show Nodup (["row"]:List Str)by decide+kernel))) (fun _ _ _=>Az) (fun _ _ _=>(Ai d hr (Aa (Ac 0) (Aa Ad (Aa (Lz (v:= .int 6) rfl J) Ab)))))) Ab))))))) (Af (G6 y G (Aa Cy Ab))) Av)
  (Ae (Ay (Bh (Bd (Ar (Fl rfl) rfl M boot_all (Aa (Bf (ts:=["row"]) (fs:=[(0,"rows")]) rfl (Bb.of (sc:=Ak Dr) (N:=["rows","right"]) rfl rfl (by decide+kernel)) (Bj (Ac 0)) (fun _ _ _=>(Ah 0 (show Nodup (["row","rows"]:List Str)by decide+kernel))) (fun _ _ _=>Az) (fun _ _ _=>(Bx Gf (Ar (Mg K) rfl I PySem.boot_len (Aa (Ac 0) Ab)) (Ar (Mg K) rfl I PySem.boot_len (Aa (Al (Dw K) (Ac 1) Ad (fun _ _=>rfl)) Ab)) (Bl _)))) Ab)))) (Af (G6 y G (Aa Cy Ab))) Av)
  (Af (Ay (Bh (Bd (Ai d hr (Aa (Ac 1) (Aa (Ar Aw rfl I PySem.boot_len (Aa (Ac 0) Ab)) (Aa (Ar Aw rfl I PySem.boot_len (Aa (Ac 0) Ab)) Ab)))))) (Af (G6 y G (Aa Cy Ab))) Av)))),?_⟩
 done
 refine⟨a,_,1,6,rfl,Y.it,by rw [length_map];exact r1,by rw [length_map];exact r6,true,rfl,?_⟩
 rw [if_neg (by decide)]
 have lz:O.length<=sizeLine:=le_trans r6 (by decide)
 refine⟨⟨_,.of Y.it⟩,fun p hp=>Gs (es:=O) (inj:=fun r=>V.ref r.1) (fun _=> .bl true) lz hp (Ec (.of Y.it)) ?_ ?_⟩
 . intro r H2 R L Z hR
   done
   exact⟨r.1,_,1,6,rfl,Z _ _ (Y.al r L).it,by rw [length_map,hu r L];exact u1,by rw [length_map,hu r L];exact u6,hR _ (Same.refl _)⟩
 intro H2 Z h2
 have al:∀l:List Qr,(l.map fun _=>true).all id=true:=fun l=>by simp
 refine⟨p,O.map fun _=>true,rfl,.of (by rw [h2,map_map];rfl),?_⟩
 rw [al,if_neg (by decide)]
 have m2:=Y.mono Z
 obtain⟨U,a0⟩:∃U,O[0]? =some U:=⟨_,getElem?_eq_getElem (by omega)⟩
 have a1:=List.mem_of_getElem? a0
 refine⟨⟨_,.of m2.it⟩,fun q hq=>Gs (es:=O) (inj:=fun r=>V.ref r.1) (fun _=> .bl true) lz hq (Ec (.of m2.it)) ?_ ?_⟩
 . intro r H3 R L s3 hR
   have W:=m2.mono s3
   done
   refine⟨r.1,_,rfl,.inl (.of (W.al r L).it),?_⟩
   refine Cq (.of W.it) (v:= .ref U.1) (Ba (j:=0) (by rw [getElem?_map,a0];rfl)) ?_
   try done
   refine⟨U.1,_,rfl,.inl (.of (W.al U a1).it),?_⟩
   rw [length_map,length_map,hu r L,hu U a1]
   rw [decide_eq_true rfl]
   exact hR _ (Same.refl _)
 intro H3 s3 h3
 have W:=m2.mono s3
 refine⟨q,O.map fun _=>true,rfl,.of (by rw [h3,map_map];rfl),?_⟩
 rw [al,if_neg (by decide)]
 refine⟨a,_,rfl,.inl (.of W.it),a,_,rfl,.inl (.of W.it),b,_,_,_,rfl,(hb.mono (Z.trans s3)).it,by rw [length_map,length_map,el];exact le_refl _,by rw [length_map,length_map,el];exact le_refl _,true,rfl,?_⟩
 rw [if_neg (by decide)]
 exact k _ (Z.trans s3)
theorem Gd {H H':Hp}{p:Addr} (s:Same H H') (h:H' p=none):H p=none:=by
 cases e:H p with
 | none=>rfl
 | some o=>exact absurd (s _ _ e) (by rw [h];simp)
theorem Mi {H1:Hp}{p:Addr}{cσ:St}{g:TG}{te:TE}{Q:VK}{α:Type}{es:List α}{inj:α->V}{J:It} (G:Nat->List V->Hp->Prop) (hz:es.length<=sizeLine) (h0:G 0 [] (upd H1 p (.lst []))) (hl:∀i d H',G i d H'->d.length=i/\H' p=some (.lst d)) (U:∀i d H',G i d H'->Ach J H' es inj)
 (step:∀i e d H' R,es[i]? =some e->G i d H'->(∀v I,I p=some (.lst d)->G (i+1) (d++ [v]) (upd I p (.lst (d++ [v])))->R v I)->g (inj e) cσ H' fun F L=>Kp cσ F/\te F L R)
 (done:∀d H',G es.length d H'->Q (.ref p) H'):cIn J cσ g Gy te Q H1 p:=by
 refine⟨fun i m d H'=>m=es.length-i/\i<=es.length/\G i d H',⟨es.length,by simp,zero_le _,h0⟩,?_⟩
 rintro i m d H' ⟨rfl,hi,pv⟩
 obtain⟨al,ap⟩:=hl _ _ _ pv
 cases he:es[i]? with
 | none=>
   have e:i=es.length:=le_antisymm hi (List.getElem?_eq_none_iff.mp he)
   exact .inl ⟨(U _ _ _ pv i).1 he,done d _ (e▸pv)⟩
 | some e=>
   obtain⟨go,yl⟩:=(U _ _ _ pv i).2 e he
   refine .inr ⟨go,fun x W y=> ?_⟩
   obtain⟨rfl,rfl⟩:=yl x W y
   have M:=(List.getElem?_eq_some_iff.mp he).1
   have q:=step i e d W (fun y I=>I p=some (.lst d)/\d.length<sizeLine/\∃Y,Y<es.length-i/\Y=es.length-(i+1)/\i+1<=es.length/\G (i+1) (d++ [y]) (upd I p (.lst (d++ [y])))) he pv fun v I h6 O=>⟨h6,by omega,_,by omega,rfl,M,O⟩
   have eq:∀(R:VK) (B:Hp->Prop),(fun F L=>Kp cσ F/\Gy F L fun b Z=>if b=true then te F Z R else B Z)=(fun F L=>Kp cσ F/\te F L R):=fun R B=>by
    funext F L
    simp only [Gy,if_pos]
   rw [eq]
   exact q
theorem Aae {t1 t2:Bool}{K:Frag}{a b:Addr}{xs ys:List V}{H1:Hp}{p:Addr}{cσ:St}{g:TG}{te:TE}{Q:VK} (n:Nat) (hn:n=min xs.length ys.length) (I:Nat->V->Hp->Prop) (hz:n<=sizeLine) (hp:H1 p=none)
 (O:∀H',Same H1 H'->SqB t1 K H' a xs) (U:∀H',Same H1 H'->SqB t2 K H' b ys)
 (hm:∀e v H H',I e v H->Same H H'->I e v H') (hu:∀e v H d o,I e v H->H p=some (.lst d)->I e v (upd H p o))
 (step:∀(i:Nat) (H':Hp) (q:Addr) (R:VK),i<n->Same H1 H'->H' q=some (.tup [xs.getD i .non,ys.getD i .non])->(∀v G,Same H' G->I i v G->R v G)->g (.ref q) cσ H' fun F J=>Kp cσ F/\te F J R)
 (done:∀(ns:List V) H',ns.length=n->(∀(i:Nat) v,ns[i]? =some v->I i v H')->Same H1 H'->H' p=some (.lst ns)->Q (.ref p) H'):cIn (Acf t1 t2 K a b) cσ g Gy te Q H1 p:=by
 have su:∀ {H':Hp}{o:HO},Same H1 H'->Same H1 (upd H' p o):=fun {H' o} s b u e=>by
  rw [Bs (Bo e hp)]
  exact s b u e
 refine⟨fun i m d H'=>m=n-i/\i<=n/\(d.length=i/\∀(j:Nat) v,d[j]? =some v->I j v H')/\H' p=some (.lst d)/\Same H1 H',⟨n,by simp,zero_le _,⟨rfl,fun j v h=>by simp at h⟩,Ag,su (Same.refl _)⟩,?_⟩
 rintro i m d H' ⟨rfl,hi,⟨hl,hv⟩,Y,s⟩
 by_cases he:i=n
 . subst he
   exact .inl ⟨⟨xs,ys,O _ s,U _ s,by omega⟩,done d _ hl hv s Y⟩
 . have L:i<n:=by omega
   have ex:xs[i]? =some (xs.getD i .non):=by rw [getD_eq_getElem?_getD,getElem?_eq_getElem (by omega)];rfl
   have ey:ys[i]? =some (ys.getD i .non):=by rw [getD_eq_getElem?_getD,getElem?_eq_getElem (by omega)];rfl
   refine .inr ⟨⟨xs,ys,_,_,O _ s,U _ s,ex,ey⟩,fun x H3 y=> ?_⟩
   obtain⟨q,u,v,Z,a0,hq,rfl,rfl⟩:=y
   have eu:=Z _ (O _ s)
   have ev:=a0 _ (U _ s)
   rw [ex]at eu
   rw [ey]at ev
   cases eu
   cases ev
   have sq:=Same.upd hq (.tup [xs.getD i .non,ys.getD i .non])
   have q0:=step i (upd H' q (.tup [xs.getD i .non,ys.getD i .non])) q (fun y G=>G p=some (.lst d)/\d.length<sizeLine/\∃m',m'<n-i/\m'=n-(i+1)/\i+1<=n/\((d++ [y]).length=i+1/\∀(j:Nat) v,(d++ [y])[j]? =some v->I j v (upd G p (.lst (d++ [y]))))/\
    upd G p (.lst (d++ [y])) p=some (.lst (d++ [y]))/\Same H1 (upd G p (.lst (d++ [y])))) L (s.trans sq) Ag
    (fun v G M pn=>⟨M _ _ (sq _ _ Y),by omega,_,by omega,rfl,L,⟨by rw [length_append,hl];rfl,fun j w h2=>by
      refine hu _ _ _ _ _ ?_ (M _ _ (sq _ _ Y))
      by_cases hj:j<d.length
      . rw [getElem?_append_left hj]at h2
        exact hm _ _ _ _ (hm _ _ _ _ (hv j w h2) sq) M
      . rw [getElem?_append_right (by omega)]at h2
        have a1:j-d.length=0:=by
         have:=(List.getElem?_eq_some_iff.mp h2).1
         simp at this
         omega
        rw [a1]at h2
        have a2:j=i:=by omega
        subst a2
        cases h2
        exact pn⟩,Ag,su ((s.trans sq).trans M)⟩)
   have eq:∀(R:VK) (B:Hp->Prop),(fun F J=>Kp cσ F/\Gy F J fun b H5=>if b=true then te F H5 R else B H5)=(fun F J=>Kp cσ F/\te F J R):=fun R B=>by
    funext F J
    simp only [Gy,if_pos]
   rw [eq]
   exact q0
theorem Ql.keep {H:Hp}{a p:Addr}{es:List (V × Rat)}{d:List V}{o:HO} (h:Ql K H a es) (q:H p=some (.lst d)) (n:a≠p):Ql K (upd H p o) a es:=⟨by rw [Bs n];exact h.it,fun e y=>(h.al e y).put q⟩
structure Bli (K:Frag) (H1 H':Hp) (p:Addr) (fr:List Nat) (W:Nat->List Rat->Prop) (i:Nat) (bs:List Qr):Prop where
 sm:Same H1 H'
 it:H' p=some (.lst (bs.map fun r=>V.ref r.1))
 ln:bs.length=i
 al:∀(k:Nat) r f,bs[k]? =some r->fr[k]? =some f->(r.1≠p/\H1 r.1=none)/\Ql K H' r.1 r.2/\W f (qv r.2)
theorem Bli.snoc {H1 H2 q:Hp}{p:Addr}{fr:List Nat}{W:Nat->List Rat->Prop}{i f:Nat}{bs:List Qr}{x:Qr} (h:Bli K H1 H2 p fr W i bs) (L:H1 p=none) (s:Same H2 q) (nx:H2 x.1=none) (M:Ql K q x.1 x.2) (O:fr[i]? =some f) (w:W f (qv x.2)):Bli K H1 (upd q p (.lst ((bs.map fun r=>V.ref r.1)++ [.ref x.1]))) p fr W (i+1) (bs++ [x]):=by
 have G:=s _ _ h.it
 have I:x.1≠p:=Ne.symm (Bo h.it nx)
 refine⟨(h.sm.trans s).put L,by rw [Ag,map_append];rfl,by rw [length_append,h.ln];rfl,fun k r J d y=> ?_⟩
 by_cases U:k<bs.length
 . rw [getElem?_append_left U]at d
   obtain⟨a,b,c⟩:=h.al k r J d y
   exact⟨a,(b.mono s).keep G a.1,c⟩
 . rw [getElem?_append_right (by omega)]at d
   have F:=(List.getElem?_eq_some_iff.mp d).1
   rw [length_singleton]at F
   have Y:k-bs.length=0:=by omega
   rw [Y]at d
   have Z:x=r:=by simpa using d
   have e2:k=i:=by have:=h.ln;omega
   rw [e2,O]at y
   have e3:f=J:=by simpa using y
   rw [<-Z,<-e3]
   exact⟨⟨I,Gd h.sm nx⟩,M.keep G I,w⟩
theorem Mz {X:Cx} (K:Frag) (h:X.K=K:=by rfl):OpR X (compareOp .NotIn) (rIn K true):=by
 subst h
 exact Hx
theorem Vw {X:Cx} (K:Frag) (h:X.K=K:=by rfl):SlR X (Ahg K):=by
 subst h
 exact Nm
theorem Li {xs:List V}{k:Nat} (h:k<=xs.length):Pg xs (some (k:Int)) none=xs.drop k:=by
 unfold Pg
 rw [HT.Vu,HT.Zb,Nat.min_eq_left h,take_of_length_le (by rw [length_drop];exact le_refl _)]
theorem Aej {xs:List V}{k:Nat} (h:k<=xs.length):Pg xs none (some (k:Int))=xs.take k:=by
 unfold Pg
 rw [HT.Vu,HT.Zb,Nat.min_eq_left h,List.drop_zero,Nat.sub_zero]
theorem Aai (ns:List Int) (lo hi:Option Int):∃ms:List Int,Pg (ns.map V.int) lo hi=ms.map V.int/\ms.length<=ns.length:=by
 unfold Pg
 refine⟨(ns.drop (HT.sIx (ns.map V.int).length 0 lo)).take (HT.sIx (ns.map V.int).length (ns.map V.int).length hi-HT.sIx (ns.map V.int).length 0 lo),by rw [map_take,map_drop],?_⟩
 rw [length_take,length_drop]
 omega
theorem Pk (n:Nat):∀ns:List Nat,inV (.int (n:Nat)) (nats ns)=ns.contains n
 | []=>rfl
 | m::ns=>by
   have d:=Pk n ns
   unfold inV nats at d ⊢
   rw [map_cons,any_cons,d,List.contains_cons]
   by_cases h:m=n
   . subst h
     simp [eqV]
   . have h':¬n=m:=fun z=>h z.symm
     have q:(((m:Nat):Int)==((n:Nat):Int))=false:=beq_eq_false_iff_ne.mpr (by omega)
     have y:(n==m)=false:=beq_eq_false_iff_ne.mpr h'
     simp [eqV,q,y]
theorem Jr:∀ns:List Nat,(nats ns).all N5=true
 | []=>rfl
 | m::ns=>by
   show(V.int (m:Nat)::nats ns).all N5=true
   rw [all_cons,Jr ns]
   rfl
theorem Ag1 {H:Hp}{p:Addr}{u v x:V}{i j l:Nat}{σ:St}{Q:St->Hp->Prop} (h:SqT K H p [u,v,x]) (q:Q (((σ.set i (some u)).set j (some v)).set l (some x)) H):Abs K 3 (Ke (Ga i) (Ke (Ga j) (Ke (Ga l) Ad2))) (.ref p) σ H Q:=⟨p,_,rfl,h,rfl,u,_,rfl,v,_,rfl,x,_,rfl,rfl,q⟩
theorem W9 {H:Hp}{Q:VK}{a:Addr}{xs:List V}{lo hi:Option Int} (h:SqL K H a xs) (k:∀p,H p=none->Q (.ref p) (upd H p (.lst (Pg xs lo hi)))):Ahg K (.ref a) lo hi H Q:=⟨a,xs,rfl,h,k⟩
structure Aee (K:Frag) (H H':Hp) (z:Addr) (R:List (List Rat)) (b:List Rat) (u S:Nat) (ax af ab ay:Addr) (xs:List (V × Rat)) (fr:List Nat) (bs yr:List Qr):Prop where
 it:H' z=some (.tup [.str "all",.ref ax,.ref af,.ref ab,.ref ay])
 qx:Ql K H' ax xs
 fl:H' af=some (.lst (nats fr))
 qb:Qm K H' ab bs
 qy:Qm K H' ay yr
 nx:H ax=none
 nf:H af=none
 nb:H ab=none
 ny:H ay=none
 nbr:∀r∈bs,H r.1=none
 nyr:∀r∈yr,H r.1=none
 db:∀r∈bs,r.1≠ab
 dy:∀r∈yr,r.1≠ay
 sh:Acg R b u (qv xs) fr (bs.map fun r=>qv r.2) (yr.map fun r=>qv r.2)
 zx:∀e∈xs,Szq S e.2
 zb:∀r∈bs,∀e∈r.2,Szq S e.2
 zy:∀r∈yr,∀e∈r.2,Szq S e.2
structure Ad9 (K:Frag) (H H':Hp) (z:Addr) (R:List (List Rat)) (b:List Rat) (u S:Nat) (ay:Addr) (ys:List (V × Rat)):Prop where
 it:H' z=some (.tup [.str "none",.ref ay])
 qy:Ql K H' ay ys
 ny:H ay=none
 ln:(qv ys).length=R.length
 y0:∀j,j<u->dq (qv ys) (R.map (qf · j))=0
 y1:dq (qv ys) b=1
 no:∀q:List Rat,q.length=u->R.map (dq · q)≠b
 zy:∀e∈ys,Szq S e.2
theorem Xx {r:List Int}{u:Nat} (h:u+1<=r.length):Pg (r.map V.int) (some ((u:Nat)+1:Int)) none=(r.drop (u+1)).map V.int:=by
 rw [show((u:Nat)+1:Int)=((u+1:Nat):Int)from rfl,Li (by rw [length_map];exact h),map_drop]
theorem Abw {S u:Nat}{r:List Int}{e:Int}{es:List (V × Rat)} (h:∀x∈r,Sz S x) (d:Sz S e) (F:e≠0) (q:qv es=mul u r e):∀y∈es,Szq S y.2:=fun y G=>by
 have m:y.2∈qv es:=mem_map.mpr ⟨y,G,rfl⟩
 rw [q]at m
 obtain⟨x,I,e⟩:=mem_map.mp m
 rw [<-e]
 exact Szq.of (h x (List.mem_of_mem_drop I)) d F
def Wb (cs:List Nat) (L:List Rw) (d:Int) (u f:Nat) (q:List Rat):Prop:=q.length=u/\(∀j,j<u->j∉cs->qf q j=if j=f then 1 else 0)/\∀(k:Nat) x r,L[k]? =some r->cs[k]? =some x->qf q x=divInt (-(rf r.2 f)) d
theorem Afl (u j:Nat):qf (replicate u 0) j=0:=by
 unfold qf
 rw [getD_eq_getElem?_getD,getElem?_replicate]
 split<;>rfl
theorem Abb {S:Nat} (h:0<S):Szq S 0:=⟨two_pow_pos _,Nat.one_lt_two_pow (by omega)⟩
theorem Ahl {S:Nat} (h:0<S):Szq S 1:=⟨Nat.one_lt_two_pow (by omega),Nat.one_lt_two_pow (by omega)⟩
theorem Zm {es:List (V × Rat)}{cs:List Nat}{u S:Nat} (y:(qv es).length=u) (F:∀j,j<u->j∉cs->Szq S (qf (qv es) j)) (h1:∀(k c:Nat),cs[k]? =some c->Szq S (qf (qv es) c)):∀e∈es,Szq S e.2:=fun e G=>by
 obtain⟨j,d⟩:=getElem?_of_mem G
 have L:=(List.getElem?_eq_some_iff.mp d).1
 rw [length_map]at y
 have I:qf (qv es) j=e.2:=by
  unfold qf
  rw [getD_eq_getElem?_getD,getElem?_map,d]
  rfl
 rw [<-I]
 by_cases q:j∈cs
 . obtain⟨k,J⟩:=getElem?_of_mem q
   exact h1 k j J
 . exact F j (by omega) q
def Ss (K:Frag):Sp:=fun vs H Q _=>∃(a b:Addr) (rs:List Qr) (es:List (V × Rat)) (u n:Nat),vs=[.ref a,.ref b]/\Qm K H a rs/\Ql K H b es/\es.length=rs.length/\1<=rs.length/\rs.length<=6/\1<=u/\u<=6/\(∀r∈rs,r.2.length=u/\∀e∈r.2,Szq n e.2)/\(∀e∈es,Szq n e.2)/\n<=9000/\
 (∀z H' ay ys,Same H H'->Ad9 K H H' z (rs.map fun r=>qv r.2) (qv es) u ((n*11+2)*2^u) ay ys->Q (.ref z) H')/\
 (∀z H' ax af ab ay xs fr bs yr,Same H H'->Aee K H H' z (rs.map fun r=>qv r.2) (qv es) u ((n*11+2)*2^u) ax af ab ay xs fr bs yr->Q (.ref z) H')
theorem Yu {f:Addr}{fd:FuncData} (F:Df K mg "solved" Io ["rows","right"] f fd) (a3:mg "len"=none) (ak:mg "zip"=none) (a9:mg "range"=none) (a4:mg "NOUGHT"=some (.ref (cA K "NOUGHT"))) (a5:Tf K (cA K "NOUGHT") [.int 0,.int 1]) (O:Cal P w K mg base 34 "refuse_shapes" ["rows","right"] (Fg K)) (U:Cal P w K mg base 34 "reduced_rows" ["rows","unknowns"] (Ih K)) (Y:Cal P w K mg base 34 "whole_rows" ["rows","right"] (J5 K)) (a0:Cal P w K mg base 34 "fraction" ["top","bottom"] (Ge K)) (a6:Cal P w K mg base 35 "base_of" ["here","led","reduced","lead","unknowns"] (Ow K)) (M:Cal P w K mg base 35 "fractions" ["tops","bottom"] (K4 K)):Cal P w K mg base 36 "solved" ["rows","right"] (Ss K):=by
 refine F.cal (F.fn.ok Du (fun vs H Q E h=> ?_) (fun c5 A outer s H vs Q E hr h=> ?_))
 . obtain⟨a,b,rs,es,u,n,rfl,_⟩:=h
   rfl
 obtain⟨a,b,rs,es,u,n,rfl,hm,hb,el,r1,r6,u1,u6,hs,be,hn,kn,ka⟩:=h
 refine Ax ⟨_,(Ae (Dd (Ai O hr (Aa (Ac 0) (Aa (Ac 1) Ab))))
  (Ae (Bc 2 Du.nd (Ar Aw rfl a3 PySem.boot_len (Aa (Al Bp (Ac 0) Ad (fun _ _=>rfl)) Ab)))
  (Ae (Cp (Ai U hr (Aa (Ai Y hr (Aa (Ac 0) (Aa (Ac 1) Ab))) (Aa (Ac 2) Ab))) (Ci rfl (Am (Ah 7 Du.nd) (Am (Ah 8 Du.nd) (Am (Ah 9 Du.nd) Bm)))))
  (Ae (Bu PassesOwn.never rfl (Bj (Dp Nm (Ac 8) (Ek (Ar Aw rfl a3 PySem.boot_len (Aa (Ac 7) Ab))) Ej)) (Ah 3 Du.nd) (Af (Ay (Aq Rp (Al Bp (Ac 3) (Ac 2) (fun _ _=>rfl)) Ad (Bl _)) (Af (Aj (Bq (Aa Cy (Aa (Ai M hr (Aa (Dp (Vw K) (Ac 3) (Ek (Ao Fi (Ac 2) Ad)) Ej) (Aa (Al Bp (Ac 3) (Ac 2) (fun _ _=>rfl)) Ab))) Ab))))) Av)))
  (Ae (Dk (ts:=["place"]) (fs:=[(7,"led")]) rfl (Bb.of (sc:=Ak Io) (N:=["rows","right","unknowns","row","free","x","base","led","reduced","lead","place"]) rfl rfl (by decide+kernel)) (Cj rfl a9 (Aa (Ac 2) Ab)) (fun _ _ _=>(Ah 0 (show Nodup (["place","led"]:List Str)by decide+kernel))) (fun _ _ _=>(Et (Aq (Mz K) (Ac 0) (Ac 1) rfl))) (fun _ _ _=>(Ac 0)) (Ah 4 Du.nd))
  (Ae (Bc 5 Du.nd (Ao Ol (Bt (Aa (Dj (v:= .ref (cA K "NOUGHT")) rfl a4 rfl) Ab)) (Ac 2)))
  (Ae (Bu PassesOwn.never rfl (Cr false false rfl ak (Aa (Ac 7) (Aa (Ac 8) Ab))) (Ci rfl (Am (Ah 10 Du.nd) (Am (Ah 3 Du.nd) Bm))) (Af (Cp (Ai a0 hr (Aa (Al Bp (Ac 3) (Ac 2) (fun _ _=>rfl)) (Aa (Ac 9) Ab))) (Ed (Ac 5) (Ac 10) set_list))))
  (Ae (Dk (ts:=["place"]) (fs:=[(7,"led"),(8,"reduced"),(9,"lead"),(2,"unknowns")]) rfl (Bb.of (sc:=Ak Io) (N:=["rows","right","unknowns","row","free","x","base","led","reduced","lead","place"]) rfl rfl (by decide+kernel)) (Bj (Ac 4)) (fun _ _ _=>(Ah 0 (show Nodup (["place","led","reduced","lead","unknowns"]:List Str)by decide+kernel))) (fun _ _ _=>Az) (fun _ _ _=>(Ai a6 hr (Aa (Ac 0) (Aa (Ac 1) (Aa (Ac 2) (Aa (Ac 3) (Aa (Ac 4) Ab))))))) (Ah 6 Du.nd))
  (Af (Aj (Bq (Aa Cy (Aa (Ac 5) (Aa (Ac 4) (Aa (Ac 6) (Aa (Bf (ts:=["row"]) (fs:=[(9,"lead"),(2,"unknowns")]) rfl (Bb.of (sc:=Ak Io) (N:=["rows","right","unknowns","row","free","x","base","led","reduced","lead","place"]) rfl rfl (by decide+kernel)) (Bj (Dp Nm (Ac 8) Ej (Ek (Ar Aw rfl a3 PySem.boot_len (Aa (Ac 7) Ab))))) (fun _ _ _=>(Ah 0 (show Nodup (["row","lead","unknowns"]:List Str)by decide+kernel))) (fun _ _ _=>Az) (fun _ _ _=>(Ai M hr (Aa (Dp (Vw K) (Ac 0) (Ek (Ao Fi (Ac 2) Ad)) Ej) (Aa (Ac 1) Ab))))) Ab)))))))))))))))),?_⟩
 done
 refine⟨a,b,rs,es,u,rfl,hm,hb,el,r1,r6,u1,u6,fun r hr=>(hs r hr).1,fun H1 s1=> ?_⟩
 try done
 obtain⟨r0,b1⟩:∃r0,rs[0]? =some r0:=⟨_,getElem?_eq_getElem (by omega)⟩
 have b2:=List.mem_of_getElem? b1
 have am:=hm.mono s1
 refine Cq (.of am.it) (v:= .ref r0.1) (Ba (j:=0) (by rw [getElem?_map,b1];rfl)) ?_
 try done
 refine⟨r0.1,_,rfl,.inl (.of (am.al r0 b2).it),?_⟩
 rw [length_map,(hs r0 b2).1]
 refine⟨a,b,rs,es,u,n,rfl,am,hb.mono s1,el,r6,u6,hs,be,by omega,fun w0 L0 H2 s2 m2 z2 wh=> ?_⟩
 have l0:L0.length=rs.length:=by simpa using wh.lm
 refine⟨w0,L0,u,u+1+rs.length,n*11+1,rfl,m2,by omega,by omega,u6,by omega,by omega,z2,by omega,fun z l m d G L H3 s3 hz hl m3 rd cu=> ?_⟩
 refine Ag1 (.of hz) ?_
 have a7:=s1.trans (s2.trans s3)
 have lL:L.length=rs.length:=by
  have:=rd.ll
  rw [length_map,length_map]at this
  omega
 have cL:G.length<=L.length:=by simpa using rd.kl
 have LN:∀r∈L,r.2.length=u+1+rs.length:=fun r hr=>rd.ln _ (mem_map.mpr ⟨r,hr,rfl⟩)
 have gL:∀ {j:Nat}{r:Rw},L[j]? =some r->(L.map (·.2))[j]? =some r.2:=fun {j r} h=>by rw [getElem?_map,h];rfl
 have an:(nats G).length=G.length:=length_map _
 clear hz
 have b3:Red (L0.map (·.2)) (L.map (·.2)) G d u u (u+1+(rs.map fun r=>qv r.2).length) (n*11+1):=by rw [length_map];exact rd
 have S0:∀(k:Nat) r,L[k]? =some r->∀j,Sz ((n*11+2)*2^u) (rf r.2 j):=fun k r J j=>by
  have h1:Sz ((n*11+1+1)*2^G.length-1) (rf r.2 j):=rd.sz r.2 (mem_map.mpr ⟨r,List.mem_of_getElem? J,rfl⟩) j
  refine h1.mono ?_
  exact le_trans (Nat.sub_le _ _) (mul_le_mul_left (n*11+2) (pow_le_pow_right (show 0<2 by decide) cu))
 have S2:∀(k:Nat) r,L[k]? =some r->∀x∈r.2,Sz ((n*11+2)*2^u) x:=fun k r J=>Aft (S0 k r J)
 done
 refine⟨l,_,rfl,.inl (.of hl),W9 (.of m3.it) fun p hp=> ?_⟩
 rw [an,Li (by rw [length_map];exact cL),<-map_drop]
 have t4:=Same.upd hp (.lst ((L.drop G.length).map fun r=>V.ref r.1))
 refine⟨p,rfl,⟨_,.of Ag⟩,Ra (es:=L.drop G.length) (inj:=fun r=>V.ref r.1) (fun ao Z H'=>∃o3:Option V,Z=[some (.ref a),some (.ref b),some (.int (u:Nat)),o3,none,none,none,some (.ref l),some (.ref m),some (.int d),none]/\Eqh (upd H3 p (.lst ((L.drop G.length).map fun r=>V.ref r.1))) H'/\∀r∈ao,rf r.2 u=0) ⟨_,rfl,⟨rfl⟩,by simp⟩ ?_ ?_ ?_⟩
 . rintro ao Z H' ⟨o3,rfl,⟨rfl⟩,_⟩
   exact Dv (.of Ag)
 . rintro ao e c4 Z H' hE ⟨o3,rfl,⟨rfl⟩,hz⟩
   have ed:e∈L.drop G.length:=by rw [hE];simp
   obtain⟨j,hj⟩:=getElem?_of_mem ed
   rw [getElem?_drop]at hj
   have em:=List.mem_of_getElem? hj
   have ge:=t4 _ _ (m3.al e em)
   done
   refine Cq (.of ge) (v:= .int (rf e.2 u)) (Ba (Aaj (by rw [LN e em];omega))) ?_
   try done
   by_cases h0:rf e.2 u=0
   . rw [if_pos h0]
     refine⟨_,rfl,⟨rfl⟩,fun r I=> ?_⟩
     rcases mem_append.mp I with h | h
     . exact hz r h
     . have e1:r=e:=by simpa using h
       rw [e1]
       exact h0
   . rw [if_neg h0]
     refine W9 (.of ge) fun q hq=> ?_
     rw [Xx (by rw [LN e em];omega)]
     have t5:=Same.upd hq (.lst ((e.2.drop (u+1)).map V.int))
     refine Cq (.of (t5 _ _ ge)) (v:= .int (rf e.2 u)) (Ba (Aaj (by rw [LN e em];omega))) ?_
     have:=LN e em
     refine⟨q,e.2.drop (u+1),_,rfl,Ag,by rw [length_drop];omega,h0,fun y aa H6 ny s6 qy ey z6 bf=> ?_⟩
     have tz:=Same.upd bf (.tup [.str "none",.ref y])
     obtain⟨c1,c2,c3⟩:=b3.shows_none wh (i:=G.length+j) (by omega) (gL hj) h0
     have b4:qv aa=mul u e.2 (rf e.2 u):=ey
     rw [<-b4]at c1 c2 c3
     exact kn z6 _ y aa (a7.trans (t4.trans (t5.trans (s6.trans tz)))) ⟨Ag,qy.mono tz,Gd (a7.trans (t4.trans t5)) ny,c1,c2,c3,fun zz bg bh=>rd.none (i:=G.length+j) (by omega) (gL hj) h0 (qf zz) ((wh.whl.sol bg).mpr bh),Abw (S2 _ e hj) (S0 _ e hj u) h0 b4⟩
 . rintro Z H' ⟨o3,rfl,⟨rfl⟩,hz⟩
   have lo:∀(i:Nat) r,G.length<=i->(L.map (·.2))[i]? =some r->rf r u=0:=fun i r hi J=>by
    rw [getElem?_map]at J
    cases e:L[i]? with
    | none=>rw [e]at J;cases J
    | some r'=>
      rw [e]at J
      cases J
      refine hz r' (List.mem_of_getElem? (i:=i-G.length) ?_)
      rw [getElem?_drop,show G.length+(i-G.length)=i by omega]
      exact e
   done
   generalize upd H3 p (.lst ((L.drop G.length).map fun r=>V.ref r.1))=H4 at t4
   refine⟨by omega,by omega,fun pf b5=> ?_⟩
   rw [toNat_natCast]
   refine Eu (es:=List.range u) (inj:=fun j=> .int (0+(j:Nat))) (fun j=> !(G.contains j)) (fun j=> .int (0+(j:Nat))) (by rw [length_range];exact le_trans u6 (by decide)) b5 Ft ?_ ?_
   . intro j H5 R RF hj s5 hR hF
     rw [zero_add]at hR ⊢
     done
     refine⟨l,_,rfl,.inl (.of (s5 _ _ (t4 _ _ hl))),rfl,Jr G,?_⟩
     rw [Pk]
     refine⟨_,rfl,?_⟩
     rw [if_pos rfl]
     cases hc: !G.contains j with
     | true=>
       rw [if_pos rfl]
       exact hR hc _ (Same.refl _)
     | false=>
       rw [if_neg (by decide)]
       exact hF hc _ (Same.refl _)
   intro H5 s5 h5
   have b6:H5 pf=some (.lst (nats (frees G u))):=by
    rw [h5]
    unfold nats frees
    simp only [zero_add]
   try done
   intro pn bj
   have t6:=Same.upd bj (.lst [.ref (cA K "NOUGHT")])
   refine⟨pn,_,_,rfl,rfl,Ag,by omega,by omega,by rw [length_singleton,toNat_natCast];exact le_trans (show 1*u<=6 by omega) (by decide),fun px ae=> ?_⟩
   rw [toNat_natCast,flatten_replicate_singleton]
   have t7:=Same.upd ae (.lst (replicate u (V.ref (cA K "NOUGHT"))))
   have ap:=s5.trans (t6.trans t7)
   have aq:Ql K (upd (upd H5 pn (.lst [.ref (cA K "NOUGHT")])) px (.lst (replicate u (V.ref (cA K "NOUGHT"))))) px (replicate u (V.ref (cA K "NOUGHT"),(0:Rat))):=⟨by rw [Ag,map_replicate],fun e he=>by rw [eq_of_mem_replicate he];exact Acu a5⟩
   have h7:=(t6.trans t7) _ _ b6
   generalize upd H5 pn (.lst [.ref (cA K "NOUGHT")])=H6 at t6 t7 ae aq ap h7
   generalize upd H6 px (.lst (replicate u (V.ref (cA K "NOUGHT"))))=H7 at t7 aq ap h7
   have c6:=t4.trans ap
   have bm:qv (replicate u (V.ref (cA K "NOUGHT"),(0:Rat)))=replicate u 0:=map_replicate
   have a8:=t4.trans (s5.trans t6)
   have gl:=a8 _ _ hl
   have gm:=m3.mono a8
   refine⟨l,m,rfl,⟨_,show SqL K H7 l _ from .of (t7 _ _ gl)⟩,⟨_,show SqL K H7 m _ from .of (t7 _ _ gm.it)⟩,Jh (xs:=nats G) (ys:=L.map fun r=>V.ref r.1) G.length (by rw [an,length_map];omega) (fun i Z H'=>∃o3 ag:Option V,Z=[some (.ref a),some (.ref b),some (.int (u:Nat)),o3,some (.ref pf),some (.ref px),none,some (.ref l),some (.ref m),some (.int d),ag]/\Bsi K H6 H' px (replicate u 0) (fun k=>divInt (rf (rowAt L k) u) d) G i) ⟨_,_,rfl,t7,_,aq,by rw [bm];exact Sti.start _ _ _⟩ ?_ ?_ ?_⟩
   . rintro i Z H' ⟨o3,ag,rfl,bi⟩
     exact⟨show SqL K H' l _ from .of (bi.sm _ _ gl),show SqL K H' m _ from .of (bi.sm _ _ gm.it)⟩
   . rintro i Z H8 c hi ⟨o3,ag,rfl,bi⟩ hc
     obtain⟨c7,ql,st⟩:=bi.ex
     have sb:=Same.upd hc (.tup [(nats G).getD i .non,(L.map fun r=>V.ref r.1).getD i .non])
     obtain⟨x,ex⟩:∃x,G[i]? =some x:=⟨_,getElem?_eq_getElem hi⟩
     obtain⟨r,J⟩:∃r,L[i]? =some r:=⟨_,getElem?_eq_getElem (by omega)⟩
     have rm:=List.mem_of_getElem? J
     have v1:(nats G).getD i .non= .int (x:Nat):=by rw [getD_eq_getElem?_getD,G8 ex];rfl
     have v2:(L.map fun r=>V.ref r.1).getD i .non= .ref r.1:=by rw [getD_eq_getElem?_getD,getElem?_map,J];rfl
     rw [v1,v2]at sb
     rw [v1,v2]
     refine Eb (.of Ag) ?_
     generalize upd H8 c (.tup [V.int (x:Nat),.ref r.1])=H9 at sb
     done
     refine Cq (.of ((bi.sm.trans sb) _ _ (gm.al r rm))) (v:= .int (rf r.2 u)) (Ba (Aaj (by rw [LN r rm];omega))) ?_
     try done
     refine⟨_,_,rfl,rd.d0,fun v H4 s4 h4=> ?_⟩
     try done
     have b7:=ql.mono (sb.trans s4)
     have xu:=rd.lt x (List.mem_of_getElem? ex)
     have c8:(replicate u (0:Rat)).length=u:=length_replicate
     refine N6 (j:=x) b7.it (by rw [length_map];have:=st.ln;rw [length_map]at this;omega) ?_
     refine⟨_,_,rfl,Bsi.step (H1:=H) (bi.sm.trans (sb.trans s4)) ae b7 st rd.inc ex (by omega) ?_⟩
     rw [G9 J]
     exact h4
   rintro Z H8 ⟨c9,ag,rfl,bi⟩
   obtain⟨xs,ql,st⟩:=bi.ex
   obtain⟨a1,a2⟩:=st.done rfl
   have bo:=bi.sm _ _ gl
   have bp:=gm.mono bi.sm
   have ar:H8 pf=some (.lst (nats (frees G u))):=bi.sm _ _ (t6 _ _ b6)
   done
   have fl:(frees G u).length<=u:=by
    unfold frees
    have:=List.length_filter_le (fun j=> !(G.contains j)) (List.range u)
    rw [length_range]at this
    exact this
   refine⟨⟨_,.of ar⟩,fun pb as=>Mi (es:=frees G u) (inj:=fun c:Nat=>V.int (c:Nat)) (fun i W H'=>∃bs:List Qr,W=bs.map (fun r=>V.ref r.1)/\Bli K H8 H' pb (frees G u) (Wb G L d u) i bs) (le_trans fl (le_trans u6 (by decide))) ⟨[],rfl,Same.upd as _,Ag,rfl,by simp⟩ ?_ ?_ ?_ ?_⟩
   . rintro i W H' ⟨bs,rfl,bl⟩
     exact⟨by rw [length_map];exact bl.ln,bl.it⟩
   . rintro i W H' ⟨bs,rfl,bl⟩
     exact Dv (.of (bl.sm _ _ ar))
   . rintro i c W H9 R ec ⟨bs,rfl,bl⟩ hR
     have cm:=Cz.mp (List.mem_of_getElem? ec)
     done
     refine⟨c,u,u+1+rs.length,l,m,G,L,d,rfl,by omega,by omega,bl.sm _ _ bo,bp.mono bl.sm,LN,cL,rd.inc,rd.lt,rd.d0,fun y ey au ny b8 qy ly w1 w2=> ?_⟩
     exact hR _ _ (b8 _ _ bl.it) ⟨bs++ [(y,ey)],by rw [map_append];rfl,bl.snoc (x:=(y,ey)) as b8 ny qy ec ⟨by rw [length_map];exact ly,w1,w2⟩⟩
   rintro W H9 ⟨bs,rfl,bl⟩
   try done
   have av:=bi.sm.trans bl.sm
   have ah:=a7.trans (a8.trans av)
   have b9:=gm.mono av
   refine⟨l,_,rfl,.inl (.of (av _ _ gl)),W9 (.of b9.it) fun pt bq=> ?_⟩
   rw [an,Aej (by rw [length_map];exact cL),<-map_take]
   have ac:=Same.upd bq (.lst ((L.take G.length).map fun r=>V.ref r.1))
   have ad:upd H9 pt (.lst ((L.take G.length).map fun r=>V.ref r.1)) pt=some (.lst ((L.take G.length).map fun r=>V.ref r.1)):=Ag
   generalize upd H9 pt (.lst ((L.take G.length).map fun r=>V.ref r.1))=au at ac ad
   refine⟨pt,rfl,⟨_,.of ad⟩,fun py aw=>Mi (es:=L.take G.length) (inj:=fun r=>V.ref r.1) (fun i W H'=>∃yr:List Qr,W=yr.map (fun r=>V.ref r.1)/\Bli K au H' py (List.range G.length) (fun k q=>∃r,L[k]? =some r/\q=mul u r.2 d) i yr) (le_trans (List.length_take_le _ _) (le_trans (show G.length<=6 by omega) (by decide))) ⟨[],rfl,Same.upd aw _,Ag,rfl,by simp⟩ ?_ ?_ ?_ ?_⟩
   . rintro i W H' ⟨yr,rfl,yl⟩
     exact⟨by rw [length_map];exact yl.ln,yl.it⟩
   . rintro i W H' ⟨yr,rfl,yl⟩
     exact Dv (.of (yl.sm _ _ ad))
   . rintro i e W az R ee ⟨yr,rfl,yl⟩ hR
     have ik:=(List.getElem?_eq_some_iff.mp ee).1
     rw [length_take]at ik
     rw [List.getElem?_take_of_lt (by omega)]at ee
     have em:=List.mem_of_getElem? ee
     have ge:=yl.sm _ _ (ac _ _ (b9.al e em))
     done
     refine W9 (.of ge) fun q hq=> ?_
     have:=LN e em
     rw [Xx (by omega)]
     have t5:=Same.upd hq (.lst ((e.2.drop (u+1)).map V.int))
     refine⟨q,e.2.drop (u+1),_,rfl,Ag,by rw [length_drop];omega,rd.d0,fun y aa H6 ny s6 qy ey=> ?_⟩
     have ba:=t5.trans s6
     exact hR _ _ (ba _ _ yl.it) ⟨yr++ [(y,aa)],by rw [map_append];rfl,yl.snoc (x:=(y,aa)) aw ba (Gd t5 ny) qy (getElem?_range (by omega)) ⟨e,ee,ey⟩⟩
   rintro W az ⟨yr,rfl,yl⟩
   refine⟨by decide,fun z' br=> ?_⟩
   have tz:=Same.upd br (.tup [.str "all",.ref px,.ref pf,.ref pb,.ref py])
   have sE:=ac.trans (yl.sm.trans tz)
   have yn:yr.length=G.length:=by
    have:=yl.ln
    rw [length_take]at this
    omega
   have yw:∀(k:Nat) y,yr[k]? =some y->((y.1≠py/\au y.1=none)/\Ql K az y.1 y.2/\∃r,L[k]? =some r/\qv y.2=mul u r.2 d):=fun k y hk=>yl.al k y k hk (getElem?_range (by have:=(List.getElem?_eq_some_iff.mp hk).1;omega))
   have bw:∀(k:Nat) r f,bs[k]? =some r->(frees G u)[k]? =some f->Wb G L d u f (qv r.2):=fun k r f h1 h2=>(bl.al k r f h1 h2).2.2
   have bn:bs.length=(frees G u).length:=bl.ln
   have xl:(qv xs).length=u:=by have:=st.ln;rw [length_replicate]at this;exact this
   have x0:∀j,j∉G->qf (qv xs) j=0:=fun j hj=>by rw [a1 j hj,Afl]
   have Sd:∀(k:Nat) c r,L[k]? =some r->G[k]? =some c->Sz ((n*11+2)*2^u) d:=fun k c r J ec=>by
    rw [<-(rd.led (gL J) ec).1]
    exact S0 k r J c
   have S1:0<(n*11+2)*2^u:=Nat.mul_pos (by omega) (two_pow_pos _)
   have aj:∀ {k c:Nat},G[k]? =some c->∃r,L[k]? =some r:=fun {k c} ec=>⟨_,getElem?_eq_getElem (by have:=(List.getElem?_eq_some_iff.mp ec).1;omega)⟩
   have bt:yr.map (fun r=>qv r.2)=((L.map (·.2)).take G.length).map fun r=>mul u r d:=by
    refine List.ext_getElem? fun k=> ?_
    rw [getElem?_map,getElem?_map]
    by_cases hk:k<G.length
    . obtain⟨y,ey⟩:∃y,yr[k]? =some y:=⟨_,getElem?_eq_getElem (by omega)⟩
      obtain⟨_,_,r,J,eq⟩:=yw k y ey
      rw [ey,List.getElem?_take_of_lt hk,gL J]
      exact congrArg some eq
    . rw [getElem?_eq_none (by omega),getElem?_eq_none (by rw [length_take];omega)]
      rfl
   have ca:Same H H9:=ah
   have b0:∀r∈bs,(H r.1=none/\r.1≠pb)/\Ql K H9 r.1 r.2:=fun r I=>by
    obtain⟨k,hk⟩:=getElem?_of_mem I
    have kl:=(List.getElem?_eq_some_iff.mp hk).1
    obtain⟨f,hf⟩:∃f,(frees G u)[k]? =some f:=⟨_,getElem?_eq_getElem (by omega)⟩
    obtain⟨⟨d8,n8⟩,q8,_⟩:=bl.al k r f hk hf
    exact⟨⟨Gd (a7.trans (a8.trans bi.sm)) n8,d8⟩,q8⟩
   have ai:∀y∈yr,(H y.1=none/\y.1≠py)/\Ql K az y.1 y.2/\∀e∈y.2,Szq ((n*11+2)*2^u) e.2:=fun y hy=>by
    obtain⟨k,hk⟩:=getElem?_of_mem hy
    obtain⟨⟨bv,bx⟩,c0,r,J,eq⟩:=yw k y hk
    have kl:=(List.getElem?_eq_some_iff.mp hk).1
    exact⟨⟨Gd (ah.trans ac) bx,bv⟩,c0,Abw (S2 k r J) (Sd k _ r J (getElem?_eq_getElem (by omega))) rd.d0 eq⟩
   refine ka z' _ px pf pb py xs (frees G u) bs yr (ah.trans sE) ⟨Ag,ql.mono (bl.sm.trans sE),sE _ _ (bl.sm _ _ ar),⟨sE _ _ bl.it,fun r I=>(b0 r I).2.mono sE⟩,⟨tz _ _ yl.it,fun r I=>(ai r I).2.1.mono tz⟩,Gd (a7.trans a8) ae,Gd (a7.trans t4) b5,Gd (a7.trans (a8.trans bi.sm)) as,Gd (ah.trans ac) aw,fun r I=>(b0 r I).1.1,fun r I=>(ai r I).1.1,fun r I=>(b0 r I).1.2,fun r I=>(ai r I).1.2,?_,Zm (cs:=G) xl (fun j _ hj=> ?_) (fun k c ec=> ?_),fun r I=> ?_,fun r I=>(ai r I).2.2⟩
   . obtain⟨bb,bc⟩:=X6 (Fz G u) (s:=bs.map fun r=>qv r.2) (by rw [length_map];exact bn)
     have wb:∀f∈frees G u,Wb G L d u f (bb f):=fun f hf=>by
      obtain⟨k,hk⟩:=getElem?_of_mem hf
      have kl:=(List.getElem?_eq_some_iff.mp hk).1
      obtain⟨r,J⟩:∃r,bs[k]? =some r:=⟨_,getElem?_eq_getElem (by omega)⟩
      have e:=congrArg (·[k]?) bc
      simp only [getElem?_map,J,hk,map_some,Option.some.injEq]at e
      rw [<-e]
      exact bw k r f J hk
     have bd:∀ {k:Nat}{r:List Int},(L.map (·.2))[k]? =some r->∃r',L[k]? =some r'/\r'.2=r:=fun {k r} h=>by
      rw [getElem?_map]at h
      cases e:L[k]? with
      | none=>rw [e]at h;cases h
      | some r'=>
        rw [e]at h
        exact⟨r',rfl,by simpa using h⟩
     rw [bc,bt]
     refine b3.shown wh lo xl x0 (fun i r c I hc=> ?_) (fun f hf=>(wb f hf).1) (fun f hf=>(wb f hf).2.1) (fun f hf i r c I hc=> ?_)
     . obtain⟨r',e1,e2⟩:=bd I
       rw [a2 i c hc,G9 e1,e2]
     . obtain⟨r',e1,e2⟩:=bd I
       rw [(wb f hf).2.2 i c r' e1 hc,e2]
   . rw [x0 j hj]
     exact Abb S1
   . obtain⟨r,J⟩:=aj ec
     rw [a2 k c ec,G9 J]
     exact Szq.of (S0 k r J u) (Sd k c r J ec) rd.d0
   . obtain⟨k,hk⟩:=getElem?_of_mem I
     have kl:=(List.getElem?_eq_some_iff.mp hk).1
     obtain⟨f,hf⟩:∃f,(frees G u)[k]? =some f:=⟨_,getElem?_eq_getElem (by omega)⟩
     obtain⟨w1,w2,w3⟩:=bw k r f hk hf
     refine Zm (cs:=G) w1 (fun j ju hj=> ?_) (fun i c ec=> ?_)
     . rw [w2 j ju hj]
       split
       . exact Ahl S1
       . exact Abb S1
     . obtain⟨r2,J⟩:=aj ec
       rw [w3 i c r2 J ec]
       refine Szq.of ?_ (Sd i c r2 J ec) rd.d0
       have:=S0 i r2 J f
       unfold Sz at this ⊢
       rw [natAbs_neg]
       exact this
theorem V7 {x:Int} (h:x.natAbs<2^60):Builtin.Int.intBits x<=64:=le_trans (PySem.intBits_le_iff.mpr h) (by decide)
def Src (H:Hp) (l:Addr) (c:Nat):Prop:=∃(x y z:Int) (k:Nat),H l=some (.lst [.int x,.int y,.int (k:Nat),.int z])/\k<=c
def Sx (l:Addr) (H H':Hp):Prop:=∀b o,b≠l->H b=some o->H' b=some o
theorem Sx.of {l:Addr}{H H':Hp} (s:Same H H'):Sx l H H':=fun b o _ e=>s b o e
theorem Sx.refl (l:Addr) (H:Hp):Sx l H H:=fun _ _ _ e=>e
theorem Sx.trans {l:Addr}{H H1 H2:Hp} (a:Sx l H H1) (b:Sx l H1 H2):Sx l H H2:=fun c o n e=>b c o n (a c o n e)
theorem Sx.same {l:Addr}{H H1 H2:Hp} (a:Sx l H H1) (b:Same H1 H2):Sx l H H2:=a.trans (.of b)
theorem Src.same {H H':Hp}{l:Addr}{c:Nat} (h:Src H l c) (s:Same H H'):Src H' l c:=by
 obtain⟨x,y,z,k,e,n⟩:=h
 exact⟨x,y,z,k,s _ _ e,n⟩
theorem Src.up {H:Hp}{l:Addr}{c d:Nat} (h:Src H l c) (n:c<=d):Src H l d:=by
 obtain⟨x,y,z,k,e,m⟩:=h
 exact⟨x,y,z,k,e,by omega⟩
theorem Src.lst {H:Hp}{l:Addr}{c:Nat} (h:Src H l c):∃d,H l=some (.lst d):=by
 obtain⟨x,y,z,k,e,_⟩:=h
 exact⟨_,e⟩
theorem IsQ.sx {H H':Hp}{l:Addr}{v:V}{q:Rat}{c:Nat} (h:IsQ K H v q) (s:Sx l H H') (d:Src H l c):IsQ K H' v q:=by
 obtain⟨a,e,t⟩:=h
 obtain⟨y,d⟩:=d.lst
 refine⟨a,e,?_⟩
 rcases t with(h | ⟨o',h⟩) | h
 . exact .inl (.inl (s _ _ (Aam h d (by intro z;cases z)) h))
 . exact .inl (.inr ⟨o',s _ _ (Aam h d (by intro z;cases z)) h⟩)
 . exact .inr h
theorem Ql.sx {H H':Hp}{l a:Addr}{es:List (V × Rat)}{c:Nat} (h:Ql K H a es) (n:a≠l) (s:Sx l H H') (d:Src H l c):Ql K H' a es:=⟨s _ _ n h.it,fun e q=>(h.al e q).sx s d⟩
structure Off (l a:Addr) (rs:List Qr):Prop where
 a:a≠l
 r:∀r∈rs,r.1≠l
theorem Qm.sx {H H':Hp}{l a:Addr}{rs:List Qr}{c:Nat} (h:Qm K H a rs) (n:Off l a rs) (s:Sx l H H') (q:Src H l c):Qm K H' a rs:=⟨s _ _ n.a h.it,fun r d=>(h.al r d).sx (n.r r d) s q⟩
def Nu (K:Frag):Sp:=fun vs H Q _=>∃c:Int,vs=[.int c]/\∀z H',H z=none->Same H H'->Src H' z 0->Q (.ref z) H'
theorem T9 {f:Addr}{fd:FuncData} (F:Df K mg "_law_source" Km ["_law_draw"] f fd)    :Cal P w K mg base 33 "_law_source" ["_law_draw"] (Nu K):=by
 refine F.cal (F.fn.ok Um (fun q H Q E h=> ?_) (fun y A outer s H q Q E G h=> ?_))
 . obtain⟨c,rfl,_⟩:=h
   rfl
 obtain⟨c,rfl,k⟩:=h
 refine Ax ⟨_,(Af (Aj (Bt (Aa (Ao Lp (Ac 0) Ad) (Aa (Ao Iw (Ac 0) Ad) (Aa Ad (Aa (Ac 0) Ab))))))),?_⟩
 done
 exact⟨⟨by decide,by decide⟩,by decide,by decide,fun p d=>k p _ d (Same.upd d _) ⟨_,_,_,0,Ag,le_refl _⟩⟩
def Kr (K:Frag):Sp:=fun vs H Q _=>∃(c:Int) (k:Nat),vs=[.int c,.int (k:Nat)]/\k<2^20/\∀r:Int,Q (.int r) H
theorem Wu {f:Addr}{fd:FuncData} (F:Df K mg "_law_mixed" Nf ["_law_draw","_law_k"] f fd)    :Cal P w K mg base 33 "_law_mixed" ["_law_draw","_law_k"] (Kr K):=by
 refine F.cal (F.fn.ok Ko (fun y H Q E h=> ?_) (fun G A outer s H y Q E O h=> ?_))
 . obtain⟨c,k,rfl,_⟩:=h
   rfl
 obtain⟨c,k,rfl,U,q⟩:=h
 refine Ax ⟨_,(Ae (Bc 2 Ko.nd (Ao Iw (Ao Dg (Ao Fi (Ao Fi (Ao Iw (Ac 0) Ad) (Ao Dg Ad (Ac 1))) Ad) (Ao Fi Ad (Ao Dg Ad (Ac 1)))) Ad))
  (Ae (Bc 2 Ko.nd (Ao Iw (Ao Dg (Ac 2) (Ao Fi (Ao Lp (Ac 2) Ad) Ad)) Ad))
  (Af (Aj (Ao Iw (Ao Dg (Ac 2) (Ao Fi (Ao Fi (Ao Lp (Ac 2) Ad) Ad) (Ac 1))) Ad))))),?_⟩
 done
 refine⟨by decide,.of_left (V7 (by decide)),.of_left (V7 (by decide)),.of_right (V7 (by omega)),by decide,?_⟩
 generalize (c%2147483629+69621*(k:Int)+1)*(48271+2*(k:Int))=a
 have I:=emod_nonneg a (show(2147483629:Int)≠0 by decide)
 have J:=emod_lt_of_pos a (show(0:Int)<2147483629 by decide)
 generalize a%2147483629=b at I J
 refine⟨⟨by decide,by decide⟩,.of_left (V7 (by omega)),by decide,?_⟩
 generalize b*(b/1009+69621)=d
 have L:=emod_nonneg d (show(2147483629:Int)≠0 by decide)
 have M:=emod_lt_of_pos d (show(0:Int)<2147483629 by decide)
 generalize d%2147483629=e at L M
 exact⟨⟨by decide,by decide⟩,.of_left (V7 (by omega)),by decide,q _⟩
def Ie (K:Frag):Sp:=fun vs H Q _=>∃(l:Addr) (m:Int) (c:Nat),vs=[.ref l,.int m]/\Src H l c/\c<100000/\0<m/\m<2^50/\∀r H',0<=r->r<m->Sx l H H'->Src H' l (c+1)->Q (.int r) H'
theorem Yr {f:Addr}{fd:FuncData} (F:Df K mg "_law_next" Qe ["_law_source_here","_law_many"] f fd)   (d:Cal P w K mg base 33 "_law_mixed" ["_law_draw","_law_k"] (Kr K)):Cal P w K mg base 34 "_law_next" ["_law_source_here","_law_many"] (Ie K):=by
 refine F.cal (F.fn.ok R4 (fun M H Q E h=> ?_) (fun O A outer s H M Q E U h=> ?_))
 . obtain⟨l,m,c,rfl,_⟩:=h
   rfl
 obtain⟨l,m,c,rfl,⟨x,y,z,j,q,Y⟩,Z,G,m1,k⟩:=h
 refine Ax ⟨_,(Ae (Ay (Ce (Mf (Aq Gf (Al Bp (Ac 0) Ad (fun _ _=>rfl)) Ad (Bl _)) (Ka (Aq Ac2 (Al Bp (Ac 0) Ad (fun _ _=>rfl)) Ad (Bl _))))) (Ae (Bc 2 R4.nd (Ao Iw (Al Bp (Ac 0) Ad (fun _ _=>rfl)) (Ac 1)))
  (Ae (Cp (Ao Lp (Al Bp (Ac 0) Ad (fun _ _=>rfl)) (Ac 1)) (Ed (Ac 0) Ad set_list))
  (Af (Aj (Ac 2))))) Av)
  (Ae (Cp (Ao Fi (Al Bp (Ac 0) Ad (fun _ _=>rfl)) Ad) (Ed (Ac 0) Ad set_list))
  (Af (Aj (Ao Iw (Ai d U (Aa (Al Bp (Ac 0) Ad (fun _ _=>rfl)) (Aa (Al Bp (Ac 0) Ad (fun _ _=>rfl)) Ab))) (Ac 1)))))),?_⟩
 done
 refine Cq (.of q) (v:= .int y) (at1 _ _ _) ?_
 try done
 have el:Ad3 K (.ref l) (.int 2) H fun x H1=>rI0 (fun i j=>V.int (i+j)) x (V.int 1) H1 fun x H1=>Adh (V.ref l) (V.int 2) x H1 fun W=>Ad3 K (V.ref l) (V.int 3) W fun x H1=>Ad3 K (V.ref l) (V.int 2) H1 fun I H1=>Kr K [x,I] H1 (fun x H1=>rI (fun x j=>0<j) (fun i j=>V.int (i%j)) x (V.int m) H1 Q) E0:=by
  refine Cq (.of q) (v:= .int (j:Nat)) (Ba (j:=2) rfl) ?_
  try done
  refine N6 (j:=2) q (by simp) ?_
  refine Cq (.of Ag) (v:= .int z) (Ba (j:=3) rfl) ?_
  refine Cq (.of Ag) (v:= .int ((j:Nat)+1)) (Ba (j:=2) rfl) ?_
  refine⟨z,j+1,by rw [Int.natCast_add];rfl,by omega,fun r=> ?_⟩
  try done
  refine⟨G,k _ _ (emod_nonneg _ (by omega)) (emod_lt_of_pos _ G) (fun b o n e=>by rw [Bs n];exact e) ⟨x,y,z,j+1,Ag,by omega⟩⟩
 by_cases J:y=0
 . rw [if_pos J]
   refine Cq (.of q) (v:= .int x) (at0 _ _) ?_
   try done
   by_cases L:1<x
   . rw [if_pos L]
     refine Cq (.of q) (v:= .int x) (at0 _ _) ?_
     try done
     refine⟨G,Cq (.of q) (v:= .int x) (at0 _ _) ?_⟩
     try done
     refine⟨⟨G,Sz.log2 (n:=50) (by unfold Sz;omega) (by omega) (by decide)⟩,N6 (j:=0) q (by simp) ?_⟩
     exact k _ _ (emod_nonneg _ (by omega)) (emod_lt_of_pos _ G) (fun b o n e=>by rw [Bs n];exact e) ⟨x/m,y,z,j,Ag,by omega⟩
   . rw [if_neg L]
     exact el
 . rw [if_neg J]
   exact el
def Nt (K:Frag):Sp:=fun vs H Q _=>∃a b:Nat,vs=[.int (a:Nat),.int (b:Nat)]/\Q (.int ((Nat.gcd a b:Nat):Int)) H
theorem T8 {f:Addr}{fd:FuncData} (F:Df K mg "_law_shared" Kl ["_law_one","_law_other"] f fd)    :Cal P w K mg base 33 "_law_shared" ["_law_one","_law_other"] (Nt K):=by
 refine F.cal (F.fn.ok Ni (fun J H Q E h=> ?_) (fun L A outer s H J Q E hr h=> ?_))
 . obtain⟨a,b,rfl,_⟩:=h
   rfl
 obtain⟨a,b,rfl,q⟩:=h
 refine Ax ⟨_,(Ae (Ma PassesOwn.never (Aq Ac2 (Ac 1) Ad (Bl _)) (Af (Qx (i:=0) (j:=1) rfl Ni.nd rfl rfl (by decide) rfl rfl (Aa (Ac 1) (Aa (Ao Iw (Ac 0) (Ac 1)) Ab)) rfl)))
  (Af (Aj (Ac 0)))),?_⟩
 done
 refine V4 (fun σ H'=>H'=H/\∃x y:Nat,σ=[some (.int x),some (.int y)]/\Nat.gcd x y=Nat.gcd a b)
  (fun σ _=>match σ with | [_,some (.int y)]=>y.toNat | _=>0) ⟨rfl,_,_,rfl,rfl⟩ ?_ ?_
 . rintro σ H' ⟨rfl,x,y,rfl,e⟩
   done
   by_cases I:0<(y:Int)
   . rw [if_pos I]
     refine⟨by omega,⟨y,x%y,by rw [natCast_emod],by rw [Vd];exact e⟩,?_⟩
     show((x:Int)%(y:Int)).toNat<(y:Int).toNat
     rw [<-natCast_emod,toNat_natCast,toNat_natCast]
     exact mod_lt _ (by omega)
   . rw [if_neg I]
     have d:y=0:=by omega
     subst d
     rw [Nat.gcd_zero_right]at e
     subst e
     exact q
 . intro σ H' Q1 Q2 G
   simp only [Zz,Aif]
   rintro⟨v,M,O,k,U,W,Y,Z,h3⟩
   exact⟨v,M,O,k,U,W,Y,Z,G _ _ h3⟩
def Ib (K:Frag):Sp:=fun vs H Q _=>∃a b:Int,vs=[.int a,.int b]/\0<b/\∀z H',Same H H'->IsQ K H' z (divInt a b)->Q z H'
theorem Yp {f:Addr}{fd:FuncData} (F:Df K mg "_law_frac" Qc ["_law_top","_law_bottom"] f fd) (y:mg "abs"=none) (J:Pyl P base) (d:Cal P w K mg base 33 "_law_shared" ["_law_one","_law_other"] (Nt K)):Cal P w K mg base 34 "_law_frac" ["_law_top","_law_bottom"] (Ib K):=by
 refine F.cal (F.fn.ok R3 (fun M H Q E h=> ?_) (fun O A outer s H M Q E I h=> ?_))
 . obtain⟨a,b,rfl,_⟩:=h
   rfl
 obtain⟨a,b,rfl,L,q⟩:=h
 refine Ax ⟨_,(Ae (Bc 2 R3.nd (Ai d I (Aa (Ar Pa rfl y boot_abs (Aa (Ac 0) Ab)) (Aa (Ac 1) Ab))))
  (Af (Aj (Bq (Aa (Ao (Il J (I.far (by decide)) rfl rfl rfl rfl rfl) (Ac 0) (Ac 2)) (Aa (Ao (Il J (I.far (by decide)) rfl rfl rfl rfl rfl) (Ac 1) (Ac 2)) Ab)))))),?_⟩
 repeat (first | done | simp only [abs_eq])
 refine⟨a.natAbs,b.natAbs,by rw [show((b.natAbs:Nat):Int)=b by omega],?_⟩
 have U:Nat.gcd a.natAbs b.natAbs=Int.gcd a b:=rfl
 rw [U]
 try done
 have G:((Int.gcd a b:Nat):Int)≠0:=by
  have:=Int.gcd_pos_of_ne_zero_right a (show b≠0 by omega)
  omega
 refine⟨G,G,fun p W=> ?_⟩
 rw [(Js L).1,(Js L).2]
 exact q _ _ (Same.upd W _) ⟨p,rfl,.of Ag⟩
theorem Szq.add {n m:Nat}{p q:Rat} (h:Szq n p) (g:Szq m q):Szq (n+m+1) (p+q):=by
 rw [<-Aiu]
 have d:((p.den:Int)*(q.den:Int))≠0:=Int.mul_ne_zero (Iv p) (Iv q)
 exact .of (((h.1.mul g.2).add (g.1.mul h.2)).mono (by omega)) ((h.2.mul g.2).mono (by omega)) d
theorem Szq.mul {n m:Nat}{p q:Rat} (h:Szq n p) (g:Szq m q):Szq (n+m) (p*q):=by
 rw [<-Aiv]
 exact .of (h.1.mul g.1) (h.2.mul g.2) (Int.mul_ne_zero (Iv p) (Iv q))
theorem Szq.mono {n m:Nat}{q:Rat} (h:Szq n q) (l:n<=m):Szq m q:=⟨h.1.mono l,h.2.mono l⟩
theorem Wf (q:Rat):(0:Int)<(q.den:Int):=by have:=q.den_pos;omega
def J4 (K:Frag):Sp:=fun vs H Q _=>∃(x y:V) (p q:Rat) (n m:Nat),vs=[x,y]/\IsQ K H x p/\IsQ K H y q/\Szq n p/\Szq m q/\n+m<=134217728/\∀z H',Same H H'->IsQ K H' z (p+q)->Q z H'
theorem Aaq {f:Addr}{fd:FuncData} (F:Df K mg "_law_sum" Uj ["_law_one","_law_other"] f fd)   (d:Cal P w K mg base 34 "_law_frac" ["_law_top","_law_bottom"] (Ib K)):Cal P w K mg base 35 "_law_sum" ["_law_one","_law_other"] (J4 K):=by
 refine F.cal (F.fn.ok Aa4 (fun O H Q E h=> ?_) (fun U A outer s H O Q E W h=> ?_))
 . obtain⟨x,y,p,q,n,m,rfl,_⟩:=h
   rfl
 obtain⟨x,y,p,q,n,m,rfl,⟨a,rfl,G⟩,⟨b,rfl,I⟩,J,L,M,k⟩:=h
 refine Ax ⟨_,(Af (Aj (Ai d W (Aa (Ao Fi (Ao Dg (Al Br (Ac 0) Ad (fun _ _=>rfl)) (Al Br (Ac 1) Ad (fun _ _=>rfl))) (Ao Dg (Al Br (Ac 1) Ad (fun _ _=>rfl)) (Al Br (Ac 0) Ad (fun _ _=>rfl)))) (Aa (Ao Dg (Al Br (Ac 0) Ad (fun _ _=>rfl)) (Al Br (Ac 1) Ad (fun _ _=>rfl))) Ab))))),?_⟩
 done
 refine Cd G (at0 _ _) (Cd I (at1 _ _ _) ?_)
 try done
 refine⟨J.1.mulOk L.2 M,Cd I (at0 _ _) (Cd G (at1 _ _ _) ?_)⟩
 try done
 refine⟨L.1.mulOk J.2 (by omega),Cd G (at1 _ _ _) (Cd I (at1 _ _ _) ?_)⟩
 try done
 refine⟨J.2.mulOk L.2 M,_,_,rfl,mul_pos (Wf p) (Wf q),fun z H' s' h'=>k z H' s' ?_⟩
 rw [Aiu]at h'
 exact h'
def Gp (K:Frag):Sp:=fun vs H Q _=>∃(x y:V) (p q:Rat) (n m:Nat),vs=[x,y]/\IsQ K H x p/\IsQ K H y q/\Szq n p/\Szq m q/\n+m<=134217728/\∀z H',Same H H'->IsQ K H' z (p*q)->Q z H'
theorem Rm {f:Addr}{fd:FuncData} (F:Df K mg "_law_product" Ji ["_law_one","_law_other"] f fd)   (d:Cal P w K mg base 34 "_law_frac" ["_law_top","_law_bottom"] (Ib K)):Cal P w K mg base 35 "_law_product" ["_law_one","_law_other"] (Gp K):=by
 refine F.cal (F.fn.ok R5 (fun O H Q E h=> ?_) (fun U A outer s H O Q E W h=> ?_))
 . obtain⟨x,y,p,q,n,m,rfl,_⟩:=h
   rfl
 obtain⟨x,y,p,q,n,m,rfl,⟨a,rfl,G⟩,⟨b,rfl,I⟩,J,L,M,k⟩:=h
 refine Ax ⟨_,(Af (Aj (Ai d W (Aa (Ao Dg (Al Br (Ac 0) Ad (fun _ _=>rfl)) (Al Br (Ac 1) Ad (fun _ _=>rfl))) (Aa (Ao Dg (Al Br (Ac 0) Ad (fun _ _=>rfl)) (Al Br (Ac 1) Ad (fun _ _=>rfl))) Ab))))),?_⟩
 done
 refine Cd G (at0 _ _) (Cd I (at0 _ _) ?_)
 try done
 refine⟨J.1.mulOk L.1 M,Cd G (at1 _ _ _) (Cd I (at1 _ _ _) ?_)⟩
 try done
 refine⟨J.2.mulOk L.2 M,_,_,rfl,mul_pos (Wf p) (Wf q),fun z H' s' h'=>k z H' s' ?_⟩
 rw [Aiv]at h'
 exact h'
theorem Gh {H:Hp}{a:Addr} (h:H a=some (.tup [.int 0,.int 1])):IsQ K H (.ref a) 0:=⟨a,rfl,.of h⟩
theorem Acv {H:Hp}{a:Addr}{i:Int} (h:H a=some (.tup [.int i,.int 1])):IsQ K H (.ref a) (i:Rat):=⟨a,rfl,.of h⟩
def Fx (K:Frag):Sp:=fun vs H Q _=>∃(l:Addr) (c:Nat),vs=[.ref l]/\Src H l c/\c<50000/\∀z q H',Sx l H H'->Src H' l (c+3)->IsQ K H' z q->Szq 42 q->Q z H'
theorem Ik {H:Hp}{Q:VK}{E:XK}{l:Addr}{m:Int}{c:Nat} (h:Src H l c) (d:c<100000) (q:0<m) (y:m<2^50) (k:∀r H',0<=r->r<m->Sx l H H'->Src H' l (c+1)->Q (.int r) H'):Ie K [.ref l,.int m] H Q E:=⟨l,m,c,rfl,h,d,q,y,k⟩
theorem Ab9 {a b:Int} (h:a.natAbs<2^42) (g:0<b) (g':b<2^42):Szq 42 (divInt a b):= .of h (by unfold Sz;omega) (by omega)
theorem Wt {f:Addr}{fd:FuncData} (F:Df K mg "_law_drawn" Nb ["_law_source_here"] f fd)   (d:Cal P w K mg base 34 "_law_next" ["_law_source_here","_law_many"] (Ie K)) (q:Cal P w K mg base 34 "_law_frac" ["_law_top","_law_bottom"] (Ib K)):Cal P w K mg base 35 "_law_drawn" ["_law_source_here"] (Fx K):=by
 refine F.cal (F.fn.ok Oo (fun vs H Q E h=> ?_) (fun a0 A outer s H vs Q E y h=> ?_))
 . obtain⟨l,c,rfl,_⟩:=h
   rfl
 obtain⟨l,c,rfl,hs,hc,k⟩:=h
 refine Ax ⟨_,(Ae (Bc 1 Oo.nd (Ai d y (Aa (Ac 0) (Aa Ad Ab))))
  (Ae (Ay (Aq Gf (Ac 1) Ad (Bl _)) (Af (Aj (Ai q y (Aa (Ao M4 (Ai d y (Aa (Ac 0) (Aa (Ao Fi (Ao Dg Ad (Ao Yw Ad Ad)) Ad) Ab))) (Ao Yw Ad Ad)) (Aa (Ao Fi Ad (Ai d y (Aa (Ac 0) (Aa (Ao Yw Ad Ad) Ab)))) Ab))))) Av)
  (Ae (Ay (Aq Gf (Ac 1) Ad (Bl _)) (Af (Aj (Ai q y (Aa (Ao M4 (Ai d y (Aa (Ac 0) (Aa Ad Ab))) Ad) (Aa (Ao Fi Ad (Ai d y (Aa (Ac 0) (Aa Ad Ab)))) Ab))))) Av)
  (Ae (Ay (Aq Gf (Ac 1) Ad (Bl _)) (Af (Aj (Bq (Aa Ad (Aa Ad Ab))))) Av)
  (Af (Aj (Bq (Aa (Ao M4 (Ai d y (Aa (Ac 0) (Aa Ad Ab))) Ad) (Aa Ad Ab))))))))),?_⟩
 done
 refine Ik hs (by omega) (by decide) (by decide) fun w H1 w0 w5 x1 M=> ?_
 try done
 have O:Ain 10 12:=⟨by decide,by decide,by decide⟩
 have ep:(10:Int)^Int.toNat 12=1000000000000:=by decide
 rw [ep]
 split
 . refine⟨O,.of_left (V7 (by decide)),Ik M (by omega) (by decide) (by decide) fun r H2 r0 r1 G I=> ?_⟩
   try done
   refine⟨O,O,Ik I (by omega) (by decide) (by decide) fun r' H3 U W Y Z=> ?_⟩
   try done
   refine⟨_,_,rfl,by omega,fun z H4 J h4=>k z _ H4 ((x1.trans (G.trans Y)).same J) (Z.same J) h4 (Ab9 (by omega) (by omega) (by omega))⟩
 split
 . refine Ik M (by omega) (by decide) (by decide) fun r H2 r0 r1 G I=> ?_
   try done
   refine Ik I (by omega) (by decide) (by decide) fun r' H3 U W Y Z=> ?_
   try done
   refine⟨_,_,rfl,by omega,fun z H4 J h4=>k z _ H4 ((x1.trans (G.trans Y)).same J) (Z.same J) h4 (Ab9 (by omega) (by omega) (by omega))⟩
 split
 . intro p L
   exact k _ _ _ (x1.same (Same.upd L _)) ((M.same (Same.upd L _)).up (by omega)) (Gh Ag) (Abb (by decide))
 . refine Ik M (by omega) (by decide) (by decide) fun r H2 r0 r1 G I=> ?_
   try done
   intro p L
   exact k _ _ _ ((x1.trans G).same (Same.upd L _)) ((I.same (Same.upd L _)).up (by omega)) (Acv Ag) ⟨show Sz 42 (r-3)by unfold Sz;omega,show Sz 42 (1:Int)by unfold Sz;decide⟩
def Ho (K:Frag):Sp:=fun vs H Q _=>∃(a b:Addr) (es fs:List (V × Rat)) (n m u:Nat),vs=[.ref a,.ref b]/\Ql K H a es/\Ql K H b fs/\es.length=u/\fs.length=u/\u<=6/\(∀e∈es,Szq n e.2)/\(∀e∈fs,Szq m e.2)/\(n+m+1)*u+1<=134217728/\∀z H',Same H H'->IsQ K H' z (dq (qv es) (qv fs))->Szq ((n+m+1)*u+1) (dq (qv es) (qv fs))->Q z H'
structure Dti (K:Frag) (H H':Hp) (v:V) (ps qs:List Rat) (N i:Nat):Prop where
 sm:Same H H'
 iq:IsQ K H' v (dq (ps.take i) (qs.take i))
 sz:Szq (N*i+1) (dq (ps.take i) (qs.take i))
theorem Acb {es:List (V × Rat)}{i:Nat}{e:V × Rat} (h:es[i]? =some e):(qv es).take (i+1)=(qv es).take i++ [e.2]:=by
 rw [take_succ,getElem?_map,h]
 rfl
theorem Aes {es:List (V × Rat)}{i:Nat}{e:V × Rat} (h:es[i]? =some e):(es.map (·.1)).getD i .non=e.1:=by
 rw [getD_eq_getElem?_getD,getElem?_map,h]
 rfl
theorem Aap {f:Addr}{fd:FuncData} (F:Df K mg "_law_dot" Ui ["_law_some","_law_others"] f fd) (J:mg "zip"=none)  (q:Cal P w K mg base 35 "_law_sum" ["_law_one","_law_other"] (J4 K)) (d:Cal P w K mg base 35 "_law_product" ["_law_one","_law_other"] (Gp K)):Cal P w K mg base 36 "_law_dot" ["_law_some","_law_others"] (Ho K):=by
 refine F.cal (F.fn.ok J0 (fun vs H Q E h=> ?_) (fun a0 A outer s H vs Q E hr h=> ?_))
 . obtain⟨a,b,es,fs,n,m,u,rfl,_⟩:=h
   rfl
 obtain⟨a,b,es,fs,n,m,u,rfl,Z,hb,el,fl,u6,zn,zm,hl,k⟩:=h
 refine Ax ⟨_,(Ae (Bc 2 J0.nd (Bq (Aa Ad (Aa Ad Ab))))
  (Ae (Bu PassesOwn.never rfl (Cr false false rfl J (Aa (Ac 0) (Aa (Ac 1) Ab))) (Ci rfl (Am (Ah 3 J0.nd) (Am (Ah 4 J0.nd) Bm))) (Af (Bc 2 J0.nd (Ai q hr (Aa (Ac 2) (Aa (Ai d hr (Aa (Ac 3) (Aa (Ac 4) Ab))) Ab))))))
  (Af (Aj (Ac 2))))),?_⟩
 done
 intro p hp
 have s1:=Same.upd hp (.tup [.int 0,.int 1])
 refine⟨a,b,rfl,⟨_,show SqL K _ a _ from .of (s1 _ _ Z.it)⟩,⟨_,show SqL K _ b _ from .of (s1 _ _ hb.it)⟩,Jh (xs:=es.map (·.1)) (ys:=fs.map (·.1)) u (by rw [length_map,length_map];omega) (fun i I H'=>∃(v:V) (O U:Option V),I=[some (.ref a),some (.ref b),some v,O,U]/\Dti K H H' v (qv es) (qv fs) (n+m+1) i) ⟨_,_,_,rfl,s1,Gh Ag,Abb (Nat.succ_pos _)⟩ ?_ ?_ ?_⟩
 . rintro i I H' ⟨v,O,U,rfl,G⟩
   exact⟨show SqL K H' a _ from .of (G.sm _ _ Z.it),show SqL K H' b _ from .of (G.sm _ _ hb.it)⟩
 . rintro i I H1 c hi ⟨v,O,U,rfl,G⟩ hc
   obtain⟨e,ee⟩:∃e,es[i]? =some e:=⟨_,getElem?_eq_getElem (by omega)⟩
   obtain⟨g,eg⟩:∃g,fs[i]? =some g:=⟨_,getElem?_eq_getElem (by omega)⟩
   rw [Aes ee,Aes eg]
   have sb:=Same.upd hc (.tup [e.1,g.1])
   refine Eb (.of Ag) ?_
   generalize upd H1 c (.tup [e.1,g.1])=H2 at sb
   have W:=List.mem_of_getElem? ee
   have Y:=List.mem_of_getElem? eg
   have L:=G.sm.trans sb
   have mu:(n+m+1)*(i+1)<=(n+m+1)*u:=mul_le_mul_left _ hi
   have ms:(n+m+1)*(i+1)=(n+m+1)*i+(n+m+1):=mul_succ _ _
   have m0:(n+m+1)*i>=0:=zero_le _
   done
   refine⟨_,_,e.2,g.2,n,m,rfl,(Z.al e W).mono L,(hb.al g Y).mono L,zn e W,zm g Y,by omega,fun x H3 s3 h3=> ?_⟩
   refine⟨_,_,_,_,_,_,rfl,(G.iq.mono sb).mono s3,h3,G.sz,(zn e W).mul (zm g Y),by omega,fun y H4 s4 h4=> ?_⟩
   have M:dq ((qv es).take (i+1)) ((qv fs).take (i+1))=dq ((qv es).take i) ((qv fs).take i)+e.2*g.2:=by
    rw [Acb ee,Acb eg,Tv]
    rw [length_take,length_take,length_map,length_map]
    omega
   refine⟨_,_,_,rfl,L.trans (s3.trans s4),?_,?_⟩
   . rw [M]
     exact h4
   . rw [M]
     exact(G.sz.add ((zn e W).mul (zm g Y))).mono (by omega)
 . rintro I H' ⟨v,O,U,rfl,G⟩
   done
   have t1:(qv es).take u=qv es:=take_of_length_le (by rw [length_map];omega)
   have t2:(qv fs).take u=qv fs:=take_of_length_le (by rw [length_map];omega)
   have iq:=G.iq
   have sz:=G.sz
   rw [t1,t2]at iq sz
   exact k v H' G.sm iq sz
theorem Ks {l z:Addr}{H H1:Hp}{c:Nat} (s:Sx l H H1) (d:Src H1 l c) (n:H1 z=none):H z=none:=by
 cases e:H z with
 | none=>rfl
 | some o=>
   by_cases h:z=l
   . subst h
     obtain⟨q,d⟩:=d.lst
     rw [n]at d
     cases d
   . have:=s z o h e
     rw [n]at this
     cases this
def bz (i:Nat):Nat:=90*2^i-44
def gz (i:Nat):Nat:=90*(2^i-1)+1
theorem Aco (i:Nat):gz i+(42+bz i)+1<=gz (i+1):=by
 unfold gz bz
 rw [pow_succ]
 have:=two_pow_pos i
 omega
theorem Aet (i:Nat):gz i<=bz i:=by
 unfold gz bz
 have:=two_pow_pos i
 omega
theorem Aef {i:Nat} (h:i<=4):bz i<=1396:=by
 unfold bz
 have:2^i<=2^4:=pow_le_pow_right (by decide) h
 omega
theorem Agx (i:Nat):42<=bz i:=by
 unfold bz
 have:=two_pow_pos i
 omega
def Rz (rs:List Qr) (u:Nat):Prop:=∀(i:Nat) r,rs[i]? =some r->r.2.length=u/\∀e∈r.2,Szq (bz i) e.2
structure Mri (K:Frag) (H H':Hp) (l f:Addr) (es:List (V × Rat)) (c i u:Nat):Prop where
 sx:Sx l H H'
 sr:Src H' l (c+3*i)
 ql:Ql K H' f es
 nf:H f=none
 ln:es.length=u
 sz:∀e∈es,Szq (gz i) e.2
theorem Aad {H1:Hp}{p I J:Addr}{Q:VK}{es rs:List (V × Rat)}{d:V}{s:Rat}{n m k u:Nat} (L:H1 p=none) (he:Ql K H1 I es) (hr:Ql K H1 J rs) (hb:IsQ K H1 d s) (el:es.length=u) (rl:rs.length=u) (u6:u<=6) (ze:∀e∈es,Szq n e.2) (zs:Szq k s) (M:∀e∈rs,Szq m e.2) (hl:n+(k+m)<=134217728)
 (done:∀O H',Same H1 H'->Ql K H' p O->qv O=zipWith (fun a b=>a+s*b) (qv es) (qv rs)->(∀e∈O,Szq (n+(k+m)+1) e.2)->Q (.ref p) H'):
 cIn (Acf false false K I J) [none,none,some d] (Abs K 2 (Ke (Ga 0) (Ke (Ga 1) Ad2))) Gy (Lf (J4 K) [] E0 (Lg (W5 0) (Lg (Lf (Gp K) [] E0 (Lg (W5 2) (Lg (W5 1) Aca))) Aca))) Q H1 p:=by
 refine Aae (xs:=es.map (·.1)) (ys:=rs.map (·.1)) u (by rw [length_map,length_map];omega) (fun i v H=>IsQ K H v (qf (qv es) i+s*qf (qv rs) i)/\Szq (n+(k+m)+1) (qf (qv es) i+s*qf (qv rs) i)) (le_trans u6 (by decide)) L (fun H' s'=>show SqL K H' I _ from .of (s' _ _ he.it)) (fun H' s'=>show SqL K H' J _ from .of (s' _ _ hr.it)) (fun i v H H' h s=>⟨h.1.mono s,h.2⟩) (fun i v H a1 o h L=>⟨h.1.put L,h.2⟩) ?_ ?_
 . intro i H2 q R hi F h2 hR
   obtain⟨e,U⟩:∃e,es[i]? =some e:=⟨_,getElem?_eq_getElem (by omega)⟩
   obtain⟨r,W⟩:∃r,rs[i]? =some r:=⟨_,getElem?_eq_getElem (by omega)⟩
   have Y:=List.mem_of_getElem? U
   have G:=List.mem_of_getElem? W
   have Z:qf (qv es) i=e.2:=by
    unfold qf
    rw [getD_eq_getElem?_getD,getElem?_map,U]
    rfl
   have q2:qf (qv rs) i=r.2:=by
    unfold qf
    rw [getD_eq_getElem?_getD,getElem?_map,W]
    rfl
   rw [Z,q2]at hR
   rw [Aes U,Aes W]at h2
   refine Eb (.of h2) ?_
   done
   refine⟨_,_,s,r.2,k,m,rfl,hb.mono F,(hr.al r G).mono F,zs,M r G,by omega,fun x H3 s3 h3=> ?_⟩
   refine⟨_,_,e.2,s*r.2,n,k+m,rfl,((he.al e Y).mono F).mono s3,h3,ze e Y,zs.mul (M r G),hl,fun y H4 s4 h4=> ?_⟩
   exact hR y H4 (s3.trans s4) ⟨h4,(ze e Y).add (zs.mul (M r G))⟩
 intro ns H2 nl hq F h2
 obtain⟨Z,q2⟩:=Rv (K:=K) (xs:=List.range u) (f:=fun i=>qf (qv es) i+s*qf (qv rs) i) h2 (by rw [nl,length_range]) (fun i x v hx hv=>by
  obtain⟨h,e⟩:=List.getElem?_eq_some_iff.mp hx
  rw [getElem_range]at e
  rw [<-e]
  exact(hq i v hv).1)
 refine done _ H2 F Z ?_ fun e a0=> ?_
 . rw [q2]
   have lz:(zipWith (fun a b=>a+s*b) (qv es) (qv rs)).length=u:=by
    rw [length_zipWith,length_map,length_map]
    omega
   rw [Gj lz]
   refine map_congr_left fun i _=> ?_
   rw [Ab5 (u:=u) (by rw [length_map];exact el) (by rw [length_map];exact rl)]
 . obtain⟨i,hi⟩:=getElem?_of_mem a0
   obtain⟨e1,e2⟩:=List.getElem?_zip_eq_some.mp hi
   have il:=(List.getElem?_eq_some_iff.mp e1).1
   rw [getElem?_map,getElem?_range (by omega)]at e2
   have e3:qf (qv es) i+s*qf (qv rs) i=e.2:=by simpa using e2
   rw [<-e3]
   exact(hq i e.1 e1).2
def Jc (K:Frag):Sp:=fun vs H Q _=>∃(l a:Addr) (rs:List Qr) (u c:Nat),vs=[.ref l,.ref a,.int (u:Nat)]/\Src H l c/\c<40000/\Qm K H a rs/\Off l a rs/\rs.length<=4/\u<=6/\Rz rs u/\∀z es H',Sx l H H'->Src H' l (c+3*rs.length)->H z=none->Ql K H' z es->es.length=u->(∀e∈es,Szq (bz rs.length) e.2)->Q (.ref z) H'
theorem Oa {f:Addr}{fd:FuncData} (F:Df K mg "_law_mixed_row" Eo ["_law_source_here","_law_rows_here","_law_many"] f fd) (J:mg "range"=none) (U:mg "zip"=none)  (G:Cal P w K mg base 35 "_law_drawn" ["_law_source_here"] (Fx K)) (L:Cal P w K mg base 35 "_law_sum" ["_law_one","_law_other"] (J4 K)) (d:Cal P w K mg base 35 "_law_product" ["_law_one","_law_other"] (Gp K)):Cal P w K mg base 36 "_law_mixed_row" ["_law_source_here","_law_rows_here","_law_many"] (Jc K):=by
 refine F.cal (F.fn.ok Ef (fun vs H Q E h=> ?_) (fun a3 A outer s H vs Q E hr h=> ?_))
 . obtain⟨l,a,rs,u,c,rfl,_⟩:=h
   rfl
 obtain⟨l,a,rs,u,c,rfl,hs,hc,hm,of,rl,u6,rz,k⟩:=h
 refine Ax ⟨_,(Ae (Dk (ts:=["_law_k"]) (fs:=[]) rfl (Bb.of (sc:=Ak Eo) (N:=["_law_source_here","_law_rows_here","_law_many","_law_found","_law_row","_law_by"]) rfl rfl (by decide+kernel)) (Cj rfl J (Aa (Ac 2) Ab)) (fun _ _ _=>(Ah 0 (show Nodup (["_law_k"]:List Str)by decide+kernel))) (fun _ _ _=>Az) (fun _ _ _=>(Bq (Aa Ad (Aa Ad Ab)))) (Ah 3 Ef.nd))
  (Ae (Bu PassesOwn.never rfl (Bj (Ac 1)) (Ah 4 Ef.nd) (Ae (Bc 5 Ef.nd (Ai G hr (Aa (Ac 0) Ab)))
  (Af (Dk (ts:=["_law_one","_law_other"]) (fs:=[(5,"_law_by")]) rfl (Bb.of (sc:=Ak Eo) (N:=["_law_source_here","_law_rows_here","_law_many","_law_found","_law_row","_law_by"]) rfl rfl (by decide+kernel)) (Cr false false rfl U (Aa (Ac 3) (Aa (Ac 4) Ab))) (fun _ _ _=>(Es K 2 rfl rfl (Am (Ah 0 (show Nodup (["_law_one","_law_other","_law_by"]:List Str)by decide+kernel)) (Am (Ah 1 (show Nodup (["_law_one","_law_other","_law_by"]:List Str)by decide+kernel)) Bm)))) (fun _ _ _=>Az) (fun _ _ _=>(Ai L hr (Aa (Ac 0) (Aa (Ai d hr (Aa (Ac 2) (Aa (Ac 1) Ab))) Ab)))) (Ah 3 Ef.nd)))))
  (Af (Aj (Ac 3))))),?_⟩
 done
 refine⟨by omega,by omega,fun p hp=> ?_⟩
 rw [toNat_natCast]
 have uz:u<=sizeLine:=le_trans u6 (by decide)
 refine Jf (es:=List.range u) (inj:=fun i=> .int (0+(i:Nat))) (fun _ v H=>IsQ K H v 0) (by rw [length_range];exact uz) hp Ft (fun e v H H' h s=>h.mono s) (fun e v H a1 o h hp=>h.put hp) ?_ ?_
 . intro j H2 R hj s2 hR
   done
   exact fun b hb=>hR _ _ (Same.upd hb _) (Gh Ag)
 intro ns H1 nl hq s1 h1
 obtain⟨q1,q2⟩:=Rv (f:=fun _=>(0:Rat)) h1 nl hq
 generalize ns.zip ((List.range u).map fun _=>(0:Rat))=M at q1 q2
 try done
 have l0:M.length=u:=by
  have:=congrArg List.length q2
  rw [length_map,length_map,length_range]at this
  exact this
 have z0:∀e∈M,Szq (gz 0) e.2:=fun e he=>by
  have h:e.2∈qv M:=mem_map.mpr ⟨e,he,rfl⟩
  rw [q2]at h
  obtain⟨_,_,h⟩:=mem_map.mp h
  rw [<-h]
  exact Abb (by decide)
 refine⟨⟨_,.of (s1 _ _ hm.it)⟩,Ra (es:=rs) (inj:=fun r=>V.ref r.1) (fun I O H'=>∃(f:Addr) (es:List (V × Rat)) (o4 o5:Option V),O=[some (.ref l),some (.ref a),some (.int (u:Nat)),some (.ref f),o4,o5]/\Mri K H H' l f es c I.length u) ⟨p,M,_,_,rfl,.of s1,hs.same s1,q1,hp,l0,z0⟩ ?_ ?_ ?_⟩
 . rintro I O H' ⟨f,es,o4,o5,rfl,y⟩
   exact Dv (.of (y.sx _ _ of.a hm.it))
 . rintro I e a2 O H2 hE ⟨f,es,o4,o5,rfl,y⟩
   have ei:rs[I.length]? =some e:=by rw [hE,getElem?_append_right (le_refl _),sub_self];rfl
   have pl:=(List.getElem?_eq_some_iff.mp ei).1
   have em:=List.mem_of_getElem? ei
   obtain⟨eu,ez⟩:=rz _ _ ei
   have fl:f≠l:=by
    rintro rfl
    obtain⟨a1,hl⟩:=hs.lst
    rw [y.nf]at hl
    cases hl
   done
   refine⟨l,_,rfl,y.sr,by omega,fun v q H3 x3 s3 iq zq=> ?_⟩
   have Y:=y.ql.sx fl x3 y.sr
   have W:=y.sx.trans x3
   have Z:=(hm.al e em).sx (of.r e em) W hs
   try done
   refine⟨f,e.1,rfl,⟨_,show SqL K _ f _ from .of Y.it⟩,⟨_,show SqL K _ e.1 _ from .of Z.it⟩,fun p2 a0=> ?_⟩
   have b4:=Aef (show I.length<=4 by omega)
   have g4:=Aet I.length
   refine Aad a0 Y Z iq y.ln eu u6 y.sz zq ez (by omega) fun gs H4 s4 q4 e4 z4=> ?_
   refine⟨p2,gs,_,_,rfl,W.same s4,?_,q4,Ks W s3 a0,?_,fun x hx=> ?_⟩
   . rw [length_append,length_singleton]
     exact(s3.same s4).up (by omega)
   . have:=congrArg List.length e4
     rw [length_map,length_zipWith,length_map,length_map,y.ln,eu]at this
     omega
   . rw [length_append,length_singleton]
     exact(z4 x hx).mono (Aco _)
 . rintro O H' ⟨f,es,o4,o5,rfl,y⟩
   done
   exact k f es H' y.sx y.sr y.nf y.ql y.ln fun e he=>(y.sz e he).mono (Aet _)
theorem Ln:∀d:List (Int × Int),PyData.canLayAll0 (d.map fun c=>PyData.tuple [.int c.1,.int c.2])=true
 | []=>rfl
 | c::d=>by simp [PyData.canLayAll0,PyData.canLay0,Ln d]
theorem Lj:∀d:List (Int × Int),PyData.depthAll (d.map fun c=>PyData.tuple [.int c.1,.int c.2])<=8
 | []=>by simp [PyData.depthAll]
 | c::d=>by
   have:=Lj d
   simp only [map_cons,PyData.depthAll,PyData.depth]
   exact max_le.mpr ⟨by simp,this⟩
theorem Nk (cs:List (Int × Int)):SeqAt.shaped (.list (cs.map fun c=>PyData.tuple [.int c.1,.int c.2]))=true:=by
 have h1:=Ln cs
 have h2:=Lj cs
 simp [SeqAt.shaped,PyData.canLay0,PyData.depth,h1]
 omega
theorem Jq:∀d ds:List (Int × Int),PyData.eqvAll (d.map fun c=>PyData.tuple [.int c.1,.int c.2]) (ds.map fun c=>PyData.tuple [.int c.1,.int c.2])=decide (d=ds)
 | [],[]=>by simp [PyData.eqvAll]
 | [],_::_=>by simp [PyData.eqvAll]
 | _::_,[]=>by simp [PyData.eqvAll]
 | a::r,b::t=>by
   simp only [map_cons,PyData.eqvAll,PyData.eqv,Jq r t,Bool.and_true]
   by_cases h':r=t
   . by_cases h1:a.1=b.1<;>by_cases h2:a.2=b.2<;>simp [h1,h2,h',Prod.ext_iff]
   . simp [h']
def pq (q:Rat):Int × Int:=(q.num,(q.den:Int))
theorem Y6:∀ {qs rs:List Rat},qs.map pq=rs.map pq->qs=rs
 | [],[],_=>rfl
 | a::r,b::t,h=>by
   rw [map_cons,map_cons,List.cons.injEq]at h
   have h1:a.num=b.num/\(a.den:Int)=(b.den:Int):=by
    have:=h.1
    unfold pq at this
    exact Prod.mk.injEq .. ▸this
   rw [Y6 h.2,Rat.ext h1.1 (by omega)]
theorem Za {H:Hp}:∀ {es:List (V × Rat)},(∀e∈es,IsQ K H e.1 e.2)->S7 K H (es.map (·.1)) (((qv es).map pq).map fun c=>PyData.tuple [.int c.1,.int c.2])
 | [],_=> .nil
 | e::es,h=>by
   obtain⟨a,d,q⟩:=h e (.head _)
   have t:=Za (es:=es) fun x y=>h x (.tail _ y)
   refine .cons ?_ t
   show RdD K H e.1 _
   rw [d]
   exact RdD.ints (ns:=[e.2.num,(e.2.den:Int)]) q
theorem Wh {H:Hp}{g:Bool->Bool}{Q:VK}{a b:Addr}{es fs:List (V × Rat)} (d:Ql K H a es) (q:Ql K H b fs) (h:Q (.bl (g (decide (qv es=qv fs)))) H):Ab6 K g (.ref a) (.ref b) H Q:=by
 refine⟨_,_,.lst (.of d.it) (Za d.al),.lst (.of q.it) (Za q.al),Nk _,Nk _,?_⟩
 rw [PyData.eqv,Jq]
 have e:decide ((qv es).map pq=(qv fs).map pq)=decide (qv es=qv fs):=by
  by_cases h:qv es=qv fs
  . rw [h,decide_eq_true rfl,decide_eq_true rfl]
  . rw [decide_eq_false h,decide_eq_false fun z=>h (Y6 z)]
 rw [e]
 exact h
abbrev Sy (r:Qr):PyData:= .list (((qv r.2).map pq).map fun c=>PyData.tuple [.int c.1,.int c.2])
theorem Adj {H:Hp}:∀ {rs:List Qr},(∀r∈rs,Ql K H r.1 r.2)->S7 K H (rs.map fun r=>V.ref r.1) (rs.map Sy)
 | [],_=> .nil
 | r::rs,h=> .cons (.lst (.of (h r (.head _)).it) (Za (h r (.head _)).al)) (Adj fun x d=>h x (.tail _ d))
theorem Pn:∀d:List Qr,PyData.canLayAll0 (d.map Sy)=true
 | []=>rfl
 | c::cs=>by
   have h:=Ln ((qv c.2).map pq)
   have h2:=Pn cs
   simp only [map_cons,PyData.canLayAll0,PyData.canLay0,h,h2,Bool.and_self]
theorem Ph:∀d:List Qr,PyData.depthAll (d.map Sy)<=12
 | []=>by simp [PyData.depthAll]
 | c::cs=>by
   have:=Ph cs
   have h:=Lj ((qv c.2).map pq)
   simp only [map_cons,PyData.depthAll,Sy,PyData.depth]
   exact max_le.mpr ⟨by omega,this⟩
theorem Uq (rs:List Qr):SeqAt.shaped (.list (rs.map Sy))=true:=by
 have h1:=Pn rs
 have h2:=Ph rs
 simp [SeqAt.shaped,PyData.canLay0,PyData.depth,h1]
 omega
theorem eq_nil {H:Hp}{g:Bool->Bool}{Q:VK}{a b:Addr}{rs:List Qr} (d:Qm K H a rs) (q:H b=some (.lst [])) (h:Q (.bl (g (decide (rs=[])))) H):Ab6 K g (.ref a) (.ref b) H Q:=by
 refine⟨_,.list [],.lst (.of d.it) (Adj d.al),.lst (.of q) .nil,Uq rs,by decide,?_⟩
 have e:PyData.eqv (.list (rs.map Sy)) (.list [])=decide (rs=[]):=by
  cases rs with
  | nil=>simp [PyData.eqv,PyData.eqvAll]
  | cons r rs=>simp [PyData.eqv,PyData.eqvAll]
 rw [e]
 exact h
structure Dci (K:Frag) (H1 H':Hp) (l p:Addr) (gs:List (V × Rat)) (c i:Nat):Prop where
 sx:Sx l H1 H'
 sr:Src H' l (c+3*i)
 ql:Ql K H' p gs
 ln:gs.length=i
 sz:∀e∈gs,Szq 42 e.2
theorem Sx.put {l p:Addr}{H H':Hp}{o:HO} (s:Sx l H H') (n:H p=none):Sx l H (upd H' p o):=fun b u d e=>by
 rw [Bs (Bo e n)]
 exact s b u d e
theorem Src.put {l p:Addr}{H:Hp}{o:HO}{c:Nat} (h:Src H l c) (n:l≠p):Src (upd H p o) l c:=by
 obtain⟨x,y,z,k,e,m⟩:=h
 exact⟨x,y,z,k,by rw [Bs n];exact e,m⟩
theorem Src.ne {l p:Addr}{H:Hp}{c:Nat} (h:Src H l c) (n:H p=none):l≠p:=by
 obtain⟨d,e⟩:=h.lst
 exact Bo e n
theorem Ql.snoc {H:Hp}{p:Addr}{es:List (V × Rat)}{v:V}{q:Rat} (h:Ql K H p es) (y:IsQ K H v q):Ql K (upd H p (.lst (es.map (·.1)++ [v]))) p (es++ [(v,q)]):=by
 refine⟨by rw [Ag,map_append];rfl,fun e d=> ?_⟩
 rcases mem_append.mp d with d | d
 . exact(h.al e d).put h.it
 . have F:e=(v,q):=by simpa using d
   rw [F]
   exact y.put h.it
theorem Mh {α:Type}{es:List α}{inj:α->V}{J:It}{H1:Hp}{p l:Addr}{c:Nat}{Q:VK} (I:H1 p=none) (M:Src H1 l c) (W:es.length<=10) (hc:c<40000) (Y:∀H',Sx l H1 H'->Ach J H' es inj)
 (done:∀y H',Sx l H1 H'->Src H' l (c+3*es.length)->Ql K H' p y->y.length=es.length->(∀e∈y,Szq 42 e.2)->Q (.ref p) H'):cIn J [none,some (.ref l)] (Ga 0) Gy (Lf (Fx K) [] E0 (Lg (W5 1) Aca)) Q H1 p:=by
 have L:=M.ne I
 refine Mi (inj:=inj) (fun i F H'=>∃y:List (V × Rat),F=y.map (·.1)/\Dci K H1 H' l p y c i) (le_trans W (by decide)) ⟨[],rfl,Sx.put (Sx.refl _ _) I,(M.put L).up (by omega),⟨Ag,by simp⟩,rfl,by simp⟩ ?_ ?_ ?_ ?_
 . rintro i F H' ⟨y,rfl,d⟩
   exact⟨by rw [length_map];exact d.ln,d.ql.it⟩
 . rintro i F H' ⟨y,rfl,d⟩
   exact Y H' d.sx
 . rintro i e F H2 R Z ⟨y,rfl,d⟩ hR
   have il:=(List.getElem?_eq_some_iff.mp Z).1
   done
   refine⟨l,_,rfl,d.sr,by omega,fun v q H3 O s3 iq zq=> ?_⟩
   have U:=d.ql.sx (Ne.symm L) O d.sr
   refine hR v H3 U.it ⟨y++ [(v,q)],by rw [map_append];rfl,(d.sx.trans O).put I,(s3.put L).up (by omega),U.snoc iq,by rw [length_append,d.ln];rfl,fun x G=> ?_⟩
   rcases mem_append.mp G with G | G
   . exact d.sz x G
   . have e1:x=(v,q):=by simpa using G
     rw [e1]
     exact zq
 . rintro F H' ⟨y,rfl,d⟩
   exact done y H' d.sx d.sr d.ql d.ln d.sz
structure Rwi (K:Frag) (H H':Hp) (l p:Addr) (rs:List Qr) (c i u:Nat):Prop where
 sx:Sx l H H'
 sr:Src H' l (c+20*i)
 qm:Qm K H' p rs
 of:Off l p rs
 np:∀r∈rs,r.1≠p
 ln:rs.length=i
 rz:Rz rs u
theorem Rwi.snoc {H H1 H2:Hp}{l p:Addr}{rs:List Qr}{c i u:Nat}{x:Qr} (h:Rwi K H H1 l p rs c i u) (J:H p=none) (s:Sx l H1 H2) (L:Src H2 l (c+20*(i+1))) (nx:H1 x.1=none) (M:Ql K H2 x.1 x.2) (O:x.2.length=u) (U:∀e∈x.2,Szq (bz i) e.2):Rwi K H (upd H2 p (.lst ((rs.map fun r=>V.ref r.1)++ [.ref x.1]))) l p (rs++ [x]) c (i+1) u:=by
 have y:=h.qm.sx h.of s h.sr
 have I:x.1≠p:=Ne.symm (Bo h.qm.it nx)
 have F:x.1≠l:=Ne.symm (h.sr.ne nx)
 refine⟨(h.sx.trans s).put J,L.put (Ne.symm h.of.a),⟨by rw [Ag,map_append];rfl,fun r d=> ?_⟩,⟨h.of.a,fun r d=> ?_⟩,fun r d=> ?_,by rw [length_append,h.ln];rfl,fun j r d=> ?_⟩
 . rcases mem_append.mp d with d | d
   . exact(y.al r d).keep y.it (h.np r d)
   . have q:r=x:=by simpa using d
     rw [q]
     exact M.keep y.it I
 . rcases mem_append.mp d with d | d
   . exact h.of.r r d
   . have q:r=x:=by simpa using d
     rw [q]
     exact F
 . rcases mem_append.mp d with d | d
   . exact h.np r d
   . have q:r=x:=by simpa using d
     rw [q]
     exact I
 . by_cases W:j<rs.length
   . rw [getElem?_append_left W]at d
     exact h.rz j r d
   . rw [getElem?_append_right (by omega)]at d
     have G:=(List.getElem?_eq_some_iff.mp d).1
     rw [length_singleton]at G
     have Y:j-rs.length=0:=by omega
     rw [Y]at d
     have q:x=r:=by simpa using d
     have Z:j=i:=by have:=h.ln;omega
     rw [<-q,Z]
     exact⟨O,U⟩
def Sh (K:Frag):Sp:=fun vs H Q _=>∃(l:Addr) (c:Nat),vs=[.ref l]/\Src H l c/\c<10000/\∀z rs u H',Sx l H H'->Src H' l (c+110)->H z=none->Qm K H' z rs->Off l z rs->1<=rs.length->rs.length<=5->1<=u->u<=5->Rz rs u->Q (.ref z) H'
theorem Ys {f:Addr}{fd:FuncData} (F:Df K mg "_law_rows" Lq ["_law_source_here"] f fd) (I:mg "range"=none)  (d:Cal P w K mg base 34 "_law_next" ["_law_source_here","_law_many"] (Ie K)) (y:Cal P w K mg base 36 "_law_mixed_row" ["_law_source_here","_law_rows_here","_law_many"] (Jc K)) (J:Cal P w K mg base 35 "_law_drawn" ["_law_source_here"] (Fx K)):Cal P w K mg base 37 "_law_rows" ["_law_source_here"] (Sh K):=by
 refine F.cal (F.fn.ok J1 (fun vs H Q E h=> ?_) (fun a2 A outer s H vs Q E W h=> ?_))
 . obtain⟨l,c,rfl,_⟩:=h
   rfl
 obtain⟨l,c,rfl,hs,hc,k⟩:=h
 refine Ax ⟨_,(Ae (Bc 1 J1.nd (Ao Fi Ad (Ai d W (Aa (Ac 0) (Aa Ad Ab)))))
  (Ae (Bc 2 J1.nd (Bt Ab))
  (Ae (Bu PassesOwn.never rfl (Cj rfl I (Aa (Ao Fi Ad (Ai d W (Aa (Ac 0) (Aa Ad Ab)))) Ab)) (Ah 3 J1.nd) (Af (Ay (Ce (Mf (Aq (Gi W.units) (Ac 2) (Bt Ab) (Bl _)) (Ka (Aq Gf (Ai d W (Aa (Ac 0) (Aa Ad Ab))) Ad (Bl _))))) (Af (Dd (Fj plainAttrs_list PySem.F.slot_list_append PySem.F.type_list_append Dq (Ac 2) (Aa (Ai y W (Aa (Ac 0) (Aa (Ac 2) (Aa (Ac 1) Ab)))) Ab)))) (Af (Dd (Fj plainAttrs_list PySem.F.slot_list_append PySem.F.type_list_append Dq (Ac 2) (Aa (Bf (ts:=["_law_j"]) (fs:=[(0,"_law_source_here")]) rfl (Bb.of (sc:=Ak Lq) (N:=["_law_source_here","_law_many","_law_rows_here","_law_k"]) rfl rfl (by decide+kernel)) (Cj rfl I (Aa (Ac 1) Ab)) (fun _ _ _=>(Ah 0 (show Nodup (["_law_j","_law_source_here"]:List Str)by decide+kernel))) (fun _ _ _=>Az) (fun _ _ _=>(Ai J W (Aa (Ac 1) Ab)))) Ab)))))))
  (Af (Aj (Ac 2)))))),?_⟩
 done
 refine Ik hs (by omega) (by decide) (by decide) fun r1 H1 a3 a4 x1 s1=> ?_
 try done
 refine⟨by decide,fun p hp=> ?_⟩
 have t1:=Same.upd hp (.lst [])
 have np:H p=none:=Ks x1 s1 hp
 have lp:=s1.ne hp
 refine Ik (s1.same t1) (by omega) (by decide) (by decide) fun r2 H2 a5 a6 x2 s2=> ?_
 try done
 have a1:=(x1.same t1).trans x2
 obtain⟨u,hu,u1,u5⟩:∃u:Nat,1+r1=((u:Nat):Int)/\1<=u/\u<=5:=⟨(1+r1).toNat,by omega,by omega,by omega⟩
 rw [hu]
 refine⟨by omega,by omega,?_⟩
 obtain⟨m,hm,m1,m5⟩:∃m:Nat,(1+r2).toNat=m/\1<=m/\m<=5:=⟨_,rfl,by omega,by omega⟩
 rw [hm]
 refine Agz m (fun i=> .int (0+(i:Nat))) (fun i M H'=>∃(L:List Qr) (o3:Option V),M=[some (.ref l),some (.int (u:Nat)),some (.ref p),o3]/\Rwi K H H' l p L (c+2) i u) ⟨[],_,rfl,a1,s2.up (by omega),⟨x2 _ _ (Ne.symm lp) Ag,by simp⟩,⟨Ne.symm lp,by simp⟩,by simp,rfl,fun i r h=>by simp at h⟩ ?_ ?_ ?_
 . rintro i M H' _
   exact G5
 . rintro i M H3 hi ⟨L,o3,rfl,G⟩
   have rl:=G.ln
   have lz:∀ {H:Hp},(L.map fun r=>V.ref r.1).length<sizeLine:=by
    rw [length_map,rl]
    exact lt_of_lt_of_le (show i<6 by omega) (by decide)
   done
   refine⟨by decide,fun q hq=> ?_⟩
   have tq:=Same.upd hq (.lst [])
   refine eq_nil (G.qm.mono tq) Ag ?_
   have dr:∀U,Sx l H3 U->Src U l (c+2+20*i+1)->tyV K "list" (.ref p) U/\ -2^62<=((u:Nat):Int)/\((u:Nat):Int)<2^62/\∀p1,U p1=none->cIn (Itr 0 ((u:Nat):Int).toNat) [none,some (V.ref l)] (Ga 0) Gy (Lf (Fx K) [] E0 (Lg (W5 1) Aca)) (fun x H1=>Y9 (V.ref p) [x] H1 fun x H1=>∃(L:List Qr) (o3:Option V),[some (V.ref l),some (V.int (u:Nat)),some (V.ref p),some (V.int (0+(i:Nat)))]=[some (V.ref l),some (V.int (u:Nat)),some (V.ref p),o3]/\Rwi K H H1 l p L (c+2) (i+1) u) U p1:=fun U x4 Y=>by
    have Z:=G.qm.sx G.of x4 G.sr
    refine⟨.inl ⟨rfl,_,.of Z.it⟩,by omega,by omega,fun p1 a0=> ?_⟩
    rw [toNat_natCast]
    refine Mh (es:=List.range u) a0 Y (by rw [length_range];omega) (by omega) (fun H' _=>G5) fun gs H5 x5 s5 q5 l5 z5=> ?_
    rw [length_range]at s5 l5
    exact⟨p,_,_,rfl,rfl,x5 _ _ G.of.a Z.it,lz (H:=H),L++ [(p1,gs)],_,rfl,G.snoc (x:=(p1,gs)) np (x4.trans x5) (s5.up (by omega)) (Ks x4 Y a0) q5 l5 fun e he=>(z5 e he).mono (Agx i)⟩
   have sq:=G.sr.same tq
   refine⟨_,rfl,?_⟩
   by_cases hn:L=[]
   . rw [decide_eq_true hn,if_neg (by decide)]
     exact dr _ (.of tq) (sq.up (by omega))
   . rw [decide_eq_false hn,if_pos (by decide)]
     refine Ik sq (by omega) (by decide) (by decide) fun r3 U _ _ x4 Y=> ?_
     try done
     have O:=(Sx.of (l:=l) tq).trans x4
     by_cases h3:r3=0
     . rw [if_pos h3]
       have Z:=G.qm.sx G.of O G.sr
       refine⟨.inl ⟨rfl,_,.of Z.it⟩,l,p,L,u,_,rfl,Y,by omega,Z,G.of,by omega,by omega,G.rz,fun z es H5 x5 s5 nz q5 l5 z5=> ?_⟩
       rw [rl]at z5 s5
       exact⟨p,_,_,rfl,rfl,x5 _ _ G.of.a Z.it,lz (H:=H),L++ [(z,es)],_,rfl,G.snoc (x:=(z,es)) np (O.trans x5) (s5.up (by omega)) (Ks O Y nz) q5 l5 z5⟩
     . rw [if_neg h3]
       exact dr _ O Y
 . rintro M H' ⟨L,o3,rfl,G⟩
   done
   have rl:=G.ln
   exact k p L u H' G.sx (G.sr.up (by omega)) np G.qm G.of (by omega) (by omega) u1 u5 G.rz
theorem Rz.all {rs:List Qr}{u:Nat} (h:Rz rs u) (l:rs.length<=5):∀r∈rs,r.2.length=u/\∀e∈r.2,Szq 1396 e.2:=fun r d=>by
 obtain⟨i,hi⟩:=getElem?_of_mem d
 have y:=(List.getElem?_eq_some_iff.mp hi).1
 obtain⟨a,b⟩:=h i r hi
 exact⟨a,fun e q=>(b e q).mono (Aef (by omega))⟩
theorem Lh {H1:Hp}{p a x:Addr}{Q:VK}{rs:List Qr}{xs:List (V × Rat)}{m u:Nat} (F:H1 p=none) (I:Qm K H1 a rs) (L:Ql K H1 x xs) (M:rs.length<=6) (O:xs.length=u) (U:u<=6) (W:∀r∈rs,r.2.length=u/\∀e∈r.2,Szq 1396 e.2) (Y:∀e∈xs,Szq m e.2) (Z:(1396+m+1)*u+1<=134217728)
 (done:∀G H',Same H1 H'->Ql K H' p G->qv G=rs.map (fun r=>dq (qv r.2) (qv xs))->(∀e∈G,Szq ((1396+m+1)*u+1) e.2)->Q (.ref p) H'):
 cIn (Itl K a) [none,some (.ref x)] (Ga 0) Gy (Lf (Ho K) [] E0 (Lg (W5 0) (Lg (W5 1) Aca))) Q H1 p:=by
 refine Jf (es:=rs) (inj:=fun r=>V.ref r.1) (fun r v H=>IsQ K H v (dq (qv r.2) (qv xs))/\Szq ((1396+m+1)*u+1) (dq (qv r.2) (qv xs))) (le_trans M (by decide)) F (Ec (.of I.it)) (fun e v H H' h s=>⟨h.1.mono s,h.2⟩) (fun e v H a0 o h F=>⟨h.1.put F,h.2⟩) ?_ ?_
 . intro r H2 R q y hR
   obtain⟨ru,rz⟩:=W r q
   done
   exact⟨r.1,x,r.2,xs,1396,m,u,rfl,(I.al r q).mono y,L.mono y,ru,O,U,rz,Y,Z,fun z H3 s3 h3 z3=>hR z H3 s3 ⟨h3,z3⟩⟩
 intro ns H2 nl J y h2
 obtain⟨q1,q2⟩:=Rv (K:=K) (f:=fun r:Qr=>dq (qv r.2) (qv xs)) h2 nl fun i r v q hv=>(J i r v q hv).1
 refine done _ H2 y q1 q2 fun e he=> ?_
 obtain⟨i,hi⟩:=getElem?_of_mem he
 obtain⟨e1,d⟩:=List.getElem?_zip_eq_some.mp hi
 rw [getElem?_map]at d
 cases er:rs[i]? with
 | none=>rw [er]at d;cases d
 | some r=>
   rw [er]at d
   have e3:dq (qv r.2) (qv xs)=e.2:=by simpa using d
   rw [<-e3]
   exact(J i r e.1 er e1).2
def J3 (K:Frag):Sp:=fun vs H Q _=>∃(l a:Addr) (rs:List Qr) (u c:Nat),vs=[.ref l,.ref a]/\Src H l c/\c<10000/\Qm K H a rs/\Off l a rs/\1<=rs.length/\rs.length<=5/\1<=u/\u<=5/\Rz rs u/\
 ∀z b x es xs H',Sx l H H'->Src H' l (c+60)->H' z=some (.tup [.ref b,.ref x])->H b=none->H x=none->Ql K H' b es->es.length=rs.length->(∀e∈es,Szq 7300 e.2)->Ql K H' x xs->xs.length=u->(∀e∈xs,Szq 42 e.2)->Q (.ref z) H'
theorem Pz {f:Addr}{fd:FuncData} (F:Df K mg "_law_right_of" Em ["_law_source_here","_law_rows_here"] f fd) (a0:mg "len"=none)  (G:Cal P w K mg base 34 "_law_next" ["_law_source_here","_law_many"] (Ie K)) (d:Cal P w K mg base 35 "_law_drawn" ["_law_source_here"] (Fx K)) (J:Cal P w K mg base 36 "_law_dot" ["_law_some","_law_others"] (Ho K)) (L:Cal P w K mg base 35 "_law_sum" ["_law_one","_law_other"] (J4 K)):Cal P w K mg base 37 "_law_right_of" ["_law_source_here","_law_rows_here"] (J3 K):=by
 refine F.cal (F.fn.ok Dz (fun vs H Q E h=> ?_) (fun aj A outer s H vs Q E hr h=> ?_))
 . obtain⟨l,a,rs,u,c,rfl,_⟩:=h
   rfl
 obtain⟨l,a,rs,u,c,rfl,hs,hc,hm,of,r1,r5,u1,u5,rz,k⟩:=h
 refine Ax ⟨_,(Ae (Bc 2 Dz.nd (Bf (ts:=["_law_k"]) (fs:=[(0,"_law_source_here")]) rfl (Bb.of (sc:=Ak Em) (N:=["_law_source_here","_law_rows_here","_law_x","_law_right_here","_law_way","_law_at"]) rfl rfl (by decide+kernel)) (Bj (Al Bp (Ac 1) Ad (fun _ _=>rfl))) (fun _ _ _=>(Ah 0 (show Nodup (["_law_k","_law_source_here"]:List Str)by decide+kernel))) (fun _ _ _=>Az) (fun _ _ _=>(Ai d hr (Aa (Ac 1) Ab)))))
  (Ae (Dk (ts:=["_law_row"]) (fs:=[(2,"_law_x")]) rfl (Bb.of (sc:=Ak Em) (N:=["_law_source_here","_law_rows_here","_law_x","_law_right_here","_law_way","_law_at"]) rfl rfl (by decide+kernel)) (Bj (Ac 1)) (fun _ _ _=>(Ah 0 (show Nodup (["_law_row","_law_x"]:List Str)by decide+kernel))) (fun _ _ _=>Az) (fun _ _ _=>(Ai J hr (Aa (Ac 0) (Aa (Ac 1) Ab)))) (Ah 3 Dz.nd))
  (Ae (Bc 4 Dz.nd (Ai G hr (Aa (Ac 0) (Aa Ad Ab))))
  (Ae (Ay (Aq Gf (Ac 4) Ad (Bl _)) (Ae (Bc 5 Dz.nd (Ai G hr (Aa (Ac 0) (Aa (Ar Aw rfl a0 PySem.boot_len (Aa (Ac 1) Ab)) Ab))))
  (Af (Cp (Ai L hr (Aa (Al Bp (Ac 3) (Ac 5) (fun _ _=>rfl)) (Aa (Ai d hr (Aa (Ac 0) Ab)) Ab))) (Ed (Ac 3) (Ac 5) set_list)))) Av)
  (Ae (Ay (Aq Gf (Ac 4) Ad (Bl _)) (Af (Dk (ts:=["_law_row"]) (fs:=[(0,"_law_source_here")]) rfl (Bb.of (sc:=Ak Em) (N:=["_law_source_here","_law_rows_here","_law_x","_law_right_here","_law_way","_law_at"]) rfl rfl (by decide+kernel)) (Bj (Ac 1)) (fun _ _ _=>(Ah 0 (show Nodup (["_law_row","_law_source_here"]:List Str)by decide+kernel))) (fun _ _ _=>Az) (fun _ _ _=>(Ai d hr (Aa (Ac 1) Ab))) (Ah 3 Dz.nd))) Av)
  (Af (Aj (Bq (Aa (Ac 3) (Aa (Ac 2) Ab)))))))))),?_⟩
 done
 obtain⟨r0,a6⟩:∃r0,rs[0]? =some r0:=⟨_,getElem?_eq_getElem (by omega)⟩
 have a1:=List.mem_of_getElem? a6
 have ra:=rz.all r5
 refine Cq (.of hm.it) (v:= .ref r0.1) (Ba (j:=0) (by rw [getElem?_map,a6];rfl)) ?_
 try done
 have ad:=(ra r0 a1).1
 have q0:=hm.al r0 a1
 have ak:rs.length<=sizeLine:=le_trans r5 (by decide)
 refine⟨⟨_,.of q0.it⟩,fun px M=> ?_⟩
 refine Mh (es:=r0.2) (inj:=(·.1)) M hs (by omega) (by omega) (fun H' x'=>Dv (.of (x' _ _ (of.r r0 a1) q0.it))) fun xs H1 x1 s1 qx lx zx=> ?_
 rw [ad]at s1 lx
 have m1:=hm.sx of x1 hs
 refine⟨⟨_,.of m1.it⟩,fun U W=> ?_⟩
 refine Lh W m1 qx (by omega) lx (by omega) ra zx (by omega) fun es H2 s2 qb eb zb=> ?_
 have a2:=s1.same s2
 have el:es.length=rs.length:=by
  have:=congrArg List.length eb
  rw [length_map,length_map]at this
  exact this
 have lb:=s1.ne W
 have Y:=hs.ne M
 have nb:H U=none:=Ks x1 s1 W
 refine Ik a2 (by omega) (by decide) (by decide) fun w H3 w0 w4 x3 s3=> ?_
 have O:=(x1.same s2).trans x3
 have a7:=qb.sx (Ne.symm lb) x3 a2
 have a3:=(qx.mono s2).sx (Ne.symm Y) x3 a2
 have m3:=hm.sx of O hs
 have Z:∀e∈es,Szq 7196 e.2:=fun e he=>(zb e he).mono (by omega)
 try done
 by_cases h0:w=0
 . rw [if_pos h0]
   refine⟨a,_,rfl,.inl (.of m3.it),?_⟩
   rw [length_map]
   refine Ik s3 (by omega) (by omega) (by omega) fun t H4 t0 t1 x4 s4=> ?_
   obtain⟨j,rfl⟩:∃j:Nat,t=(j:Nat):=⟨t.toNat,by omega⟩
   obtain⟨e,ee⟩:∃e,es[j]? =some e:=⟨_,getElem?_eq_getElem (by omega)⟩
   have em:=List.mem_of_getElem? ee
   have a8:=a7.sx (Ne.symm lb) x4 s3
   have a4:=a3.sx (Ne.symm Y) x4 s3
   refine Cq (.of a8.it) (v:=e.1) (Ba (by rw [getElem?_map,ee];rfl)) ?_
   refine⟨l,_,rfl,s4,by omega,fun v q H5 x5 s5 iq zq=> ?_⟩
   have a9:=a8.sx (Ne.symm lb) x5 s4
   have ae:=a4.sx (Ne.symm Y) x5 s4
   refine⟨_,_,e.2,q,7196,42,rfl,a9.al e em,iq,Z e em,zq,by omega,fun y H6 s6 h6=> ?_⟩
   have a5:=a9.mono s6
   have ag:=ae.mono s6
   refine N6 (j:=j) a5.it (by rw [length_map];omega) ?_
   have q7:=a5.put (c:=j) h6
   have ah:px≠U:=Bo qx.it W
   have aa:Ql K (upd H6 U (.lst ((es.map (·.1)).set j y))) px xs:=ag.keep a5.it ah
   have s7:Src (upd H6 U (.lst ((es.map (·.1)).set j y))) l (c+60):=((s5.same s6).put lb).up (by omega)
   have x7:Sx l H (upd H6 U (.lst ((es.map (·.1)).set j y))):=(((O.trans x4).trans x5).same s6).put nb
   generalize upd H6 U (.lst ((es.map (·.1)).set j y))=H7 at q7 aa s7 x7
   try done
   rw [if_neg (by omega)]
   intro z hz
   have I:=Same.upd hz (.tup [V.ref U,V.ref px])
   refine k z U px _ xs _ (x7.same I) (s7.same I) Ag nb M (q7.mono I) (by rw [length_set];exact el) (fun e' ai=> ?_) (aa.mono I) lx zx
   rcases List.mem_or_eq_of_mem_set ai with h | h
   . exact(Z e' h).mono (by omega)
   . rw [h]
     exact((Z e em).add zq).mono (by omega)
 . rw [if_neg h0]
   by_cases h1:w=1
   . try done
     rw [if_pos h1]
     refine⟨⟨_,.of m3.it⟩,fun p2 ac=> ?_⟩
     refine Mh (es:=rs) (inj:=fun r=>V.ref r.1) ac s3 (by omega) (by omega) (fun H' x'=>Dv (.of (x' _ _ of.a m3.it))) fun gs H4 x4 s4 q4 l4 z4=> ?_
     have a4:=a3.sx (Ne.symm Y) x4 s3
     intro z hz
     have I:=Same.upd hz (.tup [V.ref p2,V.ref px])
     exact k z p2 px gs xs _ ((O.trans x4).same I) ((s4.same I).up (by omega)) Ag (Ks O s3 ac) M (q4.mono I) l4 (fun e he=>(z4 e he).mono (by omega)) (a4.mono I) lx zx
   . try done
     rw [if_neg h1]
     intro z hz
     have I:=Same.upd hz (.tup [V.ref U,V.ref px])
     exact k z U px es xs _ (O.same I) ((s3.same I).up (by omega)) Ag nb M (a7.mono I) el (fun e he=>(Z e he).mono (by omega)) (a3.mono I) lx zx
def Nr (K:Frag):Sp:=fun vs H Q _=>∃(a:Addr) (xs:List V) (m:Nat),vs=[.ref a,.int (m:Nat)]/\H a=some (.lst xs)/\xs.length=m/\Q (.bl true) H
theorem Yq {f:Addr}{fd:FuncData} (F:Df K mg "_law_list" Qd ["_law_thing","_law_many"] f fd) (d:mg "isinstance"=none) (q:mg "list"=none) (y:mg "len"=none)   :Cal P w K mg base 33 "_law_list" ["_law_thing","_law_many"] (Nr K):=by
 refine F.cal (F.fn.ok Zd (fun I H Q E h=> ?_) (fun J A outer s H I Q E L h=> ?_))
 . obtain⟨a,xs,m,rfl,_⟩:=h
   rfl
 obtain⟨a,xs,m,rfl,G,h1,k⟩:=h
 refine Ax ⟨_,(Af (Aj (Di (Ar Fo rfl d boot_isinstance (Aa (Ac 0) (Aa (Cm (v:= .ty "list") rfl q boot_list rfl) Ab))) (Dn (Bx Gf (Ar Aw rfl y PySem.boot_len (Aa (Ac 0) Ab)) (Ac 1) (Bl _)))))),?_⟩
 done
 refine⟨_,_,_,true,rfl,.lst G,rfl,?_⟩
 rw [if_pos rfl]
 refine⟨a,_,rfl,.inl (.of G),?_⟩
 rw [decide_eq_true (by omega)]
 exact k
def Sq (K:Frag):Sp:=fun vs H Q _=>∃c u:Nat,vs=[.int (c:Nat),.int (u:Nat)]/\c<u/\u<=6/\∀z es H',H z=none->Same H H'->Ql K H' z es->qv es=(List.range u).map (fun j=>if j=c then 1 else 0)->Q (.ref z) H'
theorem Abf {u c:Nat}:(replicate u (0:Rat)).set c 1=(List.range u).map (fun j=>if j=c then 1 else 0):=by
 refine ext_getElem (by simp) fun i h1 h2=> ?_
 rw [List.getElem_set,getElem_map,getElem_range,List.getElem_replicate]
 by_cases e:c=i
 . rw [if_pos e,if_pos e.symm]
 . rw [if_neg e,if_neg (Ne.symm e)]
theorem Yt {f:Addr}{fd:FuncData} (F:Df K mg "_law_unit" Qf ["_law_at","_law_many"] f fd)    :Cal P w K mg base 33 "_law_unit" ["_law_at","_law_many"] (Sq K):=by
 refine F.cal (F.fn.ok R6 (fun vs H Q E h=> ?_) (fun a0 A outer s H vs Q E hr h=> ?_))
 . obtain⟨c,u,rfl,_⟩:=h
   rfl
 obtain⟨c,u,rfl,cu,u6,k⟩:=h
 refine Ax ⟨_,(Ae (Bc 2 R6.nd (Ao Ol (Bt (Aa (Bq (Aa Ad (Aa Ad Ab))) Ab)) (Ac 1)))
  (Ae (Cp (Bq (Aa Ad (Aa Ad Ab))) (Ed (Ac 2) (Ac 0) set_list))
  (Af (Aj (Ac 2))))),?_⟩
 done
 intro d h1 p2 h2
 have L:=Same.upd h1 (.tup [.int 0,.int 1])
 have G:=Same.upd h2 (.lst [.ref d])
 refine⟨p2,_,_,rfl,rfl,Ag,by omega,by omega,by rw [length_singleton,toNat_natCast];exact le_trans (show 1*u<=6 by omega) (by decide),fun q M=> ?_⟩
 rw [toNat_natCast,flatten_replicate_singleton]
 have O:=Same.upd M (.lst (replicate u (V.ref d)))
 have U:Ql K (upd (upd (upd H d (.tup [.int 0,.int 1])) p2 (.lst [.ref d])) q (.lst (replicate u (V.ref d)))) q (replicate u (V.ref d,(0:Rat))):=⟨by rw [Ag,map_replicate],fun e he=>by rw [eq_of_mem_replicate he];exact(Gh Ag).mono (G.trans O)⟩
 have W:=Gd (L.trans G) M
 have Y:=L.trans (G.trans O)
 generalize upd (upd (upd H d (.tup [.int 0,.int 1])) p2 (.lst [.ref d])) q (.lst (replicate u (V.ref d)))=Z at U Y
 intro y h4
 have I:=Same.upd h4 (.tup [.int 1,.int 1])
 have J:=U.mono I
 have i4:IsQ K (upd Z y (.tup [.int 1,.int 1])) (.ref y) 1:=⟨y,rfl,.of Ag⟩
 generalize upd Z y (.tup [.int 1,.int 1])=H4 at I J i4
 refine N6 (j:=c) J.it (by rw [length_map,length_replicate];exact cu) ?_
 try done
 refine k q _ _ W ((Y.trans I).put W) (J.put (c:=c) i4) ?_
 show List.map _ _=_
 rw [map_set,map_replicate]
 exact Abf
theorem Gu {es:List (V × Rat)}{j:Nat}{e:V × Rat} (h:es[j]? =some e):qf (qv es) j=e.2:=by
 unfold qf
 rw [getD_eq_getElem?_getD,getElem?_map,h]
 rfl
structure Wgi (K:Frag) (H H':Hp) (p:Addr) (f:Nat->Rat) (S i:Nat) (gs:List (V × Rat)):Prop where
 sm:Same H H'
 ql:Ql K H' p gs
 eq:qv gs=(List.range i).map f
 sz:∀e∈gs,Szq S e.2
theorem Wgi.snoc {H H1 H2:Hp}{p:Addr}{f:Nat->Rat}{S i:Nat}{q:List (V × Rat)}{v:V} (h:Wgi K H H1 p f S i q) (y:H p=none) (s:Same H1 H2) (F:IsQ K H2 v (f i)) (hz:Szq S (f i)):Wgi K H (upd H2 p (.lst (q.map (·.1)++ [v]))) p f S (i+1) (q++ [(v,f i)]):=by
 refine⟨(h.sm.trans s).put y,(h.ql.mono s).snoc F,?_,fun e d=> ?_⟩
 . show List.map _ _=_
   rw [map_append,range_succ,map_append]
   exact congrArg (· ++ [f i]) h.eq
 . rcases mem_append.mp d with d | d
   . exact h.sz e d
   . have G:e=(v,f i):=by simpa using d
     rw [G]
     exact hz
def Ig (K:Frag):Sp:=fun vs H Q _=>∃(a b:Addr) (es:List (V × Rat)) (rs:List Qr) (u m:Nat),vs=[.ref a,.ref b]/\Ql K H a es/\Qm K H b rs/\es.length=rs.length/\1<=rs.length/\rs.length<=5/\u<=5/\(∀r∈rs,r.2.length=u/\∀e∈r.2,Szq 1396 e.2)/\(∀e∈es,Szq m e.2)/\m<=2600000/\
 ∀z gs H',H z=none->Same H H'->Ql K H' z gs->qv gs=(List.range u).map (fun j=>dq (qv es) ((rs.map fun r=>qv r.2).map (qf · j)))->Q (.ref z) H'
theorem Rn {f:Addr}{fd:FuncData} (F:Df K mg "_law_weighed" Hi ["_law_ys","_law_rows_here"] f fd) (G:mg "range"=none) (M:mg "len"=none)  (I:Cal P w K mg base 36 "_law_dot" ["_law_some","_law_others"] (Ho K)):Cal P w K mg base 37 "_law_weighed" ["_law_ys","_law_rows_here"] (Ig K):=by
 refine F.cal (F.fn.ok Hz (fun vs H Q E h=> ?_) (fun a3 A outer s H vs Q E hr h=> ?_))
 . obtain⟨a,b,es,d,u,m,rfl,_⟩:=h
   rfl
 obtain⟨a,b,es,d,u,m,rfl,ha,hb,el,r1,r5,u5,hs,hz,hm,k⟩:=h
 refine Ax ⟨_,(Ae (Bc 2 Hz.nd (Bt Ab))
  (Ae (Bu PassesOwn.never rfl (Cj rfl G (Aa (Ar Aw rfl M PySem.boot_len (Aa (Al Bp (Ac 1) Ad (fun _ _=>rfl)) Ab)) Ab)) (Ah 3 Hz.nd) (Af (Dd (Fj plainAttrs_list PySem.F.slot_list_append PySem.F.type_list_append Dq (Ac 2) (Aa (Ai I hr (Aa (Ac 0) (Aa (Bf (ts:=["_law_row"]) (fs:=[(3,"_law_k")]) rfl (Bb.of (sc:=Ak Hi) (N:=["_law_ys","_law_rows_here","_law_found","_law_k"]) rfl rfl (by decide+kernel)) (Bj (Ac 1)) (fun _ _ _=>(Ah 0 (show Nodup (["_law_row","_law_k"]:List Str)by decide+kernel))) (fun _ _ _=>Az) (fun _ _ _=>(Al (Dw K) (Ac 0) (Ac 1) (fun _ _=>rfl)))) Ab))) Ab)))))
  (Af (Aj (Ac 2))))),?_⟩
 done
 refine⟨by decide,fun p W=> ?_⟩
 have t1:=Same.upd W (.lst [])
 have q0:Ql K (upd H p (.lst [])) p []:=⟨Ag,by simp⟩
 generalize upd H p (.lst [])=H1 at t1 q0
 obtain⟨U,Y⟩:∃U,d[0]? =some U:=⟨_,getElem?_eq_getElem (by omega)⟩
 have Z:=List.mem_of_getElem? Y
 have a0:=hb.mono t1
 refine Cq (.of a0.it) (v:= .ref U.1) (Ba (j:=0) (by rw [getElem?_map,Y];rfl)) ?_
 try done
 refine⟨U.1,_,rfl,.inl (.of (a0.al U Z).it),?_⟩
 rw [length_map,(hs U Z).1]
 refine⟨by omega,by omega,?_⟩
 rw [toNat_natCast]
 refine Agz u (fun i=> .int (0+(i:Nat))) (fun i L H'=>∃(gs:List (V × Rat)) (o3:Option V),L=[some (.ref a),some (.ref b),some (.ref p),o3]/\Wgi K H H' p (fun j=>dq (qv es) ((d.map fun r=>qv r.2).map (qf · j))) ((m+1396+1)*d.length+1) i gs) ⟨[],_,rfl,t1,q0,rfl,by simp⟩ ?_ ?_ ?_
 . rintro i L H' _
   exact G5
 . rintro i L H2 hi ⟨gs,o3,rfl,wi⟩
   rw [zero_add]
   done
   refine⟨.inl ⟨rfl,_,.of wi.ql.it⟩,?_⟩
   have O:=hb.mono wi.sm
   refine⟨⟨_,.of O.it⟩,fun q hq=> ?_⟩
   refine Jf (es:=d) (inj:=fun r=>V.ref r.1) (fun r v H=>IsQ K H v (qf (qv r.2) i)) (le_trans r5 (by decide)) hq (Ec (.of O.it)) (fun e v H H' h s=>h.mono s) (fun e v H a4 o h W=>h.put W) ?_ ?_
   . intro r H3 R J s3 hR
     done
     have g3:=(O.al r J).mono s3
     obtain⟨e,ee⟩:∃e,r.2[i]? =some e:=⟨_,getElem?_eq_getElem (by rw [(hs r J).1];exact hi)⟩
     refine Cq (.of g3.it) (v:=e.1) (Ba (by rw [getElem?_map,ee];rfl)) ?_
     exact hR _ _ (Same.refl _) (by rw [Gu ee];exact g3.al e (List.mem_of_getElem? ee))
   intro ns H3 nl a2 s3 h3
   obtain⟨q1,q2⟩:=Rv (K:=K) (f:=fun r:Qr=>qf (qv r.2) i) h3 nl a2
   have zq:∀e∈ns.zip (d.map fun r:Qr=>qf (qv r.2) i),Szq 1396 e.2:=fun e he=>by
    have h1:e.2∈qv (ns.zip (d.map fun r:Qr=>qf (qv r.2) i)):=mem_map.mpr ⟨e,he,rfl⟩
    rw [q2]at h1
    obtain⟨r,J,e2⟩:=mem_map.mp h1
    obtain⟨y,ey⟩:∃y,r.2[i]? =some y:=⟨_,getElem?_eq_getElem (by rw [(hs r J).1];exact hi)⟩
    rw [<-e2,Gu ey]
    exact(hs r J).2 y (List.mem_of_getElem? ey)
   have zl:(ns.zip (d.map fun r:Qr=>qf (qv r.2) i)).length=d.length:=by rw [List.length_zip,length_map,nl,Nat.min_self]
   refine⟨a,q,es,_,m,1396,d.length,rfl,ha.mono (wi.sm.trans s3),q1,el,zl,by omega,hz,zq,le_trans (Nat.add_le_add_right (mul_le_mul (show m+1396+1<=2601397 by omega) r5) 1) (by decide),fun z H4 s4 h4 z4=> ?_⟩
   have ed:dq (qv es) (qv (ns.zip (d.map fun r:Qr=>qf (qv r.2) i)))=dq (qv es) ((d.map fun r=>qv r.2).map (qf · i)):=by rw [q2,map_map];rfl
   rw [ed]at h4 z4
   have a1:=s3.trans s4
   have gl:gs.length=i:=by
    have:=congrArg List.length wi.eq
    rw [length_map,length_map,length_range]at this
    exact this
   refine⟨p,_,_,rfl,rfl,a1 _ _ wi.ql.it,by rw [length_map,gl];exact lt_of_lt_of_le (show i<6 by omega) (by decide),_,_,rfl,wi.snoc W a1 h4 z4⟩
 . rintro L H2 ⟨gs,o3,rfl,wi⟩
   done
   exact k p gs H2 W wi.sm wi.ql wi.eq
theorem Acx {T U:String}{b:Bool} (h:(if(Value.type T==Value.type U)=true then some true else if PySem.W.kitMeta U=true then subIn [] (.type T) (.type U)else none)=some b):kitOne K (.type T) (.type U)=some b:=h
theorem Abu:kitOne K (.type "int") (.type "int")=some true:=Acx (by decide+kernel)
theorem Abt:kitOne K (.type "int") (.type "bool")=some false:=Acx (by decide+kernel)
theorem isi {H:Hp}{d:Bool->Prop}{v:V}{t:Value}{T:String}{b:Bool} (I:Qy K H v t) (J:kitOne K t (.type T)=some b) (q:d b):
 ∃x y F G,[v,V.ty T]=[x,V.ty F]/\Qy K H x y/\kitOne K y (.type F)=some G/\d G:=⟨v,t,T,b,rfl,I,J,q⟩
theorem Oi:kitOne K (.type "tuple") (.type "tuple")=some true:=Acx (by decide+kernel)
inductive TyA (K:Frag) (H:Hp):V->Value->Prop where
 | of {v:V}{t:Value} (h:Qy K H v t):TyA K H v t
 | tup {a:Addr}{xs:List V} (h:SqT K H a xs):TyA K H (.ref a) (.type "tuple")
theorem Jo {X:Cx}:Gq X (.builtin "isinstance") (fun xs H Q=>∃x t T b,xs=[x,.ty T]/\TyA X.K H x t/\kitOne X.K t (.type T)=some b/\Q (.bl b) H):=by
 intro pins s σ H xs y Q I r h
 obtain⟨x,t,T,b,rfl,d,F,q⟩:=h
 cases d with
 | of d=>exact Fo pins s σ H _ y Q I r ⟨x,t,T,b,rfl,d,F,q⟩
 | tup G=>exact Aab pins s σ H _ y Q I r ⟨_,_,T,b,rfl,G,F,q⟩
theorem isa {H:Hp}{d:Bool->Prop}{v:V}{t:Value}{T:String}{b:Bool} (I:TyA K H v t) (J:kitOne K t (.type T)=some b) (q:d b):
 ∃x y F G,[v,V.ty T]=[x,V.ty F]/\TyA K H x y/\kitOne K y (.type F)=some G/\d G:=⟨v,t,T,b,rfl,I,J,q⟩
theorem Mq {H:Hp}{g:Bool->Bool}{Q:VK}{v w:V}{p q:Rat} (d:IsQ K H v p) (y:IsQ K H w q) (h:Q (.bl (g (decide (p=q)))) H):Ab6 K g v w H Q:=by
 obtain⟨a,rfl,F⟩:=d
 obtain⟨b,rfl,G⟩:=y
 refine⟨_,_,RdD.ints (ns:=[p.num,(p.den:Int)]) F,RdD.ints (ns:=[q.num,(q.den:Int)]) G,rfl,rfl,?_⟩
 have e:PyData.eqv (PyData.tuple ([p.num,(p.den:Int)].map PyData.int)) (PyData.tuple ([q.num,(q.den:Int)].map PyData.int))=decide (p=q):=by
  have h1:=Jq [(p.num,(p.den:Int))] [(q.num,(q.den:Int))]
  simp only [List.map,PyData.eqvAll,Bool.and_true]at h1
  show PyData.eqv (PyData.tuple [.int p.num,.int (p.den:Int)]) (PyData.tuple [.int q.num,.int (q.den:Int)])=_
  rw [h1]
  by_cases h:p=q
  . rw [h,decide_eq_true rfl,decide_eq_true rfl]
  . rw [decide_eq_false h,decide_eq_false fun z=>h (by
     have:=Y6 (qs:=[p]) (rs:=[q]) z
     simpa using this)]
 rw [e]
 exact h
def Gx (K:Frag):Sp:=fun vs H Q _=>∃(a:Addr) (es:List (V × Rat)) (m:Nat),vs=[.ref a,.int (m:Nat)]/\Ql K H a es/\es.length=m/\∀H',Same H H'->Q (.bl true) H'
theorem N8 {f:Addr}{fd:FuncData} (F:Df K mg "_law_fractions" Fq ["_law_thing","_law_many"] f fd) (d:mg "isinstance"=none) (G:mg "tuple"=none) (L:mg "len"=none) (M:mg "all"=none) (O:mg "int"=none) (I:mg "bool"=none)  (q:Cal P w K mg base 33 "_law_list" ["_law_thing","_law_many"] (Nr K)) (y:Cal P w K mg base 34 "_law_frac" ["_law_top","_law_bottom"] (Ib K)):Cal P w K mg base 35 "_law_fractions" ["_law_thing","_law_many"] (Gx K):=by
 refine F.cal (F.fn.ok Ja (fun vs H Q E h=> ?_) (fun a3 A outer s H vs Q E hr h=> ?_))
 . obtain⟨a,es,m,rfl,_⟩:=h
   rfl
 obtain⟨a,es,m,rfl,ha,el,k⟩:=h
 refine Ax ⟨_,(Ae (Ay (Bh (Bd (Ai q hr (Aa (Ac 0) (Aa (Ac 1) Ab))))) (Af (Aj Bk)) Av)
  (Ae (Bu PassesOwn.never rfl (Bj (Ac 0)) (Ah 2 Ja.nd) (Ae (Ay (Ce (Cg (Bh (Bd (Ar Jo rfl d boot_isinstance (Aa (Ac 2) (Aa (Cm (v:= .ty "tuple") rfl G boot_tuple rfl) Ab))))) (Ca (Aq Rp (Ar Aw rfl L PySem.boot_len (Aa (Ac 2) Ab)) Ad (Bl _))))) (Af (Aj Bk)) Av)
  (Ae (Ay (Ce (Cg (Bh (Bd (Ar (Fl rfl) rfl M boot_all (Aa (Bf (ts:=["_law_part"]) (fs:=[]) rfl (Bb.of (sc:=Ak Fq) (N:=["_law_thing","_law_many","_law_one"]) rfl rfl (by decide+kernel)) (Qw (Ac 2)) (fun _ _ _=>(Ah 0 (show Nodup (["_law_part"]:List Str)by decide+kernel))) (fun _ _ _=>Az) (fun _ _ _=>(Di (Ar (Q8 K) rfl d boot_isinstance (Aa (Ac 0) (Aa (Cm (v:= .ty "int") rfl O boot_int rfl) Ab))) (Dn (Qv (Ar (Q8 K) rfl d boot_isinstance (Aa (Ac 0) (Aa (Cm (v:= .ty "bool") rfl I boot_bool rfl) Ab)))))))) Ab)))) (Ca (Aq Yv (Al Br (Ac 2) Ad (fun _ _=>rfl)) Ad (Bl _))))) (Af (Aj Bk)) Av)
  (Af (Ay (Aq (Gi hr.units) (Ac 2) (Ai y hr (Aa (Al Br (Ac 2) Ad (fun _ _=>rfl)) (Aa (Al Br (Ac 2) Ad (fun _ _=>rfl)) Ab))) (Bl _)) (Af (Aj Bk)) Av)))))
  (Af (Aj Bk)))),?_⟩
 done
 refine⟨a,_,m,rfl,ha.it,by rw [length_map];exact el,?_⟩
 try done
 refine⟨⟨_,.of ha.it⟩,Ra (es:=es) (inj:=(·.1)) (fun Z J H'=>∃o2:Option V,J=[some (.ref a),some (.int (m:Nat)),o2]/\Same H H') ⟨_,rfl,Same.refl _⟩ ?_ ?_ ?_⟩
 . rintro Z J H' ⟨o2,rfl,W⟩
   exact Dv (.of (W _ _ ha.it))
 . rintro Z e a2 J H1 he ⟨o2,rfl,W⟩
   have em:e∈es:=by rw [he];simp
   have iq:=(ha.al e em).mono W
   obtain⟨b,eb,U⟩:=id iq
   rw [eb]
   done
   refine isa (.tup U) Oi ?_
   try done
   refine⟨b,_,rfl,.inr U,?_⟩
   try done
   refine⟨⟨_,U⟩,fun p1 a1=>Gs (es:=[e.2.num,(e.2.den:Int)]) (inj:=V.int) (fun _=> .bl true) (show 2<=sizeLine by decide) a1 (Acd U) ?_ ?_⟩
   . intro c H2 R hc Y hR
     done
     refine isi (.int c) Abu ?_
     try done
     refine isi (.int c) Abt ?_
     try done
     exact hR _ (Same.refl _)
   intro H2 Y h2
   refine⟨p1,[true,true],rfl,.of h2,?_⟩
   rw [if_neg (by decide)]
   refine Cd (Y.tup U) (v:= .int (e.2.den:Int)) (at1 _ _ _) ?_
   have dp:=Wf e.2
   try done
   rw [if_neg (show ¬(e.2.den:Int)<1 by omega)]
   refine Cd (Y.tup U) (v:= .int e.2.num) (at0 _ _) ?_
   refine Cd (Y.tup U) (v:= .int (e.2.den:Int)) (at1 _ _ _) ?_
   refine⟨e.2.num,(e.2.den:Int),rfl,dp,fun z H3 s3 h3=> ?_⟩
   rw [Rat.num_divInt_den]at h3
   have a0:=iq.mono (Y.trans s3)
   rw [eb]at a0
   refine Mq a0 h3 ?_
   rw [decide_eq_true rfl]
   refine⟨_,rfl,?_⟩
   rw [if_neg (by decide)]
   exact⟨_,rfl,W.trans (Y.trans s3)⟩
 . rintro J H1 ⟨o2,rfl,W⟩
   done
   exact k H1 W
theorem Qa {X:Cx} (K:Frag) (d:X.A.units+64<cLine) (h:X.K=K:=by rfl):OpR X (compareOp .NotEq) (Ab6 K fun b=> !b):=by
 subst h
 exact Gi d
def Nq (K:Frag):Sp:=fun vs H Q _=>∃(pz af ab:Addr) (v0 v1 v4:V) (fr:List Nat) (bs:List Qr) (u:Nat),vs=[.ref pz]/\H pz=some (.tup [v0,v1,.ref af,.ref ab,v4])/\H af=some (.lst (nats fr))/\Qm K H ab bs/\bs.length=fr.length/\fr.length<=6/\u<=6/\(∀f∈fr,f<u)/\(∀r∈bs,r.2.length=u)/\(∀(k:Nat) g f,bs[k]? =some g->fr[k]? =some f->∀j,f<j->j<u->qf (qv g.2) j=0)/\∀H',Same H H'->Q (.bl true) H'
theorem T7 {f:Addr}{fd:FuncData} (F:Df K mg "_law_behind" Im ["_law_paper"] f fd) (I:mg "zip"=none) (d:mg "range"=none) (J:mg "len"=none)   :Cal P w K mg base 33 "_law_behind" ["_law_paper"] (Nq K):=by
 refine F.cal (F.fn.ok Jk (fun vs H Q E h=> ?_) (fun a1 A outer s H vs Q E hr h=> ?_))
 . obtain⟨pz,af,ab,v0,v1,v4,fr,bs,u,rfl,_⟩:=h
   rfl
 obtain⟨pz,af,ab,v0,v1,v4,fr,bs,u,rfl,hz,hf,hb,bl,f6,u6,fu,ul,ze,k⟩:=h
 refine Ax ⟨_,(Ae (Bu PassesOwn.never rfl (Cr false false rfl I (Aa (Al Br (Ac 0) Ad (fun _ _=>rfl)) (Aa (Al Br (Ac 0) Ad (fun _ _=>rfl)) Ab))) (Ci rfl (Am (Ah 1 Jk.nd) (Am (Ah 2 Jk.nd) Bm))) (Af (Ay (Aq (Gi hr.units) (Bf (ts:=["_law_k"]) (fs:=[(2,"_law_one")]) rfl (Bb.of (sc:=Ak Im) (N:=["_law_paper","_law_at","_law_one"]) rfl rfl (by decide+kernel)) (Ku rfl d (Aa (Ao Fi (Ac 1) Ad) (Aa (Ar (Mg K) rfl J PySem.boot_len (Aa (Ac 2) Ab)) Ab))) (fun _ _ _=>(Ah 0 (show Nodup (["_law_k","_law_one"]:List Str)by decide+kernel))) (fun _ _ _=>(Et (Aq (Qa K hr.units) (Al (Dw K) (Ac 1) (Ac 0) (fun _ _=>rfl)) (Bq (Aa Ad (Aa Ad Ab))) (Bl _)))) (fun _ _ _=>(Ac 0))) (Bt Ab) (Bl _)) (Af (Aj Bk)) Av)))
  (Af (Aj Bk))),?_⟩
 done
 refine Cd (.of hz) (v:= .ref af) (Ba (j:=2) rfl) ?_
 refine Cd (.of hz) (v:= .ref ab) (Ba (j:=3) rfl) ?_
 have fl:(nats fr).length=fr.length:=length_map _
 refine⟨af,ab,rfl,⟨_,show SqL K H af _ from .of hf⟩,⟨_,show SqL K H ab _ from .of hb.it⟩,Jh (xs:=nats fr) (ys:=bs.map fun r=>V.ref r.1) fr.length (by rw [fl,length_map];omega) (fun i G H'=>∃W Y:Option V,G=[some (.ref pz),W,Y]/\Same H H') ⟨_,_,rfl,Same.refl _⟩ ?_ ?_ ?_⟩
 . rintro i G H' ⟨W,Y,rfl,L⟩
   exact⟨show SqL K H' af _ from .of (L _ _ hf),show SqL K H' ab _ from .of (L _ _ hb.it)⟩
 . rintro i G H1 c hi ⟨W,Y,rfl,L⟩ hc
   obtain⟨y,ef⟩:∃x,fr[i]? =some x:=⟨_,getElem?_eq_getElem hi⟩
   obtain⟨r,er⟩:∃r,bs[i]? =some r:=⟨_,getElem?_eq_getElem (by omega)⟩
   have rm:=List.mem_of_getElem? er
   have M:(nats fr).getD i .non= .int (y:Nat):=by rw [getD_eq_getElem?_getD,G8 ef];rfl
   have O:(bs.map fun r=>V.ref r.1).getD i .non= .ref r.1:=by rw [getD_eq_getElem?_getD,getElem?_map,er];rfl
   have Z:=Same.upd hc (.tup [(nats fr).getD i .non,(bs.map fun r=>V.ref r.1).getD i .non])
   rw [M,O]at Z
   rw [M,O]
   refine Eb (.of Ag) ?_
   generalize upd H1 c (.tup [V.int (y:Nat),.ref r.1])=H2 at Z
   have g2:=(hb.al r rm).mono (L.trans Z)
   done
   have a2:=fu y (List.mem_of_getElem? ef)
   have ur:=ul r rm
   refine⟨r.1,_,rfl,.inl (.of g2.it),?_⟩
   rw [length_map,ur]
   refine⟨by omega,fun q hq=> ?_⟩
   refine Eu (es:=List.range ((u:Int)-((y:Int)+1)).toNat) (inj:=fun j=> .int ((y:Int)+1+(j:Nat))) (fun _=>false) (fun _=> .int 0) (by rw [length_range];exact le_trans (show _<=6 by omega) (by decide)) hq Ft ?_ ?_
   . intro j H3 R RF hj s3 hR hF
     have jl:=mem_range.mp hj
     have g3:=g2.mono s3
     have ej:(y:Int)+1+(j:Nat)=((y+1+j:Nat):Int):=by omega
     obtain⟨e,ee⟩:∃e,r.2[y+1+j]? =some e:=⟨_,getElem?_eq_getElem (by omega)⟩
     have e0:=ze i r y er ef (y+1+j) (by omega) (by omega)
     rw [Gu ee]at e0
     done
     rw [ej]
     refine Cq (.of g3.it) (v:=e.1) (Ba (by rw [getElem?_map,ee];rfl)) ?_
     intro p4 h4
     have U:=Same.upd h4 (.tup [.int 0,.int 1])
     refine Mq ((g3.al e (List.mem_of_getElem? ee)).mono U) (Gh Ag) ?_
     rw [decide_eq_true e0]
     refine⟨_,rfl,?_⟩
     rw [if_neg (by decide)]
     exact hF rfl _ U
   intro H3 s3 h3
   have en:((List.range ((u:Int)-((y:Int)+1)).toNat).filter fun _=>false).map (fun _=>V.int 0)=[]:=by simp
   rw [en]at h3
   refine⟨by decide,fun q2 a0=> ?_⟩
   have U:=Same.upd a0 (.lst [])
   refine Lk (ns:=[]) (ms:=[]) (.of (U _ _ h3)) (.of Ag) ?_
   rw [decide_eq_true rfl]
   refine⟨_,rfl,?_⟩
   rw [if_neg (by decide)]
   exact⟨_,_,rfl,L.trans (Z.trans (s3.trans U))⟩
 . rintro G H1 ⟨W,Y,rfl,L⟩
   done
   exact k H1 L
def Jl (K:Frag):Sp:=fun vs H Q _=>∃i:Int,vs=[.int i]/\Q (.bl true) H
theorem T5 {f:Addr}{fd:FuncData} (F:Df K mg "is_whole" Kh ["thing"] f fd) (d:mg "isinstance"=none) (y:mg "int"=none) (q:mg "bool"=none)   :Cal P w K mg base 33 "is_whole" ["thing"] (Jl K):=by
 refine F.cal (F.fn.ok Ul (fun G H Q E h=> ?_) (fun I A outer s H G Q E J h=> ?_))
 . obtain⟨i,rfl,_⟩:=h
   rfl
 obtain⟨i,rfl,k⟩:=h
 refine Ax ⟨_,(Af (Aj (Di (Ar Fo rfl d boot_isinstance (Aa (Ac 0) (Aa (Cm (v:= .ty "int") rfl y boot_int rfl) Ab))) (Dn (Qv (Ar Fo rfl d boot_isinstance (Aa (Ac 0) (Aa (Cm (v:= .ty "bool") rfl q boot_bool rfl) Ab)))))))),?_⟩
 done
 refine isi (.int i) Abu ?_
 try done
 refine isi (.int i) Abt ?_
 try done
 exact k
theorem Ahd (q:Rat):(Int.gcd q.num (q.den:Int):Int)=1:=by
 have h:=q.reduced
 unfold Nat.Coprime at h
 unfold Int.gcd
 rw [Int.natAbs_natCast,h]
 rfl
def Jb (K:Frag):Sp:=fun vs H Q _=>∃(v:V) (q:Rat),vs=[v]/\IsQ K H v q/\∀H',Same H H'->Q (.bl true) H'
theorem N7 {f:Addr}{fd:FuncData} (F:Df K mg "is_fraction" Hh ["thing"] f fd) (y:mg "isinstance"=none) (I:mg "tuple"=none) (J:mg "len"=none)  (d:Cal P w K mg base 33 "is_whole" ["thing"] (Jl K)) (G:Cal P w K mg base 33 "divisor" ["one","other"] (Kq K)):Cal P w K mg base 34 "is_fraction" ["thing"] (Jb K):=by
 refine F.cal (F.fn.ok Gw (fun O H Q E h=> ?_) (fun U A outer s H O Q E L h=> ?_))
 . obtain⟨v,q,rfl,_⟩:=h
   rfl
 obtain⟨v,q,rfl,W,k⟩:=h
 obtain⟨b,rfl,M⟩:=W
 refine Ax ⟨_,(Ae (Ay (Ce (Cg (Bh (Bd (Ar Jo rfl y boot_isinstance (Aa (Ac 0) (Aa (Cm (v:= .ty "tuple") rfl I boot_tuple rfl) Ab))))) (Ca (Aq Rp (Ar Aw rfl J PySem.boot_len (Aa (Ac 0) Ab)) Ad (Bl _))))) (Af (Aj Bk)) Av)
  (Ae (Cp (Ac 0) (Ci rfl (Am (Ah 1 Gw.nd) (Am (Ah 2 Gw.nd) Bm))))
  (Ae (Ay (Ce (Cg (Bh (Bd (Ai d L (Aa (Ac 1) Ab)))) (Ca (Bh (Bd (Ai d L (Aa (Ac 2) Ab))))))) (Af (Aj Bk)) Av)
  (Af (Aj (Di (Bx Ac1 (Ac 2) Ad (Bl _)) (Dn (Bx Gf (Ai G L (Aa (Ac 1) (Aa (Ac 2) Ab))) Ad (Bl _))))))))),?_⟩
 done
 refine isa (.tup M) Oi ?_
 try done
 refine⟨b,_,rfl,.inr M,?_⟩
 try done
 refine Eb M ?_
 try done
 refine⟨_,rfl,?_⟩
 try done
 refine⟨_,rfl,?_⟩
 have Y:=Wf q
 try done
 rw [if_pos (show(1:Int)<=(q.den:Int)by omega)]
 refine⟨_,_,rfl,?_⟩
 try done
 rw [decide_eq_true (Ahd q)]
 exact k H (Same.refl _)
def Eh (K:Frag):Sp:=fun vs H Q _=>∃(a:Addr) (es:List (V × Rat)) (m:Nat),vs=[.ref a,.int (m:Nat)]/\Ql K H a es/\es.length=m/\m<=100/\∀H',Same H H'->Q (.bl true) H'
theorem all_true:∀n:Nat,(replicate n true).all id=true
 | 0=>rfl
 | n+1=>by
   rw [replicate_succ,all_cons,all_true n]
   rfl
theorem K9 {f:Addr}{fd:FuncData} (F:Df K mg "are_fractions" En ["thing","length"] f fd) (y:mg "all"=none)  (q:Cal P w K mg base 33 "is_list_of" ["thing","fewest","most"] (Ep K)) (d:Cal P w K mg base 34 "is_fraction" ["thing"] (Jb K)):Cal P w K mg base 35 "are_fractions" ["thing","length"] (Eh K):=by
 refine F.cal (F.fn.ok Ld (fun M H Q E h=> ?_) (fun O A outer s H M Q E L h=> ?_))
 . obtain⟨a,es,m,rfl,_⟩:=h
   rfl
 obtain⟨a,es,m,rfl,G,el,U,k⟩:=h
 refine Ax ⟨_,(Af (Aj (Di (Ai q L (Aa (Ac 0) (Aa (Ac 1) (Aa (Ac 1) Ab)))) (Dn (Ar (Fl rfl) rfl y boot_all (Aa (Bf (ts:=["entry"]) (fs:=[]) rfl (Bb.of (sc:=Ak En) (N:=["thing","length"]) rfl rfl (by decide+kernel)) (Bj (Ac 0)) (fun _ _ _=>(Ah 0 (show Nodup (["entry"]:List Str)by decide+kernel))) (fun _ _ _=>Az) (fun _ _ _=>(Ai d L (Aa (Ac 0) Ab)))) Ab)))))),?_⟩
 done
 refine⟨a,_,m,m,rfl,G.it,by rw [length_map];omega,by rw [length_map];omega,?_⟩
 try done
 refine⟨⟨_,.of G.it⟩,fun W I=>Gs (es:=es) (inj:=(·.1)) (fun _=> .bl true) (by rw [el];exact le_trans U (by decide)) I (Ec (.of G.it)) ?_ ?_⟩
 . intro e H2 R Y J Z
   done
   exact⟨_,e.2,rfl,(G.al e Y).mono J,fun H3 s3=>Z _ s3⟩
 intro H2 J h2
 have em:es.map (fun _=>V.bl true)=(replicate es.length true).map V.bl:=by rw [map_const',map_replicate]
 rw [em]at h2
 refine⟨W,_,rfl,.of h2,?_⟩
 rw [all_true]
 exact k H2 J
theorem Ahe (p q:Rat):divInt (p.num*(q.den:Int)-q.num*(p.den:Int)) ((p.den:Int)*(q.den:Int))=p-q:=by
 rw [divInt_eq_div,Rat.intCast_sub,intCast_mul,intCast_mul,intCast_mul]
 have h1:(((p.den:Nat):Int):Rat)≠0:=by exact_mod_cast Iv p
 have h2:(((q.den:Nat):Int):Rat)≠0:=by exact_mod_cast Iv q
 have d:=divInt_eq_div p.num (p.den:Int)
 have y:=divInt_eq_div q.num (q.den:Int)
 rw [Rat.num_divInt_den]at d y
 have F:(p.num:Rat)=p*(((p.den:Nat):Int):Rat):=by grind
 have G:(q.num:Rat)=q*(((q.den:Nat):Int):Rat):=by grind
 rw [F,G]
 grind
def Vz (K:Frag):Sp:=fun vs H Q _=>∃(x y:V) (p q:Rat) (n m:Nat),vs=[x,y]/\IsQ K H x p/\IsQ K H y q/\Szq n p/\Szq m q/\n+m<=134217728/\∀z H',Same H H'->IsQ K H' z (p-q)->Q z H'
theorem Aao {f:Addr}{fd:FuncData} (F:Df K mg "minus" Uh ["one","other"] f fd)   (d:Cal P w K mg base 34 "fraction" ["top","bottom"] (Ge K)):Cal P w K mg base 35 "minus" ["one","other"] (Vz K):=by
 refine F.cal (F.fn.ok Aa3 (fun O H Q E h=> ?_) (fun U A outer s H O Q E W h=> ?_))
 . obtain⟨x,y,p,q,n,m,rfl,_⟩:=h
   rfl
 obtain⟨x,y,p,q,n,m,rfl,Y,Z,G,I,M,k⟩:=h
 obtain⟨a,rfl,J⟩:=Y
 obtain⟨b,rfl,L⟩:=Z
 refine Ax ⟨_,(Af (Aj (Ai d W (Aa (Ao M4 (Ao Dg (Al Br (Ac 0) Ad (fun _ _=>rfl)) (Al Br (Ac 1) Ad (fun _ _=>rfl))) (Ao Dg (Al Br (Ac 1) Ad (fun _ _=>rfl)) (Al Br (Ac 0) Ad (fun _ _=>rfl)))) (Aa (Ao Dg (Al Br (Ac 0) Ad (fun _ _=>rfl)) (Al Br (Ac 1) Ad (fun _ _=>rfl))) Ab))))),?_⟩
 done
 refine Cd J (at0 _ _) (Cd L (at1 _ _ _) ?_)
 try done
 refine⟨G.1.mulOk I.2 M,Cd L (at0 _ _) (Cd J (at1 _ _ _) ?_)⟩
 try done
 refine⟨I.1.mulOk G.2 (by omega),Cd J (at1 _ _ _) (Cd L (at1 _ _ _) ?_)⟩
 try done
 refine⟨G.2.mulOk I.2 M,_,_,rfl,Int.mul_ne_zero (Iv p) (Iv q),fun z H' s' h'=>k z H' s' ?_⟩
 rw [Ahe]at h'
 exact h'
def K3 (K:Frag):Sp:=fun vs H Q _=>∃(a:Addr) (rs:List Qr) (m l:Nat),vs=[.ref a,.int (m:Nat),.int (l:Nat)]/\Qm K H a rs/\rs.length=m/\m<=6/\l<=6/\(∀r∈rs,r.2.length=l)/\∀H',Same H H'->Q (.bl true) H'
theorem Ri {f:Addr}{fd:FuncData} (F:Df K mg "are_lists" Hf ["thing","many","length"] f fd) (y:mg "all"=none)  (q:Cal P w K mg base 33 "is_list_of" ["thing","fewest","most"] (Ep K)) (d:Cal P w K mg base 35 "are_fractions" ["thing","length"] (Eh K)):Cal P w K mg base 36 "are_lists" ["thing","many","length"] (K3 K):=by
 refine F.cal (F.fn.ok Rx (fun U H Q E h=> ?_) (fun W A outer s H U Q E M h=> ?_))
 . obtain⟨a,G,m,l,rfl,_⟩:=h
   rfl
 obtain⟨a,G,m,l,rfl,I,el,Y,l6,Z,k⟩:=h
 refine Ax ⟨_,(Af (Aj (Di (Ai q M (Aa (Ac 0) (Aa (Ac 1) (Aa (Ac 1) Ab)))) (Dn (Ar (Fl rfl) rfl y boot_all (Aa (Bf (ts:=["one"]) (fs:=[(2,"length")]) rfl (Bb.of (sc:=Ak Hf) (N:=["thing","many","length"]) rfl rfl (by decide+kernel)) (Bj (Ac 0)) (fun _ _ _=>(Ah 0 (show Nodup (["one","length"]:List Str)by decide+kernel))) (fun _ _ _=>Az) (fun _ _ _=>(Ai d M (Aa (Ac 0) (Aa (Ac 1) Ab))))) Ab)))))),?_⟩
 done
 refine⟨a,_,m,m,rfl,I.it,by rw [length_map];omega,by rw [length_map];omega,?_⟩
 try done
 refine⟨⟨_,.of I.it⟩,fun p1 J=>Gs (es:=G) (inj:=fun r=>V.ref r.1) (fun _=> .bl true) (by rw [el];exact le_trans Y (by decide)) J (Ec (.of I.it)) ?_ ?_⟩
 . intro e H2 R O L hR
   done
   exact⟨_,e.2,l,rfl,(I.al e O).mono L,Z e O,by omega,fun H3 s3=>hR _ s3⟩
 intro H2 L h2
 have em:G.map (fun _=>V.bl true)=(replicate G.length true).map V.bl:=by rw [map_const',map_replicate]
 rw [em]at h2
 refine⟨p1,_,rfl,.of h2,?_⟩
 rw [all_true]
 exact k H2 L
def Hl (K:Frag):Sp:=fun vs H Q _=>∃(a:Addr) (rs:List Qr) (u:Nat),vs=[.ref a]/\Qm K H a rs/\1<=rs.length/\rs.length<=6/\u<=7/\(∀r∈rs,r.2.length=u)/\∀z cs H',Same H H'->Qm K H' z cs->cs.length=u->(∀(j:Nat) c,cs[j]? =some c->qv c.2=(rs.map fun r=>qv r.2).map (qf · j))->Q (.ref z) H'
theorem Pu {f:Addr}{fd:FuncData} (F:Df K mg "columns_of" Fe ["rows"] f fd) (y:mg "range"=none) (L:mg "len"=none)   :Cal P w K mg base 33 "columns_of" ["rows"] (Hl K):=by
 refine F.cal (F.fn.ok Qg (fun vs H Q E h=> ?_) (fun a1 A outer s H vs Q E hr h=> ?_))
 . obtain⟨a,I,u,rfl,_⟩:=h
   rfl
 obtain⟨a,I,u,rfl,ha,r1,r6,u7,rl,k⟩:=h
 refine Ax ⟨_,(Af (Aj (Tc (ts:=["place"]) (fs:=[(0,"rows")]) rfl (Jd.of (sc:=Ak Fe) (N:=["rows"]) rfl rfl (by decide+kernel)) (Cj rfl y (Aa (Ar Aw rfl L PySem.boot_len (Aa (Al Bp (Ac 0) Ad (fun _ _=>rfl)) Ab)) Ab)) (fun _ _ _=>(Ah 0 (show Nodup (["place","rows"]:List Str)by decide+kernel))) (fun _ _ _=>Az) (fun _ _ _=>(Bf (ts:=["row"]) (fs:=[(0,"place")]) rfl (Bb.inD (sc:=Ak Fe) rfl (by decide+kernel)) (Td K rfl (Ac 1)) (fun _ _ _=>(Ah 0 (show Nodup (["row","place"]:List Str)by decide+kernel))) (fun _ _ _=>Az) (fun _ _ _=>(Al (Dw K) (Ac 0) (Ac 1) (fun _ _=>rfl)))))))),?_⟩
 done
 obtain⟨O,U⟩:∃O,I[0]? =some O:=⟨_,getElem?_eq_getElem (by omega)⟩
 have W:=List.mem_of_getElem? U
 refine Cq (.of ha.it) (v:= .ref O.1) (Ba (j:=0) (by rw [getElem?_map,U];rfl)) ?_
 refine⟨O.1,_,rfl,.inl (.of (ha.al O W).it),?_⟩
 rw [length_map,rl O W]
 refine⟨by omega,by omega,fun p Y=> ?_⟩
 rw [toNat_natCast]
 refine Mi (es:=List.range u) (inj:=fun i=> .int (0+(i:Nat))) (fun i d H'=>∃bs:List Qr,d=bs.map (fun r=>V.ref r.1)/\Bli K H H' p (List.range u) (fun j q=>q=(I.map fun r=>qv r.2).map (qf · j)) i bs) (by rw [length_range];exact le_trans u7 (by decide)) ⟨[],rfl,Same.upd Y _,Ag,rfl,by simp⟩ ?_ ?_ ?_ ?_
 . rintro i d H' ⟨bs,rfl,G⟩
   exact⟨by rw [length_map];exact G.ln,G.it⟩
 . rintro i d H' _
   exact G5
 . rintro i j d H1 R ej ⟨bs,rfl,G⟩ hR
   have il:i<u:=by simpa using(List.getElem?_eq_some_iff.mp ej).1
   have e1:i=j:=by
    rw [getElem?_range il]at ej
    exact Option.some.inj ej
   subst e1
   rw [zero_add]
   done
   have M:=ha.mono G.sm
   refine⟨⟨_,.of M.it⟩,fun q hq=>Jf (es:=I) (inj:=fun r=>V.ref r.1) (fun r v H=>IsQ K H v (qf (qv r.2) i)) (le_trans r6 (by decide)) hq (Ec (.of M.it)) (fun e v H H' h s=>h.mono s) (fun e v H d o h Y=>h.put Y) ?_ ?_⟩
   . intro r H3 R J Z hR
     done
     have g3:=(M.al r J).mono Z
     obtain⟨e,ee⟩:∃e,r.2[i]? =some e:=⟨_,getElem?_eq_getElem (by rw [rl r J];exact il)⟩
     refine Cq (.of g3.it) (v:=e.1) (Ba (by rw [getElem?_map,ee];rfl)) ?_
     exact hR _ _ (Same.refl _) (by rw [Gu ee];exact g3.al e (List.mem_of_getElem? ee))
   intro ns H3 nl a0 Z h3
   obtain⟨q1,q2⟩:=Rv (K:=K) (f:=fun r:Qr=>qf (qv r.2) i) h3 nl a0
   have eq:qv (ns.zip (I.map fun r:Qr=>qf (qv r.2) i))=(I.map fun r=>qv r.2).map (qf · i):=by rw [q2,map_map];rfl
   exact hR _ _ (Z _ _ G.it) ⟨bs++ [(q,ns.zip (I.map fun r:Qr=>qf (qv r.2) i))],by rw [map_append];rfl,G.snoc (x:=(q,ns.zip (I.map fun r:Qr=>qf (qv r.2) i))) Y Z hq q1 (getElem?_range il) eq⟩
 rintro d H1 ⟨bs,rfl,G⟩
 have bn:bs.length=u:=by
  have:=G.ln
  rw [length_range]at this
  exact this
 have ba:∀(k:Nat) r,bs[k]? =some r->Ql K H1 r.1 r.2/\qv r.2=(I.map fun r=>qv r.2).map (qf · k):=fun k r hk=>(G.al k r k hk (getElem?_range (by have:=(List.getElem?_eq_some_iff.mp hk).1;omega))).2
 refine k p bs H1 G.sm ⟨G.it,fun r J=> ?_⟩ bn fun j c hc=>(ba j c hc).2
 obtain⟨j,hj⟩:=getElem?_of_mem J
 exact(ba j r hj).1
theorem Afs {B C:Int}{r es:List (V × Rat)}{m:Nat} (F:r.length=m) (G:es.length=m) (dr:∀e∈r,(e.2.den:Int)∣B) (I:∀e∈es,(e.2.den:Int)∣C):
 ((((List.range m).map fun j=>Hs B (qf (qv r) j)*Hs C (qf (qv es) j)).sum:Int):Rat)=(B:Rat)*(C:Rat)*dq (qv r) (qv es):=by
 rw [Wg (l:=qv r) (z:=qv es) (u:=m) (by rw [length_map];exact F) (by rw [length_map];exact G)]
 have d:∀u,u<=m->((((List.range u).map fun j=>Hs B (qf (qv r) j)*Hs C (qf (qv es) j)).sum:Int):Rat)=(B:Rat)*(C:Rat)*Mp (qf (qv r)) (qf (qv es)) u:=fun u=>by
  induction u with
  | zero=>
    intro _
    show(((0:Int)):Rat)=(B:Rat)*(C:Rat)*0
    rw [Rat.mul_zero]
    rfl
  | succ u J=>
    intro L
    obtain⟨x,ex⟩:∃x,r[u]? =some x:=⟨_,getElem?_eq_getElem (by omega)⟩
    obtain⟨y,q⟩:∃y,es[u]? =some y:=⟨_,getElem?_eq_getElem (by omega)⟩
    rw [range_succ,map_append,List.sum_append,Rat.intCast_add,J (by omega)]
    show _+((((Hs B (qf (qv r) u)*Hs C (qf (qv es) u))+0:Int)):Rat)=(B:Rat)*(C:Rat)*(Mp _ _ u+qf (qv r) u*qf (qv es) u)
    rw [Int.add_zero,intCast_mul,Gu ex,Gu q,Nv (dr x (List.mem_of_getElem? ex)),Nv (I y (List.mem_of_getElem? q))]
    grind
 exact d m (le_refl _)
theorem Uu {n:Nat}{b:Int}{q:Rat} (G:0<b) (d:Sz (n*10+1) b) (y:Szq n q):Sz (n*11+1) (Hs b q):=by
 have F:Sz (n*10+1) (b/(q.den:Int)):=d.of_abs (by
  have h1:b/(q.den:Int)<=b:=Int.ediv_le_self _ (by omega)
  have h2:0<=b/(q.den:Int):=Int.ediv_nonneg (by omega) (by omega)
  omega)
 exact(y.1.mul F).mono (by omega)
def G4 (K:Frag):Sp:=fun vs H Q _=>∃(la sa wa:Addr) (rs:List Qr) (es ws:List (V × Rat)) (m n:Nat),vs=[.ref la,.ref sa,.ref wa]/\Qm K H la rs/\Ql K H sa es/\Ql K H wa ws/\ws.length=rs.length/\rs.length<=7/\es.length=m/\m<=6/\(∀r∈rs,r.2.length=m/\∀e∈r.2,Szq n e.2)/\(∀e∈es,Szq n e.2)/\(∀e∈ws,Szq n e.2)/\n<=2600000/\(∀(k:Nat) r w,rs[k]? =some r->ws[k]? =some w->dq (qv r.2) (qv es)=w.2)/\∀H',Same H H'->Q (.bl true) H'
theorem Wq {f:Addr}{fd:FuncData} (F:Df K mg "come_to" Jx ["lists","some","wanted"] f fd) (J:mg "zip"=none) (M:mg "sum"=none)  (d:Cal P w K mg base 33 "over_one_bottom" ["some"] (Er K)):Cal P w K mg base 34 "come_to" ["lists","some","wanted"] (G4 K):=by
 refine F.cal (F.fn.ok Fw (fun vs H Q E h=> ?_) (fun a7 A outer s H vs Q E hr h=> ?_))
 . obtain⟨la,sa,wa,rs,es,ws,m,n,rfl,_⟩:=h
   rfl
 obtain⟨la,sa,wa,rs,es,ws,m,n,rfl,hl,hs,hw,wl,r7,el,m6,zr,zs,zw,hn,eq,k⟩:=h
 refine Ax ⟨_,(Ae (Cp (Ai d hr (Aa (Ac 1) Ab)) (Ci rfl (Am (Ah 3 Fw.nd) (Am (Ah 4 Fw.nd) Bm))))
  (Ae (Bu PassesOwn.never rfl (Cr false false rfl J (Aa (Ac 0) (Aa (Ac 2) Ab))) (Ci rfl (Am (Ah 5 Fw.nd) (Am (Ah 6 Fw.nd) Bm))) (Ae (Bc 7 Fw.nd (Al Br (Ai d hr (Aa (Ao Oj (Ac 5) (Bt (Aa (Ac 6) Ab))) Ab)) Ad (fun _ _=>rfl)))
  (Af (Ay (Aq Rp (Ar (Xo rfl) rfl M boot_sum (Aa (Bf (ts:=["weight","factor"]) (fs:=[]) rfl (Bb.of (sc:=Ak Jx) (N:=["lists","some","wanted","factors","scale","one","sought","weights"]) rfl rfl (by decide+kernel)) (Cr false false rfl J (Aa (Ac 7) (Aa (Ac 3) Ab))) (fun _ _ _=>(Es K 2 rfl rfl (Am (Ah 0 (show Nodup (["weight","factor"]:List Str)by decide+kernel)) (Am (Ah 1 (show Nodup (["weight","factor"]:List Str)by decide+kernel)) Bm)))) (fun _ _ _=>Az) (fun _ _ _=>(Ao Dg (Ac 0) (Ac 1)))) Ab)) (Ao Dg (Al Bp (Ac 7) (O6 Zv Ad) (fun _ _=>rfl)) (Ac 4)) (Bl _)) (Af (Aj Bk)) Av))))
  (Af (Aj Bk)))),?_⟩
 done
 refine⟨sa,es,n,rfl,hs.it,fun e he=>⟨hs.al e he,zs e he⟩,by omega,by omega,fun z fa I H1 s1 hz hf p0 zc dv=> ?_⟩
 refine Eb (.of hz) ?_
 try done
 have O:=hl.mono s1
 have U:=hw.mono s1
 refine⟨la,wa,rfl,⟨_,show SqL K H1 la _ from .of O.it⟩,⟨_,show SqL K H1 wa _ from .of U.it⟩,Jh (xs:=rs.map fun r=>V.ref r.1) (ys:=ws.map (·.1)) rs.length (by rw [length_map,length_map];omega) (fun i L H'=>∃o5 o6 o7:Option V,L=[some (.ref la),some (.ref sa),some (.ref wa),some (.ref fa),some (.int I),o5,o6,o7]/\Same H1 H') ⟨_,_,_,rfl,Same.refl _⟩ ?_ ?_ ?_⟩
 . rintro i L H' ⟨o5,o6,o7,rfl,Y⟩
   exact⟨show SqL K H' la _ from .of (Y _ _ O.it),show SqL K H' wa _ from .of (Y _ _ U.it)⟩
 . rintro i L H2 c hi ⟨o5,o6,o7,rfl,Y⟩ hc
   obtain⟨r,er⟩:∃r,rs[i]? =some r:=⟨_,getElem?_eq_getElem hi⟩
   obtain⟨G,ew⟩:∃w,ws[i]? =some w:=⟨_,getElem?_eq_getElem (by omega)⟩
   have rm:=List.mem_of_getElem? er
   have wm:=List.mem_of_getElem? ew
   obtain⟨rN,rz⟩:=zr r rm
   have a4:(rs.map fun r=>V.ref r.1).getD i .non= .ref r.1:=by rw [getD_eq_getElem?_getD,getElem?_map,er];rfl
   rw [a4,Aes ew]
   have sb:=Same.upd hc (.tup [.ref r.1,G.1])
   refine Eb (.of Ag) ?_
   generalize upd H2 c (.tup [.ref r.1,G.1])=H3 at sb
   have s3:=Y.trans sb
   have gr:=(O.al r rm).mono s3
   done
   intro l1 a0
   have t1:=Same.upd a0 (.lst [G.1])
   refine⟨r.1,l1,_,_,rfl,rfl,t1 _ _ gr.it,Ag,by rw [length_map];exact le_trans (show r.2.length+1<=7 by omega) (by decide),fun l2 a5=> ?_⟩
   have t2:=Same.upd a5 (.lst (r.2.map (·.1)++ [G.1]))
   have a1:upd (upd H3 l1 (.lst [G.1])) l2 (.lst (r.2.map (·.1)++ [G.1])) l2=some (.lst ((r.2++ [G]).map (·.1))):=by rw [Ag,map_append];rfl
   have s4:=t1.trans t2
   generalize upd (upd H3 l1 (.lst [G.1])) l2 (.lst (r.2.map (·.1)++ [G.1]))=H4 at s4 a1
   have nl:(r.2++ [G]).length=m+1:=by rw [length_append,rN];rfl
   refine⟨l2,r.2++ [G],n,rfl,a1,fun x Z=> ?_,by omega,by omega,fun z2 wt B H5 s5 a6 W B0 zB dB=> ?_⟩
   . rcases mem_append.mp Z with Z | Z
     . exact⟨(gr.al x Z).mono s4,rz x Z⟩
     . have e1:x=G:=by simpa using Z
       rw [e1]
       exact⟨(U.al G wm).mono (s3.trans s4),zw G wm⟩
   refine Cd (.of a6) (at0 _ _) ?_
   have a2:=s3.trans (s4.trans s5)
   have a3:=a2 _ _ hf
   refine⟨wt,fa,rfl,⟨_,show SqL K H5 wt _ from .of W⟩,⟨_,show SqL K H5 fa _ from .of a3⟩,fun q hq=> ?_⟩
   refine Jp (xs:=(r.2++ [G]).map fun e=>V.int (Hs B e.2)) (ys:=es.map fun e=>V.int (Hs I e.2)) m (by rw [length_map,length_map,nl,el];omega) (fun j=>V.int (Hs B (qf (qv r.2) j)*Hs I (qf (qv es) j))) (le_trans m6 (by decide)) hq (fun H' s'=>show SqL K H' wt _ from .of (s' _ _ W)) (fun H' s'=>show SqL K H' fa _ from .of (s' _ _ a3)) ?_ ?_
   . intro j H6 b6 R hj s6 h6 hR
     obtain⟨x,ex⟩:∃x,r.2[j]? =some x:=⟨_,getElem?_eq_getElem (by omega)⟩
     obtain⟨y,ey⟩:∃y,es[j]? =some y:=⟨_,getElem?_eq_getElem (by omega)⟩
     have g1:((r.2++ [G]).map fun e=>V.int (Hs B e.2)).getD j .non= .int (Hs B x.2):=by rw [getD_eq_getElem?_getD,getElem?_map,getElem?_append_left (by omega),ex];rfl
     have g2:(es.map fun e=>V.int (Hs I e.2)).getD j .non= .int (Hs I y.2):=by rw [getD_eq_getElem?_getD,getElem?_map,ey];rfl
     rw [g1,g2]at h6
     refine Eb (.of h6) ?_
     rw [Gu ex,Gu ey]at hR
     done
     exact⟨(Uu B0 zB (rz x (List.mem_of_getElem? ex))).mulOk (Uu p0 zc (zs y (List.mem_of_getElem? ey))) (by omega),hR _ (Same.refl _)⟩
   intro H6 s6 h6
   have em:(List.range m).map (fun j=>V.int (Hs B (qf (qv r.2) j)*Hs I (qf (qv es) j)))=((List.range m).map fun j=>Hs B (qf (qv r.2) j)*Hs I (qf (qv es) j)).map V.int:=by rw [map_map];rfl
   rw [em]at h6
   refine⟨q,_,rfl,.of h6,?_⟩
   have lv:atI ((r.2++ [G]).map fun e=>V.int (Hs B e.2)) (-1)=some (.int (Hs B G.2)):=by rw [map_append];exact Z9 _ _
   refine Cq (.of (s6 _ _ W)) (v:= .int (Hs B G.2)) lv ?_
   have ee:((List.range m).map fun j=>Hs B (qf (qv r.2) j)*Hs I (qf (qv es) j)).sum=Hs B G.2*I:=by
    have h1:=Afs (B:=B) (C:=I) rN el (fun e he=>dB e (mem_append_left _ he)) dv
    rw [eq i r G er ew]at h1
    have h2:=Nv (dB G (by simp))
    have h3:((((List.range m).map fun j=>Hs B (qf (qv r.2) j)*Hs I (qf (qv es) j)).sum:Int):Rat)=((Hs B G.2*I:Int):Rat):=by
     rw [h1,intCast_mul,h2]
     grind
    exact_mod_cast h3
   rw [ee]
   try done
   refine⟨(Uu B0 zB (zw G wm)).mulOk zc (by omega),?_⟩
   exact⟨_,_,_,rfl,a2.trans s6⟩
 . rintro L H2 ⟨o5,o6,o7,rfl,Y⟩
   done
   exact k H2 (s1.trans Y)
def Oz (K:Frag):Sp:=fun vs H Q _=>∃(ra oa fa:Addr) (rs:List Qr) (es:List (V × Rat)) (fr:List Nat) (h u n:Nat),vs=[.ref ra,.ref oa,.ref fa,.int (h:Nat)]/\Qm K H ra rs/\Ql K H oa es/\H fa=some (.lst (nats fr))/\rs.length<=6/\es.length=u/\u<=6/\fr.length<=6/\(∀r∈rs,r.2.length=u/\∀e∈r.2,Szq n e.2)/\(∀e∈es,Szq n e.2)/\0<n/\n<=2600000/\(∀f∈fr,f<u/\qf (qv es) f=if f=h then 1 else 0)/\(∀r∈rs,dq (qv r.2) (qv es)=0)/\∀H',Same H H'->Q (.bl true) H'
theorem any_false:∀n:Nat,(replicate n false).any id=false
 | 0=>rfl
 | n+1=>by
   rw [replicate_succ,any_cons,any_false n]
   rfl
theorem Ws {f:Addr}{fd:FuncData} (F:Df K mg "is_base" Jy ["rows","one","free","here"] f fd) (J:mg "any"=none) (L:mg "len"=none) (d:mg "NOUGHT"=some (.ref (cA K "NOUGHT"))) (q:Tf K (cA K "NOUGHT") [.int 0,.int 1]) (G:mg "ONE"=some (.ref (cA K "ONE"))) (I:Tf K (cA K "ONE") [.int 1,.int 1]) (y:Cal P w K mg base 34 "come_to" ["lists","some","wanted"] (G4 K)):Cal P w K mg base 35 "is_base" ["rows","one","free","here"] (Oz K):=by
 refine F.cal (F.fn.ok W2 (fun vs H Q E h=> ?_) (fun a3 A outer s H vs Q E hr h=> ?_))
 . obtain⟨Y,oa,fa,O,es,fr,h,u,n,rfl,_⟩:=h
   rfl
 obtain⟨Y,oa,fa,O,es,fr,h,u,n,rfl,hm,ho,hf,r6,el,u6,f6,zr,zs,n0,hn,ef,ez,k⟩:=h
 refine Ax ⟨_,(Ae (Ay (Bd (Ar (Uy rfl) rfl J boot_any (Aa (Bf (ts:=["place"]) (fs:=[(1,"one"),(3,"here")]) rfl (Bb.of (sc:=Ak Jy) (N:=["rows","one","free","here"]) rfl rfl (by decide+kernel)) (Bj (Ac 2)) (fun _ _ _=>(Ah 0 (show Nodup (["place","one","here"]:List Str)by decide+kernel))) (fun _ _ _=>Az) (fun _ _ _=>(Bx (Qa K hr.units) (Al (Dw K) (Ac 1) (Ac 0) (fun _ _=>rfl)) (Je (Aq Gf (Ac 0) (Ac 2) (Bl _)) (Dj (v:= .ref (cA K "ONE")) rfl G rfl) (Dj (v:= .ref (cA K "NOUGHT")) rfl d rfl)) (Bl _)))) Ab))) (Af (Aj Bk)) Av)
  (Af (Aj (Ai y hr (Aa (Ac 0) (Aa (Ac 1) (Aa (Ao Ol (Bt (Aa (Dj (v:= .ref (cA K "NOUGHT")) rfl d rfl) Ab)) (Ar Aw rfl L PySem.boot_len (Aa (Ac 0) Ab))) Ab))))))),?_⟩
 done
 refine⟨⟨_,.of hf⟩,fun p1 Z=>Gs (es:=fr) (inj:=fun c:Nat=>V.int (c:Nat)) (fun _=> .bl false) (le_trans f6 (by decide)) Z (Ec (.of hf)) ?_ ?_⟩
 . intro c H2 R hc W hR
   obtain⟨cu,U⟩:=ef c hc
   have g2:=ho.mono W
   obtain⟨e,ee⟩:∃e,es[c]? =some e:=⟨_,getElem?_eq_getElem (by omega)⟩
   rw [Gu ee]at U
   done
   refine Cq (.of g2.it) (v:=e.1) (Ba (by rw [getElem?_map,ee];rfl)) ?_
   have ie:=g2.al e (List.mem_of_getElem? ee)
   by_cases M:c=h
   . rw [if_pos (by rw [M])]
     rw [if_pos M]at U
     refine Mq ie (Ag4 I) ?_
     rw [decide_eq_true U]
     exact hR _ (Same.refl _)
   . rw [if_neg (by omega)]
     rw [if_neg M]at U
     refine Mq ie (Acu q) ?_
     rw [decide_eq_true U]
     exact hR _ (Same.refl _)
 intro H2 W h2
 have em:fr.map (fun _=>V.bl false)=(replicate fr.length false).map V.bl:=by rw [map_const',map_replicate]
 rw [em]at h2
 refine⟨p1,_,rfl,.of h2,?_⟩
 rw [any_false]
 try done
 intro p2 a0
 have t3:=Same.upd a0 (.lst [.ref (cA K "NOUGHT")])
 have a1:=hm.mono (W.trans t3)
 refine⟨Y,_,rfl,.inl (.of a1.it),?_⟩
 rw [length_map]
 refine⟨p2,_,_,rfl,rfl,Ag,by omega,by omega,by rw [length_singleton,toNat_natCast];exact le_trans (show 1*O.length<=6 by omega) (by decide),fun p3 a2=> ?_⟩
 rw [toNat_natCast,flatten_replicate_singleton]
 have t4:=Same.upd a2 (.lst (replicate O.length (V.ref (cA K "NOUGHT"))))
 have s4:=W.trans (t3.trans t4)
 refine⟨Y,oa,p3,O,es,replicate O.length (V.ref (cA K "NOUGHT"),(0:Rat)),u,n,rfl,hm.mono s4,ho.mono s4,⟨by rw [Ag,map_replicate],fun e he=>by rw [eq_of_mem_replicate he];exact Acu q⟩,length_replicate,by omega,el,u6,zr,zs,fun e he=>by rw [eq_of_mem_replicate he];exact Abb n0,hn,fun j r w er ew=> ?_,fun H5 s5=>k H5 (s4.trans s5)⟩
 rw [ez r (List.mem_of_getElem? er),eq_of_mem_replicate (List.mem_of_getElem? ew)]
def K5 (K:Frag):Sp:=fun vs H Q _=>∃(fa:Addr) (fr:List Nat) (u:Nat),vs=[.ref fa,.int (u:Nat)]/\H fa=some (.lst (nats fr))/\fr.length<=u/\u<=6/\(∀f∈fr,f<u)/\fr.Pairwise (· < ·)/\∀H',Same H H'->Q (.bl true) H'
theorem Gz {fr:List Nat}{i c:Nat} (h:fr[i]? =some c):(nats fr).getD i .non= .int (c:Nat):=by
 rw [getD_eq_getElem?_getD,G8 h]
 rfl
theorem Rk {f:Addr}{fd:FuncData} (F:Df K mg "is_choice" Gb ["free","unknowns"] f fd) (I:mg "all"=none) (J:mg "zip"=none)  (d:Cal P w K mg base 33 "is_list_of" ["thing","fewest","most"] (Ep K)) (G:Cal P w K mg base 33 "is_whole" ["thing"] (Jl K)):Cal P w K mg base 34 "is_choice" ["free","unknowns"] (K5 K):=by
 refine F.cal (F.fn.ok R0 (fun vs H Q E h=> ?_) (fun a4 A outer s H vs Q E hr h=> ?_))
 . obtain⟨M,fr,u,rfl,_⟩:=h
   rfl
 obtain⟨M,fr,u,rfl,Y,fl,u6,fu,Z,k⟩:=h
 have nl:(nats fr).length=fr.length:=length_map _
 refine Ax ⟨_,(Ae (Ay (Bh (Bd (Ai d hr (Aa (Ac 0) (Aa Ad (Aa (Ac 1) Ab)))))) (Af (Aj Bk)) Av)
  (Ae (Ay (Bh (Bd (Ar (Fl rfl) rfl I boot_all (Aa (Bf (ts:=["place"]) (fs:=[(1,"unknowns")]) rfl (Bb.of (sc:=Ak Gb) (N:=["free","unknowns"]) rfl rfl (by decide+kernel)) (Bj (Ac 0)) (fun _ _ _=>(Ah 0 (show Nodup (["place","unknowns"]:List Str)by decide+kernel))) (fun _ _ _=>Az) (fun _ _ _=>(Di (Ai G hr (Aa (Ac 0) Ab)) (Di (Bx Ac1 (Ac 0) Ad (Bl _)) (Dn (Bx Yv (Ac 0) (Ac 1) (Bl _))))))) Ab)))) (Af (Aj Bk)) Av)
  (Af (Aj (Ar (Fl rfl) rfl I boot_all (Aa (Bf (ts:=["one","other"]) (fs:=[]) rfl (Bb.of (sc:=Ak Gb) (N:=["free","unknowns"]) rfl rfl (by decide+kernel)) (Cr false false rfl J (Aa (Ac 0) (Aa (Dp Nm (Ac 0) (Ek Ad) Ej) Ab))) (fun _ _ _=>(Es K 2 rfl rfl (Am (Ah 0 (show Nodup (["one","other"]:List Str)by decide+kernel)) (Am (Ah 1 (show Nodup (["one","other"]:List Str)by decide+kernel)) Bm)))) (fun _ _ _=>Az) (fun _ _ _=>(Bx Yv (Ac 0) (Ac 1) (Bl _)))) Ab)))))),?_⟩
 done
 refine⟨M,_,0,u,rfl,Y,by omega,by omega,?_⟩
 try done
 refine⟨⟨_,.of Y⟩,fun p1 a0=>Gs (es:=fr) (inj:=fun c:Nat=>V.int (c:Nat)) (fun _=> .bl true) (le_trans (show fr.length<=6 by omega) (by decide)) a0 (Ec (.of Y)) ?_ ?_⟩
 . intro c H2 R hc s2 hR
   have cu:=fu c hc
   done
   refine⟨_,rfl,?_⟩
   try done
   rw [if_pos (show(0:Int)<=(c:Nat)by omega),decide_eq_true (show((c:Nat):Int)<(u:Nat)by omega)]
   exact hR _ (Same.refl _)
 intro H2 s2 h2
 have em:fr.map (fun _=>V.bl true)=(replicate fr.length true).map V.bl:=by rw [map_const',map_replicate]
 rw [em]at h2
 refine⟨p1,_,rfl,.of h2,?_⟩
 rw [all_true]
 try done
 have O:=s2 _ _ Y
 refine W9 (.of O) fun L a1=> ?_
 have cu:Pg (nats fr) (some 1) none=nats (fr.drop 1):=by
  by_cases h0:fr=[]
  . subst h0
    rfl
  . have:1<=fr.length:=by
     cases fr with
     | nil=>exact absurd rfl h0
     | cons a l=>simp
    rw [show(1:Int)=((1:Nat):Int)from rfl,Li (by rw [nl];exact this)]
    exact map_drop.symm
 rw [cu]
 have t3:=Same.upd a1 (.lst (nats (fr.drop 1)))
 have h3:upd H2 L (.lst (nats (fr.drop 1))) L=some (.lst (nats (fr.drop 1))):=Ag
 generalize upd H2 L (.lst (nats (fr.drop 1)))=H3 at t3 h3
 have U:=t3 _ _ O
 refine⟨M,L,rfl,⟨_,show SqL K H3 M _ from .of U⟩,⟨_,show SqL K H3 L _ from .of h3⟩,fun q hq=> ?_⟩
 refine Jp (xs:=nats fr) (ys:=nats (fr.drop 1)) (fr.length-1) (by rw [nl,show(nats (fr.drop 1)).length=fr.length-1 by unfold nats;rw [length_map,length_drop]];omega) (fun _=> .bl true) (le_trans (show fr.length-1<=6 by omega) (by decide)) hq (fun H' s'=>show SqL K H' M _ from .of (s' _ _ U)) (fun H' s'=>show SqL K H' L _ from .of (s' _ _ h3)) ?_ ?_
 . intro j H4 b4 R hj s4 W hR
   obtain⟨x,ex⟩:∃x,fr[j]? =some x:=⟨_,getElem?_eq_getElem (by omega)⟩
   obtain⟨y,ey⟩:∃y,fr[j+1]? =some y:=⟨_,getElem?_eq_getElem (by omega)⟩
   have a2:(fr.drop 1)[j]? =some y:=by rw [getElem?_drop,Nat.add_comm];exact ey
   rw [Gz ex,Gz a2]at W
   refine Eb (.of W) ?_
   have lt:x<y:=by
    have:=pairwise_iff_getElem.mp Z j (j+1) (by omega) (by omega) (lt_succ_self j)
    rw [(List.getElem?_eq_some_iff.mp ex).2,(List.getElem?_eq_some_iff.mp ey).2]at this
    exact this
   done
   rw [decide_eq_true (show((x:Nat):Int)<(y:Nat)by omega)]
   exact hR _ (Same.refl _)
 intro H4 s4 W
 have a3:(List.range (fr.length-1)).map (fun _=>V.bl true)=(replicate (fr.length-1) true).map V.bl:=by rw [map_const',map_replicate,length_range]
 rw [a3]at W
 refine⟨q,_,rfl,.of W,?_⟩
 rw [all_true]
 exact k H4 (s2.trans (t3.trans s4))
theorem Tt:∀l z:List Rat,dq l z=dq z l
 | [],[]=>rfl
 | [],_::_=>rfl
 | _::_,[]=>rfl
 | a::l,b::z=>by
   show a*b+dq l z=b*a+dq z l
   rw [Tt l z]
   grind
theorem Szq.neg {n:Nat}{q:Rat} (h:Szq n q):Szq n (-q):=by
 refine⟨?_,h.2⟩
 have:=h.1
 unfold Sz at this ⊢
 show((-q).num).natAbs<_
 rw [Rat.neg_num,natAbs_neg]
 exact this
def V0 (K:Frag):Sp:=fun vs H Q _=>∃(ra ya fa ba:Addr) (rs:List Qr) (ys:List (V × Rat)) (fr:List Nat) (bs:List Qr) (c u n:Nat),vs=[.ref ra,.ref ya,.ref fa,.ref ba,.int (c:Nat)]/\Qm K H ra rs/\1<=rs.length/\rs.length<=6/\u<=6/\(∀r∈rs,r.2.length=u/\∀e∈r.2,Szq n e.2)/\Ql K H ya ys/\ys.length=rs.length/\(∀e∈ys,Szq n e.2)/\H fa=some (.lst (nats fr))/\fr.Pairwise (· < ·)/\(∀f∈fr,f<u)/\Qm K H ba bs/\bs.length=fr.length/\(∀r∈bs,r.2.length=u/\∀e∈r.2,Szq n e.2)/\c<u/\0<n/\n<=2600000/\
 (∀j,j<u->j∉fr->dq (qv ys) ((rs.map fun r=>qv r.2).map (qf · j))=if j=c then 1 else 0)/\(∀(i:Nat) f g,fr[i]? =some f->bs[i]? =some g->dq (qv ys) ((rs.map fun r=>qv r.2).map (qf · f))= -(qf (qv g.2) c))/\∀H',Same H H'->Q (.bl true) H'
def Agm (bs:List Qr) (k:Nat):List Rat:=(bs.map fun r=>qv r.2).getD k []
theorem O9 {bs:List Qr}{k:Nat}{r:Qr} (h:bs[k]? =some r):Agm bs k=qv r.2:=by
 unfold Agm
 rw [getD_eq_getElem?_getD,getElem?_map,h]
 rfl
theorem Aar {f:Addr}{fd:FuncData} (F:Df K mg "shows" Uk ["rows","ys","free","base","here"] f fd) (Y:mg "zip"=none) (Z:mg "len"=none) (G:mg "NOUGHT"=some (.ref (cA K "NOUGHT"))) (I:Tf K (cA K "NOUGHT") [.int 0,.int 1]) (q:Cal P w K mg base 33 "unit_list" ["length","here"] (Ij K)) (J:Cal P w K mg base 34 "come_to" ["lists","some","wanted"] (G4 K)) (L:Cal P w K mg base 35 "minus" ["one","other"] (Vz K)) (d:Cal P w K mg base 33 "columns_of" ["rows"] (Hl K)):Cal P w K mg base 36 "shows" ["rows","ys","free","base","here"] (V0 K):=by
 refine F.cal (F.fn.ok Lr (fun vs H Q E h=> ?_) (fun ad A outer s H vs Q E hr h=> ?_))
 . obtain⟨ra,ya,fa,ba,rs,ys,fr,bs,c,u,n,rfl,_⟩:=h
   rfl
 obtain⟨ra,ya,fa,ba,rs,ys,fr,bs,c,u,n,rfl,hm,r1,r6,u6,zr,hy,yl,zy,hf,aa,fu,hb,bl,zb,cu,n0,hn,e1,e2,k⟩:=h
 have nl:(nats fr).length=fr.length:=length_map _
 refine Ax ⟨_,(Ae (Bc 5 Lr.nd (Ai q hr (Aa (Ar Aw rfl Z PySem.boot_len (Aa (Al Bp (Ac 0) Ad (fun _ _=>rfl)) Ab)) (Aa (Ac 4) Ab))))
  (Ae (Bu PassesOwn.never rfl (Cr false false rfl Y (Aa (Ac 2) (Aa (Ac 3) Ab))) (Ci rfl (Am (Ah 6 Lr.nd) (Am (Ah 7 Lr.nd) Bm))) (Af (Cp (Ai L hr (Aa (Dj (v:= .ref (cA K "NOUGHT")) rfl G rfl) (Aa (Al Bp (Ac 7) (Ac 4) (fun _ _=>rfl)) Ab))) (Ed (Ac 5) (Ac 6) set_list))))
  (Af (Aj (Ai J hr (Aa (Ai d hr (Aa (Ac 0) Ab)) (Aa (Ac 1) (Aa (Ac 5) Ab)))))))),?_⟩
 done
 obtain⟨r0,a4⟩:∃r0,rs[0]? =some r0:=⟨_,getElem?_eq_getElem (by omega)⟩
 have a5:=List.mem_of_getElem? a4
 refine Cq (.of hm.it) (v:= .ref r0.1) (Ba (j:=0) (by rw [getElem?_map,a4];rfl)) ?_
 try done
 refine⟨r0.1,_,rfl,.inl (.of (hm.al r0 a5).it),?_⟩
 rw [length_map,(zr r0 a5).1]
 refine⟨u,c,rfl,by omega,fun z a0 H1 nz s1 q1 a6=> ?_⟩
 try done
 have ae:(qv a0).length=u:=by rw [a6,length_map,length_range]
 have gf:=s1 _ _ hf
 have gb:=hb.mono s1
 refine⟨fa,ba,rfl,⟨_,show SqL K H1 fa _ from .of gf⟩,⟨_,show SqL K H1 ba _ from .of gb.it⟩,Jh (xs:=nats fr) (ys:=bs.map fun r=>V.ref r.1) fr.length (by rw [nl,length_map];omega) (fun i O H'=>∃o6 o7:Option V,O=[some (.ref ra),some (.ref ya),some (.ref fa),some (.ref ba),some (.int (c:Nat)),some (.ref z),o6,o7]/\Bsi K H H' z (qv a0) (fun k=> -(qf (Agm bs k) c)) fr i) ⟨_,_,rfl,s1,a0,q1,Sti.start _ _ _⟩ ?_ ?_ ?_⟩
 . rintro i O H' ⟨o6,o7,rfl,M⟩
   exact⟨show SqL K H' fa _ from .of (M.sm _ _ hf),show SqL K H' ba _ from .of (M.sm _ _ hb.it)⟩
 . rintro i O H2 b hi ⟨o6,o7,rfl,M⟩ ac
   obtain⟨es,ql,st⟩:=M.ex
   obtain⟨x,ex⟩:∃x,fr[i]? =some x:=⟨_,getElem?_eq_getElem hi⟩
   obtain⟨r,U⟩:∃r,bs[i]? =some r:=⟨_,getElem?_eq_getElem (by omega)⟩
   have rm:=List.mem_of_getElem? U
   have v2:(bs.map fun r=>V.ref r.1).getD i .non= .ref r.1:=by rw [getD_eq_getElem?_getD,getElem?_map,U];rfl
   rw [Gz ex,v2]
   have sb:=Same.upd ac (.tup [.int (x:Nat),.ref r.1])
   refine Eb (.of Ag) ?_
   generalize upd H2 b (.tup [V.int (x:Nat),.ref r.1])=H3 at sb
   obtain⟨e,ee⟩:∃e,r.2[c]? =some e:=⟨_,getElem?_eq_getElem (by rw [(zb r rm).1];exact cu)⟩
   have g3:=(hb.al r rm).mono (M.sm.trans sb)
   done
   refine Cq (.of g3.it) (v:=e.1) (Ba (by rw [getElem?_map,ee];rfl)) ?_
   try done
   refine⟨_,_,0,e.2,n,n,rfl,Acu I,g3.al e (List.mem_of_getElem? ee),Abb n0,(zb r rm).2 e (List.mem_of_getElem? ee),by omega,fun v H4 s4 h4=> ?_⟩
   try done
   have a7:=ql.mono (sb.trans s4)
   have xu:=fu x (List.mem_of_getElem? ex)
   refine N6 (j:=x) a7.it (by rw [length_map];have:=st.ln;rw [length_map]at this;omega) ?_
   refine⟨_,_,rfl,Bsi.step (H1:=H) (M.sm.trans (sb.trans s4)) nz a7 st aa ex (by omega) ?_⟩
   rw [O9 U,Gu ee,show-e.2=0-e.2 by grind]
   exact h4
 rintro O H5 ⟨o6,o7,rfl,M⟩
 obtain⟨zs,ql,st⟩:=M.ex
 obtain⟨a1,a2⟩:=st.done rfl
 have zl:zs.length=u:=by
  have:=st.ln
  rw [length_map]at this
  omega
 done
 refine⟨ra,rs,u,rfl,hm.mono M.sm,r1,r6,by omega,fun r a3=>(zr r a3).1,fun y cs H6 s6 qc cl ec=> ?_⟩
 have a8:=M.sm.trans s6
 have w0:∀(j:Nat) w,zs[j]? =some w->w.2=dq (qv ys) ((rs.map fun r=>qv r.2).map (qf · j))/\Szq n w.2:=fun j w ew=>by
  have jl:=(List.getElem?_eq_some_iff.mp ew).1
  have eb:=Gu ew
  by_cases W:j∈fr
  . obtain⟨i,hi⟩:=getElem?_of_mem W
    have il:=(List.getElem?_eq_some_iff.mp hi).1
    obtain⟨r,U⟩:∃r,bs[i]? =some r:=⟨_,getElem?_eq_getElem (by omega)⟩
    have rm:=List.mem_of_getElem? U
    obtain⟨e,ee⟩:∃e,r.2[c]? =some e:=⟨_,getElem?_eq_getElem (by rw [(zb r rm).1];exact cu)⟩
    rw [<-eb,a2 i j hi,O9 U,e2 i j r hi U]
    exact⟨rfl,by rw [Gu ee];exact((zb r rm).2 e (List.mem_of_getElem? ee)).neg⟩
  . rw [<-eb,a1 j W,e1 j (by omega) W,a6]
    have eu:qf ((List.range u).map fun j=>if j=c then(1:Rat)else 0) j=if j=c then 1 else 0:=by
     unfold qf
     rw [getD_eq_getElem?_getD,getElem?_map,getElem?_range (by omega)]
     rfl
    rw [eu]
    refine⟨rfl,?_⟩
    split
    . exact Ahl n0
    . exact Abb n0
 refine⟨y,ya,z,cs,ys,zs,rs.length,n,rfl,qc,hy.mono a8,ql.mono s6,by omega,by omega,yl,r6,fun r a3=> ?_,zy,fun e he=> ?_,hn,fun j r w U ew=> ?_,fun H7 s7=>k H7 (a8.trans s7)⟩
 . obtain⟨j,W⟩:=getElem?_of_mem a3
   have jl:=(List.getElem?_eq_some_iff.mp W).1
   have ej:=ec j r W
   refine⟨by have:=congrArg List.length ej;rw [length_map,length_map,length_map]at this;exact this,fun e he=> ?_⟩
   have m:e.2∈qv r.2:=mem_map.mpr ⟨e,he,rfl⟩
   rw [ej,map_map]at m
   obtain⟨r',a9,e3⟩:=mem_map.mp m
   obtain⟨x,ex⟩:∃x,r'.2[j]? =some x:=⟨_,getElem?_eq_getElem (by rw [(zr r' a9).1];omega)⟩
   have e4:qf (qv r'.2) j=e.2:=e3
   rw [<-e4,Gu ex]
   exact(zr r' a9).2 x (List.mem_of_getElem? ex)
 . obtain⟨j,W⟩:=getElem?_of_mem he
   exact(w0 j e W).2
 . rw [(w0 j w ew).1,ec j r U,Tt]
theorem Acj {a:Addr}{H1:Hp}{p:Addr}{cσ:St}{g:TG}{te:TE}{Q:VK}{α:Type}{es:List α}{inj:α->V} (G:Nat->List V->Hp->Prop) (hz:es.length<=sizeLine) (Y:G 0 [] (upd H1 p (.lst []))) (Z:∀i d H',G i d H'->d.length=i/\H' p=some (.lst d)) (hw:∀i d H',G i d H'->SqL K H' a (es.map inj))
 (step:∀i e d H' b R,es[i]? =some e->G i d H'->H' b=none->(∀v I,I p=some (.lst d)->G (i+1) (d++ [v]) (upd I p (.lst (d++ [v])))->R v I)->g (.ref b) cσ (upd H' b (.tup [.int (i:Nat),inj e])) fun F J=>Kp cσ F/\te F J R)
 (done:∀d H',G es.length d H'->Q (.ref p) H'):cIn (Ad8 K a) cσ g Gy te Q H1 p:=by
 refine⟨fun i m d H'=>m=es.length-i/\i<=es.length/\G i d H',⟨es.length,by simp,zero_le _,Y⟩,?_⟩
 rintro i m d H' ⟨rfl,hi,pv⟩
 obtain⟨al,ap⟩:=Z _ _ _ pv
 have w:=hw _ _ _ pv
 cases he:es[i]? with
 | none=>
   have e:i=es.length:=le_antisymm hi (List.getElem?_eq_none_iff.mp he)
   exact .inl ⟨⟨_,w,by rw [length_map];omega⟩,done d _ (e▸pv)⟩
 | some e=>
   refine .inr ⟨⟨_,inj e,w,by rw [getElem?_map,he];rfl⟩,fun x H3 y=> ?_⟩
   obtain⟨b,v,y1,y2,rfl,rfl⟩:=y
   have O:=y1 _ w
   rw [getElem?_map,he]at O
   obtain rfl:inj e=v:=Option.some.inj O
   have L:=(List.getElem?_eq_some_iff.mp he).1
   have q:=step i e d H' b (fun y I=>I p=some (.lst d)/\d.length<sizeLine/\∃U,U<es.length-i/\U=es.length-(i+1)/\i+1<=es.length/\G (i+1) (d++ [y]) (upd I p (.lst (d++ [y])))) he pv y2 fun v I h6 M=>⟨h6,by omega,_,by omega,rfl,L,M⟩
   have eq:∀(R:VK) (B:Hp->Prop),(fun F J=>Kp cσ F/\Gy F J fun b W=>if b=true then te F W R else B W)=(fun F J=>Kp cσ F/\te F J R):=fun R B=>by
    funext F J
    simp only [Gy,if_pos]
   rw [eq]
   exact q
def J2 (K:Frag):Sp:=fun vs H Q _=>∃(ra ba ya:Addr) (rs:List Qr) (es ys:List (V × Rat)) (u n:Nat),vs=[.ref ra,.ref ba,.ref ya]/\Qm K H ra rs/\Ql K H ba es/\Ql K H ya ys/\es.length=rs.length/\ys.length=rs.length/\1<=rs.length/\rs.length<=6/\u<=6/\(∀r∈rs,r.2.length=u/\∀e∈r.2,Szq n e.2)/\(∀e∈es,Szq n e.2)/\(∀e∈ys,Szq n e.2)/\0<n/\n<=2600000/\(∀j,j<u->dq (qv ys) ((rs.map fun r=>qv r.2).map (qf · j))=0)/\dq (qv ys) (qv es)=1/\∀H',Same H H'->Q (.bl true) H'
theorem Py {f:Addr}{fd:FuncData} (F:Df K mg "none_right" Gm ["rows","right","ys"] f fd) (a0:mg "len"=none) (J:mg "enumerate"=none) (a4:mg "ONE"=some (.ref (cA K "ONE"))) (a5:Tf K (cA K "ONE") [.int 1,.int 1]) (M:mg "NOUGHT"=some (.ref (cA K "NOUGHT"))) (O:Tf K (cA K "NOUGHT") [.int 0,.int 1]) (U:Cal P w K mg base 34 "come_to" ["lists","some","wanted"] (G4 K)) (d:Cal P w K mg base 35 "are_fractions" ["thing","length"] (Eh K)) (G:Cal P w K mg base 33 "columns_of" ["rows"] (Hl K)):Cal P w K mg base 36 "none_right" ["rows","right","ys"] (J2 K):=by
 refine F.cal (F.fn.ok Jz (fun vs H Q E h=> ?_) (fun ar A outer s H vs Q E hr h=> ?_))
 . obtain⟨ra,ba,ya,I,es,ys,u,n,rfl,_⟩:=h
   rfl
 obtain⟨ra,ba,ya,I,es,ys,u,n,rfl,hm,hb,hy,el,yl,r1,r6,u6,zr,zb,zy,n0,hn,e0,e1,k⟩:=h
 refine Ax ⟨_,(Ae (Ay (Bh (Bd (Ai d hr (Aa (Ac 2) (Aa (Ar Aw rfl a0 PySem.boot_len (Aa (Ac 0) Ab)) Ab))))) (Af (Aj Bk)) Av)
  (Ae (Dk (ts:=["place","row"]) (fs:=[(1,"right")]) rfl (Bb.of (sc:=Ak Gm) (N:=["rows","right","ys","full"]) rfl rfl (by decide+kernel)) (Hv rfl J (Aa (Ac 0) Ab)) (fun _ _ _=>(Es K 2 rfl rfl (Am (Ah 0 (show Nodup (["place","row","right"]:List Str)by decide+kernel)) (Am (Ah 1 (show Nodup (["place","row","right"]:List Str)by decide+kernel)) Bm)))) (fun _ _ _=>Az) (fun _ _ _=>(Ao Oj (Ac 1) (Bt (Aa (Al (Dw K) (Ac 2) (Ac 0) (fun _ _=>rfl)) Ab)))) (Ah 3 Jz.nd))
  (Af (Aj (Ai U hr (Aa (Ai G hr (Aa (Ac 3) Ab)) (Aa (Ac 2) (Aa (Ao Oj (Ao Ol (Bt (Aa (Dj (v:= .ref (cA K "NOUGHT")) rfl M rfl) Ab)) (Ar Aw rfl a0 PySem.boot_len (Aa (Al Bp (Ac 0) Ad (fun _ _=>rfl)) Ab))) (Bt (Aa (Dj (v:= .ref (cA K "ONE")) rfl a4 rfl) Ab))) Ab)))))))),?_⟩
 done
 refine⟨ra,_,rfl,.inl (.of hm.it),?_⟩
 rw [length_map]
 refine⟨ya,ys,I.length,rfl,hy,yl,by omega,fun H1 s1=> ?_⟩
 try done
 have a1:=hm.mono s1
 have a9:=hb.mono s1
 refine⟨⟨_,.of a1.it⟩,fun p hp=> ?_⟩
 refine Acj (a:=ra) (es:=I) (inj:=fun r=>V.ref r.1) (fun i a2 H'=>∃bs:List Qr,a2=bs.map (fun r=>V.ref r.1)/\Bli K H1 H' p (List.range I.length) (fun j q=>q=qv (I.getD j (0,[])).2++ [qf (qv es) j]) i bs) (le_trans r6 (by decide)) ⟨[],rfl,Same.upd hp _,Ag,rfl,by simp⟩ ?_ ?_ ?_ ?_
 . rintro i a2 H' ⟨bs,rfl,W⟩
   exact⟨by rw [length_map];exact W.ln,W.it⟩
 . rintro i a2 H' ⟨bs,rfl,W⟩
   exact .of (W.sm _ _ a1.it)
 . rintro i r a2 H2 b R er ⟨bs,rfl,W⟩ ai hR
   have il:=(List.getElem?_eq_some_iff.mp er).1
   have rm:=List.mem_of_getElem? er
   have sb:=Same.upd ai (.tup [V.int (i:Nat),V.ref r.1])
   refine Eb (.of Ag) ?_
   generalize upd H2 b (.tup [V.int (i:Nat),V.ref r.1])=H3 at sb
   done
   have aa:=W.sm.trans sb
   obtain⟨Y,a6⟩:∃Y,es[i]? =some Y:=⟨_,getElem?_eq_getElem (by omega)⟩
   refine Cq (.of (aa _ _ a9.it)) (v:=Y.1) (Ba (by rw [getElem?_map,a6];rfl)) ?_
   try done
   intro l1 aj
   have t1:=Same.upd aj (.lst [Y.1])
   have rN:=(zr r rm).1
   refine⟨r.1,l1,_,_,rfl,rfl,t1 _ _ (aa _ _ (a1.al r rm).it),Ag,by rw [length_map];exact le_trans (show r.2.length+1<=7 by omega) (by decide),fun l2 ac=> ?_⟩
   have t2:=Same.upd ac (.lst (r.2.map (·.1)++ [Y.1]))
   have Z:=sb.trans (t1.trans t2)
   have a7:=W.sm.trans Z
   have ad:upd (upd H3 l1 (.lst [Y.1])) l2 (.lst (r.2.map (·.1)++ [Y.1])) l2=some (.lst ((r.2++ [Y]).map (·.1))):=by rw [Ag,map_append];rfl
   have ak:H2 l2=none:=Gd (sb.trans t1) ac
   generalize upd (upd H3 l1 (.lst [Y.1])) l2 (.lst (r.2.map (·.1)++ [Y.1]))=H4 at Z a7 ad
   have ql:Ql K H4 l2 (r.2++ [Y]):=⟨ad,fun x L=>by
    rcases mem_append.mp L with L | L
    . exact((a1.al r rm).al x L).mono a7
    . rw [mem_singleton.mp L]
      exact(a9.al Y (List.mem_of_getElem? a6)).mono a7⟩
   have eq:qv (r.2++ [Y])=qv (I.getD i (0,[])).2++ [qf (qv es) i]:=by
    rw [getD_eq_getElem?_getD,er,Gu a6,qv,map_append]
    rfl
   exact hR _ _ (Z _ _ W.it) ⟨bs++ [(l2,r.2++ [Y])],by rw [map_append];rfl,W.snoc (x:=(l2,r.2++ [Y])) hp Z ak ql (getElem?_range il) eq⟩
 rintro a2 H2 ⟨bs,rfl,W⟩
 have bn:bs.length=I.length:=W.ln
 have ba:∀(k:Nat) r y,bs[k]? =some r->I[k]? =some y->Ql K H2 r.1 r.2/\qv r.2=qv y.2++ [qf (qv es) k]:=fun k r y hk am=>by
  have z:=(W.al k r k hk (getElem?_range (by have:=(List.getElem?_eq_some_iff.mp hk).1;omega))).2
  rw [getD_eq_getElem?_getD,am]at z
  exact z
 have bb:∀r∈bs,∃(i:Nat) (y:Qr) (q:V × Rat),I[i]? =some y/\es[i]? =some q/\bs[i]? =some r:=fun r a3=>by
  obtain⟨i,hi⟩:=getElem?_of_mem a3
  have il:=(List.getElem?_eq_some_iff.mp hi).1
  exact⟨i,_,_,getElem?_eq_getElem (by omega),getElem?_eq_getElem (by omega),hi⟩
 have mb:Qm K H2 p bs:=⟨W.it,fun r a3=>by
  obtain⟨i,y,q,h1,h2,h3⟩:=bb r a3
  exact(ba i r y h3 h1).1⟩
 have lb:∀r∈bs,r.2.length=u+1:=fun r a3=>by
  obtain⟨i,y,q,h1,h2,h3⟩:=bb r a3
  have:=congrArg List.length (ba i r y h3 h1).2
  rw [length_map,length_append,length_map,(zr y (List.mem_of_getElem? h1)).1]at this
  exact this
 refine⟨p,bs,u+1,rfl,mb,by omega,by omega,by omega,lb,fun z cs H3 s3 qc cl ec=> ?_⟩
 try done
 intro p2 an
 have t4:=Same.upd an (.lst [.ref (cA K "NOUGHT")])
 have Z:=s3.trans t4
 have ae:=a1.mono (W.sm.trans Z)
 obtain⟨r0,ag⟩:∃r0,I[0]? =some r0:=⟨_,getElem?_eq_getElem (by omega)⟩
 have ah:=List.mem_of_getElem? ag
 refine Cq (.of ae.it) (v:= .ref r0.1) (Ba (j:=0) (by rw [getElem?_map,ag];rfl)) ?_
 refine⟨r0.1,_,rfl,.inl (.of (ae.al r0 ah).it),?_⟩
 rw [length_map,(zr r0 ah).1]
 refine⟨p2,_,_,rfl,rfl,Ag,by omega,by omega,by rw [length_singleton,toNat_natCast];exact le_trans (show 1*u<=6 by omega) (by decide),fun p3 ao=> ?_⟩
 rw [toNat_natCast,flatten_replicate_singleton]
 have t5:=Same.upd ao (.lst (replicate u (V.ref (cA K "NOUGHT"))))
 try done
 intro p4 ap
 have t6:=Same.upd ap (.lst [.ref (cA K "ONE")])
 refine⟨p3,p4,_,_,rfl,rfl,t6 _ _ Ag,Ag,by rw [length_replicate];exact le_trans (show u+1<=7 by omega) (by decide),fun p5 aq=> ?_⟩
 have t7:=Same.upd aq (.lst (replicate u (V.ref (cA K "NOUGHT"))++ [.ref (cA K "ONE")]))
 have s7:=t4.trans (t5.trans (t6.trans t7))
 have a8:=s1.trans (W.sm.trans (s3.trans s7))
 have e5:=Ag (H:=upd (upd (upd H3 p2 (.lst [.ref (cA K "NOUGHT")])) p3 (.lst (replicate u (V.ref (cA K "NOUGHT"))))) p4 (.lst [.ref (cA K "ONE")])) (a:=p5) (o:= .lst (replicate u (V.ref (cA K "NOUGHT"))++ [.ref (cA K "ONE")]))
 generalize upd (upd (upd (upd H3 p2 (.lst [.ref (cA K "NOUGHT")])) p3 (.lst (replicate u (V.ref (cA K "NOUGHT"))))) p4 (.lst [.ref (cA K "ONE")])) p5 (.lst (replicate u (V.ref (cA K "NOUGHT"))++ [.ref (cA K "ONE")]))=H7 at s7 a8 e5
 have wq:Ql K H7 p5 (replicate u (V.ref (cA K "NOUGHT"),(0:Rat))++ [(V.ref (cA K "ONE"),(1:Rat))]):=⟨by rw [e5,map_append,map_replicate];rfl,fun x L=>by
  rcases mem_append.mp L with L | L
  . rw [eq_of_mem_replicate L]
    exact Acu O
  . rw [mem_singleton.mp L]
    exact Ag4 a5⟩
 have ce:∀(j:Nat) c,cs[j]? =some c->qv c.2=(List.range I.length).map fun i=>if j<u then qf (qv (I.getD i (0,[])).2) j else qf (qv es) i:=fun j c hc=>by
  rw [ec j c hc]
  refine List.ext_getElem? fun i=> ?_
  rw [getElem?_map,getElem?_map,getElem?_map]
  have jl:=(List.getElem?_eq_some_iff.mp hc).1
  by_cases hi:i<I.length
  . obtain⟨y,h1⟩:∃y,I[i]? =some y:=⟨_,getElem?_eq_getElem hi⟩
    obtain⟨r,h2⟩:∃r,bs[i]? =some r:=⟨_,getElem?_eq_getElem (by omega)⟩
    have h3:=(ba i r y h2 h1).2
    have ln:=(zr y (List.mem_of_getElem? h1)).1
    rw [h2,getElem?_range hi]
    show some (qf (qv r.2) j)=some (if j<u then qf (qv (I.getD i (0,[])).2) j else qf (qv es) i)
    rw [h3,getD_eq_getElem?_getD,h1]
    congr 1
    unfold qf
    rw [getD_eq_getElem?_getD]
    split
    . rename_i hj
      rw [getElem?_append_left (by rw [length_map,ln];exact hj),<-getD_eq_getElem?_getD]
      rfl
    . rw [getElem?_append_right (by rw [length_map,ln];omega),length_map,ln,show j-u=0 by omega]
      rfl
  . rw [getElem?_eq_none (by omega),getElem?_eq_none (by rw [length_range];omega)]
    rfl
 refine⟨z,ya,p5,cs,ys,replicate u (V.ref (cA K "NOUGHT"),(0:Rat))++ [(V.ref (cA K "ONE"),(1:Rat))],I.length,n,rfl,qc.mono s7,hy.mono a8,wq,by rw [length_append,length_replicate];exact cl.symm,by omega,yl,r6,fun c hc=> ?_,zy,fun x L=> ?_,hn,fun j c w hc hw=> ?_,fun H8 s8=>k H8 (a8.trans s8)⟩
 . obtain⟨j,hj⟩:=getElem?_of_mem hc
   have ej:=ce j c hj
   refine⟨by have:=congrArg List.length ej;rw [length_map,length_map,length_range]at this;exact this,fun e he=> ?_⟩
   have m:e.2∈qv c.2:=mem_map.mpr ⟨e,he,rfl⟩
   rw [ej]at m
   obtain⟨i,hi,e3⟩:=mem_map.mp m
   have il:=mem_range.mp hi
   rw [<-e3]
   split
   . rename_i hj
     obtain⟨y,h1⟩:∃y,I[i]? =some y:=⟨_,getElem?_eq_getElem il⟩
     obtain⟨x,ex⟩:∃x,y.2[j]? =some x:=⟨_,getElem?_eq_getElem (by rw [(zr y (List.mem_of_getElem? h1)).1];exact hj)⟩
     rw [getD_eq_getElem?_getD,h1]
     show Szq n (qf (qv y.2) j)
     rw [Gu ex]
     exact(zr y (List.mem_of_getElem? h1)).2 x (List.mem_of_getElem? ex)
   . obtain⟨x,ex⟩:∃x,es[i]? =some x:=⟨_,getElem?_eq_getElem (by omega)⟩
     rw [Gu ex]
     exact zb x (List.mem_of_getElem? ex)
 . rcases mem_append.mp L with L | L
   . rw [eq_of_mem_replicate L]
     exact Abb n0
   . rw [mem_singleton.mp L]
     exact Ahl n0
 . rw [ce j c hc,Tt]
   have jl:=(List.getElem?_eq_some_iff.mp hc).1
   by_cases hj:j<u
   . rw [getElem?_append_left (by rw [length_replicate];exact hj)]at hw
     rw [eq_of_mem_replicate (List.mem_of_getElem? hw),<-e0 j hj]
     congr 1
     refine List.ext_getElem? fun i=> ?_
     rw [getElem?_map,getElem?_map,getElem?_map]
     by_cases hi:i<I.length
     . rw [getElem?_range hi,getElem?_eq_getElem hi]
       show some (if j<u then qf (qv (I.getD i (0,[])).2) j else qf (qv es) i)=_
       rw [if_pos hj,getD_eq_getElem?_getD,getElem?_eq_getElem hi]
       rfl
     . rw [getElem?_eq_none (by rw [length_range];omega),getElem?_eq_none (by omega)]
       rfl
   . rw [getElem?_append_right (by rw [length_replicate];omega),length_replicate,show j-u=0 by omega]at hw
     have ew:w=(V.ref (cA K "ONE"),(1:Rat)):=(Option.some.inj hw).symm
     rw [ew,<-e1]
     congr 1
     refine List.ext_getElem? fun i=> ?_
     rw [getElem?_map]
     by_cases hi:i<I.length
     . obtain⟨x,ex⟩:∃x,es[i]? =some x:=⟨_,getElem?_eq_getElem (by omega)⟩
       rw [getElem?_range hi,getElem?_map,ex]
       show some (if j<u then qf (qv (I.getD i (0,[])).2) j else qf (qv es) i)=_
       rw [if_neg hj,Gu ex]
       rfl
     . rw [getElem?_eq_none (by rw [length_range];omega),getElem?_eq_none (by rw [length_map];omega)]
       rfl
theorem X5 {cs:List Nat}{u:Nat} (q:cs.Pairwise (· < ·)) (lt:∀c∈cs,c<u):(frees cs u).length+cs.length=u:=by
 have h1:=List.length_eq_countP_add_countP (fun j=> !(cs.contains j)) (l:=List.range u)
 rw [length_range,List.countP_eq_length_filter]at h1
 have h2:(frees (frees cs u) u).length=List.countP (fun a=>decide ¬(!(cs.contains a))=true) (List.range u):=by
  rw [frees,<-List.countP_eq_length_filter]
  refine List.countP_congr fun j y=> ?_
  have F:=mem_range.mp y
  by_cases d:j∈cs
  . have:j∉frees cs u:=fun z=>(Cz.mp z).2 d
    simp [d,this]
  . have:j∈frees cs u:=Cz.mpr ⟨F,d⟩
    simp [d,this]
 rw [Mr q lt]at h2
 have G:(frees cs u).length=(List.filter (fun j=> !(cs.contains j)) (List.range u)).length:=rfl
 omega
theorem Vc {cs:List Nat}{u k c:Nat} (h:(frees cs u)[k]? =some c):c<u/\c∉cs:=Cz.mp (List.mem_of_getElem? h)
structure Ppr (K:Frag) (H:Hp) (R:List (List Rat)) (b:List Rat) (u n:Nat) (ax af ab ay:Addr) (xs:List (V × Rat)) (fr:List Nat) (bs yr:List Qr):Prop where
 qx:Ql K H ax xs
 fl:H af=some (.lst (nats fr))
 qb:Qm K H ab bs
 qy:Qm K H ay yr
 sh:Acg R b u (qv xs) fr (bs.map fun r=>qv r.2) (yr.map fun r=>qv r.2)
 zx:∀e∈xs,Szq n e.2
 zb:∀r∈bs,∀e∈r.2,Szq n e.2
 zy:∀r∈yr,∀e∈r.2,Szq n e.2
theorem Ppr.mono {H H':Hp}{R:List (List Rat)}{b:List Rat}{u n:Nat}{ax af ab ay:Addr}{xs:List (V × Rat)}{fr:List Nat}{bs yr:List Qr} (h:Ppr K H R b u n ax af ab ay xs fr bs yr) (s:Same H H'):Ppr K H' R b u n ax af ab ay xs fr bs yr:=⟨h.qx.mono s,s _ _ h.fl,h.qb.mono s,h.qy.mono s,h.sh,h.zx,h.zb,h.zy⟩
section
variable {H:Hp}{R:List (List Rat)}{b:List Rat}{u n:Nat}{ax af ab ay:Addr}{xs:List (V × Rat)}{fr:List Nat}{bs yr:List Qr}
theorem Ppr.lx (h:Ppr K H R b u n ax af ab ay xs fr bs yr):xs.length=u:=by have:=h.sh.lx;rwa [length_map]at this
theorem Ppr.lb (h:Ppr K H R b u n ax af ab ay xs fr bs yr):bs.length=fr.length:=by have:=h.sh.lb;rwa [length_map]at this
theorem Ppr.ly (h:Ppr K H R b u n ax af ab ay xs fr bs yr):yr.length=(frees fr u).length:=by have:=h.sh.ly;rwa [length_map]at this
theorem Ppr.fn (h:Ppr K H R b u n ax af ab ay xs fr bs yr):yr.length+fr.length=u:=by
 rw [h.ly]
 exact X5 h.sh.fi h.sh.fl
theorem Ppr.bu (h:Ppr K H R b u n ax af ab ay xs fr bs yr):∀r∈bs,r.2.length=u:=fun r d=>by
 have:=h.sh.bu (qv r.2) (mem_map.mpr ⟨r,d,rfl⟩)
 rwa [length_map]at this
theorem Ppr.yu (h:Ppr K H R b u n ax af ab ay xs fr bs yr):∀r∈yr,r.2.length=R.length:=fun r d=>by
 have:=h.sh.yu (qv r.2) (mem_map.mpr ⟨r,d,rfl⟩)
 rwa [length_map]at this
theorem K8 {rs:List Qr}{k:Nat}{r:Qr} (h:rs[k]? =some r):(rs.map fun r=>qv r.2)[k]? =some (qv r.2):=by
 rw [getElem?_map,h]
 rfl
theorem Rb {rs:List Qr}{r:Qr} (h:r∈rs):qv r.2∈rs.map fun r=>qv r.2:=mem_map.mpr ⟨r,h,rfl⟩
theorem Ppr.one (h:Ppr K H R b u n ax af ab ay xs fr bs yr) {k c:Nat}{g:Qr} (y:bs[k]? =some g) (d:fr[k]? =some c):∀f∈fr,f<u/\qf (qv g.2) f=if f=c then 1 else 0:=fun f q=>by
 refine⟨h.sh.fl f q,?_⟩
 obtain⟨i,hi⟩:=getElem?_of_mem q
 rw [h.sh.bf k i _ f (K8 y) hi]
 by_cases e:i=k
 . subst e
   rw [hi]at d
   rw [if_pos rfl,if_pos (Option.some.inj d)]
 . rw [if_neg e,if_neg]
   rintro rfl
   have F:fr.Nodup:=h.sh.fi.imp fun h=>ne_of_lt h
   have G:=(List.getElem?_eq_some_iff.mp hi)
   have I:=(List.getElem?_eq_some_iff.mp d)
   exact e ((List.getElem_inj F).mp (G.2.trans I.2.symm))
end
theorem Aer {H:Hp}{p:Addr}{u v x y:V}{i j l m:Nat}{σ:St}{Q:St->Hp->Prop} (h:SqT K H p [u,v,x,y]) (q:Q ((((σ.set i (some u)).set j (some v)).set l (some x)).set m (some y)) H):Abs K 4 (Ke (Ga i) (Ke (Ga j) (Ke (Ga l) (Ke (Ga m) Ad2)))) (.ref p) σ H Q:=⟨p,_,rfl,h,rfl,u,_,rfl,v,_,rfl,x,_,rfl,y,_,rfl,rfl,q⟩
def K1 (K:Frag):Sp:=fun vs H Q _=>∃(ra ba pa ax af ab ay:Addr) (rs:List Qr) (es xs:List (V × Rat)) (fr:List Nat) (bs yr:List Qr) (u n:Nat),vs=[.ref ra,.ref ba,.ref pa]/\Qm K H ra rs/\Ql K H ba es/\SqT K H pa [.ref ax,.ref af,.ref ab,.ref ay]/\Ppr K H (rs.map fun r=>qv r.2) (qv es) u n ax af ab ay xs fr bs yr/\es.length=rs.length/\1<=rs.length/\rs.length<=6/\u<=6/\(∀r∈rs,r.2.length=u/\∀e∈r.2,Szq n e.2)/\(∀e∈es,Szq n e.2)/\0<n/\n<=2600000/\∀H',Same H H'->Q (.bl true) H'
theorem all_map (n:Nat):(List.range n).map (fun _=>V.bl true)=(replicate n true).map V.bl:=by rw [map_const',map_replicate,length_range]
theorem Rh {f:Addr}{fd:FuncData} (F:Df K mg "all_right" Ei ["rows","right","paper"] f fd) (G:mg "len"=none) (U:mg "all"=none) (a1:mg "any"=none) (W:mg "range"=none) (Y:mg "zip"=none) (J:mg "NOUGHT"=some (.ref (cA K "NOUGHT"))) (L:Tf K (cA K "NOUGHT") [.int 0,.int 1]) (y:Cal P w K mg base 35 "are_fractions" ["thing","length"] (Eh K)) (I:Cal P w K mg base 34 "is_choice" ["free","unknowns"] (K5 K)) (q:Cal P w K mg base 36 "are_lists" ["thing","many","length"] (K3 K)) (M:Cal P w K mg base 34 "come_to" ["lists","some","wanted"] (G4 K)) (Z:Cal P w K mg base 36 "shows" ["rows","ys","free","base","here"] (V0 K)) (O:Cal P w K mg base 35 "is_base" ["rows","one","free","here"] (Oz K)):Cal P w K mg base 37 "all_right" ["rows","right","paper"] (K1 K):=by
 refine F.cal (F.fn.ok Ds (fun vs H Q E h=> ?_) (fun ao A outer s H vs Q E hr h=> ?_))
 . obtain⟨ra,ba,pa,ax,af,ab,ay,rs,es,xs,fr,bs,yr,u,n,rfl,_⟩:=h
   rfl
 obtain⟨ra,ba,pa,ax,af,ab,ay,rs,es,xs,fr,bs,yr,u,n,rfl,hm,hb,hp,d,el,r1,r6,u6,zr,zb,n0,hn,k⟩:=h
 have nl:(nats fr).length=fr.length:=length_map _
 have fn:=d.fn
 refine Ax ⟨_,(Ae (Cp (Ac 2) (Ci rfl (Am (Ah 5 Ds.nd) (Am (Ah 6 Ds.nd) (Am (Ah 7 Ds.nd) (Am (Ah 8 Ds.nd) Bm))))))
  (Ae (Bc 3 Ds.nd (Ar Aw rfl G PySem.boot_len (Aa (Al Bp (Ac 0) Ad (fun _ _=>rfl)) Ab)))
  (Ae (Ay (Ce (Cg (Bh (Bd (Ai y hr (Aa (Ac 5) (Aa (Ac 3) Ab))))) (Ca (Bh (Bd (Ai I hr (Aa (Ac 6) (Aa (Ac 3) Ab)))))))) (Af (Aj Bk)) Av)
  (Ae (Ay (Ce (Cg (Bh (Bd (Ai q hr (Aa (Ac 7) (Aa (Ar Aw rfl G PySem.boot_len (Aa (Ac 6) Ab)) (Aa (Ac 3) Ab)))))) (Ca (Bh (Bd (Ai q hr (Aa (Ac 8) (Aa (Ao M4 (Ac 3) (Ar Aw rfl G PySem.boot_len (Aa (Ac 6) Ab))) (Aa (Ar Aw rfl G PySem.boot_len (Aa (Ac 0) Ab)) Ab))))))))) (Af (Aj Bk)) Av)
  (Ae (Ay (Ce (Cg (Bd (Ar (Uy rfl) rfl a1 boot_any (Aa (Bf (ts:=["place"]) (fs:=[(5,"x")]) rfl (Bb.of (sc:=Ak Ei) (N:=["rows","right","paper","unknowns","led","x","free","base","ys"]) rfl rfl (by decide+kernel)) (Bj (Ac 6)) (fun _ _ _=>(Ah 0 (show Nodup (["place","x"]:List Str)by decide+kernel))) (fun _ _ _=>Az) (fun _ _ _=>(Bx (Qa K hr.units) (Al (Dw K) (Ac 1) (Ac 0) (fun _ _=>rfl)) (Dj (v:= .ref (cA K "NOUGHT")) rfl J rfl) (Bl _)))) Ab))) (Ca (Bh (Bd (Ai M hr (Aa (Ac 0) (Aa (Ac 5) (Aa (Ac 1) Ab))))))))) (Af (Aj Bk)) Av)
  (Ae (Ay (Bh (Bd (Ar (Fl rfl) rfl U boot_all (Aa (Bf (ts:=["one","place"]) (fs:=[(0,"rows"),(6,"free")]) rfl (Bb.of (sc:=Ak Ei) (N:=["rows","right","paper","unknowns","led","x","free","base","ys"]) rfl rfl (by decide+kernel)) (Cr false false rfl Y (Aa (Ac 7) (Aa (Ac 6) Ab))) (fun _ _ _=>(Es K 2 rfl rfl (Am (Ah 0 (show Nodup (["one","place","rows","free"]:List Str)by decide+kernel)) (Am (Ah 1 (show Nodup (["one","place","rows","free"]:List Str)by decide+kernel)) Bm)))) (fun _ _ _=>Az) (fun _ _ _=>(Ai O hr (Aa (Ac 2) (Aa (Ac 0) (Aa (Ac 3) (Aa (Ac 1) Ab))))))) Ab)))) (Af (Aj Bk)) Av)
  (Ae (Dk (ts:=["place"]) (fs:=[(6,"free")]) rfl (Bb.of (sc:=Ak Ei) (N:=["rows","right","paper","unknowns","led","x","free","base","ys"]) rfl rfl (by decide+kernel)) (Cj rfl W (Aa (Ac 3) Ab)) (fun _ _ _=>(Ah 0 (show Nodup (["place","free"]:List Str)by decide+kernel))) (fun _ _ _=>(Et (Aq (Mz K) (Ac 0) (Ac 1) rfl))) (fun _ _ _=>(Ac 0)) (Ah 4 Ds.nd))
  (Af (Aj (Ar (Fl rfl) rfl U boot_all (Aa (Bf (ts:=["one","place"]) (fs:=[(0,"rows"),(6,"free"),(7,"base")]) rfl (Bb.of (sc:=Ak Ei) (N:=["rows","right","paper","unknowns","led","x","free","base","ys"]) rfl rfl (by decide+kernel)) (Cr false false rfl Y (Aa (Ac 8) (Aa (Ac 4) Ab))) (fun _ _ _=>(Es K 2 rfl rfl (Am (Ah 0 (show Nodup (["one","place","rows","free","base"]:List Str)by decide+kernel)) (Am (Ah 1 (show Nodup (["one","place","rows","free","base"]:List Str)by decide+kernel)) Bm)))) (fun _ _ _=>Az) (fun _ _ _=>(Ai Z hr (Aa (Ac 2) (Aa (Ac 0) (Aa (Ac 3) (Aa (Ac 4) (Aa (Ac 1) Ab)))))))) Ab))))))))))),?_⟩
 done
 refine Aer hp ?_
 try done
 obtain⟨r0,a6⟩:∃r0,rs[0]? =some r0:=⟨_,getElem?_eq_getElem (by omega)⟩
 have a7:=List.mem_of_getElem? a6
 refine Cq (.of hm.it) (v:= .ref r0.1) (Ba (j:=0) (by rw [getElem?_map,a6];rfl)) ?_
 try done
 refine⟨r0.1,_,rfl,.inl (.of (hm.al r0 a7).it),?_⟩
 rw [length_map,(zr r0 a7).1]
 refine⟨ax,xs,u,rfl,d.qx,d.lx,by omega,fun H1 s1=> ?_⟩
 try done
 refine⟨af,fr,u,rfl,s1 _ _ d.fl,by omega,u6,d.sh.fl,d.sh.fi,fun H2 s2=> ?_⟩
 try done
 have a8:=s1.trans s2
 have p2:=d.mono a8
 refine⟨af,_,rfl,.inl (.of p2.fl),?_⟩
 rw [nl]
 refine⟨ab,bs,fr.length,u,rfl,p2.qb,d.lb,by omega,u6,d.bu,fun H3 s3=> ?_⟩
 try done
 have a2:=a8.trans s3
 have p3:=d.mono a2
 refine⟨af,_,rfl,.inl (.of p3.fl),?_⟩
 rw [nl]
 refine⟨ra,_,rfl,.inl (.of (a2 _ _ hm.it)),?_⟩
 rw [length_map]
 have eu:(u:Int)-(fr.length:Nat)=((yr.length:Nat):Int):=by omega
 rw [eu]
 refine⟨ay,yr,yr.length,rs.length,rfl,p3.qy,rfl,by omega,by omega,fun r a3=>by have:=d.yu r a3;rwa [length_map]at this,fun H4 s4=> ?_⟩
 try done
 have a9:=a2.trans s4
 have p4:=d.mono a9
 refine⟨⟨_,.of p4.fl⟩,fun q1 ad=>Gs (es:=fr) (inj:=fun c:Nat=>V.int (c:Nat)) (fun _=> .bl false) (le_trans (show fr.length<=6 by omega) (by decide)) ad (Ec (.of p4.fl)) ?_ ?_⟩
 . intro c H5 R hc s5 hR
   have cu:=d.sh.fl c hc
   have g5:=p4.qx.mono s5
   obtain⟨e,ee⟩:∃e,xs[c]? =some e:=⟨_,getElem?_eq_getElem (by rw [d.lx];exact cu)⟩
   have ec:=d.sh.xz c hc
   rw [Gu ee]at ec
   done
   refine Cq (.of g5.it) (v:=e.1) (Ba (by rw [getElem?_map,ee];rfl)) ?_
   refine Mq (g5.al e (List.mem_of_getElem? ee)) (Acu L) ?_
   rw [decide_eq_true ec]
   exact hR _ (Same.refl _)
 intro H5 s5 h5
 have em:fr.map (fun _=>V.bl false)=(replicate fr.length false).map V.bl:=by rw [map_const',map_replicate]
 rw [em]at h5
 refine⟨q1,_,rfl,.of h5,?_⟩
 rw [any_false]
 try done
 have a0:=a9.trans s5
 have p5:=d.mono a0
 refine⟨ra,ax,ba,rs,xs,es,u,n,rfl,hm.mono a0,p5.qx,hb.mono a0,el,by omega,d.lx,u6,zr,d.zx,zb,hn,fun j r w er ew=> ?_,fun H6 s6=> ?_⟩
 . have e1:=congrArg (·[j]?) d.sh.sx
   rw [getElem?_map,K8 er,getElem?_map,ew]at e1
   exact Option.some.inj e1
 try done
 have a4:=a0.trans s6
 have p6:=d.mono a4
 have ae:=hm.mono a4
 refine⟨ab,af,rfl,⟨_,show SqL K H6 ab _ from .of p6.qb.it⟩,⟨_,show SqL K H6 af _ from .of p6.fl⟩,fun q2 ag=> ?_⟩
 refine Jp (xs:=bs.map fun r=>V.ref r.1) (ys:=nats fr) fr.length (by rw [nl,length_map,d.lb];omega) (fun _=> .bl true) (le_trans (show fr.length<=6 by omega) (by decide)) ag (fun H' s'=>show SqL K H' ab _ from .of (s' _ _ p6.qb.it)) (fun H' s'=>show SqL K H' af _ from .of (s' _ _ p6.fl)) ?_ ?_
 . intro j H7 b7 R hj s7 h7 hR
   obtain⟨c,ec⟩:∃c,fr[j]? =some c:=⟨_,getElem?_eq_getElem hj⟩
   obtain⟨r,er⟩:∃r,bs[j]? =some r:=⟨_,getElem?_eq_getElem (by rw [d.lb];exact hj)⟩
   have rm:=List.mem_of_getElem? er
   have v1:(bs.map fun r=>V.ref r.1).getD j .non= .ref r.1:=by rw [getD_eq_getElem?_getD,getElem?_map,er];rfl
   rw [Gz ec,v1]at h7
   refine Eb (.of h7) ?_
   done
   have p7:=p6.mono s7
   exact⟨ra,r.1,af,rs,r.2,fr,c,u,n,rfl,ae.mono s7,p7.qb.al r rm,p7.fl,r6,d.bu r rm,u6,by omega,zr,d.zb r rm,n0,hn,d.one er ec,fun r' a3=>d.sh.bz _ (Rb rm) _ (Rb a3),fun H8 s8=>hR _ s8⟩
 intro H7 s7 h7
 rw [all_map]at h7
 refine⟨q2,_,rfl,.of h7,?_⟩
 rw [all_true]
 try done
 have aa:=a4.trans s7
 have p7:=d.mono aa
 refine⟨by omega,by omega,fun pf ah=> ?_⟩
 rw [toNat_natCast]
 refine Eu (es:=List.range u) (inj:=fun j=> .int (0+(j:Nat))) (fun j=> !(fr.contains j)) (fun j=> .int (0+(j:Nat))) (by rw [length_range];exact le_trans u6 (by decide)) ah Ft ?_ ?_
 . intro j H8 R RF hj s8 hR hF
   rw [zero_add]at hR ⊢
   done
   refine⟨af,_,rfl,.inl (.of (s8 _ _ p7.fl)),rfl,Jr fr,?_⟩
   rw [Pk]
   refine⟨_,rfl,?_⟩
   rw [if_pos rfl]
   cases hc: !fr.contains j with
   | true=>
     rw [if_pos rfl]
     exact hR hc _ (Same.refl _)
   | false=>
     rw [if_neg (by decide)]
     exact hF hc _ (Same.refl _)
 intro H8 s8 h8
 have ac:H8 pf=some (.lst (nats (frees fr u))):=by
  rw [h8]
  unfold nats frees
  simp only [zero_add]
 try done
 have a5:=aa.trans s8
 have p8:=d.mono a5
 have ai:=hm.mono a5
 have aj:(nats (frees fr u)).length=yr.length:=by rw [d.ly];exact length_map _
 refine⟨ay,pf,rfl,⟨_,show SqL K H8 ay _ from .of p8.qy.it⟩,⟨_,show SqL K H8 pf _ from .of ac⟩,fun q3 ak=> ?_⟩
 refine Jp (xs:=yr.map fun r=>V.ref r.1) (ys:=nats (frees fr u)) yr.length (by rw [aj,length_map];omega) (fun _=> .bl true) (le_trans (show yr.length<=6 by omega) (by decide)) ak (fun H' s'=>show SqL K H' ay _ from .of (s' _ _ p8.qy.it)) (fun H' s'=>show SqL K H' pf _ from .of (s' _ _ ac)) ?_ ?_
 . intro j H9 b9 R hj s9 h9 hR
   obtain⟨c,ec⟩:∃c,(frees fr u)[j]? =some c:=⟨_,getElem?_eq_getElem (by rw [<-d.ly];exact hj)⟩
   obtain⟨r,er⟩:∃r,yr[j]? =some r:=⟨_,getElem?_eq_getElem hj⟩
   have rm:=List.mem_of_getElem? er
   have v1:(yr.map fun r=>V.ref r.1).getD j .non= .ref r.1:=by rw [getD_eq_getElem?_getD,getElem?_map,er];rfl
   rw [Gz ec,v1]at h9
   refine Eb (.of h9) ?_
   done
   have p9:=p8.mono s9
   exact⟨ra,r.1,af,ab,rs,r.2,fr,bs,c,u,n,rfl,ai.mono s9,r1,r6,u6,zr,p9.qy.al r rm,by have:=d.yu r rm;rwa [length_map]at this,d.zy r rm,p9.fl,d.sh.fi,d.sh.fl,p9.qb,d.lb,fun g hg=>⟨d.bu g hg,d.zb g hg⟩,(Vc ec).1,n0,hn,fun i hi am=>d.sh.yl j _ c (K8 er) ec i hi am,fun i f g hf hg=>d.sh.yf j i _ c f _ (K8 er) ec hf (K8 hg),fun ap an=>hR _ an⟩
 intro H9 s9 h9
 rw [all_map]at h9
 refine⟨q3,_,rfl,.of h9,?_⟩
 rw [all_true]
 exact k H9 (a5.trans s9)
structure Npr (K:Frag) (H:Hp) (R:List (List Rat)) (b:List Rat) (u n:Nat) (ay:Addr) (ys:List (V × Rat)):Prop where
 qy:Ql K H ay ys
 ln:ys.length=R.length
 y0:∀j,j<u->dq (qv ys) (R.map (qf · j))=0
 y1:dq (qv ys) b=1
 zy:∀e∈ys,Szq n e.2
theorem Npr.mono {H H':Hp}{R:List (List Rat)}{b:List Rat}{u n:Nat}{ay:Addr}{ys:List (V × Rat)} (h:Npr K H R b u n ay ys) (s:Same H H'):Npr K H' R b u n ay ys:=⟨h.qy.mono s,h.ln,h.y0,h.y1,h.zy⟩
def Pap (K:Frag) (H:Hp) (z:Addr) (R:List (List Rat)) (b:List Rat) (u n:Nat):Prop:=(∃ay ys,H z=some (.tup [.str "none",.ref ay])/\Npr K H R b u n ay ys)\/∃ax af ab ay xs fr bs yr,H z=some (.tup [.str "all",.ref ax,.ref af,.ref ab,.ref ay])/\Ppr K H R b u n ax af ab ay xs fr bs yr
theorem Pap.mono {H H':Hp}{z:Addr}{R:List (List Rat)}{b:List Rat}{u n:Nat} (h:Pap K H z R b u n) (s:Same H H'):Pap K H' z R b u n:=by
 rcases h with⟨ay,ys,h,p⟩ | ⟨ax,af,ab,ay,xs,fr,bs,yr,h,p⟩
 . exact .inl ⟨ay,ys,s _ _ h,p.mono s⟩
 . exact .inr ⟨ax,af,ab,ay,xs,fr,bs,yr,s _ _ h,p.mono s⟩
structure Eqs (K:Frag) (H:Hp) (ra ba:Addr) (rs:List Qr) (es:List (V × Rat)) (u n nb:Nat):Prop where
 qm:Qm K H ra rs
 qb:Ql K H ba es
 el:es.length=rs.length
 r1:1<=rs.length
 r6:rs.length<=6
 u1:1<=u
 u6:u<=6
 zr:∀r∈rs,r.2.length=u/\∀e∈r.2,Szq n e.2
 zb:∀e∈es,Szq nb e.2
theorem Eqs.mono {H H':Hp}{d q:Addr}{rs:List Qr}{es:List (V × Rat)}{u n y:Nat} (h:Eqs K H d q rs es u n y) (s:Same H H'):Eqs K H' d q rs es u n y:=⟨h.qm.mono s,h.qb.mono s,h.el,h.r1,h.r6,h.u1,h.u6,h.zr,h.zb⟩
theorem Vg:kitOne K (.type "str") (.type "str")=some true:=Acx (by decide+kernel)
def Ii (K:Frag):Sp:=fun vs H Q _=>∃(ra ba z:Addr) (rs:List Qr) (es:List (V × Rat)) (u n:Nat),vs=[.ref ra,.ref ba,.ref z]/\Eqs K H ra ba rs es u n n/\Pap K H z (rs.map fun r=>qv r.2) (qv es) u n/\0<n/\n<=2600000/\∀H',Same H H'->Q (.bl true) H'
theorem Mw {f:Addr}{fd:FuncData} (F:Df K mg "solved_right" Gv ["rows","right","paper"] f fd) (L:mg "len"=none) (d:mg "isinstance"=none) (M:mg "tuple"=none) (W:mg "str"=none)  (G:Cal P w K mg base 34 "refuse_shapes" ["rows","right"] (Fg K)) (J:Cal P w K mg base 37 "all_right" ["rows","right","paper"] (K1 K)) (I:Cal P w K mg base 36 "none_right" ["rows","right","ys"] (J2 K)):Cal P w K mg base 38 "solved_right" ["rows","right","paper"] (Ii K):=by
 refine F.cal (F.fn.ok Nj (fun vs H Q E h=> ?_) (fun a0 A outer s H vs Q E Z h=> ?_))
 . obtain⟨ra,ba,z,rs,es,u,n,rfl,_⟩:=h
   rfl
 obtain⟨ra,ba,z,rs,es,u,n,rfl,q,pz,n0,hn,k⟩:=h
 refine Ax ⟨_,(Ae (Dd (Ai G Z (Aa (Ac 0) (Aa (Ac 1) Ab))))
  (Ae (Ay (Ce (Cg (Bh (Bd (Ar Jo rfl d boot_isinstance (Aa (Ac 2) (Aa (Cm (v:= .ty "tuple") rfl M boot_tuple rfl) Ab))))) (Cg (Aq Hx (Ar Aw rfl L PySem.boot_len (Aa (Ac 2) Ab)) (Bq (Aa Ad (Aa Ad Ab))) rfl) (Ca (Bh (Bd (Ar Fo rfl d boot_isinstance (Aa (Al Br (Ac 2) Ad (fun _ _=>rfl)) (Aa (Cm (v:= .ty "str") rfl W boot_str rfl) Ab))))))))) (Af (Aj Bk)) Av)
  (Ae (Ay (Aq Gf (Ar Aw rfl L PySem.boot_len (Aa (Ac 2) Ab)) Ad (Bl _)) (Af (Aj (Di (Bx Gf (Al Br (Ac 2) Ad (fun _ _=>rfl)) Cy (Bl _)) (Dn (Ai I Z (Aa (Ac 0) (Aa (Ac 1) (Aa (Al Br (Ac 2) Ad (fun _ _=>rfl)) Ab)))))))) Av)
  (Af (Aj (Di (Bx Gf (Al Br (Ac 2) Ad (fun _ _=>rfl)) Cy (Bl _)) (Dn (Ai J Z (Aa (Ac 0) (Aa (Ac 1) (Aa (Dp Zi (Ac 2) (Ek Ad) Ej) Ab))))))))))),?_⟩
 done
 refine⟨ra,ba,rs,es,u,rfl,q.qm,q.qb,q.el,q.r1,q.r6,q.u1,q.u6,fun r Z=>(q.zr r Z).1,fun H1 s1=> ?_⟩
 try done
 have q1:=q.mono s1
 rcases pz.mono s1 with⟨ay,ys,h,p⟩ | ⟨ax,af,ab,ay,xs,fr,bs,yr,h,p⟩
 . refine isa (.tup (.of h)) Oi ?_
   try done
   refine⟨z,_,rfl,.inr (.of h),fun p2 Y=> ?_⟩
   have O:=Same.upd Y (.tup [.int 2,.int 5])
   refine⟨p2,_,rfl,.inr (.of Ag),rfl,rfl,false,rfl,?_⟩
   rw [if_neg (by decide)]
   generalize upd H1 p2 (.tup [.int 2,.int 5])=H2 at O
   have U:=O _ _ h
   refine Cd (.of U) (v:= .str "none") (Ba (j:=0) rfl) ?_
   refine isi (.str _) Vg ?_
   rw [if_neg (by decide)]
   refine⟨z,_,rfl,.inr (.of U),?_⟩
   rw [if_pos (by show((2:Nat):Int)=2;rfl)]
   refine Cd (.of U) (v:= .str "none") (Ba (j:=0) rfl) ?_
   refine⟨rfl,true,by rw [decide_eq_true rfl],?_⟩
   rw [if_pos rfl]
   refine Cd (.of U) (v:= .ref ay) (Ba (j:=1) rfl) ?_
   have q2:=q1.mono O
   have p2:=p.mono O
   exact⟨ra,ba,ay,rs,es,ys,u,n,rfl,q2.qm,q2.qb,p2.qy,q.el,by rw [p.ln,length_map],q.r1,q.r6,q.u6,q.zr,q.zb,p.zy,n0,hn,p.y0,p.y1,fun H3 s3=>k H3 (s1.trans (O.trans s3))⟩
 . refine isa (.tup (.of h)) Oi ?_
   try done
   refine⟨z,_,rfl,.inr (.of h),fun p2 Y=> ?_⟩
   have O:=Same.upd Y (.tup [.int 2,.int 5])
   refine⟨p2,_,rfl,.inr (.of Ag),rfl,rfl,false,rfl,?_⟩
   rw [if_neg (by decide)]
   generalize upd H1 p2 (.tup [.int 2,.int 5])=H2 at O
   have U:=O _ _ h
   refine Cd (.of U) (v:= .str "all") (Ba (j:=0) rfl) ?_
   refine isi (.str _) Vg ?_
   rw [if_neg (by decide)]
   refine⟨z,_,rfl,.inr (.of U),?_⟩
   rw [if_neg (by show ¬((5:Nat):Int)=2;decide)]
   refine Cd (.of U) (v:= .str "all") (Ba (j:=0) rfl) ?_
   refine⟨rfl,true,by rw [decide_eq_true rfl],?_⟩
   rw [if_pos rfl]
   have q2:=q1.mono O
   have p2:=p.mono O
   refine⟨z,_,rfl,.of U,fun y H3 s3 hy=> ?_⟩
   have q3:=q2.mono s3
   exact⟨ra,ba,y,ax,af,ab,ay,rs,es,xs,fr,bs,yr,u,n,rfl,q3.qm,q3.qb,hy,p2.mono s3,q.el,q.r1,q.r6,q.u6,q.zr,q.zb,n0,hn,fun H4 s4=>k H4 (s1.trans (O.trans (s3.trans s4)))⟩
theorem Abv:kitOne K (.type "list") (.type "list")=some true:=Acx (by decide+kernel)
theorem Afr {fr:List Nat}{ms:List Int} (d:fr.Pairwise (· < ·)) (y:ms.Perm (uq (fr.map fun c:Nat=>(c:Int)))) (F:ms.Pairwise (· <= ·)):ms=fr.map fun c:Nat=>(c:Int):=by
 have q:(fr.map fun c:Nat=>(c:Int)).Pairwise (· < ·):=List.pairwise_map.mpr (d.imp fun h=>by omega)
 have G:(fr.map fun c:Nat=>(c:Int)).Nodup:=q.imp fun h=>by omega
 refine Perm.eq_of_pairwise (le:=(· <= ·)) (fun a b _ _ h1 h2=>Int.le_antisymm h1 h2) F (q.imp fun h=>by omega) ?_
 exact y.trans ((List.perm_ext_iff_of_nodup (V2 _) G).mpr fun a=>Afx)
theorem Vi (fr:List Nat):nats fr=(fr.map fun c:Nat=>(c:Int)).map V.int:=by
 rw [map_map]
 rfl
theorem Acw {H:Hp}{a:Addr}{q:Rat} (h:H a=some (.tup [.int (0-q.num),.int (q.den:Int)])):IsQ K H (.ref a) (-q):=⟨a,rfl,by
 rw [Rat.neg_num,Rat.neg_den,<-Int.zero_sub]
 exact .of h⟩
def Np (K:Frag):Sp:=fun vs H Q _=>∃(ra ba ax af ab ay:Addr) (rs:List Qr) (es xs:List (V × Rat)) (fr:List Nat) (bs yr:List Qr) (u m nb:Nat),vs=[.ref ra,.ref ba,.ref ax,.ref af,.ref ab,.ref ay]/\Eqs K H ra ba rs es u 1396 nb/\Ppr K H (rs.map fun r=>qv r.2) (qv es) u m ax af ab ay xs fr bs yr/\rs.length<=5/\u<=5/\m<=2600000/\∀H',Same H H'->Q (.bl true) H'
theorem T6 {f:Addr}{fd:FuncData} (F:Df K mg "_law_all_so" Dl ["_law_rows_here","_law_right_here","_law_x","_law_free","_law_base","_law_ys"] f fd) (O:mg "len"=none) (L:mg "enumerate"=none) (aj:mg "zip"=none) (U:mg "isinstance"=none) (a9:mg "list"=none) (a4:mg "sorted"=none) (a6:mg "range"=none) (ak:mg "set"=none)  (W:Cal P w K mg base 33 "_law_unit" ["_law_at","_law_many"] (Sq K)) (G:Cal P w K mg base 35 "_law_fractions" ["_law_thing","_law_many"] (Gx K)) (Y:Cal P w K mg base 33 "_law_list" ["_law_thing","_law_many"] (Nr K)) (Z:Cal P w K mg base 37 "_law_weighed" ["_law_ys","_law_rows_here"] (Ig K)) (a0:Cal P w K mg base 36 "_law_dot" ["_law_some","_law_others"] (Ho K)):Cal P w K mg base 38 "_law_all_so" ["_law_rows_here","_law_right_here","_law_x","_law_free","_law_base","_law_ys"] (Np K):=by
 refine F.cal (F.fn.ok Dc (fun vs H Q E h=> ?_) (fun bj A outer s H vs Q E hr h=> ?_))
 . obtain⟨ra,ba,ax,af,ab,ay,rs,es,xs,fr,bs,yr,u,m,nb,rfl,_⟩:=h
   rfl
 obtain⟨ra,ba,ax,af,ab,ay,rs,es,xs,fr,bs,yr,u,m,nb,rfl,q,I,r5,u5,hm,k⟩:=h
 have nl:(nats fr).length=fr.length:=length_map _
 have fn:=I.fn
 have el:=q.el
 refine Ax ⟨_,(Ae (Bc 6 Dc.nd (Ar Aw rfl O PySem.boot_len (Aa (Al Bp (Ac 0) Ad (fun _ _=>rfl)) Ab)))
  (Ae (Ay (Ce (Cg (Bh (Bd (Ai G hr (Aa (Ac 2) (Aa (Ac 6) Ab))))) (Cg (Bh (Bd (Ar Fo rfl U boot_isinstance (Aa (Ac 3) (Aa (Cm (v:= .ty "list") rfl a9 boot_list rfl) Ab))))) (Ca (Aq (Gi hr.units) (Ac 3) (Ar (V9 rfl) rfl a4 boot_sorted (Aa (Hu (Xn rfl) rfl ak boot_set (Aa (Ac 3) Ab)) Ab)) (Bl _)))))) (Af (Aj Bk)) Av)
  (Ae (Ay (Ce (Cg (Aq (Gi hr.units) (Bf (ts:=["_law_k"]) (fs:=[(6,"_law_many")]) rfl (Bb.of (sc:=Ak Dl) (N:=["_law_rows_here","_law_right_here","_law_x","_law_free","_law_base","_law_ys","_law_many","_law_led","_law_k","_law_one","_law_weights","_law_due","_law_j"]) rfl rfl (by decide+kernel)) (Bj (Ac 3)) (fun _ _ _=>(Ah 0 (show Nodup (["_law_k","_law_many"]:List Str)by decide+kernel))) (fun _ _ _=>(Et (Bh (Te Ae5 Yv Ad (Ac 0) (Ac 1))))) (fun _ _ _=>(Ac 0))) (Bt Ab) (Bl _)) (Ca (Bh (Bd (Ai Y hr (Aa (Ac 4) (Aa (Ar Aw rfl O PySem.boot_len (Aa (Ac 3) Ab)) Ab)))))))) (Af (Aj Bk)) Av)
  (Ae (Dk (ts:=["_law_k"]) (fs:=[(3,"_law_free")]) rfl (Bb.of (sc:=Ak Dl) (N:=["_law_rows_here","_law_right_here","_law_x","_law_free","_law_base","_law_ys","_law_many","_law_led","_law_k","_law_one","_law_weights","_law_due","_law_j"]) rfl rfl (by decide+kernel)) (Cj rfl a6 (Aa (Ac 6) Ab)) (fun _ _ _=>(Ah 0 (show Nodup (["_law_k","_law_free"]:List Str)by decide+kernel))) (fun _ _ _=>(Et (Aq (Mz K) (Ac 0) (Ac 1) rfl))) (fun _ _ _=>(Ac 0)) (Ah 7 Dc.nd))
  (Ae (Ay (Ce (Cg (Bh (Bd (Ai Y hr (Aa (Ac 5) (Aa (Ar Aw rfl O PySem.boot_len (Aa (Ac 7) Ab)) Ab))))) (Ca (Aq (Gi hr.units) (Bf (ts:=["_law_row"]) (fs:=[(2,"_law_x")]) rfl (Bb.of (sc:=Ak Dl) (N:=["_law_rows_here","_law_right_here","_law_x","_law_free","_law_base","_law_ys","_law_many","_law_led","_law_k","_law_one","_law_weights","_law_due","_law_j"]) rfl rfl (by decide+kernel)) (Bj (Ac 0)) (fun _ _ _=>(Ah 0 (show Nodup (["_law_row","_law_x"]:List Str)by decide+kernel))) (fun _ _ _=>Az) (fun _ _ _=>(Ai a0 hr (Aa (Ac 0) (Aa (Ac 1) Ab))))) (Ac 1) (Bl _))))) (Af (Aj Bk)) Av)
  (Ae (Ay (Aq (Gi hr.units) (Bf (ts:=["_law_k"]) (fs:=[(2,"_law_x")]) rfl (Bb.of (sc:=Ak Dl) (N:=["_law_rows_here","_law_right_here","_law_x","_law_free","_law_base","_law_ys","_law_many","_law_led","_law_k","_law_one","_law_weights","_law_due","_law_j"]) rfl rfl (by decide+kernel)) (Bj (Ac 3)) (fun _ _ _=>(Ah 0 (show Nodup (["_law_k","_law_x"]:List Str)by decide+kernel))) (fun _ _ _=>(Et (Aq (Qa K hr.units) (Al (Dw K) (Ac 1) (Ac 0) (fun _ _=>rfl)) (Bq (Aa Ad (Aa Ad Ab))) (Bl _)))) (fun _ _ _=>(Ac 0))) (Bt Ab) (Bl _)) (Af (Aj Bk)) Av)
  (Ae (Bu PassesOwn.never rfl (Hv rfl L (Aa (Ac 4) Ab)) (Ci rfl (Am (Ah 8 Dc.nd) (Am (Ah 9 Dc.nd) Bm))) (Ae (Ay (Ce (Cg (Bh (Bd (Ai G hr (Aa (Ac 9) (Aa (Ac 6) Ab))))) (Ca (Aq (Gi hr.units) (Bf (ts:=["_law_j"]) (fs:=[(9,"_law_one")]) rfl (Bb.of (sc:=Ak Dl) (N:=["_law_rows_here","_law_right_here","_law_x","_law_free","_law_base","_law_ys","_law_many","_law_led","_law_k","_law_one","_law_weights","_law_due","_law_j"]) rfl rfl (by decide+kernel)) (Bj (Ac 3)) (fun _ _ _=>(Ah 0 (show Nodup (["_law_j","_law_one"]:List Str)by decide+kernel))) (fun _ _ _=>Az) (fun _ _ _=>(Al (Dw K) (Ac 1) (Ac 0) (fun _ _=>rfl)))) (Ai W hr (Aa (Ac 8) (Aa (Ar Aw rfl O PySem.boot_len (Aa (Ac 3) Ab)) Ab))) (Bl _))))) (Af (Aj Bk)) Av)
  (Af (Ay (Aq (Gi hr.units) (Bf (ts:=["_law_row"]) (fs:=[(9,"_law_one")]) rfl (Bb.of (sc:=Ak Dl) (N:=["_law_rows_here","_law_right_here","_law_x","_law_free","_law_base","_law_ys","_law_many","_law_led","_law_k","_law_one","_law_weights","_law_due","_law_j"]) rfl rfl (by decide+kernel)) (Bj (Ac 0)) (fun _ _ _=>(Ah 0 (show Nodup (["_law_row","_law_one"]:List Str)by decide+kernel))) (fun _ _ _=>Az) (fun _ _ _=>(Ai a0 hr (Aa (Ac 0) (Aa (Ac 1) Ab))))) (Ao Ol (Bt (Aa (Bq (Aa Ad (Aa Ad Ab))) Ab)) (Ar Aw rfl O PySem.boot_len (Aa (Ac 0) Ab))) (Bl _)) (Af (Aj Bk)) Av))))
  (Ae (Bu PassesOwn.never rfl (Hv rfl L (Aa (Ac 5) Ab)) (Ci rfl (Am (Ah 8 Dc.nd) (Am (Ah 10 Dc.nd) Bm))) (Ae (Ay (Bh (Bd (Ai G hr (Aa (Ac 10) (Aa (Ar Aw rfl O PySem.boot_len (Aa (Ac 0) Ab)) Ab))))) (Af (Aj Bk)) Av)
  (Ae (Bc 11 Dc.nd (Ai W hr (Aa (Al Bp (Ac 7) (Ac 8) (fun _ _=>rfl)) (Aa (Ac 6) Ab))))
  (Ae (Bu PassesOwn.never rfl (Cr false false rfl aj (Aa (Ac 3) (Aa (Ac 4) Ab))) (Ci rfl (Am (Ah 12 Dc.nd) (Am (Ah 9 Dc.nd) Bm))) (Af (Cp (Bq (Aa (Ao M4 Ad (Al Br (Al Bp (Ac 9) (Al Bp (Ac 7) (Ac 8) (fun _ _=>rfl)) (fun _ _=>rfl)) Ad (fun _ _=>rfl))) (Aa (Al Br (Al Bp (Ac 9) (Al Bp (Ac 7) (Ac 8) (fun _ _=>rfl)) (fun _ _=>rfl)) Ad (fun _ _=>rfl)) Ab))) (Ed (Ac 11) (Ac 12) set_list))))
  (Af (Ay (Aq (Gi hr.units) (Ai Z hr (Aa (Ac 10) (Aa (Ac 0) Ab))) (Ac 11) (Bl _)) (Af (Aj Bk)) Av))))))
  (Af (Aj Bk)))))))))),?_⟩
 done
 obtain⟨r0,au⟩:∃r0,rs[0]? =some r0:=⟨_,getElem?_eq_getElem q.r1⟩
 have av:=List.mem_of_getElem? au
 refine Cq (.of q.qm.it) (v:= .ref r0.1) (Ba (j:=0) (by rw [getElem?_map,au];rfl)) ?_
 try done
 refine⟨r0.1,_,rfl,.inl (.of (q.qm.al r0 av).it),?_⟩
 rw [length_map,(q.zr r0 av).1]
 refine⟨ax,xs,u,rfl,I.qx,I.lx,fun H1 s1=> ?_⟩
 try done
 have p1:=I.mono s1
 refine isi (.lst p1.fl) Abv ?_
 try done
 refine⟨af,fr.map fun c:Nat=>(c:Int),rfl,by rw [<-Vi];exact .of p1.fl,by rw [length_map];omega,fun p2 aw=> ?_⟩
 try done
 refine⟨p2,_,rfl,Ag,V2 _,lt_of_le_of_lt (Afw _) (by rw [length_map];omega),fun l ms hl pm so=> ?_⟩
 have t2:=Same.upd aw (Aea (Sw CX0 P w K mg base ["_law_rows_here","_law_right_here","_law_x","_law_free","_law_base","_law_ys","_law_many","_law_led","_law_k","_law_one","_law_weights","_law_due","_law_j"] "_law_all_so" (Ak Dl) f bj A outer s H E).nox p2 (uq (fr.map fun c:Nat=>(c:Int))))
 have t3:=Same.upd hl (.lst (ms.map V.int))
 have s3:=s1.trans (t2.trans t3)
 refine Lk (ns:=fr.map fun c:Nat=>(c:Int)) (ms:=ms) (by rw [<-Vi];exact .of (s3 _ _ I.fl)) (.of Ag) ?_
 rw [decide_eq_true (Afr I.sh.fi pm so).symm]
 refine⟨_,rfl,?_⟩
 rw [if_neg (by decide)]
 generalize upd (upd H1 p2 _) l _=H3 at s3
 clear t2 t3 hl aw p1 s1
 have p3:=I.mono s3
 refine⟨⟨_,.of p3.fl⟩,fun q1 aa=>Eu (es:=fr) (inj:=fun c:Nat=>V.int (c:Nat)) (fun _=>false) (fun _=> .int 0) (le_trans (show fr.length<=6 by omega) (by decide)) aa (Ec (.of p3.fl)) ?_ ?_⟩
 . intro c H4 R RF hc s4 hR hF
   have cu:=I.sh.fl c hc
   done
   rw [if_pos (show(0:Int)<=(c:Nat)by omega),if_pos (show((c:Nat):Int)<(u:Nat)by omega)]
   exact hF rfl _ (Same.refl _)
 intro H4 s4 h4
 have en:(fr.filter fun _=>false).map (fun _=>V.int 0)=[]:=by simp
 rw [en]at h4
 refine⟨by decide,fun q2 ac=> ?_⟩
 have t5:=Same.upd ac (.lst [])
 refine Lk (ns:=[]) (ms:=[]) (.of (t5 _ _ h4)) (.of Ag) ?_
 rw [decide_eq_true rfl]
 refine⟨_,rfl,?_⟩
 rw [if_neg (by decide)]
 have s5:=s3.trans (s4.trans t5)
 generalize upd H4 q2 (.lst [])=H5 at s5
 clear t5 s4 h4 ac aa s3 p3
 have p5:=I.mono s5
 refine⟨af,_,rfl,.inl (.of p5.fl),?_⟩
 rw [nl]
 refine⟨ab,_,fr.length,rfl,p5.qb.it,by rw [length_map];exact I.lb,?_⟩
 try done
 refine⟨by omega,by omega,fun pf az=> ?_⟩
 rw [toNat_natCast]
 refine Eu (es:=List.range u) (inj:=fun j=> .int (0+(j:Nat))) (fun j=> !(fr.contains j)) (fun j=> .int (0+(j:Nat))) (by rw [length_range];exact le_trans q.u6 (by decide)) az Ft ?_ ?_
 . intro j H6 R RF hj s6 hR hF
   rw [zero_add]at hR ⊢
   done
   refine⟨af,_,rfl,.inl (.of (s6 _ _ p5.fl)),rfl,Jr fr,?_⟩
   rw [Pk]
   refine⟨_,rfl,?_⟩
   rw [if_pos rfl]
   cases hc: !fr.contains j with
   | true=>
     rw [if_pos rfl]
     exact hR hc _ (Same.refl _)
   | false=>
     rw [if_neg (by decide)]
     exact hF hc _ (Same.refl _)
 intro H6 s6 h6
 have am:H6 pf=some (.lst (nats (frees fr u))):=by
  rw [h6]
  unfold nats frees
  simp only [zero_add]
 try done
 have bl:(nats (frees fr u)).length=yr.length:=by rw [I.ly];exact length_map _
 have ad:=s5.trans s6
 clear s5 s6 h6 az p5
 have p6:=I.mono ad
 have q6:=q.mono ad
 refine⟨pf,_,rfl,.inl (.of am),?_⟩
 rw [bl]
 refine⟨ay,_,yr.length,rfl,p6.qy.it,by rw [length_map],?_⟩
 try done
 have b0:(1396+m+1)*u+1<=134217728:=le_trans (Nat.add_le_add_right (mul_le_mul (show 1396+m+1<=2602000 by omega) u5) 1) (by decide)
 refine⟨⟨_,.of q6.qm.it⟩,fun q3 b1=> ?_⟩
 refine Lh b1 q6.qm p6.qx (by omega) I.lx q.u6 q.zr I.zx b0 fun gs H7 s7 g7 e7 z7=> ?_
 refine Wh g7 (q6.qb.mono s7) ?_
 rw [decide_eq_true (by rw [e7,<-I.sh.sx,map_map];rfl)]
 refine⟨_,rfl,?_⟩
 rw [if_neg (by decide)]
 have an:=ad.trans s7
 have h7:=s7 _ _ am
 clear g7 e7 z7 b1 s7 am p6 q6 ad
 have p7:=I.mono an
 refine⟨⟨_,.of p7.fl⟩,fun q4 ae=>Eu (es:=fr) (inj:=fun c:Nat=>V.int (c:Nat)) (fun _=>false) (fun _=> .int 0) (le_trans (show fr.length<=6 by omega) (by decide)) ae (Ec (.of p7.fl)) ?_ ?_⟩
 . intro c H8 R RF hc s8 hR hF
   have cu:=I.sh.fl c hc
   have g8:=p7.qx.mono s8
   obtain⟨e,ee⟩:∃e,xs[c]? =some e:=⟨_,getElem?_eq_getElem (by rw [I.lx];exact cu)⟩
   have ec:=I.sh.xz c hc
   rw [Gu ee]at ec
   done
   refine Cq (.of g8.it) (v:=e.1) (Ba (by rw [getElem?_map,ee];rfl)) ?_
   intro p4 h4
   have t4:=Same.upd h4 (.tup [.int 0,.int 1])
   refine Mq ((g8.al e (List.mem_of_getElem? ee)).mono t4) (Gh Ag) ?_
   rw [decide_eq_true ec]
   refine⟨_,rfl,?_⟩
   rw [if_neg (by decide)]
   exact hF rfl _ t4
 intro H8 s8 h8
 rw [en]at h8
 refine⟨by decide,fun q5 b2=> ?_⟩
 have t9:=Same.upd b2 (.lst [])
 refine Lk (ns:=[]) (ms:=[]) (.of (t9 _ _ h8)) (.of Ag) ?_
 rw [decide_eq_true rfl]
 refine⟨_,rfl,?_⟩
 rw [if_neg (by decide)]
 have a7:=an.trans (s8.trans t9)
 have h9:=t9 _ _ (s8 _ _ h7)
 generalize upd H8 q5 (.lst [])=H9 at a7 h9
 clear t9 s8 h8 b2 ae an p7 h7
 have p9:=I.mono a7
 have lb:=I.lb
 refine⟨⟨_,.of p9.qb.it⟩,Va (es:=bs) (inj:=fun r=>V.ref r.1) (fun J M H'=>∃o8 o9:Option V,M=[some (.ref ra),some (.ref ba),some (.ref ax),some (.ref af),some (.ref ab),some (.ref ay),some (.int (u:Nat)),some (.ref pf),o8,o9,none,none,none]/\Same H9 H') ⟨_,_,rfl,Same.refl _⟩ ?_ ?_ ?_⟩
 . rintro J M H' ⟨o8,o9,rfl,sm⟩
   exact .of (sm _ _ p9.qb.it)
 . rintro J r b3 M H1 c hE ⟨o8,o9,rfl,sm⟩ hc
   have sb:=Same.upd hc (.tup [V.int (J.length:Nat),V.ref r.1])
   refine Eb (.of Ag) ?_
   generalize upd H1 c (.tup [V.int (J.length:Nat),V.ref r.1])=H2 at sb
   have er:bs[J.length]? =some r:=by rw [hE,getElem?_append_right (le_refl _),sub_self];rfl
   have rm:=List.mem_of_getElem? er
   have pl:J.length<fr.length:=by have:=(List.getElem?_eq_some_iff.mp er).1;omega
   have a5:=sm.trans sb
   have p2:=p9.mono a5
   done
   refine⟨r.1,r.2,u,rfl,p2.qb.al r rm,I.bu r rm,fun H3 s3=> ?_⟩
   try done
   have p3:=p2.mono s3
   have g3:=p3.qb.al r rm
   refine⟨⟨_,.of p3.fl⟩,fun q1 aa=>Jf (es:=fr) (inj:=fun c:Nat=>V.int (c:Nat)) (fun j v H=>IsQ K H v (qf (qv r.2) j)) (le_trans (show fr.length<=6 by omega) (by decide)) aa (Ec (.of p3.fl)) (fun e v H H' h s=>h.mono s) (fun e v H bx o h hp=>h.put hp) ?_ ?_⟩
   . intro j H4 R hj s4 hR
     done
     have g4:=g3.mono s4
     obtain⟨e,ee⟩:∃e,r.2[j]? =some e:=⟨_,getElem?_eq_getElem (by rw [I.bu r rm];exact I.sh.fl j hj)⟩
     refine Cq (.of g4.it) (v:=e.1) (Ba (by rw [getElem?_map,ee];rfl)) ?_
     exact hR _ _ (Same.refl _) (by rw [Gu ee];exact g4.al e (List.mem_of_getElem? ee))
   intro ns H4 bm ae s4 h4
   obtain⟨g1,g2⟩:=Rv (K:=K) (f:=fun j:Nat=>qf (qv r.2) j) h4 bm ae
   have p4:=p3.mono s4
   refine⟨af,_,rfl,.inl (.of p4.fl),?_⟩
   rw [nl]
   refine⟨J.length,fr.length,rfl,pl,by omega,fun z gs H5 nz s5 g5 e5=> ?_⟩
   refine Wh (g1.mono s5) g5 ?_
   have e6:fr.map (fun j:Nat=>qf (qv r.2) j)=(List.range fr.length).map (fun j=>if j=J.length then(1:Rat)else 0):=by
    refine List.ext_getElem? fun i=> ?_
    rw [getElem?_map,getElem?_map]
    by_cases hi:i<fr.length
    . obtain⟨f',ef⟩:∃f',fr[i]? =some f':=⟨_,getElem?_eq_getElem hi⟩
      rw [ef,getElem?_range hi]
      exact congrArg some (I.sh.bf _ i _ f' (K8 er) ef)
    . rw [getElem?_eq_none (by omega),getElem?_eq_none (by rw [length_range];omega)]
      rfl
   rw [decide_eq_true (by rw [g2,e5,e6])]
   refine⟨_,rfl,?_⟩
   rw [if_neg (by decide)]
   have b4:=s3.trans (s4.trans s5)
   have a8:=a7.trans (a5.trans b4)
   have q5:=q.mono a8
   refine⟨⟨_,.of q5.qm.it⟩,fun q2 ac=> ?_⟩
   refine Lh ac q5.qm (g3.mono (s4.trans s5)) (by omega) (I.bu r rm) q.u6 q.zr (I.zb r rm) b0 fun c0 H6 s6 g6 e7 z6=> ?_
   intro p7 ao
   have t7:=Same.upd ao (.tup [.int 0,.int 1])
   intro p8 bn
   have t8:=Same.upd bn (.lst [.ref p7])
   have h7:=t8 _ _ (Ag (H:=H6) (a:=p7) (o:= .tup [.int 0,.int 1]))
   have s8:=t7.trans t8
   have b5:=a8.trans (s6.trans s8)
   have h8:=Ag (H:=upd H6 p7 (.tup [.int 0,.int 1])) (a:=p8) (o:= .lst [.ref p7])
   generalize upd (upd H6 p7 (.tup [.int 0,.int 1])) p8 (.lst [.ref p7])=H8 at t8 h7 s8 b5 h8
   refine⟨ra,_,rfl,.inl (.of (b5 _ _ q.qm.it)),?_⟩
   rw [length_map]
   refine⟨p8,_,_,rfl,rfl,h8,by omega,by omega,by rw [length_singleton,toNat_natCast];exact le_trans (show 1*rs.length<=6 by omega) (by decide),fun b6 bo=> ?_⟩
   rw [toNat_natCast,flatten_replicate_singleton]
   have t9:=Same.upd bo (.lst (replicate rs.length (V.ref p7)))
   have g9:Ql K (upd H8 b6 (.lst (replicate rs.length (V.ref p7)))) b6 (replicate rs.length (V.ref p7,(0:Rat))):=⟨by rw [Ag,map_replicate],fun e he=>by rw [eq_of_mem_replicate he];exact Gh (t9 _ _ h7)⟩
   refine Wh (g6.mono (s8.trans t9)) g9 ?_
   have e9:rs.map (fun r'=>dq (qv r'.2) (qv r.2))=replicate rs.length (0:Rat):=by
    refine List.eq_replicate_iff.mpr ⟨length_map _,fun x hx=> ?_⟩
    obtain⟨r',bp,rfl⟩:=mem_map.mp hx
    exact I.sh.bz _ (Rb rm) _ (Rb bp)
   rw [decide_eq_true (by rw [e7,e9,qv,map_replicate])]
   refine⟨_,rfl,?_⟩
   rw [if_neg (by decide)]
   exact⟨_,_,rfl,a5.trans (b4.trans (s6.trans (s8.trans t9)))⟩
 rintro M bq ⟨o8,o9,rfl,sm⟩
 done
 have ap:=a7.trans sm
 have b7:=sm _ _ h9
 clear a7 h9 p9 sm
 have b8:=I.mono ap
 refine⟨⟨_,.of b8.qy.it⟩,Va (es:=yr) (inj:=fun r=>V.ref r.1) (fun J M H'=>∃o8 o9 ag ah a3:Option V,M=[some (.ref ra),some (.ref ba),some (.ref ax),some (.ref af),some (.ref ab),some (.ref ay),some (.int (u:Nat)),some (.ref pf),o8,o9,ag,ah,a3]/\Same bq H') ⟨_,_,_,_,_,rfl,Same.refl _⟩ ?_ ?_ ?_⟩
 . rintro J M H' ⟨o8,o9,ag,ah,a3,rfl,sm⟩
   exact .of (sm _ _ b8.qy.it)
 . rintro J y b3 M H1 c hE ⟨o8,o9,ag,ah,a3,rfl,sm⟩ hc
   have sb:=Same.upd hc (.tup [V.int (J.length:Nat),V.ref y.1])
   refine Eb (.of Ag) ?_
   generalize upd H1 c (.tup [V.int (J.length:Nat),V.ref y.1])=H2 at sb
   have ey:yr[J.length]? =some y:=by rw [hE,getElem?_append_right (le_refl _),sub_self];rfl
   have ym:=List.mem_of_getElem? ey
   have pl:J.length<yr.length:=(List.getElem?_eq_some_iff.mp ey).1
   obtain⟨d,ed⟩:∃d,(frees fr u)[J.length]? =some d:=⟨_,getElem?_eq_getElem (by rw [<-I.ly];exact pl)⟩
   have du:=(Vc ed).1
   have a5:=sm.trans sb
   have aq:=ap.trans a5
   done
   refine⟨ra,_,rfl,.inl (.of (aq _ _ q.qm.it)),?_⟩
   rw [length_map]
   have yl:y.2.length=rs.length:=by have:=I.yu y ym;rwa [length_map]at this
   refine⟨y.1,y.2,rs.length,rfl,(I.mono aq).qy.al y ym,yl,fun H3 s3=> ?_⟩
   try done
   have ar:=a5.trans s3
   refine Cq (.of (ar _ _ b7)) (v:= .int (d:Nat)) (Ba (G8 ed)) ?_
   refine⟨d,u,rfl,du,q.u6,fun z as H4 nz s4 q4 b9=> ?_⟩
   try done
   have c1:(qv as).length=u:=by rw [b9,length_map,length_range]
   have bb:=aq.trans s3
   have p3:=I.mono bb
   have h3:=ar _ _ b7
   have gf:=s4 _ _ p3.fl
   have gb:=p3.qb.mono s4
   refine⟨af,ab,rfl,⟨_,show SqL K H4 af _ from .of gf⟩,⟨_,show SqL K H4 ab _ from .of gb.it⟩,Jh (xs:=nats fr) (ys:=bs.map fun r=>V.ref r.1) fr.length (by rw [nl,length_map];omega) (fun i M H'=>∃o9 a3:Option V,M=[some (.ref ra),some (.ref ba),some (.ref ax),some (.ref af),some (.ref ab),some (.ref ay),some (.int (u:Nat)),some (.ref pf),some (.int (J.length:Nat)),o9,some (.ref y.1),some (.ref z),a3]/\Bsi K H3 H' z (qv as) (fun k=> -(qf (Agm bs k) d)) fr i) ⟨_,_,rfl,s4,as,q4,Sti.start _ _ _⟩ ?_ ?_ ?_⟩
   . rintro i M H' ⟨o9,a3,rfl,bi⟩
     exact⟨show SqL K H' af _ from .of (bi.sm _ _ p3.fl),show SqL K H' ab _ from .of (bi.sm _ _ p3.qb.it)⟩
   . rintro i M H5 b hi ⟨o9,a3,rfl,bi⟩ br
     obtain⟨c2,ql,st⟩:=bi.ex
     obtain⟨x,ex⟩:∃x,fr[i]? =some x:=⟨_,getElem?_eq_getElem hi⟩
     obtain⟨r,er⟩:∃r,bs[i]? =some r:=⟨_,getElem?_eq_getElem (by omega)⟩
     have rm:=List.mem_of_getElem? er
     have v2:(bs.map fun r=>V.ref r.1).getD i .non= .ref r.1:=by rw [getD_eq_getElem?_getD,getElem?_map,er];rfl
     rw [Gz ex,v2]
     have ai:=Same.upd br (.tup [.int (x:Nat),.ref r.1])
     refine Eb (.of Ag) ?_
     generalize upd H5 b (.tup [V.int (x:Nat),.ref r.1])=H6 at ai
     obtain⟨e,ee⟩:∃e,r.2[d]? =some e:=⟨_,getElem?_eq_getElem (by rw [I.bu r rm];exact du)⟩
     have bc:=bi.sm.trans ai
     have g6:=(p3.qb.al r rm).mono bc
     have bd:=bc _ _ h3
     obtain⟨ea,be,bg⟩:=g6.al e (List.mem_of_getElem? ee)
     done
     refine Cq (.of bd) (v:= .int (d:Nat)) (Ba (G8 ed)) ?_
     refine Cq (.of g6.it) (v:= .ref ea) (Ba (by rw [getElem?_map,ee,<-be];rfl)) ?_
     refine Cd bg (v:= .int e.2.num) (at0 _ _) ?_
     try done
     refine Cq (.of bd) (v:= .int (d:Nat)) (Ba (G8 ed)) ?_
     refine Cq (.of g6.it) (v:= .ref ea) (Ba (by rw [getElem?_map,ee,<-be];rfl)) ?_
     refine Cd bg (v:= .int (e.2.den:Int)) (at1 _ _ _) ?_
     intro p7 ao
     have t7:=Same.upd ao (.tup [.int (0-e.2.num),.int (e.2.den:Int)])
     have i7:IsQ K (upd H6 p7 (.tup [.int (0-e.2.num),.int (e.2.den:Int)])) (.ref p7) (-e.2):=Acw Ag
     try done
     generalize upd H6 p7 (.tup [.int (0-e.2.num),.int (e.2.den:Int)])=H7 at t7 i7
     have bh:=ql.mono (ai.trans t7)
     have xu:=I.sh.fl x (List.mem_of_getElem? ex)
     refine N6 (j:=x) bh.it (by rw [length_map];have:=st.ln;rw [length_map]at this;omega) ?_
     refine⟨_,_,rfl,Bsi.step (H1:=H) (bi.sm.trans (ai.trans t7)) nz bh st I.sh.fi ex (by omega) ?_⟩
     rw [O9 er,Gu ee]
     exact i7
   rintro M H5 ⟨bt,bw,rfl,bi⟩
   obtain⟨zs,ql,st⟩:=bi.ex
   obtain⟨a1,a2⟩:=st.done rfl
   have zl:(qv zs).length=u:=by have:=st.ln;omega
   done
   have a8:=bb.trans bi.sm
   refine⟨y.1,ra,y.2,rs,u,m,rfl,(I.mono a8).qy.al y ym,q.qm.mono a8,yl,q.r1,r5,u5,q.zr,I.zy y ym,hm,fun z' gs H6 c3 s6 g6 e6=> ?_⟩
   refine Wh g6 (ql.mono s6) ?_
   have e7:qv gs=qv zs:=by
    rw [e6]
    refine List.ext_getElem? fun j=> ?_
    rw [getElem?_map]
    by_cases hj:j<u
    . rw [getElem?_range hj,getElem?_eq_getElem (show j<(qv zs).length by omega)]
      have e8:(qv zs)[j]'(by omega)=qf (qv zs) j:=by
       unfold qf
       rw [getD_eq_getElem?_getD,getElem?_eq_getElem (by omega)]
       rfl
      rw [e8]
      refine congrArg some ?_
      by_cases hf:j∈fr
      . obtain⟨i,hi⟩:=getElem?_of_mem hf
        have il:=(List.getElem?_eq_some_iff.mp hi).1
        obtain⟨r,er⟩:∃r,bs[i]? =some r:=⟨_,getElem?_eq_getElem (by omega)⟩
        rw [a2 i j hi,O9 er]
        exact I.sh.yf _ i _ d j _ (K8 ey) ed hi (K8 er)
      . rw [a1 j hf,b9]
        have eu:qf ((List.range u).map fun j=>if j=d then(1:Rat)else 0) j=if j=d then 1 else 0:=by
         unfold qf
         rw [getD_eq_getElem?_getD,getElem?_map,getElem?_range hj]
         rfl
        rw [eu]
        exact I.sh.yl _ _ d (K8 ey) ed j hj hf
    . rw [getElem?_eq_none (by rw [length_range];omega),getElem?_eq_none (by omega)]
      rfl
   rw [decide_eq_true e7]
   refine⟨_,rfl,?_⟩
   rw [if_neg (by decide)]
   exact⟨_,_,_,_,_,rfl,ar.trans (bi.sm.trans s6)⟩
 rintro M bv ⟨c4,bt,ag,ah,a3,rfl,sm⟩
 done
 exact k bv (ap.trans sm)
theorem Aal {H:Hp}{a:Addr} (h:H a=some (.tup [.int 1,.int 1])):IsQ K H (.ref a) 1:=⟨a,rfl,.of h⟩
theorem V1:V.str "all"≠V.str "none":=by
 intro h
 injection h with h
 exact absurd h (by decide)
def Us (K:Frag):Sp:=fun vs H Q _=>∃(ra ba z:Addr) (rs:List Qr) (es:List (V × Rat)) (u m nb:Nat),vs=[.ref ra,.ref ba,.ref z]/\Eqs K H ra ba rs es u 1396 nb/\Pap K H z (rs.map fun r=>qv r.2) (qv es) u m/\rs.length<=5/\u<=5/\m<=2600000/\nb<=100000/\∀H',Same H H'->Q (.bl true) H'
theorem Ac0 {f:Addr}{fd:FuncData} (F:Df K mg "_law_so" Zc ["_law_rows_here","_law_right_here","_law_paper"] f fd) (I:mg "len"=none)  (G:Cal P w K mg base 38 "_law_all_so" ["_law_rows_here","_law_right_here","_law_x","_law_free","_law_base","_law_ys"] (Np K)) (y:Cal P w K mg base 37 "_law_weighed" ["_law_ys","_law_rows_here"] (Ig K)) (d:Cal P w K mg base 35 "_law_fractions" ["_law_thing","_law_many"] (Gx K)) (J:Cal P w K mg base 36 "_law_dot" ["_law_some","_law_others"] (Ho K)):Cal P w K mg base 39 "_law_so" ["_law_rows_here","_law_right_here","_law_paper"] (Us K):=by
 refine F.cal (F.fn.ok Adl (fun vs H Q E h=> ?_) (fun a4 A outer s H vs Q E O h=> ?_))
 . obtain⟨ra,ba,z,M,es,u,m,nb,rfl,_⟩:=h
   rfl
 obtain⟨ra,ba,z,M,es,u,m,nb,rfl,q,pz,r5,u5,hm,a5,k⟩:=h
 refine Ax ⟨_,(Ae (Ay (Aq Gf (Al Br (Ac 2) Ad (fun _ _=>rfl)) Cy (Bl _)) (Ae (Ay (Ce (Cg (Bh (Bd (Ai d O (Aa (Al Br (Ac 2) Ad (fun _ _=>rfl)) (Aa (Ar Aw rfl I PySem.boot_len (Aa (Ac 0) Ab)) Ab))))) (Ca (Aq (Gi O.units) (Ai J O (Aa (Al Br (Ac 2) Ad (fun _ _=>rfl)) (Aa (Ac 1) Ab))) (Bq (Aa Ad (Aa Ad Ab))) (Bl _))))) (Af (Aj Bk)) Av)
  (Af (Aj (Bx (Abx O.units) (Ai y O (Aa (Al Br (Ac 2) Ad (fun _ _=>rfl)) (Aa (Ac 0) Ab))) (Ao Ol (Bt (Aa (Bq (Aa Ad (Aa Ad Ab))) Ab)) (Ar Aw rfl I PySem.boot_len (Aa (Al Bp (Ac 0) Ad (fun _ _=>rfl)) Ab))) (Bl _))))) Av)
  (Af (Aj (Ai G O (Aa (Ac 0) (Aa (Ac 1) (Aa (Al Br (Ac 2) Ad (fun _ _=>rfl)) (Aa (Al Br (Ac 2) Ad (fun _ _=>rfl)) (Aa (Al Br (Ac 2) Ad (fun _ _=>rfl)) (Aa (Al Br (Ac 2) Ad (fun _ _=>rfl)) Ab)))))))))),?_⟩
 done
 rcases pz with⟨ay,ys,h,p⟩ | ⟨ax,af,ab,ay,xs,fr,bs,yr,h,p⟩
 . refine Cd (.of h) (v:= .str "none") (at0 _ _) ?_
   refine⟨rfl,true,congrArg V.bl (decide_eq_true rfl),?_⟩
   rw [if_pos rfl]
   refine Cd (.of h) (v:= .ref ay) (Ba (j:=1) rfl) ?_
   refine⟨ra,_,rfl,.inl (.of q.qm.it),?_⟩
   rw [length_map]
   have yl:ys.length=M.length:=by rw [p.ln,length_map]
   refine⟨ay,ys,M.length,rfl,p.qy,yl,fun H1 s1=> ?_⟩
   try done
   have h1:=s1 _ _ h
   have p1:=p.mono s1
   have q1:=q.mono s1
   refine Cd (.of h1) (v:= .ref ay) (Ba (j:=1) rfl) ?_
   refine⟨ay,ba,ys,es,m,nb,M.length,rfl,p1.qy,q1.qb,yl,q.el,q.r6,p.zy,q.zb,le_trans (Nat.add_le_add_right (mul_le_mul (show m+nb+1<=2700001 by omega) r5) 1) (by decide),fun v H2 s2 h2 z2=> ?_⟩
   intro p3 a0
   have t3:=Same.upd a0 (.tup [.int 1,.int 1])
   refine Mq (h2.mono t3) (Aal Ag) ?_
   rw [decide_eq_true p.y1]
   refine⟨_,rfl,?_⟩
   rw [if_neg (by decide)]
   have W:=s1.trans (s2.trans t3)
   generalize upd H2 p3 (.tup [.int 1,.int 1])=H3 at W
   have p3:=p.mono W
   have q3:=q.mono W
   refine Cd (.of (W _ _ h)) (v:= .ref ay) (Ba (j:=1) rfl) ?_
   refine⟨ay,ra,ys,M,u,m,rfl,p3.qy,q3.qm,yl,q.r1,r5,u5,q.zr,p.zy,hm,fun z' gs H4 a6 s4 g4 e4=> ?_⟩
   intro L a1
   have t7:=Same.upd a1 (.tup [.int 0,.int 1])
   intro p8 a2
   have t8:=Same.upd a2 (.lst [.ref L])
   have h7:=t8 _ _ (Ag (H:=H4) (a:=L) (o:= .tup [.int 0,.int 1]))
   have s8:=t7.trans t8
   have h8:=Ag (H:=upd H4 L (.tup [.int 0,.int 1])) (a:=p8) (o:= .lst [.ref L])
   generalize upd (upd H4 L (.tup [.int 0,.int 1])) p8 (.lst [.ref L])=H8 at t8 h7 s8 h8
   have q8:=q3.mono (s4.trans s8)
   obtain⟨U,Y⟩:∃U,M[0]? =some U:=⟨_,getElem?_eq_getElem q.r1⟩
   have Z:=List.mem_of_getElem? Y
   refine Cq (.of q8.qm.it) (v:= .ref U.1) (Ba (j:=0) (by rw [getElem?_map,Y];rfl)) ?_
   refine⟨U.1,_,rfl,.inl (.of (q8.qm.al U Z).it),?_⟩
   rw [length_map,(q.zr U Z).1]
   refine⟨p8,_,_,rfl,rfl,h8,by omega,by omega,by rw [length_singleton,toNat_natCast];exact le_trans (show 1*u<=6 by omega) (by decide),fun p9 a3=> ?_⟩
   rw [toNat_natCast,flatten_replicate_singleton]
   have t9:=Same.upd a3 (.lst (replicate u (V.ref L)))
   have g9:Ql K (upd H8 p9 (.lst (replicate u (V.ref L)))) p9 (replicate u (V.ref L,(0:Rat))):=⟨by rw [Ag,map_replicate],fun e he=>by rw [eq_of_mem_replicate he];exact Gh (t9 _ _ h7)⟩
   refine Wh (g4.mono (s8.trans t9)) g9 ?_
   have e9:(List.range u).map (fun j=>dq (qv ys) ((M.map fun r=>qv r.2).map (qf · j)))=replicate u (0:Rat):=by
    refine List.eq_replicate_iff.mpr ⟨by rw [length_map,length_range],fun x hx=> ?_⟩
    obtain⟨j,hj,rfl⟩:=mem_map.mp hx
    exact p.y0 j (mem_range.mp hj)
   rw [decide_eq_true (by rw [e4,e9,qv,map_replicate])]
   exact k _ (W.trans (s4.trans (s8.trans t9)))
 . refine Cd (.of h) (v:= .str "all") (at0 _ _) ?_
   refine⟨rfl,false,congrArg V.bl (decide_eq_false V1),?_⟩
   rw [if_neg (by decide)]
   refine Cd (.of h) (v:= .ref ax) (Ba (j:=1) rfl) ?_
   refine Cd (.of h) (v:= .ref af) (Ba (j:=2) rfl) ?_
   refine Cd (.of h) (v:= .ref ab) (Ba (j:=3) rfl) ?_
   refine Cd (.of h) (v:= .ref ay) (Ba (j:=4) rfl) ?_
   exact⟨ra,ba,ax,af,ab,ay,M,es,xs,fr,bs,yr,u,m,nb,rfl,q,p,r5,u5,hm,k⟩
def O1 (K:Frag):Sp:=Us K
theorem Wv {f:Addr}{fd:FuncData} (F:Df K mg "_law_right" Ng ["_law_rows_here","_law_right_here","_law_paper"] f fd) (d:mg "isinstance"=none) (G:mg "tuple"=none) (M:mg "str"=none) (O:mg "len"=none) (U:mg "int"=none)  (y:Cal P w K mg base 33 "_law_behind" ["_law_paper"] (Nq K)) (I:Cal P w K mg base 39 "_law_so" ["_law_rows_here","_law_right_here","_law_paper"] (Us K)):Cal P w K mg base 40 "_law_right" ["_law_rows_here","_law_right_here","_law_paper"] (O1 K):=by
 refine F.cal (F.fn.ok W3 (fun vs H Q E h=> ?_) (fun a1 A outer s H vs Q E hr h=> ?_))
 . obtain⟨ra,ba,z,rs,es,u,m,nb,rfl,_⟩:=h
   rfl
 obtain⟨ra,ba,z,rs,es,u,m,nb,rfl,q,pz,r5,u5,hm,a0,k⟩:=h
 refine Ax ⟨_,(Ae (Ay (Ce (Cg (Bh (Bd (Ar Jo rfl d boot_isinstance (Aa (Ac 2) (Aa (Cm (v:= .ty "tuple") rfl G boot_tuple rfl) Ab))))) (Cg (Bh (Bd (Ar Fo rfl d boot_isinstance (Aa (Al Br (Ac 2) Ad (fun _ _=>rfl)) (Aa (Cm (v:= .ty "str") rfl M boot_str rfl) Ab))))) (Ca (Aq Hx (Al Br (Ac 2) Ad (fun _ _=>rfl)) (Bq (Aa Cy (Aa Cy Ab))) rfl))))) (Af (Aj Bk)) Av)
  (Ae (Ay (Ce (Cg (Aq Rp (Ar Aw rfl O PySem.boot_len (Aa (Ac 2) Ab)) (Al Bp (Bt (Aa Ad (Aa Ad Ab))) (Hu Xm rfl U boot_int (Aa (Bx Gf (Al Br (Ac 2) Ad (fun _ _=>rfl)) Cy (Bl _)) Ab)) (fun _ _=>rfl)) (Bl _)) (Ca (Bh (Bd (Ai I hr (Aa (Ac 0) (Aa (Ac 1) (Aa (Ac 2) Ab))))))))) (Af (Aj Bk)) Av)
  (Af (Aj (Z8 (Bx Gf (Al Br (Ac 2) Ad (fun _ _=>rfl)) Cy (Bl _)) (Dn (Ai y hr (Aa (Ac 2) Ab)))))))),?_⟩
 done
 rcases id pz with⟨ay,ys,h,p⟩ | ⟨ax,af,ab,ay,xs,fr,bs,yr,h,p⟩
 . refine isa (.tup (.of h)) Oi ?_
   rw [if_neg (by decide)]
   refine Cd (.of h) (v:= .str "none") (at0 _ _) ?_
   refine isi (.str _) Vg ?_
   rw [if_neg (by decide)]
   refine Cd (.of h) (v:= .str "none") (at0 _ _) ?_
   intro p2 W
   have Y:=Same.upd W (.tup [.str "none",.str "all"])
   refine⟨p2,_,rfl,.inr (.of Ag),rfl,rfl,false,by decide,?_⟩
   rw [if_neg (by decide)]
   generalize upd H p2 (.tup [.str "none",.str "all"])=H2 at Y
   have g2:=Y _ _ h
   refine⟨z,_,rfl,.inr (.of g2),fun p3 Z=> ?_⟩
   have t3:=Same.upd Z (.lst [.int 5,.int 2])
   have J:=t3 _ _ g2
   refine Cd (.of J) (v:= .str "none") (at0 _ _) ?_
   refine⟨rfl,.inr ⟨true,congrArg (fun v=>[V.bl v]) (decide_eq_true rfl),?_⟩⟩
   refine Cq (.of Ag) (v:= .int 2) rfl ?_
   generalize upd H2 p3 (.lst [.int 5,.int 2])=H3 at t3 J
   refine⟨rfl,false,rfl,?_⟩
   rw [if_neg (by decide)]
   have L:=Y.trans t3
   refine⟨ra,ba,z,rs,es,u,m,nb,rfl,q.mono L,pz.mono L,r5,u5,hm,a0,fun H4 s4=>⟨true,rfl,?_⟩⟩
   rw [if_neg (by decide)]
   refine Cd (.of (s4 _ _ J)) (v:= .str "none") (at0 _ _) ?_
   refine⟨rfl,true,congrArg V.bl (decide_eq_true rfl),?_⟩
   rw [if_pos rfl]
   exact k _ (L.trans s4)
 . refine isa (.tup (.of h)) Oi ?_
   rw [if_neg (by decide)]
   refine Cd (.of h) (v:= .str "all") (at0 _ _) ?_
   refine isi (.str _) Vg ?_
   rw [if_neg (by decide)]
   refine Cd (.of h) (v:= .str "all") (at0 _ _) ?_
   intro p2 W
   have Y:=Same.upd W (.tup [.str "none",.str "all"])
   refine⟨p2,_,rfl,.inr (.of Ag),rfl,rfl,false,by decide,?_⟩
   rw [if_neg (by decide)]
   generalize upd H p2 (.tup [.str "none",.str "all"])=H2 at Y
   have g2:=Y _ _ h
   refine⟨z,_,rfl,.inr (.of g2),fun p3 Z=> ?_⟩
   have t3:=Same.upd Z (.lst [.int 5,.int 2])
   have J:=t3 _ _ g2
   refine Cd (.of J) (v:= .str "all") (at0 _ _) ?_
   refine⟨rfl,.inr ⟨false,congrArg (fun v=>[V.bl v]) (decide_eq_false V1),?_⟩⟩
   refine Cq (.of Ag) (v:= .int 5) rfl ?_
   generalize upd H2 p3 (.lst [.int 5,.int 2])=H3 at t3 J
   refine⟨rfl,false,rfl,?_⟩
   rw [if_neg (by decide)]
   have L:=Y.trans t3
   refine⟨ra,ba,z,rs,es,u,m,nb,rfl,q.mono L,pz.mono L,r5,u5,hm,a0,fun H4 s4=>⟨true,rfl,?_⟩⟩
   rw [if_neg (by decide)]
   refine Cd (.of (s4 _ _ J)) (v:= .str "all") (at0 _ _) ?_
   refine⟨rfl,false,congrArg V.bl (decide_eq_false V1),?_⟩
   rw [if_neg (by decide)]
   have p4:=p.mono (L.trans s4)
   have fn:=p.fn
   exact⟨z,af,ab,.str "all",.ref ax,.ref ay,fr,bs,u,rfl,s4 _ _ J,p4.fl,p4.qb,p.lb,by omega,by omega,p.sh.fl,p.bu,fun j g f' hg hf=>p.sh.bh j _ f' (K8 hg) hf,fun H5 s5=>k _ (L.trans (s4.trans s5))⟩
theorem U9:∀d:List Qr,PyData.eqvAll (d.map Sy) (d.map Sy)=true
 | []=>rfl
 | c::cs=>by
   have h2:=U9 cs
   simp only [map_cons,PyData.eqvAll,Sy,PyData.eqv,Jq,decide_eq_true,h2,Bool.and_self]
abbrev hdD (rs:List Qr) (es:List (V × Rat)):PyData:= .tuple [.list (rs.map Sy),.list (((qv es).map pq).map fun c=>PyData.tuple [.int c.1,.int c.2])]
theorem Aeo {H:Hp}{g:Bool->Bool}{Q:VK}{a b:Addr}{rs:List Qr}{es:List (V × Rat)} (F:RdD K H (.ref a) (hdD rs es)) (G:RdD K H (.ref b) (hdD rs es)) (h:Q (.bl (g true)) H):Ab6 K g (.ref a) (.ref b) H Q:=by
 have d:=Pn rs
 have q:=Ln ((qv es).map pq)
 have I:=Ph rs
 have J:=Lj ((qv es).map pq)
 have y:SeqAt.shaped (hdD rs es)=true:=by
  rw [hdD]
  generalize rs.map Sy=ds at d I ⊢
  generalize ((qv es).map pq).map (fun c=>PyData.tuple [.int c.1,.int c.2])=L at q J ⊢
  simp [SeqAt.shaped,PyData.canLay0,PyData.canLayAll0,PyData.depth,PyData.depthAll,d,q]
  omega
 refine⟨_,_,F,G,y,y,?_⟩
 have e:PyData.eqv (hdD rs es) (hdD rs es)=true:=by
  simp only [PyData.eqv,PyData.eqvAll,U9,Jq,decide_eq_true,Bool.and_self]
 rw [e]
 exact h
theorem Adi {H:Hp}{z a b:Addr}{rs qs:List Qr}{es fs:List (V × Rat)} (h:H z=some (.tup [.ref a,.ref b])) (d:Qm K H a rs) (q:Ql K H b es) (y:rs.map Sy=qs.map Sy) (F:qv es=qv fs):RdD K H (.ref z) (hdD qs fs):=by
 rw [hdD,<-y,<-F]
 exact .tup (.of h) (.cons (.lst (.of d.it) (Adj d.al)) (.cons (.lst (.of q.it) (Za q.al)) .nil))
theorem Ae1:kitOne K (.type "tuple") (.type "list")=some false:=Acx (by decide+kernel)
theorem Ae0:kitOne K (.type "int") (.type "list")=some false:=Acx (by decide+kernel)
def Fv (K:Frag) (H:Hp) (v:V):Prop:=(∃i,v= .int i)\/∃a xs,v= .ref a/\SqT K H a xs
theorem Fv.put {H:Hp}{v:V}{p:Addr}{d:List V}{o:HO} (h:Fv K H v) (q:H p=some (.lst d)):Fv K (upd H p o) v:=by
 rcases h with h | ⟨a,xs,e,t⟩
 . exact .inl h
 . exact .inr ⟨a,xs,e,Qo t q⟩
structure Mut (K:Frag) (H0 H':Hp) (fl dp:Addr->Prop) (n:Nat):Prop where
 sm:Same H0 H'
 nw:∀a,fl a\/dp a->H0 a=none
 ff:∀a,fl a->∃vs,H' a=some (.lst vs)/\vs.length<=n/\∀v∈vs,Fv K H' v
 dd:∀a,dp a->∃vs,H' a=some (.lst vs)/\vs.length<=n/\∀v∈vs,(∃i,v= .int i)\/∃b,v= .ref b/\fl b/\b≠a
theorem Mut.up {H0 H':Hp}{q y:Addr->Prop}{n m:Nat} (h:Mut K H0 H' q y n) (l:n<=m):Mut K H0 H' q y m:=⟨h.sm,h.nw,fun a d=>(h.ff a d).imp fun _ ⟨a,b,c⟩=>⟨a,le_trans b l,c⟩,fun a d=>(h.dd a d).imp fun _ ⟨a,b,c⟩=>⟨a,le_trans b l,c⟩⟩
theorem Mut.app {H0 H':Hp}{G I:Addr->Prop}{n:Nat}{p:Addr}{M:List V} (h:Mut K H0 H' G I n) (O:G p\/I p) (e:H' p=some (.lst M)):Mut K H0 (upd H' p (.lst (M++ [.int 0]))) G I (n+1):=by
 refine⟨h.sm.put (h.nw p O),h.nw,fun a J=> ?_,fun a J=> ?_⟩
 . obtain⟨L,y,U,F⟩:=h.ff a J
   by_cases q:a=p
   . subst q
     rw [e]at y
     cases y
     refine⟨_,Ag,by rw [length_append,length_singleton];omega,fun v d=> ?_⟩
     rcases mem_append.mp d with d | d
     . exact(F v d).put e
     . exact .inl ⟨0,mem_singleton.mp d⟩
   . exact⟨L,by rw [Bs q];exact y,by omega,fun v d=>(F v d).put e⟩
 . obtain⟨L,y,U,F⟩:=h.dd a J
   by_cases q:a=p
   . subst q
     rw [e]at y
     cases y
     refine⟨_,Ag,by rw [length_append,length_singleton];omega,fun v d=> ?_⟩
     rcases mem_append.mp d with d | d
     . exact F v d
     . exact .inl ⟨0,mem_singleton.mp d⟩
   . exact⟨L,by rw [Bs q];exact y,by omega,F⟩
theorem Mut.kind {H0 H':Hp}{y L:Addr->Prop}{n:Nat}{p:Addr}{F:List V} (h:Mut K H0 H' y L n) (d:y p\/L p) (e:H' p=some (.lst F)):F.length<=n/\∀v∈F,Fv K H' v\/∃b,v= .ref b/\y b/\b≠p:=by
 rcases d with d | d
 . obtain⟨M,q,G,I⟩:=h.ff p d
   rw [e]at q
   cases q
   exact⟨G,fun v J=> .inl (I v J)⟩
 . obtain⟨M,q,G,I⟩:=h.dd p d
   rw [e]at q
   cases q
   exact⟨G,fun v J=>(I v J).elim (fun z=> .inl (.inl z)) .inr⟩
theorem Mut.lst {H0 H':Hp}{q y:Addr->Prop}{n:Nat}{p:Addr} (h:Mut K H0 H' q y n) (d:q p\/y p):∃F,H' p=some (.lst F):=by
 rcases d with d | d
 . exact(h.ff p d).imp fun _ z=>z.1
 . exact(h.dd p d).imp fun _ z=>z.1
theorem Mut.same {H0 H H':Hp}{I J:Addr->Prop}{n:Nat} (h:Mut K H0 H I J n) (s:Same H H'):Mut K H0 H' I J n:=by
 refine⟨h.sm.trans s,h.nw,fun a d=> ?_,fun a d=> ?_⟩
 . obtain⟨q,y,F,G⟩:=h.ff a d
   exact⟨q,s _ _ y,F,fun v L=>(G v L).elim .inl fun⟨a,xs,e,t⟩=> .inr ⟨a,xs,e,s.tup t⟩⟩
 . obtain⟨q,y,F,G⟩:=h.dd a d
   exact⟨q,s _ _ y,F,G⟩
theorem Ql.fv {H:Hp}{a:Addr}{es:List (V × Rat)} (h:Ql K H a es):∀v∈es.map (·.1),Fv K H v:=fun v d=>by
 obtain⟨e,q,rfl⟩:=mem_map.mp d
 obtain⟨b,y,t⟩:=h.al e q
 exact .inr ⟨b,_,y,t⟩
section
variable {H H':Hp}{z:Addr}{R:List (List Rat)}{b:List Rat}{u S:Nat}
theorem Ad9.npr {ay:Addr}{ys:List (V × Rat)} (h:Ad9 K H H' z R b u S ay ys):Npr K H' R b u S ay ys:=⟨h.qy,by have:=h.ln;rwa [length_map]at this,h.y0,h.y1,h.zy⟩
theorem Aee.ppr {ax af ab ay:Addr}{xs:List (V × Rat)}{fr:List Nat}{bs yr:List Qr} (h:Aee K H H' z R b u S ax af ab ay xs fr bs yr):Ppr K H' R b u S ax af ab ay xs fr bs yr:=⟨h.qx,h.fl,h.qb,h.qy,h.sh,h.zx,h.zb,h.zy⟩
def Tld (K:Frag) (H H':Hp) (z:Addr) (R:List (List Rat)) (b:List Rat) (u S:Nat):Prop:=Pap K H' z R b u S/\(∀t ps,H' z=some (.tup (t::ps))->∃(as:List Addr) (fl dp:Addr->Prop),ps=as.map V.ref/\as.length<=4/\(∀a∈as,fl a\/dp a)/\Mut K H H' fl dp 6)/\((∃ay ys,H' z=some (.tup [.str "none",.ref ay])/\Npr K H' R b u S ay ys/\∀q:List Rat,q.length=u->R.map (dq · q)≠b)\/∃a b c d,H' z=some (.tup [.str "all",.ref a,.ref b,.ref c,.ref d]))
theorem Ad9.tld {ay:Addr}{ys:List (V × Rat)} (h:Ad9 K H H' z R b u S ay ys) (s:Same H H') (q:R.length<=6):Tld K H H' z R b u S:=by
 have y:=h.npr.ln
 refine⟨.inl ⟨ay,ys,h.it,h.npr⟩,fun t ps e=> ?_,.inl ⟨ay,ys,h.it,h.npr,h.no⟩⟩
 rw [h.it]at e
 cases e
 refine⟨[ay],(· =ay),fun _=>False,rfl,by simp,fun a d=> .inl (mem_singleton.mp d),s,fun a d=> ?_,fun a d=> ?_,fun a d=>d.elim⟩
 . rcases d with rfl | d
   . exact h.ny
   . exact d.elim
 . subst d
   exact⟨_,h.qy.it,by rw [length_map];omega,h.qy.fv⟩
theorem Aee.tld {ax af ab ay:Addr}{xs:List (V × Rat)}{fr:List Nat}{bs yr:List Qr} (h:Aee K H H' z R b u S ax af ab ay xs fr bs yr) (s:Same H H') (F:R.length<=6) (G:u<=6):Tld K H H' z R b u S:=by
 have p:=h.ppr
 have fn:=p.fn
 have lb:=p.lb
 have lx:=p.lx
 refine⟨.inr ⟨ax,af,ab,ay,xs,fr,bs,yr,h.it,p⟩,fun t ps e=> ?_,.inr ⟨_,_,_,_,h.it⟩⟩
 rw [h.it]at e
 cases e
 refine⟨[ax,af,ab,ay],fun a=>a=ax\/a=af\/(∃r∈bs,a=r.1)\/∃r∈yr,a=r.1,fun a=>a=ab\/a=ay,rfl,by simp,fun a q=> ?_,s,fun a q=> ?_,fun a q=> ?_,fun a q=> ?_⟩
 . have:a=ax\/a=af\/a=ab\/a=ay:=by simpa using q
   rcases this with z | z | z | z
   . exact .inl (.inl z)
   . exact .inl (.inr (.inl z))
   . exact .inr (.inl z)
   . exact .inr (.inr z)
 . rcases q with(rfl | rfl | ⟨r,d,rfl⟩ | ⟨r,d,rfl⟩) | (rfl | rfl)
   . exact h.nx
   . exact h.nf
   . exact h.nbr r d
   . exact h.nyr r d
   . exact h.nb
   . exact h.ny
 . rcases q with rfl | rfl | ⟨r,d,rfl⟩ | ⟨r,d,rfl⟩
   . exact⟨_,h.qx.it,by rw [length_map];omega,h.qx.fv⟩
   . refine⟨_,h.fl,by rw [show(nats fr).length=fr.length from length_map _];omega,fun v y=> ?_⟩
     obtain⟨c,_,rfl⟩:=mem_map.mp y
     exact .inl ⟨_,rfl⟩
   . exact⟨_,(h.qb.al r d).it,by rw [length_map,p.bu r d];omega,(h.qb.al r d).fv⟩
   . exact⟨_,(h.qy.al r d).it,by rw [length_map,p.yu r d];omega,(h.qy.al r d).fv⟩
 . rcases q with rfl | rfl
   . refine⟨_,h.qb.it,by rw [length_map];omega,fun v y=> ?_⟩
     obtain⟨r,d,rfl⟩:=mem_map.mp y
     exact .inr ⟨r.1,rfl,.inr (.inr (.inl ⟨r,d,rfl⟩)),h.db r d⟩
   . refine⟨_,h.qy.it,by rw [length_map];omega,fun v y=> ?_⟩
     obtain⟨r,d,rfl⟩:=mem_map.mp y
     exact .inr ⟨r.1,rfl,.inr (.inr (.inr ⟨r,d,rfl⟩)),h.dy r d⟩
end
theorem V8 {X:Cx} (K:Frag) (h:X.K=K:=by rfl):Gq X (.type "list") (fun xs H Q=>∃p ys,xs=[.ref p]/\(SqL K H p ys\/SqT K H p ys)/\∀l,H l=none->Q (.ref l) (upd H l (.lst ys))):=by
 subst h
 exact Hw
theorem Adn {l:Addr}{H H':Hp} (s:Sx l H H') (n:H l=none):Same H H':=fun b o e=>s b o (Bo e n) e
theorem Ahk {bs rs:List Qr}{u n:Nat} (e:(bs.map fun r=>qv r.2)=rs.map fun r=>qv r.2) (h:∀r∈rs,r.2.length=u/\∀e∈r.2,Szq n e.2):∀r∈bs,r.2.length=u/\∀e∈r.2,Szq n e.2:=fun r I=>by
 have m:=Rb I
 rw [e]at m
 obtain⟨q,d,J⟩:=mem_map.mp m
 have F:qv q.2=qv r.2:=J
 refine⟨by rw [<-(h q d).1];have:=congrArg List.length F;rw [length_map,length_map]at this;exact this.symm,fun x L=> ?_⟩
 have G:x.2∈qv r.2:=mem_map.mpr ⟨x,L,rfl⟩
 rw [<-F]at G
 obtain⟨y,M,O⟩:=mem_map.mp G
 rw [<-O]
 exact(h q d).2 y M
theorem Ab7 {bs rs:List Qr} (e:(bs.map fun r=>qv r.2)=rs.map fun r=>qv r.2):bs.map Sy=rs.map Sy:=by
 have h:∀l:List Qr,l.map Sy=(l.map fun r=>qv r.2).map fun q=>PyData.list ((q.map pq).map fun c=>PyData.tuple [.int c.1,.int c.2]):=fun l=>by
  rw [map_map]
  rfl
 rw [h,h,e]
theorem Afu {fs es:List (V × Rat)}{n:Nat} (e:qv fs=qv es) (h:∀e∈es,Szq n e.2):∀e∈fs,Szq n e.2:=fun x q=>by
 have d:x.2∈qv fs:=mem_map.mpr ⟨x,q,rfl⟩
 rw [e]at d
 obtain⟨y,F,G⟩:=mem_map.mp d
 rw [<-G]
 exact h y F
theorem Aep {f:Addr}{fd:FuncData} (F:Df K mg "law" Ob ["_law_script"] f fd) (a0:mg "list"=none) (O:mg "isinstance"=none)  (a1:Cal P w K mg base 33 "_law_source" ["_law_draw"] (Nu K)) (a9:Cal P w K mg base 37 "_law_rows" ["_law_source_here"] (Sh K)) (U:Cal P w K mg base 37 "_law_right_of" ["_law_source_here","_law_rows_here"] (J3 K)) (W:Cal P w K mg base 36 "solved" ["rows","right"] (Ss K)) (L:Cal P w K mg base 40 "_law_right" ["_law_rows_here","_law_right_here","_law_paper"] (O1 K)) (I:Cal P w K mg base 38 "solved_right" ["rows","right","paper"] (Ii K)) (ad:Cal P w K mg base 36 "_law_dot" ["_law_some","_law_others"] (Ho K)):Ny P w K mg base CX0 41 f fd ["_law_script"] (Aba K):=by
 refine F.fn.ok Iz (fun vs H Q E h=> ?_) (fun cg A outer s H vs Q E hr h=> ?_)
 . obtain⟨a,ns,rfl,_⟩:=h
   rfl
 obtain⟨a,ns,rfl,hS,ch,k⟩:=h
 refine Ax ⟨_,(Ae (Bu PassesOwn.never rfl (Bj (Ao Oj (Dp Nm (Ac 0) Ej (Ek Ad)) (Bt (Aa Ad Ab)))) (Ah 1 Iz.nd) (Ae (Bc 2 Iz.nd (Ai a1 hr (Aa (Ac 1) Ab)))
  (Ae (Bc 3 Iz.nd (Ai a9 hr (Aa (Ac 2) Ab)))
  (Ae (Cp (Ai U hr (Aa (Ac 2) (Aa (Ac 3) Ab))) (Ci rfl (Am (Ah 7 Iz.nd) (Am (Ah 8 Iz.nd) Bm))))
  (Ae (Bc 4 Iz.nd (Bq (Aa (Bf (ts:=["_law_row"]) (fs:=[]) rfl (Bb.of (sc:=Ak Ob) (N:=["_law_script","_law_draw","_law_source_here","_law_rows_here","_law_handed","_law_paper","_law_part","_law_right_here","_law_x","_law_one"]) rfl rfl (by decide+kernel)) (Bj (Ac 3)) (fun _ _ _=>(Ah 0 (show Nodup (["_law_row"]:List Str)by decide+kernel))) (fun _ _ _=>Az) (fun _ _ _=>(Hu (V8 K) rfl a0 boot_list (Aa (Ac 0) Ab)))) (Aa (Hu Hw rfl a0 boot_list (Aa (Ac 7) Ab)) Ab))))
  (Ae (Bc 5 Iz.nd (Ai W hr (Aa (Al Br (Ac 4) Ad (fun _ _=>rfl)) (Aa (Al Br (Ac 4) Ad (fun _ _=>rfl)) Ab))))
  (Ae (Ay (Ce (Cg (Aq (Gi hr.units) (Ac 4) (Bq (Aa (Ac 3) (Aa (Ac 7) Ab))) (Bl _)) (Ca (Bh (Bd (Ai L hr (Aa (Ac 3) (Aa (Ac 7) (Aa (Ac 5) Ab))))))))) (Af (Aj Bk)) Av)
  (Ae (Ay (Ce (Mf (Aq Gf (Al Br (Ac 5) Ad (fun _ _=>rfl)) Cy (Bl _)) (Ka (Aq (Abx hr.units) (Bf (ts:=["_law_row"]) (fs:=[(8,"_law_x")]) rfl (Bb.of (sc:=Ak Ob) (N:=["_law_script","_law_draw","_law_source_here","_law_rows_here","_law_handed","_law_paper","_law_part","_law_right_here","_law_x","_law_one"]) rfl rfl (by decide+kernel)) (Bj (Ac 3)) (fun _ _ _=>(Ah 0 (show Nodup (["_law_row","_law_x"]:List Str)by decide+kernel))) (fun _ _ _=>Az) (fun _ _ _=>(Ai ad hr (Aa (Ac 0) (Aa (Ac 1) Ab))))) (Ac 7) (Bl _))))) (Af (Aj Bk)) Av)
  (Ae (Ay (Ce (Cg (Aq Ac3 (Ai I hr (Aa (Al Br (Ac 4) Ad (fun _ _=>rfl)) (Aa (Al Br (Ac 4) Ad (fun _ _=>rfl)) (Aa (Ac 5) Ab)))) Bk (Bl _)) (Ca (Aq (Gi hr.units) (Ac 4) (Bq (Aa (Ac 3) (Aa (Ac 7) Ab))) (Bl _))))) (Af (Aj Bk)) Av)
  (Ae (Bu PassesOwn.never rfl (Qw (Dp Zi (Ac 5) (Ek Ad) Ej)) (Ah 6 Iz.nd) (Ae (Bu PassesOwn.never rfl (Bj (Ac 6)) (Ah 9 Iz.nd) (Af (Ay (Bd (Ar Jo rfl O boot_isinstance (Aa (Ac 9) (Aa (Cm (v:= .ty "list") rfl a0 boot_list rfl) Ab)))) (Af (Dd (Fj plainAttrs_list PySem.F.slot_list_append PySem.F.type_list_append Dq (Ac 9) (Aa Ad Ab)))) Av)))
  (Af (Dd (Fj plainAttrs_list PySem.F.slot_list_append PySem.F.type_list_append Dq (Ac 6) (Aa Ad Ab))))))
  (Af (Ay (Bh (Bd (Ai L hr (Aa (Ac 3) (Aa (Ac 7) (Aa (Ai W hr (Aa (Ac 3) (Aa (Ac 7) Ab))) Ab)))))) (Af (Aj Bk)) Av))))))))))))
  (Af (Aj Bk))),?_⟩
 done
 refine W9 hS fun p1 ci=> ?_
 obtain⟨qs,eq,lq⟩:=Aai ns none (some 4)
 rw [eq]
 intro p2 br
 have t2:=Same.upd br (.lst [V.int 0])
 refine⟨p1,p2,_,_,rfl,rfl,t2 _ _ Ag,Ag,?_,fun p3 cj=>⟨p3,rfl,⟨_,.of Ag⟩,?_⟩⟩
 . rw [length_map]
   exact le_trans (show _<=64 by simp;omega) (by decide)
 have g3:upd (upd (upd H p1 (.lst (qs.map V.int))) p2 (.lst [V.int 0])) p3 (.lst (qs.map V.int++ [V.int 0])) p3=some (.lst ((qs++ [0]).map V.int)):=by rw [Ag,map_append];rfl
 generalize upd (upd (upd H p1 (.lst (qs.map V.int))) p2 (.lst [V.int 0])) p3 (.lst (qs.map V.int++ [V.int 0]))=H3 at g3
 refine Ra (es:=qs++ [0]) (inj:=V.int) (fun _ G H'=>Same H3 H'/\∃o1 o2 o3 o4 o5 o6 o7 o8 Y,G=[some (.ref a),o1,o2,o3,o4,o5,o6,o7,o8,Y]) ⟨Same.refl _,_,_,_,_,_,_,_,_,_,rfl⟩ ?_ ?_ ?_
 . rintro _ G H' ⟨s4,_⟩
   exact Dv (.of (s4 _ _ g3))
 . rintro aa c b8 G H4 _ ⟨s4,o1,o2,o3,o4,o5,o6,o7,o8,Y,rfl⟩
   done
   refine⟨c,rfl,fun l H5 nl s5 r5=> ?_⟩
   have x5:Sx l H4 H5:= .of s5
   try done
   refine⟨l,0,rfl,r5,by decide,fun ra J u H6 x6 r6 nr au av aw ae u1 u5 rz=> ?_⟩
   try done
   refine⟨l,ra,J,u,_,rfl,r6,by decide,au,av,aw,ae,u1,u5,rz,fun z b x es xs H7 x7 r7 gz nb nx qb el zb qx xl zx=> ?_⟩
   have a7:=rz.all ae
   have b9:Same H4 H7:=Adn ((x5.trans x6).trans x7) nl
   have ag:=au.sx av x7 r6
   refine Eb (.of gz) ?_
   clear x5 x6 x7 r5 r6 r7 s5 au av gz nb nx nr
   refine Ot (fun G H'=>∃(hd ha hb:Addr) (bs:List Qr) (fs:List (V × Rat)),G=[some (.ref a),some (.int c),some (.ref l),some (.ref ra),some (.ref hd),o5,o6,some (.ref b),some (.ref x),Y]/\Same H7 H'/\H' hd=some (.tup [.ref ha,.ref hb])/\Qm K H' ha bs/\Ql K H' hb fs/\(bs.map fun r=>qv r.2)=(J.map fun r=>qv r.2)/\qv fs=qv es) (fun M hM=> ?_) ?_
   . done
     refine⟨⟨_,.of ag.it⟩,fun p hp=> ?_⟩
     refine Mi (es:=J) (inj:=fun r=>V.ref r.1) (fun i ah H'=>∃bs:List Qr,ah=bs.map (fun r=>V.ref r.1)/\Bli K H7 H' p (List.range J.length) (fun j q=>q=qv (J.getD j (0,[])).2) i bs) (le_trans (show J.length<=6 by omega) (by decide)) ⟨[],rfl,Same.upd hp _,Ag,rfl,by simp⟩ ?_ ?_ ?_ ?_
     . rintro i ah H' ⟨bs,rfl,bl⟩
       exact⟨by rw [length_map];exact bl.ln,bl.it⟩
     . rintro i ah H' ⟨bs,rfl,bl⟩
       exact Dv (.of (bl.sm _ _ ag.it))
     . rintro i r ah H8 R er ⟨bs,rfl,bl⟩ hR
       have il:=(List.getElem?_eq_some_iff.mp er).1
       have rm:=List.mem_of_getElem? er
       have g8:=(ag.al r rm).mono bl.sm
       done
       refine⟨r.1,_,rfl,.inl (.of g8.it),fun l2 bb=> ?_⟩
       have t9:=Same.upd bb (.lst (r.2.map (·.1)))
       have ql:Ql K (upd H8 l2 (.lst (r.2.map (·.1)))) l2 r.2:=⟨Ag,fun e he=>(g8.al e he).mono t9⟩
       exact hR _ _ (t9 _ _ bl.it) ⟨bs++ [(l2,r.2)],by rw [map_append];rfl,bl.snoc (x:=(l2,r.2)) hp t9 bb ql (getElem?_range il) (by rw [getD_eq_getElem?_getD,er];rfl)⟩
     rintro ah H8 ⟨bs,rfl,bl⟩
     have bn:bs.length=J.length:=bl.ln
     have ba:∀(k:Nat) r r',bs[k]? =some r->J[k]? =some r'->Ql K H8 r.1 r.2/\qv r.2=qv r'.2:=fun k r r' hk bt=>by
      have z:=(bl.al k r k hk (getElem?_range (by have:=(List.getElem?_eq_some_iff.mp hk).1;omega))).2
      rw [getD_eq_getElem?_getD,bt]at z
      exact z
     have mb:Qm K H8 p bs:=⟨bl.it,fun r a3=>by
      obtain⟨i,hi⟩:=getElem?_of_mem a3
      have il:=(List.getElem?_eq_some_iff.mp hi).1
      exact(ba i r _ hi (getElem?_eq_getElem (by omega))).1⟩
     have eb:(bs.map fun r=>qv r.2)=J.map fun r=>qv r.2:=by
      refine List.ext_getElem? fun i=> ?_
      by_cases hi:i<J.length
      . obtain⟨r',h1⟩:∃r',J[i]? =some r':=⟨_,getElem?_eq_getElem hi⟩
        obtain⟨r,h2⟩:∃r,bs[i]? =some r:=⟨_,getElem?_eq_getElem (by omega)⟩
        rw [K8 h1,K8 h2,(ba i r r' h2 h1).2]
      . rw [getElem?_eq_none (by rw [length_map];omega),getElem?_eq_none (by rw [length_map];omega)]
     have ac:=qb.mono bl.sm
     refine⟨b,_,rfl,.inl (.of ac.it),fun hb bv=> ?_⟩
     have t9:=Same.upd bv (.lst (es.map (·.1)))
     have bc:Ql K (upd H8 hb (.lst (es.map (·.1)))) hb es:=⟨Ag,fun e he=>(ac.al e he).mono t9⟩
     generalize upd H8 hb (.lst (es.map (·.1)))=H9 at t9 bc
     intro hd bw
     have az:=Same.upd bw (.tup [.ref p,.ref hb])
     exact hM _ _ ⟨hd,p,hb,bs,es,rfl,bl.sm.trans (t9.trans az),Ag,mb.mono (t9.trans az),bc.mono az,eb,rfl⟩
   rintro _ H8 ⟨hd,ha,hb,bs,fs,rfl,s8,gh,qh,qg,eb,ef⟩
   have bn:bs.length=J.length:=by have:=congrArg List.length eb;rwa [length_map,length_map]at this
   have fl:fs.length=es.length:=by have:=congrArg List.length ef;rwa [length_map,length_map]at this
   have b0:=ag.mono s8
   have ac:=qb.mono s8
   have bx:=qx.mono s8
   have c0:=b9.trans s8
   clear ag qb qx b9 s8
   have bd:∀r∈J,r.2.length=u/\∀e∈r.2,Szq 7300 e.2:=fun r a3=>⟨(a7 r a3).1,fun e he=>((a7 r a3).2 e he).mono (by decide)⟩
   have T1:(7300*11+2)*2^u<=2600000:=le_trans (mul_le_mul_left _ (pow_le_pow_right (show 0<2 by decide) u5)) (by decide)
   have T2:=T1
   have T0:7300<=(7300*11+2)*2^u:=le_trans (show 7300<=(7300*11+2)*1 by decide) (mul_le_mul_left _ (two_pow_pos u))
   have b1:=Ahk eb bd
   have be:=Afu ef zb
   refine Ot (fun G H'=>∃pz,G=[some (.ref a),some (.int c),some (.ref l),some (.ref ra),some (.ref hd),some (.ref pz),o6,some (.ref b),some (.ref x),Y]/\Same H8 H'/\Tld K H8 H' pz (J.map fun r=>qv r.2) (qv es) u ((7300*11+2)*2^u)) (fun M hM=> ?_) ?_
   . done
     refine Cd (.of gh) (v:= .ref ha) (at0 _ _) ?_
     refine Cd (.of gh) (v:= .ref hb) (at1 _ _ _) ?_
     refine⟨ha,hb,bs,fs,u,7300,rfl,qh,qg,by omega,by omega,by omega,u1,by omega,b1,be,by decide,fun pz H9 ay ys s9 no=> ?_,fun pz H9 ax af ab ay us fr gs yr s9 to=> ?_⟩
     . rw [eb,ef]at no
       exact hM _ _ ⟨pz,rfl,s9,no.tld s9 (by rw [length_map];omega)⟩
     . rw [eb,ef]at to
       exact hM _ _ ⟨pz,rfl,s9,to.tld s9 (by rw [length_map];omega) (by omega)⟩
   rintro _ H9 ⟨pz,rfl,s9,b2,c5,cs⟩
   generalize (7300*11+2)*2^u=T at T0 T1 b2 cs
   have ao:Eqs K H8 ra b J es u 1396 7300:=⟨b0,ac,el,aw,by omega,u1,by omega,a7,zb⟩
   have ck:RdD K H8 (.ref hd) (hdD J es):=Adi gh qh qg (Ab7 eb) ef
   have bf:∀ {H':Hp}{q:Addr},Same H8 H'->H' q=some (.tup [.ref ra,.ref b])->RdD K H' (.ref q) (hdD J es):=fun s g=>Adi g (b0.mono s) (ac.mono s) rfl rfl
   have aq:∀ {H':Hp},Same H8 H'->RdD K H' (.ref hd) (hdD J es):=fun s=>Adi (s _ _ gh) (qh.mono s) (qg.mono s) (Ab7 eb) ef
   refine Ot (fun G H'=>G=[some (.ref a),some (.int c),some (.ref l),some (.ref ra),some (.ref hd),some (.ref pz),o6,some (.ref b),some (.ref x),Y]/\Same H9 H') (fun M hM=> ?_) ?_
   . done
     intro q hq
     have tq:=Same.upd hq (.tup [.ref ra,.ref b])
     refine Aeo (aq (s9.trans tq)) (bf (s9.trans tq) Ag) ?_
     refine⟨_,rfl,?_⟩
     rw [if_neg (by decide)]
     refine⟨ra,b,pz,J,es,u,T,7300,rfl,ao.mono (s9.trans tq),b2.mono tq,ae,u5,T1,by decide,fun bg a5=>⟨true,rfl,?_⟩⟩
     rw [if_neg (by decide)]
     exact hM _ _ ⟨rfl,tq.trans a5⟩
   rintro _ bg ⟨rfl,a5⟩
   have ai:=s9.trans a5
   refine Ot (fun G H'=>G=[some (.ref a),some (.int c),some (.ref l),some (.ref ra),some (.ref hd),some (.ref pz),o6,some (.ref b),some (.ref x),Y]/\Same bg H') (fun M hM=> ?_) ?_
   . done
     rcases cs with⟨ay,ys,it,_,no⟩ | ⟨c1,c2,c3,c4,it⟩
     . refine Cd (.of (a5 _ _ it)) (v:= .str "none") (at0 _ _) ?_
       refine⟨rfl,true,congrArg V.bl (decide_eq_true rfl),?_⟩
       rw [if_pos rfl]
       have b3:=ao.mono ai
       refine⟨⟨_,.of b3.qm.it⟩,fun p hp=> ?_⟩
       refine Lh hp b3.qm (bx.mono ai) (by omega) xl (by omega) a7 zx (le_trans (Nat.add_le_add_right (mul_le_mul (show 1396+42+1<=2000 by decide) u5) 1) (by decide)) fun gs ap aj c6 c7 cl=> ?_
       refine Wh c6 (b3.qb.mono aj) ?_
       have eR:J.map (fun r=>dq (qv r.2) (qv xs))=(J.map fun r=>qv r.2).map (dq · (qv xs)):=by rw [map_map];rfl
       rw [decide_eq_false (by rw [c7,eR];exact no _ (by rw [length_map];exact xl))]
       refine⟨_,rfl,?_⟩
       rw [if_neg (by decide)]
       exact hM _ _ ⟨rfl,aj⟩
     . refine Cd (.of (a5 _ _ it)) (v:= .str "all") (at0 _ _) ?_
       refine⟨rfl,false,congrArg V.bl (decide_eq_false V1),?_⟩
       rw [if_neg (by decide)]
       exact hM _ _ ⟨rfl,Same.refl _⟩
   rintro _ ap ⟨rfl,aj⟩
   have a8:=a5.trans aj
   have Z:=s9.trans a8
   clear a5 aj ai
   refine Ot (fun G H'=>G=[some (.ref a),some (.int c),some (.ref l),some (.ref ra),some (.ref hd),some (.ref pz),o6,some (.ref b),some (.ref x),Y]/\Same ap H') (fun M hM=> ?_) ?_
   . done
     refine Cd (.of (Z _ _ gh)) (v:= .ref ha) (at0 _ _) ?_
     refine Cd (.of (Z _ _ gh)) (v:= .ref hb) (at1 _ _ _) ?_
     have c8:Eqs K ap ha hb bs fs u T T:=⟨qh.mono Z,qg.mono Z,by omega,by omega,by omega,u1,by omega,fun r a3=>⟨(b1 r a3).1,fun e he=>((b1 r a3).2 e he).mono T0⟩,fun e he=>(be e he).mono T0⟩
     have bh:Pap K ap pz (bs.map fun r=>qv r.2) (qv fs) u T:=by
      rw [eb,ef]
      exact b2.mono a8
     refine⟨ha,hb,pz,bs,fs,u,T,rfl,c8,bh,by omega,T1,fun c9 ak=> ?_⟩
     refine⟨true,true,rfl,rfl,?_⟩
     rw [if_neg (by decide)]
     intro q hq
     have tq:=Same.upd hq (.tup [.ref ra,.ref b])
     have sq:=Z.trans (ak.trans tq)
     refine Aeo (aq sq) (bf sq Ag) ?_
     refine⟨_,rfl,?_⟩
     rw [if_neg (by decide)]
     exact hM _ _ ⟨rfl,ak.trans tq⟩
   rintro _ c9 ⟨rfl,ak⟩
   have ar:=a8.trans ak
   clear a8 ak Z
   refine Ot (fun G H'=>∃o6 Y,G=[some (.ref a),some (.int c),some (.ref l),some (.ref ra),some (.ref hd),some (.ref pz),o6,some (.ref b),some (.ref x),Y]/\Same H8 H') (fun M hM=> ?_) ?_
   . done
     obtain⟨tt,ps,it⟩:∃tt ps,H9 pz=some (.tup (tt::ps)):=by
      rcases cs with⟨_,_,it,_⟩ | ⟨_,_,_,_,it⟩
      . exact⟨_,_,it⟩
      . exact⟨_,_,it⟩
     obtain⟨as,bi,dp,rfl,a4,am,mt⟩:=c5 tt ps it
     refine⟨pz,_,rfl,.of (ar _ _ it),fun y ca a2 hy=> ?_⟩
     have ec:Pg (tt::as.map V.ref) (some 1) none=as.map V.ref:=by
      rw [show(1:Int)=((1:Nat):Int)from rfl,Li (by simp)]
      rfl
     rw [ec]at hy
     have bj:=mt.same (ar.trans a2)
     refine⟨y,rfl,⟨_,hy⟩,Ra (es:=as) (inj:=V.ref) (fun aa G H'=>∃o6 Y n,G=[some (.ref a),some (.int c),some (.ref l),some (.ref ra),some (.ref hd),some (.ref pz),o6,some (.ref b),some (.ref x),Y]/\SqT K H' y (as.map V.ref)/\Mut K H8 H' bi dp n/\n+1<=7*2^aa.length) ⟨_,_,6,rfl,hy,bj,by decide⟩ ?_ ?_ ?_⟩
     . rintro aa G H' ⟨o6,Y,n,rfl,b4,_⟩
       exact Abi b4
     . rintro aa p b8 G H' he ⟨bm,bo,n,rfl,b4,an,hn⟩
       have pm:p∈as:=by rw [he];simp
       have pl:aa.length<4:=by
        have:=congrArg List.length he
        rw [length_append,length_cons]at this
        omega
       have pp:=am p pm
       obtain⟨vs,ev⟩:=an.lst pp
       have cm:n<=200:=by
        have:2^aa.length<=2^4:=pow_le_pow_right (by decide) (by omega)
        omega
       have vl:=(an.kind pp ev).1
       done
       refine⟨⟨_,.of ev⟩,Ra (es:=vs) (inj:=id) (fun q G H'=>∃Y,G=[some (.ref a),some (.int c),some (.ref l),some (.ref ra),some (.ref hd),some (.ref pz),some (.ref p),some (.ref b),some (.ref x),Y]/\SqT K H' y (as.map V.ref)/\H' p=some (.lst vs)/\Mut K H8 H' bi dp (n+q.length)) ⟨_,rfl,b4,ev,an⟩ ?_ ?_ ?_⟩
       . rintro q G H1 ⟨Y,rfl,_,e1,_⟩
         exact Dv (.of (by rw [List.map_id];exact e1))
       . rintro q v cb G H1 bp ⟨Y,rfl,y1,e1,m1⟩
         have vm:v∈vs:=by rw [bp];simp
         have ql:q.length<200:=by
          have:=congrArg List.length bp
          rw [length_append,length_cons]at this
          omega
         have up:=m1.up (m:=n+(q++ [v]).length) (by rw [length_append];omega)
         done
         show ∃x t T b,[v,V.ty "list"]=[x,V.ty T]/\_
         rcases(m1.kind pp e1).2 v vm with(⟨i,rfl⟩ | ⟨d,ds,rfl,cc⟩) | ⟨d,rfl,b5,nd⟩
         . refine isa (.of (.int i)) Ae0 ?_
           rw [if_neg (by decide)]
           exact⟨_,rfl,y1,e1,up⟩
         . refine isa (.tup cc) Ae1 ?_
           rw [if_neg (by decide)]
           exact⟨_,rfl,y1,e1,up⟩
         . obtain⟨ws,ew⟩:=m1.lst (.inl b5)
           have wl:=(m1.kind (.inl b5) ew).1
           refine isa (.of (.lst ew)) Abv ?_
           rw [if_pos rfl]
           refine⟨.inl ⟨rfl,_,.of ew⟩,d,ws,.int 0,rfl,rfl,ew,lt_of_lt_of_le (show ws.length<1000 by omega) (by decide),?_⟩
           refine⟨_,rfl,Qo y1 ew,by rw [Bs (Ne.symm nd)];exact e1,?_⟩
           have:=m1.app (.inl b5) ew
           rw [length_append]
           exact this
       . rintro G H1 ⟨Y,rfl,y1,e1,m1⟩
         done
         refine⟨.inl ⟨rfl,_,.of e1⟩,p,vs,.int 0,rfl,rfl,e1,lt_of_lt_of_le (show vs.length<1000 by omega) (by decide),?_⟩
         refine⟨_,_,n+vs.length+1,rfl,Qo y1 e1,m1.app pp e1,?_⟩
         rw [length_append,length_singleton,pow_succ]
         omega
     . rintro G H' ⟨bm,bo,n,rfl,_,an,_⟩
       exact hM _ _ ⟨_,_,rfl,an.sm⟩
   rintro _ ca ⟨bm,bo,rfl,a2⟩
   have bq:∀ {H':Hp}{o4 o5 o6 o7 o8 Y o1 o2 o3:Option V},Same H8 H'->Same H3 H'/\∃p1 p2 p3 p4 p5 p6 p7 p8 p9,[some (V.ref a),o1,o2,o3,o4,o5,o6,o7,o8,Y]=[some (V.ref a),p1,p2,p3,p4,p5,p6,p7,p8,p9]:=fun x=>⟨s4.trans (c0.trans x),_,_,_,_,_,_,_,_,_,rfl⟩
   done
   refine⟨ra,b,J,es,u,7300,rfl,b0.mono a2,ac.mono a2,el,aw,by omega,u1,by omega,bd,zb,by decide,fun b6 ce ay ys a6 no=> ?_,fun b6 ce ax af ab ay us fr gs yr a6 to=> ?_⟩
   . refine⟨ra,b,b6,J,es,u,_,7300,rfl,ao.mono (a2.trans a6),(no.tld a6 (by rw [length_map];omega)).1,ae,u5,T2,by decide,fun cf b7=>⟨true,rfl,?_⟩⟩
     rw [if_neg (by decide)]
     exact bq (a2.trans (a6.trans b7))
   . refine⟨ra,b,b6,J,es,u,_,7300,rfl,ao.mono (a2.trans a6),(to.tld a6 (by rw [length_map];omega) (by omega)).1,ae,u5,T2,by decide,fun cf b7=>⟨true,rfl,?_⟩⟩
     rw [if_neg (by decide)]
     exact bq (a2.trans (a6.trans b7))
 . rintro G H' ⟨_,o1,o2,o3,o4,o5,o6,o7,o8,Y,rfl⟩
   done
   exact k H'
end
abbrev Fd (K:Frag) (x:Str) (st:Stmt):Prop:=∃(f:Addr) (od an:Option Addr) (sl:Array (Option Value)) (oc kV dc pm cd ct:Value),PySem.W.nsIn K mainGlobals x=some (some (.ref f))/\K.lookup f=some ⟨oc,od,.func (PySem.W.fnOf x x (Jg st) (G7 st) (Ak st) .none kV dc pm an cd ct),sl⟩/\PySem.W.codeIn K cd x=true/\keepIn K (.ref f)=true
theorem us1 {P:List Value->Prop} (h:∀a,P [a]) (d:List Value) (q:d.length=1):P d:=match d,q with | [_],_=>h _
theorem us2 {P:List Value->Prop} (h:∀a b,P [a,b]) (d:List Value) (q:d.length=2):P d:=match d,q with | [_,_],_=>h _ _
theorem us3 {P:List Value->Prop} (h:∀a b c,P [a,b,c]) (d:List Value) (q:d.length=3):P d:=match d,q with | [_,_,_],_=>h _ _ _
theorem us4 {P:List Value->Prop} (h:∀a b c d,P [a,b,c,d]) (q:List Value) (y:q.length=4):P q:=match q,y with | [_,_,_,_],_=>h _ _ _ _
theorem us5 {P:List Value->Prop} (h:∀a b c d e,P [a,b,c,d,e]) (q:List Value) (y:q.length=5):P q:=match q,y with | [_,_,_,_,_],_=>h _ _ _ _ _
theorem us6 {P:List Value->Prop} (h:∀a b c d e f,P [a,b,c,d,e,f]) (q:List Value) (y:q.length=6):P q:=match q,y with | [_,_,_,_,_,_],_=>h _ _ _ _ _ _
theorem Cv {K:Frag}{h:Heap}{mg:Str->Option Value}{x:Str}{st:Stmt} (X:K.In h) (G:h.Ns mainGlobals mg) (d:Fd K x st) (ps:List Str) (J:∀(kV q L:Value) (M:Option Addr) (y ct:Value) (I:List Value),I.length=ps.length->bindArgs (PySem.W.fnOf x x (Jg st) (G7 st) (Ak st) .none kV q L M y ct) ⟨I,[]⟩=pure (ps.zip I):=by first | exact(fun _ _ _ _ _ _=>us1 fun _=>rfl) | exact(fun _ _ _ _ _ _=>us2 fun _ _=>rfl) | exact(fun _ _ _ _ _ _=>us3 fun _ _ _=>rfl) | exact(fun _ _ _ _ _ _=>us4 fun _ _ _ _=>rfl) | exact(fun _ _ _ _ _ _=>us5 fun _ _ _ _ _=>rfl) | exact(fun _ _ _ _ _ _=>us6 fun _ _ _ _ _ _=>rfl)):∃f fd,Df K mg x st ps f fd:=by
 obtain⟨f,_,_,_,_,_,_,_,_,_,a,l,c,k⟩:=d
 have F:=Abr (st:=st) l c k
 exact⟨_,_,F,F.binds J,mg_of X G a⟩
theorem all_mk {l:PySem.W.OpenLaw}{w:World}{K:Frag}{h:Heap}{mg:Str->Option Value}{fa:Addr} (X:K.In h) (G:h.Ns mainGlobals mg) (dm:mg "law"=some (.ref fa))
 (d1:Fd K "_law_source" Km) (d2:Fd K "_law_mixed" Nf) (d3:Fd K "_law_next" Qe) (d4:Fd K "_law_shared" Kl) (d5:Fd K "_law_frac" Qc) (d6:Fd K "_law_drawn" Nb) (d7:Fd K "_law_sum" Uj) (d8:Fd K "_law_product" Ji) (d9:Fd K "_law_mixed_row" Eo) (dn:Fd K "_law_rows" Lq) (dp:Fd K "_law_dot" Ui) (dt:Fd K "_law_right_of" Em) (du:Fd K "is_list_of" Hy) (dv:Fd K "refuse_shapes" Dr) (dw:Fd K "swapped" Nh) (dy:Fd K "cleared" Jw) (dz:Fd K "reduced_rows" Ez) (e0:Fd K "over_one_bottom" Dy) (e1:Fd K "whole_rows" Gn) (e2:Fd K "divisor" M9) (e3:Fd K "fraction" Kg) (e4:Fd K "unit_list" Hj) (e5:Fd K "base_of" M8) (e6:Fd K "fractions" Hg) (e7:Fd K "solved" Io) (e8:Fd K "_law_behind" Im) (e9:Fd K "_law_unit" Qf) (ea:Fd K "_law_list" Qd) (eb:Fd K "_law_fractions" Fq) (ec:Fd K "_law_weighed" Hi) (ed:Fd K "_law_all_so" Dl) (ee:Fd K "_law_so" Zc) (ef:Fd K "_law_right" Ng) (eg:Fd K "is_whole" Kh) (eh:Fd K "is_fraction" Hh) (ei:Fd K "are_fractions" En) (ej:Fd K "is_choice" Gb) (ek:Fd K "are_lists" Hf) (em:Fd K "come_to" Jx) (en:Fd K "minus" Uh) (eo:Fd K "columns_of" Fe) (eq:Fd K "shows" Uk) (er:Fd K "is_base" Jy) (et:Fd K "all_right" Ei) (eu:Fd K "none_right" Gm) (ev:Fd K "solved_right" Gv) (ew:Fd K "law" Ob)
 {ar:Addr} (as:PySem.W.nsIn K mainGlobals "NoShape"=some (some (.ref ar)))
 {b6:Addr} (b7:PySem.W.nsIn K mainGlobals "NoPart"=some (some (.ref b6)))
 {cm:Addr} (cn:PySem.W.nsIn K mainGlobals "ONE"=some (some (.ref cm)))
 {b8:Addr} (b9:PySem.W.nsIn K mainGlobals "NOUGHT"=some (some (.ref b8)))
 {cp:Tok}
 {cy:Option Addr}{cz:Nat}{d0:Array (Option Value)}{cq cr:Tok}
 {c7:Option Addr}{c8:Nat}{c9:Array (Option Value)}{bx c0:Tok}
 (ci:PySem.W.nsIn K mainGlobals "MOST"=some (some (.int 6 cp)))
 (bj:excIn K ar [.type "ValueError",.type "Exception",.type "BaseException",.type "object"] "ValueError.__new__"=true)
 (c1:excIn K b6 [.type "ValueError",.type "Exception",.type "BaseException",.type "object"] "ValueError.__new__"=true)
 (cs:K.lookup cm=some ⟨.type "tuple",cy,.seq #[.int 1 cq,.int 1 cr] cz,d0⟩)
 (c2:K.lookup b8=some ⟨.type "tuple",c7,.seq #[.int 0 bx,.int 1 c0] c8,c9⟩)
 (da:PySem.W.nsIn K mainGlobals "abs"=some none) (cj:PySem.W.nsIn K mainGlobals "range"=some none) (db:PySem.W.nsIn K mainGlobals "zip"=some none) (dd:PySem.W.nsIn K mainGlobals "len"=some none) (aw:PySem.W.nsIn K mainGlobals "isinstance"=some none) (cu:PySem.W.nsIn K mainGlobals "list"=some none) (de:PySem.W.nsIn K mainGlobals "all"=some none) (ba:PySem.W.nsIn K mainGlobals "enumerate"=some none) (ck:PySem.W.nsIn K mainGlobals "tuple"=some none) (df:PySem.W.nsIn K mainGlobals "int"=some none) (cv:PySem.W.nsIn K mainGlobals "bool"=some none) (ca:PySem.W.nsIn K mainGlobals "sorted"=some none) (dg:PySem.W.nsIn K mainGlobals "set"=some none) (dh:PySem.W.nsIn K mainGlobals "str"=some none) (di:PySem.W.nsIn K mainGlobals "sum"=some none) (dj:PySem.W.nsIn K mainGlobals "any"=some none):
 ∃fd:FuncData,(∀(s:Shared) (v:Value),BindsTo s fd ⟨[v],[]⟩ [("_law_script",v)])/\∀base:Heap,Pyl l.prog base->Ny l.prog w K mg base CX0 41 fa fd ["_law_script"] (Aba K):=by
 obtain⟨ga,_,an,sl,oc,kV,dc,pm,cd,ct,dk,ey,ez,f0⟩:=ew
 have e:=dm.symm.trans (mg_of X G dk)
 cases e
 have cb:=mg_none_of X G da
 have y:=mg_none_of X G cj
 have O:=mg_none_of X G db
 have q:=mg_none_of X G dd
 have d:=mg_none_of X G aw
 have a6:=mg_none_of X G cu
 have ad:=mg_none_of X G de
 have M:=mg_none_of X G ba
 have a7:=mg_none_of X G ck
 have bl:=mg_none_of X G df
 have bw:=mg_none_of X G cv
 have c3:=mg_none_of X G ca
 have cw:=mg_none_of X G dg
 have cc:=mg_none_of X G dh
 have cx:=mg_none_of X G di
 have ce:=mg_none_of X G dj
 have au:=Aaa as
 have bb:=Aaa b7
 have co:=Aaa cn
 have bc:=Aaa b9
 have cf:∃u,mg "MOST"=some u/\RelV (V.int 6) u:=⟨_,mg_of X G ci,⟨_,rfl⟩⟩
 have bd:Z5 K (cA K "NoShape"):=by rw [au];exact bj
 have be:mg "NoShape"=some (.ref (cA K "NoShape")):=by rw [au];exact mg_of X G as
 have bm:Z5 K (cA K "NoPart"):=by rw [bb];exact c1
 have bn:mg "NoPart"=some (.ref (cA K "NoPart")):=by rw [bb];exact mg_of X G b7
 have az:mg "ONE"=some (.ref (cA K "ONE")):=by rw [co];exact mg_of X G cn
 have b0:Tf K (cA K "ONE") [.int 1,.int 1]:=by rw [co];exact⟨_,_,_,cs,rfl,rfl,show 2<=sizeLine by decide,.cons ⟨_,rfl⟩ (.cons ⟨_,rfl⟩ (.nil))⟩
 have F:mg "NOUGHT"=some (.ref (cA K "NOUGHT")):=by rw [bc];exact mg_of X G b9
 have I:Tf K (cA K "NOUGHT") [.int 0,.int 1]:=by rw [bc];exact⟨_,_,_,c2,rfl,rfl,show 2<=sizeLine by decide,.cons ⟨_,rfl⟩ (.cons ⟨_,rfl⟩ (.nil))⟩
 obtain⟨_,_,D1⟩:=Cv X G d1 ["_law_draw"]
 obtain⟨_,_,D2⟩:=Cv X G d2 ["_law_draw","_law_k"]
 obtain⟨_,_,D3⟩:=Cv X G d3 ["_law_source_here","_law_many"]
 obtain⟨_,_,D4⟩:=Cv X G d4 ["_law_one","_law_other"]
 obtain⟨_,_,D5⟩:=Cv X G d5 ["_law_top","_law_bottom"]
 obtain⟨_,_,D6⟩:=Cv X G d6 ["_law_source_here"]
 obtain⟨_,_,D7⟩:=Cv X G d7 ["_law_one","_law_other"]
 obtain⟨_,_,D8⟩:=Cv X G d8 ["_law_one","_law_other"]
 obtain⟨_,_,D9⟩:=Cv X G d9 ["_law_source_here","_law_rows_here","_law_many"]
 obtain⟨_,_,f1⟩:=Cv X G dn ["_law_source_here"]
 obtain⟨_,_,f2⟩:=Cv X G dp ["_law_some","_law_others"]
 obtain⟨_,_,f3⟩:=Cv X G dt ["_law_source_here","_law_rows_here"]
 obtain⟨_,_,f4⟩:=Cv X G du ["thing","fewest","most"]
 obtain⟨_,_,f5⟩:=Cv X G dv ["rows","right"]
 obtain⟨_,_,f6⟩:=Cv X G dw ["rows","one","other"]
 obtain⟨_,_,f7⟩:=Cv X G dy ["rows","turn","unknown","lead"]
 obtain⟨_,_,f8⟩:=Cv X G dz ["rows","unknowns"]
 obtain⟨_,_,f9⟩:=Cv X G e0 ["some"]
 obtain⟨_,_,fb⟩:=Cv X G e1 ["rows","right"]
 obtain⟨_,_,fc⟩:=Cv X G e2 ["one","other"]
 obtain⟨_,_,fe⟩:=Cv X G e3 ["top","bottom"]
 obtain⟨_,_,ff⟩:=Cv X G e4 ["length","here"]
 obtain⟨_,_,fg⟩:=Cv X G e5 ["here","led","reduced","lead","unknowns"]
 obtain⟨_,_,fh⟩:=Cv X G e6 ["tops","bottom"]
 obtain⟨_,_,fi⟩:=Cv X G e7 ["rows","right"]
 obtain⟨_,_,fj⟩:=Cv X G e8 ["_law_paper"]
 obtain⟨_,_,fk⟩:=Cv X G e9 ["_law_at","_law_many"]
 obtain⟨_,_,fl⟩:=Cv X G ea ["_law_thing","_law_many"]
 obtain⟨_,_,fm⟩:=Cv X G eb ["_law_thing","_law_many"]
 obtain⟨_,_,fo⟩:=Cv X G ec ["_law_ys","_law_rows_here"]
 obtain⟨_,_,fp⟩:=Cv X G ed ["_law_rows_here","_law_right_here","_law_x","_law_free","_law_base","_law_ys"]
 obtain⟨_,_,fq⟩:=Cv X G ee ["_law_rows_here","_law_right_here","_law_paper"]
 obtain⟨_,_,ft⟩:=Cv X G ef ["_law_rows_here","_law_right_here","_law_paper"]
 obtain⟨_,_,fu⟩:=Cv X G eg ["thing"]
 obtain⟨_,_,fw⟩:=Cv X G eh ["thing"]
 obtain⟨_,_,fy⟩:=Cv X G ei ["thing","length"]
 obtain⟨_,_,fz⟩:=Cv X G ej ["free","unknowns"]
 obtain⟨_,_,g0⟩:=Cv X G ek ["thing","many","length"]
 obtain⟨_,_,g1⟩:=Cv X G em ["lists","some","wanted"]
 obtain⟨_,_,g2⟩:=Cv X G en ["one","other"]
 obtain⟨_,_,g3⟩:=Cv X G eo ["rows"]
 obtain⟨_,_,g4⟩:=Cv X G eq ["rows","ys","free","base","here"]
 obtain⟨_,_,g5⟩:=Cv X G er ["rows","one","free","here"]
 obtain⟨_,_,g6⟩:=Cv X G et ["rows","right","paper"]
 obtain⟨_,_,g7⟩:=Cv X G eu ["rows","right","ys"]
 obtain⟨_,_,g8⟩:=Cv X G ev ["rows","right","paper"]
 have dl:=Abr (st:=Ob) ey ez f0
 have g9:Df K mg "law" Ob ["_law_script"] _ _:=⟨dl,dl.binds (ps:=["_law_script"]) fun _ _ _ _ _ _ us hl=>match us,hl with | [_],_=>rfl,mg_of X G dk⟩
 refine⟨PySem.W.fnOf "law" "law" (Jg Ob) (G7 Ob) (Ak Ob) .none kV dc pm an cd ct,fun s v=> .of_eq rfl,fun base py=> ?_⟩
 have bf:= @T9 l.prog w K mg base _ _ D1
 have bo:= @Wu l.prog w K mg base _ _ D2
 have ae:=Yr D3 bo
 have bg:= @T8 l.prog w K mg base _ _ D4
 have a3:=Yp D5 cb py bg
 have a5:=Wt D6 ae a3
 have aj:=Aaq D7 a3
 have a8:=Rm D8 a3
 have ak:=Oa D9 y O a5 aj a8
 have c4:=Ys f1 y ae ak a5
 have a1:=Aap f2 O aj a8
 have ao:=Pz f3 q ae a5 a1 aj
 have L:= @Px l.prog w K mg base _ _ f4 d a6 q
 have a9:=Lb f5 ad q cf bd be L
 have Z:=a9.calm (Jt K)
 have bp:= @Ww l.prog w K mg base _ _ f6 a6
 have bq:= @Wo l.prog w K mg base _ _ f7 M O py
 have ah:=Mv f8 y q bp bq
 have U:= @Ju l.prog w K mg base _ _ f9 py
 have ap:=P0 fb M y q U
 have al:= @Wr l.prog w K mg base _ _ fc cb
 have b1:=T4 fe py bm bn al
 have Y:=b1.calm (Pq K)
 have aa:= @Ro l.prog w K mg base _ _ ff y az b0 F I
 have br:=Wn fg O aa Y
 have b2:=Rj fh Y
 have c5:=Yu fi q O y F I Z ah ap Y br b2
 have bh:= @T7 l.prog w K mg base _ _ fj O y q
 have c6:= @Yt l.prog w K mg base _ _ fk
 have av:= @Yq l.prog w K mg base _ _ fl d a6 q
 have a2:=N8 fm d a7 q ad bl bw av a3
 have ac:=Rn fo y q a1
 have bi:=T6 fp q M O d a6 c3 y cw c6 a2 av ac a1
 have cl:=Ac0 fq q bi ac a2 a1
 have bt:=Wv ft d a7 cc q bl bh cl
 have ag:= @T5 l.prog w K mg base _ _ fu d bl bw
 have am:=N7 fw d a7 q ag al
 have J:=K9 fy ad L am
 have b3:=Rk fz ad O L ag
 have b4:=Ri g0 ad L J
 have a0:=Wq g1 O cx U
 have cg:=Aao g2 Y
 have a4:= @Pu l.prog w K mg base _ _ g3 y q
 have ch:=Aar g4 O q F I aa a0 cg a4
 have bv:=Ws g5 ce q F I az b0 a0
 have b5:=Rh g6 q ad ce y O F I J b3 b4 a0 ch bv
 have aq:=Py g7 q M az b0 F I a0 J a4
 have ai:=Mw g8 q d a7 cc Z b5 aq
 exact @Aep l.prog w K mg base _ _ g9 a6 d bf c4 ao c5 bt ai a1
theorem walk {l:PySem.W.OpenLaw}{q:Program}{y:List Str}{O:(Str->Option Value)->Heap->Prop}{L:World->Heap->Prop}{d:DefRec}{K:Params->Frag} (U:l.most=some 63) (G:d.params.defaults=[]) (I:PyProof.Rows.importsNone q=true) (J:l.prog.given.tree=none)
 (Y:∀(w:World) (h:Heap),L w h->(K w.params).In h)
 (F:∀(w:World) (mg:Str->Option Value) (M:Addr) (h:Heap),(K w.params).In h->h.Ns mainGlobals mg->mg d.name=some (.ref M)->
   ∃fd:FuncData,(∀(s:Shared) (u:Value),BindsTo s fd ⟨[u],[]⟩ [("_law_script",u)])/\∀base:Heap,Pyl l.prog base->Ny l.prog w (K w.params) mg base CX0 41 M fd ["_law_script"] (Aba (K w.params))):
 PySem.W.WalkO q y O L l.row.toRowW d [] (fun f Z=>PySem.call f Z):=
 L2.Abh (n:=63) (k:=41) (x:="_law_script") (sp:=Aba) U (by decide) G ⟨rfl,by decide,by decide⟩ I J Y F (fun _ _ a ns hl hS=>⟨a,ns,rfl,hS,hl,fun _=>rfl⟩) fun _ _ _ _ z=>z
end Z
namespace PySem.W.Fast
def tw10024571415350320885:=()
def tw10027138288246815608:=()
def tw10215662620329090386:=()
def tw10253441450884407284:=()
def tw10342693152554183824:=()
def tw10514991018335015070:=()
def tw10651710143338596114:=()
def tw10672162122606213337:=()
def tw10685583826357188459:=()
def tw10691445338079473142:=()
def tw10741625738034900983:=()
def tw10942687181466657882:=()
def tw10945101472634796929:=()
def tw1098650250584498115:=()
def tw11047205683982144462:=()
def tw11061828874063048883:=()
def tw11127578793730317364:=()
def tw11267014883418039266:=()
def tw11384163151509633556:=()
def tw11425433497222501071:=()
def tw11454337555643314462:=()
def tw11461608186048817419:=()
def tw11608793344431609733:=()
def tw1167735289604958850:=()
def tw1168030006033296393:=()
def tw11804731142322655513:=()
def tw11805357836721945509:=()
def tw11854996150656798727:=()
def tw11896305700579497026:=()
def tw11914541658156203948:=()
def tw11931478575731281675:=()
def tw12006335428365474509:=()
def tw12264082298007528024:=()
def tw12293327068514107571:=()
def tw1231964028337827610:=()
def tw12374463977649446782:=()
def tw12453945626713993034:=()
def tw12470268333568888525:=()
def tw12522832145198774108:=()
def tw12544408553410628956:=()
def tw12569796083044918674:=()
def tw12611091229393846060:=()
def tw12645111947586896902:=()
def tw12842247624849861074:=()
def tw12870084127136503722:=()
def tw1287881894540889122:=()
def tw12925672514163986679:=()
def tw12963039545901323863:=()
def tw12992977540973121970:=()
def tw13036566105133646635:=()
def tw13165945462750268238:=()
def tw13202646985450174404:=()
def tw13298512068181811099:=()
def tw13339402366168903527:=()
def tw13401667788222963564:=()
def tw13437303282838481145:=()
def tw13500773094356594481:=()
def tw13504425596742632991:=()
def tw13514517632906078350:=()
def tw13749367574805731209:=()
def tw13771591068786526100:=()
def tw13785676248256455148:=()
def tw13786338930060161359:=()
def tw13790976904462398412:=()
def tw13847821740422860593:=()
def tw13936439415475960423:=()
def tw13996274117791882622:=()
def tw14028293807424602593:=()
def tw14090057032794502126:=()
def tw14139041202584605829:=()
def tw14142423904270270007:=()
def tw14206262754566189695:=()
def tw14252758807003086846:=()
def tw14266571662859111065:=()
def tw14309844121618005562:=()
def tw14312390161609895249:=()
def tw14327503161868670385:=()
def tw14333045483556171464:=()
def tw14363987689477823159:=()
def tw14365458069374159602:=()
def tw14399651082241327601:=()
def tw14466995081725349267:=()
def tw14531459825501192448:=()
def tw14655224143712416383:=()
def tw14674476666644133152:=()
def tw14696832188653800636:=()
def tw14704456070586331563:=()
def tw14707123686593164523:=()
def tw14820437056663542615:=()
def tw14939838968784586448:=()
def tw14980790792604721066:=()
def tw15068991219644664349:=()
def tw15110557982293566193:=()
def tw15182079334437731770:=()
def tw15284320279507627346:=()
def tw15316584462681792373:=()
def tw15335259502799275533:=()
def tw15370405413416134485:=()
def tw15446201536681020226:=()
def tw15531832322906726778:=()
def tw15667619858621061374:=()
def tw15671214663155153704:=()
def tw15703621315191526647:=()
def tw1572769322636034374:=()
def tw15815069143790618886:=()
def tw15817646867997958021:=()
def tw15950126015194525733:=()
def tw16003308273891811135:=()
def tw16164356955312858628:=()
def tw16178888262640423552:=()
def tw16211975196381822476:=()
def tw16216710347710835403:=()
def tw1621703754868785521:=()
def tw16259558718116313134:=()
def tw16280172742231004881:=()
def tw16364631808787162111:=()
def tw16366855323753262257:=()
def tw16388833204431469416:=()
def tw16400400916987081520:=()
def tw16611886517856638710:=()
def tw16630467545852899726:=()
def tw16735322727517491441:=()
def tw16767817736453581956:=()
def tw16789669467992074000:=()
def tw16917187147985300674:=()
def tw16919172055735560181:=()
def tw16978993541963838007:=()
def tw17045193202635630519:=()
def tw17152686852245129284:=()
def tw17248719251217750316:=()
def tw17265225637258382187:=()
def tw17369328445492562728:=()
def tw17375643995874093483:=()
def tw17422947690944051863:=()
def tw17429392208766159749:=()
def tw17472731251085261527:=()
def tw17545010274651560522:=()
def tw17630950019877973873:=()
def tw17694151990768390123:=()
def tw17702889812814852386:=()
def tw17723210938030902003:=()
def tw17850081877977840861:=()
def tw17860834958807391424:=()
def tw18028137250414733312:=()
def tw18040604377533339581:=()
def tw18046256418046246428:=()
def tw18148369801155361644:=()
def tw18247698046835542924:=()
def tw18351033789569250409:=()
def tw1952777934911303236:=()
def tw1964492870913354116:=()
def tw2011120456415683334:=()
def tw2070950197060514097:=()
def tw2138645444161275867:=()
def tw218606906341012871:=()
def tw2286039872264260618:=()
def tw2310333428339108396:=()
def tw2381505311334681803:=()
def tw2469669060070994927:=()
def tw2478384783265772910:=()
def tw2478786752772166506:=()
def tw2487875617563917530:=()
def tw2522079844064078643:=()
def tw2602372291209999909:=()
def tw2618793513438708571:=()
def tw267432972679734169:=()
def tw2676489828285053512:=()
def tw2683033975807797855:=()
def tw270811207219619120:=()
def tw2744987661675281541:=()
def tw2804252600572217636:=()
def tw2818949397726059944:=()
def tw2828430975240225146:=()
def tw2839584443589928332:=()
def tw2864531955864042749:=()
def tw2874797600356776286:=()
def tw2905492437035102833:=()
def tw2924779364403452226:=()
def tw2946557791813056900:=()
def tw3010948536673872731:=()
def tw3012980079779626465:=()
def tw3039365252480839582:=()
def tw305854746150915741:=()
def tw309566585585441633:=()
def tw3116287391801125727:=()
def tw3219501640306907002:=()
def tw3250301094574609917:=()
def tw3260197256007532261:=()
def tw3295816569612531628:=()
def tw3316582843122577286:=()
def tw3345324433517445379:=()
def tw3354082066721843544:=()
def tw3370163909241790129:=()
def tw348206991959860305:=()
def tw3498160950165622035:=()
def tw3513076557062155093:=()
def tw3544699816599101434:=()
def tw3639407587735944981:=()
def tw3647120476280439863:=()
def tw369389284660094822:=()
def tw3714245391084089793:=()
def tw3719944828341003264:=()
def tw3882642702918424155:=()
def tw3890585387443085566:=()
def tw3932059791239229045:=()
def tw3939670850868900158:=()
def tw4031332595014085355:=()
def tw4072661167092026057:=()
def tw4101275553315321788:=()
def tw410398878741328210:=()
def tw4349618449850902419:=()
def tw4423542054319723998:=()
def tw4430033981737879736:=()
def tw4482708363172049531:=()
def tw4502569660743144876:=()
def tw4600263041474861171:=()
def tw4665042659571665512:=()
def tw4727824208921545926:=()
def tw4729026692215166656:=()
def tw4765929381341560200:=()
def tw4869499938858317295:=()
def tw5008733150735642691:=()
def tw5037515633299343670:=()
def tw5143445993544289680:=()
def tw5186932207254934136:=()
def tw5206349455481866543:=()
def tw5224755307134109309:=()
def tw5277498078684999720:=()
def tw535092446965631102:=()
def tw5406026525997635970:=()
def tw5606480911199974166:=()
def tw5811959412969860172:=()
def tw5899345232093158214:=()
def tw5907987067665462383:=()
def tw6023920641923529410:=()
def tw6111966604520613544:=()
def tw6165871744178247990:=()
def tw6226867089285922356:=()
def tw6235250855543114143:=()
def tw6241643901799785583:=()
def tw6264230036916971758:=()
def tw6399894236526447851:=()
def tw6445568824148725621:=()
def tw6468253830124878599:=()
def tw6548325073062183149:=()
def tw6592347982457508058:=()
def tw6621624294472438442:=()
def tw6658383341994256097:=()
def tw67315179580673957:=()
def tw6765208426443738471:=()
def tw6770331096028043781:=()
def tw6788987280525502844:=()
def tw684524899509093141:=()
def tw6969724565752093346:=()
def tw7009101765844322991:=()
def tw7152614067915184665:=()
def tw7183189470411625908:=()
def tw7227488378922267115:=()
def tw7233917650538842601:=()
def tw7263366148680456177:=()
def tw7298721381861983582:=()
def tw7308674517574260744:=()
def tw7359267447342063498:=()
def tw7402146488614398036:=()
def tw7468200629380361944:=()
def tw7545428054366754255:=()
def tw7680075299685633942:=()
def tw7789186622927200413:=()
def tw7814050400980582958:=()
def tw7958039571915313664:=()
def tw7994157635513706743:=()
def tw7995807983998779175:=()
def tw8054790529348003407:=()
def tw8069053665986632074:=()
def tw8083287303429078965:=()
def tw809184518874511881:=()
def tw8179894968421557886:=()
def tw8222180670265001911:=()
def tw8234026253545363691:=()
def tw8259752739609579876:=()
def tw8315866839628125606:=()
def tw8340090521843650784:=()
def tw8359987628622216393:=()
def tw8445500930150234262:=()
def tw8469162497760755201:=()
def tw8541345460599855286:=()
def tw8580209956248738558:=()
def tw8585080576267310886:=()
def tw8605121429616468668:=()
def tw8608517842670567069:=()
def tw861500368854946161:=()
def tw8729403850065885010:=()
def tw8765924178768190857:=()
def tw8771511001195808840:=()
def tw8786423099495754764:=()
def tw8789588018908069333:=()
def tw8793368654736393838:=()
def tw8803872727249894002:=()
def tw9009088393640723350:=()
def tw9037996522820513700:=()
def tw9076487651575735668:=()
def tw9088440934309380288:=()
def tw9259379536831264036:=()
def tw9524637649922157548:=()
def tw9573694640254680425:=()
def tw9585202465434903683:=()
def tw9753710066719703068:=()
def tw9787374440420630514:=()
def tw9865645817237098934:=()
def tw9993764227236047887:=()
end PySem.W.Fast
open PySem PySem.W PyProof.Rows
set_option maxRecDepth 100000 in
set_option maxHeartbeats 0 in
theorem PySem.Challenge.cw_rootcourt_k71_equations_solved_holds : PySem.Challenge.rw_rootcourt_k71_equations_solved.Holds := by
 w_on;o_law;k_head;(case hw=>w_witness2)
 k_fill
 refine Z.walk (l:=PySem.Challenge.rw_rootcourt_k71_equations_solved) rfl rfl (by decide+kernel) rfl (fun w h Y=>kIn_of Y) ?F
 case F=>
  intro w mg y h q G d
  refine' Z.all_mk q G d ?d1 ?d2 ?d3 ?d4 ?d5 ?d6 ?d7 ?d8 ?d9 ?d10 ?d11 ?d12 ?d13 ?d14 ?d15 ?d16 ?d17 ?d18 ?d19 ?d20 ?d21 ?d22 ?d23 ?d24 ?d25 ?d26 ?d27 ?d28 ?d29 ?d30 ?d31 ?d32 ?d33 ?d34 ?d35 ?d36 ?d37 ?d38 ?d39 ?d40 ?d41 ?d42 ?d43 ?d44 ?d45 ?d46 ?d47 ?aNoShape ?aNoPart ?aONE ?aNOUGHT ?xcMOST ?xkNoShape ?xkNoPart ?xtONE ?xtNOUGHT ?zabs ?zrange ?zzip ?zlen ?zisinstance ?zlist ?zall ?zenumerate ?ztuple ?zint ?zbool ?zsorted ?zset ?zstr ?zsum ?zany
  (case aNoShape=>k_is);(case aNoPart=>k_is);(case aONE=>k_is);(case aNOUGHT=>k_is);(case xcMOST=>k_is);(case xkNoShape=>k_exc);(case xkNoPart=>k_exc);(case xtONE=>k_is);(case xtNOUGHT=>k_is)
  all_goals first | k_is | exact⟨_,_,_,_,_,_,_,_,_,_,by k_is,by k_is,by k_is,by k_is⟩
