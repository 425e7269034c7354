import PyProof.Rows.All
import Wide.All
import OpenK.AllK
import Wide.FinOn
import Lean
import PyProof.EqAt
import PyProof.EqKinds
import PyProof.TupleCall
import PySem.Challenge.RW_rootcourt_k77_polynomials_written
set_option maxHeartbeats 4000000
set_option Elab.async false
set_option linter.all false
set_option compiler.extract_closed false
open PySem.W (CodeHd Frag InstAt Looks cellsFrom_some clsIn excIn findIn hideAll hideAll_get instObj isFn kIn_of ke_canLayAll0 ke_depthAll keepIn kia_one kitOne kitx_dict kitx_list kitx_tuple lookIn methodObj mg_none_of mg_of mroIn of_hideAll plainGet specialIn subIn)
open Nat (add_comm le_add_right le_antisymm le_of_eq le_of_lt le_refl le_trans lt_irrefl lt_of_lt_of_le lt_trans min_eq_left mod_lt ne_of_gt ne_of_lt pow_pos sub_self sub_zero succ_mul toDigits zero_add zero_le)
open List (Nodup Pairwise all_cons all_eq_true any_cons append_assoc append_nil cons_append drop_eq_getElem_cons drop_eq_nil_of_le drop_zero filterMap_cons filter_append find?_cons flatten_cons foldl foldl_append foldl_cons forIn_cons getD_eq_getElem?_getD getElem?_append_left getElem?_append_right getElem?_eq_getElem getElem?_eq_none getElem?_map getElem?_replicate getElem_mem getElem_of_mem length_append length_cons length_drop length_map length_nil length_pos_iff length_range length_replicate length_set length_singleton length_take lookup lookup_cons map_append map_cons map_map map_nil map_take mem_append mem_append_right mem_cons mem_cons_of_mem mem_cons_self mem_map mem_range mem_singleton nodup_cons not_mem_nil of_mem_zip replicate replicate_succ size_toArray take_append_drop take_length take_of_length_le take_succ)
open Int (add_zero emod_lt_of_pos emod_nonneg mul_one mul_zero natAbs_natCast natCast_add natCast_emod toNat toNat_natCast)
open Bool (and_eq_true not_not or_eq_true)
open Option (bind_eq_some_iff bind_some getD_none getD_some)
open PyProof.Rows (boot_abs boot_all boot_any boot_int boot_isinstance boot_list boot_max boot_str boot_tuple partition_whole)
open PySem.F (plainAttrs_list plainAttrs_str slot_list_pop type_list_pop)
set_option maxRecDepth 100000
namespace L2
open PySem PySem.Spec PyProof.Rows
abbrev Key:=Sum Int Str
def Acj:Key->Value->Bool
 | .inl k,v=>Value.isInt k v
 | .inr x,v=>Value.isStrOf x v
def Aia (w:World):Key->Int
 | .inl k=>hashInt k
 | .inr x=>hashStr w x
theorem Dg:∀ {k:Key}{v:Value},Acj k v=true->(∃i t,k=Sum.inl i/\v=Value.int i t)\/(∃x t,k=Sum.inr x/\v=Value.str x t)
 | .inl i,v,h=>by
   obtain⟨t,e⟩:=Value.isInt_shape (k:=i) (v:=v) h
   exact .inl ⟨i,t,rfl,e⟩
 | .inr x,v,h=>by
   obtain⟨t,e⟩:=Value.isStrOf_shape (x:=x) (v:=v) h
   exact .inr ⟨x,t,rfl,e⟩
theorem Ack (a b:Int):decide ((Sum.inl a:Key)=Sum.inl b)=(a==b):=by
 by_cases e:a=b
 . subst e;simp
 . have h:¬(Sum.inl a:Key)=Sum.inl b:=fun q=>e (Sum.inl.inj q)
   rw [decide_eq_false h]
   exact(beq_eq_false_iff_ne.mpr e).symm
theorem Acn (a b:Str):decide ((Sum.inr a:Key)=Sum.inr b)=decide (a=b):=by
 by_cases e:a=b
 . subst e;simp
 . have h:¬(Sum.inr a:Key)=Sum.inr b:=fun q=>e (Sum.inr.inj q)
   rw [decide_eq_false h,decide_eq_false e]
theorem Acl (a:Int) (b:Str):decide ((Sum.inl a:Key)=Sum.inr b)=false:=decide_eq_false (fun q=>nomatch q)
theorem Acm (a:Str) (b:Int):decide ((Sum.inr a:Key)=Sum.inl b)=false:=decide_eq_false (fun q=>nomatch q)
def V1 (prog:Program) (w:World):PySem.KeyKind prog w Key where
 is:=Acj
 hash:=Aia w
 inj:=fun v a b ha hb=>by
  rcases Dg ha with⟨i,t,rfl,rfl⟩ | ⟨x,t,rfl,rfl⟩
  . rcases Dg hb with⟨j,u,rfl,e⟩ | ⟨y,u,rfl,e⟩
    . injection e with e1 _;rw [e1]
    . exact nomatch e
  . rcases Dg hb with⟨j,u,rfl,e⟩ | ⟨y,u,rfl,e⟩
    . exact nomatch e
    . injection e with e1 _;rw [e1]
 byValue:=fun k v h=>by
  rcases Dg h with⟨i,t,rfl,rfl⟩ | ⟨x,t,rfl,rfl⟩<;>rfl
 pyHash:=fun hv h=>by
  rcases Dg hv with⟨i,t,rfl,rfl⟩ | ⟨x,t,rfl,rfl⟩
  . exact wpAny_pyHash_int h
  . exact wpAny_pyHash_str h
 eqBool:=fun hu hv h=>by
  rcases Dg hu with⟨i,t,rfl,rfl⟩ | ⟨x,t,rfl,rfl⟩
  . rcases Dg hv with⟨j,u,rfl,rfl⟩ | ⟨y,u,rfl,rfl⟩
    . rw [Ack]at h;exact wpAny_eqBool_int h
    . rw [Acl]at h;exact SeqAt.EqAt.int_str i t y u _ _ _ _ h
  . rcases Dg hv with⟨j,u,rfl,rfl⟩ | ⟨y,u,rfl,rfl⟩
    . rw [Acm]at h;exact SeqAt.EqAt.str_int x t j u _ _ _ _ h
    . rw [Acn]at h;exact wpAny_eqBool_str h
 «strs» :=fun k x t v h=>by
  rcases Dg h with⟨i,u,rfl,e⟩ | ⟨y,u,rfl,e⟩
  . exact nomatch e
  . injection e with e1 _
    subst e1
    cases v<;>rfl
end L2
namespace L2
open PySem PySem.Spec PyProof.Rows
inductive V where
 | non | bl (b:Bool) | int (i:Int) | str (x:Str) | byt (b:Array UInt8) | flt (b:UInt64) | ref (a:Addr) | ty (n:String)
 deriving DecidableEq
def RelV:V->Value->Prop
 | .non,u=>u=Value.none
 | .bl b,u=>u=Value.bool b
 | .int i,u=>∃t,u=Value.int i t
 | .str x,u=>∃t,u=Value.str x t
 | .byt b,u=>∃t,u=Value.bytes b t
 | .flt b,u=>∃t,u=Value.float b t
 | .ref a,u=>u=Value.ref a
 | .ty n,u=>u=Value.type n
abbrev Vals:List V->List Value->Prop:=Paired RelV
theorem Vals.length {xs:List V}{d:List Value} (r:Vals xs d):xs.length=d.length:=Paired.length r
theorem Vals.get:∀ {xs:List V}{d:List Value}{i:Nat}{x:V},Vals xs d->xs[i]? =some x->∃u,d[i]? =some u/\RelV x u
 | _,_,_,_,.nil,e=>by simp at e
 | _,_,0,_,.cons r _,e=>by simp at e;subst e;exact⟨_,rfl,r⟩
 | _,_,i+1,x,.cons _ t,e=>by
   obtain⟨u,h1,h2⟩:=Vals.get (i:=i) (x:=x) t (by simpa using e)
   exact⟨u,by simpa using h1,h2⟩
theorem Vals.set {x:V}{u:Value} (r:RelV x u):∀ {xs:List V}{d:List Value} (i:Nat),Vals xs d->Vals (xs.set i x) (d.set i u)
 | _,_,_,.nil=> .nil
 | _,_,0,.cons _ t=> .cons r t
 | _,_,i+1,.cons q t=> .cons q (Vals.set r i t)
theorem Vals.append:∀ {xs ys:List V}{d y:List Value},Vals xs d->Vals ys y->Vals (xs++ys) (d++y)
 | _,_,_,_,.nil,s=>s
 | _,_,_,_,.cons r t,s=> .cons r (Vals.append t s)
theorem Vals.take:∀ {xs:List V}{d:List Value} (n:Nat),Vals xs d->Vals (xs.take n) (d.take n)
 | _,_,0,_=> .nil
 | _,_,_+1,.nil=> .nil
 | _,_,n+1,.cons r t=> .cons r (Vals.take n t)
theorem Vals.drop:∀ {xs:List V}{d:List Value} (n:Nat),Vals xs d->Vals (xs.drop n) (d.drop n)
 | _,_,0,r=>r
 | _,_,_+1,.nil=> .nil
 | _,_,n+1,.cons _ t=>Vals.drop n t
def Xe:Option V->Option Value->Prop
 | some v,some u=>RelV v u
 | none,none=>True
 | _,_=>False
def KV {κ:Type}:List (κ × V)->List (κ × Value)->Prop:=Paired fun(p:κ × V) (q:κ × Value)=>p.1=q.1/\RelV p.2 q.2
def kV:Key->V
 | .inl i=> .int i
 | .inr x=> .str x
inductive HO where
 | lst (xs:List V)
 | tup (xs:List V)
 | dK (kvs:List (Key × V)) | dT (kvs:List (List Key × V))
 | set (S:Int->Bool) (n:Nat)
 | ins (C dx:Addr) (fs:List (Str × V))
 | own (x:Addr)
 | xd (fs:List (Str × V))
 | met (f x:Addr)
 | rng (lo hi:Int)
 | frz (o:Obj) (u:HO)
 | tbl (ps:Array Value)
 | ext (φ:Heap->Prop)
abbrev Hp:=Addr->Option HO
def upd (H:Hp) (a:Addr) (o:HO):Hp:=fun b=>if b=a then some o else H b
theorem Ah {H:Hp}{a:Addr}{o:HO}:upd H a o a=some o:=by unfold upd;rw [if_pos rfl]
theorem Bl {H:Hp}{a b:Addr}{o:HO} (h:b≠a):upd H a o b=H b:=by unfold upd;rw [if_neg h]
theorem Bs {H:Hp}{a b:Addr}{o:HO} (h:H a=some o) (h':H b=none):a≠b:=by
 intro e;subst e;rw [h]at h';cases h'
section
variable (P:Program) (w:World)
def Fl (H:Hp) (h:Heap) (a:Addr):HO->Prop
 | .lst xs=>xs.length<=sizeLine/\∃(its:List Value) (n:Nat),Vals xs its/\h.get? a=some { cls:= .type "list",data:= .seq its.toArray n}
 | .tup xs=>xs.length<=sizeLine/\∃its:List Value,Vals xs its/\IsTup h a its.toArray
 | .dK kvs=>kvs.length<=sizeLine/\(a==sysModules)=false/\∃vs,KV kvs vs/\h.DictOf (V1 P w) a vs
 | .dT kvs=>kvs.length<=sizeLine/\(a==sysModules)=false/\∃xs:List (List Key × Addr × Value),
    Paired (fun(p:List Key × V) (q:List Key × Addr × Value)=>p.1=q.1/\H q.2.1=some (.tup (p.1.map kV))/\RelV p.2 q.2.2) kvs xs/\
    ∃o es ep,h.get? a=some o/\o.ExactDict/\o.data= .dict es ep/\es.toList=xs.map (entryOfKey (tupleKind (V1 P w)))/\(xs.map (·.1)).Nodup
 | .set S n=>h.SetOf (intKind P w) a S n
 | .ins C dx fs=>H dx=some (.own a)/\fs.length<=1000/\dx≠a/\h.get? a=some (instObj C dx)/\
    ∃mA,h.Ns1 dx mA/\(∀f,Xe (fs.lookup f) (mA f))/\PySem.Within mA (fs.map (·.1))
 | .own _=>∃o,h.get? a=some o
 | .xd fs=>∃mA,h.Ns1 a mA/\∀f,Xe (fs.lookup f) (mA f)
 | .rng lo hi=>∃t u v,h.get? a=some { cls:= .type "range",data:= .fields #[.int lo t,.int hi u,.int 1 v]}
 | .frz o u=>h.get? a=some o/\Fl H h a u
 | .tbl ps=>h.get? a=some { cls:= .none,data:= .fields ps}
 | .met f x=>h.get? a=some (methodObj (.ref f) (.ref x))
 | .ext φ=>φ h/\(∃o,h.get? a=some o)/\∀h1 h2:Heap,φ h1->(∀o,h1.get? a=some o->h2.get? a=some o)->φ h2
def HOk (H:Hp) (h:Heap):Prop:=∀a o,H a=some o->Fl P w H h a o
end
section
variable {P:Program}{w:World}{H H':Hp}{h h':Heap}{a:Addr}{o:HO}
theorem Fl.lt (x:Fl P w H h a o):a<h.objs.size:=by
 cases o with
 | lst xs=>obtain⟨_,_,_,_,e⟩:=x;exact Heap.lt_size e
 | tup xs=>obtain⟨_,_,_,p⟩:=x;exact p.lt
 | dK d=>obtain⟨_,_,_,_,o,_,_,e,_⟩:=x;exact Heap.lt_size e
 | dT d=>obtain⟨_,_,_,_,o,_,_,e,_⟩:=x;exact Heap.lt_size e
 | set S n=>obtain⟨o,_,_,_,e,_⟩:=x;exact Heap.lt_size e
 | ins C dx fs=>obtain⟨_,_,_,e,_⟩:=x;exact Heap.lt_size e
 | own y=>obtain⟨_,e⟩:=x;exact Heap.lt_size e
 | xd fs=>obtain⟨_,⟨_,_,_,e,_⟩,_⟩:=x;exact Heap.lt_size e
 | rng lo hi=>obtain⟨_,_,_,e⟩:=x;exact Heap.lt_size e
 | frz F u=>obtain⟨e,_⟩:=x;exact Heap.lt_size e
 | tbl ps=>exact Heap.lt_size (show h.get? a=some _ from x)
 | met f y=>exact Heap.lt_size (show h.get? a=some _ from x)
 | ext G=>obtain⟨_,⟨_,e⟩,_⟩:=x;exact Heap.lt_size e
theorem Paired.mapP {α I:Type}{F G:α->I->Prop}:∀ {d:List α}{y:List I},Paired F d y->(∀a b,F a b->G a b)->Paired G d y
 | _,_,.nil,_=> .nil
 | _,_,.cons r t,f=> .cons (f _ _ r) (Paired.mapP t f)
theorem Fl.stay (x:Fl P w H h a o) (k:∀b u,(b=a\/H b=some (.own a))->h.get? b=some u->h'.get? b=some u)
 (O:∀b,H b=some (.own a)->H' b=some (.own a)) (U:∀b xs,H b=some (.tup xs)->H' b=some (.tup xs)):Fl P w H' h' a o:=by
 induction o with
 | lst xs=>obtain⟨z,G,n,r,e⟩:=x;exact⟨z,G,n,r,k _ _ (.inl rfl) e⟩
 | tup xs=>obtain⟨z,G,r,F,e,c⟩:=x;exact⟨z,G,r,F,k _ _ (.inl rfl) e,c⟩
 | dK I=>obtain⟨z,y,Y,r,F,es,ep,e,c⟩:=x;exact⟨z,y,Y,r,F,es,ep,k _ _ (.inl rfl) e,c⟩
 | dT I=>
   obtain⟨z,y,xs,r,F,es,ep,e,c⟩:=x
   exact⟨z,y,xs,Paired.mapP r fun p q z=>⟨z.1,U _ _ z.2.1,z.2.2⟩,F,es,ep,k _ _ (.inl rfl) e,c⟩
 | set S n=>obtain⟨F,es,ep,t,e,c⟩:=x;exact⟨F,es,ep,t,k _ _ (.inl rfl) e,c⟩
 | ins C dx fs=>
   obtain⟨d,z,Z,e,L,⟨M,es,ep,e2,c⟩,r⟩:=x
   exact⟨O _ d,z,Z,k _ _ (.inl rfl) e,L,⟨M,es,ep,k _ _ (.inr d) e2,c⟩,r⟩
 | own y=>obtain⟨F,e⟩:=x;exact⟨F,k _ _ (.inl rfl) e⟩
 | xd fs=>obtain⟨L,⟨M,es,ep,e,c⟩,r⟩:=x;exact⟨L,⟨M,es,ep,k _ _ (.inl rfl) e,c⟩,r⟩
 | rng lo hi=>obtain⟨t,u,v,e⟩:=x;exact⟨t,u,v,k _ _ (.inl rfl) e⟩
 | frz F u ih=>obtain⟨e,q⟩:=x;exact⟨k _ _ (.inl rfl) e,ih q⟩
 | tbl ps=>
   have e:h.get? a=some { cls:= .none,data:= .fields ps}:=x
   show h'.get? a=some { cls:= .none,data:= .fields ps}
   exact k a _ (.inl rfl) e
 | met f y=>
   have e:h.get? a=some (methodObj (.ref f) (.ref y)):=x
   show h'.get? a=some (methodObj (.ref f) (.ref y))
   exact k a _ (.inl rfl) e
 | ext φ=>obtain⟨p,⟨o,e⟩,st⟩:=x;exact⟨st _ _ p fun o q=>k _ _ (.inl rfl) q,⟨o,k _ _ (.inl rfl) e⟩,st⟩
theorem HOk.lt (x:HOk P w H h) (e:H a=some o):a<h.objs.size:=(x a o e).lt
theorem HOk.fresh (x:HOk P w H h) (e:h.objs.size<=a):H a=none:=by
 cases q:H a with
 | none=>rfl
 | some u=>exact absurd (lt_of_lt_of_le (x.lt q) e) (lt_irrefl _)
theorem HOk.kept (x:HOk P w H h) (k:∀b u,h.get? b=some u->h'.get? b=some u):HOk P w H h':=fun a o e=>
 (x a o e).stay (fun b u _ q=>k b u q) (fun _ q=>q) fun _ _ q=>q
theorem HOk.laid (x:HOk P w H h) (k:∀b u,h.get? b=some u->h'.get? b=some u) (G:h.objs.size<=a) (d:Fl P w (upd H a o) h' a o):HOk P w (upd H a o) h':=fun b u e=>by
 have y:=x.fresh G
 by_cases F:b=a
 . subst F;rw [Ah]at e;cases e;exact d
 . rw [Bl F]at e
   exact(x b u e).stay (fun c v _ q=>k c v q) (fun c q=>by rw [Bl (Bs q y)];exact q) fun c xs q=>by rw [Bl (Bs q y)];exact q
end
def Rd (H:Hp) (a:Addr) (u:HO):Prop:=H a=some u\/∃o,H a=some (.frz o u)
theorem Rd.of {H:Hp}{a:Addr}{u:HO} (h:H a=some u):Rd H a u:= .inl h
theorem Rd.ok {P:Program}{w:World}{H:Hp}{h:Heap}{a:Addr}{u:HO} (r:Rd H a u) (x:HOk P w H h):Fl P w H h a u:=by
 rcases r with r | ⟨o,r⟩
 . exact x a u r
 . obtain⟨_,q⟩:=x a _ r
   exact q
def Mut:Option HO->Prop
 | some (.lst _)=>True
 | some (.dK _)=>True
 | some (.dT _)=>True
 | some (.set _ _)=>True
 | some (.ins _ _ _)=>True
 | some (.ext _)=>True
 | _=>False
section
variable {P:Program}{w:World}{H:Hp}{h h':Heap}{x e:Addr}{o':HO}
theorem HOk.write (ok:HOk P w H h) (mu:Mut (H x)) (U:e=x\/H e=some (.own x)) (k:∀b u,b≠e->h.get? b=some u->h'.get? b=some u) (M:∃u,h'.get? e=some u)
 (O:Fl P w (upd H x o') h' x o'):HOk P w (upd H x o') h':=fun b u q=>by
 have F:∀c y,H c=some (.own y)->c≠x:=fun c y r z=>by subst z;rw [r]at mu;exact mu
 have G:∀c xs,H c=some (.tup xs)->c≠x:=fun c xs r z=>by subst z;rw [r]at mu;exact mu
 by_cases I:b=x
 . subst I;rw [Ah]at q;cases q;exact O
 . rw [Bl I]at q
   by_cases d:b=e
   . have q':H b=some (.own x):=by
      rcases U with z | z
      . exact absurd (d.trans z) I
      . rw [d];exact z
     rw [q]at q';cases q'
     obtain⟨v,W⟩:=M
     exact⟨v,by rw [d];exact W⟩
   . refine(ok b u q).stay (fun c v L r=>k c v ?_ r) (fun c r=>by rw [Bl (F c b r)];exact r) fun c xs r=>by rw [Bl (G c xs r)];exact r
     rcases L with rfl | L
     . exact d
     . rintro rfl
       rcases U with z | z
       . exact F c b L z
       . rw [L]at z;cases z;exact I rfl
end
structure Un (fs ex:List Addr) (H H':Hp) (h h':Heap):Prop where
 keep:∀b o,h.get? b=some o->H b=none->b∉fs->b∉ex->h'.get? b=some o
 slot:∀b o,h.get? b=some o->H b=none->b∈fs->b∉ex->∃sl,h'.get? b=some { o with slots:=sl}
 free:∀b o,h.get? b=some o->H b=none->b∉ex->H' b=none
 there:∀b o,h.get? b=some o->b∉ex->∃o',h'.get? b=some o'
 tups:∀b xs,H b=some (.tup xs)->H' b=some (.tup xs)
 frzs:∀b o u,H b=some (.frz o u)->H' b=some (.frz o u)
 tbls:∀b ps,H b=some (.tbl ps)->∃more,H' b=some (.tbl (ps++more))
section
variable {fs fs' ex ex':List Addr}{H H1 H2:Hp}{h h1 h2 h':Heap}{a x e:Addr}{o:HO}
theorem Un.any (u:Un fs ex H H1 h h1) {b:Addr}{d:Obj} (q:h.get? b=some d) (n:H b=none) (y:b∉ex):∃G,h1.get? b=some { d with slots:=G}:=by
 by_cases F:b∈fs
 . exact u.slot b d q n F y
 . exact⟨d.slots,u.keep b d q n F y⟩
theorem Un.trans (a:Un fs ex H H1 h h1) (b:Un fs ex H1 H2 h1 h2):Un fs ex H H2 h h2 where
 keep:=fun c d q n G y=>b.keep c d (a.keep c d q n G y) (a.free c d q n y) G y
 slot:=fun c d q n G y=>by
  obtain⟨U,F⟩:=a.slot c d q n G y
  obtain⟨I,L⟩:=b.slot c _ F (a.free c d q n y) G y
  exact⟨I,L⟩
 free:=fun c d q n y=>by
  obtain⟨o',F⟩:=a.there c d q y
  exact b.free c o' F (a.free c d q n y) y
 there:=fun c d q y=>by
  obtain⟨o',F⟩:=a.there c d q y
  exact b.there c o' F y
 tups:=fun c xs q=>b.tups c xs (a.tups c xs q)
 frzs:=fun c d xs q=>b.frzs c d xs (a.frzs c d xs q)
 tbls:=fun c ps q=>by
  obtain⟨M,F⟩:=a.tbls c ps q
  obtain⟨O,L⟩:=b.tbls c _ F
  exact⟨M++O,by rw [L,Array.append_assoc]⟩
theorem Un.kept (k:∀b u,h.get? b=some u->h'.get? b=some u):Un fs ex H H h h':=
 ⟨fun b d q _ _ _=>k b d q,fun b d q _ _ _=>⟨d.slots,k b d q⟩,fun _ _ _ n _=>n,fun b d q _=>⟨d,k b d q⟩,fun _ _ q=>q,fun _ _ _ q=>q,fun _ ps q=>⟨#[],by rw [q];simp⟩⟩
theorem Un.refl:Un fs ex H H h h:=Un.kept fun _ _ q=>q
theorem Un.laid (k:∀b u,h.get? b=some u->h'.get? b=some u) (y:h.objs.size<=a) (d:H a=none):Un fs ex H (upd H a o) h h' where
 keep:=fun b u q _ _ _=>k b u q
 slot:=fun b u q _ _ _=>⟨u.slots,k b u q⟩
 free:=fun b u q n _=>by rw [Bl (ne_of_lt (lt_of_lt_of_le (Heap.lt_size q) y))];exact n
 there:=fun b u q _=>⟨u,k b u q⟩
 tups:=fun b xs q=>by rw [Bl (Bs q d)];exact q
 frzs:=fun b u xs q=>by rw [Bl (Bs q d)];exact q
 tbls:=fun b ps q=>⟨#[],by rw [Bl (Bs q d),q];simp⟩
theorem Un.write (mu:Mut (H x)) (L:e=x\/H e=some (.own x)) (k:∀b u,b≠e->h.get? b=some u->h'.get? b=some u) (y:∃u,h'.get? e=some u):Un fs ex H (upd H x o) h h':=by
 have G:∀b,H b=none->b≠x:=fun b n z=>by subst z;rw [n]at mu;exact mu
 have I:∀b,H b=none->b≠e:=fun b n z=>by
  subst z
  rcases L with r | r
  . exact G b n r
  . rw [n]at r;cases r
 have F:∀b u,H b=some u->¬Mut (some u)->b≠x:=fun b u q nm z=>by subst z;rw [q]at mu;exact nm mu
 refine⟨fun b u q n _ _=>k b u (I b n) q,fun b u q n _ _=>⟨u.slots,k b u (I b n) q⟩,fun b u q n _=>by rw [Bl (G b n)];exact n,fun b u q _=> ?_,
  fun b xs q=>by rw [Bl (F b _ q fun z=>z)];exact q,fun b u xs q=>by rw [Bl (F b _ q fun z=>z)];exact q,fun b ps q=>⟨#[],by rw [Bl (F b _ q fun z=>z),q];simp⟩⟩
 by_cases d:b=e
 . subst d;exact y
 . exact⟨u,k b u d q⟩
theorem Un.mono (u:Un fs ex H H1 h h1) (G:∀b∈fs,b∈fs') (F:∀b∈ex,b∈ex'):Un fs' ex' H H1 h h1:=
 ⟨fun b y q n I d=>u.keep b y q n (fun z=>I (G b z)) fun z=>d (F b z),fun _ _ q n _ d=>u.any q n fun z=>d (F _ z),fun b y q n d=>u.free b y q n fun z=>d (F b z),fun b y q d=>u.there b y q fun z=>d (F b z),u.tups,u.frzs,u.tbls⟩
end
def trk (h:Heap) (H:Hp):List Addr:=(List.range h.objs.size).filter fun a=>(H a).isSome
def U5 (h:Heap) (H:Hp):Heap:=hideAll h (trk h H)
theorem Vm (h:Heap) (H:Hp):(U5 h H).objs.size=h.objs.size:=PySem.W.hideAll_size _ _
theorem Sh {h:Heap}{H:Hp}{b:Addr}{o:Obj} (e:h.get? b=some o) (n:H b=none):(U5 h H).get? b=some o:=
 hideAll_get _ e fun d=>by
  have q:(H b).isSome=true:=(List.mem_filter.mp d).2
  rw [n]at q;simp at q
theorem Aap {h:Heap}{H:Hp}{b:Addr}{o:Obj} (e:(U5 h H).get? b=some o):h.get? b=some o/\H b=none:=by
 have d:h.get? b=some o:=of_hideAll (trk h H) e
 refine⟨d,?_⟩
 cases q:H b with
 | none=>rfl
 | some x=>
   have y:b∈trk h H:=List.mem_filter.mpr ⟨mem_range.mpr (Heap.lt_size d),by simp [q]⟩
   have z:(U5 h H).get? b=none:=PySem.W.hideAll_none (trk h H) y
   rw [z]at e;cases e
def Z1 (g h:Heap) (L:Addr):List (Addr × Obj):=(List.range h.objs.size).filterMap fun a=>if a=L\/(g.get? a).isSome=true then none else(h.get? a).map fun o=>(a,o)
def rest (g h:Heap) (L d:Addr):List (Addr × Obj):=(Z1 g h L).filter fun p=>decide (p.1≠d)
end L2
namespace L2
open PySem PySem.Spec PyProof.Rows
structure Mod (K:Frag) (mg:Str->Option Value) (base:Heap):Prop where
 kin:K.In base
 glob:base.Ns mainGlobals mg
 blt:∃mb,base.Ns builtinsNs mb/\∀x:Str,x≠"__name__"->mb x=bootBuiltins x
 nolimit:base.NoLimit
structure Cx where
 prog:Program
 w:World
 K:Frag
 mg:Str->Option Value
 base:Heap
 A:Around
 N:List Str
 s₀:Shared
 H₀:Hp
 env:Env
 outer:List Env
 stack:List Env
 ex:List Addr
 fn:Str->Bool
 calm:Bool
 pn:List (Addr × Obj)
 xe:Value->Shared->Prop
def frs (l:List Env):List Addr:=l.filterMap (·.frame)
abbrev Cx.fs (X:Cx):List Addr:=frs X.outer
def Vis (sc:Scope) (x:Str):Prop:=sc.names.lookup x=some .local \/sc.names.lookup x=some .cell\/sc.names.lookup x=some .free
def Loc (sc:Scope) (x:Str):Prop:=sc.names.lookup x=some .local \/sc.names.lookup x=some .cell
def Look (env:Env) (h:Heap) (m:Str->Option Value) (x:Str) (u:Value):Prop:=
 (env.kindOf x=some .local /\m x=some u)\/((env.kindOf x=some .cell\/env.kindOf x=some .free)/\∃c,env.cells.lookup x=some c/\h.IsCell c (some u))
structure Cx.Ok (X:Cx):Prop where
 mod:Mod X.K X.mg X.base
 kind:X.env.scope.kind= .function
 glob:X.env.globals=mainGlobals
 blt:X.env.builtins=builtinsNs
 above:X.s₀.heap.objs.size<=X.env.locals
 inj:∀x y c,X.env.cells.lookup x=some c->X.env.cells.lookup y=some c->x=y
 has:∀x,(X.env.kindOf x=some .cell\/X.env.kindOf x=some .free)->∃c,X.env.cells.lookup x=some c
 cab:∀x c,X.fn x=true->X.env.cells.lookup x=some c->X.s₀.heap.objs.size<=c
 hd:X.calm=true->X.A.handled=none
 frames:X.A.frames=some X.stack
 stk:X.stack=X.outer\/(X.stack=X.env::X.outer/\X.env.frame=some X.env.locals)
 exf:∀b∈X.ex,b≠X.env.locals/\∀x c,X.env.cells.lookup x=some c->c≠b
 bs:∀b o,X.base.get? b=some o->X.s₀.heap.get? b=some o/\X.H₀ b=none
 bsz:X.base.objs.size<=X.s₀.heap.objs.size
 noex:∀b o,X.base.get? b=some o->b∉X.ex
 exfs:∀b∈X.ex,b∉X.fs
 funs:X.s₀.heap.FunFrames X.base X.outer
 frf:∀b∈X.fs,X.H₀ b=none
structure Inv (X:Cx) (pins:List (Addr × Obj)) (σ:List (Option V)) (H:Hp) (s:Shared):Prop where
 ok:X.Ok
 os:s.os=X.s₀.os
 bare:AllBare s.gens
 base:Un X.fs X.ex X.H₀ H X.s₀.heap s.heap
 loc:∃m,s.heap.Ns X.env.locals m/\∀(i:Nat) (x:Str) (v:V),X.N[i]? =some x->σ[i]? =some (some v)->Vis X.env.scope x->∃u,RelV v u/\Look X.env s.heap m x u
 cell:∀x c,X.env.cells.lookup x=some c->∃v,s.heap.IsCell c v
 free:H X.env.locals=none
 freeC:∀x c,X.env.cells.lookup x=some c->H c=none
 pin:∀p∈X.pn++pins,s.heap.get? p.1=some p.2/\H p.1=none/\p.1≠X.env.locals/\p.1∉X.fs/\∀v,p.2.data≠ .cell v
 hok:HOk X.prog X.w H s.heap
 len:σ.length=X.N.length
section
variable {X:Cx}{pins:List (Addr × Obj)}{σ:List (Option V)}{H H':Hp}{s:Shared}{h':Heap}
theorem Cx.Ok.nofr (ok:X.Ok) {b:Addr}{o:Obj} (e:X.base.get? b=some o):b∉X.fs:=fun d=>by
 have:=(ok.funs.mem d).1
 rw [e]at this;cases this
theorem Inv.bs (I:Inv X pins σ H s):∀b o,X.base.get? b=some o->s.heap.get? b=some o/\H b=none:=fun b o e=>
 ⟨I.base.keep b o (I.ok.bs b o e).1 (I.ok.bs b o e).2 (I.ok.nofr e) (I.ok.noex b o e),I.base.free b o (I.ok.bs b o e).1 (I.ok.bs b o e).2 (I.ok.noex b o e)⟩
theorem Inv.bk (I:Inv X pins σ H s):∀b o,X.base.get? b=some o->s.heap.get? b=some o:=fun b o e=>(I.bs b o e).1
theorem Inv.mod (I:Inv X pins σ H s):Mod X.K X.mg X.base:=I.ok.mod
theorem Inv.kIn (I:Inv X pins σ H s):X.K.In s.heap:=I.ok.mod.kin.keeps I.bk
theorem Inv.nolimit (I:Inv X pins σ H s):s.heap.NoLimit:=I.ok.mod.nolimit.keeps I.bk
theorem Inv.fr (I:Inv X pins σ H s):∃m,Fr X.base X.env.locals s.heap m:=
 let ⟨m,hn,_⟩:=I.loc
 ⟨m,hn,I.bk,le_trans I.ok.bsz I.ok.above⟩
theorem Inv.lt (I:Inv X pins σ H s):X.env.locals<s.heap.objs.size:=let ⟨_,hn,_⟩:=I.loc;hn.lt
theorem Inv.sz (I:Inv X pins σ H s):X.s₀.heap.objs.size<=s.heap.objs.size:=le_trans I.ok.above (le_of_lt I.lt)
theorem Inv.nofs (I:Inv X pins σ H s) {a:Addr} (h:s.heap.objs.size<=a):a∉X.fs:=fun d=>by
 obtain⟨_,o,y,_⟩:=I.ok.funs.mem d
 exact absurd (lt_of_lt_of_le (Heap.lt_size y) (le_trans I.sz h)) (lt_irrefl _)
theorem Inv.cne (I:Inv X pins σ H s):∀x c,X.env.cells.lookup x=some c->c≠X.env.locals:=fun x c e z=>by
 obtain⟨v,o,F,G⟩:=I.cell x c e
 obtain⟨m,⟨o',es,ep,d,y,_⟩,_⟩:=I.loc
 rw [z,d]at F;cases F;rw [y]at G;cases G
theorem Inv.funs (I:Inv X pins σ H s):s.heap.FunFrames X.base X.outer:=by
 have all:∀(l:List Env),(∀b∈frs l,b∈X.fs)->X.s₀.heap.FunFrames X.base l->s.heap.FunFrames X.base l:=by
  intro l
  induction l with
  | nil=>intro _ _;trivial
  | cons env r M=>
    intro G O
    obtain⟨U,⟨L,o,d,W,Y,Z⟩,hr⟩:=O
    have y:L∈X.fs:=G L (by unfold frs;rw [filterMap_cons,d];exact mem_cons_self)
    obtain⟨sl,e⟩:=I.base.slot L o Y (I.ok.frf L y) y fun z=>I.ok.exfs L z y
    exact⟨U,⟨L,_,d,W,e,Z⟩,M (fun b F=>G b (by unfold frs;rw [filterMap_cons,d];exact mem_cons_of_mem _ F)) hr⟩
 exact all X.outer (fun _ F=>F) I.ok.funs
theorem Inv.stack (I:Inv X pins σ H s):s.heap.FunFrames X.base X.stack:=by
 rcases I.ok.stk with e | ⟨e,d⟩
 . rw [e];exact I.funs
 . rw [e]
   obtain⟨m,y,_⟩:=I.loc
   refine .cons (by rw [I.ok.kind];decide) d y ?_ I.funs
   exact Heap.get?_none_of_le (le_trans I.ok.bsz I.ok.above)
theorem Inv.stkSub (I:Inv X pins σ H s):∀b∈frs X.stack,b∈X.env.locals::X.fs:=fun b d=>by
 rcases I.ok.stk with e | ⟨e,y⟩
 . rw [e]at d;exact mem_cons_of_mem _ d
 . rw [e]at d
   unfold frs at d
   rw [filterMap_cons,y]at d
   exact d
theorem Inv.stkFree (I:Inv X pins σ H s):∀b∈frs X.stack,H b=none:=fun b d=>by
 rcases mem_cons.mp (I.stkSub b d)with e | d
 . rw [e];exact I.free
 . obtain⟨_,o,y,_⟩:=I.ok.funs.mem d
   exact I.base.free b o y (I.ok.frf b d) fun z=>I.ok.exfs b z d
theorem Inv.step {g':Array GenState}{t':Nat}{d':Drawn}{ch:List Addr} (I:Inv X pins σ H s)
 (F:∀b∈ch,(b∈X.ex\/X.s₀.heap.objs.size<=b)/\b≠X.env.locals/\(∀x c,X.env.cells.lookup x=some c->c≠b)/\∀p∈X.pn++pins,p.1≠b)
 (keep:∀b o,b≠X.env.locals->b∉X.fs->b∉ch->s.heap.get? b=some o->H b=none->h'.get? b=some o)
 (O:∀b o,b≠X.env.locals->b∈X.fs->b∉ch->s.heap.get? b=some o->H b=none->∃sl,h'.get? b=some { o with slots:=sl}) (free:∀b o,b∉ch->s.heap.get? b=some o->H b=none->H' b=none)
 (there:∀b o,b∉ch->s.heap.get? b=some o->∃o',h'.get? b=some o')
 (Y:∀b xs,H b=some (.tup xs)->H' b=some (.tup xs)) (Z:∀b o u,H b=some (.frz o u)->H' b=some (.frz o u)) (a0:∀b ps,H b=some (.tbl ps)->∃a1,H' b=some (.tbl (ps++a1)))
 (ns:∀m,s.heap.Ns X.env.locals m->h'.Ns X.env.locals m) (a3:HOk X.prog X.w H' h') (hg:AllBare g'):
 Inv X pins σ H' { s with heap:=h',gens:=g',drawn:=d',toks:=t'}:=by
 have a2:∀b o,X.s₀.heap.get? b=some o->b≠X.env.locals:=fun b o e=>ne_of_lt (lt_of_lt_of_le (Heap.lt_size e) I.ok.above)
 have L:∀b o,X.s₀.heap.get? b=some o->b∉X.ex->b∉ch:=fun b o e y U=>by
  rcases(F b U).1 with z | z
  . exact y z
  . exact absurd (lt_of_lt_of_le (Heap.lt_size e) z) (lt_irrefl _)
 have cellK:∀x c,X.env.cells.lookup x=some c->∀v,s.heap.IsCell c v->h'.IsCell c v:=fun x c e v ⟨o,W,hd⟩=>by
  have G:c∉ch:=fun z=>(F c z).2.2.1 x c e rfl
  by_cases hc:c∈X.fs
  . obtain⟨sl,q⟩:=O c o (I.cne x c e) hc G W (I.freeC x c e)
    exact⟨_,q,hd⟩
  . exact⟨o,keep c o (I.cne x c e) hc G W (I.freeC x c e),hd⟩
 refine⟨I.ok,I.os,hg,⟨fun b o e n U y=> ?_,fun b o e n U y=> ?_,fun b o e n y=> ?_,fun b o e y=> ?_,fun b xs e=>Y b xs (I.base.tups b xs e),fun b o xs e=>Z b o xs (I.base.frzs b o xs e),fun b ps e=> ?_⟩,?_,fun x c e=> ?_,?_,fun x c e=> ?_,fun p hp=> ?_,a3,I.len⟩
 . exact keep b o (a2 b o e) U (L b o e y) (I.base.keep b o e n U y) (I.base.free b o e n y)
 . obtain⟨sl,M⟩:=I.base.slot b o e n U y
   obtain⟨a4,e2⟩:=O b _ (a2 b o e) U (L b o e y) M (I.base.free b o e n y)
   exact⟨a4,e2⟩
 . obtain⟨o',M⟩:=I.base.there b o e y
   exact free b o' (L b o e y) M (I.base.free b o e n y)
 . obtain⟨o',M⟩:=I.base.there b o e y
   exact there b o' (L b o e y) M
 . obtain⟨m1,M⟩:=I.base.tbls b ps e
   obtain⟨m2,e2⟩:=a0 b _ M
   exact⟨m1++m2,by rw [e2,Array.append_assoc]⟩
 . obtain⟨m,hn,hl⟩:=I.loc
   refine⟨m,ns m hn,fun i x v M e2 e3=> ?_⟩
   obtain⟨u,r,l⟩:=hl i x v M e2 e3
   refine⟨u,r,?_⟩
   rcases l with l | ⟨k,c,e,z⟩
   . exact .inl l
   . exact .inr ⟨k,c,e,cellK x c e _ z⟩
 . obtain⟨v,z⟩:=I.cell x c e
   exact⟨v,cellK x c e v z⟩
 . obtain⟨m,⟨o,_,_,W,_⟩,_⟩:=I.loc
   exact free _ o (fun z=>(F _ z).2.1 rfl) W I.free
 . obtain⟨v,o,W,hd⟩:=I.cell x c e
   exact free c o (fun z=>(F c z).2.2.1 x c e rfl) W (I.freeC x c e)
 . obtain⟨e,n,ne,nf,d⟩:=I.pin p hp
   have G:p.1∉ch:=fun z=>(F p.1 z).2.2.2 p hp rfl
   exact⟨keep p.1 p.2 ne nf G e n,free p.1 p.2 G e n,ne,nf,d⟩
theorem Inv.un {t':Nat} (I:Inv X pins σ H s) (u:Un X.fs [] H H' s.heap h') (y:HOk X.prog X.w H' h'):Inv X pins σ H' { s with heap:=h',toks:=t'}:=by
 obtain⟨m,⟨o,es,ep,M,r⟩,_⟩:=id I.loc
 obtain⟨Y,O⟩:=u.any M I.free (by simp)
 exact I.step (g':=s.gens) (d':=s.drawn) (ch:=[]) (fun _ z=>nomatch z) (fun b o _ F _ e n=>u.keep b o e n F (by simp)) (fun b o _ F _ e n=>u.slot b o e n F (by simp)) (fun b o _ e n=>u.free b o e n (by simp)) (fun b o _ e=>u.there b o e (by simp)) u.tups u.frzs u.tbls (fun Z U=>by
  obtain⟨o',G,L,d,W⟩:=U
  rw [M]at d;cases d
  exact⟨_,G,L,O,W⟩) y I.bare
theorem Inv.call {g':Array GenState}{t':Nat}{d':Drawn}{ch:List Addr} (I:Inv X pins σ H s) (u:Un (frs X.stack) ch H H' s.heap h') (G:HOk X.prog X.w H' h') (W:AllBare g')
 (y:∀b∈ch,(b∈X.ex\/X.s₀.heap.objs.size<=b)/\b≠X.env.locals/\(∀x c,X.env.cells.lookup x=some c->c≠b)/\∀p∈X.pn++pins,p.1≠b):
 Inv X pins σ H' { s with heap:=h',gens:=g',drawn:=d',toks:=t'}:=by
 obtain⟨m,⟨o,es,ep,U,r⟩,_⟩:=id I.loc
 obtain⟨sl,L⟩:=u.any U I.free fun z=>(y _ z).2.1 rfl
 exact I.step (ch:=ch) y (fun b o L Y d e n=>u.keep b o e n (fun z=>(mem_cons.mp (I.stkSub b z)).elim L Y) d) (fun b o _ _ d e n=>u.any e n d) (fun b o d e n=>u.free b o e n d) (fun b o d e=>u.there b o e d) u.tups u.frzs u.tbls (fun m' Z=>by
  obtain⟨o',M,O,F,r'⟩:=Z
  rw [U]at F;cases F
  exact⟨_,M,O,L,r'⟩) G W
theorem Inv.turned {t':Nat}{d:Addr} (I:Inv X pins σ H s) (k:∀b o,b≠d->s.heap.get? b=some o->h'.get? b=some o) (L:H d=none) (G:d≠X.env.locals)
 (h1:d∈X.ex\/X.s₀.heap.objs.size<=d) (h2:∀x c,X.env.cells.lookup x=some c->c≠d) (M:∀p∈X.pn++pins,p.1≠d):Inv X pins σ H { s with heap:=h',toks:=t'}:=by
 have F:∀b u,H b=some u->b≠d:=fun b u e z=>by rw [z,L]at e;cases e
 refine I.step (g':=s.gens) (d':=s.drawn) (ch:=[d]) (fun b O=> ?_) (fun b o _ _ y e _=>k b o (fun z=>y (by simp [z])) e) (fun b o _ _ y e _=>⟨o.slots,k b o (fun z=>y (by simp [z])) e⟩) (fun _ _ _ _ n=>n)
  (fun b o y e=>⟨o,k b o (fun z=>y (by simp [z])) e⟩) (fun _ _ e=>e) (fun _ _ _ e=>e) (fun b ps e=>⟨#[],by rw [e];simp⟩) (fun m U=> ?_) (fun b u e=> ?_) I.bare
 . have e:b=d:=by simpa using O
   subst e
   exact⟨h1,G,h2,M⟩
 . obtain⟨o,es,ep,W,r⟩:=U
   exact⟨o,es,ep,k _ o (Ne.symm G) W,r⟩
 . refine(I.hok b u e).stay (fun c v y q=>k c v ?_ q) (fun _ q=>q) fun _ _ q=>q
   rcases y with z | z
   . rw [z];exact F b u e
   . exact F c _ z
theorem Inv.tok (I:Inv X pins σ H s) (t:Nat):Inv X pins σ H { s with toks:=t}:=I.un (h':=s.heap) (t':=t) Un.refl I.hok
theorem Inv.kept {t':Nat} (I:Inv X pins σ H s) (k:∀b u,s.heap.get? b=some u->h'.get? b=some u):Inv X pins σ H { s with heap:=h',toks:=t'}:=I.un (Un.kept k) (I.hok.kept k)
theorem Inv.laid {a:Addr}{o:HO}{t':Nat} (I:Inv X pins σ H s) (k:∀b u,s.heap.get? b=some u->h'.get? b=some u) (d:s.heap.objs.size<=a) (y:Fl X.prog X.w (upd H a o) h' a o):
 Inv X pins σ (upd H a o) { s with heap:=h',toks:=t'}:=I.un (Un.laid k d (I.hok.fresh d)) (I.hok.laid k d y)
theorem Inv.write {x e:Addr}{o:HO}{t':Nat} (I:Inv X pins σ H s) (mu:Mut (H x)) (F:e=x\/H e=some (.own x)) (k:∀b u,b≠e->s.heap.get? b=some u->h'.get? b=some u) (d:∃u,h'.get? e=some u)
 (y:Fl X.prog X.w (upd H x o) h' x o):Inv X pins σ (upd H x o) { s with heap:=h',toks:=t'}:=I.un (Un.write mu F k d) (I.hok.write mu F k d y)
theorem Inv.pins_of {d:List (Addr × Obj)} (I:Inv X pins σ H s) (h:∀p∈d,s.heap.get? p.1=some p.2/\H p.1=none/\p.1≠X.env.locals/\p.1∉X.fs/\∀v,p.2.data≠ .cell v):Inv X d σ H s:=
 ⟨I.ok,I.os,I.bare,I.base,I.loc,I.cell,I.free,I.freeC,fun p y=>(mem_append.mp y).elim (fun z=>I.pin p (List.mem_append_left _ z)) (h p),I.hok,I.len⟩
theorem Sv {N:List Str} (d:N.Nodup) {i j:Nat}{x:Str} (a:N[i]? =some x) (b:N[j]? =some x):i=j:=by
 obtain⟨h1,y⟩:=List.getElem?_eq_some_iff.mp a
 obtain⟨h2,F⟩:=List.getElem?_eq_some_iff.mp b
 exact(List.getElem_inj d).mp (y.trans F.symm)
theorem W2 {M:Model}{A:Around}{E:Value->Shared->Prop}{i:Nat}{x:Str}{v:V}{u:Value}{Q:Unit->Shared->Prop} (I:Inv X pins σ H s) (hN:X.N.Nodup) (hi:X.N[i]? =some x) (O:Loc X.env.scope x) (r:RelV v u)
 (h:∀s',Inv X pins (σ.set i (some v)) H s'->(∃a,Heap.SameBut a s.heap s'.heap/\(a=X.env.locals\/X.env.cells.lookup x=some a))->Q () s') (hf:X.fn x=true\/X.env.scope.names.lookup x=some .local :=by first | exact .inl rfl | exact .inr rfl | assumption):wpAny M A (storeName X.env x u) Q E s:=by
 obtain⟨m,hn,hl⟩:=id I.loc
 have a1:(X.env.scope.kind== .class||(X.env.scope.kind== .module&&X.env.locals != X.env.globals))=false:=by rw [I.ok.kind];rfl
 have Y:i<σ.length:=by rw [I.len];exact(List.getElem?_eq_some_iff.mp hi).1
 have cne:=I.cne
 have tracked:∀ {a:Addr}{h':Heap},(∃o,s.heap.get? a=some o/\H a=none)->Heap.SameBut a s.heap h'->HOk X.prog X.w H h':=fun {a h'} ha F b ob e=>by
  obtain⟨_,_,U⟩:=ha
  refine(I.hok b ob e).stay (fun c w' L q=>(F.2 c ?_).trans q) (fun _ q=>q) fun _ _ q=>q
  rintro rfl
  rcases L with rfl | L
  . rw [U]at e;cases e
  . rw [U]at L;cases L
 rcases O with Z | Z
 . refine wpAny_storeName_local Z hn (fun h' a6 F=> ?_) a1
   obtain⟨oL,_,_,a7,_⟩:=id hn
   refine h _ ⟨I.ok,I.os,I.bare,⟨fun b o e n hb O=> ?_,fun b o e n hb O=> ?_,I.base.free,fun b o e O=> ?_,I.base.tups,I.base.frzs,I.base.tbls⟩,⟨_,a6,fun j y v' G W e3=> ?_⟩,fun y c e=> ?_,I.free,I.freeC,fun p hp=> ?_,tracked ⟨oL,a7,I.free⟩ F,by simpa using I.len⟩ ⟨_,F,.inl rfl⟩
   . exact(F.2 b (ne_of_lt (lt_of_lt_of_le (Heap.lt_size e) I.ok.above))).trans (I.base.keep b o e n hb O)
   . obtain⟨sl,G⟩:=I.base.slot b o e n hb O
     exact⟨sl,(F.2 b (ne_of_lt (lt_of_lt_of_le (Heap.lt_size e) I.ok.above))).trans G⟩
   . obtain⟨o',G⟩:=I.base.there b o e O
     exact⟨o',(F.2 b (ne_of_lt (lt_of_lt_of_le (Heap.lt_size e) I.ok.above))).trans G⟩
   . by_cases hj:j=i
     . subst hj
       rw [hi]at G;cases G
       rw [List.getElem?_set_self Y]at W
       cases W
       exact⟨u,r,.inl ⟨Z,by simp⟩⟩
     . rw [List.getElem?_set_ne (Ne.symm hj)]at W
       obtain⟨u',r',q⟩:=hl j y v' G W e3
       refine⟨u',r',?_⟩
       rcases q with⟨k,e⟩ | ⟨k,c,e,z⟩
       . refine .inl ⟨k,?_⟩
         have:y≠x:=fun e=>hj (Sv hN G (e▸hi))
         simp [this,e]
       . exact .inr ⟨k,c,e,z.sameBut F (cne y c e)⟩
   . obtain⟨w',z⟩:=I.cell y c e
     exact⟨w',z.sameBut F (cne y c e)⟩
   . obtain⟨e,n,ne,nf,d⟩:=I.pin p hp
     exact⟨(F.2 p.1 ne).trans e,n,ne,nf,d⟩
 . have a0:X.fn x=true:=by
    rcases hf with z | z
    . exact z
    . rw [z]at Z;cases Z
   obtain⟨c,L⟩:=I.ok.has x (.inl Z)
   obtain⟨w',z⟩:=I.cell x c L
   refine wpAny_storeName_cell I.ok.kind Z L z (fun h' a2 F=> ?_)
   obtain⟨oc,a3,a4⟩:=id z
   refine h { s with heap:=h'} ⟨I.ok,I.os,I.bare,⟨fun b o e n hb O=> ?_,fun b o e n hb O=> ?_,I.base.free,fun b o e O=> ?_,I.base.tups,I.base.frzs,I.base.tbls⟩,⟨m,hn.sameBut F (Ne.symm (cne x c L)),fun j y v' G W e3=> ?_⟩,fun y c' e=> ?_,I.free,I.freeC,fun p hp=> ?_,tracked ⟨oc,a3,I.freeC x c L⟩ F,by simpa using I.len⟩ ⟨c,F,.inr L⟩
   . exact(F.2 b (ne_of_lt (lt_of_lt_of_le (Heap.lt_size e) (I.ok.cab x c a0 L)))).trans (I.base.keep b o e n hb O)
   . obtain⟨sl,G⟩:=I.base.slot b o e n hb O
     exact⟨sl,(F.2 b (ne_of_lt (lt_of_lt_of_le (Heap.lt_size e) (I.ok.cab x c a0 L)))).trans G⟩
   . obtain⟨o',G⟩:=I.base.there b o e O
     exact⟨o',(F.2 b (ne_of_lt (lt_of_lt_of_le (Heap.lt_size e) (I.ok.cab x c a0 L)))).trans G⟩
   . by_cases hj:j=i
     . subst hj
       rw [hi]at G;cases G
       rw [List.getElem?_set_self Y]at W
       cases W
       exact⟨u,r,.inr ⟨.inl Z,c,L,a2⟩⟩
     . rw [List.getElem?_set_ne (Ne.symm hj)]at W
       obtain⟨u',r',q⟩:=hl j y v' G W e3
       refine⟨u',r',?_⟩
       rcases q with q | ⟨k,c',e,z'⟩
       . exact .inl q
       . refine .inr ⟨k,c',e,z'.sameBut F ?_⟩
         rintro rfl
         exact hj (Sv hN G (I.ok.inj _ _ _ e L▸hi))
   . by_cases a5:c'=c
     . subst a5;exact⟨_,a2⟩
     . obtain⟨w2,z2⟩:=I.cell y c' e
       exact⟨w2,z2.sameBut F a5⟩
   . obtain⟨e,n,ne,nf,d⟩:=I.pin p hp
     refine⟨(F.2 p.1 ?_).trans e,n,ne,nf,d⟩
     intro q
     rw [q,a3]at e
     have q':oc=p.2:=Option.some.inj e
     exact d w' (by rw [<-q'];exact a4)
theorem Lq {M:Model}{A:Around}{E:Value->Shared->Prop}{i:Nat}{x:Str}{v:V}{u:Value}{Q:Unit->Shared->Prop} (I:Inv X pins σ H s) (d:X.N.Nodup) (hi:X.N[i]? =some x) (y:Loc X.env.scope x) (r:RelV v u)
 (h:∀s',Inv X pins (σ.set i (some v)) H s'->Q () s') (F:X.fn x=true\/X.env.scope.names.lookup x=some .local :=by first | exact .inl rfl | exact .inr rfl | assumption):wpAny M A (storeName X.env x u) Q E s:=
 W2 I d hi y r (fun s' G _=>h s' G) F
theorem Inv.call' {s':Shared}{ch:List Addr} (I:Inv X pins σ H s) (M:s'.os=s.os) (u:Un (frs X.stack) ch H H' s.heap s'.heap) (d:HOk X.prog X.w H' s'.heap) (O:AllBare s'.gens)
 (y:∀b∈ch,(b∈X.ex\/X.s₀.heap.objs.size<=b)/\b≠X.env.locals/\(∀x c,X.env.cells.lookup x=some c->c≠b)/\∀p∈X.pn++pins,p.1≠b):Inv X pins σ H' s':=by
 obtain⟨h',F,G,L,o'⟩:=s'
 have e:o'=s.os:=M
 subst e
 exact I.call (g':=F) (t':=L) (d':=G) u d O y
end
abbrev XK:=Value->Option Addr->Hp->Prop
abbrev St:=List (Option V)
abbrev VK:=V->Hp->Prop
abbrev TE:=St->Hp->VK->Prop
abbrev TT:=St->Hp->(Bool->Hp->Prop)->Prop
abbrev TA:=St->Hp->(List V->Hp->Prop)->Prop
structure Ends where
 nx:St->Hp->Prop
 rt:VK
 bk:St->Hp->Prop:=fun _ _=>False
 ct:St->Hp->Prop:=fun _ _=>False
abbrev TS:=Ends->St->Hp->Prop
def EP (X:Cx) (pins:List (Addr × Obj)) (σ:St) (Q:VK) (u:Value) (s':Shared):Prop:=∃v H',Inv X pins σ H' s'/\RelV v u/\Q v H'
def TP (X:Cx) (pins:List (Addr × Obj)) (σ:St) (Q:Bool->Hp->Prop) (b:Bool) (s':Shared):Prop:=∃H',Inv X pins σ H' s'/\Q b H'
def AP (X:Cx) (pins:List (Addr × Obj)) (σ:St) (Q:List V->Hp->Prop) (us:List Value) (s':Shared):Prop:=∃vs H',Inv X pins σ H' s'/\Vals vs us/\Q vs H'
def SP (X:Cx) (pins:List (Addr × Obj)) (D:Ends) (f:Flow) (s':Shared):Prop:=
 match f with
 | .next=>∃σ' H',Inv X pins σ' H' s'/\D.nx σ' H'
 | .brk=>∃σ' H',Inv X pins σ' H' s'/\D.bk σ' H'
 | .cont=>∃σ' H',Inv X pins σ' H' s'/\D.ct σ' H'
 | .ret u=>∃v σ' H',Inv X pins σ' H' s'/\RelV v u/\D.rt v H'
def PE (X:Cx) (e:Expr) (t:TE):Prop:=
 ∀(pins:List (Addr × Obj)) (s:Shared) (σ:St) (H:Hp) (Q:VK),Inv X pins σ H s->t σ H Q->wpAny (model X.prog X.w) X.A (eval e X.env) (EP X pins σ Q) X.xe s
def PT (X:Cx) (e:Expr) (t:TT):Prop:=
 ∀(pins:List (Addr × Obj)) (s:Shared) (σ:St) (H:Hp) (Q:Bool->Hp->Prop),Inv X pins σ H s->t σ H Q->wpAny (model X.prog X.w) X.A (isTrue e X.env (eval e X.env)) (TP X pins σ Q) X.xe s
def PW (X:Cx) (e:Expr) (t:TT):Prop:=
 ∀(whole:Sem Value) (pins:List (Addr × Obj)) (s:Shared) (σ:St) (H:Hp) (Q:Bool->Hp->Prop),Inv X pins σ H s->t σ H Q->wpAny (model X.prog X.w) X.A (isTrue e X.env whole) (TP X pins σ Q) X.xe s
theorem PW.pt {X:Cx}{e:Expr}{t:TT} (h:PW X e t):PT X e t:=h _
def PA (X:Cx) (es:List Expr) (t:TA):Prop:=
 ∀(pos:Pos) (pins:List (Addr × Obj)) (s:Shared) (σ:St) (H:Hp) (Q:List V->Hp->Prop),Inv X pins σ H s->t σ H Q->wpAny (model X.prog X.w) X.A (spliced (backTo pos (starEach es X.env))) (AP X pins σ Q) X.xe s
def PS (X:Cx) (st:Stmt) (t:TS):Prop:=
 ∀(pins:List (Addr × Obj)) (s:Shared) (σ:St) (H:Hp) (D:Ends),Inv X pins σ H s->t D σ H->wpAny (model X.prog X.w) X.A (exec st X.env) (SP X pins D) X.xe s
def PSs (X:Cx) (st:List Stmt) (t:TS):Prop:=
 ∀(pins:List (Addr × Obj)) (s:Shared) (σ:St) (H:Hp) (D:Ends),Inv X pins σ H s->t D σ H->wpAny (model X.prog X.w) X.A (execs st X.env) (SP X pins D) X.xe s
theorem thn {α:Type}{t:Sem α}{Q d:α->Shared->Prop}{M:Model}{A:Around}{E:Value->Shared->Prop}{s:Shared} (h:wpAny M A t Q E s) (y:∀a s,Q a s->d a s):wpAny M A t d E s:=wpAny_mono h y fun _ _ x=>x
end L2
namespace L2
open PySem PySem.Spec PyProof.Rows
section
variable {X:Cx}
def Aby (i:Nat):TE:=fun σ H Q=>∃v,σ[i]? =some (some v)/\Q v H
def tC (v:V):TE:=fun _ H Q=>Q v H
theorem Ac8 {i:Nat}{x:Str}{pos:Pos} (O:X.N[i]? =some x) (U:Vis X.env.scope x) (G:(x==("__debug__":Str))=false:=by decide) (L:(x==("__classdict__":Str))=false:=by decide):PE X (.Name x pos) (Aby i):=by
 intro pins s σ H Q I h
 obtain⟨v,e,h⟩:=h
 obtain⟨m,W,Y⟩:=I.loc
 obtain⟨u,r,l⟩:=Y i x v O e U
 have y:EP X pins σ Q u s:=⟨v,H,I,r,h⟩
 rcases l with⟨F,Z⟩ | ⟨F,c,M,d⟩
 . exact wpAny_Name (wpAny_loadName_local I.ok.kind F W Z y) G
 . rcases F with F | F
   . exact wpAny_Name (wpAny_loadName_cell I.ok.kind F M d y) G
   . exact wpAny_Name (wpAny_loadName_free I.ok.kind F M d y L) G
theorem Ac3 {i j pos}:PE X (.Constant (.int i) j pos) (tC (.int i)):=fun _ _ _ H _ I h=>wpAny_Constant_int ⟨.int i,H,I.tok _,⟨_,rfl⟩,h⟩
theorem Afs {b j pos}:PE X (.Constant (.bool b) j pos) (tC (.bl b)):=fun _ _ _ H _ I h=>Constant_bool ⟨.bl b,H,I,rfl,h⟩
theorem Ac6 {x j pos}:PE X (.Constant (.str x) j pos) (tC (.str x)):=fun _ _ _ H _ I h=>Calls.Constant_str ⟨.str x,H,I.tok _,⟨_,rfl⟩,h⟩
def Gl (X:Cx) (x:Str):Prop:=X.env.kindOf x=some .globalImplicit
theorem Vy {E:Value->Shared->Prop}{pins:List (Addr × Obj)}{s:Shared}{σ:St}{H:Hp}{x:Str}{u:Value}{pos:Pos}{Q:Value->Shared->Prop} (I:Inv X pins σ H s) (d:Gl X x) (y:X.mg x=some u) (h:Q u s)
 (F:(x==("__debug__":Str))=false:=by decide):wpAny (model X.prog X.w) X.A (eval (.Name x pos) X.env) Q E s:=
 Calls.Name_function_global I.ok.kind d (Calls.loadGlobal_global (by rw [I.ok.glob];exact I.mod.glob.keeps I.bk) y h) F
theorem Ma {E:Value->Shared->Prop}{pins:List (Addr × Obj)}{s:Shared}{σ:St}{H:Hp}{x:Str}{u:Value}{pos:Pos}{Q:Value->Shared->Prop} (I:Inv X pins σ H s) (d:Gl X x) (y:X.mg x=none) (F:bootBuiltins x=some u) (h:Q u s)
 (G:x≠"__name__":=by decide) (L:(x==("__debug__":Str))=false:=by decide):wpAny (model X.prog X.w) X.A (eval (.Name x pos) X.env) Q E s:=by
 obtain⟨M,h1,h2⟩:=I.mod.blt
 exact Calls.Name_function_global I.ok.kind d (Calls.loadGlobal_builtin (by rw [I.ok.glob];exact I.mod.glob.keeps I.bk) y (by rw [I.ok.blt];exact h1.keeps I.bk) ((h2 x G).trans F) h) L
theorem Rm {x:Str}{v:V}{u:Value}{pos:Pos} (d:Gl X x) (y:X.mg x=some u) (r:RelV v u) (F:(x==("__debug__":Str))=false:=by decide):PE X (.Name x pos) (tC v):=
 fun _ _ _ H _ I h=>Vy I d y ⟨v,H,I,r,h⟩ F
theorem Rk {x:Str}{v:V}{u:Value}{pos:Pos} (d:Gl X x) (y:X.mg x=none) (F:bootBuiltins x=some u) (r:RelV v u) (G:x≠"__name__":=by decide) (L:(x==("__debug__":Str))=false:=by decide):PE X (.Name x pos) (tC v):=
 fun _ _ _ H _ I h=>Ma I d y F ⟨v,H,I,r,h⟩ G L
variable {a b:Expr}{ta tb:TE}{pos:Pos}
def tB (t:TE):TT:=fun σ H Q=>t σ H fun x H1=>∃c,x= .bl c/\Q c H1
theorem Zo {e:Expr}{t:TE} (h:PE X e t) (y:∀whole,isTrue e X.env whole=(do let v<-whole;standAt e.pos;holding [v] (truthy v)):=by intro _;rfl):PT X e (tB t):=by
 intro pins s σ H Q I F
 refine isTrue_plain (thn (h pins s σ H _ I F) fun v O ⟨x,H1,G,L,M⟩=> ?_) (y _)
 obtain⟨d,rfl,q⟩:=M
 cases L
 exact wpAny_truthy_bool ⟨H1,G,q⟩
variable {tA tB':TT}{rest:List Expr}
def Af6 (t u:TT):TT:=fun σ H Q=>t σ H fun c H1=>if c=true then u σ H1 Q else Q false H1
def tOr (t u:TT):TT:=fun σ H Q=>t σ H fun c H1=>if c=true then Q true H1 else u σ H1 Q
def Agc (t:TT):TT:=fun σ H Q=>t σ H fun c H1=>Q (!c) H1
theorem Aa7 (d:PT X a tA):PW X (.BoolOp .And [a] pos) tA:=by
 intro y pins s σ H Q I h
 refine isTrue_and (thn (d pins s σ H Q I h) fun c F e=> ?_)
 cases c with
 | true=>exact isTrue_and_nil e
 | false=>exact e
theorem Adj (d:PT X a tA):PW X (.BoolOp .Or [a] pos) tA:=by
 intro y pins s σ H Q I h
 refine isTrue_or (thn (d pins s σ H Q I h) fun c F e=> ?_)
 cases c with
 | false=>exact isTrue_or_nil e
 | true=>exact e
theorem Adi (F:PT X a tA) (G:PW X (.BoolOp .And (b::rest) pos) tB'):PW X (.BoolOp .And (a::b::rest) pos) (Af6 tA tB'):=by
 intro L pins s σ H Q I h
 refine isTrue_and (thn (F pins s σ H _ I h) fun c M ⟨H1,d,y⟩=> ?_)
 cases c with
 | true=>exact G L pins M σ H1 Q d y
 | false=>exact⟨H1,d,y⟩
theorem Af0 (F:PT X a tA) (G:PW X (.BoolOp .Or (b::rest) pos) tB'):PW X (.BoolOp .Or (a::b::rest) pos) (tOr tA tB'):=by
 intro L pins s σ H Q I h
 refine isTrue_or (thn (F pins s σ H _ I h) fun c M ⟨H1,d,y⟩=> ?_)
 cases c with
 | true=>exact⟨H1,d,y⟩
 | false=>exact G L pins M σ H1 Q d y
theorem Adh (d:PT X a tA):PT X (.UnaryOp .Not a pos) (Agc tA):=by
 intro pins s σ H Q I h
 exact isTrue_not (d pins s σ H (fun c H1=>Q (!c) H1) I h)
def Abd (ta tb:TE):TE:=fun σ H Q=>ta σ H fun x H1=>∃c,x= .bl c/\if c=true then tb σ H1 Q else Q (.bl false) H1
def Agd (ta tb:TE):TE:=fun σ H Q=>ta σ H fun x H1=>∃c,x= .bl c/\if c=true then Q (.bl true) H1 else tb σ H1 Q
theorem Ac5 {op}{t:TE} (h:PE X a t):PE X (.BoolOp op [a] pos) t:=fun pins s σ H Q I d=>BoolOp_one (h pins s σ H Q I d)
theorem Ac1 (F:PE X a ta) (G:PE X (.BoolOp .And (b::rest) pos) tb):PE X (.BoolOp .And (a::b::rest) pos) (Abd ta tb):=by
 intro pins s σ H Q I h
 refine BoolOp_and (thn (F pins s σ H _ I h) fun v L ⟨x,H1,y,M,d⟩=> ?_)
 obtain⟨c,rfl,d⟩:=d
 cases M
 refine wpAny_truthy_bool ?_
 cases c with
 | true=>exact G pins L σ H1 Q y d
 | false=>exact⟨.bl false,H1,y,rfl,d⟩
theorem Afv (F:PE X a ta) (G:PE X (.BoolOp .Or (b::rest) pos) tb):PE X (.BoolOp .Or (a::b::rest) pos) (Agd ta tb):=by
 intro pins s σ H Q I h
 refine BoolOp_or (thn (F pins s σ H _ I h) fun v L ⟨x,H1,y,M,d⟩=> ?_)
 obtain⟨c,rfl,d⟩:=d
 cases M
 refine wpAny_truthy_bool ?_
 cases c with
 | false=>exact G pins L σ H1 Q y d
 | true=>exact⟨.bl true,H1,y,rfl,d⟩
def tIf (t:TT) (ta tb:TE):TE:=fun σ H Q=>t σ H fun c H1=>if c=true then ta σ H1 Q else tb σ H1 Q
theorem Yc {c:Expr} (L:PT X c tA) (M:PE X a ta) (O:PE X b tb):PE X (.IfExp c a b pos) (tIf tA ta tb):=by
 intro pins s σ H Q I h
 refine wpAny_IfExp (thn (L pins s σ H _ I h) fun d y ⟨H1,F,G⟩=> ?_)
 cases d with
 | true=>exact M pins y σ H1 Q F G
 | false=>exact O pins y σ H1 Q F G
end
end L2
namespace L2
open PySem PySem.Spec PyProof.Rows
def SqL (K:Frag) (H:Hp) (a:Addr) (xs:List V):Prop:=
 Rd H a (.lst xs)\/
  ∃(o:Obj) (its:Array Value) (n:Nat),K.lookup a=some o/\o.cls= .type "list"/\o.dict=none/\o.data= .seq its n/\its.size<=sizeLine/\Vals xs its.toList
def SqT (K:Frag) (H:Hp) (a:Addr) (xs:List V):Prop:=
 Rd H a (.tup xs)\/
  ∃(o:Obj) (its:Array Value) (n:Nat),K.lookup a=some o/\o.cls= .type "tuple"/\o.data= .seq its n/\its.size<=sizeLine/\Vals xs its.toList
def Ah9:Value->Option V
 | .none=>some .non
 | .bool b=>some (.bl b)
 | .int i _=>some (.int i)
 | .str x _=>some (.str x)
 | .bytes b _=>some (.byt b)
 | .float b _=>some (.flt b)
 | .ref a=>some (.ref a)
 | .type n=>some (.ty n)
 | _=>none
theorem RelV.abs {x:V}{u:Value} (r:RelV x u):Ah9 u=some x:=by
 cases x with
 | non=>cases r;rfl
 | bl _=>cases r;rfl
 | int _=>obtain⟨t,rfl⟩:=r;rfl
 | str _=>obtain⟨t,rfl⟩:=r;rfl
 | byt _=>obtain⟨t,rfl⟩:=r;rfl
 | flt _=>obtain⟨t,rfl⟩:=r;rfl
 | ref _=>cases r;rfl
 | ty _=>cases r;rfl
theorem RelV.inj {x y:V}{u:Value} (r:RelV x u) (q:RelV y u):x=y:=Option.some.inj (r.abs.symm.trans q.abs)
theorem Vals.inj:∀ {xs ys:List V}{d:List Value},Vals xs d->Vals ys d->xs=ys
 | _,_,_,.nil,.nil=>rfl
 | _,_,_,.cons r t,.cons r' t'=>by rw [r.inj r',Vals.inj t t']
section
variable {X:Cx}{pins:List (Addr × Obj)}{σ:St}{H:Hp}{s:Shared}{a:Addr}{xs ys:List V}
theorem SqL.of {K:Frag} (h:H a=some (.lst xs)):SqL K H a xs:= .inl (.inl h)
theorem SqT.of {K:Frag} (h:H a=some (.tup xs)):SqT K H a xs:= .inl (.inl h)
theorem Inv.list (I:Inv X pins σ H s) (h:SqL X.K H a xs):∃d:List Value,Vals xs d/\PlainL s.heap a d.toArray/\xs.length<=sizeLine:=by
 rcases h with h | ⟨o,d,n,y,F,G,L,M,r⟩
 . obtain⟨z,d,n,r,e⟩:=h.ok I.hok
   exact⟨d,r,⟨_,n,e,rfl,rfl,rfl⟩,z⟩
 . refine⟨d.toList,r,⟨o,n,I.kIn a o y,F,G,by simpa using L⟩,?_⟩
   have e:=r.length
   simp only [Array.length_toList]at e
   omega
theorem Inv.tuple (I:Inv X pins σ H s) (h:SqT X.K H a xs):∃d:List Value,Vals xs d/\IsTup s.heap a d.toArray/\xs.length<=sizeLine:=by
 rcases h with h | ⟨o,d,n,y,F,G,L,r⟩
 . obtain⟨z,d,r,p⟩:=h.ok I.hok
   exact⟨d,r,p,z⟩
 . refine⟨d.toList,r,⟨o,I.kIn a o y,F,n,by simpa using G⟩,?_⟩
   have e:=r.length
   simp only [Array.length_toList]at e
   omega
theorem Inv.list_inj (I:Inv X pins σ H s) (h:SqL X.K H a xs) (h':SqL X.K H a ys):xs=ys:=by
 obtain⟨F,r,⟨o,n,e,_,_,d⟩,_⟩:=I.list h
 obtain⟨y,M,⟨o',O,G,_,_,L⟩,_⟩:=I.list h'
 rw [e]at G;cases G
 rw [d]at L
 injection L with d1 _
 have:F=y:=by simpa using congrArg Array.toList d1
 subst this
 exact r.inj M
theorem Inv.tuple_inj (I:Inv X pins σ H s) (h:SqT X.K H a xs) (h':SqT X.K H a ys):xs=ys:=by
 obtain⟨F,r,⟨o,e,_,n,d⟩,_⟩:=I.tuple h
 obtain⟨y,M,⟨o',G,_,O,L⟩,_⟩:=I.tuple h'
 rw [e]at G;cases G
 rw [d]at L
 injection L with d1 _
 have:F=y:=by simpa using congrArg Array.toList d1
 subst this
 exact r.inj M
end
abbrev Cx.wish (X:Cx) (E:Value->Shared->Prop):Cx:={ X with xe:=E}
abbrev Cx.nox (X:Cx):Cx:=X.wish fun _ _=>False
theorem Cx.Ok.wish {X:Cx} (ok:X.Ok) (E:Value->Shared->Prop):(X.wish E).Ok:=
 ⟨ok.mod,ok.kind,ok.glob,ok.blt,ok.above,ok.inj,ok.has,ok.cab,ok.hd,ok.frames,ok.stk,ok.exf,ok.bs,ok.bsz,ok.noex,ok.exfs,ok.funs,ok.frf⟩
theorem Cx.Ok.unwish {X:Cx}{E:Value->Shared->Prop} (ok:(X.wish E).Ok):X.Ok:=
 ⟨ok.mod,ok.kind,ok.glob,ok.blt,ok.above,ok.inj,ok.has,ok.cab,ok.hd,ok.frames,ok.stk,ok.exf,ok.bs,ok.bsz,ok.noex,ok.exfs,ok.funs,ok.frf⟩
section
variable {X:Cx}{pins:List (Addr × Obj)}{σ:St}{H:Hp}{s:Shared}{E:Value->Shared->Prop}
theorem Inv.wish (I:Inv X pins σ H s) (E:Value->Shared->Prop):Inv (X.wish E) pins σ H s:=⟨I.ok.wish E,I.os,I.bare,I.base,I.loc,I.cell,I.free,I.freeC,I.pin,I.hok,I.len⟩
theorem Inv.unwish (I:Inv (X.wish E) pins σ H s):Inv X pins σ H s:=⟨I.ok.unwish,I.os,I.bare,I.base,I.loc,I.cell,I.free,I.freeC,I.pin,I.hok,I.len⟩
theorem SP.unwish {D:Ends}{f:Flow}{s':Shared} (h:SP (X.wish E) pins D f s'):SP X pins D f s':=by
 cases f with
 | next=>obtain⟨d,H',I,q⟩:=h;exact⟨d,H',I.unwish,q⟩
 | brk=>obtain⟨d,H',I,q⟩:=h;exact⟨d,H',I.unwish,q⟩
 | cont=>obtain⟨d,H',I,q⟩:=h;exact⟨d,H',I.unwish,q⟩
 | ret u=>obtain⟨v,d,H',I,r,q⟩:=h;exact⟨v,d,H',I.unwish,r,q⟩
theorem PE.nox {e:Expr}{t:TE} (h:PE X.nox e t):PE X e t:=fun pins s σ H Q I d=>
 wpAny_mono (h pins s σ H Q (I.wish _) d) (fun _ _ ⟨v,H',y,r,q⟩=>⟨v,H',y.unwish,r,q⟩) fun _ _ z=>False.elim z
theorem PT.nox {e:Expr}{t:TT} (h:PT X.nox e t):PT X e t:=fun pins s σ H Q I d=>
 wpAny_mono (h pins s σ H Q (I.wish _) d) (fun _ _ ⟨H',y,q⟩=>⟨H',y.unwish,q⟩) fun _ _ z=>False.elim z
theorem PSs.nox {st:List Stmt}{t:TS} (h:PSs X.nox st t):PSs X st t:=fun pins s σ H D I d=>
 wpAny_mono (h pins s σ H D (I.wish _) d) (fun _ _ q=>q.unwish) fun _ _ z=>False.elim z
end
section
variable {X:Cx}{st:Stmt}{rest:List Stmt}{t u:TS}{e:Expr}{te:TE}{pos:Pos}
def Abg:TS:=fun D σ H=>D.nx σ H
def Abx (t u:TS):TS:=fun D σ H=>t { D with nx:=u D} σ H
theorem Aa2:PSs X [] Abg:=fun _ _ σ H _ I h=>wpAny_execs_nil ⟨σ,H,I,h⟩
theorem Yk (h1:PS X st t) (h2:PSs X rest u):PSs X (st::rest) (Abx t u):=by
 intro pins s σ H D I h
 refine wpAny_execs_cons (thn (h1 pins s σ H { D with nx:=u D} I h) fun f y q=> ?_)
 cases f with
 | next=>
   obtain⟨d,H',F,q⟩:=q
   exact h2 pins y d H' D F q
 | ret v=>exact q
 | brk=>exact q
 | cont=>exact q
theorem Aa3 (h1:PS X st t):PSs X [st] t:=by
 intro pins s σ H D I h
 refine wpAny_execs_cons (thn (h1 pins s σ H D I h) fun f d q=> ?_)
 cases f with
 | next=>exact wpAny_execs_nil q
 | ret v=>exact q
 | brk=>exact q
 | cont=>exact q
theorem Inv.quiet {pins:List (Addr × Obj)}{σ:St}{H:Hp}{s:Shared} (I:Inv X pins σ H s):interactive X.env=false:=by simp [interactive,I.ok.kind]
def Abf (te:TE):TS:=fun D σ H=>te σ H fun _ H1=>D.nx σ H1
theorem Wr (d:PE X e te) (y:swapsWith e none pos.line X.env=pure false:=by rfl):PS X (.Expr e pos) (Abf te):=by
 intro pins s σ H D I h
 exact wpAny_Expr_any (thn (d pins s σ H _ I h) fun v L ⟨x,H1,F,M,G⟩=>⟨σ,H1,F,G⟩) I.quiet y
def Agf (te:TE):TS:=fun D σ H=>te σ H D.rt
theorem Adg (d:PE X e te):PS X (.Return (some e) pos) (Agf te):=by
 intro pins s σ H D I h
 exact wpAny_Return_some (thn (d pins s σ H _ I h) fun v L ⟨x,H1,y,F,G⟩=>⟨x,σ,H1,y,F,G⟩)
def Af9 (c:TT) (t u:TS):TS:=fun D σ H=>c σ H fun b H1=>if b=true then t D σ H1 else u D σ H1
theorem Afz {c:Expr}{a b:List Stmt}{tc:TT} (L:PT X c tc) (M:PSs X a t) (O:PSs X b u):PS X (.If c a b pos) (Af9 tc t u):=by
 intro pins s σ H D I h
 refine wpAny_If (thn (L pins s σ H _ I h) fun d y ⟨H1,F,G⟩=> ?_)
 cases d with
 | true=>exact M pins y σ H1 D F G
 | false=>exact O pins y σ H1 D F G
def Zv:TS:=fun _ _ _=>False
theorem Yi:PS X st Zv:=fun _ _ _ _ _ _ h=>h.elim
end
abbrev TG:=V->St->Hp->(St->Hp->Prop)->Prop
abbrev TGs:=List V->St->Hp->(St->Hp->Prop)->Prop
def PG (X:Cx) (target:Expr) (t:TG):Prop:=
 ∀(pins:List (Addr × Obj)) (s:Shared) (σ:St) (H:Hp) (v:V) (u:Value) (Q:St->Hp->Prop),Inv X pins σ H s->RelV v u->t v σ H Q->
   wpAny (model X.prog X.w) X.A (assign target X.env u) (fun _ s'=>∃σ' H',Inv X pins σ' H' s'/\Q σ' H') X.xe s
def PGs (X:Cx) (ts:List Expr) (t:TGs):Prop:=
 ∀(pins:List (Addr × Obj)) (s:Shared) (σ:St) (H:Hp) (vs:List V) (us:List Value) (Q:St->Hp->Prop),Inv X pins σ H s->Vals vs us->t vs σ H Q->
   wpAny (model X.prog X.w) X.A (assignInOrder ((assignEach ts X.env).map (·.2)) us) (fun _ s'=>∃σ' H',Inv X pins σ' H' s'/\Q σ' H') X.xe s
abbrev Ab3:=V->V->V->Hp->(Hp->Prop)->Prop
def Ae8 (X:Cx) (t:Ab3):Prop:=
 ∀(pins:List (Addr × Obj)) (s:Shared) (σ:St) (H:Hp) (o i v:V) (ov iv u:Value) (Q:Hp->Prop),Inv X pins σ H s->RelV o ov->RelV i iv->RelV v u->t o i v H Q->
   wpAny (model X.prog X.w) X.A (setItem ov iv u) (fun _ s'=>∃H',Inv X pins σ H' s'/\Q H') X.xe s
section
variable {X:Cx}{pos:Pos}
def Jt (i:Nat):TG:=fun v σ H Q=>Q (σ.set i (some v)) H
theorem Rn {i:Nat}{x:Str} (d:X.N.Nodup) (hi:X.N[i]? =some x) (y:Loc X.env.scope x) (F:X.fn x=true\/X.env.scope.names.lookup x=some .local :=by first | exact .inl rfl | exact .inr rfl | assumption):PG X (.Name x pos) (Jt i):=by
 intro pins s σ H v u Q I r h
 exact wpAny_assign_Name (Lq I d hi y r (fun s' G=>⟨_,H,G,h⟩) F)
def Ae2:TGs:=fun vs σ H Q=>vs=[]/\Q σ H
def Q6 (t:TG) (u:TGs):TGs:=fun vs σ H Q=>∃v r,vs=v::r/\t v σ H fun σ' H'=>u r σ' H' Q
theorem Aaw:PGs X [] Ae2:=by
 intro pins s σ H d y Q I r h
 obtain⟨e,h⟩:=h
 subst e
 cases r
 exact assignInOrder_nil ⟨σ,H,I,h⟩
theorem S8 {e:Expr}{es:List Expr}{t:TG}{u:TGs} (h1:PG X e t) (h2:PGs X es u)
 (y:(assignEach (e::es) X.env).map (·.2)=assign e X.env::(assignEach es X.env).map (·.2):=by rfl):PGs X (e::es) (Q6 t u):=by
 intro pins s σ H U W Q I r h
 obtain⟨v,Y,F,h⟩:=h
 subst F
 cases r with
 | cons r G=>
   rw [y]
   refine assignInOrder_cons (thn (h1 pins s σ H _ _ _ I r h) fun _ L ⟨d,H1,M,O⟩=> ?_)
   exact h2 pins L d H1 _ _ Q M G O
def Abu (K:Frag) (n:Nat) (t:TGs):TG:=fun v σ H Q=>∃a xs,v= .ref a/\SqT K H a xs/\xs.length=n/\t xs σ H Q
theorem S7 {es:List Expr}{k:Nat}{t:TGs}{n:Nat} (G:X.calm=true) (h:PGs X es t)
 (L:(assignEach es X.env).length=n:=by rfl) (d:(assignEach es X.env).findIdx? (·.1)=none:=by rfl):PG X (.Tuple es k pos) (Abu X.K n t):=by
 intro pins s σ H v u Q I r y
 obtain⟨a,xs,M,O,U,y⟩:=y
 subst M
 cases r
 obtain⟨W,F,Y,hz⟩:=I.tuple O
 refine assign_Tuple_tuple (I.ok.hd G) Y (by simp [L,<-U,F.length]) d fun h' Z=> ?_
 have I1:Inv X pins σ H { s with heap:=h'}:=I.kept (t':=s.toks) fun b o e=>Z b o (ne_of_lt (Heap.lt_size e)) e
 exact h pins _ σ H xs _ Q I1 (by simpa using F) y
def Afj (to ti:TE) (t:Ab3):TG:=fun v σ H Q=>to σ H fun o H1=>ti σ H1 fun i H2=>t o i v H2 fun H3=>Q σ H3
theorem Zk {o i:Expr}{to G:TE}{t:Ab3} (L:PE X o to) (hi:PE X i G) (M:Ae8 X t)
 (O:∀v,assign (.Subscript o i pos) X.env v=(do
   let d<-holding [v] (eval o X.env)
   let F<-holding [v,d] (eval i X.env)
   standAt pos
   holding [v,d,F] (setItem d F v)
   release [v,d,F] []):=by intro _;rfl):PG X (.Subscript o i pos) (Afj to G t):=by
 intro pins s σ H v u Q I r h
 rw [O]
 refine wpAny_bind (wpAny_holding (thn (L pins s σ H _ I h) fun d U ⟨x,H1,W,Y,Z⟩=> ?_))
 refine wpAny_bind (wpAny_holding (thn (hi pins U σ H1 _ W Z) fun F s2 ⟨y,H2,I2,r2,q2⟩=> ?_))
 refine wpAny_bind (wpAny_standAt (wpAny_bind (wpAny_holding (thn (M pins s2 σ H2 x y v d F u _ I2 Y r2 r q2) fun _ s3 ⟨H3,I3,q3⟩=> ?_))))
 exact wpAny_release ⟨σ,H3,I3,q3⟩
def Abe (te:TE) (g:TG):TS:=fun D σ H=>te σ H fun x H1=>g x σ H1 D.nx
theorem S9 {tg e:Expr}{te:TE}{g:TG} (d:PE X e te) (y:PG X tg g) (F:swapsWithSole [tg] e pos.line X.env=pure false:=by rfl) (G:swappedStores [tg] e X.env=pure none:=by rfl)
 (h1:(assignEach [tg] X.env).map (·.2)=[assign tg X.env]:=by rfl):PS X (.Assign [tg] e pos) (Abe te g):=by
 intro pins s σ H D I h
 refine wpAny_Assign_stores (thn (d pins s σ H _ I h) fun v L ⟨x,H1,M,O,U⟩=> ?_) F G
 rw [h1]
 exact thn (y pins L σ H1 x v _ M O U) fun _ W q=>q
theorem Tc {i:Nat}{x:Str}{e:Expr}{te:TE}{d:Pos} (F:X.N.Nodup) (hi:X.N[i]? =some x) (G:Loc X.env.scope x) (L:PE X e te) (M:swapsWith e (some (.Name x d)) pos.line X.env=pure false:=by rfl) (O:X.fn x=true\/X.env.scope.names.lookup x=some .local :=by first | exact .inl rfl | exact .inr rfl | assumption):
 PS X (.Assign [.Name x d] e pos) (Abe te (Jt i)):=by
 intro pins s σ H D I h
 refine wpAny_Assign_Name (thn (L pins s σ H _ I h) fun v s1 ⟨y,H1,U,W,Y⟩=> ?_) M
 exact Lq U F hi G W (fun s2 Z=>⟨_,H1,Z,Y⟩) O
def Age (i j:Nat) (ta:TA):TS:=fun D σ H=>ta σ H fun vs H1=>∃v w,vs=[v,w]/\D.nx ((σ.set i (some v)).set j (some w)) H1
theorem Zn {i j:Nat}{x y:Str}{a b:Expr}{ta:TA}{L M pt:Pos}{kt k2 pt2} (hc:X.calm=true) (Z:X.N.Nodup) (hi:X.N[i]? =some x) (hj:X.N[j]? =some y) (O:i≠j)
 (hx:X.env.scope.names.lookup x=some .local) (hy:X.env.scope.names.lookup y=some .local) (ha:PA X [a,b] ta)
 (hw:swappedStores [.Tuple [.Name x L,.Name y M] kt pt] (.Tuple [a,b] k2 pt2) X.env=pure (some [x,y]))
 (hs:swapsWithSole [.Tuple [.Name x L,.Name y M] kt pt] (.Tuple [a,b] k2 pt2) pos.line X.env=pure false:=by rfl):
 PS X (.Assign [.Tuple [.Name x L,.Name y M] kt pt] (.Tuple [a,b] k2 pt2) pos) (Age i j ta):=by
 intro pins s σ H D I h
 rw [exec_Assign_arm]
 refine wpAny_bind (wpAny_standAt ?_)
 rw [hs]
 refine wpAny_bind (wpAny_pure ?_)
 rw [if_neg (by decide)]
 refine wpAny_bind (Tuple_ (thn (ha _ pins s σ H _ I h) fun us d ⟨vs,H1,I1,r1,U⟩=> ?_))
 obtain⟨v,w,e1,U⟩:=U
 subst e1
 obtain⟨F,G,rfl,rv,W⟩:∃F G,us=[F,G]/\RelV v F/\RelV w G:=by
  cases r1 with
  | cons p q=>
    cases q with
    | cons p' q'=>
      cases q'
      exact⟨_,_,rfl,p,p'⟩
 refine wpAny_newObj_type ?_ (by show 2<=sizeLine;decide)
 have I2:Inv X pins σ H1 { d with heap:=d.heap.push { cls:= .type "tuple",data:= .seq [F,G].toArray}}:=I1.kept (t':=d.toks) fun b o e=>Heap.get?_push_of_some _ e
 rw [hw]
 refine wpAny_bind (wpAny_pure ?_)
 show wpAny (model X.prog X.w) X.A (do rule "assign.swapped-stores";let items<-unpackItems (.ref d.heap.objs.size) 2 none;assignInOrder [fun v=>bindName X.env y v,fun v=>bindName X.env x v] items.reverse;pure Flow.next) _ _ _
 refine wpAny_bind (wpAny_rule (wpAny_bind (unpackItems_tuple (items:= #[F,G]) (I.ok.hd hc) (IsTup.new d.heap _) fun h' Y=> ?_)))
 have I3:=I2.kept (h':=h') (t':=d.toks) fun b o e=>Y b o (ne_of_lt (Heap.lt_size e)) e
 show wpAny _ _ (assignInOrder [fun v=>bindName X.env y v,fun v=>bindName X.env x v] [G,F]>>=fun _=>pure Flow.next) _ _ _
 refine wpAny_bind (assignInOrder_cons (wpAny_bindName (Lq I3 Z hj (.inl hy) W (fun s2 I4=> ?_) (.inr hy))))
 refine assignInOrder_cons (wpAny_bindName (Lq I4 Z hi (.inl hx) rv (fun s3 I5=>assignInOrder_nil (wpAny_pure ?_)) (.inr hx)))
 rw [List.set_comm _ _ (Ne.symm O)]at I5
 exact⟨_,H1,I5,U⟩
end
section
variable {X:Cx}{pos:Pos}
def Qm (c:TT) (tb:TS):TS:=fun D σ H=>∃W:Nat->St->Hp->Prop,(∃m,W m σ H)/\∀m σ H,W m σ H->
 c σ H fun b H1=>if b=true then ∃N:St->Hp->Prop,(∀σ' H',N σ' H'->∃m',m'<m/\W m' σ' H')/\tb { D with nx:=N,ct:=N,bk:=D.nx} σ H1 else D.nx σ H1
theorem Yj {c:Expr}{F:List Stmt}{tc:TT}{tb:TS} (hp:PassesOwn (model X.prog X.w) X.A X.env X.xe) (hc:PT X c tc) (hb:PSs X F tb):PS X (.While c F [] pos) (Qm tc tb):=by
 intro pins s σ H D I h
 obtain⟨W,⟨m0,w0⟩,G⟩:=h
 refine wpAny_While (codeAny_whileLoop (fun n s'=>∃L H',Inv X pins L H' s'/\W n L H') ?_ m0 ⟨σ,H,I,w0⟩)
 rintro n s1 ⟨y,H1,I1,w1⟩
 refine wpAny_passesOwn hp (thn (hc pins s1 y H1 _ I1 (G n y H1 w1)) fun b s2 ⟨H2,I2,O⟩=> ?_)
 cases b with
 | true=>
   obtain⟨N,hN,O⟩:=O
   rw [if_pos rfl]
   refine wpAny_passesOwn hp (thn (hb pins s2 y H2 _ I2 O) fun f s3 U=> ?_)
   cases f with
   | next=>
     obtain⟨d,M,Y,Z⟩:=U
     obtain⟨m',hm,w3⟩:=hN d M Z
     exact⟨m',hm,d,M,Y,w3⟩
   | cont=>
     obtain⟨d,M,Y,Z⟩:=U
     obtain⟨m',hm,w3⟩:=hN d M Z
     exact⟨m',hm,d,M,Y,w3⟩
   | brk=>exact U
   | ret v=>exact U
 | false=>
   rw [if_neg Bool.false_ne_true]
   exact wpAny_execs_nil ⟨y,H2,I2,O⟩
end
structure It where
 go:Nat->Hp->Prop
 yld:Nat->Hp->V->Hp->Prop
 stop:Nat->Hp->Prop
def Qt (X:Cx) (pins:List (Addr × Obj)) (H:Hp) (b:Addr):Prop:=
 H b=none/\b≠X.env.locals/\b∉X.fs/\(b∈X.ex\/X.s₀.heap.objs.size<=b)/\(∀x c,X.env.cells.lookup x=some c->c≠b)/\∀p∈X.pn++pins,p.1≠b
theorem Inv.fpOk {X:Cx}{pins:List (Addr × Obj)}{σ:St}{H H':Hp}{s:Shared}{b:Addr} (I:Inv X pins σ H s) (d:s.heap.objs.size<=b) (y:H' b=none):Qt X pins H' b:=by
 refine⟨y,ne_of_gt (lt_of_lt_of_le I.lt d),I.nofs d,.inr (le_trans I.sz d),fun x c e z=> ?_,fun p F z=> ?_⟩
 . obtain⟨v,q⟩:=I.cell x c e
   exact absurd (lt_of_lt_of_le q.lt (by rw [z];exact d)) (lt_irrefl _)
 . exact absurd (lt_of_lt_of_le (Heap.lt_size (I.pin p F).1) (by rw [z];exact d)) (lt_irrefl _)
structure Turn (P:Program) (w:World) (K:Frag) (tg:Expr) (J:It) (fp:List Addr) (it:Addr) (tn:Nat->Heap->Prop):Prop where
 mem:it∈fp
 obj:∀i h,tn i h->∀b∈fp,∃o,h.get? b=some o/\∀v,o.data≠ .cell v
 keep:∀i h h',tn i h->(∀b∈fp,∀o,h.get? b=some o->h'.get? b=some o)->tn i h'
 item:∀(X:Cx),X.prog=P->X.w=w->X.K=K->X.calm=true->∀(i:Nat) (pins:List (Addr × Obj)) (s:Shared) (σ:St) (H:Hp) (E:Value->Shared->Prop),Inv X pins σ H s->(∀b∈fp,Qt X pins H b)->tn i s.heap->J.go i H->
  wpAny (model P w) X.A (pyNext (.ref it)) (fun r s1=>∃u,r=some u/\
   wpAny (model P w) X.A (letOwnedTupleGo tg (.ref it) u) (fun _ s2=>∃x H',Inv X pins σ H' s2/\RelV x u/\J.yld i H x H'/\tn (i+1) s2.heap/\∀b∈fp,H' b=none) E s1) E s
 done:∀(X:Cx),X.prog=P->X.w=w->X.K=K->X.calm=true->∀(i:Nat) (pins:List (Addr × Obj)) (s:Shared) (σ:St) (H:Hp) (E:Value->Shared->Prop),Inv X pins σ H s->(∀b∈fp,Qt X pins H b)->tn i s.heap->J.stop i H->
  wpAny (model P w) X.A (pyNext (.ref it)) (fun r s1=>r=none/\Inv X pins σ H s1) E s
 self:∀(A:Around) (i:Nat) (s:Shared) (Q:Value->Shared->Prop) (E:Value->Shared->Prop),tn i s.heap->Q (.ref it) s->wpAny (model P w) A (pyIter (.ref it)) Q E s
abbrev TI:=St->Hp->(It->Hp->Prop)->Prop
def PIE (X:Cx) (pins:List (Addr × Obj)) (σ:St) (tg:Expr) (R:It->Hp->Prop) (itv:Value) (s2:Shared):Prop:=
 ∃(it:Addr) (fp:List Addr) (tn:Nat->Heap->Prop) (J:It) (H':Hp),itv= .ref it/\Inv X pins σ H' s2/\Turn X.prog X.w X.K tg J fp it tn/\tn 0 s2.heap/\(∀b∈fp,Qt X pins H' b)/\R J H'
def PI (X:Cx) (tg iter:Expr) (wi:TI):Prop:=
 ∀(pins:List (Addr × Obj)) (s:Shared) (σ:St) (H:Hp) (R:It->Hp->Prop),Inv X pins σ H s->wi σ H R->
   wpAny (model X.prog X.w) X.A (eval iter X.env) (fun v s1=>wpAny (model X.prog X.w) X.A (pyIter v) (PIE X pins σ tg R) X.xe s1) X.xe s
theorem Vj {M:Model}{A:Around}{E:Value->Shared->Prop}{s:Shared}{tg:Expr}{y:Addr}{u:Value}{o:Obj}{n:String}{F:Array Value}{Q:Unit->Shared->Prop} (G:s.heap.get? y=some o) (I:o.cls= .type n) (L:o.data= .fields F)
 (O:["enumerate","zip","dict_itemiterator","dict_reverseitemiterator","odict_iterator","itertools.zip_longest","itertools.pairwise"].contains n=false) (d:Q () s):wpAny M A (letOwnedTupleGo tg (.ref y) u) Q E s:=by
 unfold letOwnedTupleGo
 cases tg<;>first
  | exact wpAny_pure d
  | (cases u<;>first
      | exact wpAny_pure d
      | (refine wpAny_bind (wpAny_load G ?_)
         rw [I,L]
         show wpAny M A (if(["enumerate","zip","dict_itemiterator","dict_reverseitemiterator","odict_iterator","itertools.zip_longest","itertools.pairwise"].contains n&&F[0]? ==some (rawInt _))=true then _ else _) Q E s
         rw [if_neg (by intro h;rw [O,Bool.false_and]at h;cases h)]
         exact wpAny_pure d))
def Itl (K:Frag) (a:Addr):It:=
 ⟨fun i H=>∃xs x,SqL K H a xs/\xs[i]? =some x,fun i H x H'=>H'=H/\∀xs,SqL K H a xs->xs[i]? =some x,fun i H=>∃xs,SqL K H a xs/\xs.length<=i⟩
def Itt (K:Frag) (a:Addr):It:=
 ⟨fun i H=>∃xs x,SqT K H a xs/\xs[i]? =some x,fun i H x H'=>H'=H/\∀xs,SqT K H a xs->xs[i]? =some x,fun i H=>∃xs,SqT K H a xs/\xs.length<=i⟩
def Itr (lo:Int) (n:Nat):It:=⟨fun i _=>i<n,fun i H x H'=>H'=H/\x= .int (lo+i),fun i _=>n<=i⟩
theorem W6 {P:Program}{w:World}{K:Frag}{tg:Expr} (a y:Addr):Turn P w K tg (Itl K a) [y] y (fun i h=>h.IsListIter y a i) where
 mem:=by simp
 obj:=fun i h st b F=>by
  have e:b=y:=by simpa using F
  subst e
  obtain⟨o,e,c,d⟩:=st
  exact⟨o,e,fun v z=>by rw [d]at z;cases z⟩
 keep:=fun i h h' st k=>st.at fun o e=>k y (by simp) o e
 item:=by
  intro X O U Y hc i pins s σ H E I L st Z
  subst O U Y
  obtain⟨xs,x,M,hx⟩:=Z
  obtain⟨a0,rv,p,hz⟩:=I.list M
  obtain⟨u,hu,ru⟩:=rv.get hx
  obtain⟨f0,f1,f2,f3,f4,f5⟩:=L y (by simp)
  refine wpAny_pyNext_list_item st p.isList (x:=u) (by simpa using hu) fun h' G sb=> ?_
  have I1:Inv X pins σ H { s with heap:=h'}:=I.turned (t':=s.toks) (fun b o F e=>(sb.2 b F).trans e) f0 f1 f3 f4 f5
  obtain⟨o,e,c,d⟩:=id G
  exact⟨u,rfl,Vj (s:={ s with heap:=h'}) e c d (by decide) ⟨x,H,I1,ru,⟨rfl,fun ys hy=>by rw [I.list_inj hy M];exact hx⟩,G,fun b F=>(L b F).1⟩⟩
 done:=by
  intro X O U Y hc i pins s σ H E I L st Z
  subst O U Y
  obtain⟨xs,M,hx⟩:=Z
  obtain⟨a0,rv,p,hz⟩:=I.list M
  obtain⟨f0,f1,f2,f3,f4,f5⟩:=L y (by simp)
  have hl:=rv.length
  exact wpAny_pyNext_list_end (I.ok.hd hc) st p.isList (by simp;omega) fun h' eb=>⟨rfl,I.turned (t':=s.toks) (fun b o F e=>eb b o F e) f0 f1 f3 f4 f5⟩
 self:=fun _ _ _ _ _ st h=>wpAny_pyIter_listiter st h
theorem U4 {P:Program}{w:World}{K:Frag}{tg:Expr} (a y:Addr):Turn P w K tg (Itt K a) [y] y (fun i h=>h.IsTupleIter y a i) where
 mem:=by simp
 obj:=fun i h st b F=>by
  have e:b=y:=by simpa using F
  subst e
  obtain⟨o,e,c,d⟩:=st
  exact⟨o,e,fun v z=>by rw [d]at z;cases z⟩
 keep:=fun i h h' st k=>st.at fun o e=>k y (by simp) o e
 item:=by
  intro X U Y Z hc i pins s σ H E I M st hg
  subst U Y Z
  obtain⟨xs,x,O,hx⟩:=hg
  obtain⟨G,rv,p,hz⟩:=I.tuple O
  obtain⟨u,hu,ru⟩:=rv.get hx
  obtain⟨f0,f1,f2,f3,f4,f5⟩:=M y (by simp)
  refine wpAny_pyNext_tuple_item st (show s.heap.IsTuple a G.toArray from p) (x:=u) (by simpa using hu) fun h' L sb=> ?_
  have I1:Inv X pins σ H { s with heap:=h'}:=I.turned (t':=s.toks) (fun b o F e=>(sb.2 b F).trans e) f0 f1 f3 f4 f5
  obtain⟨o,e,c,d⟩:=id L
  exact⟨u,rfl,Vj (s:={ s with heap:=h'}) e c d (by decide) ⟨x,H,I1,ru,⟨rfl,fun ys hy=>by rw [I.tuple_inj hy O];exact hx⟩,L,fun b F=>(M b F).1⟩⟩
 done:=by
  intro X U Y Z hc i pins s σ H E I M st hg
  subst U Y Z
  obtain⟨xs,O,hx⟩:=hg
  obtain⟨G,rv,p,hz⟩:=I.tuple O
  obtain⟨f0,f1,f2,f3,f4,f5⟩:=M y (by simp)
  have hl:=rv.length
  exact wpAny_pyNext_tuple_end (I.ok.hd hc) st (show s.heap.IsTuple a G.toArray from p) (by simp;omega) fun h' eb=>⟨rfl,I.turned (t':=s.toks) (fun b o F e=>eb b o F e) f0 f1 f3 f4 f5⟩
 self:=fun _ _ _ _ _ st h=>wpAny_pyIter_tupleiter st h
theorem U3 {P:Program}{w:World}{K:Frag}{tg:Expr} (d:Addr) (lo:Int) (n:Nat):Turn P w K tg (Itr lo n) [d] d (fun i h=>IsRangeIter h d (lo+(i:Nat)*1) ((n:Int)-(i:Nat)) 1) where
 mem:=by simp
 obj:=fun i h st b y=>by
  have e:b=d:=by simpa using y
  subst e
  exact⟨_,st,fun v z=>by
   have z':Data.fields _=Data.cell v:=z
   cases z'⟩
 keep:=fun i h h' st k=>k d (by simp) _ st
 item:=by
  intro X L M O U i pins s σ H E I G st Y
  subst L M O
  obtain⟨Z,f1,f2,f3,f4,f5⟩:=G d (by simp)
  have W:=Walks.range (prog:=X.prog) (w:=X.w) (I.ok.hd U) d lo 1 n
  refine W.item i s _ _ Y st fun v h' tk hv F kk=> ?_
  obtain⟨t,rfl⟩:=hv
  have I1:Inv X pins σ H { s with heap:=h',toks:=tk}:=I.turned (fun b o y e=>kk b o (by simpa using y) e) Z f1 f3 f4 f5
  refine⟨_,rfl,Vj (s:={ s with heap:=h',toks:=tk}) (n:="range_iterator") F rfl rfl (by decide) ⟨.int (lo+i),H,I1,⟨t,?_⟩,⟨rfl,rfl⟩,F,fun b y=>(G b y).1⟩⟩
  rw [mul_one]
 done:=by
  intro X L M O U i pins s σ H E I G st Y
  subst L M O
  obtain⟨Z,f1,f2,f3,f4,f5⟩:=G d (by simp)
  exact wpAny_pyNext_range_end (I.ok.hd U) st (by have:n<=i:=Y;omega) fun h' eb=>⟨rfl,I.turned (t':=s.toks) (fun b o y e=>eb b o y e) Z f1 f3 f4 f5⟩
 self:=fun _ _ _ _ _ st h=>wpAny_pyIter_rangeiter st h
end L2
namespace L2
open PySem PySem.Spec PyProof.Rows
section
variable {X:Cx}{tg:Expr}
def Aae (K:Frag) (tl:TE):TI:=fun σ H R=>tl σ H fun x H1=>∃a,x= .ref a/\(∃xs,SqL K H1 a xs)/\R (Itl K a) H1
def Afl (K:Frag) (tl:TE):TI:=fun σ H R=>tl σ H fun x H1=>∃a,x= .ref a/\(∃xs,SqT K H1 a xs)/\R (Itt K a) H1
theorem Aax {l:Expr}{tl:TE} (F:PE X l tl):PI X tg l (Aae X.K tl):=by
 intro pins s σ H R I h
 refine thn (F pins s σ H _ I h) fun v d ⟨x,H1,y,G,L⟩=> ?_
 obtain⟨a,e,⟨xs,M⟩,q⟩:=L
 subst e
 cases G
 obtain⟨O,W,p,Y⟩:=y.list M
 refine wpAny_pyIter_list p.isList ?_
 refine⟨d.heap.objs.size,[d.heap.objs.size],_,_,H1,rfl,y.kept (t':=d.toks) fun b o e=>Heap.get?_push_of_some _ e,W6 a _,⟨_,Heap.get?_push_size _ rfl,rfl,rfl⟩,fun b U=> ?_,q⟩
 have e:b=d.heap.objs.size:=by simpa using U
 subst e
 exact y.fpOk (le_refl _) (y.hok.fresh (le_refl _))
theorem Adb {l:Expr}{tl:TE} (G:PE X l tl):PI X tg l (Afl X.K tl):=by
 intro pins s σ H R I h
 refine thn (G pins s σ H _ I h) fun v d ⟨x,H1,y,L,M⟩=> ?_
 obtain⟨a,e,⟨xs,O⟩,q⟩:=M
 subst e
 cases L
 obtain⟨F,W,p,Y⟩:=y.tuple O
 refine wpAny_pyIter_tuple (show d.heap.IsTuple a F.toArray from p) ?_
 refine⟨d.heap.objs.size,[d.heap.objs.size],_,_,H1,rfl,y.kept (t':=d.toks) fun b o e=>Heap.get?_push_of_some _ e,U4 a _,⟨_,Heap.get?_push_size _ rfl,rfl,rfl⟩,fun b U=> ?_,q⟩
 have e:b=d.heap.objs.size:=by simpa using U
 subst e
 exact y.fpOk (le_refl _) (y.hok.fresh (le_refl _))
theorem Ym {pins:List (Addr × Obj)}{σ:St}{H:Hp}{s:Shared}{R:It->Hp->Prop}{E:Value->Shared->Prop}{lo hi:Int}{t u v:Tok}{tk:Nat} (I:Inv X pins σ H s) (h1: -(2^62)<=lo) (h2:lo<2^62) (y: -(2^62)<=hi) (F:hi<2^62)
 (q:R (Itr lo (hi-lo).toNat) H):wpAny (model X.prog X.w) X.A (pyIter (.ref s.heap.objs.size)) (PIE X pins σ tg R) E { s with heap:=s.heap.push { cls:= .type "range",data:= .fields #[.int lo t,.int hi u,.int 1 v]},toks:=tk}:=by
 refine wpAny_pyIter_range (IsRange.new ..) (small_one h1 h2 y F) ?_
 have d:Inv X pins σ H { s with heap:=s.heap.push { cls:= .type "range",data:= .fields #[.int lo t,.int hi u,.int 1 v]},toks:=tk}:=I.kept fun b o e=>Heap.get?_push_of_some _ e
 refine⟨(s.heap.push { cls:= .type "range",data:= .fields #[.int lo t,.int hi u,.int 1 v]}).objs.size,[(s.heap.push { cls:= .type "range",data:= .fields #[.int lo t,.int hi u,.int 1 v]}).objs.size],_,_,H,rfl,
  d.kept (t':=tk) fun b o e=>Heap.get?_push_of_some _ e,U3 _ lo (hi-lo).toNat,?_,fun b G=> ?_,q⟩
 . have L:lo+((0:Nat):Int)*1=lo:=by simp
   have M:(((hi-lo).toNat:Nat):Int)-((0:Nat):Int)=Builtin.Range.rangeSize lo hi 1:=by rw [rangeSize_one];split<;>omega
   show IsRangeIter _ _ (lo+((0:Nat):Int)*1) ((((hi-lo).toNat:Nat):Int)-((0:Nat):Int)) 1
   rw [L,M]
   exact Heap.get?_push_size _ rfl
 . have e:b=(s.heap.push { cls:= .type "range",data:= .fields #[.int lo t,.int hi u,.int 1 v]}).objs.size:=by simpa using G
   subst e
   exact d.fpOk (le_refl _) (d.hok.fresh (le_refl _))
def Aaf (ta:TA):TI:=fun σ H R=>ta σ H fun vs H1=>∃j:Int,vs=[.int j]/\ -(2^62)<=j/\j<2^62/\R (Itr 0 j.toNat) H1
theorem Qd {a:Expr}{ta:TA}{p pos:Pos} (y:Gl X "range") (F:X.mg "range"=none) (G:PA X [a] ta) (L:starEach [a] X.env=[(false,eval a X.env)]:=by rfl):PI X tg (.Call (.Name "range" p) [a] [] pos) (Aaf ta):=by
 intro pins s σ H R I h
 refine Call_ (Ma I y F boot_range (PyProof.Rows.callWith_type1 (thn (G pos pins s σ H _ I h) fun Y Z ⟨vs,H1,M,O,d⟩=> ?_) L rfl))
 obtain⟨j,e,d,U,q⟩:=d
 subst e
 cases O with
 | cons r W=>
   cases W
   obtain⟨t,rfl⟩:=r
   exact call_range_1 (Ym M (by omega) (by omega) d U (by simpa using q))
def Af8 (wi:TI) (g:TG) (tb:TS):TS:=fun D σ H=>wi σ H fun J H1=>∃W:Nat->Nat->St->Hp->Prop,(∃m,W 0 m σ H1)/\∀i m σ H,W i m σ H->
 (J.stop i H/\D.nx σ H)\/(J.go i H/\∃N:St->Hp->Prop,(∀σ' H',N σ' H'->∃m',m'<m/\W (i+1) m' σ' H')/\∀x H',J.yld i H x H'->g x σ H' fun σ2 H2=>tb { D with nx:=N,ct:=N,bk:=D.nx} σ2 H2)
def Qe (fp:List Addr) (h:Heap):List (Addr × Obj):=fp.filterMap fun b=>(h.get? b).map fun o=>(b,o)
theorem Ii {fp:List Addr}{h:Heap}{b:Addr}{o:Obj} (d:b∈fp) (e:h.get? b=some o):(b,o)∈Qe fp h:=List.mem_filterMap.mpr ⟨b,d,by rw [e];rfl⟩
theorem V6 {fp:List Addr}{h:Heap}{p:Addr × Obj} (d:p∈Qe fp h):p.1∈fp/\h.get? p.1=some p.2:=by
 obtain⟨b,y,e⟩:=List.mem_filterMap.mp d
 cases q:h.get? b with
 | none=>rw [q]at e;cases e
 | some o=>
   rw [q]at e
   have F:(b,o)=p:=Option.some.inj e
   subst F
   exact⟨y,q⟩
theorem Inv.pinned {pins:List (Addr × Obj)}{σ:St}{H:Hp}{s:Shared}{fp:List Addr} (I:Inv X pins σ H s) (G:∀b∈fp,Qt X pins H b) (L:∀b∈fp,∃o,s.heap.get? b=some o/\∀v,o.data≠ .cell v):Inv X (pins++Qe fp s.heap) σ H s:=
 I.pins_of fun p M=>(mem_append.mp M).elim (fun z=>I.pin p (mem_append_right _ z)) fun z=>by
  obtain⟨y,e⟩:=V6 z
  obtain⟨O,U,W,_⟩:=G p.1 y
  obtain⟨o,F,d⟩:=L p.1 y
  rw [e]at F;cases F
  exact⟨e,O,U,W,d⟩
theorem Inv.unpinned {pins d:List (Addr × Obj)}{σ:St}{H:Hp}{s:Shared} (I:Inv X (pins++d) σ H s):Inv X pins σ H s:=I.pins_of fun p y=>I.pin p (mem_append_right _ (List.mem_append_left _ y))
theorem Zm {iter:Expr}{Y:List Stmt}{wi:TI}{g:TG}{tb:TS}{pos:Pos} (hp:PassesOwn (model X.prog X.w) X.A X.env X.xe) (hc:X.calm=true) (hi:PI X tg iter wi) (hg:PG X tg g) (F:PSs X Y tb)
 (hs:∀x,foldedSetIterable iter X.env x=pure x:=by intro _;rfl):PS X (.For tg iter Y [] pos) (Af8 wi g tb):=by
 intro pins s σ H D I h
 refine wpAny_For (thn (hi pins s σ H _ I h) fun v s1 h1=>thn h1 fun a9 s2 h2=> ?_) hs
 obtain⟨it,fp,tn,J,H2,e,I2,T,a5,f2,W,⟨m0,w0⟩,a1⟩:=h2
 subst e
 have G:∀ {H':Hp},(∀b∈fp,H' b=none)->∀b∈fp,Qt X pins H' b:=fun hn b F=>⟨hn b F,(f2 b F).2⟩
 refine codeAny_forLoop_any (fun n s'=>∃i L H',Inv X pins L H' s'/\tn i s'.heap/\(∀b∈fp,H' b=none)/\W i n L H') ?_ m0 ⟨0,σ,H2,I2,a5,fun b F=>(f2 b F).1,w0⟩
 rintro n s3 ⟨i,M,H3,I3,a2,a3,w3⟩
 rcases a1 i n M H3 w3 with⟨a4,qn⟩ | ⟨go,N,hN,step⟩
 . refine wpAny_passesOwn hp (thn (T.done X rfl rfl rfl hc i pins s3 M H3 X.xe I3 (G a3) a2 a4) fun r s4 ⟨hr,I4⟩=> ?_)
   subst hr
   exact wpAny_execs_nil ⟨M,H3,I4,qn⟩
 . refine wpAny_passesOwn hp (thn (T.item X rfl rfl rfl hc i pins s3 M H3 X.xe I3 (G a3) a2 go) fun r s4 ⟨u,hr,h4⟩=> ?_)
   subst hr
   refine wpAny_passesOwn hp (thn h4 fun _ s5 ⟨x,H5,I5,r5,y5,a0,a6⟩=> ?_)
   have a7:=I5.pinned (G a6) (T.obj _ _ a0)
   refine wpAny_passesOwn hp (thn (hg _ s5 M H5 x u _ a7 r5 (step x H5 y5)) fun _ s6 ⟨a8,H6,I6,q6⟩=> ?_)
   refine wpAny_passesOwn hp (thn (F _ s6 a8 H6 _ I6 q6) fun f s7 Z=> ?_)
   have again:∀ {y:St}{O:Hp},Inv X (pins++Qe fp s5.heap) y O s7->N y O->∃m,m<n/\∃i L H',Inv X pins L H' s7/\tn i s7.heap/\(∀b∈fp,H' b=none)/\W i m L H':=fun {y O} U n7=>by
    obtain⟨m',hm,w7⟩:=hN y O n7
    refine⟨m',hm,i+1,y,O,U.unpinned,T.keep _ _ _ a0 fun b F o e=>(U.pin (b,o) (mem_append_right _ (mem_append_right _ (Ii F e)))).1,fun b F=> ?_,w7⟩
    obtain⟨o,e,d⟩:=T.obj _ _ a0 b F
    exact(U.pin (b,o) (mem_append_right _ (mem_append_right _ (Ii F e)))).2.1
   cases f with
   | next=>obtain⟨y,O,U,n7⟩:=Z;exact again U n7
   | cont=>obtain⟨y,O,U,n7⟩:=Z;exact again U n7
   | brk=>obtain⟨y,O,U,Z⟩:=Z;exact⟨y,O,U.unpinned,Z⟩
   | ret v=>obtain⟨x7,y,O,U,r7,Z⟩:=Z;exact⟨x7,y,O,U.unpinned,r7,Z⟩
end
theorem Tn {c:TT}{tb:TS}{D:Ends}{σ:St}{H:Hp} (y:St->Hp->Prop) (F:St->Hp->Nat) (I:y σ H)
 (L:∀σ H,y σ H->c σ H fun b H1=>if b=true then tb { D with nx:=fun d H'=>y d H'/\F d H'<F σ H,ct:=fun d H'=>y d H'/\F d H'<F σ H,bk:=D.nx} σ H1 else D.nx σ H1)
 (mono:∀σ H Q G,(∀b H1,Q b H1->G b H1)->c σ H Q->c σ H G):Qm c tb D σ H:=by
 refine⟨fun m σ H=>m=F σ H/\y σ H,⟨_,rfl,I⟩,?_⟩
 rintro m σ H ⟨rfl,p⟩
 refine mono σ H _ _ (fun b H1 q=> ?_) (L σ H p)
 cases b with
 | true=>exact⟨_,fun d H' ⟨M,l⟩=>⟨_,l,rfl,M⟩,q⟩
 | false=>exact q
end L2
namespace L2
open PySem PySem.Spec PyProof.Rows
abbrev R2:=V->V->Hp->VK->Prop
def OpR (X:Cx) (f:Value->Value->Sem Value) (r:R2):Prop:=
 ∀(pins:List (Addr × Obj)) (s:Shared) (σ:St) (H:Hp) (x y:V) (v u:Value) (Q:VK),Inv X pins σ H s->RelV x v->RelV y u->r x y H Q->
   wpAny (model X.prog X.w) X.A (f v u) (EP X pins σ Q) X.xe s
def UnR (X:Cx) (f:Value->Sem Value) (r:V->Hp->VK->Prop):Prop:=
 ∀(pins:List (Addr × Obj)) (s:Shared) (σ:St) (H:Hp) (x:V) (v:Value) (Q:VK),Inv X pins σ H s->RelV x v->r x H Q->
   wpAny (model X.prog X.w) X.A (f v) (EP X pins σ Q) X.xe s
def Gx (X:Cx) (f:Value) (r:List V->Hp->VK->Prop):Prop:=
 ∀(pins:List (Addr × Obj)) (s:Shared) (σ:St) (H:Hp) (xs:List V) (us:List Value) (Q:VK),Inv X pins σ H s->Vals xs us->r xs H Q->
   wpAny (model X.prog X.w) X.A (call f us) (EP X pins σ Q) X.xe s
def tOp (r:R2) (ta tb:TE):TE:=fun σ H Q=>ta σ H fun x H1=>tb σ H1 fun y H2=>r x y H2 Q
def tUn (r:V->Hp->VK->Prop) (ta:TE):TE:=fun σ H Q=>ta σ H fun x H1=>r x H1 Q
def rI (C:Int->Int->Prop) (g:Int->Int->V):R2:=fun x y H Q=>∃i j,x= .int i/\y= .int j/\C i j/\Q (g i j) H
def rI0 (g:Int->Int->V):R2:=fun x y H Q=>∃i j,x= .int i/\y= .int j/\Q (g i j) H
def rU (g:Int->V):V->Hp->VK->Prop:=fun x H Q=>∃i,x= .int i/\Q (g i) H
section
variable {X:Cx}{a b c:Expr}{ta tb tc:TE}{pos:Pos}
theorem Afc (L:PE X a ta) (M:PE X b tb) {pins:List (Addr × Obj)}{s:Shared}{σ:St}{H:Hp}{R:V->V->Hp->Prop} (I:Inv X pins σ H s)
 (h:ta σ H fun x H1=>tb σ H1 fun y H2=>R x y H2) {Q:Value->Shared->Prop}{f:Value->Value->Sem Value}
 (O:∀v u G x y H2,Inv X pins σ H2 G->RelV x v->RelV y u->R x y H2->wpAny (model X.prog X.w) X.A (f v u) Q X.xe G):
 wpAny (model X.prog X.w) X.A (eval a X.env) (fun v d=>wpAny (model X.prog X.w) X.A (eval b X.env) (fun u F=>wpAny (model X.prog X.w) X.A (f v u) Q X.xe F) X.xe d) X.xe s:=by
 refine thn (L pins s σ H _ I h) fun v U ⟨x,H1,W,Y,Z⟩=> ?_
 refine thn (M pins U σ H1 _ W Z) fun u G ⟨y,H2,I2,r2,q2⟩=> ?_
 exact O v u G x y H2 I2 Y r2 q2
theorem Afu {d:Operator}{r:R2} (F:OpR X (binaryOp d) r) (G:PE X a ta) (L:PE X b tb):PE X (.BinOp a d b pos) (tOp r ta tb):=by
 intro pins s σ H Q I h
 exact wpAny_BinOp (Afc G L I h fun v u M x y H2 O U W q=>F pins M σ H2 x y v u Q O U W q)
theorem Afw {d:UnaryOp}{r:V->Hp->VK->Prop} (y:UnR X (unaryOp d) r) (F:PE X a ta):PE X (.UnaryOp d a pos) (tUn r ta):=by
 intro pins s σ H Q I h
 exact UnaryOp_ (thn (F pins s σ H _ I h) fun v G ⟨x,H1,L,M,O⟩=>y pins G σ H1 x v Q L M O)
theorem opI {f:Value->Value->Sem Value}{C:Int->Int->Prop}{g:Int->Int->Int}
 (d:∀(i j:Int) (t u:Tok) (s:Shared) (Q:Value->Shared->Prop) (E:Value->Shared->Prop),C i j->Q (.int (g i j) s.toks) { s with toks:=s.toks+1}->wpAny (model X.prog X.w) X.A (f (.int i t) (.int j u)) Q E s):
 OpR X f (rI C fun i j=> .int (g i j)):=by
 intro pins s σ H x y v u Q I F G h
 obtain⟨i,j,rfl,rfl,L,q⟩:=h
 obtain⟨t,rfl⟩:=F
 obtain⟨M,rfl⟩:=G
 exact d i j t M s _ _ L ⟨.int (g i j),H,I.tok _,⟨_,rfl⟩,q⟩
theorem Ahx {f:Value->Value->Sem Value}{g:Int->Int->Int}
 (d:∀(i j:Int) (t u:Tok) (s:Shared) (Q:Value->Shared->Prop) (E:Value->Shared->Prop),Q (.int (g i j) s.toks) { s with toks:=s.toks+1}->wpAny (model X.prog X.w) X.A (f (.int i t) (.int j u)) Q E s):
 OpR X f (rI0 fun i j=> .int (g i j)):=by
 intro pins s σ H x y v u Q I F G h
 obtain⟨i,j,rfl,rfl,q⟩:=h
 obtain⟨t,rfl⟩:=F
 obtain⟨L,rfl⟩:=G
 exact d i j t L s _ _ ⟨.int (g i j),H,I.tok _,⟨_,rfl⟩,q⟩
theorem Ae3 {f:Value->Value->Sem Value}{g:Int->Int->Bool}
 (d:∀(i j:Int) (t u:Tok) (s:Shared) (Q:Value->Shared->Prop) (E:Value->Shared->Prop),Q (.bool (g i j)) s->wpAny (model X.prog X.w) X.A (f (.int i t) (.int j u)) Q E s):
 OpR X f (rI0 fun i j=> .bl (g i j)):=by
 intro pins s σ H x y v u Q I F G h
 obtain⟨i,j,rfl,rfl,q⟩:=h
 obtain⟨t,rfl⟩:=F
 obtain⟨L,rfl⟩:=G
 exact d i j t L s _ _ ⟨.bl (g i j),H,I,rfl,q⟩
def Aev (i j:Int):Prop:=0<=j/\j<=1000000/\i.natAbs<2^64
def Aho (i j:Int):Prop:=(-(2^64)<i/\i<2^64)\/(-(2^64)<j/\j<2^64)
theorem Aho.ok {i j:Int} (h:Aho i j):IntMulOk i j:=by
 rcases h with⟨h1,h2⟩ | ⟨h1,h2⟩
 . exact .of_left (intBits_le_64 h1 h2)
 . exact .of_right (intBits_le_64 h1 h2)
theorem Bv:OpR X (binaryOp .Add) (rI0 fun i j=> .int (i+j)):=Ahx fun _ _ _ _ _ _ _ q=>add_int q
theorem Fi:OpR X (binaryOp .Sub) (rI0 fun i j=> .int (i-j)):=Ahx fun _ _ _ _ _ _ _ q=>sub_int q
theorem Iw:OpR X (binaryOp .Mod) (rI (fun _ j=>0<j) fun i j=> .int (i%j)):=opI fun i j _ _ _ _ _ d q=>by
 have h1:(0:Int)<j:=d
 exact mod_int' (by omega) (by rw [Int.fmod_eq_emod_of_nonneg i (by omega)];exact q)
theorem Ku:OpR X (binaryOp .Pow) (rI Aev fun i j=> .int (i^j.toNat)):=opI fun _ _ _ _ _ _ _ d q=>pow_int_small d.1 d.2.1 d.2.2 q
theorem unI {f:Value->Sem Value}{g:Int->Int}
 (d:∀(i:Int) (t:Tok) (s:Shared) (Q:Value->Shared->Prop) (E:Value->Shared->Prop),Q (.int (g i) s.toks) { s with toks:=s.toks+1}->wpAny (model X.prog X.w) X.A (f (.int i t)) Q E s):
 UnR X f (rU fun i=> .int (g i)):=by
 intro pins s σ H x v Q I y h
 obtain⟨i,rfl,q⟩:=h
 obtain⟨t,rfl⟩:=y
 exact d i t s _ _ ⟨.int (g i),H,I.tok _,⟨_,rfl⟩,q⟩
theorem Ja:UnR X (unaryOp .USub) (rU fun i=> .int (-i)):=unI fun _ _ _ _ _ q=>neg_int q
end
def Zr:V->V->Bool
 | .non,.non=>true | .non,.int _=>true | .int _,.non=>true | .non,.bl _=>true | .bl _,.non=>true | .non,.str _=>true | .str _,.non=>true
 | .int _,.int _=>true | .bl _,.bl _=>true | .str _,.str _=>true | .byt _,.byt _=>true
 | .int _,.str _=>true | .str _,.int _=>true | .bl _,.str _=>true | .str _,.bl _=>true
 | _,_=>false
def rEq:R2:=fun x y H Q=>Zr x y=true/\Q (.bl (decide (x=y))) H
def rNe:R2:=fun x y H Q=>Zr x y=true/\Q (.bl (!decide (x=y))) H
theorem Vg {i j:Int}:decide (V.int i=V.int j)=(i==j):=by
 rw [Bool.eq_iff_iff]
 simp
theorem Y0 {i j:Bool}:decide (V.bl i=V.bl j)=(i==j):=by
 rw [Bool.eq_iff_iff]
 simp
theorem Vh {i j:Str}:decide (V.str i=V.str j)=(i==j):=by
 rw [Bool.eq_iff_iff]
 simp
theorem Vf {i j:Array UInt8}:decide (V.byt i=V.byt j)=(i.toList==j.toList):=by
 rw [Bool.eq_iff_iff]
 cases i
 cases j
 simp
section
variable {X:Cx}{a b c:Expr}{ta tb tc:TE}{pos:Pos}
theorem Ce {pins:List (Addr × Obj)}{σ:St}{H:Hp}{s:Shared}{Q:VK}{k d:Bool} (I:Inv X pins σ H s) (q:Q (.bl k) H) (e:k=d):EP X pins σ Q (.bool d) s:=by
 subst e
 exact⟨.bl k,H,I,rfl,q⟩
theorem Ds:OpR X (compareOp .Eq) rEq:=by
 intro pins s σ H x y v u Q I L d h
 obtain⟨G,q⟩:=h
 cases x with
 | non=>
   cases L
   cases y with
   | non=>cases d;exact PySem.EqNone.eq_none_none (Ce I q (by simp))
   | bl j=>cases d;exact PySem.EqNone.eq_none_bool (Ce I q (by simp))
   | int j=>obtain⟨F,rfl⟩:=d;exact PySem.EqNone.eq_none_int (Ce I q (by simp))
   | str j=>obtain⟨F,rfl⟩:=d;exact PySem.EqNone.eq_none_str (Ce I q (by simp))
   | _=>exact absurd (show false=true from G) Bool.false_ne_true
 | bl i=>
   cases L
   cases y with
   | non=>cases d;exact PySem.EqNone.eq_bool_none (Ce I q (by simp))
   | bl j=>cases d;exact eq_bool (Ce I q Y0)
   | str j=>obtain⟨F,rfl⟩:=d;exact PySem.EqMixed.eq_bool_str (Ce I q (by simp))
   | _=>exact absurd (show false=true from G) Bool.false_ne_true
 | int i=>
   obtain⟨t,rfl⟩:=L
   cases y with
   | non=>cases d;exact PySem.EqNone.eq_int_none (Ce I q (by simp))
   | int j=>obtain⟨F,rfl⟩:=d;exact eq_int (Ce I q Vg)
   | str j=>obtain⟨F,rfl⟩:=d;exact PySem.EqMixed.eq_int_str (Ce I q (by simp))
   | _=>exact absurd (show false=true from G) Bool.false_ne_true
 | str i=>
   obtain⟨t,rfl⟩:=L
   cases y with
   | non=>cases d;exact PySem.EqNone.eq_str_none (Ce I q (by simp))
   | bl j=>cases d;exact PySem.EqMixed.eq_str_bool (Ce I q (by simp))
   | int j=>obtain⟨F,rfl⟩:=d;exact PySem.EqMixed.eq_str_int (Ce I q (by simp))
   | str j=>obtain⟨F,rfl⟩:=d;exact eq_str (Ce I q Vh)
   | _=>exact absurd (show false=true from G) Bool.false_ne_true
 | byt i=>
   obtain⟨t,rfl⟩:=L
   cases y with
   | byt j=>obtain⟨F,rfl⟩:=d;exact PySem.W.eq_bytes (Ce I q Vf)
   | _=>exact absurd (show false=true from G) Bool.false_ne_true
 | _=>cases y<;>exact absurd (show false=true from G) Bool.false_ne_true
theorem Qa:OpR X (compareOp .NotEq) rNe:=by
 intro pins s σ H x y v u Q I L d h
 obtain⟨G,q⟩:=h
 cases x with
 | non=>
   cases L
   cases y with
   | non=>cases d;exact PySem.EqNone.ne_none_none (Ce I q (by simp))
   | bl j=>cases d;exact PySem.EqNone.ne_none_bool (Ce I q (by simp))
   | int j=>obtain⟨F,rfl⟩:=d;exact PySem.EqNone.ne_none_int (Ce I q (by simp))
   | str j=>obtain⟨F,rfl⟩:=d;exact PySem.EqNone.ne_none_str (Ce I q (by simp))
   | _=>exact absurd (show false=true from G) Bool.false_ne_true
 | bl i=>
   cases L
   cases y with
   | non=>cases d;exact PySem.EqNone.ne_bool_none (Ce I q (by simp))
   | bl j=>cases d;exact ne_bool (Ce I q (congrArg not Y0))
   | str j=>obtain⟨F,rfl⟩:=d;exact PySem.EqMixed.ne_bool_str (Ce I q (by simp))
   | _=>exact absurd (show false=true from G) Bool.false_ne_true
 | int i=>
   obtain⟨t,rfl⟩:=L
   cases y with
   | non=>cases d;exact PySem.EqNone.ne_int_none (Ce I q (by simp))
   | int j=>obtain⟨F,rfl⟩:=d;exact ne_int (Ce I q (congrArg not Vg))
   | str j=>obtain⟨F,rfl⟩:=d;exact PySem.EqMixed.ne_int_str (Ce I q (by simp))
   | _=>exact absurd (show false=true from G) Bool.false_ne_true
 | str i=>
   obtain⟨t,rfl⟩:=L
   cases y with
   | non=>cases d;exact PySem.EqNone.ne_str_none (Ce I q (by simp))
   | bl j=>cases d;exact PySem.EqMixed.ne_str_bool (Ce I q (by simp))
   | int j=>obtain⟨F,rfl⟩:=d;exact PySem.EqMixed.ne_str_int (Ce I q (by simp))
   | str j=>obtain⟨F,rfl⟩:=d;exact ne_str (Ce I q (congrArg not Vh))
   | _=>exact absurd (show false=true from G) Bool.false_ne_true
 | byt i=>
   obtain⟨t,rfl⟩:=L
   cases y with
   | byt j=>obtain⟨F,rfl⟩:=d;exact PySem.W.ne_bytes (Ce I q (congrArg not Vf))
   | _=>exact absurd (show false=true from G) Bool.false_ne_true
 | _=>cases y<;>exact absurd (show false=true from G) Bool.false_ne_true
theorem P0:OpR X (compareOp .Lt) (rI0 fun i j=> .bl (decide (i<j))):=Ae3 fun _ _ _ _ _ _ _ q=>lt_int q
theorem Aas:OpR X (compareOp .LtE) (rI0 fun i j=> .bl (decide (i<=j))):=Ae3 fun _ _ _ _ _ _ _ q=>le_int q
theorem Lb:OpR X (compareOp .Gt) (rI0 fun i j=> .bl (decide (j<i))):=Ae3 fun _ _ _ _ _ _ _ q=>gt_int q
theorem Acy:OpR X (compareOp .GtE) (rI0 fun i j=> .bl (decide (j<=i))):=Ae3 fun _ _ _ _ _ _ _ q=>ge_int q
theorem Pz:OpR X (compareOp .In) (fun x y H Q=>∃i j,x= .str i/\y= .str j/\Q (.bl (!(Builtin.Str.occurrences j i 0 j.length 1).isEmpty)) H):=by
 intro pins s σ H x y v u Q I d F h
 obtain⟨i,j,rfl,rfl,q⟩:=h
 obtain⟨t,rfl⟩:=d
 obtain⟨G,rfl⟩:=F
 exact in_str (Ce I q rfl)
theorem Aw (b:Expr) {d:CmpOp} (h:d≠ .In:=by decide) (h2:d≠ .NotIn:=by decide):behindInMarks d b=false:=by
 have y:(d==CmpOp.In)=false:=by cases d<;>first | rfl | exact absurd rfl h
 have F:(d==CmpOp.NotIn)=false:=by cases d<;>first | rfl | exact absurd rfl h2
 cases b<;>simp [behindInMarks,y,F]
theorem Aav {d:CmpOp}{r:R2} (F:OpR X (compareOp d) r) (G:PE X a ta) (L:PE X b tb) (M:behindInMarks d b=false):PE X (.Compare a [d] [b] pos) (tOp r ta tb):=by
 intro pins s σ H Q I h
 exact wpAny_Compare1 (Afc G L I h fun v u O x y H2 U W Y q=>F pins O σ H2 x y v u Q U W Y q) M
def Abi (t:TE):TT:=fun σ H Q=>t σ H fun x H'=>∃k,x= .bl k/\Q k H'
theorem Aa4 {d:CmpOp}{r:R2} (F:OpR X (compareOp d) r) (G:PE X a ta) (L:PE X b tb) (M:behindInMarks d b=false):PT X (.Compare a [d] [b] pos) (Abi (tOp r ta tb)):=by
 intro pins s σ H Q I h
 refine wpAny_isTrue_Compare1 (thn (G pins s σ H _ I h) fun v O ⟨x,H1,U,W,Y⟩=>thn (L pins O σ H1 _ U Y) fun u Z ⟨y,H2,I2,r2,q2⟩=>
  thn (F pins Z σ H2 x y v u _ I2 W r2 q2) fun c s3 ⟨z,H3,I3,r3,k,e,q3⟩=> ?_) M
 subst e
 cases r3
 exact wpAny_truthy_bool ⟨H3,I3,q3⟩
theorem Nm:(sizeLine:Nat)<2^63:=by rw [sizeLine_eq];decide
theorem Bj:OpR X (binaryOp .Add) (fun x y H Q=>∃i j,x= .str i/\y= .str j/\i.length+j.length<=sizeLine/\Q (.str (i++j)) H):=by
 intro pins s σ H x y v u Q I d F h
 obtain⟨i,j,rfl,rfl,G,q⟩:=h
 obtain⟨t,rfl⟩:=d
 obtain⟨L,rfl⟩:=F
 exact add_str (fun L tk=>⟨.str (i++j),H,I.tok _,⟨_,rfl⟩,q⟩) G
theorem vals1 {x:V}{d:List Value} (r:Vals [x] d):∃u,d=[u]/\RelV x u:=by
 cases r with
 | cons y F=>cases F;exact⟨_,rfl,y⟩
theorem vals2 {x y:V}{d:List Value} (r:Vals [x,y] d):∃u F,d=[u,F]/\RelV x u/\RelV y F:=by
 cases r with
 | cons G I=>
   cases I with
   | cons L M=>cases M;exact⟨_,_,rfl,G,L⟩
theorem Ih:Gx X (.builtin "abs") (fun xs H Q=>∃i,xs=[.int i]/\Q (.int (if i<0 then-i else i)) H):=by
 intro pins s σ H xs d Q I r h
 obtain⟨i,rfl,q⟩:=h
 obtain⟨u,rfl,t,rfl⟩:=vals1 r
 exact call_abs_int fun u tk=>⟨.int (if i<0 then-i else i),H,I.tok _,⟨_,rfl⟩,q⟩
theorem Vb (y:X.calm=true):Gx X (.builtin "max") (fun xs H Q=>∃i j,xs=[.int i,.int j]/\Q (.int (if j>i then j else i)) H):=by
 intro pins s σ H xs F Q I r h
 obtain⟨i,j,rfl,q⟩:=h
 obtain⟨u,G,rfl,⟨t,rfl⟩,⟨L,rfl⟩⟩:=vals2 r
 refine max_two_ints (I.ok.hd y) fun h' tk k=>⟨_,H,I.kept k,?_,q⟩
 by_cases d:j>i
 . rw [if_pos d,if_pos d];exact⟨_,rfl⟩
 . rw [if_neg d,if_neg d];exact⟨_,rfl⟩
theorem Lw:Gx X (.type "int") (fun xs H Q=>(∃i,xs=[.int i]/\Q (.int i) H)\/∃k,xs=[.bl k]/\Q (.int (if k then 1 else 0)) H):=by
 intro pins s σ H xs y Q I r h
 rcases h with⟨i,rfl,q⟩ | ⟨k,rfl,q⟩
 . obtain⟨u,rfl,t,rfl⟩:=vals1 r
   exact call_int_int ⟨.int i,H,I,⟨_,rfl⟩,q⟩
 . obtain⟨u,rfl,d⟩:=vals1 r
   cases d
   exact call_int_bool ⟨.int (if k then 1 else 0),H,I.tok _,⟨_,rfl⟩,q⟩
theorem Dq:Gx X (.type "str") (fun xs H Q=>∃i,xs=[.int i]/\i.natAbs.log2<1920/\Q (.str (toString i)) H):=by
 intro pins s σ H xs y Q I r h
 obtain⟨i,rfl,d,q⟩:=h
 obtain⟨u,rfl,t,rfl⟩:=vals1 r
 exact PySem.P.str_of_int d ⟨.str _,H,I.tok _,⟨_,rfl⟩,q⟩
end
end L2
namespace L2
open PySem PySem.Spec PyProof.Rows
structure Ae7 (h:Heap) (x dx C:Addr) (mA:Str->Option Value):Prop where
 obj:h.get? x=some (instObj C dx)
 ns:h.Ns1 dx mA
 ne:dx≠x
theorem Vz {h:Heap}{dx:Addr}{F:Str->Option Value} (n:h.Ns1 dx F):∃G,h.get? dx=some G/\∀name,lookIn name G=some (F name):=by
 obtain⟨o,es,ep,I,L,M,_,O⟩:=n
 refine⟨o,I,fun name=> ?_⟩
 have e:=O name
 unfold nsFind findBy at e
 rw [<-Array.find?_toList]at e
 unfold lookIn
 rw [L]
 dsimp only
 split
 . rename_i y q
   rw [q]at e
   exact congrArg some e
 . rename_i q
   rw [q]at e
   have a:es.toList.any (·.refKey)=false:=by
    rw [List.any_eq_false]
    intro y U
    obtain⟨z,t,d⟩:=M y (Array.mem_toList_iff.mp U)
    simp [DictEntry.refKey,d]
   have Y:¬es.toList.any (·.refKey)=true:=by rw [a];exact Bool.false_ne_true
   rw [if_neg Y]
   exact congrArg some e
theorem Ae7.look {h:Heap}{x dx C:Addr}{y:Str->Option Value} (I:Ae7 h x dx C y):∃d,InstAt h x (instObj C dx) C (some d)/\∀name,lookIn name d=some (y name):=
 let ⟨d,ho,hl⟩:=Vz I.ns
 ⟨d,⟨I.obj,rfl,rfl,ho⟩,hl⟩
section
variable {P:Program}{w:World}{H H':Hp}{h h':Heap}{a C dx:Addr}{fs fs':List (Str × V)}
theorem Aah (F:HOk P w H h) (e:H a=some (.ins C dx fs)):∃y,Ae7 h a dx C y/\(∀f,Xe (fs.lookup f) (y f))/\PySem.Within y (fs.map (·.1))/\fs.length<=1000/\H dx=some (.own a):=by
 obtain⟨d,z,G,I,y,n,r,q⟩:=(show Fl P w H h a (.ins C dx fs)from F a _ e)
 exact⟨y,⟨I,n,G⟩,r,q,z,d⟩
end
structure Cls (K:Frag) (C:Addr):Prop where
 pg:plainGet K C Str.empty=true
 hd:PySem.W.hasDictIn K C=true
 po:PySem.W.plainOver K C=true
 sa:findIn K (.ref C) "__setattr__"=some (some (.builtin "object.__setattr__"))
theorem Cls.get {K:Frag}{C:Addr} (c:Cls K C) (f:Str):plainGet K C f=true:=c.pg
structure Con (K:Frag) (C:Addr) (f:Str) (v:V) (u:Value):Prop where
 at_:findIn K (.ref C) f=some (some u)
 rel:RelV v u
 get:specialIn K u "__get__"=some none
 cp:PySem.W.copiedNames.contains f=false
structure Meth (K:Frag) (C:Addr) (m:Str) (f:Addr):Prop where
 at_:findIn K (.ref C) m=some (some (.ref f))
 fn:isFn K (.ref f)=true
 kp:keepIn K (.ref f)=true
section
variable {X:Cx}{pins:List (Addr × Obj)}{σ:St}{H:Hp}{s:Shared}{A:Around}{E:Value->Shared->Prop}{Q:Value->Shared->Prop}{c:Value}{b:Bool}
inductive R3 (K:Frag) (H:Hp):V->Value->Prop where
 | non:R3 K H .non (.type "NoneType")
 | bl (x:Bool):R3 K H (.bl x) (.type "bool")
 | int (i:Int):R3 K H (.int i) (.type "int")
 | str (x:Str):R3 K H (.str x) (.type "str")
 | flt (x:UInt64):R3 K H (.flt x) (.type "float")
 | lst {a:Addr}{xs:List V} (e:H a=some (.lst xs)):R3 K H (.ref a) (.type "list")
 | frz {a:Addr}{o:Obj}{xs:List V} (e:H a=some (.frz o (.lst xs))):R3 K H (.ref a) (.type "list")
 | tup {a:Addr}{xs:List V} (e:H a=some (.tup xs)):R3 K H (.ref a) (.type "tuple")
 | dK {a:Addr}{kvs:List (Key × V)} (e:H a=some (.dK kvs)):R3 K H (.ref a) (.type "dict")
 | dT {a:Addr}{kvs:List (List Key × V)} (e:H a=some (.dT kvs)):R3 K H (.ref a) (.type "dict")
 | ins {a C dx:Addr}{fs:List (Str × V)} (e:H a=some (.ins C dx fs)) (cl:Cls K C) (ha:findIn K (.ref C) "__class__"=some (some (.builtin "object.__class__")))
    (hn:specialIn K (.builtin "object.__class__") "__get__"=some (some (.builtin "getset_descriptor.__get__"))) (htk:PySem.W.takesIn K (.builtin "object.__class__")=some true)
    (hm:mroIn K C (.type "object")=some true):R3 K H (.ref a) (.ref C)
theorem Vp {x:V}{u t:Value} (I:Inv X pins σ H s) (d:RelV x u) (ty:R3 X.K H x t) (e:kitOne X.K t c=some b) (h:∀tk,Q (.bool b) { s with toks:=tk}):
 wpAny (model X.prog X.w) A (call (.builtin "isinstance") [u,c]) Q E s:=by
 cases ty with
 | non=>cases(show u=Value.none from d);exact kia_one PySem.W.kitx_none I.kIn True.intro e (fun z=>nomatch z) h
 | bl y=>cases(show u=Value.bool y from d);exact kia_one PySem.W.kitx_bool I.kIn True.intro e (fun z=>nomatch z) h
 | int i=>obtain⟨t,q⟩:=(show ∃t,u=Value.int i t from d);cases q;exact kia_one PySem.W.kitx_int I.kIn True.intro e (fun z=>nomatch z) h
 | str y=>obtain⟨t,q⟩:=(show ∃t,u=Value.str y t from d);cases q;exact kia_one PySem.W.kitx_str I.kIn True.intro e (fun z=>nomatch z) h
 | flt y=>obtain⟨t,q⟩:=(show ∃t,u=Value.float y t from d);cases q;exact kia_one PySem.W.kitx_float I.kIn True.intro e (fun z=>nomatch z) h
 | @lst a xs F=>
   cases(show u=Value.ref a from d)
   obtain⟨_,_,n,_,h1⟩:=(show Fl X.prog X.w H s.heap a (.lst xs)from I.hok a _ F)
   exact kia_one kitx_list I.kIn ⟨_,h1,rfl⟩ e (fun z=>nomatch z) h
 | @frz a U xs F=>
   cases(show u=Value.ref a from d)
   obtain⟨_,_,_,n,_,h1⟩:=(show Fl X.prog X.w H s.heap a (.frz U (.lst xs))from I.hok a _ F)
   exact kia_one kitx_list I.kIn ⟨_,h1,rfl⟩ e (fun z=>nomatch z) h
 | @tup a xs F=>
   cases(show u=Value.ref a from d)
   obtain⟨_,_,_,p⟩:=(show Fl X.prog X.w H s.heap a (.tup xs)from I.hok a _ F)
   obtain⟨o,h1,h2,_⟩:=p
   exact kia_one kitx_tuple I.kIn ⟨o,h1,h2⟩ e (fun z=>nomatch z) h
 | @dK a G F=>
   cases(show u=Value.ref a from d)
   obtain⟨_,_,vs,_,p⟩:=(show Fl X.prog X.w H s.heap a (.dK G)from I.hok a _ F)
   obtain⟨o,es,ep,h1,h2,_⟩:=p
   exact kia_one kitx_dict I.kIn ⟨o,h1,h2.1⟩ e (fun z=>nomatch z) h
 | @dT a G F=>
   cases(show u=Value.ref a from d)
   obtain⟨_,_,xs,_,o,es,ep,h1,h2,_⟩:=(show Fl X.prog X.w H s.heap a (.dT G)from I.hok a _ F)
   exact kia_one kitx_dict I.kIn ⟨o,h1,h2.1⟩ e (fun z=>nomatch z) h
 | @ins a C dx fs F M Y Z L hm=>
   cases(show u=Value.ref a from d)
   obtain⟨mA,O,_⟩:=Aah I.hok F
   obtain⟨od,J,_⟩:=O.look
   exact kia_one (PySem.W.kitx_own (M.get _) M.hd Y Z L hm) I.kIn J e (fun z=>nomatch z) h
end
end L2
namespace L2
open PySem PySem.Spec PyProof.Rows
structure J4 (k:Nat) (A:Around):Prop where
 hd:A.handled=none
 dp:A.depth+3*k+5<recursionLimit
 un:A.units+16*k+200<cLine
theorem J4.mono {j k:Nat}{A:Around} (r:J4 k A) (h:j<=k):J4 j A:=⟨r.hd,by have:=r.dp;omega,by have:=r.un;omega⟩
theorem J4.deeper {k:Nat}{A:Around} (r:J4 (k+1) A) (env:Env):J4 k (A.deeper env):=
 ⟨r.hd,by have:=r.dp;show A.depth+1+3*k+5<_;omega,by have:=r.un;show A.units+3+16*k+200<_;omega⟩
theorem J4.in1 {k:Nat}{A:Around} (r:J4 (k+1) A):J4 k A.in1:=
 ⟨r.hd,by have:=r.dp;show A.depth+3*k+5<_;omega,by have:=r.un;show A.units+1+16*k+200<_;omega⟩
theorem J4.depth {k:Nat}{A:Around} (r:J4 k A):A.depth<recursionLimit:=by have:=r.dp;omega
theorem J4.units {k:Nat}{A:Around} (r:J4 k A):A.units+64<cLine:=by have:=r.un;omega
def Agb:TA:=fun _ H Q=>Q [] H
def Yr (ta:TE) (tr:TA):TA:=fun σ H Q=>ta σ H fun x H1=>tr σ H1 fun xs H2=>Q (x::xs) H2
section
variable {X:Cx}{e:Expr}{es:List Expr}{te:TE}{t:TA}{pos:Pos}
theorem Ac0:PA X [] Agb:=fun _ _ _ _ H Q I h=>Calls.spliced_nil ⟨[],H,I,.nil,h⟩
theorem Aat (d:PE X e te) (y:PA X es t) (F:starEach (e::es) X.env=(false,eval e X.env)::starEach es X.env:=by rfl):PA X (e::es) (Yr te t):=by
 intro pos pins s σ H Q I h
 rw [F]
 show wpAny _ _ (spliced ((false,eval e X.env)::backTo pos (starEach es X.env))) _ _ s
 refine Calls.spliced_cons (thn (d pins s σ H _ I h) fun u G ⟨x,H1,L,M,O⟩=> ?_)
 exact thn (y pos pins G σ H1 _ L O) fun Z s2 ⟨xs,H2,U,W,Y⟩=>⟨x::xs,H2,U,.cons M W,Y⟩
def Agg (t:TA):TE:=fun σ H Q=>t σ H fun xs H1=>xs.length<=sizeLine/\∀p,H1 p=none->Q (.ref p) (upd H1 p (.tup xs))
def Aga (t:TA):TE:=fun σ H Q=>t σ H fun xs H1=>xs.length<=sizeLine/\∀p,H1 p=none->Q (.ref p) (upd H1 p (.lst xs))
theorem Ac7 {x1} (h:PA X es t):PE X (.Tuple es x1 pos) (Agg t):=by
 intro pins s σ H Q I F
 refine wpAny_Tuple_spliced (thn (h pos pins s σ H _ I F) fun G d ⟨xs,H1,y,r,z,q⟩=>⟨by rw [<-r.length];exact z,?_⟩)
 have L:H1 d.heap.objs.size=none:=y.hok.fresh (le_refl _)
 refine⟨.ref d.heap.objs.size,upd H1 d.heap.objs.size (.tup xs),y.laid (t':=d.toks) (fun b u e=>Heap.get?_push_of_some _ e) (le_refl _) ?_,rfl,q _ L⟩
 exact⟨z,G,r,⟨_,Heap.get?_push_size _ rfl,rfl,_,rfl⟩⟩
theorem Ac4 (h:PA X es t):PE X (.List es pos) (Aga t):=by
 intro pins s σ H Q I F
 refine wpAny_List_spliced (thn (h pos pins s σ H _ I F) fun G d ⟨xs,H1,y,r,z,q⟩=>⟨by rw [<-r.length];exact z,?_⟩)
 have L:H1 d.heap.objs.size=none:=y.hok.fresh (le_refl _)
 refine⟨.ref d.heap.objs.size,upd H1 d.heap.objs.size (.lst xs),y.laid (t':=d.toks) (fun b u e=>Heap.get?_push_of_some _ e) (le_refl _) ?_,rfl,q _ L⟩
 exact⟨z,G,0,r,Heap.get?_push_size _ rfl⟩
end
abbrev Sp:=List V->Hp->VK->XK->Prop
abbrev CXT:=List Env->Hp->Shared->XK->Value->Shared->Prop
structure Z0 (P:Program) (w:World) (K:Frag) (mg:Str->Option Value) (base:Heap) (A:Around) (outer:List Env) (s:Shared) (H:Hp):Prop where
 frames:A.frames=some outer
 mod:Mod K mg base
 bs:∀b o,base.get? b=some o->s.heap.get? b=some o/\H b=none
 bsz:base.objs.size<=s.heap.objs.size
 funs:s.heap.FunFrames base outer
 frf:∀b∈frs outer,H b=none
 hok:HOk P w H s.heap
 bare:AllBare s.gens
def CE (outer:List Env) (P:Program) (w:World) (H:Hp) (s:Shared) (Q:VK) (u:Value) (s':Shared):Prop:=
 ∃v H',s'.os=s.os/\AllBare s'.gens/\Un (frs outer) [] H H' s.heap s'.heap/\HOk P w H' s'.heap/\RelV v u/\Q v H'
def CR (CX:CXT) (outer:List Env) (P:Program) (w:World) (H:Hp) (s:Shared) (Q:VK) (E:XK) (r:Result) (s':Shared):Prop:=
 match r with
 | .ok (.ret u)=>CE outer P w H s Q u s'
 | .ok _=>False
 | .error e=>CX outer H s E e s'
structure Nx (P:Program) (w:World) (K:Frag) (mg:Str->Option Value) (base:Heap) (CX:CXT) (k:Nat) (f:Addr) (fd:FuncData) (ps:List Str) (sp:Sp):Prop where
 len:∀vs H Q E,sp vs H Q E->vs.length=ps.length
 run:∀(A:Around) (outer:List Env) (s:Shared) (H:Hp) (args:Args) (us:List Value) (vs:List V) (Q:VK) (E:XK),J4 k A->Z0 P w K mg base A outer s H->BindsTo s fd args (ps.zip us)->Vals vs us->sp vs H Q E->
  codeAny (model P w) A (.call (.ref f) args) (CR CX outer P w H s Q E) s
theorem Nx.mono {P:Program}{w:World}{K:Frag}{mg:Str->Option Value}{base:Heap}{CX:CXT}{j k:Nat}{f:Addr}{fd:FuncData}{ps:List Str}{sp:Sp} (F:Nx P w K mg base CX j f fd ps sp) (h:j<=k):
 Nx P w K mg base CX k f fd ps sp:=⟨F.len,fun A outer s H args d y Q E G=>F.run A outer s H args d y Q E (G.mono h)⟩
theorem Nx.imp {P:Program}{w:World}{K:Frag}{mg:Str->Option Value}{base:Heap}{CX:CXT}{k:Nat}{f:Addr}{fd:FuncData}{ps:List Str}{sp y:Sp} (F:Nx P w K mg base CX k f fd ps sp)
 (h:∀d H Q E,y d H Q E->sp d H Q E):Nx P w K mg base CX k f fd ps y:=
 ⟨fun d H Q E q=>F.len d H Q E (h _ _ _ _ q),fun A outer s H args G d Q E I L M O U=>F.run A outer s H args G d Q E I L M O (h _ _ _ _ U)⟩
theorem Z0.in1 {P:Program}{w:World}{K:Frag}{mg:Str->Option Value}{base:Heap}{A:Around}{outer:List Env}{s:Shared}{H:Hp} (e:Z0 P w K mg base A outer s H):
 Z0 P w K mg base A.in1 outer s H:=⟨e.frames,e.mod,e.bs,e.bsz,e.funs,e.frf,e.hok,e.bare⟩
section
variable {X:Cx}{pins:List (Addr × Obj)}{σ:St}{H:Hp}{s s':Shared}
theorem Inv.env0 (I:Inv X pins σ H s):Z0 X.prog X.w X.K X.mg X.base X.A X.stack s H:=
 ⟨I.ok.frames,I.ok.mod,I.bs,le_trans I.ok.bsz I.sz,I.stack,I.stkFree,I.hok,I.bare⟩
theorem Inv.after {Q:VK}{u:Value} (I:Inv X pins σ H s) (h:CE X.stack X.prog X.w H s Q u s'):EP X pins σ Q u s':=by
 obtain⟨v,H',L,y,un,F,r,q⟩:=h
 obtain⟨M,g,d,t,G⟩:=s'
 obtain rfl:G=s.os:=L
 exact⟨v,H',I.call (h':=M) (g':=g) (d':=d) (t':=t) (ch:=[]) un F y (fun b z=>absurd z (by simp)),r,q⟩
end
def Ru (sp:Sp) (dvs:List V) (E:XK) (t:TA):TE:=fun σ H Q=>t σ H fun vs H1=>sp (vs++dvs) H1 Q E
def Binds (K:Frag) (fd:FuncData) (ps:List Str) (ds:List Value):Prop:=
 ∀(s:Shared) (us:List Value),K.In s.heap->(us++ds).length=ps.length->BindsTo s fd ⟨us,[]⟩ (ps.zip (us++ds))
theorem Binds.all {K:Frag}{fd:FuncData}{ps:List Str} (h:∀d:List Value,d.length=ps.length->bindArgs fd ⟨d,[]⟩=pure (ps.zip d)):Binds K fd ps []:=fun s d _ y=>by
 rw [append_nil]at y ⊢
 exact .of_eq (h d y)
def Passes (CX:CXT) (X:Cx) (E:XK):Prop:=∀(pins:List (Addr × Obj)) (σ:St) (H:Hp) (s:Shared) (e:Value) (s':Shared),Inv X pins σ H s->CX X.stack H s E e s'->X.xe e s'
section
variable {X:Cx}{CX:CXT}{k:Nat}{f C:Addr}{fd:FuncData}{ps:List Str}{sp:Sp}{dvs:List V}{ds:List Value}{E:XK}{x m:Str}{p pos apos:Pos}{e o:Expr}{es:List Expr}{ta:TE}{t:TA}
theorem Adm {pins:List (Addr × Obj)}{σ:St}{H:Hp}{s:Shared}{Q:VK}{d:List Value}{G:List V} (F:Nx X.prog X.w X.K X.mg X.base CX k f fd ps sp) (M:J4 k X.A) (O:Binds X.K fd ps ds) (U:Vals dvs ds) (W:Passes CX X E)
 (I:Inv X pins σ H s) (r:Vals G d) (h:sp (G++dvs) H Q E):wpAny (model X.prog X.w) X.A (call (.ref f) d) (EP X pins σ Q) X.xe s:=by
 have L:Vals (G++dvs) (d++ds):=r.append U
 have Y:(d++ds).length=ps.length:=by rw [<-L.length];exact F.len _ _ _ _ h
 refine wpAny_call (codeAny_mono (F.run X.A X.stack s H ⟨d,[]⟩ (d++ds) (G++dvs) Q E M I.env0 (O s d I.kIn Y) L h) fun r s' y=> ?_)
 cases r with
 | error e=>exact W pins σ H s e s' I y
 | ok Z=>
   cases Z with
   | ret u=>exact I.after y
   | next=>exact False.elim y
   | brk=>exact False.elim y
   | cont=>exact False.elim y
theorem Aau (F:Nx X.prog X.w X.K X.mg X.base CX k f fd ps sp) (L:J4 k X.A) (M:Gl X x) (O:X.mg x=some (.ref f)) (U:keepIn X.K (.ref f)=true) (Y:Binds X.K fd ps ds) (Z:Vals dvs ds) (hx:Passes CX X E)
 (ha:PA X (e::es) t) (d:(x==("__debug__":Str))=false:=by decide) (he:starEach (e::es) X.env=(false,eval e X.env)::starEach es X.env:=by rfl) (y:(backTo pos (starEach es X.env)).any (·.1)=false:=by rfl):
 PE X (.Call (.Name x p) (e::es) [] pos) (Ru sp dvs E t):=by
 intro pins s σ H Q I h
 refine wpAny_Call_Name_kw (Vy I M O ?_ d)
 refine PySem.W.callWith_K (h₀:=X.base) I.ok.mod.kin U (thn (ha pos pins s σ H _ I h) fun us s1 ⟨vs,H1,G,r,q⟩=>⟨G.kIn,?_⟩) he y
 exact Adm F L Y Z hx G r q
structure Mk (K:Frag) (C f:Addr):Prop where
 makes:PySem.W.makesIn K C=true
 init:findIn K (.ref C) "__init__"=some (some (.ref f))
 fn:isFn K (.ref f)=true
 kp:keepIn K (.ref C)=true
end
section
variable {X:Cx}{CX:CXT}{k:Nat}{f C:Addr}{fd:FuncData}{ps ks:List Str}{sp:Sp}{E:XK}{x m:Str}{p pos apos kpos:Pos}{e o:Expr}{es:List Expr}{kws:List Keyword}{te ta:TE}{t tk:TA}{nm:Option Str}
structure Ahr (K:Frag) (fd:FuncData) (ps ks:List Str) (g:List Value->List Value->List Value) (gV:List V->List V->List V):Prop where
 to:∀(s:Shared) (us ws:List Value),K.In s.heap->(g us ws).length=ps.length->BindsTo s fd ⟨us,ks.zip ws⟩ (ps.zip (g us ws))
 rel:∀ {vs:List V}{us:List Value}{zs:List V}{ws:List Value},Vals vs us->Vals zs ws->Vals (gV vs zs) (g us ws)
variable {g:List Value->List Value->List Value}{gV:List V->List V->List V}
end
structure Bc (N P:List Str) (sc:Scope):Prop where
 kind:sc.kind= .function
 co:sc.isCoroutine=false
 gen:sc.isGenerator=false
 nd:N.Nodup
 pre:N.take P.length=P
 par:∀x∈P,sc.names.lookup x=some .local \/sc.names.lookup x=some .cell
 nofree:∀y∈sc.names,y.2≠ .free
theorem O9 {kindOf:Str->Option NameKind}{x:Str}:∀ {binds:List (Str × Value)}{m:Str->Option Value},(∀v,(x,v)∉binds)->bindL kindOf binds m x=m x
 | [],_,_=>rfl
 | (n,v)::r,m,h=>by
   unfold bindL
   rw [O9 fun w d=>h w (mem_cons_of_mem _ d)]
   split
   . have:x≠n:=by rintro rfl;exact h v mem_cons_self
     simp [this]
   . rfl
theorem O7 {kindOf:Str->Option NameKind}{x:Str}:∀ {binds:List (Str × Value)}{m:Str->Option Value},(∀v,(x,v)∉binds)->bindC kindOf binds m x=m x
 | [],_,_=>rfl
 | (n,v)::r,m,h=>by
   unfold bindC
   rw [O7 fun w d=>h w (mem_cons_of_mem _ d)]
   split
   . rfl
   . have:x≠n:=by rintro rfl;exact h v mem_cons_self
     simp [this]
theorem O8 {kindOf:Str->Option NameKind}{x:Str}{v:Value}:∀ {P:List Str}{d:List Value}{i:Nat}{m:Str->Option Value},P.Nodup->P[i]? =some x->d[i]? =some v->kindOf x=some .local ->
 bindL kindOf (P.zip d) m x=some v
 | [],_,_,_,_,h,_,_=>by simp at h
 | _::_,[],_,_,_,_,h,_=>by simp at h
 | p::P,w::d,0,m,nd,h1,h2,hk=>by
   simp at h1 h2;subst h1;subst h2
   show bindL kindOf ((p,w)::P.zip d) m p=_
   unfold bindL
   rw [O9 fun v y=>(nodup_cons.mp nd).1 (of_mem_zip y).1,if_pos hk]
   simp
 | p::P,w::d,i+1,m,nd,h1,h2,hk=>by
   show bindL kindOf ((p,w)::P.zip d) m x=_
   unfold bindL
   exact O8 (i:=i) (nodup_cons.mp nd).2 (by simpa using h1) (by simpa using h2) hk
theorem O6 {kindOf:Str->Option NameKind}{x:Str}{v:Value}:∀ {P:List Str}{d:List Value}{i:Nat}{m:Str->Option Value},P.Nodup->P[i]? =some x->d[i]? =some v->kindOf x≠some .local ->
 bindC kindOf (P.zip d) m x=some v
 | [],_,_,_,_,h,_,_=>by simp at h
 | _::_,[],_,_,_,_,h,_=>by simp at h
 | p::P,w::d,0,m,nd,h1,h2,hk=>by
   simp at h1 h2;subst h1;subst h2
   show bindC kindOf ((p,w)::P.zip d) m p=_
   unfold bindC
   rw [O7 fun v y=>(nodup_cons.mp nd).1 (of_mem_zip y).1,if_neg hk]
   simp
 | p::P,w::d,i+1,m,nd,h1,h2,hk=>by
   show bindC kindOf ((p,w)::P.zip d) m x=_
   unfold bindC
   exact O6 (i:=i) (nodup_cons.mp nd).2 (by simpa using h1) (by simpa using h2) hk
def start (N:List Str) (vs:List V):St:=vs.map some++replicate (N.length-vs.length) none
def Yz (CX:CXT) (P:Program) (w:World) (K:Frag) (mg:Str->Option Value) (base:Heap) (N:List Str) (qual:Str) (scope:Scope) (f:Addr) (cd:Value) (A:Around) (outer:List Env) (s:Shared) (H:Hp) (E:XK):Cx where
 prog:=P
 w:=w
 K:=K
 mg:=mg
 base:=base
 A:=A.deeper (envOfC qual scope s.heap.objs.size f cd)
 N:=N
 s₀:=s
 H₀:=H
 env:=envOfC qual scope s.heap.objs.size f cd
 outer:=outer
 stack:=envOfC qual scope s.heap.objs.size f cd::outer
 ex:=[]
 calm:=true
 fn:=fun _=>true
 pn:=[]
 xe:=fun e s'=>wpAny (model P w) (A.deeper (envOfC qual scope s.heap.objs.size f cd)) (leaving (envOfC qual scope s.heap.objs.size f cd) e) (fun _ s''=>CX outer H s E e s'') (fun e' s''=>CX outer H s E e' s'') s'
theorem R5 {sc:Scope}{n:Nat}{x:Str} (h:sc.names.lookup x=some .cell):∃c,(cellsFrom n sc.names []).lookup x=some c:=by
 have q:=cellsFrom_some sc.names n [] (.inl h)
 exact Option.isSome_iff_exists.mp q
theorem Vo {CX:CXT}{P:Program}{w:World}{K:Frag}{mg:Str->Option Value}{base:Heap}{N ps:List Str}{qual:Str}{scope:Scope}{f:Addr}{cd:Value}{A:Around}{outer:List Env}{s U:Shared}{H:Hp}{E:XK}{O:List Value}{F:List V}
 (S:Bc N ps scope) (hd:A.handled=none) (d:Z0 P w K mg base A outer s H) (hl:F.length=ps.length) (r:Vals F O)
 (x:InCallC s s.heap.objs.size (bindL (envOfC qual scope s.heap.objs.size f cd).kindOf (ps.zip O) fun _=>none) (cellsFrom (s.heap.objs.size+1) scope.names []) (bindC (envOfC qual scope s.heap.objs.size f cd).kindOf (ps.zip O) fun _=>none) U):
 Inv (Yz CX P w K mg base N qual scope f cd A outer s H E) [] (start N F) H U:=by
 have a0:ps.length<=N.length:=by have:=congrArg List.length S.pre;rw [length_take]at this;omega
 obtain⟨h1,tk,rfl,Y⟩:=x.done
 have G:∀b:Addr,b∉(Yz CX P w K mg base N qual scope f cd A outer s H E).ex:=fun b z=>absurd (show b∈([]:List Addr)from z) (by simp)
 refine⟨⟨d.mod,S.kind,rfl,rfl,le_refl _,fun y z c h1 h2=> ?_,fun y I=> ?_,fun y c _ h=> ?_,fun _=>hd,Around.frames_deeper d.frames,.inr ⟨rfl,rfl⟩,fun b z=>absurd z (G b),d.bs,d.bsz,fun b _ _=>G b,fun b z=>absurd z (G b),d.funs,d.frf⟩,
  rfl,d.bare,Un.kept Y,⟨_,x.toInCall.ns,fun i y v h1 h2 h3=> ?_⟩,fun y c h=>⟨_,x.cell y c h⟩,d.hok.fresh (le_refl _),fun y c h=> ?_,fun p L=>absurd (show p∈([]:List (Addr × Obj))from L) (by simp),d.hok.kept Y,?_⟩
 . exact name_of_addr x.apart (PySem.mem_of_lookup h1) (PySem.mem_of_lookup h2)
 . have I:scope.names.lookup y=some .cell\/scope.names.lookup y=some .free:=I
   rcases I with I | I
   . exact R5 I
   . exact absurd rfl (S.nofree _ (PySem.mem_of_lookup I))
 . exact le_of_lt (x.above y c (PySem.mem_of_lookup h))
 . have hi:i<F.length:=by
    unfold start at h2
    by_cases hi:i<F.length
    . exact hi
    . rw [getElem?_append_right (by simpa using hi)]at h2
      rw [getElem?_replicate]at h2
      split at h2<;>cases h2
   have ha:F[i]? =some v:=by
    unfold start at h2
    rw [getElem?_append_left (by simpa using hi),getElem?_map]at h2
    cases e:F[i]? with
    | none=>rw [e]at h2;cases h2
    | some a=>rw [e]at h2;cases h2;rfl
   obtain⟨u,Z,rv⟩:=r.get ha
   have L:ps[i]? =some y:=by
    rw [<-S.pre,List.getElem?_take_of_lt (by omega)];exact h1
   have M:ps.Nodup:=by rw [<-S.pre];exact S.nd.sublist (List.take_sublist _ _)
   refine⟨u,rv,?_⟩
   rcases S.par y (List.mem_of_getElem? L)with k | k
   . exact .inl ⟨k,O8 M L Z k⟩
   . obtain⟨c,e⟩:=R5 (n:=s.heap.objs.size+1) k
     refine .inr ⟨.inl k,c,e,?_⟩
     have q:=x.cell y c e
     rw [O6 M L Z (by show scope.names.lookup y≠_;rw [k];decide)]at q
     exact q
 . exact d.hok.fresh (le_of_lt (x.above y c (PySem.mem_of_lookup h)))
 . unfold start
   show _=N.length
   rw [length_append,length_map,length_replicate]
   omega
theorem Afi {CX:CXT}{P:Program}{w:World}{K:Frag}{mg:Str->Option Value}{base:Heap}{k:Nat}{f:Addr}{name qual:Str}{params:Arguments}{F:List Stmt}{scope:Scope}{dV kV Y pm d ct oc:Value}{an od:Option Addr}
 {a2:Array (Option Value)}{N ps:List Str}{sp:Sp} (lk:K.lookup f=some ⟨oc,od,.func (PySem.W.fnOf name qual params F scope dV kV Y pm an d ct),a2⟩) (a3:PySem.W.codeIn K d qual=true) (S:Bc N ps scope)
 (len:∀G H Q E,sp G H Q E->G.length=ps.length)
 (M:∀(A:Around) (outer:List Env) (s:Shared) (H:Hp) (G:List V) (Q:VK) (E:XK),J4 k (A.deeper (envOfC qual scope s.heap.objs.size f d))->sp G H Q E->
   ∃t,PSs (Yz CX P w K mg base N qual scope f d A outer s H E) F t/\t { nx:=fun _ H'=>Q .non H',rt:=Q} (start N G) H):
 Nx P w K mg base CX (k+1) f (PySem.W.fnOf name qual params F scope dV kV Y pm an d ct) ps sp:=by
 refine⟨len,fun A outer s H args us G Q E hr Z hb r a0=> ?_⟩
 have hl:=len _ _ _ _ a0
 have KX:K.In s.heap:=Z.mod.kin.keeps fun b o e=>(Z.bs b o e).1
 have a4:s.heap.NoLimit:=Z.mod.nolimit.keeps fun b o e=>(Z.bs b o e).1
 have O:∀y∈ps.zip us,scope.names.lookup y.1=some .local \/(scope.names.lookup y.1=some .cell/\((cellsFrom (s.heap.objs.size+1) scope.names []).lookup y.1).isSome=true):=fun⟨n,v⟩ hy=>by
  rcases S.par n (of_mem_zip hy).1 with q | q
  . exact .inl q
  . exact .inr ⟨q,cellsFrom_some _ _ _ (.inl q)⟩
 refine codeAny_call_function hr.depth (KX _ _ lk) rfl S.co S.gen rfl (PySem.W.codeRec_of KX a3) (hb _ _ _ _ ?_)
 refine wpAny_newFunctionEnv_cells S.kind O fun env he s1 x=> ?_
 subst he
 refine⟨a4.keeps x.toInCall.keep,codeAny_func ?_⟩
 obtain⟨t,ht,hq⟩:=M A outer s H G Q E (hr.deeper _) a0
 have I:Inv (Yz CX P w K mg base N qual scope f d A outer s H E) [] (start N G) H s1:=Vo S hr.hd Z hl r x
 refine wpAny_mono (ht [] s1 (start N G) H _ I hq) (fun fl s' U=> ?_) fun e s' U=>U
 have a1:∀ {L:St}{H':Hp}{v:V}{u:Value},Inv (Yz CX P w K mg base N qual scope f d A outer s H E) [] L H' s'->RelV v u->Q v H'->CE outer P w H s Q u s':=
  fun {L H' v u} J rv q=>⟨v,H',J.os,J.bare,J.base,J.hok,rv,q⟩
 cases fl with
 | ret u=>
   obtain⟨v,L,H',J,rv,q⟩:=U
   exact a1 J rv q
 | next=>
   obtain⟨L,H',J,q⟩:=U
   exact a1 (v:=V.non) (u:=Value.none) J rfl q
 | brk=>
   obtain⟨_,_,_,q⟩:=U
   exact False.elim q
 | cont=>
   obtain⟨_,_,_,q⟩:=U
   exact False.elim q
end L2
namespace L2
open PySem PySem.Spec PyProof.Rows
section
variable {X:Cx}{x:Str}{p pos:Pos}{e:Expr}{es:List Expr}{t:TA}{id T:String}{r:List V->Hp->VK->Prop}
def tCB (r:List V->Hp->VK->Prop) (t:TA):TE:=fun σ H Q=>t σ H fun vs H1=>r vs H1 Q
theorem X8 (F:Gx X (.builtin id) r) (G:Gl X x) (L:X.mg x=none) (M:bootBuiltins x=some (.builtin id)) (O:PA X (e::es) t) (U:x≠"__name__":=by decide) (d:(x==("__debug__":Str))=false:=by decide)
 (W:starEach (e::es) X.env=(false,eval e X.env)::starEach es X.env:=by rfl) (y:(backTo pos (starEach es X.env)).any (·.1)=false:=by rfl):PE X (.Call (.Name x p) (e::es) [] pos) (tCB r t):=by
 intro pins s σ H Q I h
 refine wpAny_Call_Name_kw (Ma I G L M ?_ U d)
 exact PyProof.Rows.callWith_builtin1 (thn (O pos pins s σ H _ I h) fun Y Z ⟨vs,H1,I1,r1,q1⟩=>F pins Z σ H1 vs Y Q I1 r1 q1) W y
theorem Wn (F:Gx X (.type T) r) (G:Gl X x) (L:X.mg x=none) (M:bootBuiltins x=some (.type T)) (O:PA X (e::es) t) (U:x≠"__name__":=by decide) (d:(x==("__debug__":Str))=false:=by decide)
 (W:starEach (e::es) X.env=(false,eval e X.env)::starEach es X.env:=by rfl) (y:(backTo pos (starEach es X.env)).any (·.1)=false:=by rfl):PE X (.Call (.Name x p) (e::es) [] pos) (tCB r t):=by
 intro pins s σ H Q I h
 refine wpAny_Call_Name_kw (Ma I G L M ?_ U d)
 exact PyProof.Rows.callWith_type1 (thn (O pos pins s σ H _ I h) fun Y Z ⟨vs,H1,I1,r1,q1⟩=>F pins Z σ H1 vs Y Q I1 r1 q1) W y
end
end L2
namespace HT
open PySem PyProof.Rows
section
variable {prog:Program}{w:World}{A:Around}{E:Value->Shared->Prop}{s:Shared}
def sIx (n d:Nat):Option Int->Nat
 | none=>d
 | some v=>if v<0 then(v+(n:Int)).toNat else min v.toNat n
theorem Te (n d:Nat):sIx n d none=d:=rfl
theorem Kc (n d k:Nat):sIx n d (some (k:Int))=min k n:=by
 show(if(k:Int)<0 then((k:Int)+(n:Int)).toNat else min (k:Int).toNat n)=min k n
 rw [if_neg (by omega),toNat_natCast]
theorem Adn (n d:Nat) (F:d<=n) (o:Option Int):sIx n d o<=n:=by
 cases o with
 | none=>exact F
 | some v=>
   show(if v<0 then(v+(n:Int)).toNat else min v.toNat n)<=n
   by_cases y:v<0
   . rw [if_pos y];omega
   . rw [if_neg y];exact Nat.min_le_right _ _
theorem Vd (v:Int) (n d:Nat):(if v<0 then max (v+(n:Int)) 0 else min v (n:Int))=((sIx n d (some v):Nat):Int):=by
 show(if v<0 then max (v+(n:Int)) 0 else min v (n:Int))=(((if v<0 then(v+(n:Int)).toNat else min v.toNat n):Nat):Int)
 by_cases y:v<0
 . simp only [if_pos y];omega
 . simp only [if_neg y];omega
theorem T4 (lo hi:Option Int) (n:Nat):Builtin.Slice.sliceAdjust lo hi 1 (n:Int)=(((sIx n 0 lo:Nat):Int),((sIx n n hi:Nat):Int)):=by
 have h1:¬((1:Int)<0):=by omega
 unfold Builtin.Slice.sliceAdjust
 simp only [h1,if_false]
 refine Prod.ext ?_ ?_
 . cases lo with
   | none=>rfl
   | some v=>exact Vd v n 0
 . cases hi with
   | none=>rfl
   | some v=>exact Vd v n n
theorem Uu (i j:Nat):Builtin.Slice.slicePlaces (i:Int) (j:Int) 1=j-i:=by
 unfold Builtin.Slice.slicePlaces
 have h1:(1:Int)>0:=by omega
 simp only [h1,if_true,Int.ediv_one]
 split<;>omega
theorem Nr {v:Value}{o:Option Int}{Q:Option Int->Shared->Prop} (p:IsPart v o) (h:Q o s):wpAny (model prog w) A (Builtin.Slice.slicePartIndex v) Q E s:=by
 cases p with
 | none=>exact slicePart_none h
 | int i t=>exact slicePart_int h
theorem Hi {I:Addr}{F G:Value}{lo hi:Option Int}{n:Nat}{Q:Int × Int × Nat->Shared->Prop} (L:s.heap.IsSliceOf I F G .none) (M:IsPart F lo) (O:IsPart G hi)
 (h:Q (((sIx n 0 lo:Nat):Int),1,sIx n n hi-sIx n 0 lo) s):wpAny (model prog w) A (Builtin.Slice.sliceApplied (.ref I) (pure (n:Int))) Q E s:=by
 obtain⟨W,d,U,y⟩:=id L
 unfold Builtin.Slice.sliceApplied Builtin.Slice.sliceFields
 refine wpAny_bind (wpAny_bind (wpAny_field d y (x:=F) rfl (wpAny_bind (wpAny_field d y (x:=G) rfl (wpAny_bind (wpAny_field d y (x:= .none) rfl (wpAny_pure ?_)))))))
 refine wpAny_bind (slicePart_none ?_)
 show wpAny _ _ (if((1:Int)==0)=true then _ else _) _ _ s
 rw [if_neg (by decide)]
 refine wpAny_bind (Nr M (wpAny_bind (Nr O (wpAny_bind (wpAny_pure ?_)))))
 show wpAny _ _ (match Builtin.Slice.sliceAdjust lo hi 1 (n:Int)with | (lo,hi)=>pure (lo,(1:Int),Builtin.Slice.slicePlaces lo hi 1)) _ _ s
 rw [T4 lo hi n]
 show wpAny _ _ (pure (((sIx n 0 lo:Nat):Int),(1:Int),Builtin.Slice.slicePlaces ((sIx n 0 lo:Nat):Int) ((sIx n n hi:Nat):Int) 1)) _ _ s
 rw [Uu]
 exact wpAny_pure h
theorem Yh (xs:Array Value) (i k:Nat):((List.range k).filterMap fun(m:Nat)=>xs[((i:Int)+(m:Int)*1).toNat]?).toArray=((xs.toList.drop i).take k).toArray:=by
 have e:(fun(m:Nat)=>xs[((i:Int)+(m:Int)*1).toNat]?)=fun m=>xs[i+m]? :=by
  funext m
  have:((i:Int)+(m:Int)*1).toNat=i+m:=by omega
  rw [this]
 rw [e]
 have:=pick_run xs i k
 rw [List.filterMap_map]at this
 have d:((fun x=>xs[x]?) ∘ fun x=>i+x)=fun m=>xs[i+m]? :=rfl
 rw [d]at this
 rw [this]
theorem J8 {t F:Addr}{items:Array Value}{O U:Value}{lo hi:Option Int}{Q:Value->Shared->Prop} (y:IsTup s.heap t items) (W:s.heap.IsSliceOf F O U .none) (Y:IsPart O lo) (Z:IsPart U hi)
 (hw:¬(sIx items.size 0 lo=0/\sIx items.size items.size hi=items.size))
 (h:Q (.ref s.heap.objs.size) { s with heap:=s.heap.push { cls:= .type "tuple",data:= .seq ((items.toList.drop (sIx items.size 0 lo)).take (sIx items.size items.size hi-sIx items.size 0 lo)).toArray}})
 (a0:items.size<=sizeLine):wpAny (model prog w) A (getItem (.ref t) (.ref F)) Q E s:=by
 have d:sizeOk (.seq ((items.toList.drop (sIx items.size 0 lo)).take (sIx items.size items.size hi-sIx items.size 0 lo)).toArray):=by
  show((items.toList.drop (sIx items.size 0 lo)).take (sIx items.size items.size hi-sIx items.size 0 lo)).toArray.size<=sizeLine
  rw [size_toArray,length_take,length_drop,Array.length_toList]
  omega
 have hj:sIx items.size items.size hi<=items.size:=Adn _ _ (le_refl _) hi
 obtain⟨os,G,I,a1⟩:=id W
 have L:s.TypeIs (.ref F) "slice":=⟨os,G,I⟩
 unfold getItem
 try with_reducible refine wpAny_holding ?_
 first | refine wpAny_bind (wpAny_pure ?_) | skip
 refine wpAny_bind (wpAny_sequenceKey y.typeIs (by decide) ?_)
 refine wpAny_bind (wpAny_callSpecial?_slot (name:=Str.ofString "__getitem__") y.typeIs PyProof.Rows.slot_tuple_getitem
  (wpAny_call_entry PyProof.Rows.slot_tuple_getitem y.typeIs entry_tuple_getitem ?_ (args_tuple_getitem _ _)))
 show wpAny _ _ (Builtin.Tuple.tupleItemsOf (.ref t)>>=_) _ _ s
 refine wpAny_bind (tupleItemsOf_ y ?_)
 refine wpAny_bind (wpAny_typeOf L ?_)
 rw [if_pos (by decide)]
 refine wpAny_bind (Hi W Y Z ?_)
 have M:¬((((sIx items.size 0 lo:Nat):Int)==0&&(1:Int)==1&&(sIx items.size items.size hi-sIx items.size 0 lo)==items.size)=true):=by
  intro q
  rw [and_eq_true,and_eq_true]at q
  have q1:((sIx items.size 0 lo:Nat):Int)=0:=eq_of_beq q.1.1
  have q2:sIx items.size items.size hi-sIx items.size 0 lo=items.size:=eq_of_beq q.2
  exact hw ⟨by omega,by omega⟩
 show wpAny _ _ (if(((sIx items.size 0 lo:Nat):Int)==0&&(1:Int)==1&&(sIx items.size items.size hi-sIx items.size 0 lo)==items.size)=true then _ else _) _ _ s
 rw [if_neg M,Yh]
 first
  | exact wpAny_bind (m:=Builtin.Tuple.tupleExact _) (wpAny_newObj_type (wpAny_pure ⟨_,rfl,wpAny_pure h⟩) d)
  | exact wpAny_bind (m:=Builtin.Tuple.tupleExact _) (wpAny_newObj_type (wpAny_bind (wpAny_pure (wpAny_pure ⟨_,rfl,wpAny_pure h⟩))) d)
  | exact wpAny_bind (wpAny_bind (m:=Builtin.Tuple.tupleExact _) (wpAny_newObj_type (wpAny_pure (wpAny_pure ⟨_,rfl,wpAny_pure h⟩)) d))
  | exact wpAny_bind (wpAny_bind (m:=Builtin.Tuple.tupleExact _) (wpAny_newObj_type (wpAny_pure ⟨_,rfl,wpAny_pure h⟩) d))
end
end HT
namespace L2
open PySem PySem.Spec PyProof.Rows
abbrev TO:=St->Hp->(Option Int->Hp->Prop)->Prop
def PO (X:Cx) (e:Option Expr) (t:TO):Prop:=
 ∀(pins:List (Addr × Obj)) (s:Shared) (σ:St) (H:Hp) (Q:Option Int->Hp->Prop),Inv X pins σ H s->t σ H Q->
   wpAny (model X.prog X.w) X.A (evalPart e X.env) (fun u s'=>∃o H',Inv X pins σ H' s'/\IsPart u o/\Q o H') X.xe s
def Rw:TO:=fun _ H Q=>Q none H
def Abh (t:TE):TO:=fun σ H Q=>t σ H fun x H1=>∃i,x= .int i/\Q (some i) H1
theorem intsAre_of {ns:List Int}:∀ {d:List Value},Vals (ns.map V.int) d->IntsAre d ns:=by
 induction ns with
 | nil=>intro d r;rw [map_nil]at r;cases r;exact .nil
 | cons n ns y=>
   intro d r
   rw [map_cons]at r
   cases r with
   | cons F G=>
     obtain⟨t,e⟩:=F
     subst e
     exact .cons n t (y G)
section
variable {X:Cx}{e:Expr}{te:TE}{lo hi:Option Expr}{tl th:TO}{pos p2:Pos}
theorem Aa0:PO X none Rw:=by
 intro pins s σ H Q I h
 rw [evalPart_none]
 exact wpAny_pure ⟨none,H,I,.none,h⟩
theorem Aa1 (h:PE X e te):PO X (some e) (Abh te):=by
 intro pins s σ H Q I d
 rw [evalPart_some]
 refine thn (h pins s σ H _ I d) fun u L ⟨x,H1,y,F,G⟩=> ?_
 obtain⟨i,rfl,q⟩:=G
 obtain⟨t,rfl⟩:=F
 exact⟨some i,H1,y,.int i t,q⟩
def SlR (X:Cx) (r:V->Option Int->Option Int->Hp->VK->Prop):Prop:=
 ∀(pins:List (Addr × Obj)) (s:Shared) (σ:St) (H:Hp) (x:V) (v vl vu:Value) (lo hi:Option Int) (sl:Addr) (Q:VK),Inv X pins σ H s->RelV x v->s.heap.IsSliceOf sl vl vu .none->IsPart vl lo->IsPart vu hi->r x lo hi H Q->
   ∃T id,typeLookup (.type T) "__getitem__"=pure (some (.builtin id))/\s.TypeIs v T/\wpAny (model X.prog X.w) X.A (getItem v (.ref sl)) (EP X pins σ Q) X.xe s
def tSl (r:V->Option Int->Option Int->Hp->VK->Prop) (te:TE) (tl th:TO):TE:=fun σ H Q=>te σ H fun x H1=>tl σ H1 fun l H2=>th σ H2 fun u H3=>r x l u H3 Q
theorem Yd {r:V->Option Int->Option Int->Hp->VK->Prop} (L:SlR X r) (M:PE X e te) (O:PO X lo tl) (U:PO X hi th):PE X (.Subscript e (.Slice lo hi none p2) pos) (tSl r te tl th):=by
 intro pins s σ H Q I h
 refine Subscript_ (thn (M pins s σ H _ I h) fun v W ⟨x,H1,Y,Z,q1⟩=> ?_)
 refine wpAny_Slice (thn (O pins W σ H1 _ Y q1) fun y s2 ⟨l,H2,I2,pl,q2⟩=>thn (U pins s2 σ H2 _ I2 q2) fun F d ⟨u,G,I3,pu,q3⟩=> ?_)
 rw [evalPart_none]
 refine wpAny_pure ?_
 have I4:Inv X pins σ G { d with heap:=d.heap.push { cls:= .type "slice",data:= .fields #[y,F,.none]}}:=I3.kept (t':=d.toks) fun b ob q=>Heap.get?_push_of_some _ q
 obtain⟨T,id,hT,ht,hg⟩:=L pins { d with heap:=d.heap.push { cls:= .type "slice",data:= .fields #[y,F,.none]}} σ G x v y F l u d.heap.objs.size Q I4 Z (Heap.IsSliceOf.new ..) pl pu q3
 show wpAny (model X.prog X.w) X.A (subscriptTail e (.Slice lo hi none p2) v (.ref d.heap.objs.size)) (EP X pins σ Q) X.xe { d with heap:=d.heap.push { cls:= .type "slice",data:= .fields #[y,F,.none]}}
 exact tail_any (ops:=[.ref d.heap.objs.size,v]) ht hT hg (by with_unfolding_all rfl)
def Qs (xs:List V) (lo hi:Option Int):List V:=(xs.drop (HT.sIx xs.length 0 lo)).take (HT.sIx xs.length xs.length hi-HT.sIx xs.length 0 lo)
theorem Lx (xs:List V) (lo hi:Option Int):(Qs xs lo hi).length<=xs.length:=by
 unfold Qs
 rw [length_take,length_drop]
 omega
def Aig (K:Frag):V->Option Int->Option Int->Hp->VK->Prop:=fun x lo hi H Q=>∃a xs,x= .ref a/\SqT K H a xs/\
 ¬(HT.sIx xs.length 0 lo=0/\HT.sIx xs.length xs.length hi=xs.length)/\∀p,H p=none->Q (.ref p) (upd H p (.tup (Qs xs lo hi)))
theorem Adv:SlR X (Aig X.K):=by
 intro pins s σ H x v Z vu lo hi sl Q I L M O U h
 obtain⟨a,xs,rfl,W,Y,q⟩:=h
 cases L
 obtain⟨y,r,F,G⟩:=I.tuple W
 have d:y.toArray.size=xs.length:=by rw [size_toArray];exact r.length.symm
 refine⟨"tuple",_,PyProof.Rows.slot_tuple_getitem.lookup,F.typeIs,?_⟩
 refine HT.J8 F M O U (by rw [d];exact Y) ?_ (by rw [d];exact G)
 rw [d]
 refine⟨.ref s.heap.objs.size,_,I.laid (t':=s.toks) (o:= .tup (Qs xs lo hi)) (fun b ob q=>Heap.get?_push_of_some _ q) (le_refl _) ?_,rfl,q _ (I.hok.fresh (le_refl _))⟩
 exact⟨le_trans (Lx xs lo hi) G,_,(r.drop (HT.sIx xs.length 0 lo)).take (HT.sIx xs.length xs.length hi-HT.sIx xs.length 0 lo),IsTup.new _ _⟩
end
end L2
namespace L2
open PySem PySem.Spec PyProof.Rows
def ixN (n:Nat) (i:Int):Option Nat:=if 0<=i then(if i<n then some i.toNat else none)else if-(n:Int)<=i then some (i+n).toNat else none
def atI {α:Type} (xs:List α) (i:Int):Option α:=(ixN xs.length i).bind fun j=>xs[j]?
theorem Vt {n:Nat}{i:Int}{j:Nat} (h:ixN n i=some j):seqIndex? i n=some j/\j<n/\ -(n:Int)<=i/\i<n:=by
 unfold ixN at h
 by_cases d:0<=i
 . rw [if_pos d]at h
   by_cases h1:i<n
   . rw [if_pos h1]at h
     have e:i.toNat=j:=Option.some.inj h
     exact⟨by rw [seqIndex_of d h1,e],by omega,by omega,h1⟩
   . rw [if_neg h1]at h;cases h
 . rw [if_neg d]at h
   by_cases h1: -(n:Int)<=i
   . rw [if_pos h1]at h
     have e:(i+n).toNat=j:=Option.some.inj h
     exact⟨by rw [seqIndex_neg (by omega) h1,e],by omega,h1,by omega⟩
   . rw [if_neg h1]at h;cases h
theorem Qw {α:Type}{xs:List α}{i:Int}{v:α} (h:atI xs i=some v):∃j,seqIndex? i xs.length=some j/\xs[j]? =some v/\j<xs.length/\ -(xs.length:Int)<=i/\i<xs.length:=by
 unfold atI at h
 cases e:ixN xs.length i with
 | none=>rw [e]at h;cases h
 | some j=>
   rw [e]at h
   obtain⟨h1,h2,d,y⟩:=Vt e
   exact⟨j,h1,h,h2,d,y⟩
theorem Dl {α:Type}{xs:List α}{j:Nat}{v:α} (h:xs[j]? =some v):atI xs (j:Int)=some v:=by
 have d:j<xs.length:=(List.getElem?_eq_some_iff.mp h).1
 have e:ixN xs.length (j:Int)=some j:=by
  unfold ixN
  rw [if_pos (by omega),if_pos (by omega)];simp
 unfold atI;rw [e];exact h
theorem R4 {α:Type} (xs:List α) (v:α):atI (xs++ [v]) (-1)=some v:=by
 have d:(xs++ [v]).length=xs.length+1:=by simp
 have e:ixN (xs++ [v]).length (-1)=some xs.length:=by
  unfold ixN
  rw [d,if_neg (by decide),if_pos (by omega)]
  congr 1
  omega
 unfold atI
 rw [e]
 show(xs++ [v])[xs.length]? =some v
 simp
def U7 (b:Expr):Prop:=∀o i,subscripted b false o i=operate [o,i] (getItem o i)
def IxR (X:Cx) (r:R2):Prop:=
 ∀(value slice:Expr) (pins:List (Addr × Obj)) (s:Shared) (σ:St) (H:Hp) (x y:V) (v u:Value) (Q:VK),Inv X pins σ H s->RelV x v->RelV y u->r x y H Q->
   subscripted slice false v u=operate [v,u] (getItem v u)->wpAny (model X.prog X.w) X.A (subscriptTail value slice v u) (EP X pins σ Q) X.xe s
def MtR (X:Cx) (id:String) (r:V->List V->Hp->VK->Prop):Prop:=
 ∀(pins:List (Addr × Obj)) (s:Shared) (σ:St) (H:Hp) (x:V) (xs:List V) (v:Value) (us:List Value) (Q:VK),Inv X pins σ H s->RelV x v->Vals xs us->r x xs H Q->
   wpAny (model X.prog X.w) X.A (call (.builtin id) (v::us)) (EP X pins σ Q) X.xe s
section
variable {X:Cx}{a b:Expr}{ta tb:TE}{pos:Pos}
theorem Aft {r:R2} (d:IxR X r) (F:PE X a ta) (G:PE X b tb) (L:U7 b):PE X (.Subscript a b pos) (tOp r ta tb):=by
 intro pins s σ H Q I h
 exact Subscript_ (Afc F G I h fun v u M x y H2 O U W q=>d a b pins M σ H2 x y v u Q O U W q (L _ _))
def Abw (K:Frag):R2:=fun x y H Q=>∃p xs i v,x= .ref p/\y= .int i/\SqL K H p xs/\atI xs i=some v/\Q v H
def Af3 (K:Frag):R2:=fun x y H Q=>∃p xs i v,x= .ref p/\y= .int i/\SqT K H p xs/\atI xs i=some v/\Q v H
def Ahy:R2:=fun x y H Q=>∃z i c,x= .str z/\y= .int i/\z.length<=sizeLine/\atI z.cps.toList i=some c/\Q (.str ⟨#[c]⟩) H
theorem Dd:IxR X (Abw X.K):=by
 intro value slice pins s σ H x y v u Q I Y Z h O
 obtain⟨p,xs,i,z,rfl,rfl,hq,he,q⟩:=h
 cases Y
 obtain⟨t,rfl⟩:=Z
 obtain⟨F,r,G,hz⟩:=I.list hq
 obtain⟨j,h1,h2,h3,h4,h5⟩:=Qw he
 obtain⟨w,U,L⟩:=r.get h2
 have hl:=r.length
 have hn:=Nm
 have d:EP X pins σ Q w s:=⟨z,H,I,L,q⟩
 by_cases W:0<=i
 . have M:i.toNat=j:=by
    rw [seqIndex_of W h5]at h1
    exact Option.some.inj h1
   exact item_listR G.isList W (by omega) (by rw [M];simpa using U) d O
 . have M:(i+(F.toArray.size:Int)).toNat=j:=by
    rw [seqIndex_neg (by omega) h4]at h1
    rw [size_toArray,<-hl]
    exact Option.some.inj h1
   exact subscriptTail_builtinR (x:=w) G.isList.typeIs slot_list_getitem.lookup
    (wpAny_getItem_list_neg (Q:=fun r s'=>r=w/\EP X pins σ Q r s') G.isList (by omega) (by rw [size_toArray]<;>omega) (by omega) (by rw [M];simpa using U) ⟨rfl,d⟩) O
theorem Hv:IxR X (Af3 X.K):=by
 intro value slice pins s σ H x y v u Q I L M h O
 obtain⟨p,xs,i,z,rfl,rfl,U,W,q⟩:=h
 cases L
 obtain⟨t,rfl⟩:=M
 obtain⟨Y,r,G,hz⟩:=I.tuple U
 obtain⟨j,h1,h2,h3,h4,h5⟩:=Qw W
 obtain⟨w,Z,d⟩:=r.get h2
 have hl:=r.length
 have hn:=Nm
 have F:EP X pins σ Q w s:=⟨z,H,I,d,q⟩
 exact subscriptTail_builtinR (x:=w) G.typeIs slot_tuple_getitem.lookup
  (getItem_tuple (j:=j) (Q:=fun r s'=>r=w/\EP X pins σ Q r s') G (by omega) (by omega) (by rw [size_toArray,<-hl];exact h1) (by simpa using Z) ⟨rfl,F⟩) O
theorem Y9:IxR X Ahy:=by
 intro value slice pins s σ H x y v u Q I d F h G
 obtain⟨z,i,c,rfl,rfl,Z,L,q⟩:=h
 obtain⟨t,rfl⟩:=d
 obtain⟨t',rfl⟩:=F
 obtain⟨j,h1,h2,h3,M,O⟩:=Qw L
 have U:z.cps.toList.length=z.length:=by simp [Str.length]
 rw [U]at h1 M O
 have hn:=Nm
 exact tail_any (typeIs_str s z t) slot_str_getitem.lookup (getItem_str (c:=c) (by
  have W:decide (i< -(2^63:Int))=false:=decide_eq_false (by omega)
  have Y:decide (i>=2^63)=false:=decide_eq_false (by omega)
  rw [W,Y,Bool.or_false]) (by rw [h1];simpa using h2) ⟨.str ⟨#[c]⟩,H,I.tok _,⟨_,rfl⟩,q⟩) G
theorem Ub (its:List Value) (n j:Nat) (u:Value):Obj.mapSeq (·.setIfInBounds j u) { cls:= .type "list",data:= .seq its.toArray n}={ cls:= .type "list",data:= .seq (its.set j u).toArray n}:=by
 simp [Obj.mapSeq]
theorem Inv.lst {pins:List (Addr × Obj)}{σ:St}{H:Hp}{s:Shared}{p:Addr}{xs:List V} (I:Inv X pins σ H s) (h:H p=some (.lst xs)):
 ∃(its:List Value) (n:Nat),Vals xs its/\s.heap.get? p=some { cls:= .type "list",data:= .seq its.toArray n}/\xs.length<=sizeLine:=by
 obtain⟨z,its,n,r,e⟩:=I.hok p _ h
 exact⟨its,n,r,e,z⟩
theorem Inv.lstUpd {pins:List (Addr × Obj)}{σ:St}{H:Hp}{s:Shared}{p:Addr}{xs ys:List V}{its its':List Value}{n d:Nat}{f:Obj->Obj} (I:Inv X pins σ H s) (h:H p=some (.lst xs))
 (F:s.heap.get? p=some { cls:= .type "list",data:= .seq its.toArray n}) (y:f { cls:= .type "list",data:= .seq its.toArray n}={ cls:= .type "list",data:= .seq its'.toArray d}) (r:Vals ys its') (G:ys.length<=sizeLine) (t:Nat):
 Inv X pins σ (upd H p (.lst ys)) { s with heap:=s.heap.update p f,toks:=t}:=by
 have e:(s.heap.update p f).get? p=some { cls:= .type "list",data:= .seq its'.toArray d}:=by
  rw [Heap.get?_update_self f F (by rw [y]<;>rfl),y]
 refine I.write (x:=p) (e:=p) (by rw [h];trivial) (.inl rfl) (fun b u L q=>(Heap.get?_update_other _ _ (Ne.symm L)).trans q) ⟨_,e⟩ ?_
 exact⟨G,its',d,r,e⟩
def Aa9:V->V->V->Hp->(Hp->Prop)->Prop:=fun o i v H Q=>∃p xs k j,o= .ref p/\i= .int k/\H p=some (.lst xs)/\ixN xs.length k=some j/\Q (upd H p (.lst (xs.set j v)))
theorem set_list:Ae8 X Aa9:=by
 intro pins s σ H o i v ov iv u Q I Z ri rv h
 obtain⟨p,xs,k,j,rfl,rfl,L,hj,q⟩:=h
 cases Z
 obtain⟨t,rfl⟩:=ri
 obtain⟨d,n,r,y,hz⟩:=I.lst L
 obtain⟨h1,h2,M,O⟩:=Vt hj
 have F:=r.length
 have hn:=Nm
 have U:Inv X pins σ (upd H p (.lst (xs.set j v))) { s with heap:=s.heap.update p (Obj.mapSeq (·.setIfInBounds j u))}:=
  I.lstUpd L y (Ub d n j u) (r.set rv j) (by rw [length_set];exact hz) s.toks
 by_cases Y:0<=k
 . have G:k.toNat=j:=by
    rw [seqIndex_of Y O]at h1
    exact Option.some.inj h1
   exact PySem.W.ki_setAt y Y (by omega) (by rw [size_toArray,<-F];exact O) (by rw [G];exact⟨_,U,q⟩)
 . have G:(k+(d.toArray.size:Int)).toNat=j:=by
    rw [seqIndex_neg (by omega) M]at h1
    rw [size_toArray,<-F]
    exact Option.some.inj h1
   exact PySem.W.ki_setBack y (by omega) (by rw [size_toArray,<-F];exact M) (by omega) (by rw [G];exact⟨_,U,q⟩)
theorem Qh (lo hi:Option Int) (n:Nat):(sliceBounds lo hi none n).1=((HT.sIx n 0 lo:Nat):Int)/\(sliceBounds lo hi none n).2.1=((HT.sIx n n hi:Nat):Int)/\(sliceBounds lo hi none n).2.2=1:=by
 refine⟨?_,?_,rfl⟩
 . cases lo with
   | none=>simp [sliceBounds,HT.sIx]
   | some i=>
     simp only [sliceBounds,HT.sIx,getD_none,show(1:Int)>0 by decide,if_true]
     by_cases h:i<0
     . simp only [h,if_true]<;>omega
     . simp only [h,if_false]<;>omega
 . cases hi with
   | none=>simp [sliceBounds,HT.sIx]
   | some i=>
     simp only [sliceBounds,HT.sIx,getD_none,show(1:Int)>0 by decide,if_true]
     by_cases h:i<0
     . simp only [h,if_true]<;>omega
     . simp only [h,if_false]<;>omega
theorem Ot (its:List Value) (lo hi:Option Int):slicePick its.toArray lo hi none=((its.drop (HT.sIx its.length 0 lo)).take (HT.sIx its.length its.length hi-HT.sIx its.length 0 lo)).toArray:=by
 obtain⟨h1,h2,d⟩:=Qh lo hi its.toArray.size
 unfold slicePick
 rw [h1,h2,d]
 simp only [sliceRange_one,pick_run,size_toArray]<;>rfl
def Ahz (K:Frag):V->Option Int->Option Int->Hp->VK->Prop:=fun x lo hi H Q=>∃a xs,x= .ref a/\SqL K H a xs/\∀p,H p=none->Q (.ref p) (upd H p (.lst (Qs xs lo hi)))
theorem Wz:SlR X (Ahz X.K):=by
 intro pins s σ H x v Y Z lo hi sl Q I F G L M h
 obtain⟨a,xs,rfl,O,q⟩:=h
 cases F
 obtain⟨U,r,y,W⟩:=I.list O
 have d:=r.length
 refine⟨"list",_,slot_list_getitem.lookup,y.isList.typeIs,?_⟩
 refine wpAny_getItem_list_slice y.isList G L M .none (by simp) ?_ (by rw [size_toArray]<;>omega)
 rw [Ot,<-d]
 refine⟨.ref s.heap.objs.size,_,I.laid (t':=s.toks) (o:= .lst (Qs xs lo hi)) (fun b ob q=>Heap.get?_push_of_some _ q) (le_refl _) ?_,rfl,q _ (I.hok.fresh (le_refl _))⟩
 exact⟨le_trans (Lx xs lo hi) W,_,0,(r.drop (HT.sIx xs.length 0 lo)).take (HT.sIx xs.length xs.length hi-HT.sIx xs.length 0 lo),Heap.get?_push_size _ rfl⟩
def Pb:V->Bool
 | .non=>true
 | .bl _=>true
 | .int _=>true
 | .str _=>true
 | _=>false
def eqV:V->V->Bool
 | .non,.non=>true
 | .bl a,.bl b=>a==b
 | .bl a,.int b=>(if a then 1 else 0)==b
 | .int a,.bl b=>a==(if b then 1 else 0)
 | .int a,.int b=>a==b
 | .str a,.str b=>a==b
 | _,_=>false
theorem Ab9 {A:Around}{s:Shared}{y x:V}{u v:Value} (G:RelV y u) (d:RelV x v) (I:Pb y=true) (fx:Pb x=true):SeqAt.EqAt A s u v (eqV y x):=by
 cases y with
 | non=>
   cases G
   cases x with
   | non=>cases d;exact SeqAt.EqAt.same _
   | bl b=>cases d;exact SeqAt.EqAt.none_bool b
   | int b=>obtain⟨t,rfl⟩:=d;exact SeqAt.EqAt.none_int b t
   | str b=>obtain⟨t,rfl⟩:=d;exact SeqAt.EqAt.none_str b t
   | _=>exact absurd (show false=true from fx) Bool.false_ne_true
 | bl a=>
   cases G
   cases x with
   | non=>cases d;exact SeqAt.EqAt.bool_none a
   | bl b=>cases d;exact SeqAt.EqAt.bool_bool a b
   | int b=>obtain⟨t,rfl⟩:=d;exact SeqAt.EqAt.bool_int a b t
   | str b=>obtain⟨t,rfl⟩:=d;exact SeqAt.EqAt.bool_str a b t
   | _=>exact absurd (show false=true from fx) Bool.false_ne_true
 | int a=>
   obtain⟨F,rfl⟩:=G
   cases x with
   | non=>cases d;exact SeqAt.EqAt.int_none a F
   | bl b=>cases d;exact SeqAt.EqAt.int_bool a F b
   | int b=>obtain⟨t,rfl⟩:=d;exact SeqAt.EqAt.int_int a F b t
   | str b=>obtain⟨t,rfl⟩:=d;exact SeqAt.EqAt.int_str a F b t
   | _=>exact absurd (show false=true from fx) Bool.false_ne_true
 | str a=>
   obtain⟨F,rfl⟩:=G
   cases x with
   | non=>cases d;exact SeqAt.EqAt.str_none a F
   | bl b=>cases d;exact SeqAt.EqAt.str_bool a F b
   | int b=>obtain⟨t,rfl⟩:=d;exact SeqAt.EqAt.str_int a F b t
   | str b=>obtain⟨t,rfl⟩:=d;exact SeqAt.EqAt.str_str a F b t
   | _=>exact absurd (show false=true from fx) Bool.false_ne_true
 | _=>exact absurd (show false=true from I) Bool.false_ne_true
def eqU (x:V) (u:Value):Bool:=match u with
 | .none=>eqV .non x
 | .bool b=>eqV (.bl b) x
 | .int i _=>eqV (.int i) x
 | .str z _=>eqV (.str z) x
 | _=>false
theorem Y6 {x y:V}{u:Value} (r:RelV y u) (f:Pb y=true):eqU x u=eqV y x:=by
 cases y with
 | non=>cases r;rfl
 | bl b=>cases r;rfl
 | int i=>obtain⟨t,rfl⟩:=r;rfl
 | str z=>obtain⟨t,rfl⟩:=r;rfl
 | _=>exact absurd (show false=true from f) Bool.false_ne_true
theorem Qv {x:V}:∀ {xs:List V}{d:List Value},Vals xs d->xs.all Pb=true->d.any (eqU x)=xs.any fun y=>eqV y x
 | _,_,.nil,_=>rfl
 | y::xs,u::d,.cons r t,f=>by
   rw [all_cons,and_eq_true]at f
   rw [any_cons,any_cons,Y6 r f.1,Qv t f.2]
theorem Oc {A:Around}{s:Shared}{x:V}{v:Value} (G:RelV x v) (fx:Pb x=true):∀ {xs:List V}{F:List Value},Vals xs F->xs.all Pb=true->∀u∈F,SeqAt.EqAt A s u v (eqU x u)
 | _,_,.nil,_=>fun u d=>by cases d
 | y::xs,u::F,.cons r t,f=>fun I d=>by
   rw [all_cons,and_eq_true]at f
   rcases mem_cons.mp d with rfl | d
   . rw [Y6 r f.1];exact Ab9 r G f.1 fx
   . exact Oc G fx t f.2 I d
def inV (x:V) (xs:List V):Bool:=xs.any fun y=>eqV y x
def rIn (K:Frag) (neg:Bool):R2:=fun x y H Q=>∃p xs,y= .ref p/\(SqL K H p xs\/SqT K H p xs)/\Pb x=true/\xs.all Pb=true/\Q (.bl (if neg then !inV x xs else inV x xs)) H
theorem Wh:OpR X (compareOp .In) (rIn X.K false):=by
 intro pins s σ H x y v u Q I M O h
 obtain⟨p,xs,rfl,F,fx,fs,q⟩:=h
 cases O
 rcases F with F | F
 . obtain⟨d,r,G,U⟩:=I.list F
   refine SeqAt.in_listAt (eqU x) G.isList (fun w L=>Oc M fx r fs w (by simpa using L)) ⟨.bl _,H,I,rfl,?_⟩
   rw [show d.toArray.any (eqU x)=d.any (eqU x)by simp,Qv r fs]
   exact q
 . obtain⟨d,r,G,U⟩:=I.tuple F
   refine SeqAt.in_tupleAt (eqU x) G (fun w L=>Oc M fx r fs w (by simpa using L)) ⟨.bl _,H,I,rfl,?_⟩
   rw [show d.toArray.any (eqU x)=d.any (eqU x)by simp,Qv r fs]
   exact q
theorem Bg:Gx X (.builtin "len") (fun xs H Q=>∃p ys,xs=[.ref p]/\(SqL X.K H p ys\/SqT X.K H p ys)/\Q (.int ys.length) H):=by
 intro pins s σ H xs U Q I r h
 obtain⟨p,ys,rfl,y,q⟩:=h
 obtain⟨u,rfl,M⟩:=vals1 r
 cases M
 have W:=Nm
 rcases y with y | y
 . obtain⟨F,G,L,O⟩:=I.list y
   have d:=G.length
   exact Calls.call_len_list L.isList (by simp only [size_toArray]<;>omega) ⟨.int ys.length,H,I.tok _,⟨s.toks+1,by rw [size_toArray,d]⟩,q⟩
 . obtain⟨F,G,L,O⟩:=I.tuple y
   have d:=G.length
   exact len_tuple L (by simp only [size_toArray]<;>omega) ⟨.int ys.length,H,I.tok _,⟨s.toks+1,by rw [size_toArray,d]⟩,q⟩
theorem Ed:Gx X (.builtin "len") (fun xs H Q=>∃z,xs=[.str z]/\z.length<=sizeLine/\Q (.int z.length) H):=by
 intro pins s σ H xs d Q I r h
 obtain⟨z,rfl,y,q⟩:=h
 obtain⟨u,rfl,t,rfl⟩:=vals1 r
 have F:=Nm
 exact len_str (by omega) ⟨.int z.length,H,I.tok _,⟨_,rfl⟩,q⟩
theorem Et:Gx X (.type "list") (fun xs H Q=>∃p ys,xs=[.ref p]/\(SqL X.K H p ys\/SqT X.K H p ys)/\∀l,H l=none->Q (.ref l) (upd H l (.lst ys))):=by
 intro pins s σ H xs us Q I r h
 obtain⟨p,ys,rfl,G,q⟩:=h
 obtain⟨u,rfl,rx⟩:=vals1 r
 cases rx
 have L:∀(d:List Value),Vals ys d->ys.length<=sizeLine->∀(h':Heap) (y:Nat),(∀b o',s.heap.get? b=some o'->h'.get? b=some o')->
  h'.get? s.heap.objs.size=some { cls:= .type "list",dict:=none,data:= .seq d.toArray y,slots:= #[]}->EP X pins σ Q (.ref s.heap.objs.size) { s with heap:=h'}:=fun d F M h' y O e=>
  ⟨.ref s.heap.objs.size,_,I.laid (t':=s.toks) O (le_refl _) (show Fl X.prog X.w _ h' _ (.lst ys)from⟨M,d,y,F,e⟩),rfl,q _ (I.hok.fresh (le_refl _))⟩
 rcases G with G | G
 . obtain⟨d,F,W,M⟩:=I.list G
   have U:=F.length
   obtain⟨o,Y,Z,n,hd⟩:=W.isList
   exact call_list_seq p (.inl rfl) Y Z hd (fun h' y O e=>L d F M h' y O e) (by simp only [size_toArray]<;>omega)
 . obtain⟨d,F,W,M⟩:=I.tuple G
   have U:=F.length
   obtain⟨o,Y,Z,n,hd⟩:=W
   exact call_list_seq p (.inr rfl) Y Z hd (fun h' y O e=>L d F M h' y O e) (by simp only [size_toArray]<;>omega)
theorem Dr:Gx X (.type "tuple") (fun xs H Q=>∃p ys,xs=[.ref p]/\((SqL X.K H p ys/\∀l,H l=none->Q (.ref l) (upd H l (.tup ys)))\/(SqT X.K H p ys/\Q (.ref p) H))):=by
 intro pins s σ H xs Z Q I r h
 obtain⟨p,ys,rfl,h⟩:=h
 obtain⟨u,rfl,U⟩:=vals1 r
 cases U
 rcases h with⟨y,q⟩ | ⟨y,q⟩
 . obtain⟨d,F,G,L⟩:=I.list y
   have M:=F.length
   refine call_tuple_list G.isList (fun h' W=> ?_) (by simp only [size_toArray]<;>omega)
   have O:Inv X pins σ H { s with heap:=h'}:=I.kept (t':=s.toks) W
   have Y:Inv X pins σ (upd H h'.objs.size (.tup ys)) { s with heap:=h'.push { cls:= .type "tuple",data:= .seq d.toArray}}:=
    O.laid (t':=s.toks) (fun b o e=>Heap.get?_push_of_some _ e) (le_refl _) (show Fl X.prog X.w _ _ _ (.tup ys)from⟨L,d,F,IsTup.new _ _⟩)
   exact⟨.ref h'.objs.size,_,Y,rfl,q _ (O.hok.fresh (le_refl _))⟩
 . obtain⟨d,F,G,L⟩:=I.tuple y
   exact call_tuple_same G ⟨.ref p,H,I,rfl,q⟩
def tyV (K:Frag) (T:String) (x:V) (H:Hp):Prop:=match x with
 | .str _=>T="str"
 | .int _=>T="int"
 | .ref p=>(T="list"/\∃xs,SqL K H p xs)\/(T="tuple"/\∃o,K.lookup p=some o/\o.cls= .type "tuple"/\o.dict=none)\/
    (T="dict"/\((∃kvs,H p=some (.dK kvs))\/∃kvs,H p=some (.dT kvs)))\/(T="set"/\∃S n,H p=some (.set S n))
 | _=>False
theorem Zy {pins:List (Addr × Obj)}{σ:St}{H:Hp}{s:Shared}{T:String}{x:V}{v:Value} (I:Inv X pins σ H s) (r:RelV x v) (ty:tyV X.K T x H):
 s.TypeIs v T/\∀a,v= .ref a->∃L,s.heap.get? a=some L/\L.dict=none:=by
 cases x with
 | str z=>
   obtain⟨t,rfl⟩:=r
   cases(show T="str" from ty)
   exact⟨typeIs_str s z t,fun _ e=>nomatch e⟩
 | int i=>
   obtain⟨t,rfl⟩:=r
   cases(show T="int" from ty)
   exact⟨typeIs_int s i t,fun _ e=>nomatch e⟩
 | ref p=>
   cases r
   rcases ty with⟨rfl,xs,O⟩ | ⟨rfl,o,d,U,y⟩ | ⟨rfl,d⟩ | ⟨rfl,S,n,d⟩
   . obtain⟨W,_,M,_⟩:=I.list O
     refine⟨M.isList.typeIs,fun a e=> ?_⟩
     cases e
     obtain⟨o,n,e,c,y,_⟩:=M
     exact⟨o,e,y⟩
   . refine⟨⟨o,I.kIn p o d,U⟩,fun a e=> ?_⟩
     cases e
     exact⟨o,I.kIn _ o d,y⟩
   . have z:∃o,s.heap.get? p=some o/\o.ExactDict:=by
      rcases d with⟨F,d⟩ | ⟨F,d⟩
      . obtain⟨_,_,_,_,o,_,_,e,ex,_⟩:=I.hok p _ d
        exact⟨o,e,ex⟩
      . obtain⟨_,_,_,_,o,_,_,e,ex,_⟩:=I.hok p _ d
        exact⟨o,e,ex⟩
     obtain⟨o,e,ex⟩:=z
     refine⟨⟨o,e,ex.1⟩,fun a G=> ?_⟩
     cases G
     exact⟨o,e,ex.2.1⟩
   . obtain⟨o,_,_,_,e,ex,_⟩:=I.hok p _ d
     refine⟨⟨o,e,ex.1⟩,fun a G=> ?_⟩
     cases G
     exact⟨o,e,ex.2.1⟩
 | _=>exact False.elim ty
def Af7 (K:Frag) (T:String) (r:V->List V->Hp->VK->Prop) (to:TE):TE:=fun σ H Q=>to σ H fun x H1=>tyV K T x H1/\r x [] H1 Q
def tBM (K:Frag) (T:String) (r:V->List V->Hp->VK->Prop) (to:TE) (t:TA):TE:=fun σ H Q=>to σ H fun x H1=>tyV K T x H1/\t σ H1 fun xs H2=>r x xs H2 Q
variable {o e:Expr}{es:List Expr}{to:TE}{t:TA}{name:Str}{apos cpos:Pos}{T id:String}{r:V->List V->Hp->VK->Prop}
theorem Wj (O:PlainAttrs T) (F:Slot T name id) (G:typeOf (.builtin id)=pure (.type "method_descriptor")) (U:MtR X id r) (W:PE X o to)
 (d:attributeBase o name X.env (eval o X.env)=eval o X.env:=by rfl) (y:(apos.endLine==cpos.line)=true:=by rfl):PE X (.Call (.Attribute o name apos) [] [] cpos) (Af7 X.K T r to):=by
 intro pins s σ H Q I h
 refine wpAny_Call_method0_late d y (thn (W pins s σ H _ I h) fun v Y ⟨x,H1,L,M,ty,Z⟩=> ?_)
 obtain⟨h1,h2⟩:=Zy L M ty
 exact⟨T,id,O,F,G,h1,h2,Calls.callWith_builtin rfl (PySem.evalArgs_none (U pins Y σ H1 x [] v [] Q L M .nil Z))⟩
theorem Ur (Y:PlainAttrs T) (G:Slot T name id) (M:typeOf (.builtin id)=pure (.type "method_descriptor")) (Z:MtR X id r) (ho:PE X o to) (ha:PA X (e::es) t)
 (y:attributeBase o name X.env (eval o X.env)=eval o X.env:=by rfl)
 (L:((backTo cpos (starEach (e::es) X.env)).all (fun x=> !x.1)&&(backToKw cpos (keywordEach [] X.env)).all (fun x=>x.1.isSome)
   &&decide ((e::es).length+([]:List Keyword).length+(if([]:List Keyword).isEmpty then 0 else 1)<30))=true:=by rfl)
 (F:(apos.endLine==cpos.line)=true:=by rfl) (hs:starEach (e::es) X.env=(false,eval e X.env)::starEach es X.env:=by rfl) (d:(backTo cpos (starEach es X.env)).any (·.1)=false:=by rfl):
 PE X (.Call (.Attribute o name apos) (e::es) [] cpos) (tBM X.K T r to t):=by
 intro pins s σ H Q I h
 refine wpAny_Call_method_late y L F rfl (thn (ho pins s σ H _ I h) fun v s1 ⟨x,H1,O,U,ty,q1⟩=> ?_)
 obtain⟨h1,h2⟩:=Zy O U ty
 refine⟨T,id,Y,G,M,h1,h2,?_⟩
 have W:=ha cpos pins s1 σ H1 _ O q1
 rw [hs]at W ⊢
 refine Calls.callWith_builtin (by show(false||(backTo cpos (starEach es X.env)).any (·.1))=false;rw [d]<;>rfl) (Calls.evalArgs_plain ?_)
 exact thn W fun us s2 ⟨vs,H2,I2,r2,q2⟩=>Z pins s2 σ H2 x vs v us Q I2 U r2 q2
/-xs.append(e),list.index on a module's tuple .. are MtR facts of 06m-/
end
end L2
namespace L2
open PySem PySem.Spec PyProof.Rows
def MtM (X:Cx) (id:String) (r:V->List V->Hp->VK->Prop):Prop:=
 ∀(pins:List (Addr × Obj)) (s:Shared) (σ:St) (H:Hp) (x:V) (xs:List V) (v:Value) (us:List Value) (Q:VK),Inv X pins σ H s->RelV x v->Vals xs us->r x xs H Q->
   wpAny (model X.prog X.w) X.A (call (.builtin id) (v::us)) (EP X pins σ Q) X.xe s
theorem Vals.one:∀ {x:V}{d:List Value},Vals [x] d->∃u,d=[u]/\RelV x u
 | _,_,.cons r .nil=>⟨_,rfl,r⟩
theorem Vals.zero:∀ {d:List Value},Vals [] d->d=[]
 | _,.nil=>rfl
theorem Vals.dropLast {xs:List V}{d:List Value} (h:Vals xs d):Vals xs.dropLast d.dropLast:=by
 induction h with
 | nil=>exact .nil
 | cons r t y=>
   cases t with
   | nil=>exact .nil
   | cons q F=>exact .cons r y
theorem Vals.eraseIdx:∀ {xs:List V}{d:List Value} (i:Nat),Vals xs d->Vals (xs.eraseIdx i) (d.eraseIdx i)
 | _,_,_,.nil=> .nil
 | _,_,0,.cons _ t=>t
 | _,_,i+1,.cons r t=> .cons r (Vals.eraseIdx i t)
theorem Vals.reverse {xs:List V}{d:List Value} (h:Vals xs d):Vals xs.reverse d.reverse:=by
 induction h with
 | nil=>exact .nil
 | cons r t y=>rw [List.reverse_cons,List.reverse_cons];exact Vals.append y (.cons r .nil)
theorem Vals.rep {xs:List V}{d:List Value} (h:Vals xs d):∀k:Nat,Vals (replicate k xs).flatten (replicate k d).flatten
 | 0=> .nil
 | k+1=>by
   rw [replicate_succ,replicate_succ,flatten_cons,flatten_cons]
   exact Vals.append h (Vals.rep h k)
theorem T8 {α:Type} (l:List α):l.eraseIdx (l.length-1)=l.dropLast:=by
 induction l with
 | nil=>rfl
 | cons a r d=>
   cases r with
   | nil=>rfl
   | cons b r=>
     have e:(a::b::r).length-1=((b::r).length-1)+1:=by
      have h1:(a::b::r).length=r.length+2:=rfl
      have h2:(b::r).length=r.length+1:=rfl
      omega
     rw [e,List.eraseIdx_cons_succ,d]
     all_goals rfl
theorem foldl_rep (its:List Value):∀(k:Nat) (d:List Value),
 foldl (fun x1 y=>x1++y) d.toArray (replicate k its.toArray)=(d++(replicate k its).flatten).toArray
 | 0,d=>by simp
 | k+1,d=>by
   have e:d.toArray++its.toArray=(d++its).toArray:=by simp
   have F:(d++its)++(replicate k its).flatten=d++(replicate (k+1) its).flatten:=by
    rw [replicate_succ,flatten_cons,append_assoc]
   rw [<-F,<-foldl_rep its k (d++its),<-e,replicate_succ,foldl_cons]
section
variable {X:Cx}{pins:List (Addr × Obj)}{σ:St}{H:Hp}{s:Shared}{l b:Addr}{xs ys zs:List V}
theorem Inv.lset {its its':List Value}{n:Nat}{f:Array Value->Array Value}{t':Nat} (I:Inv X pins σ H s) (d:H l=some (.lst xs))
 (e:s.heap.get? l=some { cls:= .type "list",data:= .seq its.toArray n}) (y:f its.toArray=its'.toArray) (F:Vals ys its') (G:ys.length<=sizeLine):
 Inv X pins σ (upd H l (.lst ys)) { s with heap:=s.heap.update l (Obj.mapSeq f),toks:=t'}:=by
 have q:=PySem.IsL.update e f
 rw [y]at q
 refine I.write (x:=l) (e:=l) (by rw [d];exact trivial) (.inl rfl) (fun O u L M=>(Heap.get?_update_other s.heap (Obj.mapSeq f) (Ne.symm L)).trans M) ⟨_,q⟩ ?_
 exact⟨G,its',_,F,q⟩
theorem Inv.lnew {its:List Value}{t':Nat} (I:Inv X pins σ H s) (d:Vals ys its) (y:ys.length<=sizeLine):
 Inv X pins σ (upd H s.heap.objs.size (.lst ys)) { s with heap:=s.heap.push { cls:= .type "list",data:= .seq its.toArray},toks:=t'}:=
 I.laid (fun _ _ q=>Heap.get?_push_of_some _ q) (le_refl _) ⟨y,its,0,d,Heap.get?_push_size _ rfl⟩
theorem Inv.fresh (I:Inv X pins σ H s):H s.heap.objs.size=none:=I.hok.fresh (le_refl _)
theorem Inv.lstM (I:Inv X pins σ H s) (d:H l=some (.lst xs)):xs.length<=sizeLine/\∃(its:List Value) (n:Nat),Vals xs its/\xs.length=its.length/\s.heap.get? l=some { cls:= .type "list",data:= .seq its.toArray n}:=by
 obtain⟨z,its,n,r,e⟩:=I.hok l _ d
 exact⟨z,its,n,r,r.length,e⟩
theorem X4 {n:Nat} (h:n<=sizeLine):Builtin.List.listTooLong n=false:=by
 unfold Builtin.List.listTooLong
 exact decide_eq_false (by omega)
end
section
variable {X:Cx}
def Wt:V->List V->Hp->VK->Prop:=fun x vs H Q=>∃l xs y,x= .ref l/\vs=[y]/\H l=some (.lst xs)/\xs.length<sizeLine/\Q .non (upd H l (.lst (xs++ [y])))
theorem G3:MtM X "list.append" Wt:=by
 intro pins s σ H x U v W Q I L M h
 obtain⟨l,xs,y,rfl,rfl,G,Y,q⟩:=h
 cases L
 obtain⟨u,rfl,O⟩:=M.one
 obtain⟨z,d,n,r,Z,e⟩:=I.lstM G
 refine call_meets F.slot_list_append ⟨_,e,rfl⟩ F.entry_list_append (F.args_list_append_2 _ _) (PySem.list_append l d.toArray n u (by rw [size_toArray];omega)) ⟨e,?_⟩
 refine⟨.non,_,I.lset (its':=d++ [u]) G e (by simp) (r.append (.cons O .nil)) ?_,rfl,q⟩
 rw [length_append,length_singleton]
 omega
def Aid:V->List V->Hp->VK->Prop:=fun x vs H Q=>∃l xs y,x= .ref l/\vs=[]/\H l=some (.lst xs)/\xs[xs.length-1]? =some y/\Q y (upd H l (.lst xs.dropLast))
theorem Zb:MtM X "list.pop" Aid:=by
 intro pins s σ H x vs v us Q I O U h
 obtain⟨l,xs,y,rfl,rfl,M,W,q⟩:=h
 cases O
 have G:=U.zero
 subst G
 obtain⟨z,d,n,r,Y,e⟩:=I.lstM M
 obtain⟨u,Z,ru⟩:=r.get W
 have L:d.toArray[d.toArray.size-1]? =some u:=by
  show d.toArray[d.length-1]? =some u
  rw [<-Array.getElem?_toList,<-Y]
  exact Z
 refine call_meets F.slot_list_pop ⟨_,e,rfl⟩ F.entry_list_pop (F.args_list_pop_1 _) (MeetsSeq.list_pop_last l d.toArray n u L (by rw [size_toArray];omega)) ⟨e,?_⟩
 refine⟨y,_,I.lset (its':=d.dropLast) M e ?_ r.dropLast ?_,ru,q⟩
 . show d.toArray.eraseIdxIfInBounds (d.toArray.size-1)=d.dropLast.toArray
   rw [size_toArray,List.eraseIdxIfInBounds_toArray,T8]
 . rw [List.length_dropLast]
   omega
def Aib:R2:=fun x y H Q=>∃l b xs zs,x= .ref l/\y= .ref b/\H l=some (.lst xs)/\H b=some (.lst zs)/\xs.length+zs.length<=sizeLine/\∀p,H p=none->Q (.ref p) (upd H p (.lst (xs++zs)))
theorem Wg:OpR X (binaryOp .Add) Aib:=by
 intro pins s σ H x y v u Q I G L h
 obtain⟨l,b,xs,zs,rfl,rfl,M,O,hz,q⟩:=h
 cases G
 cases L
 obtain⟨z,F,n,r,hl,e⟩:=I.lstM M
 obtain⟨z2,d,n2,U,W,Y⟩:=I.lstM O
 refine PySem.P.add_list e Y ?_ (by rw [size_toArray,size_toArray];omega)
 have Z:F.toArray++d.toArray=(F++d).toArray:=by simp
 rw [Z]
 exact⟨.ref _,_,I.lnew (t':=s.toks) (r.append U) (by rw [length_append];omega),rfl,q _ I.fresh⟩
def Aie:R2:=fun x y H Q=>∃l k xs,x= .ref l/\y= .int k/\H l=some (.lst xs)/\ -(2^63)<=k/\k<2^63/\xs.length*k.toNat<=sizeLine/\
 ∀p,H p=none->Q (.ref p) (upd H p (.lst (replicate k.toNat xs).flatten))
theorem len_rep {α:Type} (xs:List α) (k:Nat):(replicate k xs).flatten.length=k*xs.length:=by
 induction k with
 | zero=>simp
 | succ k d=>rw [replicate_succ,flatten_cons,length_append,d,succ_mul,add_comm]
theorem Sy:OpR X (binaryOp .Mult) Aie:=by
 intro pins s σ H x y v u Q I rx ry h
 obtain⟨l,k,xs,rfl,rfl,hH,h1,h2,Z,q⟩:=h
 cases rx
 obtain⟨t,rfl⟩:=ry
 obtain⟨z,d,n,r,hl,e⟩:=I.lstM hH
 have L:d.toArray.size*k.toNat<=sizeLine:=by rw [size_toArray,<-hl];exact Z
 have M:¬d.toArray.size*k.toNat>(2^63-1)/8:=by
  have:(sizeLine:Nat)<=(2^63-1)/8:=by decide
  omega
 have O:¬(!Builtin.List.listFitsIndex k)=true:=by
  rw [fitsIndex_both h1 h2]
  exact Bool.false_ne_true
 have G:¬Builtin.List.listTooLong (d.toArray.size*k.toNat)=true:=by
  rw [X4 L]
  exact Bool.false_ne_true
 have W:foldl (fun x1 Y=>x1++Y) #[] (replicate (if d.toArray.isEmpty=true then 0 else k.toNat) d.toArray)=(replicate k.toNat d).flatten.toArray:=by
  have f0:∀m:Nat,foldl (fun x1 Y=>x1++Y) #[] (replicate m d.toArray)=(replicate m d).flatten.toArray:=fun m=>by
   have:=foldl_rep d m []
   rw [List.nil_append]at this
   exact this
  rw [f0]
  cases d with
  | nil=>simp
  | cons a r'=>rw [if_neg (by simp)]
 refine wpAny_binaryOp_repeat_ref (T:="list") (U:="int") (by decide) ⟨_,e,rfl⟩ (fun s'=>typeIs_int s' k t) noFill_list_mul F.fills_int_mul F.slot_int_rmul repeat_list F.slot_int_index.lookup
  (call_meets F.slot_int_rmul (typeIs_int s k t) F.entry_int_rmul (F.args_int_rmul_2 _ _) (int___rmul___int_list k t l d.toArray n)
    ⟨e,rfl,⟨_,e,rfl⟩,call_meets F.slot_list_mul ⟨_,e,rfl⟩ F.entry_list_mul (F.args_list_mul_2 _ _) (AutoListH.list___mul___list_int_3 l d.toArray n k t O M G) ⟨e,?_⟩⟩)
 rw [W]
 exact⟨.ref _,_,I.lnew (t':=s.toks) (r.rep k.toNat) (by rw [len_rep,Nat.mul_comm];exact Z),rfl,q _ I.fresh⟩
end
end L2
namespace Att
open PySem PySem.W PySem.Calls PyProof.Rows
theorem Ly {P:Params}{h:Heap}:∀(ns:List Int) (d:List Value),WellAll P h d (ns.map WData.int)->IntsAre d ns:=by
 intro ns
 induction ns with
 | nil=>
   intro d w
   rw [map_nil]at w
   cases w
   exact .nil
 | cons n ns y=>
   intro d w
   rw [map_cons]at w
   cases w with
   | cons a b=>
     cases a
     exact .cons _ _ (y _ b)
theorem Wy {l:OpenLaw}{n:Nat} (Z:l.most=some n) {P:Params}{h:Heap}{args:List WData}{y:List Value}
 (F:l.row.toRowW.claim.pre args=true) (O:WellAll P h y args):
 ∃a W ns,y=[Value.ref a]/\args=[WData.list (ns.map WData.int)]/\h.get? a=some { cls:= .type "list",data:= .seq W.toArray}/\IntsAre W ns/\ns.length<=n:=by
 have U:WShape.hasAll [] args [.list .int]=true:=(pre_splitW F).1
 have Y:l.pre.holds [] { args:=args}=true:=(pre_splitW F).2
 obtain⟨d,r,rfl,h1,h2⟩:=hasAllW_cons U
 obtain rfl:=hasAllW_nil h2
 obtain⟨xs,rfl,h3⟩:=hasW_list h1
 obtain⟨ns,rfl⟩:=items_int h3
 have G:ns.length<=n:=by
  unfold OpenLaw.pre at Y
  have L:(WTm.not (.lt (.lit (.int (n:Int))) (.len (.arg 0)))).holds [] { args:=[.list (ns.map .int)]}=true:=by
   have L:=(holds_andW Y).1
   rw [Z]at L
   exact L
  have M:=condW_of L (w_not (w_lt w_lit (w_len_list (w_arg rfl))))
  rw [length_map]at M
  refine Nat.le_of_not_lt fun q=> ?_
  have q':(n:Int)<((ns.length:Nat):Int):=by omega
  first
   | (rw [decide_eq_true q']at M;exact absurd M (by decide))
   | (simp at M;omega)
 cases O with
 | cons w1 w2=>
   cases w2
   cases w1 with
   | list ho I=>exact⟨_,_,ns,rfl,rfl,ho,Ly ns _ I,G⟩
theorem Wq (l:OpenLaw) (args:List WData):l.row.toRowW.claim.post args (.bool true) args=true:=
 postW_of (r:=l.row.toRowW) (X:=(true==true))
  (show WShape.has [] (.bool true) .bool=true by first | rfl | decide | simp [WShape.has,WShape.arms,WShape.armsAll])
  (show(WTm.eq .res (.lit (.bool true))).value [] { args:=args,res:=some (.bool true),after:=args}=some (.bool (true==true))from w_eq_bool (w_res rfl) w_lit) rfl
theorem Qx {l:OpenLaw}{n:Nat}{q:Program}{F:List Str}{XP:(Str->Option Value)->Heap->Prop}{YP:World->Heap->Prop}{d:DefRec}
 (hn:l.most=some n) (a1:d.params.defaults=[])
 (call:∀(w:World) (I y:Shared) (mg mb:Str->Option Value) (U:Addr) (o:Obj) (pm cd L:Value) (a:Addr) (O:List Value) (ns:List Int),
   Ground q F [] XP w I mg mb y.heap->YP w y.heap->
   y.heap.get? U=some o->o.data= .func (docDef d.name d.params d.body d.scope pm cd L)->y.heap.CodeRec cd d.name->mg d.name=some (.ref U)->
   y.heap.get? a=some { cls:= .type "list",data:= .seq O.toArray}->IntsAre O ns->ns.length<=n->y.gens= #[]->
   codeAny (model l.prog w) callerA (.call (.ref U) ⟨[.ref a],[]⟩) (fun r s'=>r= .ok (.ret (.bool true))/\OldK y.heap s'.heap/\s'.os=y.os/\AllBare s'.gens) y):
 WalkO q F XP YP l.row.toRowW d [] (fun f O=>PySem.call f O):=by
 intro w I y mg mb G Y U o pm cd L dV kV ho hd a2 hD a3 hg args a5 as W a6 a7 a4 a8
 obtain rfl:dV= .none:=Dflts.none hD a1
 obtain rfl:kV= .none:=Dflts.noKw hD
 obtain⟨a,O,ns,rfl,rfl,Z,M,a0⟩:=Wy hn W a4
 refine enter_call (codeAny_mono (call w I y mg mb U o pm cd L a O ns G Y ho (fd_plain hd) a2 a3 Z M a0 hg) fun r s' hq=> ?_)
 obtain⟨rfl,h2,h3,h4⟩:=hq
 exact⟨.inl ⟨.bool true,.bool true,[],rfl,fun _=>rfl,.bool true,Wq l _,fun _=>⟨Pairwise.nil,fun _ hm=>(nomatch hm)⟩⟩,h2,h3,h4⟩
end Att
namespace L2
open PySem PySem.Spec PyProof.Rows
theorem Qp:∀ {d:List Value}{ns:List Int},IntsAre d ns->Vals (ns.map V.int) d
 | _,_,.nil=> .nil
 | _,_,.cons n t h=> .cons ⟨t,rfl⟩ (Qp h)
def Only (H:Hp):Prop:=∀b,H b=none\/∃o xs,H b=some (.frz o (.lst xs))
end L2
/-THE LAST THEOREM (shape;LID,My.*are yours):
 My.Adr:a structure of the addresses that your layer names (classes,functions);My.Txt K t:a structure (Prop) of the equations over K;
 My.txt_mk:{K}{implicit addresses ..} (e1:nsIn K mainGlobals "law"=some (some (.ref f))) (e2:K.lookup f=some ⟨oc,od,.func (fnOf "law" "law" params body scope dV kV doc pm an cdv ct),sl⟩) (e3:codeIn K cdv "law"=true) .. :∃t,My.Txt K t
set_option maxRecDepth 100000 in
set_option maxHeartbeats 0 in
theorem PySem.Challenge.cw_LID_holds : PySem.Challenge.rw_LID.Holds := by
 w_on;o_law;k_head;(case hw=>w_witness2)
 k_fill
 refine L2.walk_of (l:=PySem.Challenge.rw_LID) (n:=63) (k:=40) (x:="script") (CX:=fun w=> ..) (sp:=fun _=>My.sp_law) rfl (by decide) rfl ⟨rfl,by decide,by decide⟩ (fun w h Y=>kIn_of Y) ?F ?S ?C
 case F=>
  intro w mg fa h Z G M
  have T:∃t,My.Txt (L2.KOf Z) t:=by
   dsimp only [L2.KOf]                          --K must stand as «<heap const>w.params» for d
   refine' My.txt_mk ?e1 ?e2 ?e3 ..
   (case e1=>PySem.W.k_is)                    --in I order:a name->its address->its object->its parts
   (case e2=>PySem.W.k_is)
   ..
  obtain⟨t,T⟩:=T
  have e0:=M.symm.trans (mg_of Z G T.law)
  cases e0                                       --fa is I law's own address
  exact⟨_,fun s u=> .of_eq rfl,fun base O U=>My.law_fn T O U⟩     --if «.of_eq rfl» comes too early:refine' ⟨_,?b,fun base O U=>My.law_fn T O U⟩;exact fun s u=> .of_eq rfl
 case S=>exact fun w H a ns hl hO hS=> ..
 case C=>exact ..
(I L d has no y:write d)-/
namespace L2
open PySem PySem.Spec PyProof.Rows
def Jc (s:Stmt):Arguments:=match s with
 | .FunctionDef _ a _ _ _ _ _ _ _ _=>a
 | _=>{ posonlyargs:=[],args:=[],vararg:=none,kwonlyargs:=[],kw_defaults:=[],kwarg:=none,defaults:=[]}
def Hu (s:Stmt):List Stmt:=match s with
 | .FunctionDef _ _ b _ _ _ _ _ _ _=>b
 | _=>[]
def Ar (s:Stmt):Scope:=match s with
 | .FunctionDef _ _ _ _ _ _ sc _ _ _=>sc
 | _=>{ kind:= .function,names:=[],isGenerator:=false,isCoroutine:=false}
abbrev CX0:CXT:=fun _ _ _ _ _ _=>False
abbrev E0:XK:=fun _ _ _=>False
theorem Afr {X:Cx}:Passes CX0 X E0:=fun _ _ _ _ _ _ _ h=>h.elim
structure Fun (K:Frag) (x qual:Str) (st:Stmt) (f:Addr) (fd:FuncData):Prop where
 ex:∃(oc:Value) (od:Option Addr) (kV doc pm:Value) (an:Option Addr) (cdv ct:Value) (osl:Array (Option Value)),
  fd=PySem.W.fnOf x qual (Jc st) (Hu st) (Ar st) .none kV doc pm an cdv ct/\K.lookup f=some ⟨oc,od,.func fd,osl⟩/\PySem.W.codeIn K cdv qual=true
 kp:keepIn K (.ref f)=true
section
variable {P:Program}{w:World}{K:Frag}{mg:Str->Option Value}{base:Heap}
theorem Fun.ok {x qual:Str}{st:Stmt}{f:Addr}{fd:FuncData}{N ps:List Str}{k:Nat}{sp:Sp} (F:Fun K x qual st f fd) (S:Bc N ps (Ar st)) (len:∀y H Q E,sp y H Q E->y.length=ps.length)
 (G:∀(d:Value) (A:Around) (outer:List Env) (s:Shared) (H:Hp) (y:List V) (Q:VK) (E:XK),J4 k (A.deeper (envOfC qual (Ar st) s.heap.objs.size f d))->sp y H Q E->
   ∃t,PSs (Yz CX0 P w K mg base N qual (Ar st) f d A outer s H E).nox (Hu st) t/\t { nx:=fun _ H'=>Q .non H',rt:=Q} (start N y) H):Nx P w K mg base CX0 (k+1) f fd ps sp:=by
 obtain⟨Y,Z,kV,M,pm,an,d,ct,O,rfl,U,I⟩:=F.ex
 refine Afi U I S len fun A outer s H y Q E W L=> ?_
 obtain⟨t,h,q⟩:=G d A outer s H y Q E W L
 exact⟨t,h.nox,q⟩
theorem Fun.binds {x qual:Str}{st:Stmt}{f:Addr}{fd:FuncData}{ps:List Str} (F:Fun K x qual st f fd)
 (h:∀(kV d G:Value) (I:Option Addr) (y ct:Value) (L:List Value),L.length=ps.length->bindArgs (PySem.W.fnOf x qual (Jc st) (Hu st) (Ar st) .none kV d G I y ct) ⟨L,[]⟩=pure (ps.zip L)):Binds K fd ps []:=by
 obtain⟨U,Y,kV,d,G,I,y,ct,M,rfl,Z,O⟩:=F.ex
 exact .all (h kV d G I y ct)
theorem Y8 {x qual:Str}{st:Stmt}{f:Addr}{L:Value}{M G:Option Addr}{F:Array (Option Value)}{kV y I d ct:Value} (l:K.lookup f=some ⟨L,M,.func (PySem.W.fnOf x qual (Jc st) (Hu st) (Ar st) .none kV y I G d ct),F⟩)
 (c:PySem.W.codeIn K d qual=true) (k:keepIn K (.ref f)=true):Fun K x qual st f (PySem.W.fnOf x qual (Jc st) (Hu st) (Ar st) .none kV y I G d ct):=⟨⟨L,M,kV,y,I,G,d,ct,F,rfl,l,c⟩,k⟩
end
section
variable {X:Cx}
theorem pv (i:Nat) {x:Str}{pos:Pos} (y:X.N[i]? =some x:=by rfl) (F:Vis X.env.scope x:=by first | exact Or.inl rfl | exact Or.inr (Or.inl rfl) | exact Or.inr (Or.inr rfl)) (G:(x==("__debug__":Str))=false:=by decide)
 (d:(x==("__classdict__":Str))=false:=by decide):PE X (.Name x pos) (Aby i):=Ac8 y F G d
end
def Same (H H':Hp):Prop:=∀b o,H b=some o->H' b=some o
theorem Same.refl (H:Hp):Same H H:=fun _ _ h=>h
theorem Same.trans {H H1 H2:Hp} (a:Same H H1) (b:Same H1 H2):Same H H2:=fun c o h=>b c o (a c o h)
theorem Same.free {H H':Hp} (e:Same H H') {l:Addr} (h:H' l=Option.none):H l=Option.none:=by
 cases q:H l with
 | none=>rfl
 | some o=>
   rw [e l o q]at h
   cases h
theorem Same.seq {K:Frag}{H H':Hp}{a:Addr}{xs:List V} (e:Same H H') (h:SqL K H a xs):SqL K H' a xs:=by
 rcases h with(h | ⟨o,h⟩) | h
 . exact .inl (.inl (e _ _ h))
 . exact .inl (.inr ⟨o,e _ _ h⟩)
 . exact .inr h
end L2
namespace L2
open PySem PySem.Spec PyProof.Rows
def Cal (P:Program) (w:World) (K:Frag) (mg:Str->Option Value) (base:Heap) (k:Nat) (x:Str) (ps:List Str) (sp:Sp):Prop:=
 ∃f fd,Nx P w K mg base CX0 k f fd ps sp/\mg x=some (.ref f)/\keepIn K (.ref f)=true/\Binds K fd ps []
structure Df (K:Frag) (mg:Str->Option Value) (x:Str) (st:Stmt) (ps:List Str) (f:Addr) (fd:FuncData):Prop where
 fn:Fun K x x st f fd
 bd:Binds K fd ps []
 at':mg x=some (.ref f)
theorem Df.cal {P:Program}{w:World}{K:Frag}{mg:Str->Option Value}{base:Heap}{k:Nat}{x:Str}{st:Stmt}{ps:List Str}{f:Addr}{fd:FuncData}{sp:Sp}
 (F:Df K mg x st ps f fd) (G:Nx P w K mg base CX0 k f fd ps sp):Cal P w K mg base k x ps sp:=⟨f,fd,G,F.at',F.fn.kp,F.bd⟩
theorem Cal.imp {P:Program}{w:World}{K:Frag}{mg:Str->Option Value}{base:Heap}{k:Nat}{x:Str}{ps:List Str}{sp d:Sp}
 (C:Cal P w K mg base k x ps sp) (h:∀y H Q E,d y H Q E->sp y H Q E):Cal P w K mg base k x ps d:=by
 obtain⟨f,fd,G,a,b,c⟩:=C
 exact⟨f,fd,G.imp h,a,b,c⟩
theorem Yb {X:Cx}{k:Nat}{x:Str}{ps:List Str}{sp:Sp}{p pos:Pos}{e:Expr}{es:List Expr}{t:TA}
 (C:Cal X.prog X.w X.K X.mg X.base k x ps sp) (F:J4 k X.A) (I:PA X (e::es) t) (L:Gl X x:=by rfl) (d:(x==("__debug__":Str))=false:=by decide)
 (M:starEach (e::es) X.env=(false,eval e X.env)::starEach es X.env:=by rfl) (y:(backTo pos (starEach es X.env)).any (·.1)=false:=by rfl):
 PE X (.Call (.Name x p) (e::es) [] pos) (Ru sp [] E0 t):=by
 obtain⟨f,fd,G,a,b,c⟩:=C
 exact Aau G F L a b c .nil Afr I d M y
def Sz (n:Nat) (a:Int):Prop:=a.natAbs<2^n
theorem Sz.mono {m n:Nat}{a:Int} (h:Sz m a) (l:m<=n):Sz n a:=lt_of_lt_of_le h (Nat.pow_le_pow_right (by decide) l)
theorem Sz.mul {m n:Nat}{a b:Int} (h:Sz m a) (g:Sz n b):Sz (m+n) (a*b):=by
 unfold Sz at*
 rw [Int.natAbs_mul,Nat.pow_add]
 exact Nat.mul_lt_mul'' h g
theorem Sz.add {m n:Nat}{a b:Int} (h:Sz m a) (g:Sz n b):Sz (max m n+1) (a+b):=by
 have h1:Sz (max m n) a:=h.mono (Nat.le_max_left _ _)
 have h2:Sz (max m n) b:=g.mono (Nat.le_max_right _ _)
 unfold Sz at*
 have:=Int.natAbs_add_le a b
 rw [Nat.pow_succ]
 omega
theorem Sz.neg {n:Nat}{a:Int} (h:Sz n a):Sz n (-a):=by
 unfold Sz at*
 rw [Int.natAbs_neg]
 exact h
theorem Sz.sub {m n:Nat}{a b:Int} (h:Sz m a) (g:Sz n b):Sz (max m n+1) (a-b):=by
 rw [Int.sub_eq_add_neg]
 exact h.add g.neg
theorem Sz.mulOk {m n:Nat}{a b:Int} (h:Sz m a) (g:Sz n b) (l:m+n<=134217728):IntMulOk a b:=
 IntMulOk.of_le (PySem.intBits_le_iff.mpr h) (PySem.intBits_le_iff.mpr g) l
theorem Sz.log2 {n:Nat}{a:Int} (h:Sz n a) (d:a≠0) (l:n<=9000):a.natAbs.log2<9000:=
 lt_of_lt_of_le ((Nat.log2_lt (by omega)).mpr h) l
section
variable {X:Cx}{a b:Expr}{ta tb:TE}{pos:Pos}
theorem Gb:OpR X (binaryOp .Mult) (rI IntMulOk fun i j=> .int (i*j)):=opI fun _ _ _ _ _ _ _ d q=>mul_int q d
end
mutual
inductive RdD (K:Frag) (H:Hp):V->PyData->Prop where
 | non:RdD K H .non .none
 | bl (b:Bool):RdD K H (.bl b) (.bool b)
 | int (i:Int):RdD K H (.int i) (.int i)
 | str (x:Str):RdD K H (.str x) (.str x)
 | tup {a:Addr}{xs:List V}{ds:List PyData}:SqT K H a xs->Tt K H xs ds->RdD K H (.ref a) (.tuple ds)
 | lst {a:Addr}{xs:List V}{ds:List PyData}:SqL K H a xs->Tt K H xs ds->RdD K H (.ref a) (.list ds)
inductive Tt (K:Frag) (H:Hp):List V->List PyData->Prop where
 | nil:Tt K H [] []
 | cons {x:V}{d:PyData}{xs:List V}{ds:List PyData}:RdD K H x d->Tt K H xs ds->Tt K H (x::xs) (d::ds)
end
section
variable {X:Cx}{pins:List (Addr × Obj)}{σ:St}{H:Hp}{s:Shared}
mutual
theorem RdD.reads (I:Inv X pins σ H s):∀ {x:V}{d:PyData}{u:Value},RdD X.K H x d->RelV x u->∃as,Reads s.heap u d as
 | _,_,_,.non,r=>by cases r;exact⟨_,.none⟩
 | _,_,_,.bl b,r=>by cases r;exact⟨_,.bool b⟩
 | _,_,_,.int i,r=>by obtain⟨t,rfl⟩:=r;exact⟨_,.int i t⟩
 | _,_,_,.str x,r=>by obtain⟨t,rfl⟩:=r;exact⟨_,.str x t⟩
 | _,_,_,.tup hq hr,r=>by
   cases r
   obtain⟨its,rv,pl,hz⟩:=I.tuple hq
   obtain⟨as,q⟩:=Tt.reads I hr rv
   obtain⟨o,ho,hc,n,hd⟩:=pl
   exact⟨_,.tuple ho hc hd (by simpa using q)⟩
 | _,_,_,.lst hq hr,r=>by
   cases r
   obtain⟨its,rv,pl,hz⟩:=I.list hq
   obtain⟨as,q⟩:=Tt.reads I hr rv
   obtain⟨o,ho,hc,n,hd⟩:=pl.isList
   exact⟨_,.list ho hc hd (by simpa using q)⟩
theorem Tt.reads (I:Inv X pins σ H s):∀ {xs:List V}{ds:List PyData}{us:List Value},Tt X.K H xs ds->Vals xs us->∃as,ReadsAll s.heap us ds as
 | _,_,_,.nil,r=>by cases r;exact⟨_,.nil⟩
 | _,_,_,.cons h t,r=>by
   cases r with
   | cons r1 r2=>
     obtain⟨as,q⟩:=RdD.reads I h r1
     obtain⟨bs,p⟩:=Tt.reads I t r2
     exact⟨_,.cons q p⟩
end
end
theorem Tt.ints {K:Frag}{H:Hp}:∀ns:List Int,Tt K H (ns.map V.int) (ns.map PyData.int)
 | []=> .nil
 | n::r=> .cons (.int n) (Tt.ints r)
theorem RdD.ints {K:Frag}{H:Hp}{a:Addr}{ns:List Int} (h:SqT K H a (ns.map V.int)):RdD K H (.ref a) (.tuple (ns.map PyData.int)):= .tup h (.ints ns)
theorem RdD.lints {K:Frag}{H:Hp}{a:Addr}{ns:List Int} (h:SqL K H a (ns.map V.int)):RdD K H (.ref a) (.list (ns.map PyData.int)):= .lst h (.ints ns)
theorem Lf:∀ns ms:List Int,PyData.eqvAll (ns.map PyData.int) (ms.map PyData.int)=decide (ns=ms)
 | [],[]=>by simp [PyData.eqvAll]
 | [],_::_=>by simp [PyData.eqvAll]
 | _::_,[]=>by simp [PyData.eqvAll]
 | a::r,b::t=>by
   simp only [map_cons,PyData.eqvAll,PyData.eqv,Lf r t]
   by_cases h:a=b<;>by_cases h':r=t<;>simp [h,h']
theorem shaped_ints (ns:List Int):SeqAt.shaped (.tuple (ns.map PyData.int))=true:=by
 simp [SeqAt.shaped,PyData.canLay0,PyData.depth,ke_canLayAll0,ke_depthAll]
section
variable {X:Cx}
def Af1 (K:Frag) (f:Bool->Bool):R2:=fun x y H Q=>∃d e,RdD K H x d/\RdD K H y e/\SeqAt.shaped d=true/\SeqAt.shaped e=true/\Q (.bl (f (PyData.eqv d e))) H
theorem Acx (F:X.A.units+64<cLine):OpR X (compareOp .Eq) (Af1 X.K fun b=>b):=by
 intro pins s σ H x y v u Q I G L h
 obtain⟨d,e,M,O,U,W,q⟩:=h
 obtain⟨as,Y⟩:=RdD.reads I M G
 obtain⟨bs,Z⟩:=RdD.reads I O L
 exact eq_dataH Y Z U W F ⟨.bl _,H,I,rfl,q⟩
theorem Sw (F:X.A.units+64<cLine):OpR X (compareOp .NotEq) (Af1 X.K fun b=> !b):=by
 intro pins s σ H x y v u Q I G L h
 obtain⟨d,e,M,O,U,W,q⟩:=h
 obtain⟨as,Y⟩:=RdD.reads I M G
 obtain⟨bs,Z⟩:=RdD.reads I O L
 exact ne_dataH Y Z U W F ⟨.bl _,H,I,rfl,q⟩
def Af2 (K:Frag) (f:Bool->Bool):R2:=fun x y H Q=>∃(a b:Addr) (ns ms:List Int),x= .ref a/\y= .ref b/\SqT K H a (ns.map V.int)/\SqT K H b (ms.map V.int)/\Q (.bl (f (decide (ns=ms)))) H
theorem Mi (d:X.A.units+64<cLine):OpR X (compareOp .Eq) (Af2 X.K fun b=>b):=by
 intro pins s σ H x y v u Q I F G h
 obtain⟨a,b,ns,ms,rfl,rfl,L,M,q⟩:=h
 exact Acx d pins s σ H _ _ v u Q I F G ⟨_,_,.ints L,.ints M,shaped_ints _,shaped_ints _,by rw [PyData.eqv,Lf];exact q⟩
theorem Zf (d:X.A.units+64<cLine):OpR X (compareOp .NotEq) (Af2 X.K fun b=> !b):=by
 intro pins s σ H x y v u Q I F G h
 obtain⟨a,b,ns,ms,rfl,rfl,L,M,q⟩:=h
 exact Sw d pins s σ H _ _ v u Q I F G ⟨_,_,.ints L,.ints M,shaped_ints _,shaped_ints _,by rw [PyData.eqv,Lf];exact q⟩
theorem N5:Gx X (.builtin "isinstance") (fun xs H Q=>∃x t T b,xs=[x,.ty T]/\R3 X.K H x t/\kitOne X.K t (.type T)=some b/\Q (.bl b) H):=by
 intro pins s σ H xs L Q I r h
 obtain⟨x,t,T,b,rfl,d,y,q⟩:=h
 obtain⟨u,c,rfl,F,G⟩:=vals2 r
 cases G
 exact Vp I F d y fun tk=>⟨.bl b,H,I.tok tk,rfl,q⟩
end
theorem Same.tup {K:Frag}{H H':Hp}{a:Addr}{xs:List V} (e:Same H H') (h:SqT K H a xs):SqT K H' a xs:=by
 rcases h with(h | ⟨o,h⟩) | h
 . exact .inl (.inl (e _ _ h))
 . exact .inl (.inr ⟨o,e _ _ h⟩)
 . exact .inr h
theorem Same.upd {H:Hp}{p:Addr} (h:H p=none) (o:HO):Same H (upd H p o):=fun b u q=>by
 rw [Bl (Bs q h)]
 exact q
end L2
namespace L2
open PySem PySem.Spec PyProof.Rows
section
variable {X:Cx}{K:Frag}{σ:St}{H:Hp}{Q:VK}{D:Ends}{B:Bool->Hp->Prop}
theorem Ahi {t u:TS}:Abx t u D σ H=t { D with nx:=u D} σ H:=rfl
theorem Aep:Abg D σ H=D.nx σ H:=rfl
theorem Ag4 {c:TT}{t u:TS}:Af9 c t u D σ H=c σ H (fun b H1=>if b=true then t D σ H1 else u D σ H1):=rfl
theorem Ahh {te:TE}:Agf te D σ H=te σ H D.rt:=rfl
theorem Ad8 {te:TE}:Abf te D σ H=te σ H (fun _ H1=>D.nx σ H1):=rfl
theorem Agr {te:TE}{g:TG}:Abe te g D σ H=te σ H (fun x H1=>g x σ H1 D.nx):=rfl
theorem Abp {i:Nat}{v:V}{R:St->Hp->Prop}:Jt i v σ H R=R (σ.set i (some v)) H:=rfl
theorem Ahf {i j:Nat}{ta:TA}:Age i j ta D σ H=ta σ H (fun d H1=>∃v w,d=[v,w]/\D.nx ((σ.set i (some v)).set j (some w)) H1):=rfl
theorem Aet {v:V}{r:St}:Aby 0 (some v::r) H Q=Q v H:=propext ⟨fun⟨_,e,h⟩=>by cases e;exact h,fun h=>⟨v,rfl,h⟩⟩
theorem Aeu {i:Nat}{o:Option V}{r:St}:Aby (i+1) (o::r) H Q=Aby i r H Q:=rfl
theorem z_c {v:V}:tC v σ H Q=Q v H:=rfl
theorem Ahd {r:R2}{ta tb:TE}:tOp r ta tb σ H Q=ta σ H (fun x H1=>tb σ H1 fun y H2=>r x y H2 Q):=rfl
theorem Ai4 {r:V->Hp->VK->Prop}{ta:TE}:tUn r ta σ H Q=ta σ H (fun x H1=>r x H1 Q):=rfl
theorem Aim {C:Int->Int->Prop}{g:Int->Int->V}{i j:Int}:rI C g (.int i) (.int j) H Q=(C i j/\Q (g i j) H):=
 propext ⟨fun⟨_,_,e,f,h⟩=>by cases e;cases f;exact h,fun h=>⟨i,j,rfl,rfl,h⟩⟩
theorem Ahg {g:Int->Int->V}{i j:Int}:rI0 g (.int i) (.int j) H Q=Q (g i j) H:=
 propext ⟨fun⟨_,_,e,f,h⟩=>by cases e;cases f;exact h,fun h=>⟨i,j,rfl,rfl,h⟩⟩
theorem Ain {g:Int->V}{i:Int}:rU g (.int i) H Q=Q (g i) H:=propext ⟨fun⟨_,e,h⟩=>by cases e;exact h,fun h=>⟨i,rfl,h⟩⟩
theorem Agv {i j:Int}:rEq (.int i) (.int j) H Q=Q (.bl (decide (i=j))) H:=by
 unfold rEq
 simp only [Zr,V.int.injEq,true_and]
theorem Ag9 {i j:Int}:rNe (.int i) (.int j) H Q=Q (.bl (!decide (i=j))) H:=by
 unfold rNe
 simp only [Zr,V.int.injEq,true_and]
theorem Agu {i j:Bool}:rEq (.bl i) (.bl j) H Q=Q (.bl (decide (i=j))) H:=by
 unfold rEq
 simp only [Zr,V.bl.injEq,true_and]
theorem Ag8 {i j:Bool}:rNe (.bl i) (.bl j) H Q=Q (.bl (!decide (i=j))) H:=by
 unfold rNe
 simp only [Zr,V.bl.injEq,true_and]
theorem Xa {t:TE}:Abi t σ H B=t σ H (fun x H'=>∃k,x= .bl k/\B k H'):=rfl
theorem Aiz {t:TE}:tB t σ H B=t σ H (fun x H'=>∃k,x= .bl k/\B k H'):=rfl
theorem Agy {b:Bool}{p:Bool->Prop}:(∃k,V.bl b= .bl k/\p k)=p b:=propext ⟨fun⟨_,e,h⟩=>by cases e;exact h,fun h=>⟨b,rfl,h⟩⟩
theorem Ag0 {b:Int}{p:Int->Prop}:(∃k,V.int b= .int k/\p k)=p b:=propext ⟨fun⟨_,e,h⟩=>by cases e;exact h,fun h=>⟨b,rfl,h⟩⟩
theorem Agx {a b:V}{p:V->V->Prop}:(∃v w,[a,b]=[v,w]/\p v w)=p a b:=propext ⟨fun⟨_,_,e,h⟩=>by cases e;exact h,fun h=>⟨a,b,rfl,h⟩⟩
theorem Ad9 {b:Int}{p:Int->Prop}:(∃k,[V.int b]=[.int k]/\p k)=p b:=propext ⟨fun⟨_,e,h⟩=>by cases e;exact h,fun h=>⟨b,rfl,h⟩⟩
theorem Aea {a b:Int}{p:Int->Int->Prop}:(∃i j,[V.int a,V.int b]=[.int i,.int j]/\p i j)=p a b:=propext ⟨fun⟨_,_,e,h⟩=>by cases e;exact h,fun h=>⟨a,b,rfl,h⟩⟩
theorem Ahc {t:TT}:Agc t σ H B=t σ H (fun c H1=>B (!c) H1):=rfl
theorem Agq {t u:TT}:Af6 t u σ H B=t σ H (fun c H1=>if c=true then u σ H1 B else B false H1):=rfl
theorem Ail {t u:TT}:tOr t u σ H B=t σ H (fun c H1=>if c=true then B true H1 else u σ H1 B):=rfl
theorem Ad3 {ta tb:TE}:Abd ta tb σ H Q=ta σ H (fun x H1=>∃c,x= .bl c/\if c=true then tb σ H1 Q else Q (.bl false) H1):=rfl
theorem Ahe {ta tb:TE}:Agd ta tb σ H Q=ta σ H (fun x H1=>∃c,x= .bl c/\if c=true then Q (.bl true) H1 else tb σ H1 Q):=rfl
theorem Aij {t:TT}{ta tb:TE}:tIf t ta tb σ H Q=t σ H (fun c H1=>if c=true then ta σ H1 Q else tb σ H1 Q):=rfl
theorem Ad4 {sp:Sp}{dvs:List V}{E:XK}{t:TA}:Ru sp dvs E t σ H Q=t σ H (fun d H1=>sp (d++dvs) H1 Q E):=rfl
theorem Ahb {R:List V->Hp->Prop}:Agb σ H R=R [] H:=rfl
theorem Ad6 {te:TE}{t:TA}{R:List V->Hp->Prop}:Yr te t σ H R=te σ H (fun x H1=>t σ H1 fun xs H2=>R (x::xs) H2):=rfl
theorem Aii {r:List V->Hp->VK->Prop}{t:TA}:tCB r t σ H Q=t σ H (fun d H1=>r d H1 Q):=rfl
theorem Ahn {t:TA}:Agg t σ H Q=t σ H (fun xs H1=>xs.length<=sizeLine/\∀p,H1 p=none->Q (.ref p) (upd H1 p (.tup xs))):=rfl
theorem Ag7 {t:TA}:Aga t σ H Q=t σ H (fun xs H1=>xs.length<=sizeLine/\∀p,H1 p=none->Q (.ref p) (upd H1 p (.lst xs))):=rfl
theorem Le {a:Addr}{xs:List V}{i:Int}{v:V} (h:SqT K H a xs) (e:atI xs i=some v) (q:Q v H):Af3 K (.ref a) (.int i) H Q:=⟨a,xs,i,v,rfl,rfl,h,e,q⟩
theorem Hq {a:Addr}{xs:List V}{i:Int}{v:V} (h:SqL K H a xs) (e:atI xs i=some v) (q:Q v H):Abw K (.ref a) (.int i) H Q:=⟨a,xs,i,v,rfl,rfl,h,e,q⟩
end
def Ae4 (_ j:Int):Prop:=0<j/\j.natAbs.log2<9000
theorem Li {X:Cx}:OpR X (binaryOp .FloorDiv) (rI Ae4 fun i j=> .int (i/j)):=opI fun i j _ _ _ _ _ d q=>by
 have h:j≠0:=by have:=d.1;omega
 refine floordiv_int h ?_ (.inl (PyProof.noPylong_of_log2 d.2))
 rw [Int.fdiv_eq_ediv_of_nonneg _ (Int.le_of_lt d.1)]
 exact q
theorem Adw:(1:Nat)<=sizeLine:=by decide
theorem Adx:(2:Nat)<=sizeLine:=by decide
end L2
namespace L2
open PySem PySem.Spec PyProof.Rows
def clF (env:Env) (cs:List (Str × Addr)) (x:Str × NameKind):List (Str × Addr):=if x.2== .free then(x.1,(env.cells.lookup x.1).getD 0)::cs else cs
theorem T5 {scope:Scope}{env:Env} (h:∀x∈scope.names,x.2= .free->∃c,env.cells.lookup x.1=some c):closureFor scope env=pure (scope.names.foldl (clF env) []):=by
 unfold closureFor
 have G:∀(names:List (Str × NameKind)) (d:List (Str × Addr)),(∀x∈names,x.2= .free->∃c,env.cells.lookup x.1=some c)->
  (forIn names d (fun(x:Str × NameKind) (O:List (Str × Addr))=>(if x.2== .free then(do let c<-cellOf env x.1;pure (ForInStep.yield ((x.1,c)::O)))else pure (ForInStep.yield O):Sem (ForInStep (List (Str × Addr))))))=(pure (names.foldl (clF env) d):Sem (List (Str × Addr))):=by
  intro names
  induction names with
  | nil=>intro d _;rfl
  | cons x r U=>
    intro d I
    rw [forIn_cons,foldl_cons]
    by_cases F:x.2= .free
    . obtain⟨c,W⟩:=I x mem_cons_self F
      have Z:cellOf env x.1=pure c:=by unfold cellOf;rw [W]
      have L:clF env d x=(x.1,c)::d:=by unfold clF;rw [F,W];rfl
      rw [L,<-U _ fun y M=>I y (mem_cons_of_mem _ M)]
      rw [F,Z]
      rfl
    . have Y:(x.2==NameKind.free)=false:=by simpa using F
      have L:clF env d x=d:=by unfold clF;rw [Y];rfl
      rw [L,<-U _ fun y M=>I y (mem_cons_of_mem _ M),Y]
      rfl
 exact(congrArg (fun m=>m>>=fun r=>pure r) (G scope.names [] h)).trans (by rfl)
theorem N7 {env:Env}:∀(names:List (Str × NameKind)) (F:List (Str × Addr)) (y:Str) (c:Addr),(∀x∈names,x.2= .free->∃c,env.cells.lookup x.1=some c)->(names.foldl (clF env) F).lookup y=some c->F.lookup y=some c\/env.cells.lookup y=some c
 | [],_,_,_,_,h=> .inl h
 | x::r,F,y,c,hx,h=>by
   rw [foldl_cons]at h
   rcases N7 r _ y c (fun z L=>hx z (mem_cons_of_mem _ L)) h with h1 | h1
   . unfold clF at h1
     by_cases G:x.2= .free
     . obtain⟨d,I⟩:=hx x mem_cons_self G
       rw [G,I]at h1
       change lookup y ((x.1,d)::F)=some c at h1
       rw [lookup_cons]at h1
       cases hy:y==x.1 with
       | true=>
         rw [hy]at h1
         have:y=x.1:=by simpa using hy
         subst this
         exact .inr (I.trans h1)
       | false=>
         rw [hy]at h1
         exact .inl h1
     . have M:(x.2==NameKind.free)=false:=by simpa using G
       rw [M]at h1
       exact .inl h1
   . exact .inr h1
theorem Q5 {env:Env}:∀(names:List (Str × NameKind)) (d:List (Str × Addr)) (y:Str),((∃x∈names,x.2= .free/\x.1=y)\/∃c,d.lookup y=some c)->∃c,(names.foldl (clF env) d).lookup y=some c
 | [],_,_,h=>by
   rcases h with⟨_,h,_⟩ | h
   . cases h
   . exact h
 | x::r,d,y,h=>by
   rw [foldl_cons]
   apply Q5 r
   rcases h with⟨z,G,F,rfl⟩ | ⟨c,I⟩
   . rcases mem_cons.mp G with rfl | G
     . refine .inr ⟨(env.cells.lookup z.1).getD 0,?_⟩
       unfold clF
       rw [F]
       show lookup z.1 ((z.1,_)::d)=_
       rw [lookup_cons]
       simp
     . exact .inl ⟨z,G,F,rfl⟩
   . refine .inr ?_
     unfold clF
     by_cases F:x.2= .free
     . rw [F]
       show ∃c,lookup y ((x.1,_)::d)=some c
       rw [lookup_cons]
       cases y==x.1 with
       | true=>exact⟨_,rfl⟩
       | false=>exact⟨c,I⟩
     . have L:(x.2==NameKind.free)=false:=by simpa using F
       rw [L]
       exact⟨c,I⟩
theorem Pa {prog:Program}{w:World}{A:Around}{R:Result->Shared->Prop}{s:Shared}{elt target iter:Expr}{ifs:List Expr}{scope:Scope}{pos:Pos}{it W:Value}{env:Env} (I:Nat->Shared->Prop)
 (Z:∀n s,I n s->wpAny (model prog w) A (pyNext it) (fun r d=>match r with
   | none=>R (.ok .next) d
   | some v=>wpAny (model prog w) A (letOwnedTupleGo target it v) (fun _ F=>wpAny (model prog w) A (assign target env v) (fun _ G=>
      wpAny (model prog w) A (forIn ifs true fun c r=>if r=true then do let ok<-isTrue c env (eval c env);pure (ForInStep.yield ok)else pure (ForInStep.yield r)) (fun ok y=>
       if ok=true then wpAny (model prog w) A (eval elt env) (fun x L=>
        wpAny (model prog w) A (call (.builtin "list.append") [W,x]) (fun _ M=>∃m,m<n/\I m M) (fun _ _=>False) L) (fun _ _=>False) y
       else ∃m,m<n/\I m y) (fun _ _=>False) G) (fun _ _=>False) F) (fun _ _=>False) d) (fun _ _=>False) s)
 (n:Nat) (h:I n s):
 codeAny (model prog w) A (.compLoop (.ListComp elt [⟨target,iter,ifs,0⟩] scope pos) 0 it W env) R s:=by
 have Y:∀(x:Value) (s':Shared),False->notedBy (model prog w) A env (fun e s'=>R (.error e) s') x s':=fun _ _ z=>z.elim
 refine codeAny_loop rfl I (fun n s hI=> ?_) n h
 show wpAny _ A ((compTurn (.ListComp elt [⟨target,iter,ifs,0⟩] scope pos) 0 it W env).onRaise (fun x=>do noteFrame x env;theTreesLotGoes x)) _ _ s
 refine wpAny_noted ?_
 rw [compTurn_list]
 refine wpAny_bind (wpAny_standAt (wpAny_bind (wpAny_mono (Z n s hI) (fun r d O=> ?_) Y)))
 cases r with
 | none=>exact wpAny_pure O
 | some v=>
   refine wpAny_bind (wpAny_mono O (fun _ F a0=> ?_) Y)
   refine wpAny_bind (wpAny_mono a0 (fun _ G a1=>wpAny_bind (wpAny_mono a1 (fun ok y U=> ?_) Y)) Y)
   cases ok with
   | false=>exact wpAny_pure ⟨rfl,U⟩
   | true=>
     exact wpAny_bind (wpAny_bind (wpAny_mono U (fun x L a2=>wpAny_bind (wpAny_mono a2 (fun _ M a3=>wpAny_pure (wpAny_pure ⟨rfl,a3⟩)) Y)) Y))
def cxC (X:Cx) (N:List Str) (scope:Scope) (ex:List Addr) (s:Shared) (H:Hp):Cx where
 prog:=X.prog
 w:=X.w
 K:=X.K
 mg:=X.mg
 base:=X.base
 A:=X.A
 N:=N
 s₀:=s
 H₀:=H
 env:=compEnvC scope (scope.names.foldl (clF X.env) []) s.heap.objs.size X.env
 outer:=X.stack
 stack:=X.stack
 ex:=ex
 fn:=fun _=>false
 calm:=X.calm
 pn:=[]
 xe:=fun _ _=>False
structure Cz (X:Cx) (ts:List Str) (fs:List (Nat × Str)) (scope:Scope):Prop where
 kind:scope.kind= .function
 cell:∀y∈scope.names,y.2≠ .cell
 names:∀y∈scope.names,y.2= .local ->scope.names.lookup y.1=some .local
 free:∀y∈scope.names,y.2= .free->X.env.kindOf y.1=some .cell\/X.env.kindOf y.1=some .free
 at':∀p∈fs,X.N[p.1]? =some p.2/\(p.2,NameKind.free)∈scope.names/\((relabel scope X.env).names.lookup p.2=some .cell\/(relabel scope X.env).names.lookup p.2=some .free)
def rlb (sc scope:Scope):List (Str × NameKind):=scope.names.map fun(n,k)=>if(k==NameKind.free&&sc.kind== .function&&sc.names.lookup n==some .cell)then(n,NameKind.cell)else(n,k)
def Ahv (sc:Scope) (N:List Str) (fs:List (Nat × Str)) (scope:Scope):Bool:=
 (scope.kind== .function)&&(scope.names.all fun y=>y.2 != .cell)&&(scope.names.all fun y=>y.2 != .local ||scope.names.lookup y.1==some .local)&&
 (scope.names.all fun y=>y.2 != .free||(sc.names.lookup y.1==some .cell||sc.names.lookup y.1==some .free))&&
 fs.all fun p=>N[p.1]? ==some p.2&&(scope.names.contains (p.2,NameKind.free)&&((rlb sc scope).lookup p.2==some .cell||(rlb sc scope).lookup p.2==some .free))
theorem Cz.of {X:Cx}{ts:List Str}{fs:List (Nat × Str)}{scope sc:Scope}{N:List Str} (F:X.env.scope=sc) (G:X.N=N) (h:Ahv sc N fs scope=true):Cz X ts fs scope:=by
 unfold Ahv at h
 simp only [and_eq_true,all_eq_true,or_eq_true,bne_iff_ne,beq_iff_eq,List.contains_iff_mem]at h
 obtain⟨⟨⟨⟨h1,h2⟩,I⟩,L⟩,M⟩:=h
 refine⟨h1,h2,fun y d e=> ?_,fun y d e=> ?_,fun p O=> ?_⟩
 . rcases I y d with z | z
   . exact absurd e z
   . exact z
 . rcases L y d with z | z
   . exact absurd e z
   . show X.env.scope.names.lookup y.1=_\/X.env.scope.names.lookup y.1=_
     rw [F]
     exact z
 . obtain⟨a,b,c⟩:=M p O
   refine⟨by rw [G];exact a,b,?_⟩
   subst F
   exact c
def cpN (ts:List Str) (fs:List (Nat × Str)):List Str:=ts++fs.map (·.2)
def cpσ (n:Nat) (fs:List (Nat × Str)) (σ:St):St:=replicate n none++fs.map fun p=>(σ[p.1]?).join
theorem Hw {env:Env}{x:Str}{y:NameKind}:∀ {names:List (Str × NameKind)},(names.map fun(n,k)=>if(k==NameKind.free&&env.scope.kind== .function&&env.kindOf n==some .cell)then(n,NameKind.cell)else(n,k)).lookup x=some y->
 ∃k,(x,k)∈names/\(y=k\/(k= .free/\y= .cell))
 | [],h=>by simp at h
 | (n,k)::r,h=>by
   rw [map_cons]at h
   dsimp only at h
   by_cases d:(k==NameKind.free&&env.scope.kind== .function&&env.kindOf n==some .cell)=true
   . rw [if_pos d,lookup_cons]at h
     cases hx:x==n with
     | true=>
       rw [hx]at h
       have e:x=n:=by simpa using hx
       subst e
       have G:k= .free:=by
        rw [and_eq_true,and_eq_true]at d
        simpa using d.1.1
       exact⟨k,mem_cons_self,.inr ⟨G,(Option.some.inj h).symm⟩⟩
     | false=>
       rw [hx]at h
       obtain⟨F,h1,h2⟩:=Hw h
       exact⟨F,mem_cons_of_mem _ h1,h2⟩
   . rw [if_neg d,lookup_cons]at h
     cases hx:x==n with
     | true=>
       rw [hx]at h
       have e:x=n:=by simpa using hx
       subst e
       exact⟨k,mem_cons_self,.inl (Option.some.inj h).symm⟩
     | false=>
       rw [hx]at h
       obtain⟨F,h1,h2⟩:=Hw h
       exact⟨F,mem_cons_of_mem _ h1,h2⟩
def PTs (X:Cx) (ifs:List Expr) (t:TT):Prop:=
 ∀(pins:List (Addr × Obj)) (s:Shared) (σ:St) (H:Hp) (B:Bool->Hp->Prop),Inv X pins σ H s->t σ H B->
   wpAny (model X.prog X.w) X.A (forIn ifs true fun c r=>if r=true then do let ok<-isTrue c X.env (eval c X.env);pure (ForInStep.yield ok)else pure (ForInStep.yield r)) (TP X pins σ B) X.xe s
def Rv:TT:=fun _ H B=>B true H
theorem Aa5 {X:Cx}:PTs X [] Rv:=fun _ _ _ H _ I h=>wpAny_pure ⟨H,I,h⟩
theorem Aa6 {X:Cx}{c:Expr}{t:TT} (h:PT X c t):PTs X [c] t:=by
 intro pins s σ H B I d
 rw [forIn_cons]
 simp only [if_true]
 refine wpAny_bind (wpAny_bind (thn (h pins s σ H B I d) fun b y q=>wpAny_pure ?_))
 exact wpAny_pure q
def Kp (σ σ':St):Prop:=σ'.length=σ.length/\∀(i:Nat) v,σ[i]? =some (some v)->σ'[i]? =some (some v)
def cIn (J:It) (cσ:St) (g:TG) (tt:TT) (te:TE) (Q:VK) (H1:Hp) (p:Addr):Prop:=∃W:Nat->Nat->List V->Hp->Prop,(∃m,W 0 m [] (upd H1 p (.lst [])))/\∀i m acc H2,W i m acc H2->
 (J.stop i H2/\Q (.ref p) H2)\/(J.go i H2/\∀x H3,J.yld i H2 x H3->g x cσ H3 fun σ4 H4=>Kp cσ σ4/\tt σ4 H4 fun b H5=>
   if b=true then te σ4 H5 fun y H6=>H6 p=some (.lst acc)/\acc.length<sizeLine/\∃m',m'<m/\W (i+1) m' (acc++ [y]) (upd H6 p (.lst (acc++ [y])))else ∃m',m'<m/\W (i+1) m' acc H5)
def Yq (n:Nat) (fs:List (Nat × Str)) (wi:TI) (g:TG) (tt:TT) (te:TE):TE:=fun σ H Q=>wi σ H fun J H1=>∀p,H1 p=none->cIn J (cpσ n fs σ) g tt te Q H1 p
section
variable {X:Cx}{elt tg iter:Expr}{ifs:List Expr}{scope:Scope}{pos:Pos}{wi:TI}{g:TG}{tt:TT}{te:TE}{ts:List Str}{fs:List (Nat × Str)}
theorem Cz.clos (S:Cz X ts fs scope) (ok:X.Ok):∀x∈scope.names,x.2= .free->∃c,X.env.cells.lookup x.1=some c:=fun x d y=>ok.has x.1 (S.free x d y)
theorem Cz.sub (S:Cz X ts fs scope) (ok:X.Ok) {y:Str}{c:Addr} (h:(scope.names.foldl (clF X.env) []).lookup y=some c):X.env.cells.lookup y=some c:=by
 rcases N7 scope.names [] y c (S.clos ok) h with z | z
 . simp at z
 . exact z
theorem T7 {pins:List (Addr × Obj)}{σ:St}{H:Hp}{L s4:Shared}{ex:List Addr} (S:Cz X ts fs scope) (I:Inv X pins σ H L)
 (F:∀b∈ex,Qt X pins H b/\∃o,L.heap.get? b=some o) (a0:s4.os=L.os) (hg:s4.gens=L.gens) (Z:∀b u,L.heap.get? b=some u->s4.heap.get? b=some u)
 (hn:s4.heap.Ns L.heap.objs.size fun _=>none):Inv (cxC X (cpN ts fs) scope ex L H) [] (cpσ ts.length fs σ) H s4:=by
 have ok:=I.ok
 have a4:∀b∈ex,b≠L.heap.objs.size:=fun b G=>by
  obtain⟨_,o,O⟩:=F b G
  exact ne_of_lt (Heap.lt_size O)
 refine⟨⟨ok.mod,S.kind,ok.glob,ok.blt,le_refl _,fun y z c h1 h2=>ok.inj y z c (S.sub ok h1) (S.sub ok h2),fun y U=> ?_,fun y c h _=>absurd h (by intro z;cases z),ok.hd,ok.frames,.inl rfl,fun b G=>⟨a4 b G,fun x c e=>(F b G).1.2.2.2.2.1 x c (S.sub ok e)⟩,
  I.bs,le_trans ok.bsz I.sz,fun b o e G=> ?_,fun b G=> ?_,I.stack,I.stkFree⟩,a0,by rw [hg];exact I.bare,Un.kept Z,⟨_,hn,fun i x v h1 h2 h3=> ?_⟩,fun y c e=> ?_,I.hok.fresh (le_refl _),fun y c e=>I.freeC y c (S.sub ok e),
  fun p hp=>absurd (show p∈([]:List (Addr × Obj))from hp) (by simp),I.hok.kept Z,?_⟩
 . have z:∃k',(k'=NameKind.cell\/k'= .free)/\(scope.names.map fun(n,k)=>if(k==NameKind.free&&X.env.scope.kind== .function&&X.env.kindOf n==some .cell)then(n,NameKind.cell)else(n,k)).lookup y=some k':=by
    rcases U with U | U
    . exact⟨_,.inl rfl,U⟩
    . exact⟨_,.inr rfl,U⟩
   obtain⟨k',a5,hl⟩:=z
   obtain⟨k,hm,h2⟩:=Hw hl
   have hf:k= .free:=by
    rcases h2 with e | ⟨e,_⟩
    . subst e
      rcases a5 with e | e
      . exact absurd e (S.cell _ hm)
      . exact e
    . exact e
   exact Q5 scope.names [] y (.inl ⟨_,hm,hf,rfl⟩)
 . rcases(F b G).1.2.2.2.1 with z | z
   . exact ok.noex b o e z
   . exact absurd (lt_of_lt_of_le (Heap.lt_size e) (le_trans ok.bsz z)) (lt_irrefl _)
 . intro a6
   rcases mem_cons.mp (I.stkSub b a6)with e | e
   . exact(F b G).1.2.1 e
   . exact(F b G).1.2.2.1 e
 . unfold cpσ at h2
   by_cases hi:i<ts.length
   . rw [getElem?_append_left (by simpa using hi),getElem?_replicate]at h2
     split at h2<;>cases h2
   . rw [getElem?_append_right (by simpa using hi),length_replicate]at h2
     have d:(cpN ts fs)[i]? =some x:=h1
     unfold cpN at d
     rw [getElem?_append_right (by omega)]at d
     rw [getElem?_map]at d h2
     cases e:fs[i-ts.length]? with
     | none=>rw [e]at d;cases d
     | some p=>
       rw [e]at d h2
       have ex':p.2=x:=Option.some.inj d
       have W:(σ[p.1]?).join=some v:=Option.some.inj h2
       have e3:σ[p.1]? =some (some v):=by
        cases q:σ[p.1]? with
        | none=>rw [q]at W;cases W
        | some o=>rw [q]at W;cases o with | none=>cases W | some v'=>cases W;rfl
       obtain⟨a1,a2,a3⟩:=S.at' p (List.mem_of_getElem? e)
       obtain⟨m,_,hl⟩:=I.loc
       have kd:=S.free _ a2 rfl
       have a7:Vis X.env.scope p.2:=by
        rcases kd with z | z
        . exact .inr (.inl z)
        . exact .inr (.inr z)
       obtain⟨u,r,l⟩:=hl p.1 p.2 v a1 e3 a7
       refine⟨u,r,?_⟩
       rcases l with⟨z,_⟩ | ⟨_,c,hc,M⟩
       . rcases kd with q | q
         . rw [q]at z;cases z
         . rw [q]at z;cases z
       . obtain⟨c',Y⟩:=Q5 (env:=X.env) scope.names [] p.2 (.inl ⟨_,a2,rfl,rfl⟩)
         have ec:c'=c:=Option.some.inj ((S.sub ok Y).symm.trans hc)
         subst ec
         subst ex'
         refine .inr ⟨?_,c',Y,?_⟩
         . exact a3
         . obtain⟨o,O,hd⟩:=M
           exact⟨o,Z _ _ O,hd⟩
 . obtain⟨v,o,O,hd⟩:=I.cell y c (S.sub ok e)
   exact⟨v,o,Z _ _ O,hd⟩
 . unfold cpσ
   show _=(cpN ts fs).length
   unfold cpN
   simp
theorem Xp {pins:List (Addr × Obj)}{σ M:St}{H H':Hp}{d G:Shared}{h':Heap}{ex:List Addr} (S:Cz X ts fs scope) (I:Inv X pins σ H d) (F:∀b∈ex,Qt X pins H b)
 (J:Inv (cxC X (cpN ts fs) scope ex d H) [] M H' G) (W:Heap.SameBut d.heap.objs.size G.heap h'):Inv X pins σ H' { G with heap:=h'}:=by
 have U:H' d.heap.objs.size=none:=J.free
 have old:∀b o,b≠d.heap.objs.size->G.heap.get? b=some o->h'.get? b=some o:=fun b o y e=>W.extBut b o y e
 have lt:∀b o,d.heap.get? b=some o->b≠d.heap.objs.size:=fun b o e=>ne_of_lt (Heap.lt_size e)
 have u:Un (frs X.stack) ex H H' d.heap G.heap:=J.base
 have Y:Un (frs X.stack) ex H H' d.heap h':=
  ⟨fun b o e n y L=>old b o (lt b o e) (u.keep b o e n y L),fun b o e n y L=>by
   obtain⟨Z,q⟩:=u.slot b o e n y L
   exact⟨Z,old b _ (lt b o e) q⟩,u.free,fun b o e L=>by
   obtain⟨o',q⟩:=u.there b o e L
   exact⟨o',old b o' (lt b o e) q⟩,u.tups,u.frzs,u.tbls⟩
 have O:HOk X.prog X.w H' h':=fun b o e=>by
  have nb:b≠d.heap.objs.size:=fun z=>by rw [z,U]at e;cases e
  refine(J.hok b o e).stay (fun c v hc q=>old c v ?_ q) (fun _ q=>q) fun _ _ q=>q
  rcases hc with z | z
  . rw [z];exact nb
  . intro z2;rw [z2,U]at z;cases z
 exact I.call' (s':={ G with heap:=h'}) (ch:=ex) J.os Y O J.bare fun b y=>⟨(F b y).2.2.2.1,(F b y).2.1,(F b y).2.2.2.2.1,(F b y).2.2.2.2.2⟩
theorem Inv.fade {pins:List (Addr × Obj)}{σ d:St}{H:Hp}{s:Shared} (I:Inv X pins d H s) (k:Kp σ d):Inv X pins σ H s:=by
 refine⟨I.ok,I.os,I.bare,I.base,?_,I.cell,I.free,I.freeC,I.pin,I.hok,k.1.symm.trans I.len⟩
 obtain⟨m,y,F⟩:=I.loc
 exact⟨m,y,fun i x v h1 h2 G=>F i x v h1 (k.2 i v h2) G⟩
theorem Xq {pins:List (Addr × Obj)}{σ:St}{G:Hp}{I s4:Shared}{Q:VK}{R:Result->Shared->Prop}{fp:List Addr}{it p:Addr}{tn:Nat->Heap->Prop}{J:It}{W:Nat->Nat->List V->Hp->Prop}{m0:Nat} (hc:X.calm=true) (S:Cz X ts fs scope)
 (hg:∀ex s H,PG (cxC X (cpN ts fs) scope ex s H) tg g) (ht:∀ex s H,PTs (cxC X (cpN ts fs) scope ex s H) ifs tt) (he:∀ex s H,PE (cxC X (cpN ts fs) scope ex s H) elt te)
 (I3:Inv X pins σ G I) (T:Turn X.prog X.w X.K tg J fp it tn) (Z:∀b∈fp,Qt X pins G b) (lt:∀b∈fp,b<I.heap.objs.size)
 (I4:Inv (cxC X (cpN ts fs) scope fp I G) [] (cpσ ts.length fs σ) G s4) (a9:tn 0 s4.heap) (w0:W 0 m0 [] G)
 (aa:∀Y s6,Inv (cxC X (cpN ts fs) scope fp I G) [] (cpσ ts.length fs σ) Y s6->Q (.ref p) Y->R (.ok .next) s6)
 (a3:∀i m F H2,W i m F H2->(J.stop i H2/\Q (.ref p) H2)\/(J.go i H2/\∀x G,J.yld i H2 x G->g x (cpσ ts.length fs σ) G fun a1 H4=>Kp (cpσ ts.length fs σ) a1/\tt a1 H4 fun b Y=>
   if b=true then te a1 Y fun y H6=>H6 p=some (.lst F)/\F.length<sizeLine/\∃M,M<m/\W (i+1) M (F++ [y]) (upd H6 p (.lst (F++ [y])))else ∃M,M<m/\W (i+1) M F Y)):
 codeAny (model X.prog X.w) X.A (.compLoop (.ListComp elt [⟨tg,iter,ifs,0⟩] scope pos) 0 (.ref it) (.ref p) (cxC X (cpN ts fs) scope fp I G).env) R s4:=by
 have O:∀ {H':Hp},(∀b∈fp,H' b=none)->∀b∈fp,Qt (cxC X (cpN ts fs) scope fp I G) [] H' b:=fun hn b L=>
  ⟨hn b L,ne_of_lt (lt b L),fun z=>(mem_cons.mp (I3.stkSub b z)).elim (Z b L).2.1 (Z b L).2.2.1,.inl L,fun x c e=>(Z b L).2.2.2.2.1 x c (S.sub I3.ok e),fun q hq=>absurd (show q∈([]:List (Addr × Obj))from hq) (by simp)⟩
 refine Pa (fun n s'=>∃i F H',Inv (cxC X (cpN ts fs) scope fp I G) [] (cpσ ts.length fs σ) H' s'/\tn i s'.heap/\(∀b∈fp,H' b=none)/\W i n F H') ?_ m0 ⟨0,[],G,I4,a9,fun b L=>(Z b L).1,w0⟩
 rintro n s5 ⟨i,F,Y,I5,a4,a5,w5⟩
 rcases a3 i n F Y w5 with⟨a6,q⟩ | ⟨go,step⟩
 . refine thn (T.done (cxC X (cpN ts fs) scope fp I G) rfl rfl rfl hc i [] s5 _ Y _ I5 (O a5) a4 a6) fun r s6 ⟨hr,I6⟩=> ?_
   subst hr
   exact aa Y s6 I6 q
 . refine thn (T.item (cxC X (cpN ts fs) scope fp I G) rfl rfl rfl hc i [] s5 _ Y _ I5 (O a5) a4 go) fun r s6 ⟨u,hr,h6⟩=> ?_
   subst hr
   refine thn h6 fun _ s7 ⟨x,H7,I7,r7,y7,a2,ab⟩=> ?_
   have ac:=I7.pinned (O ab) (T.obj _ _ a2)
   refine thn (hg fp I G _ s7 _ H7 x u _ ac r7 (step x H7 y7)) fun _ s8 ⟨a0,H8,I8,kp,q8⟩=> ?_
   have again:∀ {H9:Hp}{s9:Shared}{U:List V}{M:Nat},Inv (cxC X (cpN ts fs) scope fp I G) ([]++Qe fp s7.heap) a0 H9 s9->M<n->W (i+1) M U H9->
    ∃m,m<n/\∃i F H',Inv (cxC X (cpN ts fs) scope fp I G) [] (cpσ ts.length fs σ) H' s9/\tn i s9.heap/\(∀b∈fp,H' b=none)/\W i m F H':=fun {H9 s9 U M} I9 hm w9=>by
    refine⟨M,hm,i+1,U,H9,(I9.fade kp).unpinned,T.keep _ _ _ a2 fun b L o e=>(I9.pin (b,o) (mem_append_right _ (mem_append_right _ (Ii L e)))).1,fun b L=> ?_,w9⟩
    obtain⟨o,e,d⟩:=T.obj _ _ a2 b L
    exact(I9.pin (b,o) (mem_append_right _ (mem_append_right _ (Ii L e)))).2.1
   refine thn (ht fp I G _ s8 a0 H8 _ I8 q8) fun ok s9 ⟨H9,I9,q9⟩=> ?_
   cases ok with
   | false=>
     rw [if_neg Bool.false_ne_true]at q9 ⊢
     obtain⟨M,hm,w9⟩:=q9
     exact again I9 hm w9
   | true=>
     rw [if_pos rfl]at q9 ⊢
     refine thn (he fp I G _ s9 a0 H9 _ I9 q9) fun y ad ⟨yv,ae,af,ag,a7,a8,M,hm,ah⟩=> ?_
     exact thn (G3 _ ad a0 ae (.ref p) [yv] (.ref p) [y] _ af rfl (.cons ag .nil) ⟨p,F,yv,rfl,rfl,a7,a8,ah⟩) fun _ ak ⟨_,am,ai,_,aj⟩=>again ai hm aj
set_option maxHeartbeats 2000000 in
theorem T6 {U:Pos}{pins:List (Addr × Obj)}{σ:St}{H:Hp}{s:Shared}{Q:VK}{QQ:Value->Shared->Prop}{use:Option (Value->Sem Unit)} (hc:X.calm=true) (S:Cz X ts fs scope) (hi:PI X tg iter wi) (hg:∀ex s H,PG (cxC X (cpN ts fs) scope ex s H) tg g) (ht:∀ex s H,PTs (cxC X (cpN ts fs) scope ex s H) ifs tt)
 (he:∀ex s H,PE (cxC X (cpN ts fs) scope ex s H) elt te) (hs:∀x,foldedSetIterable iter X.env x=pure x) (I:Inv X pins σ H s) (h:Yq ts.length fs wi g tt te σ H Q)
 (a3:∀(H3:Hp) (s3:Shared) (fp:List Addr) (p:Addr) (H5:Hp) (s6:Shared),Inv X pins σ H3 s3->(∀b∈fp,Qt X pins H3 b)->Inv (cxC X (cpN ts fs) scope fp s3 H3) [] (cpσ ts.length fs σ) H5 s6->Q (.ref p) H5->compPost (model X.prog X.w) X.A X.xe use QQ (.ref p) s3.heap.objs.size (.ok .next) s6):
 wpAny (model X.prog X.w) X.A (comprehension (.ListComp elt [⟨tg,iter,ifs,0⟩] scope pos) scope X.env U (newList []) false (eval iter X.env) use) QQ X.xe s:=by
 refine wpAny_comprehension_free (use:=use) rfl hs (T5 (S.clos I.ok)) S.kind S.names (thn (hi pins s σ H _ I h) fun v s1 h1=>thn h1 fun a4 L h2=> ?_)
 obtain⟨it,fp,tn,J,H2,rfl,I2,T,Y,f2,hw⟩:=h2
 refine wpAny_newObj_type (wpAny_newFunctionEnv S.cell (by intro y hy;simp at hy) (fun G d F=> ?_) S.kind)
 dsimp only at d F ⊢
 have I3:=I2.lnew (its:=[]) (ys:=[]) (t':=L.toks) .nil (zero_le _)
 have hD:H2 L.heap.objs.size=none:=I2.fresh
 obtain⟨W,⟨m0,w0⟩,Z⟩:=hw _ hD
 have up:∀b o,L.heap.get? b=some o->(L.heap.push { cls:= .type "list",data:= .seq ([]:List Value).toArray}).get? b=some o:=fun b o e=>Heap.get?_push_of_some _ e
 have M:∀b∈fp,Qt X pins (upd H2 L.heap.objs.size (.lst [])) b/\∃o,(L.heap.push { cls:= .type "list",data:= .seq ([]:List Value).toArray}).get? b=some o:=fun b O=>by
  obtain⟨o,ho,_⟩:=T.obj _ _ Y b O
  have nb:b≠L.heap.objs.size:=ne_of_lt (Heap.lt_size ho)
  exact⟨⟨by rw [Bl nb];exact(f2 b O).1,(f2 b O).2⟩,o,up b o ho⟩
 have a0:∀b u,(L.heap.push { cls:= .type "list",data:= .seq ([]:List Value).toArray}).get? b=some u->G.get? b=some u:=fun b u e=>
  F.extBut b u (ne_of_lt (Heap.lt_size e)) (Heap.get?_push_of_some _ e)
 have I4:=T7 (s4:={ L with heap:=G,toks:=L.toks}) S I3 M rfl rfl a0 d
 have a1:tn 0 G:=T.keep _ _ _ Y fun b _ o e=>a0 b o (up b o e)
 have a2:=Xq (elt:=elt) (iter:=iter) (pos:=pos) hc S hg ht he I3 T (fun b O=>(M b O).1) (fun b O=>Heap.lt_size (M b O).2.choose_spec) I4 a1 w0 (fun H5 s6 I6 q=>a3 _ _ fp _ H5 s6 I3 (fun b O=>(M b O).1) I6 q) Z
 exact codeAny_compStart_list a2 (T.self X.A 0 _ _ _ a1 a2)
theorem Wo (F:X.calm=true) (S:Cz X ts fs scope) (hi:PI X tg iter wi) (G:∀ex s H,PG (cxC X (cpN ts fs) scope ex s H) tg g) (L:∀ex s H,PTs (cxC X (cpN ts fs) scope ex s H) ifs tt)
 (M:∀ex s H,PE (cxC X (cpN ts fs) scope ex s H) elt te) (O:∀x,foldedSetIterable iter X.env x=pure x:=by intro _;rfl):
 PE X (.ListComp elt [⟨tg,iter,ifs,0⟩] scope pos) (Yq ts.length fs wi g tt te):=by
 intro pins s σ H Q I h
 rw [eval_ListComp]
 refine T6 (use:=none) F S hi G L M O I h fun H3 s3 fp p U s6 W d y q=> ?_
 obtain⟨m,Y,_⟩:=y.loc
 exact⟨m,Y,fun h' Z=>⟨.ref p,U,Xp S W d y Z,rfl,q⟩⟩
end
section
variable {K:Frag}{H1:Hp}{p:Addr}{cσ:St}{g:TG}{te:TE}{Q:VK}{α:Type}{es:List α}{inj:α->V}
def Wk (J:It) (H1:Hp) (es:List α) (inj:α->V):Prop:=∀i H',Same H1 H'->(es[i]? =none->J.stop i H')/\∀e,es[i]? =some e->J.go i H'/\∀x H3,J.yld i H' x H3->H3=H'/\x=inj e
theorem Abn {a:Addr} (h:SqL K H1 a (es.map inj)):Wk (Itl K a) H1 es inj:=fun i H' s=>by
 have h':=s.seq h
 refine⟨fun e=>⟨_,h',?_⟩,fun e d=>⟨⟨_,inj e,h',by rw [getElem?_map,d];rfl⟩,fun x G ⟨y,F⟩=>⟨y,?_⟩⟩⟩
 . rw [length_map]
   exact List.getElem?_eq_none_iff.mp e
 . have z:=F _ h'
   rw [getElem?_map,d]at z
   exact(Option.some.inj z).symm
theorem Tp {a:Addr} (h:SqT K H1 a (es.map inj)):Wk (Itt K a) H1 es inj:=fun i H' s=>by
 have h':=s.tup h
 refine⟨fun e=>⟨_,h',?_⟩,fun e d=>⟨⟨_,inj e,h',by rw [getElem?_map,d];rfl⟩,fun x G ⟨y,F⟩=>⟨y,?_⟩⟩⟩
 . rw [length_map]
   exact List.getElem?_eq_none_iff.mp e
 . have z:=F _ h'
   rw [getElem?_map,d]at z
   exact(Option.some.inj z).symm
theorem Yu {lo:Int}{n:Nat}:Wk (Itr lo n) H1 (List.range n) (fun i=> .int (lo+(i:Nat))):=fun i H' s=>by
 refine⟨fun e=> ?_,fun e d=> ?_⟩
 . have:=List.getElem?_eq_none_iff.mp e
   show n<=i
   simpa using this
 . obtain⟨h,z⟩:=List.getElem?_eq_some_iff.mp d
   have hi:i<n:=by simpa using h
   have y:i=e:=by simpa using z
   subst y
   exact⟨hi,fun x I ⟨F,G⟩=>⟨F,G⟩⟩
theorem N6 {J:It} (f:α->V) (hz:es.length<=sizeLine) (hp:H1 p=none) (U:Wk J H1 es inj)
 (step:∀e H' R,e∈es->Same H1 H'->(∀G,Same H' G->R (f e) G)->g (inj e) cσ H' fun d F=>Kp cσ d/\te d F R)
 (L:∀H',Same H1 H'->H' p=some (.lst (es.map f))->Q (.ref p) H'):cIn J cσ g Rv te Q H1 p:=by
 have W:∀ {H':Hp}{o:HO},Same H1 H'->Same H1 (upd H' p o):=fun {H' o} s b u e=>by
  rw [Bl (Bs e hp)]
  exact s b u e
 refine⟨fun i m I H'=>m=es.length-i/\i<=es.length/\I=(es.take i).map f/\H' p=some (.lst I)/\Same H1 H',⟨es.length,by simp,zero_le _,by simp,Ah,W (Same.refl _)⟩,?_⟩
 rintro i m I H' ⟨rfl,hi,rfl,M,s⟩
 cases he:es[i]? with
 | none=>
   have hl:=List.getElem?_eq_none_iff.mp he
   have e:i=es.length:=le_antisymm hi hl
   subst e
   rw [take_length]at M
   exact .inl ⟨(U _ _ s).1 he,L _ s M⟩
 | some e=>
   obtain⟨go,yl⟩:=(U _ _ s).2 e he
   refine .inr ⟨go,fun x Y y=> ?_⟩
   obtain⟨rfl,rfl⟩:=yl x Y y
   obtain⟨O,e'⟩:=List.getElem?_eq_some_iff.mp he
   have tk:es.take (i+1)=es.take i++ [e]:=by rw [take_succ,he];rfl
   have q:=step e Y (fun y G=>G p=some (.lst ((es.take i).map f))/\((es.take i).map f).length<sizeLine/\∃Z,Z<es.length-i/\Z=es.length-(i+1)/\i+1<=es.length/\(es.take i).map f++ [y]=(es.take (i+1)).map f/\
    upd G p (.lst ((es.take i).map f++ [y])) p=some (.lst ((es.take i).map f++ [y]))/\Same H1 (upd G p (.lst ((es.take i).map f++ [y])))) (List.mem_of_getElem? he) s
    (fun G s6=>⟨s6 _ _ M,by rw [length_map,length_take];omega,_,by omega,rfl,O,by rw [tk,map_append];rfl,Ah,W (s.trans s6)⟩)
   have eq:∀(R:VK) (B:Hp->Prop),(fun d F=>Kp cσ d/\Rv d F fun b H5=>if b=true then te d H5 R else B H5)=(fun d F=>Kp cσ d/\te d F R):=fun R B=>by
    funext d F
    show(Kp cσ d/\if true=true then te d F R else B F)=_
    rw [if_pos rfl]
   rw [eq]
   exact q
end
section
variable {X:Cx}{K:Frag}{σ:St}{H:Hp}{Q:VK}{R:It->Hp->Prop}
theorem Ad5 {n:Nat}{fs:List (Nat × Str)}{wi:TI}{g:TG}{tt:TT}{te:TE}:Yq n fs wi g tt te σ H Q=wi σ H (fun J H1=>∀p,H1 p=none->cIn J (cpσ n fs σ) g tt te Q H1 p):=rfl
theorem Aes {ta:TA}:Aaf ta σ H R=ta σ H (fun d H1=>∃j:Int,d=[.int j]/\ -(2^62)<=j/\j<2^62/\R (Itr 0 j.toNat) H1):=rfl
theorem Abq {tl:TE}:Aae K tl σ H R=tl σ H (fun x H1=>∃a,x= .ref a/\(∃xs,SqL K H1 a xs)/\R (Itl K a) H1):=rfl
theorem Ael {tl:TE}:Afl K tl σ H R=tl σ H (fun x H1=>∃a,x= .ref a/\(∃xs,SqT K H1 a xs)/\R (Itt K a) H1):=rfl
theorem Ag1 {a:Addr}{p:Addr->Prop}:(∃b,V.ref a= .ref b/\p b)=p a:=propext ⟨fun⟨_,e,h⟩=>by cases e;exact h,fun h=>⟨a,rfl,h⟩⟩
theorem Ag5 {v:Option V}{r:St}:Kp (none::r) (v::r)=True:=by
 refine eq_true ⟨rfl,fun i u e=> ?_⟩
 cases i with
 | zero=>cases e
 | succ i=>exact e
theorem Ag6 {v d:Option V}{r:St}:Kp (none::none::r) (v::d::r)=True:=by
 refine eq_true ⟨rfl,fun i u e=> ?_⟩
 cases i with
 | zero=>cases e
 | succ i=>
   cases i with
   | zero=>cases e
   | succ i=>exact e
theorem Aej {k:Bool}{p:Int->Prop}{q:Bool->Prop}:((∃i,[V.bl k]=[V.int i]/\p i)\/∃d,[V.bl k]=[V.bl d]/\q d)=q k:=
 propext ⟨fun h=>h.elim (fun⟨_,e,_⟩=>by cases e) fun⟨_,e,h⟩=>by cases e;exact h,fun h=> .inr ⟨k,rfl,h⟩⟩
end
end L2
namespace L2
open PySem PySem.Spec PyProof.Rows
def FI (J:It) (g:TG) (tb:TS) (D:Ends) (σ:St) (H:Hp):Prop:=∃W:Nat->Nat->St->Hp->Prop,(∃m,W 0 m σ H)/\∀i m σ H,W i m σ H->
 (J.stop i H/\D.nx σ H)\/(J.go i H/\∃N:St->Hp->Prop,(∀σ' H',N σ' H'->∃m',m'<m/\W (i+1) m' σ' H')/\∀x H',J.yld i H x H'->g x σ H' fun σ2 H2=>tb { D with nx:=N,ct:=N,bk:=D.nx} σ2 H2)
theorem Ag2 {wi:TI}{g:TG}{tb:TS}{D:Ends}{σ:St}{H:Hp}:Af8 wi g tb D σ H=wi σ H (fun J H1=>FI J g tb D σ H1):=rfl
section
variable {K:Frag}{σ:St}{H:Hp}{g:TG}{tb:TS}{D:Ends}{α:Type}{es:List α}{inj:α->V}
def Ab4 (J:It) (H:Hp) (es:List α) (inj:α->V):Prop:=∀i,(es[i]? =none->J.stop i H)/\∀e,es[i]? =some e->J.go i H/\∀x H3,J.yld i H x H3->H3=H/\x=inj e
theorem M8 {a:Addr} (h:SqL K H a (es.map inj)):Ab4 (Itl K a) H es inj:=fun i=>Abn h i H (Same.refl _)
theorem G6 {lo:Int}{n:Nat}:Ab4 (Itr lo n) H (List.range n) (fun i=> .int (lo+(i:Nat))):=fun i=>Yu i H (Same.refl _)
theorem Xz {J:It} (F:List α->St->Hp->Prop) (M:F [] σ H) (O:∀d σ H,F d σ H->Ab4 J H es inj)
 (U:∀d e G σ H,es=d++e::G->F d σ H->g (inj e) σ H fun L H2=>tb { D with nx:=F (d++ [e]),ct:=F (d++ [e]),bk:=D.nx} L H2) (W:∀σ H,F es σ H->D.nx σ H):FI J g tb D σ H:=by
 refine⟨fun i m σ H=>m=es.length-i/\i<=es.length/\F (es.take i) σ H,⟨es.length,by simp,zero_le _,M⟩,?_⟩
 rintro i m σ H ⟨rfl,hi,p⟩
 have w:=O _ _ _ p i
 cases he:es[i]? with
 | none=>
   have e:i=es.length:=le_antisymm hi (List.getElem?_eq_none_iff.mp he)
   subst e
   rw [take_length]at p
   exact .inl ⟨w.1 he,W _ _ p⟩
 | some e=>
   obtain⟨I,Y⟩:=List.getElem?_eq_some_iff.mp he
   have tk:es.take (i+1)=es.take i++ [e]:=by rw [take_succ,he];rfl
   have sp:es=es.take i++e::es.drop (i+1):=by
    rw [<-Y,<-drop_eq_getElem_cons I,take_append_drop]
   refine .inr ⟨(w.2 e he).1,F (es.take i++ [e]),fun Z H' q=>⟨es.length-(i+1),by omega,rfl,I,by rw [tk];exact q⟩,fun x H' y=> ?_⟩
   obtain⟨rfl,rfl⟩:=(w.2 e he).2 x H' y
   exact U _ e _ σ H' sp p
end
end L2
namespace L2
open PySem PySem.Spec PyProof.Rows
section
variable {K:Frag}{σ:St}{H:Hp}{Q:VK}
theorem Aio {r:V->Option Int->Option Int->Hp->VK->Prop}{te:TE}{tl th:TO}:tSl r te tl th σ H Q=te σ H (fun x H1=>tl σ H1 fun l H2=>th σ H2 fun u d=>r x l u d Q):=rfl
theorem Yv {R:Option Int->Hp->Prop}:Rw σ H R=R none H:=rfl
theorem Aer {t:TE}{R:Option Int->Hp->Prop}:Abh t σ H R=t σ H (fun x H1=>∃i,x= .int i/\R (some i) H1):=rfl
theorem Ags {T:String}{r:V->List V->Hp->VK->Prop}{to:TE}:Af7 K T r to σ H Q=to σ H (fun x H1=>tyV K T x H1/\r x [] H1 Q):=rfl
theorem Aih {T:String}{r:V->List V->Hp->VK->Prop}{to:TE}{t:TA}:tBM K T r to t σ H Q=to σ H (fun x H1=>tyV K T x H1/\t σ H1 fun xs H2=>r x xs H2 Q):=rfl
end
section
variable {CX:CXT}{P:Program}{w:World}{K:Frag}{mg:Str->Option Value}{base:Heap}{N:List Str}{qual:Str}{scope:Scope}{f:Addr}{cd:Value}{A:Around}{outer:List Env}{s:Shared}{H H1 H2:Hp}{E:XK}{Q:VK}{a b:Addr}{ns ms:List Int}{g:Bool->Bool}
theorem Agt:(Yz CX P w K mg base N qual scope f cd A outer s H E).K=K:=rfl
theorem Aeq:(Yz CX P w K mg base N qual scope f cd A outer s H E).nox.K=K:=rfl
theorem Ky (ns:List Int):SeqAt.shaped (.list (ns.map PyData.int))=true:=by
 simp [SeqAt.shaped,PyData.canLay0,PyData.depth,ke_canLayAll0,ke_depthAll]
theorem Oa (d:SqL K H a (ns.map V.int)) (y:SqL K H b (ms.map V.int)) (h:Q (.bl (g (decide (ns=ms)))) H):Af1 K g (.ref a) (.ref b) H Q:=
 ⟨_,_,.lints d,.lints y,Ky _,Ky _,by rw [PyData.eqv,Lf];exact h⟩
end
end L2
namespace L2
open PySem PySem.Spec PyProof.Rows
section
variable {c:TT}{tb:TS}{D:Ends}{σ:St}{H:Hp}
def WB (Pv:St->Hp->Prop) (μ:St->Hp->Nat) (tb:TS) (D:Ends) (n:Nat) (σ:St) (H:Hp):Prop:=
 ∃N:St->Hp->Prop,(∀σ' H',N σ' H'->∃m',m'<n/\(m'=μ σ' H'/\Pv σ' H'))/\tb { D with nx:=N,ct:=N,bk:=D.nx} σ H
theorem Abm {y:St->Hp->Prop}{F:St->Hp->Nat}{n:Nat} (h:tb { D with nx:=fun d H'=>y d H'/\F d H'<n,ct:=fun d H'=>y d H'/\F d H'<n,bk:=D.nx} σ H):WB y F tb D n σ H:=
 ⟨_,fun _ _ ⟨p,l⟩=>⟨_,l,rfl,p⟩,h⟩
theorem O1 (d:St->Hp->Prop) (y:St->Hp->Nat) (F:d σ H) (G:∀σ H,d σ H->c σ H fun b H1=>if b=true then WB d y tb D (y σ H) σ H1 else D.nx σ H1):Qm c tb D σ H:=by
 refine⟨fun m σ H=>m=y σ H/\d σ H,⟨_,rfl,F⟩,?_⟩
 rintro m σ H ⟨rfl,p⟩
 exact G σ H p
end
theorem Aeb {a:Addr}{p:Addr->Prop}:(∃b,[V.ref a]=[.ref b]/\p b)=p a:=propext ⟨fun⟨_,e,h⟩=>by cases e;exact h,fun h=>⟨a,rfl,h⟩⟩
section
variable {K:Frag}{σ:St}{H:Hp}{Q:St->Hp->Prop}{R:VK}{p a b:Addr}{v w:V}{i j:Nat}{xs:List V}{ns ms:List Int}{f:Bool->Bool}
theorem Cy (h:SqT K H p [v,w]) (q:Q ((σ.set i (some v)).set j (some w)) H):Abu K 2 (Q6 (Jt i) (Q6 (Jt j) Ae2)) (.ref p) σ H Q:=⟨p,_,rfl,h,rfl,v,_,rfl,w,_,rfl,rfl,q⟩
theorem Aei {to d:TE}{t:Ab3}:Afj to d t v σ H Q=to σ H (fun o H1=>d σ H1 fun i H2=>t o i v H2 fun y=>Q σ y):=rfl
theorem Ua {G:Hp->Prop} (d:H p=some (.lst xs)) (y:j<xs.length) (q:G (upd H p (.lst (xs.set j v)))):Aa9 (.ref p) (.int (j:Nat)) v H G:=by
 refine⟨p,xs,j,j,rfl,rfl,d,?_,q⟩
 unfold ixN
 rw [if_pos (by omega),if_pos (by omega),toNat_natCast]
theorem Tq (h:SqL K H a xs) (e:xs[j]? =some v) (q:R v H):Abw K (.ref a) (.int (j:Nat)) H R:=Hq h (Dl e) q
theorem R9 (d:SqT K H a (ns.map V.int)) (y:SqT K H b (ms.map V.int)) (h:R (.bl (f (decide (ns=ms)))) H):Af2 K f (.ref a) (.ref b) H R:=⟨a,b,ns,ms,rfl,rfl,d,y,h⟩
theorem Lp (ns:List Int) (j:Nat) (x:Int):(ns.map V.int).set j (.int x)=(ns.set j x).map V.int:=by rw [List.map_set]
theorem Lg {ns:List Int}{j:Nat} (h:j<ns.length):(ns.map V.int)[j]? =some (.int ns[j]):=by rw [getElem?_map,getElem?_eq_getElem h];rfl
theorem Js (k:Nat):(replicate k [V.int 0]).flatten=(replicate k (0:Int)).map V.int:=by
 induction k with
 | zero=>rfl
 | succ k d=>rw [replicate_succ,flatten_cons,d,replicate_succ,map_cons];rfl
end
end L2
namespace L2
open PySem PySem.Spec PyProof.Rows
section
variable {prog:Program}{w:World}{A:Around}{E:Value->Shared->Prop}{s:Shared}{j u:Addr}{i:Nat}{xs:Array Value}
theorem nextT {y:Value}{Q:Value->Shared->Prop} (I:s.heap.IsTupleIter j u i) (L:s.heap.IsTuple u xs) (M:xs[i]? =some y)
 (k:∀g,g.IsTupleIter j u (i+1)->Heap.SameBut j s.heap g->Q y { s with heap:=g}):wpAny (model prog w) A (Builtin.SmallTypes.nextOf (.ref j)) Q E s:=by
 obtain⟨Y,G,O,d⟩:=id I
 obtain⟨Z,U,_,nu,W⟩:=L
 unfold Builtin.SmallTypes.nextOf
 refine wpAny_bind (wpAny_callSpecial?_slot (name:=Str.ofString "__next__") I.typeIs F.slot_tuple_iterator_next (wpAny_call_entry F.slot_tuple_iterator_next I.typeIs F.entry_tuple_iterator_next ?_ (F.args_tuple_iterator_next_1 _)))
 show wpAny _ _ (field (.ref j) 0>>=_) _ _ s
 refine wpAny_bind (wpAny_field G d (x:= .ref u) rfl ?_)
 show wpAny _ _ (if(Value.ref u==Value.none)=true then _ else _) _ _ s
 rw [if_neg (show ¬((Value.ref u==Value.none)=true)from Bool.false_ne_true)]
 show wpAny _ _ (field (.ref j) 1>>=_) _ _ s
 refine wpAny_bind (wpAny_field G d (x:= .int i 0) rfl ?_)
 show wpAny _ _ (seqItems? (.ref u)>>=_) _ _ s
 refine wpAny_bind (wpAny_seqItems U W ?_)
 simp only [M,toNat_natCast]
 refine wpAny_bind (wpAny_setField G d (by simp) (wpAny_pure ⟨y,rfl,wpAny_pure (k _ ?_ (Heap.SameBut.update ..))⟩))
 exact⟨_,Heap.get?_update_self _ G (Obj.isFreed_of_fields (Obj.data_mapFields d _)),(Obj.cls_mapFields ..).trans O,by rw [Obj.data_mapFields d];simp [rawInt]⟩
theorem Pk {Q:Value->Shared->Prop} (I:A.handled=none) (d:s.heap.IsTupleIter j u i) (L:s.heap.IsTuple u xs) (M:xs[i]? =none)
 (k:∀g e,Heap.ExtBut j s.heap g->(∃o,g.get? e=some o/\o.cls= .type "StopIteration")->E (.ref e) { s with heap:=g}):wpAny (model prog w) A (Builtin.SmallTypes.nextOf (.ref j)) Q E s:=by
 obtain⟨W,y,Y,G⟩:=id d
 obtain⟨Z,O,_,nu,U⟩:=L
 unfold Builtin.SmallTypes.nextOf
 refine wpAny_bind (wpAny_callSpecial?_slot (name:=Str.ofString "__next__") d.typeIs F.slot_tuple_iterator_next (wpAny_call_entry F.slot_tuple_iterator_next d.typeIs F.entry_tuple_iterator_next ?_ (F.args_tuple_iterator_next_1 _)))
 show wpAny _ _ (field (.ref j) 0>>=_) _ _ s
 refine wpAny_bind (wpAny_field y G (x:= .ref u) rfl ?_)
 show wpAny _ _ (if(Value.ref u==Value.none)=true then _ else _) _ _ s
 rw [if_neg (show ¬((Value.ref u==Value.none)=true)from Bool.false_ne_true)]
 show wpAny _ _ (field (.ref j) 1>>=_) _ _ s
 refine wpAny_bind (wpAny_field y G (x:= .int i 0) rfl ?_)
 show wpAny _ _ (seqItems? (.ref u)>>=_) _ _ s
 refine wpAny_bind (wpAny_seqItems O U ?_)
 simp only [M,toNat_natCast]
 refine wpAny_bind (wpAny_rule (wpAny_bind (wpAny_setField y G (by simp) ?_)))
 show wpAny _ A.in1 (newExc (.type "StopIteration") []>>=_) _ _ _
 refine wpAny_bind ?_
 simp only [newTuple,newExc]
 refine wpAny_bind (wpAny_newObj_type ?_ (by size_fits))
 refine wpAny_bind (m:=firstArgMember _ _) (wpAny_of_eq (a:=Value.none) (by first | rfl | (simp only [firstArgMember];rfl)) ?_)
 refine(wpAny_newObj_type ?_ (by size_fits))
 simp only [raiseNew]
 refine wpAny_bind (wpAny_handled ?_)
 first | rw [show A.in1.handled=none from I] | (rw [I])
 refine wpAny_bind (wpAny_pure (wpAny_throw ?_))
 exact k _ _ (((Heap.SameBut.update ..).extBut.push _).push _) ⟨_,Heap.get?_push_size _ rfl,rfl⟩
theorem Xw {e:Addr}{y old:Value}{Q:Value->Shared->Prop} (he:IsEnum s.heap e j i old) (hj:s.heap.IsTupleIter j u i) (hu:s.heap.IsTuple u xs) (hy:xs[i]? =some y) (ne:e≠j)
 (k:∀g,IsEnumOut g e j ((i:Int)+1) y s.heap.objs.size->g.IsTupleIter j u (i+1)->g.get? s.heap.objs.size=some { cls:= .type "tuple",data:= .seq #[.int i s.toks,y]}->g.objs.size=s.heap.objs.size+1->
   (∀b o,b≠e->b≠j->s.heap.get? b=some o->g.get? b=some o)->Q (.ref s.heap.objs.size) { s with heap:=g,toks:=s.toks+1}):
 wpAny (model prog w) A (Builtin.«enumerate.__next__» ⟨[.ref e],[]⟩) (fun af s'=>∃v,af= .done (.ret v)/\Q v s') E s:=by
 obtain⟨hp,gg,d,tk,os⟩:=s
 show wpAny _ _ (field (.ref e) 2>>=_) _ _ _
 refine wpAny_bind (wpAny_field he rfl (x:= .ref j) rfl ?_)
 refine wpAny_bind (nextT hj hu hy fun U a5 F=> ?_)
 replace F:Heap.SameBut j hp U:=F
 have a0:IsEnum U e j i old:=(F.2 e ne).trans he
 show wpAny _ _ (field (.ref e) 3>>=_) _ _ ⟨U,gg,d,tk,os⟩
 refine wpAny_bind (wpAny_field a0 rfl (x:=rawInt i) rfl ?_)
 show wpAny _ _ (field (.ref e) 4>>=_) _ _ ⟨U,gg,d,tk,os⟩
 refine wpAny_bind (wpAny_field a0 rfl (x:= .none) rfl ?_)
 show wpAny _ _ (mkInt i>>=_) _ _ ⟨U,gg,d,tk,os⟩
 refine wpAny_bind (wpAny_mkInt ?_)
 show wpAny _ _ (setField (.ref e) 3 (rawInt ((i:Int)+1))>>=_) _ _ ⟨U,gg,d,tk+1,os⟩
 refine wpAny_bind (wpAny_setField_rec a0 (by simp) fun Z a1 G=> ?_)
 replace G:Heap.SameBut e U Z:=G
 replace a1:IsEnum Z e j ((i:Int)+1) old:=a1
 show wpAny _ _ (setField (.ref e) 4 .none>>=_) _ _ ⟨Z,gg,d,tk+1,os⟩
 refine wpAny_bind (wpAny_setField_rec a1 (by simp) fun W a2 I=> ?_)
 replace I:Heap.SameBut e Z W:=I
 replace a2:IsEnum W e j ((i:Int)+1) old:=a2
 show wpAny _ _ (newTuple [.int i tk,y]>>=_) _ _ ⟨W,gg,d,tk+1,os⟩
 refine wpAny_bind (wpAny_newTuple ?_)
 have a3:IsEnum (W.push { cls:= .type "tuple",data:= .seq #[.int i tk,y]}) e j ((i:Int)+1) old:=Heap.get?_push_of_some _ a2
 generalize hg:W.push { cls:= .type "tuple",data:= .seq #[.int i tk,y]}=Y at a3
 have sz:W.objs.size=hp.objs.size:=by rw [I.1,G.1,F.1]
 have lt:e<hp.objs.size:=Heap.lt_size he
 have ab:Y.get? hp.objs.size=some { cls:= .type "tuple",data:= .seq #[.int i tk,y]}:=by rw [<-hg,<-sz];exact Heap.get?_push_size _ rfl
 have ac:Y.objs.size=hp.objs.size+1:=by rw [<-hg,Heap.size_push,sz]
 have ad:∀b o,b≠e->b≠j->hp.get? b=some o->Y.get? b=some o:=fun b o h1 h2 hb=>by
  rw [<-hg];exact Heap.get?_push_of_some _ (I.extBut b o h1 (G.extBut b o h1 (F.extBut b o h2 hb)))
 have ae:Y.IsTupleIter j u (i+1):=by
  rw [<-hg];obtain⟨o,ho,r⟩:=(a5.extBut G.extBut (Ne.symm ne)).extBut I.extBut (Ne.symm ne);exact⟨o,Heap.get?_push_of_some _ ho,r⟩
 show wpAny _ _ (Builtin.SmallTypes.ownedTupleIsFree (.ref e)>>=_) _ _ ⟨Y,gg,d,tk+1,os⟩
 rw [sz]
 clear hg a2 I a1 G a0 F a5 sz W Z U
 refine wpAny_bind ?_
 . unfold Builtin.SmallTypes.ownedTupleIsFree
   refine wpAny_bind (wpAny_field a3 rfl (x:= .none) rfl (wpAny_pure ?_))
   simp only [if_true]
   refine wpAny_bind (wpAny_rule ?_)
   refine wpAny_bind (wpAny_field a3 rfl (x:=old) rfl ?_)
   refine wpAny_bind (wpAny_setField_rec a3 (by simp) fun a4 a6 L=> ?_)
   replace L:Heap.SameBut e Y a4:=L
   replace a6:IsEnum a4 e j ((i:Int)+1) y:=a6
   show wpAny _ _ (Builtin.SmallTypes.ownedTupleHandOut (.ref e) (.ref hp.objs.size)>>=_) _ _ ⟨a4,gg,d,tk+1,os⟩
   refine wpAny_bind ?_
   . unfold Builtin.SmallTypes.ownedTupleHandOut
     refine wpAny_bind (wpAny_setField_rec a6 (by simp) fun a7 a8 M=> ?_)
     replace M:Heap.SameBut e a4 a7:=M
     replace a8:IsEnumOut a7 e j ((i:Int)+1) y hp.objs.size:=a8
     refine wpAny_setField_rec a8 (by simp) fun a9 aa O=> ?_
     replace O:Heap.SameBut e a7 a9:=O
     replace aa:IsEnumOut a9 e j ((i:Int)+1) y hp.objs.size:=aa
     refine wpAny_bind (wpAny_letGo (wpAny_pure ⟨_,rfl,k a9 aa ?_ ?_ ?_ ?_⟩))
     . exact((ae.extBut L.extBut (Ne.symm ne)).extBut M.extBut (Ne.symm ne)).extBut O.extBut (Ne.symm ne)
     . exact O.extBut _ _ (ne_of_gt lt) (M.extBut _ _ (ne_of_gt lt) (L.extBut _ _ (ne_of_gt lt) ab))
     . rw [O.1,M.1,L.1,ac]
     . exact fun b o h1 h2 hb=>O.extBut b o h1 (M.extBut b o h1 (L.extBut b o h1 (ad b o h1 h2 hb)))
theorem Xx {e:Addr}{y old:Value}{Q:Option Value->Shared->Prop} (G:IsEnum s.heap e j i old) (I:s.heap.IsTupleIter j u i) (L:s.heap.IsTuple u xs) (M:xs[i]? =some y) (O:e≠j)
 (k:∀g,IsEnumOut g e j ((i:Int)+1) y s.heap.objs.size->g.IsTupleIter j u (i+1)->g.get? s.heap.objs.size=some { cls:= .type "tuple",data:= .seq #[.int i s.toks,y]}->g.objs.size=s.heap.objs.size+1->
   (∀b o,b≠e->b≠j->s.heap.get? b=some o->g.get? b=some o)->Q (some (.ref s.heap.objs.size)) { s with heap:=g,toks:=s.toks+1}):wpAny (model prog w) A (pyNext (.ref e)) Q E s:=by
 have ty:s.TypeIs (.ref e) "enumerate":=⟨_,G,rfl⟩
 unfold pyNext
 exact wpAny_bind (wpAny_attempt (wpAny_callSpecial?_slot (name:=Str.ofString "__next__") ty F.slot_enumerate_next (wpAny_call_entry F.slot_enumerate_next ty F.entry_enumerate_next
  (Xw G I L M O fun g a b c d f=>wpAny_pure (k g a b c d f)) (F.args_enumerate_next_1 _))))
theorem Xy {e:Addr}{old:Value}{Q:Option Value->Shared->Prop} (y:A.handled=none) (d:IsEnum s.heap e j i old) (G:s.heap.IsTupleIter j u i) (I:s.heap.IsTuple u xs) (L:xs[i]? =none)
 (k:∀g,Heap.ExtBut j s.heap g->Q none { s with heap:=g}):wpAny (model prog w) A (pyNext (.ref e)) Q E s:=by
 have ty:s.TypeIs (.ref e) "enumerate":=⟨_,d,rfl⟩
 unfold pyNext
 refine wpAny_bind (wpAny_attempt (wpAny_callSpecial?_slot (name:=Str.ofString "__next__") ty F.slot_enumerate_next (wpAny_call_entry F.slot_enumerate_next ty F.entry_enumerate_next ?_ (F.args_enumerate_next_1 _))))
 show wpAny _ _ (field (.ref e) 2>>=_) _ _ _
 refine wpAny_bind (wpAny_field d rfl (x:= .ref j) rfl ?_)
 refine wpAny_bind (Pk y G I L fun g x M ⟨o,O,U⟩=> ?_)
 refine wpAny_bind (wpAny_isInstance (T:="StopIteration") (b:=true) ⟨o,O,U⟩ isSubtype_stop ?_)
 exact wpAny_pure (k _ M)
end
open AutoSeq1 (wpAny_loadPart')in
theorem V0 (u:Addr) (xs:Array Value) (o:Obj) (n:Nat) (I:o.cls= .type "tuple") (L:o.data= .seq xs n):
 Meets (Builtin.«enumerate.__new__» ⟨[.type "enumerate",.ref u],[]⟩) (fun _ R s=>s.heap.get? u=some o/\R (.ok (.ret (.ref (s.heap.push { cls:= .type "tuple_iterator",data:= .fields #[.ref u,.int 0 0]}).objs.size)))
  { s with heap:=(s.heap.push { cls:= .type "tuple_iterator",data:= .fields #[.ref u,.int 0 0]}).push { cls:= .type "enumerate",data:= .fields #[.none,.bool false,.ref s.heap.objs.size,rawInt 0,.none,.none]}}):=
 .of_wp fun prog w A R s h=>by
  obtain⟨M,g,d,tk,O⟩:=s;obtain⟨y,h⟩:=h
  obtain⟨U,Y,F,W⟩:=o
  obtain rfl:U= .type "tuple":=I
  obtain rfl:F= .seq xs n:=L
  have Z:=sub_enumerate
  have G:Heap.IsTuple (Shared.heap ⟨M,g,d,tk,O⟩) u xs:=⟨_,y,rfl,n,rfl⟩
  wp_walk using wpAny_loadPart' y
  refine wpAny_stack_any fun st=>wpAny_pure ?_
  split
  . rename_i c _ _ _ _ _
    cases(c==Value.type "enumerate")
    . wp_walk using wpAny_loadPart' y,wpAny_pyIter_tuple G
      exact⟨_,rfl,h⟩
    . wp_walk using wpAny_loadPart' y,wpAny_pyIter_tuple G
      exact⟨_,rfl,h⟩
  . wp_walk using wpAny_loadPart' y,wpAny_pyIter_tuple G
    exact⟨_,rfl,h⟩
section
variable {X:Cx}{pins:List (Addr × Obj)}{σ:St}{H:Hp}{s:Shared}{h':Heap}
theorem Inv.turnL {t':Nat}{fp:List Addr} (I:Inv X pins σ H s) (k:∀b o,b∉fp->s.heap.get? b=some o->h'.get? b=some o) (y:∀b∈fp,Qt X pins H b):Inv X pins σ H { s with heap:=h',toks:=t'}:=by
 have G:∀b u,H b=some u->b∉fp:=fun b u e z=>by
  have:=(y b z).1
  rw [this]at e
  cases e
 refine I.step (g':=s.gens) (d':=s.drawn) (ch:=fp) (fun b F=>⟨(y b F).2.2.2.1,(y b F).2.1,(y b F).2.2.2.2.1,(y b F).2.2.2.2.2⟩) (fun b o _ _ d e _=>k b o d e) (fun b o _ _ d e _=>⟨o.slots,k b o d e⟩) (fun _ _ _ _ n=>n)
  (fun b o d e=>⟨o,k b o d e⟩) (fun _ _ e=>e) (fun _ _ _ e=>e) (fun b ps e=>⟨#[],by rw [e];simp⟩) (fun m L=> ?_) (fun b u e=> ?_) I.bare
 . obtain⟨o,es,ep,M,r⟩:=L
   exact⟨o,es,ep,k _ o (fun z=>(y _ z).2.1 rfl) M,r⟩
 . refine(I.hok b u e).stay (fun c v d q=>k c v ?_ q) (fun _ q=>q) fun _ _ q=>q
   rcases d with z | z
   . rw [z]
     exact G b u e
   . exact G c _ z
end
def Ite (K:Frag) (a:Addr):It:=
 ⟨fun i H=>∃xs x,SqT K H a xs/\xs[i]? =some x,fun i H x H'=>∃p v,(∀xs,SqT K H a xs->xs[i]? =some v)/\H p=none/\x= .ref p/\H'=upd H p (.tup [.int (i:Nat),v]),fun i H=>∃xs,SqT K H a xs/\xs.length<=i⟩
theorem Abl {P:Program}{w:World}{K:Frag}{el:List Expr}{x1}{tp:Pos} (a e j:Addr) (ne:e≠j):Turn P w K (.Tuple el x1 tp) (Ite K a) [e,j] e (fun i h=>(∃old,IsEnum h e j i old)/\h.IsTupleIter j a i) where
 mem:=by simp
 obj:=fun i h st b d=>by
  obtain⟨⟨old,F⟩,oj,M,cj,dj⟩:=st
  rcases mem_cons.mp d with rfl | d
  . exact⟨_,F,fun v z=>by cases(show Data.fields _=Data.cell v from z)⟩
  . have z:b=j:=by simpa using d
    subst z
    exact⟨oj,M,fun v z=>by rw [dj]at z;cases z⟩
 keep:=fun i h h' st k=>by
  obtain⟨⟨old,F⟩,oj,M,r⟩:=st
  exact⟨⟨old,k e (by simp) _ F⟩,oj,k j (by simp) _ M,r⟩
 item:=by
  intro X hP hw hK hc i pins s σ H E I Y st hg
  subst hP hw hK
  obtain⟨xs,x,Z,hx⟩:=hg
  obtain⟨L,rv,p,hz⟩:=I.tuple Z
  obtain⟨u,hu,ru⟩:=rv.get hx
  obtain⟨⟨old,F⟩,hj⟩:=st
  refine Xx F hj (show s.heap.IsTuple a L.toArray from p) (y:=u) (by simpa using hu) ne fun g O a0 hT a5 kk=>⟨_,rfl,?_⟩
  refine wpAny_letOwnedTupleGo_enum O fun g2 a1 G=> ?_
  replace G:Heap.SameBut e g g2:=G
  have a2:e<s.heap.objs.size:=Heap.lt_size F
  have a3:j<s.heap.objs.size:=by
   obtain⟨_,M,_⟩:=hj
   exact Heap.lt_size M
  have hn:H s.heap.objs.size=none:=I.fresh
  have I1:Inv X pins σ (upd H s.heap.objs.size (.tup [.int (i:Nat),x])) { s with heap:=s.heap.push { cls:= .type "tuple",data:= .seq #[.int i s.toks,u]},toks:=s.toks+1}:=
   I.laid (fun b o q=>Heap.get?_push_of_some _ q) (le_refl _) ⟨by show 2<=sizeLine;decide,[.int i s.toks,u],.cons ⟨_,rfl⟩ (.cons ru .nil),⟨_,Heap.get?_push_size _ rfl,rfl,_,rfl⟩⟩
  have U:∀b∈ [e,j],Qt X pins (upd H s.heap.objs.size (.tup [.int (i:Nat),x])) b:=fun b d=>by
   have nb:b≠s.heap.objs.size:=by
    rcases mem_cons.mp d with rfl | a4
    . exact ne_of_lt a2
    . have z:b=j:=by simpa using a4
      subst z
      exact ne_of_lt a3
   exact⟨by rw [Bl nb];exact(Y b d).1,(Y b d).2⟩
  have I2:=I1.turnL (h':=g2) (t':=s.toks+1) (fp:=[e,j]) (fun b o d q=>by
   have n1:b≠e:=fun z=>d (by simp [z])
   have n2:b≠j:=fun z=>d (by simp [z])
   refine(G.2 b n1).trans ?_
   rcases Heap.get?_push_cases q with⟨rfl,rfl⟩ | q0
   . exact hT
   . exact kk b o n1 n2 q0) U
  refine⟨.ref s.heap.objs.size,_,I2,rfl,⟨_,x,fun ys hy=>by rw [I.tuple_inj hy Z];exact hx,hn,rfl,rfl⟩,⟨⟨_,by simpa using a1⟩,?_⟩,fun b d=>(U b d).1⟩
  exact a0.extBut G.extBut (Ne.symm ne)
 done:=by
  intro X hP hw hK hc i pins s σ H E I Y st hg
  subst hP hw hK
  obtain⟨xs,Z,hx⟩:=hg
  obtain⟨L,rv,p,hz⟩:=I.tuple Z
  obtain⟨⟨old,F⟩,hj⟩:=st
  have hl:=rv.length
  exact Xy (I.ok.hd hc) F hj (show s.heap.IsTuple a L.toArray from p) (by simp;omega) fun g eb=>⟨rfl,I.turnL (t':=s.toks) (fp:=[e,j]) (fun b o d q=>eb b o (fun z=>d (by simp [z])) q) Y⟩
 self:=fun _ _ _ _ _ st h=>by
  obtain⟨⟨old,F⟩,_⟩:=st
  exact wpAny_pyIter_enum F h
section
variable {X:Cx}{a:Expr}{ta:TA}{el:List Expr}{x1}{tp p pos:Pos}
def iEn (K:Frag) (ta:TA):TI:=fun σ H R=>ta σ H fun vs H1=>∃a,vs=[.ref a]/\(∃xs,SqT K H1 a xs)/\R (Ite K a) H1
theorem Ac9 (Y:Gl X "enumerate") (Z:X.mg "enumerate"=none) (ha:PA X [a] ta) (hs:starEach [a] X.env=[(false,eval a X.env)]:=by rfl):PI X (.Tuple el x1 tp) (.Call (.Name "enumerate" p) [a] [] pos) (iEn X.K ta):=by
 intro pins s σ H R I h
 refine Call_ (Ma I Y Z boot_enumerate (PyProof.Rows.callWith_type1 (thn (ha pos pins s σ H _ I h) fun us d ⟨vs,H1,M,r1,q1⟩=> ?_) hs rfl))
 obtain⟨b,rfl,⟨xs,hq⟩,q⟩:=q1
 obtain⟨v,rfl,rv⟩:=vals1 r1
 cases rv
 obtain⟨G,rr,pl,hz⟩:=M.tuple hq
 obtain⟨o,ho,hc,n,hd⟩:=(show d.heap.IsTuple b G.toArray from pl)
 refine callType_new F.called_enumerate (by decide) (F.typeCall_enumerate_1 _) (F.newCall_enumerate_1 _) (fun obj=>F.args_object_init_2 obj _) F.entry_enumerate_new (V0 b G.toArray o n hc hd) ⟨ho,?_⟩
 have U:(d.heap.push { cls:= .type "tuple_iterator",data:= .fields #[.ref b,.int 0 0]}).objs.size=d.heap.objs.size+1:=Heap.size_push ..
 show _/\_
 rw [U]
 have O:IsEnum ((d.heap.push { cls:= .type "tuple_iterator",data:= .fields #[.ref b,.int 0 0]}).push { cls:= .type "enumerate",data:= .fields #[.none,.bool false,.ref d.heap.objs.size,rawInt 0,.none,.none]}) (d.heap.objs.size+1) d.heap.objs.size ((0:Nat):Int) .none:=by
  have W:=Heap.get?_push_size (d.heap.push { cls:= .type "tuple_iterator",data:= .fields #[.ref b,.int 0 0]}) (o:={ cls:= .type "enumerate",data:= .fields #[.none,.bool false,.ref d.heap.objs.size,rawInt 0,.none,.none]}) rfl
  rw [U]at W
  exact W
 have hj:Heap.IsTupleIter ((d.heap.push { cls:= .type "tuple_iterator",data:= .fields #[.ref b,.int 0 0]}).push { cls:= .type "enumerate",data:= .fields #[.none,.bool false,.ref d.heap.objs.size,rawInt 0,.none,.none]}) d.heap.objs.size b 0:=
  ⟨_,Heap.get?_push_of_some _ (Heap.get?_push_size _ rfl),rfl,rfl⟩
 have I2:Inv X pins σ H1 { d with heap:=(d.heap.push { cls:= .type "tuple_iterator",data:= .fields #[.ref b,.int 0 0]}).push { cls:= .type "enumerate",data:= .fields #[.none,.bool false,.ref d.heap.objs.size,rawInt 0,.none,.none]}}:=
  M.kept (t':=d.toks) fun c o' e=>Heap.get?_push_of_some _ (Heap.get?_push_of_some _ e)
 refine⟨⟨_,O,rfl⟩,wpAny_pyIter_enum O ⟨d.heap.objs.size+1,[d.heap.objs.size+1,d.heap.objs.size],_,_,H1,rfl,I2,Abl b _ _ (ne_of_gt (Nat.lt_succ_self _)),⟨⟨_,O⟩,hj⟩,fun c y=> ?_,q⟩⟩
 have L:d.heap.objs.size<=c:=by
  rcases mem_cons.mp y with rfl | y
  . exact Nat.le_succ _
  . have z:c=d.heap.objs.size:=by simpa using y
    exact le_of_eq z.symm
 exact M.fpOk L (M.hok.fresh L)
end
theorem Ag3 {K:Frag}{σ:St}{H:Hp}{ta:TA}{R:It->Hp->Prop}:iEn K ta σ H R=ta σ H (fun d H1=>∃a,d=[.ref a]/\(∃xs,SqT K H1 a xs)/\R (Ite K a) H1):=rfl
theorem T9 {K:Frag}{σ:St}{H:Hp}{g:TG}{tb:TS}{D:Ends}{α:Type}{es:List α}{inj:α->V}{a:Addr} (F:List α->St->Hp->Prop) (O:F [] σ H) (U:∀d σ H,F d σ H->SqT K H a (es.map inj))
 (Y:∀d e G σ H p,es=d++e::G->F d σ H->H p=none->g (.ref p) σ (upd H p (.tup [.int (d.length:Nat),inj e])) fun L H2=>tb { D with nx:=F (d++ [e]),ct:=F (d++ [e]),bk:=D.nx} L H2) (Z:∀σ H,F es σ H->D.nx σ H):FI (Ite K a) g tb D σ H:=by
 refine⟨fun i m σ H=>m=es.length-i/\i<=es.length/\F (es.take i) σ H,⟨es.length,by simp,zero_le _,O⟩,?_⟩
 rintro i m σ H ⟨rfl,hi,p⟩
 have w:=U _ _ _ p
 cases he:es[i]? with
 | none=>
   have e:i=es.length:=le_antisymm hi (List.getElem?_eq_none_iff.mp he)
   subst e
   rw [take_length]at p
   exact .inl ⟨⟨_,w,by rw [length_map];exact le_refl _⟩,Z _ _ p⟩
 | some e=>
   obtain⟨I,ee⟩:=List.getElem?_eq_some_iff.mp he
   have tk:es.take (i+1)=es.take i++ [e]:=by rw [take_succ,he];rfl
   have sp:es=es.take i++e::es.drop (i+1):=by
    rw [<-ee,<-drop_eq_getElem_cons I,take_append_drop]
   refine .inr ⟨⟨_,inj e,w,by rw [getElem?_map,he];rfl⟩,F (es.take i++ [e]),fun a0 H' q=>⟨es.length-(i+1),by omega,rfl,I,by rw [tk];exact q⟩,fun x H' y=> ?_⟩
   obtain⟨b,v,y1,y2,rfl,rfl⟩:=y
   have M:=y1 _ w
   rw [getElem?_map,he]at M
   obtain rfl:inj e=v:=Option.some.inj M
   have hl:(es.take i).length=i:=by rw [length_take];omega
   have z:=Y _ e _ σ H b sp p y2
   rw [hl]at z
   exact z
end L2
namespace L2
open PySem PySem.Spec PyProof.Rows
section
variable {X:Cx}
theorem Xj (Y:X.calm=true):Gx X (.builtin "all") (fun xs H Q=>∃(a:Addr) (bs:List Bool),xs=[.ref a]/\SqL X.K H a (bs.map V.bl)/\Q (.bl (bs.all id)) H):=by
 intro pins s σ H xs us Q I r h
 obtain⟨a,bs,rfl,Z,q⟩:=h
 obtain⟨u,rfl,ru⟩:=vals1 r
 cases ru
 obtain⟨d,L,p,hz⟩:=I.list Z
 have F:s.heap.IsList a d.toArray:=p.isList
 have lt:a<s.heap.objs.size:=by
  obtain⟨_,e,_⟩:=F
  exact Heap.lt_size e
 have ln:d.length=bs.length:=by
  have:=L.length
  rw [length_map]at this
  exact this.symm
 refine call_all_walk (wpAny_pyIter_list F ?_)
 refine⟨s.heap.objs.size,[s.heap.objs.size,a],[s.heap.objs.size],d.toArray.size,_,_,fun i=>(bs[i]?).getD true,rfl,Walks.list (A:=X.A.in1) (I.ok.hd Y) _ a (ne_of_lt lt) d.toArray,
  ⟨⟨_,Heap.get?_push_size _ rfl,rfl,rfl⟩,F.push _⟩,fun i v s' Q' E' hP M=> ?_,fun g tk hk=> ?_⟩
 . have O:d[i]? =some v:=by simpa using hP
   have hi:i<d.length:=(List.getElem?_eq_some_iff.mp O).1
   have U:bs[i]? =some bs[i]:=getElem?_eq_getElem (by omega)
   obtain⟨w',W,G⟩:=L.get (show(bs.map V.bl)[i]? =some (V.bl bs[i])by rw [getElem?_map,U];rfl)
   rw [O]at W
   cases W
   cases G
   simp only [U,getD_some]at M
   exact wpAny_truthy_bool M
 . have e:((List.range d.toArray.size).all fun i=>(bs[i]?).getD true)=bs.all id:=by
    rw [size_toArray,ln,Bool.eq_iff_iff,all_eq_true,all_eq_true]
    constructor
    . intro h x hx
      obtain⟨i,hi,ei⟩:=getElem_of_mem hx
      have:=h i (mem_range.mpr hi)
      rw [getElem?_eq_getElem hi,ei]at this
      exact this
    . intro h i hi
      have y:=mem_range.mp hi
      rw [getElem?_eq_getElem y]
      exact h _ (getElem_mem y)
   rw [e]
   exact⟨.bl _,H,I.kept (t':=tk) fun b o q'=>hk b o (fun hm=>by rw [mem_singleton.mp hm]at q';exact lt_irrefl _ (Heap.lt_size q')) (Heap.get?_push_of_some _ q'),rfl,q⟩
end
section
variable {X:Cx}
theorem Vu (K:Frag) (h:X.K=K:=by rfl):IxR X (Af3 K):=by subst h;exact Hv
end
section
variable {X:Cx}
theorem Xl:Gx X (.builtin "isinstance") (fun xs H Q=>∃(a:Addr) (ys:List V) (T:String) (b:Bool),xs=[.ref a,.ty T]/\SqT X.K H a ys/\kitOne X.K (.type "tuple") (.type T)=some b/\Q (.bl b) H):=by
 intro pins s σ H xs M Q I r h
 obtain⟨a,ys,T,b,rfl,y,F,q⟩:=h
 obtain⟨u,c,rfl,G,L⟩:=vals2 r
 cases L
 cases G
 obtain⟨d,O,p,_⟩:=I.tuple y
 obtain⟨o,h1,h2,_⟩:=(show s.heap.IsTuple a d.toArray from p)
 exact kia_one kitx_tuple I.kIn ⟨o,h1,h2⟩ F (fun z=>nomatch z) fun tk=>⟨.bl b,H,I.tok tk,rfl,q⟩
end
section
variable {prog:Program}{w:World}{A:Around}{E:Value->Shared->Prop}{s:Shared}
theorem W8 {t y:Addr}{ys:Array Value}{I L:Value}{lo hi:Option Int}{Q:Value->Shared->Prop} (d:IsTup s.heap t ys) (M:s.heap.IsSliceOf y I L .none) (O:IsPart I lo) (U:IsPart L hi)
 (W:HT.sIx ys.size 0 lo=0) (Y:HT.sIx ys.size ys.size hi=ys.size) (h:Q (.ref t) s):wpAny (model prog w) A (getItem (.ref t) (.ref y)) Q E s:=by
 obtain⟨Z,F,cs,ds⟩:=id M
 have ty:s.TypeIs (.ref y) "slice":=⟨Z,F,cs⟩
 unfold getItem
 try with_reducible refine(wpAny_holding ?_)
 first | refine(wpAny_bind (wpAny_pure ?_)) | skip
 refine wpAny_bind (wpAny_sequenceKey d.typeIs (by decide) (?_))
 refine wpAny_bind (wpAny_callSpecial?_slot (name:=Str.ofString "__getitem__") d.typeIs PyProof.Rows.slot_tuple_getitem (wpAny_call_entry PyProof.Rows.slot_tuple_getitem d.typeIs entry_tuple_getitem ?_ (args_tuple_getitem _ _)))
 show wpAny _ A.in1 (Builtin.Tuple.tupleItemsOf (.ref t)>>=_) _ _ s
 refine wpAny_bind (tupleItemsOf_ d (?_))
 refine wpAny_bind (wpAny_typeOf ty ?_)
 rw [if_pos (by decide)]
 refine wpAny_bind (HT.Hi M O U ?_)
 have G:(((HT.sIx ys.size 0 lo:Nat):Int)==0&&(1:Int)==1&&(HT.sIx ys.size ys.size hi-HT.sIx ys.size 0 lo)==ys.size)=true:=by
  rw [W,Y]
  simp
 show wpAny _ A.in1 (if(((HT.sIx ys.size 0 lo:Nat):Int)==0&&(1:Int)==1&&(HT.sIx ys.size ys.size hi-HT.sIx ys.size 0 lo)==ys.size)=true then _ else _) _ _ s
 rw [if_pos G]
 refine wpAny_bind ?_
 unfold Builtin.Tuple.tupleIsExact
 refine wpAny_bind (wpAny_typeOf d.typeIs (wpAny_pure ?_))
 rw [if_pos (by decide)]
 exact wpAny_bind (wpAny_rule (wpAny_pure ⟨_,rfl,wpAny_pure h⟩))
end
section
variable {X:Cx}
def Aif (K:Frag):V->Option Int->Option Int->Hp->VK->Prop:=fun x lo hi H Q=>∃a xs,x= .ref a/\SqT K H a xs/\∀z H',Same H H'->SqT K H' z (Qs xs lo hi)->Q (.ref z) H'
theorem Abb:SlR X (Aif X.K):=by
 intro pins s σ H x v Y Z lo hi sl Q I L M O U h
 obtain⟨a,xs,rfl,F,q⟩:=h
 by_cases y:HT.sIx xs.length 0 lo=0/\HT.sIx xs.length xs.length hi=xs.length
 . cases L
   obtain⟨G,r,W,hz⟩:=I.tuple F
   have d:G.toArray.size=xs.length:=by rw [size_toArray];exact r.length.symm
   refine⟨"tuple",_,PyProof.Rows.slot_tuple_getitem.lookup,W.typeIs,W8 W M O U (by rw [d];exact y.1) (by rw [d];exact y.2) ⟨.ref a,H,I,rfl,q a H (Same.refl _) ?_⟩⟩
   have e:Qs xs lo hi=xs:=by
    unfold Qs
    rw [y.1,y.2,drop_zero,sub_zero,take_length]
   rw [e]
   exact F
 . exact Adv pins s σ H _ v Y Z lo hi sl Q I L M O U ⟨a,xs,rfl,F,y,fun p hp=>q p _ (Same.upd hp _) (.of Ah)⟩
def Aic (K:Frag):R2:=fun x y H Q=>∃a xs i v,x= .ref a/\y= .int i/\(SqL K H a xs\/SqT K H a xs)/\atI xs i=some v/\Q v H
theorem Aci:IxR X (Aic X.K):=by
 intro value slice pins s σ H x y v u Q I F G h L
 obtain⟨a,xs,i,w,rfl,rfl,d,e,q⟩:=h
 rcases d with d | d
 . exact Dd value slice pins s σ H _ _ v u Q I F G ⟨a,xs,i,w,rfl,rfl,d,e,q⟩ L
 . exact Hv value slice pins s σ H _ _ v u Q I F G ⟨a,xs,i,w,rfl,rfl,d,e,q⟩ L
def Ah1 (K:Frag):V->Option Int->Option Int->Hp->VK->Prop:=fun x lo hi H Q=>∃a xs,x= .ref a/\((SqL K H a xs/\∀z H',Same H H'->SqL K H' z (Qs xs lo hi)->Q (.ref z) H')\/(SqT K H a xs/\∀z H',Same H H'->SqT K H' z (Qs xs lo hi)->Q (.ref z) H'))
theorem Adu:SlR X (Ah1 X.K):=by
 intro pins s σ H x v d y lo hi F Q I G L M O h
 obtain⟨a,xs,rfl,h | h⟩:=h
 . exact Wz pins s σ H _ v d y lo hi F Q I G L M O ⟨a,xs,rfl,h.1,fun p U=>h.2 p _ (Same.upd U _) (.of Ah)⟩
 . exact Abb pins s σ H _ v d y lo hi F Q I G L M O ⟨a,xs,rfl,h.1,h.2⟩
end
end L2
namespace L2
open PySem PySem.Spec PyProof.Rows
theorem Nj {H1:Hp}{p:Addr}{cσ:St}{g:TG}{tt:TT}{te:TE}{Q:VK}{α:Type}{es:List α}{inj:α->V}{J:It} (L:α->Bool) (f:α->V) (hz:es.length<=sizeLine) (hp:H1 p=none) (Y:Wk J H1 es inj)
 (step:∀(e:α) (H':Hp) (R:VK) (Z:Hp->Prop),e∈es->Same H1 H'->(L e=true->∀d,Same H' d->R (f e) d)->(L e=false->∀d,Same H' d->Z d)->g (inj e) cσ H' fun F H4=>Kp cσ F/\tt F H4 fun b H5=>if b=true then te F H5 R else Z H5)
 (M:∀H',Same H1 H'->H' p=some (.lst ((es.filter L).map f))->Q (.ref p) H'):cIn J cσ g tt te Q H1 p:=by
 have su:∀ {H':Hp}{o:HO},Same H1 H'->Same H1 (upd H' p o):=fun {H' o} s b u e=>by
  rw [Bl (Bs e hp)]
  exact s b u e
 refine⟨fun i m G H'=>m=es.length-i/\i<=es.length/\G=((es.take i).filter L).map f/\H' p=some (.lst G)/\Same H1 H',⟨es.length,by simp,zero_le _,by simp,Ah,su (Same.refl _)⟩,?_⟩
 rintro i m G H' ⟨rfl,hi,rfl,W,s⟩
 cases he:es[i]? with
 | none=>
   have e:i=es.length:=le_antisymm hi (List.getElem?_eq_none_iff.mp he)
   subst e
   rw [take_length]at W
   exact .inl ⟨(Y _ _ s).1 he,M _ s W⟩
 | some e=>
   obtain⟨go,yl⟩:=(Y _ _ s).2 e he
   refine .inr ⟨go,fun x H3 y=> ?_⟩
   obtain⟨rfl,rfl⟩:=yl x H3 y
   obtain⟨O,_⟩:=List.getElem?_eq_some_iff.mp he
   have tk:es.take (i+1)=es.take i++ [e]:=by rw [take_succ,he];rfl
   have fl:((es.take i).filter L).length<=i:=le_trans (List.length_filter_le _ _) (by rw [length_take];omega)
   refine step e H3 _ _ (List.mem_of_getElem? he) s (fun I d U=>⟨U _ _ W,by rw [length_map];omega,_,by omega,rfl,O,?_,Ah,su (s.trans U)⟩) (fun I d U=>⟨_,by omega,rfl,O,?_,?_,s.trans U⟩)
   . rw [tk,filter_append,map_append]
     simp [I]
   . rw [tk,filter_append,map_append]
     simp [I]
   . exact U _ _ W
end L2
namespace L2
open PySem PySem.Spec PyProof.Rows
set_option maxRecDepth 100000
theorem Ro {X:Cx}{es:List Expr}{k:Nat}{pos:Pos}{t:TGs} (K:Frag) (n:Nat) (y:X.K=K) (F:X.calm=true) (h:PGs X es t)
 (G:(assignEach es X.env).length=n:=by rfl) (d:(assignEach es X.env).findIdx? (·.1)=none:=by rfl):PG X (.Tuple es k pos) (Abu K n t):=by
 subst y
 exact S7 F h G d
end L2
namespace L2
open PySem PySem.Spec PyProof.Rows
set_option maxRecDepth 100000
theorem Fl.has {P:Program}{w:World}{H:Hp}{h:Heap}{a:Addr}{o:HO} (x:Fl P w H h a o):∃d,h.get? a=some d:=by
 cases o with
 | lst xs=>obtain⟨_,_,_,_,e⟩:=x;exact⟨_,e⟩
 | tup xs=>obtain⟨_,_,_,d,e,_⟩:=x;exact⟨_,e⟩
 | dK F=>obtain⟨_,_,_,_,o,_,_,e,_⟩:=x;exact⟨_,e⟩
 | dT F=>obtain⟨_,_,_,_,o,_,_,e,_⟩:=x;exact⟨_,e⟩
 | set S n=>obtain⟨o,_,_,_,e,_⟩:=x;exact⟨_,e⟩
 | ins C dx fs=>obtain⟨_,_,_,e,_⟩:=x;exact⟨_,e⟩
 | own y=>exact x
 | xd fs=>obtain⟨_,⟨_,_,_,e,_⟩,_⟩:=x;exact⟨_,e⟩
 | rng lo hi=>obtain⟨_,_,_,e⟩:=x;exact⟨_,e⟩
 | frz d u=>obtain⟨e,_⟩:=x;exact⟨_,e⟩
 | tbl ps=>exact⟨_,show h.get? a=some _ from x⟩
 | met f y=>exact⟨_,show h.get? a=some _ from x⟩
 | ext G=>exact x.2.1
structure FX (P:Program) (w:World) (fr:List Addr) (H:Hp) (h0:Heap) (B:Heap) (H':Hp) (h:Heap):Prop where
 stay:B.StaysIn h
 k1:∀b o,h0.get? b=some o->b∉fr->∃o',B.get? b=some o'/\(H b=none->o'=o)
 k2:∀b u,H' b=some u->∃o,B.get? b=some o
 fr0:∀b∈fr,H b=none/\∃o,h0.get? b=some o/\∀vs,o.data≠ .fields vs
 un:Un fr [] H H' h0 h
 hok:HOk P w H' h
theorem FX.step {P:Program}{w:World}{fr:List Addr}{H H':Hp}{I B h h':Heap} (x:FX P w fr H I B H' h) (k:B.StaysIn h') (u:h.UpToSlots h'):FX P w fr H I B H' h':=by
 have y:∀b o,I.get? b=some o->H b=none->b∈fr->∃L,h'.get? b=some { o with slots:=L}:=fun b o e n d=>by
  obtain⟨L,F⟩:=x.un.slot b o e n d (by simp)
  obtain⟨_,Z,G,U⟩:=x.fr0 b d
  rw [e]at G;cases G
  obtain⟨M,W⟩:=u b _ F U
  exact⟨M,W⟩
 refine⟨k,x.k1,x.k2,x.fr0,⟨fun b o e n d _=> ?_,fun b o e n d _=>y b o e n d,x.un.free,fun b o e _=> ?_,x.un.tups,x.un.frzs,x.un.tbls⟩,fun b v e=>(x.hok b v e).stay (fun c z Y q=> ?_) (fun _ q=>q) fun _ _ q=>q⟩
 . obtain⟨o',F,G⟩:=x.k1 b o e d
   rw [G n]at F
   exact k b o F
 . by_cases d:b∈fr
   . obtain⟨L,F⟩:=y b o e (x.fr0 b d).1 d
     exact⟨_,F⟩
   . obtain⟨o',F,_⟩:=x.k1 b o e d
     exact⟨o',k b o' F⟩
 . have t:∃o,B.get? c=some o:=by
    rcases Y with z | z
    . rw [z];exact x.k2 _ _ e
    . exact x.k2 _ _ z
   obtain⟨o,O⟩:=t
   have:=x.stay c o O
   rw [q]at this;cases this
   exact k c _ O
section
variable {X:Cx}{pins:List (Addr × Obj)}{σ:St}{H H':Hp}{s s':Shared}{B:Heap}
theorem Inv.old (I:Inv X pins σ H s) {b:Addr}{o:Obj} (e:X.s₀.heap.get? b=some o) (d:b∉X.fs):b∉frs X.stack:=fun z=>by
 rcases mem_cons.mp (I.stkSub b z)with q | q
 . exact absurd (lt_of_lt_of_le (Heap.lt_size e) I.ok.above) (by rw [q];exact lt_irrefl _)
 . exact d q
theorem Inv.fr0 (I:Inv X pins σ H s):∀b∈X.fs,X.H₀ b=none/\∃o,X.s₀.heap.get? b=some o/\∀y,o.data≠ .fields y:=fun b d=>by
 obtain⟨_,o,F,G⟩:=I.ok.funs.mem d
 exact⟨I.ok.frf b d,o,F,G⟩
theorem Inv.one (I:Inv X pins σ H s) (d:X.ex=[]) {b:Addr}{o:Obj} (e:X.s₀.heap.get? b=some o) (y:b∉X.fs):∃o',s.heap.get? b=some o'/\(X.H₀ b=none->o'=o/\H b=none):=by
 by_cases n:X.H₀ b=none
 . exact⟨o,I.base.keep b o e n y (by rw [d];simp),fun _=>⟨rfl,I.base.free b o e n (by rw [d];simp)⟩⟩
 . obtain⟨o',F⟩:=I.base.there b o e (by rw [d];simp)
   exact⟨o',F,fun z=>absurd z n⟩
theorem Inv.fx (I:Inv X pins σ H s) (d:X.ex=[]):FX X.prog X.w X.fs X.H₀ X.s₀.heap (hideAll s.heap (frs X.stack)) H s.heap:=by
 refine⟨fun b o q=>of_hideAll _ q,fun b o e y=> ?_,fun b u e=> ?_,I.fr0,d▸I.base,I.hok⟩
 . obtain⟨o',F,G⟩:=I.one d e y
   exact⟨o',hideAll_get _ F (I.old e y),fun n=>(G n).1⟩
 . obtain⟨o,L⟩:=(I.hok b u e).has
   exact⟨o,hideAll_get _ L fun z=>by have:=I.stkFree b z;rw [e]at this;cases this⟩
end
def CXE (P:Program) (w:World):CXT:=fun outer H s E e s'=>∃(x C:Addr) (a0:Value) (B:Heap) (H':Hp),e= .ref x/\s'.os=s.os/\AllBare s'.gens/\Heap.FlyingW B outer x (.ref C) a0 s'.heap/\FX P w (frs outer) H s.heap B H' s'.heap/\E (.ref C) none H'
abbrev VE:List Value:=[.type "ValueError",.type "Exception",.type "BaseException",.type "object"]
def Ae6 (K:Frag) (C:Addr):Prop:=excIn K C VE "ValueError.__new__"=true
def Ah6 (h:Heap) (C:Addr):Prop:=∃bm N nm q bs hdct sn sub ab col dd k0 k1 k2 k3 k5 mN,h.get? C=some (excClassObj nm q C N bs bm hdct sn sub ab col dd k0 k1 k2 k3 k5 "ValueError.__new__")/\h.Ns N mN/\mN "__init__"=none/\OwnTail h VE bm
theorem Ae6.obj {K:Frag}{C:Addr}{h:Heap} (q:Ae6 K C) (X:K.In h):Ah6 h C:=by
 unfold Ae6 excIn at q
 cases e:K.lookup C with
 | none=>rw [e]at q;cases q
 | some ob=>
   rw [e]at q
   have F:=X _ _ e
   split at q
   . rename_i dd cd G z
     cases z
     split at q
     . rename_i C1 bm I L M O n U Y hs
       rw [and_eq_true,and_eq_true,and_eq_true,and_eq_true,and_eq_true]at q
       obtain⟨⟨⟨⟨⟨z1,z2⟩,z3⟩,z4⟩,d⟩,z6⟩:=q
       have y1:C1=C:=by simpa using z1
       have y2:n="ValueError.__new__":=by simpa using z2
       have Z:cd.hasDel=false:=by simpa using z3
       have y6:PySem.W.nsIn K cd.ns "__init__"=some none:=by simpa using z6
       obtain⟨c1,c2,c3,c4,c5,c6,c7,c8,c9,y,a4⟩:=cd
       have hl:G= #[I,L,M,O,some (.builtin n),U]:=by
        cases G
        exact congrArg Array.mk hs
       dsimp only at Y Z y6 d
       rw [hl,Y,y1,y2,Z]at F
       exact⟨bm,c4,c1,c5,c2,c6,c7,c8,c9,y,dd,I,L,M,O,U,_,F,Heap.Ns.of_isNs (PySem.W.isNs_of_in X d),PySem.W.nsMap_none_of_in X d y6,PySem.W.tail_of_in X z4⟩
     . cases q
   . cases q
theorem PS.nox {X:Cx}{st:Stmt}{t:TS} (h:PS X.nox st t):PS X st t:=fun pins s σ H D I d=>
 wpAny_mono (h pins s σ H D (I.wish _) d) (fun _ _ q=>q.unwish) fun _ _ z=>False.elim z
def Ahp (P:Program) (w:World) (K:Frag) (mg:Str->Option Value) (base:Heap) (k:Nat) (x:Str) (ps:List Str) (sp:Sp):Prop:=
 ∃f fd,Nx P w K mg base (CXE P w) k f fd ps sp/\mg x=some (.ref f)/\keepIn K (.ref f)=true/\Binds K fd ps []
theorem Ahp.calm {P:Program}{w:World}{K:Frag}{mg:Str->Option Value}{base:Heap}{k:Nat}{x:Str}{ps:List Str}{sp y:Sp}
 (C:Ahp P w K mg base k x ps sp) (h:∀d H Q E,y d H Q E->sp d H Q E0):Cal P w K mg base k x ps y:=by
 obtain⟨f,fd,G,a,b,c⟩:=C
 refine⟨f,fd,⟨fun d H Q E z=>G.len d H Q E0 (h _ _ _ _ z),fun A outer s H args F d Q E I L M O U=> ?_⟩,a,b,c⟩
 refine codeAny_mono (G.run A outer s H args F d Q E0 I L M O (h _ _ _ _ U)) fun r s' q=> ?_
 cases r with
 | ok Y=>cases Y<;>exact q
 | error e=>
   obtain⟨_,_,_,_,_,_,_,_,_,_,z⟩:=q
   exact z.elim
end L2
namespace L2
open PySem PySem.Spec PyProof.Rows
set_option maxRecDepth 100000
end L2
namespace L2
open PySem PySem.Spec PyProof.Rows
set_option maxRecDepth 100000
structure Ahq (K:Frag) (C:Addr):Prop where
 ga:findIn K (.ref C) "__getattribute__"=some (some (.builtin "BaseException.__getattribute__"))
 gn:findIn K (.ref C) "__getattr__"=some none
 cl:findIn K (.ref C) "__class__"=some (some (.builtin "object.__class__"))
 ob:mroIn K C (.type "object")=some true
 be:mroIn K C (.type "BaseException")=some true
theorem Ahq.is {K:Frag}{C:Addr} (Z:Ahq K C):(clsIn K C).isSome=true:=by
 obtain⟨cd,a,_⟩:=bind_eq_some_iff.mp Z.ob
 rw [a];rfl
end L2
namespace L2
open PySem PySem.Spec PyProof.Rows
def Dm:Expr->Bool
 | .Starred _ _=>false
 | _=>true
theorem Iu {e:Expr}{es:List Expr}{env:Env} (h:Dm e=true):starEach (e::es) env=(false,eval e env)::starEach es env:=by
 cases e<;>first | rfl | cases h
theorem J3 {env:Env}{pos:Pos}:∀ {es:List Expr},es.all Dm=true->(backTo pos (starEach es env)).any (·.1)=false
 | [],_=>rfl
 | e::es,h=>by
   rw [all_cons,and_eq_true]at h
   rw [Iu h.1]
   have d:=J3 (env:=env) (pos:=pos) h.2
   unfold backTo at d ⊢
   rw [map_cons,any_cons,d]
   rfl
section
variable {X:Cx}{e:Expr}{es:List Expr}{te:TE}{t:TA}{x:Str}{p pos:Pos}{id T:String}{r:List V->Hp->VK->Prop}{k:Nat}{ps:List Str}{sp:Sp}
theorem Zj (d:PE X e te) (y:PA X es t) (h:Dm e=true:=by rfl):PA X (e::es) (Yr te t):=Aat d y (Iu h)
theorem Wm (y:Gx X (.builtin id) r) (F:Gl X x) (G:X.mg x=none) (I:bootBuiltins x=some (.builtin id)) (L:PA X (e::es) t) (h1:Dm e=true:=by rfl) (h2:es.all Dm=true:=by rfl) (M:x≠"__name__":=by decide) (d:(x==("__debug__":Str))=false:=by decide):
 PE X (.Call (.Name x p) (e::es) [] pos) (tCB r t):=X8 y F G I L M d (Iu h1) (J3 h2)
theorem Qc (y:Gx X (.type T) r) (F:Gl X x) (G:X.mg x=none) (I:bootBuiltins x=some (.type T)) (L:PA X (e::es) t) (h1:Dm e=true:=by rfl) (h2:es.all Dm=true:=by rfl) (M:x≠"__name__":=by decide) (d:(x==("__debug__":Str))=false:=by decide):
 PE X (.Call (.Name x p) (e::es) [] pos) (tCB r t):=Wn y F G I L M d (Iu h1) (J3 h2)
theorem Us (C:Cal X.prog X.w X.K X.mg X.base k x ps sp) (y:J4 k X.A) (F:PA X (e::es) t) (h1:Dm e=true:=by rfl) (h2:es.all Dm=true:=by rfl) (G:Gl X x:=by rfl) (d:(x==("__debug__":Str))=false:=by decide):
 PE X (.Call (.Name x p) (e::es) [] pos) (Ru sp [] E0 t):=Yb C y F G d (Iu h1) (J3 h2)
theorem Ut {n:Nat} (C:Cal X.prog X.w X.K X.mg X.base k x ps sp) (y:J4 n X.A) (F:PA X (e::es) t) (G:k<=n:=by decide) (h1:Dm e=true:=by rfl) (h2:es.all Dm=true:=by rfl) (I:Gl X x:=by rfl) (d:(x==("__debug__":Str))=false:=by decide):
 PE X (.Call (.Name x p) (e::es) [] pos) (Ru sp [] E0 t):=Us C (y.mono G) F h1 h2 I d
theorem Ws {te:TE}{x:Str}{d:Pos} (i:Nat) (y:X.N.Nodup) (F:PE X e te) (hi:X.N[i]? =some x:=by rfl) (G:Loc X.env.scope x:=by first | exact Or.inl rfl | exact Or.inr rfl) (I:swapsWith e (some (.Name x d)) pos.line X.env=pure false:=by rfl) (L:X.fn x=true\/X.env.scope.names.lookup x=some .local :=by first | exact .inl rfl | exact .inr rfl | assumption):
 PS X (.Assign [.Name x d] e pos) (Abe te (Jt i)):=Tc y hi G F I L
theorem Ye {x:Str} (i:Nat) (d:X.N.Nodup) (hi:X.N[i]? =some x:=by rfl) (y:Loc X.env.scope x:=by first | exact Or.inl rfl | exact Or.inr rfl) (F:X.fn x=true\/X.env.scope.names.lookup x=some .local :=by first | exact .inl rfl | exact .inr rfl | assumption):PG X (.Name x pos) (Jt i):=Rn d hi y F
end
end L2
namespace L2
open PySem PySem.Spec PyProof.Rows
def Itd (lo:Int) (n:Nat):It:=⟨fun i _=>i<n,fun i H x H'=>H'=H/\x= .int (lo-i),fun i _=>n<=i⟩
theorem W5 {P:Program}{w:World}{K:Frag}{tg:Expr} (d:Addr) (lo:Int) (n:Nat):Turn P w K tg (Itd lo n) [d] d (fun i h=>IsRangeIter h d (lo+(i:Nat)*(-1)) ((n:Int)-(i:Nat)) (-1)) where
 mem:=by simp
 obj:=fun i h st b y=>by
  have e:b=d:=by simpa using y
  subst e
  exact⟨_,st,fun v z=>by
   have z':Data.fields _=Data.cell v:=z
   cases z'⟩
 keep:=fun i h h' st k=>k d (by simp) _ st
 item:=by
  intro X L M O U i pins s σ H E I G st Y
  subst L M O
  obtain⟨Z,f1,f2,f3,f4,f5⟩:=G d (by simp)
  have W:=Walks.range (prog:=X.prog) (w:=X.w) (I.ok.hd U) d lo (-1) n
  refine W.item i s _ _ Y st fun v h' tk hv F kk=> ?_
  obtain⟨t,rfl⟩:=hv
  have I1:Inv X pins σ H { s with heap:=h',toks:=tk}:=I.turned (fun b o y e=>kk b o (by simpa using y) e) Z f1 f3 f4 f5
  refine⟨_,rfl,Vj (s:={ s with heap:=h',toks:=tk}) (n:="range_iterator") F rfl rfl (by decide) ⟨.int (lo-i),H,I1,⟨t,?_⟩,⟨rfl,rfl⟩,F,fun b y=>(G b y).1⟩⟩
  rw [Int.mul_neg,mul_one,<-Int.sub_eq_add_neg]
 done:=by
  intro X L M O U i pins s σ H E I G st Y
  subst L M O
  obtain⟨Z,f1,f2,f3,f4,f5⟩:=G d (by simp)
  exact wpAny_pyNext_range_end (I.ok.hd U) st (by have:n<=i:=Y;omega) fun h' eb=>⟨rfl,I.turned (t':=s.toks) (fun b o y e=>eb b o y e) Z f1 f3 f4 f5⟩
 self:=fun _ _ _ _ _ st h=>wpAny_pyIter_rangeiter st h
section
variable {X:Cx}{tg:Expr}
theorem Z8 {pins:List (Addr × Obj)}{σ:St}{H:Hp}{s:Shared}{R:It->Hp->Prop}{E:Value->Shared->Prop}{lo hi:Int}{t u v:Tok}{tk:Nat} (I:Inv X pins σ H s) (h1: -(2^62)<=lo) (h2:lo<2^62) (y: -(2^62)<=hi) (F:hi<2^62)
 (q:R (Itd lo (lo-hi).toNat) H):wpAny (model X.prog X.w) X.A (pyIter (.ref s.heap.objs.size)) (PIE X pins σ tg R) E { s with heap:=s.heap.push { cls:= .type "range",data:= .fields #[.int lo t,.int hi u,.int (-1) v]},toks:=tk}:=by
 refine wpAny_pyIter_range (IsRange.new ..) (PySem.W.small_down h1 h2 y F) ?_
 have d:Inv X pins σ H { s with heap:=s.heap.push { cls:= .type "range",data:= .fields #[.int lo t,.int hi u,.int (-1) v]},toks:=tk}:=I.kept fun b o e=>Heap.get?_push_of_some _ e
 refine⟨(s.heap.push { cls:= .type "range",data:= .fields #[.int lo t,.int hi u,.int (-1) v]}).objs.size,[(s.heap.push { cls:= .type "range",data:= .fields #[.int lo t,.int hi u,.int (-1) v]}).objs.size],_,_,H,rfl,
  d.kept (t':=tk) fun b o e=>Heap.get?_push_of_some _ e,W5 _ lo (lo-hi).toNat,?_,fun b G=> ?_,q⟩
 . have L:lo+((0:Nat):Int)*(-1)=lo:=by simp
   have M:(((lo-hi).toNat:Nat):Int)-((0:Nat):Int)=Builtin.Range.rangeSize lo hi (-1):=by rw [PySem.W.rangeSize_downNat];omega
   show IsRangeIter _ _ (lo+((0:Nat):Int)*(-1)) ((((lo-hi).toNat:Nat):Int)-((0:Nat):Int)) (-1)
   rw [L,M]
   exact Heap.get?_push_size _ rfl
 . have e:b=(s.heap.push { cls:= .type "range",data:= .fields #[.int lo t,.int hi u,.int (-1) v]}).objs.size:=by simpa using G
   subst e
   exact d.fpOk (le_refl _) (d.hok.fresh (le_refl _))
def Aad (ta:TA):TI:=fun σ H R=>ta σ H fun vs H1=>∃i j:Int,vs=[.int i,.int j,.int (-1)]/\(-(2^62)<=i/\i<2^62/\ -(2^62)<=j/\j<2^62)/\R (Itd i (i-j).toNat) H1
theorem Rp {a b c:Expr}{ta:TA}{p pos:Pos} (G:Gl X "range") (L:X.mg "range"=none) (M:PA X [a,b,c] ta) (h1:Dm a=true:=by rfl) (h2:[b,c].all Dm=true:=by rfl):
 PI X tg (.Call (.Name "range" p) [a,b,c] [] pos) (Aad ta):=by
 intro pins s σ H R I h
 refine Call_ (Ma I G L boot_range (PyProof.Rows.callWith_type1 (thn (M pos pins s σ H _ I h) fun us s1 ⟨vs,H1,O,U,y⟩=> ?_) (Iu h1) (J3 h2)))
 obtain⟨i,j,e,⟨y,W,Y,Z⟩,q⟩:=y
 subst e
 cases U with
 | cons r d=>
   cases d with
   | cons r' d=>
     cases d with
     | cons F d=>
       cases d
       obtain⟨t,rfl⟩:=r
       obtain⟨t',rfl⟩:=r'
       obtain⟨a0,rfl⟩:=F
       exact call_range_3 (by decide) (Z8 O y W Y Z q) (.inl (PyProof.noPylong_of_log2 (by decide+kernel)))
theorem Ad7 {ta:TA}{σ:St}{H:Hp}{R:It->Hp->Prop}:Aad ta σ H R=ta σ H (fun d H1=>∃i j:Int,d=[.int i,.int j,.int (-1)]/\(-(2^62)<=i/\i<2^62/\ -(2^62)<=j/\j<2^62)/\R (Itd i (i-j).toNat) H1):=rfl
theorem Agz {i j:Int}{G:Int->Int->Prop}:(∃d y:Int,[V.int i,.int j,.int (-1)]=[.int d,.int y,.int (-1)]/\G d y)=G i j:=propext ⟨fun⟨_,_,e,h⟩=>by cases e;exact h,fun h=>⟨i,j,rfl,h⟩⟩
end
theorem W9 {H:Hp}{lo:Int}{n:Nat}:Ab4 (Itd lo n) H (List.range n) (fun i=> .int (lo-(i:Nat))):=fun i=>by
 refine⟨fun e=> ?_,fun e h=> ?_⟩
 . have:=List.getElem?_eq_none_iff.mp e
   rw [length_range]at this
   exact this
 . obtain⟨h1,h2⟩:=List.getElem?_eq_some_iff.mp h
   rw [length_range]at h1
   rw [List.getElem_range]at h2
   subst h2
   exact⟨h1,fun x d ⟨a,b⟩=>⟨a,b⟩⟩
end L2
namespace L2
open PySem PySem.Spec PyProof.Rows
theorem Aca {σ:St}{H:Hp}{g:TG}{tb:TS}{D:Ends}{J:It} (n:Nat) (inj:Nat->V) (y:Nat->St->Hp->Prop) (L:y 0 σ H) (M:∀i σ H,y i σ H->Ab4 J H (List.range n) inj)
 (O:∀i σ H,i<n->y i σ H->g (inj i) σ H fun F H2=>tb { D with nx:=y (i+1),ct:=y (i+1),bk:=D.nx} F H2) (U:∀σ H,y n σ H->D.nx σ H):FI J g tb D σ H:=by
 refine Xz (es:=List.range n) (inj:=inj) (fun d=>y d.length) L (fun d σ H p=>M d.length σ H p) (fun d e G σ H I p=> ?_) (fun σ H p=>U σ H (by rw [length_range]at p;exact p))
 have W:=congrArg List.length I
 rw [length_range,length_append,length_cons]at W
 have Y:e=d.length:=by
  have:=congrArg (fun l=>l[d.length]?) I
  simp only [getElem?_append_right (le_refl _),sub_self,List.getElem?_cons_zero]at this
  rw [List.getElem?_range (by omega)]at this
  exact(Option.some.inj this).symm
 subst Y
 have:=O d.length σ H (by omega) p
 rw [length_append,length_singleton]
 exact this
theorem Same.put {H H':Hp}{p:Addr}{o:HO} (s:Same H H') (d:H p=none):Same H (L2.upd H' p o):=fun b u e=>by
 rw [Bl (Bs e d)]
 exact s b u e
end L2
namespace L2
theorem Ax {t u:TS}{D:Ends}{σ:St}{H:Hp} (h:∀w:TS,w=u->Abx t w D σ H):Abx t u D σ H:=h u rfl
theorem Dj {t u:TS}{D:Ends}{σ:St}{H:Hp} (P:St->Hp->Prop) (h1:∀N:St->Hp->Prop,(∀d H',P d H'->N d H')->t { D with nx:=N} σ H) (h2:∀d H',P d H'->u D d H'):Abx t u D σ H:=h1 (u D) h2
end L2
namespace L2
open PySem PySem.Spec PyProof.Rows
theorem S6 {X:Cx}{x:Str}{v:V}{pos:Pos} (d:Gl X x) (h:∃u,X.mg x=some u/\RelV v u) (y:(x==("__debug__":Str))=false:=by decide):PE X (.Name x pos) (tC v):=by
 obtain⟨u,a,b⟩:=h
 exact Rm d a b y
end L2
namespace L2
open PySem PySem.Spec PyProof.Rows
section
variable {c:TT}{tb:TS}{D:Ends}{σ:St}{H:Hp}
def WM (Pv:Nat->St->Hp->Prop) (tb:TS) (D:Ends) (m:Nat) (σ:St) (H:Hp):Prop:=∃N:St->Hp->Prop,(∀σ' H',N σ' H'->∃m',m'<m/\Pv m' σ' H')/\tb { D with nx:=N,ct:=N,bk:=D.nx} σ H
theorem Abo {F:Nat->St->Hp->Prop}{m:Nat} (h:tb { D with nx:=fun d H'=>∃y,y<m/\F y d H',ct:=fun d H'=>∃y,y<m/\F y d H',bk:=D.nx} σ H):WM F tb D m σ H:=⟨_,fun _ _ z=>z,h⟩
theorem R0 (d:Nat->St->Hp->Prop) (y:Nat) (F:d y σ H) (G:∀m σ H,d m σ H->c σ H fun b H1=>if b=true then WM d tb D m σ H1 else D.nx σ H1):Qm c tb D σ H:=⟨d,⟨y,F⟩,G⟩
end
end L2
namespace L2
open PySem PySem.Spec PyProof.Rows
def It1 (t:Bool) (h:Heap) (j u:Addr) (k:Nat):Prop:=if t=true then h.IsTupleIter j u k else h.IsListIter j u k
def Sq1 (t:Bool) (h:Heap) (u:Addr) (xs:Array Value):Prop:=if t=true then h.IsTuple u xs else h.IsList u xs
theorem It1.ext {t:Bool}{h g:Heap}{j u b:Addr}{k:Nat} (x:It1 t h j u k) (e:Heap.ExtBut b h g) (n:j≠b):It1 t g j u k:=by
 cases t
 . exact Heap.IsListIter.extBut x e n
 . exact Heap.IsTupleIter.extBut x e n
theorem It1.to {t:Bool}{h g:Heap}{j u:Addr}{k:Nat} (x:It1 t h j u k) (e:∀o,h.get? j=some o->g.get? j=some o):It1 t g j u k:=by
 cases t
 . exact Heap.IsListIter.at x e
 . exact Heap.IsTupleIter.at x e
theorem Sq1.ext {t:Bool}{h g:Heap}{u b:Addr}{xs:Array Value} (x:Sq1 t h u xs) (e:Heap.ExtBut b h g) (n:u≠b):Sq1 t g u xs:=by
 cases t
 . exact Heap.IsList.extBut x e n
 . exact Heap.IsTuple.extBut x e n
theorem It1.there {t:Bool}{h:Heap}{j u:Addr}{k:Nat} (x:It1 t h j u k):∃o,h.get? j=some o/\∀v,o.data≠ .cell v:=by
 cases t
 . obtain⟨o,e,_,d⟩:=(show h.IsListIter j u k from x)
   exact⟨o,e,fun v z=>by rw [d]at z;cases z⟩
 . obtain⟨o,e,_,d⟩:=(show h.IsTupleIter j u k from x)
   exact⟨o,e,fun v z=>by rw [d]at z;cases z⟩
section
variable {prog:Program}{w:World}{A:Around}{E:Value->Shared->Prop}{s:Shared}
theorem Aao {t:Bool}{j u:Addr}{k:Nat}{xs:Array Value}{y:Value}{Q:Value->Shared->Prop} (d:It1 t s.heap j u k) (F:Sq1 t s.heap u xs) (G:xs[k]? =some y)
 (c:∀g,It1 t g j u (k+1)->Heap.SameBut j s.heap g->Q y { s with heap:=g}):wpAny (model prog w) A (Builtin.SmallTypes.nextOf (.ref j)) Q E s:=by
 cases t
 . exact wpAny_nextOf_list_item d F G c
 . exact nextT d F G c
theorem Pj {t:Bool}{j u:Addr}{k:Nat}{xs:Array Value}{Q:Value->Shared->Prop} (d:A.handled=none) (y:It1 t s.heap j u k) (F:Sq1 t s.heap u xs) (G:xs[k]? =none)
 (c:∀g e,Heap.ExtBut j s.heap g->(∃o,g.get? e=some o/\o.cls= .type "StopIteration")->E (.ref e) { s with heap:=g}):wpAny (model prog w) A (Builtin.SmallTypes.nextOf (.ref j)) Q E s:=by
 cases t
 . exact wpAny_nextOf_list_end d y F G c
 . exact Pk d y F G c
theorem Xb {t1 t2:Bool}{d TI TO G I W Y:Addr}{k1 k2:Nat}{xs ys:Array Value}{x y p q:Value}{Q:Value->Shared->Prop} (D:ZipApart d TI TO G I W Y)
 (Z:IsZip s.heap d TI TO .none) (a3:IsPair s.heap TI (.ref G) (.ref I)) (a4:IsPair s.heap TO p q) (j1:It1 t1 s.heap G W k1) (j2:It1 t2 s.heap I Y k2) (a1:Sq1 t1 s.heap W xs) (a2:Sq1 t2 s.heap Y ys) (hx:xs[k1]? =some x) (hy:ys[k2]? =some y)
 (c:∀g,IsZip g d TI TO (rawInt s.heap.objs.size)->IsPair g TO x y->It1 t1 g G W (k1+1)->It1 t2 g I Y (k2+1)->IsPair g s.heap.objs.size x y->g.objs.size=s.heap.objs.size+1->
   (∀b o,b≠d->b≠TO->b≠G->b≠I->s.heap.get? b=some o->g.get? b=some o)->Q (.ref s.heap.objs.size) { s with heap:=g}):
 wpAny (model prog w) A (Builtin.«zip.__next__» ⟨[.ref d],[]⟩) (fun a5 s'=>∃v,a5= .done (.ret v)/\Q v s') E s:=by
 show wpAny _ _ (field (.ref d) 2>>=_) _ _ s
 refine wpAny_bind (wpAny_field Z rfl (x:= .bool false) rfl ?z1)
 case z1=>
 show wpAny _ _ (field (.ref d) 3>>=_) _ _ s
 refine wpAny_bind (wpAny_field Z rfl (x:= .ref TI) rfl (wpAny_bind (wpAny_seqItems a3 rfl ?z2)))
 case z2=>
 show wpAny _ _ (Builtin.SmallTypes.ownedTupleIsFree (.ref d)>>=_) _ _ s
 refine wpAny_bind (m:=Builtin.SmallTypes.ownedTupleIsFree (.ref d)) ?z3
 case z3=>
 unfold Builtin.SmallTypes.ownedTupleIsFree;refine wpAny_bind (wpAny_field Z rfl (x:= .none) rfl (wpAny_pure ?z4))
 case z4=>
 simp only [if_true];refine wpAny_bind (wpAny_rule (wpAny_bind (wpAny_field Z rfl (x:= .ref TO) rfl (wpAny_bind (wpAny_setField_rec Z (by simp) fun g1 (z1:IsZip g1 d TI TO .ellipsis) L=> ?z5)))))
 case z5=>
 refine wpAny_bind ?z6
 case z6=>
 simp only [forIn_cons,List.forIn_nil,List.zipIdx_cons,List.zipIdx_nil]
 refine wpAny_bind (wpAny_bind (wpAny_onRaise ?z7))
 case z7=>
 show wpAny _ _ (Builtin.SmallTypes.nextOf (.ref G)>>=_) _ _ { s with heap:=g1}
 refine wpAny_bind (Aao (j1.ext L.extBut D.i1z) (a1.ext L.extBut D.l1z) hx fun g2 n1 O=>wpAny_pure ?z8)
 case z8=>
 have o2:IsPair g2 TO p q:=O.extBut _ _ D.TOi1 (L.extBut _ _ D.TOz a4)
 refine wpAny_bind (wpAny_seqItems o2 rfl (wpAny_bind (wpAny_updateSeq_pair o2 fun g3 (o3:IsPair g3 TO x q) U=>wpAny_bind (wpAny_letGo (wpAny_pure (wpAny_bind (wpAny_bind (wpAny_onRaise ?z9))))))))
 case z9=>
 show wpAny _ _ (Builtin.SmallTypes.nextOf (.ref I)>>=_) _ _ { s with heap:=g3}
 refine wpAny_bind (Aao (((j2.ext L.extBut D.i2z).ext O.extBut D.i12.symm).ext U.extBut D.TOi2.symm) (((a2.ext L.extBut D.l2z).ext O.extBut D.l2i1).ext U.extBut D.l2TO) hy fun g4 n2 b4=>wpAny_pure ?z10)
 case z10=>
 have o4:IsPair g4 TO x q:=b4.extBut _ _ D.TOi2 o3
 refine wpAny_bind (wpAny_seqItems o4 rfl (wpAny_bind (wpAny_updateSeq_pair o4 fun F (o5:IsPair F TO x y) b5=>wpAny_bind (wpAny_letGo (wpAny_pure (wpAny_pure (wpAny_bind (wpAny_seqItems o5 rfl (wpAny_bind (wpAny_newTuple ?z11))))))))))
 case z11=>
 have sz:F.objs.size=s.heap.objs.size:=by rw [b5.1,b4.1,U.1,O.1,L.1]
 have z5:IsZip F d TI TO .ellipsis:=b5.extBut _ _ D.TOz.symm (b4.extBut _ _ D.i2z.symm (U.extBut _ _ D.TOz.symm (O.extBut _ _ D.i1z.symm z1)))
 have k5:∀b o,b≠d->b≠TO->b≠G->b≠I->s.heap.get? b=some o->F.get? b=some o:=fun b o M c2 c3 c4 e=>b5.extBut _ _ c2 (b4.extBut _ _ c4 (U.extBut _ _ c2 (O.extBut _ _ c3 (L.extBut _ _ M e))))
 have m1:It1 t1 F G W (k1+1):=((n1.ext U.extBut D.TOi1.symm).ext b4.extBut D.i12).ext b5.extBut D.TOi1.symm
 have m2:It1 t2 F I Y (k2+1):=n2.ext b5.extBut D.TOi2.symm
 have a0:d<F.objs.size:=Heap.lt_size z5
 show wpAny _ _ (Builtin.SmallTypes.ownedTupleHandOut (.ref d) (.ref F.objs.size)>>=_) _ _ _
 refine wpAny_bind (m:=Builtin.SmallTypes.ownedTupleHandOut (.ref d) (.ref F.objs.size)) ?z12
 case z12=>
 unfold Builtin.SmallTypes.ownedTupleHandOut
 have z6:IsZip (F.push { cls:= .type "tuple",data:= .seq #[x,y]}) d TI TO .ellipsis:=Heap.get?_push_of_some _ z5
 refine wpAny_bind (wpAny_setField_rec z6 (by simp) fun g7 (z7:IsZip g7 d TI TO (rawInt F.objs.size)) b7=>wpAny_setField_rec z7 (by simp) fun g8 (z8:IsZip g8 d TI TO (rawInt F.objs.size)) b8=> ?z13)
 case z13=>
 have up:∀b o,b≠d->F.get? b=some o->g8.get? b=some o:=fun b o M e=>b8.extBut _ _ M (b7.extBut _ _ M (Heap.get?_push_of_some _ e))
 have t8:IsPair g8 F.objs.size x y:=b8.extBut _ _ (ne_of_gt a0) (b7.extBut _ _ (ne_of_gt a0) (Heap.get?_push_size _ rfl))
 have w8:g8.objs.size=F.objs.size+1:=by rw [b8.1,b7.1,Heap.size_push]
 rw [sz]at z8 t8 w8
 refine wpAny_pure ⟨_,rfl,?z14⟩
 case z14=>
 show Q (.ref F.objs.size) _
 rw [sz]
 exact c g8 z8 (up _ _ D.TOz o5) (m1.to fun o e=>up _ o D.i1z e) (m2.to fun o e=>up _ o D.i2z e) t8 w8 fun b o M c2 c3 c4 e=>up b o M (k5 b o M c2 c3 c4 e)
theorem Yw {t1 t2:Bool}{F TI TO O U u1 u2:Addr}{k1 k2:Nat}{xs ys:Array Value}{p q:Value}{Q:Fin->Shared->Prop} (hh:A.handled=none) (D:ZipApart F TI TO O U u1 u2)
 (W:IsZip s.heap F TI TO .none) (a0:IsPair s.heap TI (.ref O) (.ref U)) (a3:IsPair s.heap TO p q) (j1:It1 t1 s.heap O u1 k1) (j2:It1 t2 s.heap U u2 k2) (a1:Sq1 t1 s.heap u1 xs) (a2:Sq1 t2 s.heap u2 ys) (he:xs[k1]? =none\/ys[k2]? =none)
 (c:∀g e,(∀b o,b≠F->b≠TO->b≠O->b≠U->s.heap.get? b=some o->g.get? b=some o)->(∃o,g.get? e=some o/\o.cls= .type "StopIteration")->E (.ref e) { s with heap:=g}):
 wpAny (model prog w) A (Builtin.«zip.__next__» ⟨[.ref F],[]⟩) Q E s:=by
 show wpAny _ _ (field (.ref F) 2>>=_) _ _ s
 refine wpAny_bind (wpAny_field W rfl (x:= .bool false) rfl ?Z)
 case Z=>
 show wpAny _ _ (field (.ref F) 3>>=_) _ _ s
 refine wpAny_bind (wpAny_field W rfl (x:= .ref TI) rfl (wpAny_bind (wpAny_seqItems a0 rfl ?z2)))
 case z2=>
 show wpAny _ _ (Builtin.SmallTypes.ownedTupleIsFree (.ref F)>>=_) _ _ s
 refine wpAny_bind (m:=Builtin.SmallTypes.ownedTupleIsFree (.ref F)) ?z3
 case z3=>
 unfold Builtin.SmallTypes.ownedTupleIsFree;refine wpAny_bind (wpAny_field W rfl (x:= .none) rfl (wpAny_pure ?z4))
 case z4=>
 simp only [if_true];refine wpAny_bind (wpAny_rule (wpAny_bind (wpAny_field W rfl (x:= .ref TO) rfl (wpAny_bind (wpAny_setField_rec W (by simp) fun g1 (Z:IsZip g1 F TI TO .ellipsis) I=> ?z5)))))
 case z5=>
 refine wpAny_bind ?z6
 case z6=>
 simp only [forIn_cons,List.forIn_nil,List.zipIdx_cons,List.zipIdx_nil]
 refine wpAny_bind (wpAny_bind (wpAny_onRaise ?z7))
 case z7=>
 show wpAny _ _ (Builtin.SmallTypes.nextOf (.ref O)>>=_) _ _ { s with heap:=g1}
 cases hx:xs[k1]? with
 | none=>
   refine wpAny_bind (Pj hh (j1.ext I.extBut D.i1z) (a1.ext I.extBut D.l1z) hx fun g2 e L ⟨oe,d,G⟩=> ?_)
   have z2:IsZip g2 F TI TO .ellipsis:=L _ _ D.i1z.symm Z
   have ne:e≠F:=fun y=>by subst y;rw [z2]at d;cases d;simp at G
   exact wpAny_setField_rec z2 (by simp) fun g3 _ M=>c g3 e (fun b o Y _ c3 _ y=>M.extBut _ _ Y (L _ _ c3 (I.extBut _ _ Y y))) ⟨oe,M.extBut _ _ ne d,G⟩
 | some x=>
   have hy:ys[k2]? =none:=by
    rcases he with h | h
    . rw [hx]at h;cases h
    . exact h
   refine wpAny_bind (Aao (j1.ext I.extBut D.i1z) (a1.ext I.extBut D.l1z) hx fun g2 n1 L=>wpAny_pure ?_)
   have o2:IsPair g2 TO p q:=L.extBut _ _ D.TOi1 (I.extBut _ _ D.TOz a3)
   refine wpAny_bind (wpAny_seqItems o2 rfl (wpAny_bind (wpAny_updateSeq_pair o2 fun g3 o3 M=>wpAny_bind (wpAny_letGo (wpAny_pure (wpAny_bind (wpAny_bind (wpAny_onRaise ?z9))))))))
   case z9=>
   show wpAny _ _ (Builtin.SmallTypes.nextOf (.ref U)>>=_) _ _ { s with heap:=g3}
   refine wpAny_bind (Pj hh (((j2.ext I.extBut D.i2z).ext L.extBut D.i12.symm).ext M.extBut D.TOi2.symm) (((a2.ext I.extBut D.l2z).ext L.extBut D.l2i1).ext M.extBut D.l2TO) hy fun g4 e b4 ⟨oe,d,G⟩=> ?_)
   have z4:IsZip g4 F TI TO .ellipsis:=b4 _ _ D.i2z.symm (M.extBut _ _ D.TOz.symm (L.extBut _ _ D.i1z.symm Z))
   have ne:e≠F:=fun y=>by subst y;rw [z4]at d;cases d;simp at G
   exact wpAny_setField_rec z4 (by simp) fun g5 _ b5=>c g5 e (fun b o Y c2 c3 c4 y=>b5.extBut _ _ Y (b4 _ _ c4 (M.extBut _ _ c2 (L.extBut _ _ c3 (I.extBut _ _ Y y))))) ⟨oe,b5.extBut _ _ ne d,G⟩
theorem Xc {O U:Bool}{d TI TO G I L M:Addr}{W Y:Nat}{xs ys:Array Value}{x y p q:Value}{Q:Option Value->Shared->Prop} (D:ZipApart d TI TO G I L M)
 (hz:IsZip s.heap d TI TO .none) (Z:IsPair s.heap TI (.ref G) (.ref I)) (a0:IsPair s.heap TO p q) (j1:It1 O s.heap G L W) (j2:It1 U s.heap I M Y) (a1:Sq1 O s.heap L xs) (a2:Sq1 U s.heap M ys) (hx:xs[W]? =some x) (hy:ys[Y]? =some y)
 (c:∀g,IsZip g d TI TO (rawInt s.heap.objs.size)->IsPair g TO x y->It1 O g G L (W+1)->It1 U g I M (Y+1)->IsPair g s.heap.objs.size x y->g.objs.size=s.heap.objs.size+1->
   (∀b o,b≠d->b≠TO->b≠G->b≠I->s.heap.get? b=some o->g.get? b=some o)->Q (some (.ref s.heap.objs.size)) { s with heap:=g}):wpAny (model prog w) A (pyNext (.ref d)) Q E s:=by
 have ty:s.TypeIs (.ref d) "zip":=⟨_,hz,rfl⟩
 unfold pyNext
 exact wpAny_bind (wpAny_attempt (wpAny_callSpecial?_slot (name:=Str.ofString "__next__") ty F.slot_zip_next (wpAny_call_entry F.slot_zip_next ty F.entry_zip_next
  (Xb D hz Z a0 j1 j2 a1 a2 hx hy fun g b1 b2 b3 b4 b5 b6 b7=>wpAny_pure (c g b1 b2 b3 b4 b5 b6 b7)) (F.args_zip_next_1 _))))
theorem Xd {U W:Bool}{d TI TO y G I L:Addr}{Y Z:Nat}{xs ys:Array Value}{p q:Value}{Q:Option Value->Shared->Prop} (hh:A.handled=none) (D:ZipApart d TI TO y G I L)
 (hz:IsZip s.heap d TI TO .none) (M:IsPair s.heap TI (.ref y) (.ref G)) (O:IsPair s.heap TO p q) (j1:It1 U s.heap y I Y) (j2:It1 W s.heap G L Z) (a1:Sq1 U s.heap I xs) (a2:Sq1 W s.heap L ys) (he:xs[Y]? =none\/ys[Z]? =none)
 (c:∀g,(∀b o,b≠d->b≠TO->b≠y->b≠G->s.heap.get? b=some o->g.get? b=some o)->Q none { s with heap:=g}):wpAny (model prog w) A (pyNext (.ref d)) Q E s:=by
 have ty:s.TypeIs (.ref d) "zip":=⟨_,hz,rfl⟩
 unfold pyNext
 refine wpAny_bind (wpAny_attempt (wpAny_callSpecial?_slot (name:=Str.ofString "__next__") ty F.slot_zip_next (wpAny_call_entry F.slot_zip_next ty F.entry_zip_next (Yw hh D hz M O j1 j2 a1 a2 he fun g e hk ⟨o,ho,hc⟩=> ?_) (F.args_zip_next_1 _))))
 exact wpAny_bind (wpAny_isInstance (T:="StopIteration") (b:=true) ⟨o,ho,hc⟩ isSubtype_stop (wpAny_pure (c _ hk)))
end
def Ach (t:Bool):String:=if t=true then "tuple_iterator" else "list_iterator"
abbrev Q7 (t:Bool) (u:Addr):Obj:={ cls:= .type (Ach t),data:= .fields #[.ref u,.int 0 0]}
theorem iter1 {prog:Program}{w:World}{A:Around}{E:Value->Shared->Prop}{s:Shared}{t:Bool}{u:Addr}{xs:Array Value}{Q:Value->Shared->Prop} (h:Sq1 t s.heap u xs) (q:Q (.ref s.heap.objs.size) { s with heap:=s.heap.push (Q7 t u)}):wpAny (model prog w) A (pyIter (.ref u)) Q E s:=by
 cases t
 . exact wpAny_pyIter_list h q
 . exact wpAny_pyIter_tuple h q
theorem Vq {t:Bool}{u j:Addr}{g:Heap} (e:g.get? j=some (Q7 t u)):It1 t g j u 0:=by
 cases t
 . exact⟨_,e,rfl,rfl⟩
 . exact⟨_,e,rfl,rfl⟩
theorem Sq1.push {t:Bool}{h:Heap}{u:Addr}{xs:Array Value} (x:Sq1 t h u xs) (o:Obj):Sq1 t (h.push o) u xs:=by
 cases t
 . exact Heap.IsList.push x _
 . obtain⟨d,e,r⟩:=(show h.IsTuple u xs from x)
   exact⟨d,Heap.get?_push_of_some _ e,r⟩
abbrev zA1 (t1:Bool) (h:Heap) (u1:Addr):Heap:=h.push (Q7 t1 u1)
abbrev zA2 (t1 t2:Bool) (h:Heap) (u1 u2:Addr):Heap:=(zA1 t1 h u1).push (Q7 t2 u2)
abbrev zA3 (t1 t2:Bool) (h:Heap) (u1 u2:Addr):Heap:=(zA2 t1 t2 h u1 u2).push { cls:= .type "tuple",data:= .seq #[.ref h.objs.size,.ref (zA1 t1 h u1).objs.size]}
abbrev zA4 (t1 t2:Bool) (h:Heap) (u1 u2:Addr):Heap:=(zA3 t1 t2 h u1 u2).push { cls:= .type "tuple",data:= .seq #[.none,.none]}
abbrev zA5 (t1 t2:Bool) (h:Heap) (u1 u2:Addr):Heap:=(zA4 t1 t2 h u1 u2).push { cls:= .type "zip",data:= .fields #[.none,.bool false,.bool false,.ref (zA2 t1 t2 h u1 u2).objs.size,.ref (zA3 t1 t2 h u1 u2).objs.size]}
theorem Uc (F I:Bool) (y G:Addr) (xs ys:Array Value):
 Meets (Builtin.«zip.__new__» ⟨[.type "zip",.ref y,.ref G],[]⟩) (fun _ R s=>Sq1 F s.heap y xs/\Sq1 I s.heap G ys/\R (.ok (.ret (.ref (zA4 F I s.heap y G).objs.size))) { s with heap:=zA5 F I s.heap y G}):=
 .of_wp fun prog w A R s h=>by
  obtain⟨L,g,d,tk,M⟩:=s;obtain⟨O,U,h⟩:=h
  have Z:=sub_zip
  have W:Sq1 F (Shared.heap ⟨L,g,d,tk,M⟩) y xs:=O
  have Y:Sq1 I (Shared.heap ⟨L.push (Q7 F y),g,d,tk,M⟩) G ys:=U.push _
  wp_walk using iter1 W,iter1 Y
  exact⟨_,rfl,h⟩
theorem Vc {prog:Program}{w:World}{A:Around}{E:Value->Shared->Prop}{s:Shared}{y I:Bool}{d G:Addr}{xs ys:Array Value}{Q:Value->Shared->Prop} (b1:Sq1 y s.heap d xs) (b2:Sq1 I s.heap G ys)
 (c:∀g,IsZip g (s.heap.objs.size+4) (s.heap.objs.size+2) (s.heap.objs.size+3) .none->IsPair g (s.heap.objs.size+2) (.ref s.heap.objs.size) (.ref (s.heap.objs.size+1))->IsPair g (s.heap.objs.size+3) .none .none->
   It1 y g s.heap.objs.size d 0->It1 I g (s.heap.objs.size+1) G 0->(∀b o,s.heap.get? b=some o->g.get? b=some o)->Q (.ref (s.heap.objs.size+4)) { s with heap:=g}):wpAny (model prog w) A (call (.type "zip") [.ref d,.ref G]) Q E s:=by
 refine callType_new F.called_zip (by decide) (F.typeCall_zip_2 _ _) (F.newCall_zip_2 _ _) (fun obj=>F.args_object_init_3 obj _ _) F.entry_zip_new (Uc y I d G xs ys) ⟨b1,b2,?_⟩
 have L:(zA1 y s.heap d).objs.size=s.heap.objs.size+1:=Heap.size_push ..
 have M:(zA2 y I s.heap d G).objs.size=s.heap.objs.size+2:=by rw [Heap.size_push,L]
 have O:(zA3 y I s.heap d G).objs.size=s.heap.objs.size+3:=by rw [Heap.size_push,M]
 have W:(zA4 y I s.heap d G).objs.size=s.heap.objs.size+4:=by rw [Heap.size_push,O]
 have U:(zA5 y I s.heap d G).get? (zA4 y I s.heap d G).objs.size=some _:=Heap.get?_push_size _ rfl
 have Y:(zA5 y I s.heap d G).get? (zA3 y I s.heap d G).objs.size=some _:=Heap.get?_push_of_some _ (Heap.get?_push_size _ rfl)
 have Z:(zA5 y I s.heap d G).get? (zA2 y I s.heap d G).objs.size=some _:=Heap.get?_push_of_some _ (Heap.get?_push_of_some _ (Heap.get?_push_size _ rfl))
 have e2:(zA5 y I s.heap d G).get? (zA1 y s.heap d).objs.size=some (Q7 I G):=Heap.get?_push_of_some _ (Heap.get?_push_of_some _ (Heap.get?_push_of_some _ (Heap.get?_push_size _ rfl)))
 have e1:(zA5 y I s.heap d G).get? s.heap.objs.size=some (Q7 y d):=Heap.get?_push_of_some _ (Heap.get?_push_of_some _ (Heap.get?_push_of_some _ (Heap.get?_push_of_some _ (Heap.get?_push_size _ rfl))))
 show _/\_
 rw [M,O,W]at U
 rw [L,M]at Z
 rw [O]at Y
 rw [L]at e2
 rw [W]
 exact⟨⟨_,U,rfl⟩,c _ U Z Y (Vq e1) (Vq e2) fun b o x=>Heap.get?_push_of_some _ (Heap.get?_push_of_some _ (Heap.get?_push_of_some _ (Heap.get?_push_of_some _ (Heap.get?_push_of_some _ x))))⟩
def SqB (t:Bool) (K:Frag) (H:Hp) (a:Addr) (xs:List V):Prop:=if t=true then SqT K H a xs else SqL K H a xs
theorem Inv.sqB {X:Cx}{pins:List (Addr × Obj)}{σ:St}{H:Hp}{s:Shared}{t:Bool}{a:Addr}{xs:List V} (I:Inv X pins σ H s) (h:SqB t X.K H a xs):∃d:List Value,Vals xs d/\Sq1 t s.heap a d.toArray:=by
 cases t
 . obtain⟨d,r,p,_⟩:=I.list h
   exact⟨d,r,p.isList⟩
 . obtain⟨d,r,p,_⟩:=I.tuple h
   exact⟨d,r,p⟩
theorem Inv.sqB_inj {X:Cx}{pins:List (Addr × Obj)}{σ:St}{H:Hp}{s:Shared}{t:Bool}{a:Addr}{xs ys:List V} (I:Inv X pins σ H s) (h:SqB t X.K H a xs) (h':SqB t X.K H a ys):xs=ys:=by
 cases t
 . exact I.list_inj h h'
 . exact I.tuple_inj h h'
def Aey (t1 t2:Bool) (K:Frag) (a b:Addr):It:=
 ⟨fun i H=>∃xs ys x y,SqB t1 K H a xs/\SqB t2 K H b ys/\xs[i]? =some x/\ys[i]? =some y,
  fun i H x H'=>∃p u v,(∀xs,SqB t1 K H a xs->xs[i]? =some u)/\(∀ys,SqB t2 K H b ys->ys[i]? =some v)/\H p=none/\x= .ref p/\H'=upd H p (.tup [u,v]),
  fun i H=>∃xs ys,SqB t1 K H a xs/\SqB t2 K H b ys/\(xs.length<=i\/ys.length<=i)⟩
theorem W7 {P:Program}{w:World}{K:Frag}{el:List Expr}{x1}{tp:Pos} (t1 t2:Bool) (a b z TI TO U Y:Addr) (D:ZipApart z TI TO U Y a b):
 Turn P w K (.Tuple el x1 tp) (Aey t1 t2 K a b) [z,TI,TO,U,Y] z (fun i h=>IsZip h z TI TO .none/\IsPair h TI (.ref U) (.ref Y)/\(∃c d,IsPair h TO c d)/\It1 t1 h U a i/\It1 t2 h Y b i) where
 mem:=by simp
 obj:=fun i h st c hc=>by
  obtain⟨O,F,⟨u,v,L⟩,h1,h2⟩:=st
  simp only [mem_cons,not_mem_nil,or_false]at hc
  rcases hc with rfl | rfl | rfl | rfl | rfl
  . exact⟨_,O,fun v z=>by cases(show Data.fields _=Data.cell v from z)⟩
  . exact⟨_,F,fun v z=>by cases(show Data.seq _ _=Data.cell v from z)⟩
  . exact⟨_,L,fun v z=>by cases(show Data.seq _ _=Data.cell v from z)⟩
  . exact h1.there
  . exact h2.there
 keep:=fun i h h' st k=>by
  obtain⟨O,F,⟨u,v,L⟩,h1,h2⟩:=st
  exact⟨k z (by simp) _ O,k TI (by simp) _ F,⟨u,v,k TO (by simp) _ L⟩,h1.to fun o e=>k U (by simp) _ e,h2.to fun o e=>k Y (by simp) _ e⟩
 item:=by
  intro X hP hw hK hc i pins s σ H E I hf st hg
  subst hP hw hK
  obtain⟨xs,ys,x,y,Z,a0,hx,hy⟩:=hg
  obtain⟨aa,rv,p⟩:=I.sqB Z
  obtain⟨a8,a7,p2⟩:=I.sqB a0
  obtain⟨u,hu,ru⟩:=rv.get hx
  obtain⟨v,hv,ab⟩:=a7.get hy
  obtain⟨O,F,⟨c,d,L⟩,h1,h2⟩:=st
  refine Xc D O F L h1 h2 p p2 (x:=u) (y:=v) (by simpa using hu) (by simpa using hv) fun g a1 a2 a3 a4 a5 a6 hk=>⟨_,rfl,?_⟩
  refine wpAny_letOwnedTupleGo_zip a1 fun g2 ac M=> ?_
  replace M:Heap.SameBut z g g2:=M
  have lt:∀b∈ [z,TI,TO,U,Y],b≠s.heap.objs.size:=fun b G=>by
   obtain⟨o1,e1,_⟩:=h1.there
   obtain⟨o2,e2,_⟩:=h2.there
   simp only [mem_cons,not_mem_nil,or_false]at G
   rcases G with rfl | rfl | rfl | rfl | rfl
   . exact ne_of_lt (Heap.lt_size O)
   . exact ne_of_lt (Heap.lt_size F)
   . exact ne_of_lt (Heap.lt_size L)
   . exact ne_of_lt (Heap.lt_size e1)
   . exact ne_of_lt (Heap.lt_size e2)
  have hn:H s.heap.objs.size=none:=I.fresh
  have I1:Inv X pins σ (upd H s.heap.objs.size (.tup [x,y])) { s with heap:=s.heap.push { cls:= .type "tuple",data:= .seq #[u,v]},toks:=s.toks}:=
   I.laid (fun b o q=>Heap.get?_push_of_some _ q) (le_refl _) ⟨by show 2<=sizeLine;decide,[u,v],.cons ru (.cons ab .nil),⟨_,Heap.get?_push_size _ rfl,rfl,_,rfl⟩⟩
  have a9:∀b∈ [z,TI,TO,U,Y],Qt X pins (upd H s.heap.objs.size (.tup [x,y])) b:=fun b G=>
   ⟨by rw [Bl (lt b G)];exact(hf b G).1,(hf b G).2⟩
  have I2:=I1.turnL (h':=g2) (t':=s.toks) (fp:=[z,TI,TO,U,Y]) (fun b o G q=>by
   have n1:b≠z:=fun e=>G (by simp [e])
   refine(M.2 b n1).trans ?_
   rcases Heap.get?_push_cases q with⟨rfl,rfl⟩ | q0
   . exact a5
   . exact hk b o n1 (fun e=>G (by simp [e])) (fun e=>G (by simp [e])) (fun e=>G (by simp [e])) q0) a9
  refine⟨.ref s.heap.objs.size,_,I2,rfl,⟨_,x,y,fun zs O=>by rw [I.sqB_inj O Z];exact hx,fun zs O=>by rw [I.sqB_inj O a0];exact hy,hn,rfl,rfl⟩,⟨ac,?_,⟨u,v,M.extBut _ _ D.TOz a2⟩,a3.ext M.extBut D.i1z,a4.ext M.extBut D.i2z⟩,fun b G=>(a9 b G).1⟩
  exact M.extBut _ _ D.TIz (hk _ _ D.TIz D.TITO D.TIi1 D.TIi2 F)
 done:=by
  intro X hP hw hK hc i pins s σ H E I hf st hg
  subst hP hw hK
  obtain⟨xs,ys,Z,a0,ad⟩:=hg
  obtain⟨aa,rv,p⟩:=I.sqB Z
  obtain⟨a8,a7,p2⟩:=I.sqB a0
  obtain⟨O,F,⟨c,d,L⟩,h1,h2⟩:=st
  have l1:=rv.length
  have l2:=a7.length
  exact Xd (I.ok.hd hc) D O F L h1 h2 p p2 (by
   rcases ad with h | h
   . exact .inl (by simp;omega)
   . exact .inr (by simp;omega)) fun g hk=>⟨rfl,I.turnL (t':=s.toks) (fp:=[z,TI,TO,U,Y]) (fun b o G q=>hk b o (fun e=>G (by simp [e])) (fun e=>G (by simp [e])) (fun e=>G (by simp [e])) (fun e=>G (by simp [e])) q) hf⟩
 self:=fun _ _ _ _ _ st h=>wpAny_pyIter_zip st.1 h
section
variable {X:Cx}{a b:Expr}{ta:TA}{el:List Expr}{x1}{tp p pos:Pos}
def Aag (t1 t2:Bool) (K:Frag) (ta:TA):TI:=fun σ H R=>ta σ H fun vs H1=>∃a b,vs=[.ref a,.ref b]/\(∃xs,SqB t1 K H1 a xs)/\(∃ys,SqB t2 K H1 b ys)/\R (Aey t1 t2 K a b) H1
theorem Rq (M O:Bool) (hg:Gl X "zip") (hm:X.mg "zip"=none) (ha:PA X [a,b] ta) (hs:starEach [a,b] X.env=[(false,eval a X.env),(false,eval b X.env)]:=by rfl) (y:starEach [b] X.env=[(false,eval b X.env)]:=by rfl):
 PI X (.Tuple el x1 tp) (.Call (.Name "zip" p) [a,b] [] pos) (Aag M O X.K ta):=by
 intro pins s σ H R I h
 refine Call_ (Ma I hg hm boot_zip (PyProof.Rows.callWith_type1 (thn (ha pos pins s σ H _ I h) fun us d ⟨vs,H1,F,U,q1⟩=> ?_) (by rw [hs,y]) (by rw [y];rfl)))
 obtain⟨u,v,rfl,⟨xs,W⟩,⟨ys,Y⟩,q⟩:=q1
 obtain⟨v1,v2,rfl,U,r2⟩:=vals2 U
 cases U
 cases r2
 obtain⟨a7,rx,Z⟩:=F.sqB W
 obtain⟨a6,ry,py⟩:=F.sqB Y
 have a0:u<d.heap.objs.size:=by
  cases M
  . obtain⟨o,e,_⟩:=(show d.heap.IsList u _ from Z)
    exact Heap.lt_size e
  . obtain⟨o,e,_⟩:=(show d.heap.IsTuple u _ from Z)
    exact Heap.lt_size e
 have a1:v<d.heap.objs.size:=by
  cases O
  . obtain⟨o,e,_⟩:=(show d.heap.IsList v _ from py)
    exact Heap.lt_size e
  . obtain⟨o,e,_⟩:=(show d.heap.IsTuple v _ from py)
    exact Heap.lt_size e
 refine Vc Z py fun h' hz a2 a3 a4 a5 hk=> ?_
 have I2:Inv X pins σ H1 { d with heap:=h'}:=F.kept (t':=d.toks) fun c o' e=>hk c o' e
 refine wpAny_pyIter_zip hz ⟨d.heap.objs.size+4,[d.heap.objs.size+4,d.heap.objs.size+2,d.heap.objs.size+3,d.heap.objs.size,d.heap.objs.size+1],_,_,H1,rfl,I2,W7 M O u v _ _ _ _ _ (zipApart_new a0 a1),⟨hz,a2,⟨_,_,a3⟩,a4,a5⟩,fun c G=> ?_,q⟩
 have L:d.heap.objs.size<=c:=by
  simp only [mem_cons,not_mem_nil,or_false]at G
  rcases G with rfl | rfl | rfl | rfl | rfl
  . exact le_add_right _ 4
  . exact le_add_right _ 2
  . exact le_add_right _ 3
  . exact le_refl _
  . exact le_add_right _ 1
 exact F.fpOk L (F.hok.fresh L)
end
theorem Abr {d y:Bool}{K:Frag}{ta:TA}{σ:St}{H:Hp}{R:It->Hp->Prop}:Aag d y K ta σ H R=ta σ H (fun F H1=>∃a b,F=[.ref a,.ref b]/\(∃xs,SqB d K H1 a xs)/\(∃ys,SqB y K H1 b ys)/\R (Aey d y K a b) H1):=rfl
end L2
namespace L2
open PySem PySem.Spec PyProof.Rows
set_option maxRecDepth 100000
abbrev TB:=St->Hp->(St->Hp->Prop)->XK->Prop
end L2
namespace L2
open PySem PySem.Spec PyProof.Rows
section
variable {κ:Type} [DecidableEq κ]
def U6 (kvs:List (κ × V)) (k:κ):Option V:=(kvs.find? fun kv=>decide (kv.1=k)).map (·.2)
def putK (kvs:List (κ × V)) (k:κ) (v:V):List (κ × V):=
 if(kvs.any fun kv=>decide (kv.1=k))=true then kvs.map (fun kv=>if kv.1=k then(kv.1,v)else kv)else kvs++ [(k,v)]
def Ab8 (kvs:List (κ × V)) (k:κ):List (κ × V):=kvs.filter fun kv=>decide (kv.1≠k)
theorem Oz {p:κ × V}{r:List (κ × V)}{k:κ} (e:p.1=k):U6 (p::r) k=some p.2:=by simp [U6,find?_cons,e]
theorem Ox {p:κ × V}{r:List (κ × V)}{k:κ} (e:¬p.1=k):U6 (p::r) k=U6 r k:=by simp [U6,find?_cons,e]
theorem Tj (k:κ):∀d:List (κ × V),(d.any fun y=>decide (y.1=k))=(U6 d k).isSome
 | []=>rfl
 | p::r=>by
   rw [any_cons]
   by_cases e:p.1=k
   . simp only [Oz e,decide_eq_true e,Bool.true_or,Option.isSome_some]
   . rw [Ox e,decide_eq_false e,Bool.false_or];exact Tj k r
theorem Xe.isSome_eq {o:Option V}{u:Option Value} (r:Xe o u):o.isSome=u.isSome:=by
 cases o with
 | none=>cases u with
   | none=>rfl
   | some _=>exact(show False from r).elim
 | some _=>cases u with
   | none=>exact(show False from r).elim
   | some _=>rfl
theorem Xe.getD {o:Option V}{u:Option Value}{d:V}{d':Value} (r:Xe o u) (y:RelV d d'):RelV (o.getD d) (u.getD d'):=by
 cases o with
 | none=>cases u with
   | none=>exact y
   | some _=>exact(show False from r).elim
 | some _=>cases u with
   | none=>exact(show False from r).elim
   | some _=>exact r
theorem KV.val {d:List (κ × V)}{G:List (κ × Value)} (r:KV d G) (k:κ):Xe (U6 d k) (valueAt G k):=by
 unfold KV at r
 induction r with
 | nil=>exact True.intro
 | @cons p q ps y h t I=>
   obtain⟨h1,h2⟩:=h
   by_cases e:p.1=k
   . have F:q.1=k:=h1.symm.trans e
     have b:valueAt (q::y) k=some q.2:=by simp [valueAt,find?_cons,F]
     rw [Oz e,b];exact h2
   . have F:¬q.1=k:=fun z=>e (h1.trans z)
     have b:valueAt (q::y) k=valueAt y k:=by simp [valueAt,find?_cons,F]
     rw [Ox e,b];exact I
theorem KV.any {d:List (κ × V)}{F:List (κ × Value)} (r:KV d F) (k:κ):(d.any fun y=>decide (y.1=k))=F.any fun y=>decide (y.1=k):=by
 unfold KV at r
 induction r with
 | nil=>rfl
 | cons h t G=>rw [any_cons,any_cons,G,h.1]
theorem KV.repl {F:List (κ × V)}{G:List (κ × Value)} (r:KV F G) (k:κ) {y:V}{u:Value} (I:RelV y u):
 KV (F.map fun d=>if d.1=k then(d.1,y)else d) (G.map fun d=>if d.1=k then(d.1,u)else d):=by
 unfold KV at r ⊢
 induction r with
 | nil=>exact .nil
 | @cons p q ps M h t L=>
   rw [map_cons,map_cons]
   refine .cons ?_ L
   obtain⟨h1,h2⟩:=h
   by_cases e:p.1=k
   . rw [if_pos e,if_pos (h1.symm.trans e)];exact⟨h1,I⟩
   . rw [if_neg e,if_neg (fun z=>e (h1.trans z))];exact⟨h1,h2⟩
theorem KV.put {d:List (κ × V)}{F:List (κ × Value)} (r:KV d F) (k:κ) {y:V}{u:Value} (G:RelV y u):KV (putK d k y) (stored F k u):=by
 unfold putK stored
 rw [r.any k]
 by_cases e:(F.any fun I=>decide (I.1=k))=true
 . rw [if_pos e,if_pos e];exact r.repl k G
 . rw [if_neg e,if_neg e];exact Paired.snoc r ⟨rfl,G⟩
theorem KV.drop {d:List (κ × V)}{y:List (κ × Value)} (r:KV d y) (k:κ):KV (Ab8 d k) (without y k):=by
 unfold KV at r ⊢
 unfold Ab8 without
 induction r with
 | nil=>exact .nil
 | @cons p q ps I h t F=>
   obtain⟨h1,h2⟩:=h
   rw [List.filter_cons,List.filter_cons]
   by_cases e:p.1=k
   . have a:¬decide (p.1≠k)=true:=by simp [e]
     have b:¬decide (q.1≠k)=true:=by simp [h1.symm.trans e]
     rw [if_neg a,if_neg b];exact F
   . have G:¬q.1=k:=fun z=>e (h1.trans z)
     have a:decide (p.1≠k)=true:=by simp [e]
     have b:decide (q.1≠k)=true:=by simp [G]
     rw [if_pos a,if_pos b];exact .cons ⟨h1,h2⟩ F
theorem KV.length {d:List (κ × V)}{y:List (κ × Value)} (r:KV d y):d.length=y.length:=Paired.length r
end
abbrev KT (H:Hp):List (List Key × V)->List (List Key × Addr × Value)->Prop:=Paired fun p q=>p.1=q.1/\H q.2.1=some (.tup (p.1.map kV))/\RelV p.2 q.2.2
theorem KT.val {H:Hp}{d:List (List Key × V)}{xs:List (List Key × Addr × Value)} (r:KT H d xs) (k:List Key):Xe (U6 d k) ((atKey xs k).map (·.2)):=by
 induction r with
 | nil=>exact True.intro
 | @cons p q ps y h t G=>
   obtain⟨h1,_,h2⟩:=h
   by_cases e:p.1=k
   . have F:q.1=k:=h1.symm.trans e
     have b:atKey (q::y) k=some q.2:=by simp [atKey,find?_cons,F]
     rw [Oz e,b];exact h2
   . have F:¬q.1=k:=fun z=>e (h1.trans z)
     have b:atKey (q::y) k=atKey y k:=by simp [atKey,find?_cons,F]
     rw [Ox e,b];exact G
theorem KT.repl {H:Hp}{d:List (List Key × V)}{xs:List (List Key × Addr × Value)} (r:KT H d xs) (k:List Key) {y:V}{u:Value} (G:RelV y u):
 KT H (d.map fun F=>if F.1=k then(F.1,y)else F) (xs.map (putAt k u)):=by
 induction r with
 | nil=>exact .nil
 | @cons p q ps M h t I=>
   rw [map_cons,map_cons]
   refine .cons ?_ I
   obtain⟨h1,h2,L⟩:=h
   unfold putAt
   by_cases e:p.1=k
   . rw [if_pos e,if_pos (h1.symm.trans e)];exact⟨h1,h2,G⟩
   . rw [if_neg e,if_neg (fun z=>e (h1.trans z))];exact⟨h1,h2,L⟩
theorem KT.put {H:Hp}{d:List (List Key × V)}{xs:List (List Key × Addr × Value)} (r:KT H d xs) (k:List Key) {b:Addr}{y:V}{u:Value} (G:H b=some (.tup (k.map kV))) (F:RelV y u):
 KT H (putK d k y) (storedH xs k b u):=by
 have e:(d.any fun I=>decide (I.1=k))=(atKey xs k).isSome:=by
  rw [Tj,(r.val k).isSome_eq,Option.isSome_map]
 unfold putK storedH
 rw [e]
 by_cases q:(atKey xs k).isSome=true
 . rw [if_pos q,if_pos q];exact r.repl k F
 . rw [if_neg q,if_neg q];exact Paired.snoc r ⟨rfl,G,F⟩
theorem KT.keeps {H H':Hp}{d:List (List Key × V)}{xs:List (List Key × Addr × Value)} (r:KT H d xs) (y:∀b ys,H b=some (.tup ys)->H' b=some (.tup ys)):KT H' d xs:=
 Paired.mapP r fun _ _ z=>⟨z.1,y _ _ z.2.1,z.2.2⟩
def Aew (H:Hp) (a:Addr) (y:V) (r:Option V):Prop:=
 (∃kvs k,Rd H a (.dK kvs)/\y=kV k/\r=U6 kvs k)\/∃kvs k b,Rd H a (.dT kvs)/\y= .ref b/\H b=some (.tup (k.map kV))/\r=U6 kvs k
def Aex (H:Hp) (a:Addr) (y v:V) (H':Hp):Prop:=
 (∃kvs k,H a=some (.dK kvs)/\y=kV k/\kvs.length<sizeLine/\H'=upd H a (.dK (putK kvs k v)))\/
 ∃kvs k b,H a=some (.dT kvs)/\y= .ref b/\H b=some (.tup (k.map kV))/\kvs.length<sizeLine/\H'=upd H a (.dT (putK kvs k v))
theorem Aew.k {H:Hp}{a:Addr}{d:List (Key × V)}{k:Key} (e:H a=some (.dK d)):Aew H a (kV k) (U6 d k):= .inl ⟨d,k,.inl e,rfl,rfl⟩
theorem Aew.t {H:Hp}{a b:Addr}{d:List (List Key × V)}{k:List Key} (e:H a=some (.dT d)) (y:H b=some (.tup (k.map kV))):Aew H a (.ref b) (U6 d k):= .inr ⟨d,k,b,.inl e,rfl,y,rfl⟩
theorem Aex.k {H:Hp}{a:Addr}{d:List (Key × V)}{k:Key}{v:V} (e:H a=some (.dK d)) (y:d.length<sizeLine):Aex H a (kV k) v (upd H a (.dK (putK d k v))):= .inl ⟨d,k,e,rfl,y,rfl⟩
theorem Aex.t {H:Hp}{a b:Addr}{d:List (List Key × V)}{k:List Key}{v:V} (e:H a=some (.dT d)) (y:H b=some (.tup (k.map kV))) (F:d.length<sizeLine):
 Aex H a (.ref b) v (upd H a (.dT (putK d k v))):= .inr ⟨d,k,b,e,rfl,y,F,rfl⟩
structure M1 (X:Cx) (o:Expr) (m:Str) (apos:Pos) (e:Expr) (cpos:Pos):Prop where
 base:attributeBase o m X.env (eval o X.env)=eval o X.env
 few:((backTo cpos (starEach [e] X.env)).all (fun x=> !x.1)&&(backToKw cpos (keywordEach [] X.env)).all (fun x=>x.1.isSome)
  &&decide (([e]:List Expr).length+([]:List Keyword).length+(if([]:List Keyword).isEmpty then 0 else 1)<30))=true
 line:(apos.endLine==cpos.line)=true
 trees:backTo cpos (starEach [e] X.env)=[(false,eval e X.env)]
structure M2 (X:Cx) (o:Expr) (m:Str) (apos:Pos) (e f:Expr) (cpos:Pos):Prop where
 base:attributeBase o m X.env (eval o X.env)=eval o X.env
 few:((backTo cpos (starEach [e,f] X.env)).all (fun x=> !x.1)&&(backToKw cpos (keywordEach [] X.env)).all (fun x=>x.1.isSome)
  &&decide (([e,f]:List Expr).length+([]:List Keyword).length+(if([]:List Keyword).isEmpty then 0 else 1)<30))=true
 line:(apos.endLine==cpos.line)=true
 trees:backTo cpos (starEach [e,f] X.env)=[(false,eval e X.env),(false,eval f X.env)]
end L2
namespace L2
open PySem PySem.Spec PyProof.Rows
theorem Xm {Y Z:Bool}{K:Frag}{a b:Addr}{xs ys:List V}{H1:Hp}{p:Addr}{cσ:St}{g:TG}{te:TE}{Q:VK} (n:Nat) (hn:n=min xs.length ys.length) (f:Nat->V) (hz:n<=sizeLine) (hp:H1 p=none)
 (M:∀H',Same H1 H'->SqB Y K H' a xs) (O:∀H',Same H1 H'->SqB Z K H' b ys)
 (step:∀(i:Nat) (H':Hp) (q:Addr) (R:VK),i<n->Same H1 H'->H' q=some (.tup [xs.getD i .non,ys.getD i .non])->(∀F,Same H' F->R (f i) F)->g (.ref q) cσ H' fun d I=>Kp cσ d/\te d I R)
 (L:∀H',Same H1 H'->H' p=some (.lst ((List.range n).map f))->Q (.ref p) H'):cIn (Aey Y Z K a b) cσ g Rv te Q H1 p:=by
 have su:∀ {H':Hp}{o:HO},Same H1 H'->Same H1 (upd H' p o):=fun {H' o} s b u e=>by
  rw [Bl (Bs e hp)]
  exact s b u e
 refine⟨fun i m G H'=>m=n-i/\i<=n/\G=(List.range i).map f/\H' p=some (.lst G)/\Same H1 H',⟨n,by simp,zero_le _,by simp,Ah,su (Same.refl _)⟩,?_⟩
 rintro i m G H' ⟨rfl,hi,rfl,hH,s⟩
 by_cases he:i=n
 . subst he
   exact .inl ⟨⟨xs,ys,M _ s,O _ s,by omega⟩,L _ s hH⟩
 . have hl:i<n:=by omega
   have ex:xs[i]? =some (xs.getD i .non):=by rw [getD_eq_getElem?_getD,getElem?_eq_getElem (by omega)];rfl
   have ey:ys[i]? =some (ys.getD i .non):=by rw [getD_eq_getElem?_getD,getElem?_eq_getElem (by omega)];rfl
   refine .inr ⟨⟨xs,ys,_,_,M _ s,O _ s,ex,ey⟩,fun x H3 y=> ?_⟩
   obtain⟨q,u,v,hu,hv,hq,rfl,rfl⟩:=y
   have eu:=hu _ (M _ s)
   have ev:=hv _ (O _ s)
   rw [ex]at eu
   rw [ey]at ev
   cases eu
   cases ev
   have U:=Same.upd hq (.tup [xs.getD i .non,ys.getD i .non])
   have q0:=step i (upd H' q (.tup [xs.getD i .non,ys.getD i .non])) q (fun y F=>F p=some (.lst ((List.range i).map f))/\((List.range i).map f).length<sizeLine/\∃m',m'<n-i/\m'=n-(i+1)/\i+1<=n/\(List.range i).map f++ [y]=(List.range (i+1)).map f/\
    upd F p (.lst ((List.range i).map f++ [y])) p=some (.lst ((List.range i).map f++ [y]))/\Same H1 (upd F p (.lst ((List.range i).map f++ [y])))) hl (s.trans U) Ah
    (fun F s6=>⟨s6 _ _ (U _ _ hH),by rw [length_map,length_range];omega,_,by omega,rfl,hl,by rw [List.range_succ,map_append];rfl,Ah,su ((s.trans U).trans s6)⟩)
   have eq:∀(R:VK) (B:Hp->Prop),(fun d I=>Kp cσ d/\Rv d I fun b H5=>if b=true then te d H5 R else B H5)=(fun d I=>Kp cσ d/\te d I R):=fun R B=>by
    funext d I
    simp only [Rv,if_pos]
   rw [eq]
   exact q0
end L2
namespace L2
open PySem PySem.W PyProof.Rows
structure LO (n:Nat) (lt:Nat->Nat->Bool):Prop where
 tri:∀i j,i<n->j<n->i≠j->lt i j= !lt j i
 trans:∀i j k,i<n->j<n->k<n->lt i j=true->lt j k=true->lt i k=true
def KOk {α:Type} (lt:Nat->Nat->Bool) (n:Nat):KasT α->(α->Prop)->Prop
 | .ret a,P=>P a
 | .ask i j k,P=>i<n/\j<n/\i≠j/\KOk lt n (k (lt i j)) P
theorem KOk.bind {α d:Type}{lt:Nat->Nat->Bool}{n:Nat}{f:α->KasT d}{P:d->Prop}:∀ {t:KasT α},KOk lt n t (fun a=>KOk lt n (f a) P)->KOk lt n (t.bind f) P
 | .ret _,h=>h
 | .ask _ _ k,h=>⟨h.1,h.2.1,h.2.2.1,KOk.bind (t:=k _) h.2.2.2⟩
theorem KOk.mono {α:Type}{lt:Nat->Nat->Bool}{n:Nat}{P Q:α->Prop} (d:∀a,P a->Q a):∀ {t:KasT α},KOk lt n t P->KOk lt n t Q
 | .ret a,h=>d a h
 | .ask _ _ k,h=>⟨h.1,h.2.1,h.2.2.1,KOk.mono d (t:=k _) h.2.2.2⟩
def aT (p:Array Nat) (i:Nat):Nat:=p.getD i 0
structure PM (n:Nat) (p:Array Nat):Prop where
 sz:p.size=n
 lt:∀i,i<n->aT p i<n
 ne:∀i j,i<n->j<n->i≠j->aT p i≠aT p j
 pm:p.toList.Perm (List.range n)
theorem PM.of {n:Nat}{p:Array Nat} (h:p.toList.Perm (List.range n)):PM n p:=by
 have sz:p.size=n:=by
  have:=h.length_eq
  simpa using this
 have G:p.toList.Nodup:=h.nodup_iff.mpr List.nodup_range
 refine⟨sz,fun i hi=> ?_,fun i j hi O I e=> ?_,h⟩
 . have d:i<p.size:=by omega
   have e:aT p i=p[i]:=by simp [aT,d]
   have m:p[i]∈p.toList:=by simp
   rw [e]
   exact mem_range.mp (h.mem_iff.mp m)
 . have d:i<p.toList.length:=by rw [Array.length_toList];omega
   have y:j<p.toList.length:=by rw [Array.length_toList];omega
   have L:aT p i=p.toList[i]:=by simp [aT,show i<p.size by omega]
   have M:aT p j=p.toList[j]:=by simp [aT,show j<p.size by omega]
   have pw:=List.pairwise_iff_getElem.mp G
   have F:p.toList[i]=p.toList[j]:=by rw [<-L,<-M,e]
   rcases Nat.lt_or_gt_of_ne I with l | l
   . exact pw i j d y l F
   . exact pw j i y d l F.symm
theorem PM.start (n:Nat):PM n (List.toArray (List.range n)):=PM.of (by simp)
end L2
namespace L2
open PySem PySem.Spec PySem.Calls PyProof.Rows PySem.W
abbrev Prt:=Addr × Addr × List Int × V
def Prt.ks (t:Prt):List Int:=t.2.2.1
structure Aht (K:Frag) (H:Hp) (t:Prt):Prop where
 pr:SqT K H t.1 [.ref t.2.1,t.2.2.2]
 tu:SqT K H t.2.1 (t.ks.map V.int)
structure Ae0 (P:Program) (w:World) (h:Heap) (t:Prt):Prop where
 pr:∃o xs n u,h.get? t.1=some o/\o.cls= .type "tuple"/\o.data= .seq xs n/\xs.toList=[.ref t.2.1,u]
 tu:∃its:List Value,IsTup h t.2.1 its.toArray/\IntsAre its t.ks
theorem Ae0.keeps {P:Program}{w:World}{h h':Heap}{a:Addr}{t:Prt} (x:Ae0 P w h t) (k:∀b o,b≠a->h.get? b=some o->h'.get? b=some o) (h1:t.1≠a) (h2:t.2.1≠a):Ae0 P w h' t:=by
 obtain⟨⟨o,xs,n,u,e,r⟩,d,⟨y,F,rt⟩,i⟩:=x
 exact⟨⟨o,xs,n,u,k _ _ h1 e,r⟩,d,⟨y,k _ _ h2 F,rt⟩,i⟩
theorem Aht.at {X:Cx}{pins:List (Addr × Obj)}{σ:St}{H:Hp}{s:Shared}{t:Prt} (I:Inv X pins σ H s) (x:Aht X.K H t):Ae0 X.prog X.w s.heap t/\t.1<s.heap.objs.size/\t.2.1<s.heap.objs.size:=by
 obtain⟨F,r,⟨o,e,c,n,d⟩,_⟩:=I.tuple x.pr
 obtain⟨y,G,p2,_⟩:=I.tuple x.tu
 refine⟨⟨?_,y,p2,intsAre_of G⟩,Heap.lt_size e,p2.lt⟩
 cases r with
 | cons L M=>
   cases L
   cases M with
   | cons U O=>
     cases O
     exact⟨o,_,n,_,e,c,d,rfl⟩
end L2
namespace L2
open PySem PySem.Spec PyProof.Rows
structure M0 (X:Cx) (o:Expr) (m:Str) (apos cpos:Pos):Prop where
 base:attributeBase o m X.env (eval o X.env)=eval o X.env
 few:((backTo cpos (starEach [] X.env)).all (fun x=> !x.1)&&(backToKw cpos (keywordEach [] X.env)).all (fun x=>x.1.isSome)
  &&decide (([]:List Expr).length+([]:List Keyword).length+(if([]:List Keyword).isEmpty then 0 else 1)<30))=true
 line:(apos.endLine==cpos.line)=true
 trees:backTo cpos (starEach [] X.env)=[]
end L2
namespace L2
open PySem PySem.Spec PySem.Calls PyProof.Rows PySem.W
abbrev Tpt:=Addr × List Int
structure Afa (h:Heap) (t:Tpt):Prop where
 tu:∃its:List Value,IsTup h t.1 its.toArray/\IntsAre its t.2
theorem Afa.keeps {h h':Heap}{a:Addr}{t:Tpt} (x:Afa h t) (k:∀b o,b≠a->h.get? b=some o->h'.get? b=some o) (h1:t.1≠a):Afa h' t:=by
 obtain⟨d,⟨y,F,rt⟩,i⟩:=x
 exact⟨d,⟨y,k _ _ h1 F,rt⟩,i⟩
end L2
namespace L2
open PySem PySem.Spec PyProof.Rows
set_option maxRecDepth 100000
end L2
namespace L2
open PySem PySem.Spec PyProof.Rows
theorem Q0:∀(names:List (Str × NameKind)) (n:Nat) (d:List (Str × Addr)) (y:Str) (c:Addr),(cellsFrom n names d).lookup y=some c->d.lookup y=some c\/(n<=c/\(y,NameKind.cell)∈names)
 | [],_,_,_,_,h=> .inl h
 | (x,k)::r,n,d,y,c,h=>by
   unfold cellsFrom at h
   by_cases F:(k==NameKind.cell)=true
   . rw [if_pos F]at h
     have G:k= .cell:=by simpa using F
     subst G
     rcases Q0 r (n+1) _ y c h with z | ⟨z,m⟩
     . rw [lookup_cons]at z
       cases e:y==x with
       | true=>
         rw [e]at z
         have I:y=x:=by simpa using e
         subst I
         exact .inr ⟨le_of_eq (Option.some.inj z),mem_cons_self⟩
       | false=>
         rw [e]at z
         exact .inl z
     . exact .inr ⟨by omega,mem_cons_of_mem _ m⟩
   . rw [if_neg F]at h
     rcases Q0 r n d y c h with z | ⟨z,m⟩
     . exact .inl z
     . exact .inr ⟨z,mem_cons_of_mem _ m⟩
structure O2 (X:Cx) (ts:List Str) (fs:List (Nat × Str)) (scope:Scope):Prop where
 kind:scope.kind= .function
 names:∀y∈scope.names,y.2= .local ->scope.names.lookup y.1=some .local
 free:∀y∈scope.names,y.2= .free->X.env.kindOf y.1=some .cell\/X.env.kindOf y.1=some .free
 at':∀p∈fs,X.N[p.1]? =some p.2/\(p.2,NameKind.free)∈scope.names/\((relabel scope X.env).names.lookup p.2=some .cell\/(relabel scope X.env).names.lookup p.2=some .free)/\¬(p.2,NameKind.cell)∈scope.names
def Ahu (sc:Scope) (N:List Str) (fs:List (Nat × Str)) (scope:Scope):Bool:=
 (scope.kind== .function)&&(scope.names.all fun y=>y.2 != .local ||scope.names.lookup y.1==some .local)&&
 (scope.names.all fun y=>y.2 != .free||(sc.names.lookup y.1==some .cell||sc.names.lookup y.1==some .free))&&
 fs.all fun p=>N[p.1]? ==some p.2&&(scope.names.contains (p.2,NameKind.free)&&(((rlb sc scope).lookup p.2==some .cell||(rlb sc scope).lookup p.2==some .free)&& !scope.names.contains (p.2,NameKind.cell)))
theorem O2.of {X:Cx}{ts:List Str}{fs:List (Nat × Str)}{scope sc:Scope}{N:List Str} (G:X.env.scope=sc) (I:X.N=N) (h:Ahu sc N fs scope=true):O2 X ts fs scope:=by
 unfold Ahu at h
 simp only [and_eq_true,all_eq_true,or_eq_true,bne_iff_ne,beq_iff_eq,List.contains_iff_mem,Bool.not_eq_true']at h
 obtain⟨⟨⟨h1,L⟩,M⟩,O⟩:=h
 refine⟨h1,fun y F e=> ?_,fun y F e=> ?_,fun p U=> ?_⟩
 . rcases L y F with z | z
   . exact absurd e z
   . exact z
 . rcases M y F with z | z
   . exact absurd e z
   . show X.env.scope.names.lookup y.1=_\/X.env.scope.names.lookup y.1=_
     rw [G]
     exact z
 . obtain⟨a,b,c,d⟩:=O p U
   refine⟨by rw [I];exact a,b,?_,fun z=> ?_⟩
   . subst G
     exact c
   . rw [<-List.contains_iff_mem]at z
     rw [z]at d
     cases d
section
variable {X:Cx}{elt tg iter:Expr}{ifs:List Expr}{scope:Scope}{pos:Pos}{wi:TI}{g:TG}{tt:TT}{te:TE}{ts:List Str}{fs:List (Nat × Str)}
theorem O2.clos (S:O2 X ts fs scope) (ok:X.Ok):∀x∈scope.names,x.2= .free->∃c,X.env.cells.lookup x.1=some c:=fun x d y=>ok.has x.1 (S.free x d y)
theorem O2.sub0 (S:O2 X ts fs scope) (ok:X.Ok) {y:Str}{c:Addr} (h:(scope.names.foldl (clF X.env) []).lookup y=some c):X.env.cells.lookup y=some c:=by
 rcases N7 scope.names [] y c (S.clos ok) h with z | z
 . simp at z
 . exact z
theorem O2.sub (S:O2 X ts fs scope) (ok:X.Ok) {n:Nat}{y:Str}{c:Addr} (h:(cellsFrom n scope.names (scope.names.foldl (clF X.env) [])).lookup y=some c):X.env.cells.lookup y=some c\/n<=c:=by
 rcases Q0 _ _ _ _ _ h with z | ⟨z,_⟩
 . exact .inl (S.sub0 ok z)
 . exact .inr z
end
end L2
namespace L2
open PySem PySem.Spec PyProof.Rows
structure Pyl (P:Program) (base:Heap):Prop where
 seer:base.NoSeer
 tree:P.given.tree=none
theorem J4.far {k:Nat}{A:Around} (r:J4 k A) (h:32<=k):A.depth+Builtin.pylongFrames<recursionLimit:=by
 have h1:=r.dp
 have h2:Builtin.pylongFrames=100:=rfl
 omega
section
variable {X:Cx}{env:Env}{l:List Env}
theorem Yl {pins:List (Addr × Obj)}{σ:St}{H:Hp}{s:Shared} (d:Pyl X.prog X.base) (y:X.A.depth+Builtin.pylongFrames<recursionLimit) (F:X.stack=env::l) (h1:env.scope.isGenerator=false) (h2:env.scope.isCoroutine=false) (G:env.builtins=builtinsNs) (L:env.globals=mainGlobals)
 (I:Inv X pins σ H s):PylongRoom (model X.prog X.w) X.A s:=by
 refine PylongRoom.of I.nolimit y (SeerAt.of (l:=l) (d.seer.keeps I.bk) d.tree ?_ h1 h2 G L)
 rw [I.ok.frames,F]
theorem Lj (d:Pyl X.prog X.base) (F:X.A.depth+Builtin.pylongFrames<recursionLimit) (G:X.stack=env::l) (h1:env.scope.isGenerator=false) (h2:env.scope.isCoroutine=false) (L:env.builtins=builtinsNs) (M:env.globals=mainGlobals):
 OpR X (binaryOp .FloorDiv) (rI (fun _ j=>j≠0) fun i j=> .int (i.fdiv j)):=by
 intro pins s σ H x y v u Q I O U h
 obtain⟨i,j,rfl,rfl,W,q⟩:=h
 obtain⟨t,rfl⟩:=O
 obtain⟨Y,rfl⟩:=U
 exact floordiv_int W ⟨.int (i.fdiv j),H,I.tok _,⟨_,rfl⟩,q⟩ (.inr (Yl d F G h1 h2 L M I))
end
theorem Yo {h:Heap}{H:Hp}{a:Addr}{F:List Value} (y:h.NoSeer) (I:h.get? a=some { cls:= .type "list",data:= .seq F.toArray}) (L:∀b,H b≠none->b=a):(U5 h H).NoSeer:=by
 have keep:∀ {b o},h.get? b=some o->o.cls≠ .type "list"\/(∃es ep,o.data=Data.dict es ep)->(U5 h H).get? b=some o:=fun {b o} e z=>by
  refine Sh e ?_
  cases q:H b with
  | none=>rfl
  | some u=>
    obtain rfl:b=a:=L b (by rw [q];simp)
    rw [I]at e
    cases e
    rcases z with z | ⟨es,ep,z⟩
    . exact absurd rfl z
    . cases(show Data.seq F.toArray _=Data.dict es ep from z)
 have ns:∀ {b m},h.Ns b m->(U5 h H).Ns b m:=fun {b m} ⟨o,es,ep,e,d,r⟩=>⟨o,es,ep,keep e (.inr ⟨es,ep,d⟩),d,r⟩
 obtain⟨⟨M,O,U⟩,⟨W,Y,Z⟩,⟨m3,a3,b3⟩,⟨m4,bm,ob,a4,b4,c4,G,e4⟩⟩:=y
 exact⟨⟨M,ns O,U⟩,⟨W,ns Y,Z⟩,⟨m3,ns a3,b3⟩,⟨m4,bm,ob,ns a4,b4,keep c4 (.inl (by rw [G];decide)),G,e4⟩⟩
theorem Vx {P:Program}{w:World}{K:Frag}{mg mb:Str->Option Value}{k:Nat}{fa a:Addr}{fd:FuncData}{x:Str}{sp:Sp}{y:Shared}{M:List Value}{ns:List Int}
 (KX:K.In y.heap) (O:y.heap.Ns mainGlobals mg) (hb:y.heap.Ns builtinsNs mb) (a2:∀x:Str,x≠"__name__"->mb x=bootBuiltins x) (U:y.heap.NoLimit) (a3:y.heap.NoSeer) (hg:y.gens= #[])
 (Y:y.heap.get? a=some { cls:= .type "list",data:= .seq M.toArray}) (hi:IntsAre M ns) (hl:ns.length<=sizeLine) (hr:J4 k callerA)
 (F:∀base:Heap,K.In base->base.Ns mainGlobals mg->base.NoSeer->Nx P w K mg base CX0 k fa fd [x] sp) (L:∀(s:Shared) (u:Value),BindsTo s fd ⟨[u],[]⟩ [(x,u)])
 (a4:∀H:Hp,SqL K H a (ns.map V.int)->sp [.ref a] H (fun v _=>v= .bl true) fun _ _ _=>False)
 (a5:∀H e s',CX0 [] H y (fun _ _ _=>False) e s'->False):
 codeAny (model P w) callerA (.call (.ref fa) ⟨[.ref a],[]⟩) (fun r s'=>r= .ok (.ret (.bool true))/\OldK y.heap s'.heap/\s'.os=y.os/\AllBare s'.gens) y:=by
 have rv:=Qp hi
 have ln:=hi.length
 obtain⟨H,hO,hS,Z,hA,hK⟩:∃H:Hp,Only H/\SqL K H a (ns.map V.int)/\HOk P w H y.heap/\(∀b,H b≠none->b=a)/\(H a≠none->K.lookup a=none):=by
  cases hk:K.lookup a with
  | some o=>
    have e:=KX a o hk
    rw [Y]at e
    cases e
    exact⟨fun _=>none,fun _=> .inl rfl,.inr ⟨_,M.toArray,_,hk,rfl,rfl,rfl,by rw [size_toArray,ln];exact hl,by simpa using rv⟩,by intro b u z;exact(nomatch (show(none:Option HO)=some u from z)),fun b z=>absurd rfl z,fun z=>absurd rfl z⟩
  | none=>
    refine⟨upd (fun _=>none) a (.frz { cls:= .type "list",data:= .seq M.toArray} (.lst (ns.map V.int))),fun b=> ?_,.inl (.inr ⟨_,Ah⟩),fun b u z=> ?_,fun b z=> ?_,fun _=>rfl⟩
    . by_cases e:b=a
      . subst e
        exact .inr ⟨_,_,Ah⟩
      . exact .inl (Bl e)
    . by_cases e:b=a
      . subst e
        rw [Ah]at z
        cases z
        exact⟨Y,by rw [length_map];exact hl,M,_,rv,Y⟩
      . rw [Bl e]at z
        cases z
    . exact Classical.byContradiction fun e=>z (Bl e)
 have I:∀ {b:Addr}{o:Obj},y.heap.get? b=some o->H b=none->(U5 y.heap H).get? b=some o:=fun e n=>Sh e n
 have G:∀ {b:Addr}{m:Str->Option Value},y.heap.Ns b m->(U5 y.heap H).Ns b m:=fun {b m} ⟨o,es,ep,e,d,r⟩=>by
  refine⟨o,es,ep,I e ?_,d,r⟩
  cases q:H b with
  | none=>rfl
  | some u=>
    obtain rfl:b=a:=hA b (by rw [q];simp)
    rw [Y]at e
    cases e
    cases(show Data.seq M.toArray _=Data.dict es ep from d)
 have kb:K.In (U5 y.heap H):=fun b o e=>I (KX b o e) (by
  cases q:H b with
  | none=>rfl
  | some u=>
    obtain rfl:b=a:=hA b (by rw [q];simp)
    rw [hK (by rw [q];simp)]at e
    cases e)
 have hM:Mod K mg (U5 y.heap H):=⟨kb,G O,⟨mb,G hb,a2⟩,let ⟨mc,h1,h2⟩:=U;⟨mc,G h1,h2⟩⟩
 have e0:Z0 P w K mg (U5 y.heap H) callerA [] y H:=⟨rfl,hM,fun b o e=>Aap e,le_of_eq (Vm _ _),trivial,fun b hb=>absurd (show b∈([]:List Addr)from hb) (by simp),Z,.of_eq hg⟩
 refine codeAny_mono ((F _ kb (G O) (Yo a3 Y hA)).run callerA [] y H ⟨[.ref a],[]⟩ [.ref a] [.ref a] _ _ hr e0 (L y (.ref a)) (.cons rfl .nil) (a4 H hS)) fun r s' h=> ?_
 match r,h with
 | .error e,h=>exact(a5 H e s' h).elim
 | .ok .next,h=>exact False.elim h
 | .ok .brk,h=>exact False.elim h
 | .ok .cont,h=>exact False.elim h
 | .ok (.ret u),h=>
   obtain⟨v,H',os,a0,un,a1,r',q⟩:=h
   obtain rfl:v= .bl true:=q
   obtain rfl:u=Value.bool true:=r'
   refine⟨rfl,OldK.of_keep fun b o e=> ?_,os,a0⟩
   rcases hO b with q | ⟨ob,xs,z⟩
   . exact un.keep b o e q (by intro z;exact absurd (show b∈([]:List Addr)from z) (by simp)) (by simp)
   . obtain⟨e1,_⟩:=Z b _ z
     obtain⟨e2,_⟩:=a1 b _ (un.frzs b ob _ z)
     rw [e]at e1
     cases e1
     exact e2
theorem Yt {l:PySem.W.OpenLaw}{n k:Nat}{q:Program}{I:List Str}{XP:(Str->Option Value)->Heap->Prop}{YP:World->Heap->Prop}{d:DefRec}{K:Params->Frag}{sp:Frag->Sp}{x:Str}
 (hn:l.most=some n) (Z:n<=sizeLine) (a0:d.params.defaults=[]) (hr:J4 k callerA) (a1:importsNone q=true) (a2:l.prog.given.tree=none)
 (hY:∀(w:World) (h:Heap),YP w h->(K w.params).In h)
 (F:∀(w:World) (mg:Str->Option Value) (U:Addr) (h:Heap),(K w.params).In h->h.Ns mainGlobals mg->mg d.name=some (.ref U)->
   ∃fd:FuncData,(∀(s:Shared) (u:Value),BindsTo s fd ⟨[u],[]⟩ [(x,u)])/\∀base:Heap,Pyl l.prog base->Nx l.prog w (K w.params) mg base CX0 k U fd [x] (sp (K w.params)))
 (a3:∀(K:Frag) (H:Hp) (a:Addr) (ns:List Int),ns.length<=n->SqL K H a (ns.map V.int)->sp K [.ref a] H (fun v _=>v= .bl true) fun _ _ _=>False)
 (a4:∀(H:Hp) (s:Shared) (e:Value) (s':Shared),CX0 [] H s (fun _ _ _=>False) e s'->False):
 PySem.W.WalkO q I XP YP l.row.toRowW d [] (fun f vs=>PySem.call f vs):=by
 refine Att.Qx hn a0 fun w a6 M mg mb U o pm cd a7 a vs ns G Y ho hd a8 a5 O L y hg=> ?_
 have KX:=hY w _ Y
 obtain⟨fd,hb,hF⟩:=F w mg U _ KX G.T.g a5
 exact Vx KX G.T.g G.T.b G.T.builtins G.T.nolimit (G.T.seer a1) hg O L (le_trans y Z) hr (fun base _ _ ns=>hF base ⟨ns,a2⟩) hb (fun H hS=>a3 (K w.params) H a ns y hS) fun H e s'=>a4 H M e s'
end L2
namespace L2
open PySem PySem.Spec PyProof.Rows
set_option maxRecDepth 100000
end L2
namespace L2
open PySem PySem.Spec PyProof.Rows
structure Ah5 (P:Program) (w:World) (K:Frag) (mg:Str->Option Value) (base:Heap) (k:Nat) (a:Addr) (ps:List Str) (sp:Sp):Prop where
 ex:∃fd,Nx P w K mg base CX0 k a fd ps sp/\Binds K fd ps []
 kp:∀(M:Model) (h:Heap),(∀b o,base.get? b=some o->h.get? b=some o)->K.In h->∃k,(k=Keeper.frame\/k=Keeper.machine\/k=Keeper.boundFrame)/\Looks M h (keeperOf (.ref a)) k
theorem Cal.val {P:Program}{w:World}{K:Frag}{mg:Str->Option Value}{base:Heap}{k:Nat}{x:Str}{ps:List Str}{sp:Sp}{a:Addr} (C:Cal P w K mg base k x ps sp) (e:mg x=some (.ref a)):Ah5 P w K mg base k a ps sp:=by
 obtain⟨f,fd,G,g,b,c⟩:=C
 rw [e]at g
 cases g
 exact⟨⟨fd,G,c⟩,fun M h _ X=>PySem.W.keeps_K b h X⟩
structure Ah8 (ps fs:List Str) (sc:Scope):Prop where
 kind:sc.kind= .function
 co:sc.isCoroutine=false
 gen:sc.isGenerator=false
 nd:ps.Nodup
 par:∀x∈ps,sc.names.lookup x=some .local
 fre:∀x∈fs,sc.names.lookup x=some .free
 nocell:∀y∈sc.names,y.2≠ .cell
 only:∀y∈sc.names,y.2= .free->y.1∈fs
structure Ah7 (base:Heap) (fs:List Str) (cl:List (Str × Addr)) (ws:List V):Prop where
 inj:∀x y c,cl.lookup x=some c->cl.lookup y=some c->x=y
 has:∀x∈fs,∃c,cl.lookup x=some c
 cell:∀x c,cl.lookup x=some c->∃v,base.IsCell c v
 val:∀(i:Nat) (x:Str) (v:V),fs[i]? =some x->ws[i]? =some v->∃c u,cl.lookup x=some c/\base.IsCell c (some u)/\RelV v u
 len:ws.length=fs.length
def Ae5 (c:Addr) (q:Str):HO:= .ext fun h=>h.CodeRec (.ref c) q
def SmP (p:Addr) (H H':Hp):Prop:=∀b o,b≠p->H b=some o->H' b=some o
def Tab (p:Addr) (lp:Pos) (q:Str) (H:Hp):Prop:=∃ps,H p=some (.tbl ps)/\(ps= #[]\/∃c',ps= #[rawInt lp.line,rawInt lp.col,.ref c']/\H c'=some (Ae5 c' q))
structure Ai5 (mg:Str->Option Value) (base:Heap) (c p:Addr):Prop where
 code:CodeHd base c p
 bm:∃bm ob,mg "__builtins__"=some (.ref bm)/\bm≠builtinsNs/\base.get? bm=some ob/\ob.cls= .type "module"/\ob.dict=some builtinsNs/\ob.data= .plain
theorem Pyl.keeps {P:Program}{b d:Heap} (h:Pyl P b) (k:∀a o,b.get? a=some o->d.get? a=some o):Pyl P d:=⟨h.seer.keeps k,h.tree⟩
theorem SmP.trans {p:Addr}{H H1 H2:Hp} (a:SmP p H H1) (b:SmP p H1 H2):SmP p H H2:=fun c o n e=>b c o n (a c o n e)
theorem Tab.same {p:Addr}{d:Pos}{q:Str}{H H':Hp} (h:Tab p d q H) (s:Same H H'):Tab p d q H':=by
 obtain⟨ps,a,b⟩:=h
 refine⟨ps,s _ _ a,?_⟩
 rcases b with b | ⟨c,y,F⟩
 . exact .inl b
 . exact .inr ⟨c,y,s _ _ F⟩
theorem Tab.is {p:Addr}{d:Pos}{q:Str}{H:Hp} (h:Tab p d q H):∃ps,H p=some (.tbl ps):=by
 obtain⟨ps,a,_⟩:=h
 exact⟨ps,a⟩
end L2
namespace L2
open PySem PySem.Spec PySem.Calls PyProof.Rows PySem.W
abbrev Tk:=Addr × List Int
structure Ai6 (h:Heap) (k:Addr) (t:Tk):Prop where
 pr:∃o xs n tk,h.get? k=some o/\o.cls= .type "tuple"/\o.data= .seq xs n/\xs.toList=[.int t.2.length tk,.ref t.1]
 tu:∃its:List Value,IsTup h t.1 its.toArray/\IntsAre its t.2
def EX (a:Addr) (o:Obj):HO:= .ext fun h=>h.get? a=some o
structure KyI (X:Cx) (pins:List (Addr × Obj)) (σ:St) (H2:Hp) (a kS f:Addr) (oa of:Obj) (ts:List Tk) (i:Nat) (H':Hp) (ks:List Addr) (s':Shared):Prop where
 inv:Inv X pins σ H' s'
 sm:Same H2 H'
 ea:H' a=some (EX a oa)
 ky:H' kS=some (.lst (ks.map V.ref))
 ln:ks.length=i
 tu:∀(j:Nat) (k:Addr) (t:Tk),ks[j]? =some k->ts[j]? =some t->H' k=some (.tup [.int t.2.length,.ref t.1])
 fo:s'.heap.get? f=some of
 fn:H' f=none
end L2
namespace L2
open PySem PySem.Spec PyProof.Rows
abbrev Is3 (h:Heap) (T:Addr) (a b c:Value):Prop:=h.get? T=some { cls:= .type "tuple",data:= .seq #[a,b,c]}
section
variable {prog:Program}{w:World}{A:Around}{E:Value->Shared->Prop}{s:Shared}
structure Zp3 (h:Heap) (n l1 l2 l3 k:Nat) (f0:Value):Prop where
 z:IsZip h (n+5) (n+3) (n+4) f0
 ti:Is3 h (n+3) (.ref n) (.ref (n+1)) (.ref (n+2))
 to:∃p q r,Is3 h (n+4) p q r
 j1:h.IsListIter n l1 k
 j2:h.IsListIter (n+1) l2 k
 j3:h.IsListIter (n+2) l3 k
structure Zl3 (h:Heap) (n l1 l2 l3:Nat) (xs ys zs:Array Value):Prop where
 b1:l1<n
 b2:l2<n
 b3:l3<n
 a1:h.IsList l1 xs
 a2:h.IsList l2 ys
 a3:h.IsList l3 zs
end
end L2
namespace L2
open PySem PySem.Spec PyProof.Rows
def Ris (xs:Array Nat):Prop:=xs.toList.Pairwise (· < ·)
structure WT (led:Bool) (t:SetTable):Prop where
 led:t.led=led
 dum:t.dummies= #[]
 ris:t.plain=true->Ris t.place
theorem WT.fresh (d:Bool):WT d (.fresh 0 0 d):=⟨rfl,rfl,fun _=>Pairwise.nil⟩
end L2
namespace L2
open PySem PySem.Spec PyProof.Rows PySem.W
section
variable {P:Program}{w:World}{A:Around}{E:Value->Shared->Prop}
structure Lies (h:Heap) (a:Addr) (es:Array (Int × Value)) (ep:Nat) (t:SetTable):Prop where
 obj:∃o,h.get? a=some o/\o.cls= .type "set"/\o.data= .set es ep t
 fit:t.fits es.size=true
structure SIt (h:Heap) (it:Addr) (first:Value) (i:Nat) (a:Addr) (n ep:Nat):Prop where
 obj:∃o,h.get? it=some o/\o.cls= .type "set_iterator"/\o.data= .fields #[first,.int i 0,.ref a,.int n 0,.int ep 0]
theorem SIt.typeIs {s:Shared}{d:Addr}{first:Value}{i:Nat}{a:Addr}{n ep:Nat} (x:SIt s.heap d first i a n ep):s.TypeIs (.ref d) "set_iterator":=let ⟨o,ho,hc,_⟩:=x.obj;⟨o,ho,hc⟩
variable {s:Shared}{a:Addr}{es:Array (Int × Value)}{ep:Nat}{t:SetTable}
structure Tup (h:Heap) (tp:Addr) (ps:List Nat):Prop where
 obj:∃o k,h.get? tp=some o/\o.data= .seq (ps.map fun(i:Nat)=>rawInt i).toArray k
theorem Lies.keep {h h':Heap} (L:Lies h a es ep t) (k:∀o,h.get? a=some o->h'.get? a=some o):Lies h' a es ep t:=⟨let ⟨o,ho,r⟩:=L.obj;⟨o,k _ ho,r⟩,L.fit⟩
theorem SIt.keep {h h':Heap}{d:Addr}{first:Value}{i n:Nat} (I:SIt h d first i a n ep) (k:∀o,h.get? d=some o->h'.get? d=some o):SIt h' d first i a n ep:=⟨let ⟨o,ho,r⟩:=I.obj;⟨o,k _ ho,r⟩⟩
theorem Tup.keep {h h':Heap}{tp:Addr}{ps:List Nat} (T:Tup h tp ps) (k:∀o,h.get? tp=some o->h'.get? tp=some o):Tup h' tp ps:=⟨let ⟨o,n,ho,r⟩:=T.obj;⟨o,n,k _ ho,r⟩⟩
end
end L2
namespace L2
open PySem PySem.Spec PySem.Calls PyProof.Rows PySem.W
theorem Xk {X:Cx} (Y:X.calm=true):Gx X (.builtin "any") (fun xs H Q=>∃(a:Addr) (bs:List Bool),xs=[.ref a]/\SqL X.K H a (bs.map V.bl)/\Q (.bl (bs.any id)) H):=by
 intro pins s σ H xs us Q I r h
 obtain⟨a,bs,rfl,Z,q⟩:=h
 obtain⟨u,rfl,ru⟩:=vals1 r
 cases ru
 obtain⟨d,L,p,hz⟩:=I.list Z
 have F:s.heap.IsList a d.toArray:=p.isList
 have lt:a<s.heap.objs.size:=by
  obtain⟨_,e,_⟩:=F
  exact Heap.lt_size e
 have ln:d.length=bs.length:=by
  have:=L.length
  rw [length_map]at this
  exact this.symm
 refine call_any_walk (wpAny_pyIter_list F ?_)
 refine⟨s.heap.objs.size,[s.heap.objs.size,a],[s.heap.objs.size],d.toArray.size,_,_,fun i=>(bs[i]?).getD false,rfl,Walks.list (A:=X.A.in1) (I.ok.hd Y) _ a (ne_of_lt lt) d.toArray,
  ⟨⟨_,Heap.get?_push_size _ rfl,rfl,rfl⟩,F.push _⟩,fun i v s' Q' E' hP M=> ?_,fun g tk hk=> ?_⟩
 . have O:d[i]? =some v:=by simpa using hP
   have hi:i<d.length:=(List.getElem?_eq_some_iff.mp O).1
   have U:bs[i]? =some bs[i]:=getElem?_eq_getElem (by omega)
   obtain⟨w',W,G⟩:=L.get (show(bs.map V.bl)[i]? =some (V.bl bs[i])by rw [getElem?_map,U];rfl)
   rw [O]at W
   cases W
   cases G
   simp only [U,getD_some]at M
   exact wpAny_truthy_bool M
 . have e:((List.range d.toArray.size).any fun i=>(bs[i]?).getD false)=bs.any id:=by
    rw [size_toArray,ln,Bool.eq_iff_iff,List.any_eq_true,List.any_eq_true]
    constructor
    . rintro⟨i,hi,h⟩
      have y:=mem_range.mp hi
      rw [getElem?_eq_getElem y]at h
      exact⟨_,getElem_mem y,h⟩
    . rintro⟨x,hx,h⟩
      obtain⟨i,hi,ei⟩:=getElem_of_mem hx
      exact⟨i,mem_range.mpr hi,by rw [getElem?_eq_getElem hi,ei];exact h⟩
   rw [e]
   exact⟨.bl _,H,I.kept (t':=tk) fun b o q'=>hk b o (fun hm=>by rw [mem_singleton.mp hm]at q';exact lt_irrefl _ (Heap.lt_size q')) (Heap.get?_push_of_some _ q'),rfl,q⟩
end L2
namespace L2
open PySem PySem.Spec PyProof.Rows
set_option maxRecDepth 100000
abbrev ZpB (h:Heap) (z TI TO T:Addr) (b:Bool):Prop:=h.get? z=some { cls:= .type "zip",data:= .fields #[rawInt T,.bool b,.bool false,.ref TI,.ref TO]}
structure ZpS (t1 t2:Bool) (h:Heap) (S z TI TO i1 i2 u1 u2:Addr) (i:Nat):Prop where
 st:(IsZip h z TI TO .none/\∃p q,IsPair h TO p q)\/∃T b oT,ZpB h z TI TO T b/\h.get? T=some oT/\T≠S/\T≠z/\T≠i1/\T≠i2
 ti:IsPair h TI (.ref i1) (.ref i2)
 j1:It1 t1 h i1 u1 i
 j2:It1 t2 h i2 u2 i
theorem ZpS.keep {G I:Bool}{h h':Heap}{S z TI TO y F L M:Addr}{i:Nat} (x:ZpS G I h S z TI TO y F L M i) (k:∀b o,b≠S->h.get? b=some o->h'.get? b=some o) (O:z≠S) (U:TI≠S) (W:TO≠S) (Y:y≠S) (Z:F≠S):ZpS G I h' S z TI TO y F L M i:=by
 refine⟨?_,k _ _ U x.ti,x.j1.to fun o e=>k _ _ Y e,x.j2.to fun o e=>k _ _ Z e⟩
 rcases x.st with⟨a,p,q,b⟩ | ⟨T,b,oT,a,c,d⟩
 . exact .inl ⟨k _ _ O a,p,q,k _ _ W b⟩
 . exact .inr ⟨T,b,oT,k _ _ O a,k _ _ d.1 c,d⟩
structure ZpG (xs ys:Array Value) (lo:Addr) (h:Heap) (as:List Addr):Prop where
 rise:as.Pairwise (· < ·)
 above:∀a∈as,lo<=a
 pairs:∀(j:Nat) (a:Addr),as[j]? =some a->∃x y,xs[j]? =some x/\ys[j]? =some y/\IsPair h a x y
end L2
namespace L2
open PySem PySem.Spec PySem.Calls PyProof.Rows PySem.W
abbrev Pri:=Addr × Int × V
def Pri.ks (t:Pri):Int:=t.2.1
def Ahs (K:Frag) (H:Hp) (t:Pri):Prop:=SqT K H t.1 [.int t.ks,t.2.2]
def Aez (h:Heap) (t:Pri):Prop:=∃o xs n tk u,h.get? t.1=some o/\o.cls= .type "tuple"/\o.data= .seq xs n/\xs.toList=[.int t.ks tk,u]
theorem Aez.keeps {h h':Heap}{a:Addr}{t:Pri} (x:Aez h t) (k:∀b o,b≠a->h.get? b=some o->h'.get? b=some o) (h1:t.1≠a):Aez h' t:=by
 obtain⟨o,xs,n,tk,u,e,r⟩:=x
 exact⟨o,xs,n,tk,u,k _ _ h1 e,r⟩
theorem Ahs.at {X:Cx}{pins:List (Addr × Obj)}{σ:St}{H:Hp}{s:Shared}{t:Pri} (I:Inv X pins σ H s) (x:Ahs X.K H t):Aez s.heap t/\t.1<s.heap.objs.size:=by
 obtain⟨y,r,⟨o,e,c,n,d⟩,_⟩:=I.tuple x
 refine⟨?_,Heap.lt_size e⟩
 cases r with
 | cons F G=>
   obtain⟨tk,rfl⟩:=F
   cases G with
   | cons M L=>
     cases L
     exact⟨o,_,n,_,_,e,c,d,rfl⟩
end L2
namespace L2
open PySem PySem.Spec PyProof.Rows
abbrev tx (l:List Nat):Str:=⟨l.toArray⟩
theorem Ad1 (l:List Nat):(tx l).cps.toList=l:=rfl
theorem Ho (l:List Nat):(tx l).length=l.length:=rfl
theorem K6 (l m:List Nat):tx l++tx m=tx (l++m):=by
 show Str.mk _=Str.mk _
 simp
theorem Zt (z:Str):z=tx z.cps.toList:=by
 cases z
 simp
theorem G5 {l m:List Nat}:tx l=tx m↔l=m:=⟨fun h=>by simpa using congrArg (fun z:Str=>z.cps.toList) h,fun h=>by rw [h]⟩
section
variable {X:Cx}
def R7 (xs:List Nat) (lo hi:Option Int):List Nat:=(xs.drop (HT.sIx xs.length 0 lo)).take (HT.sIx xs.length xs.length hi-HT.sIx xs.length 0 lo)
theorem str_idx (n:Nat) (lo hi:Option Int):Builtin.Str.strSliceIndices lo hi 1 n=(List.range (HT.sIx n n hi-HT.sIx n 0 lo)).map (HT.sIx n 0 lo+ ·):=by
 have h1:∀(o:Option Int) (d:Nat),d<=n->(match o with | none=>((d:Nat):Int) | some i=>if(1:Int)>0 then max 0 (min (if i<0 then i+(n:Int)else i) (n:Int))else max (-1) (min (if i<0 then i+(n:Int)else i) ((n:Int)-1)))=((HT.sIx n d o:Nat):Int):=fun o d G=>by
  cases o with
  | none=>rfl
  | some i=>
    simp only [HT.sIx,show(1:Int)>0 by decide,if_true]
    by_cases h:i<0
    . simp only [h,if_true];omega
    . simp only [h,if_false];omega
 have y:=h1 lo 0 (zero_le _)
 have F:=h1 hi n (le_refl _)
 unfold Builtin.Str.strSliceIndices
 simp only [show(1:Int)>0 by decide,if_true]at y F ⊢
 refine(congrArg (fun z=>sliceRange z _ 1) y).trans ?_
 refine(congrArg (fun z=>sliceRange _ z 1) F).trans ?_
 rw [sliceRange_one]
theorem Yg (l:List Nat):∀a k:Nat,((List.range k).map (a+ ·)).filterMap (fun i=>l.toArray[i]?)=(l.drop a).take k:=by
 intro a k
 induction k generalizing a with
 | zero=>simp
 | succ k d=>
   rw [List.range_succ_eq_map,map_cons,map_map]
   have e:(fun x=>a+x) ∘ Nat.succ=fun x=>(a+1)+x:=by funext x;show a+(x+1)=a+1+x;omega
   rw [e,filterMap_cons,d (a+1)]
   simp only [Nat.add_zero,List.getElem?_toArray]
   cases h:l[a]? with
   | none=>
     have y:l.length<=a:=List.getElem?_eq_none_iff.mp h
     rw [drop_eq_nil_of_le y,drop_eq_nil_of_le (by omega)]
     simp
   | some x=>
     obtain⟨F,ex⟩:=List.getElem?_eq_some_iff.mp h
     rw [drop_eq_getElem_cons F,ex,List.take_succ_cons]
def Ah0:V->Option Int->Option Int->Hp->VK->Prop:=fun x lo hi H Q=>∃l,x= .str (tx l)/\l.length<=sizeLine/\Q (.str (tx (R7 l lo hi))) H
theorem Xr {l:List Nat}{lo hi:Option Int}:(R7 l lo hi).length<=l.length:=by
 unfold R7
 rw [length_take,length_drop]
 omega
theorem Qg:SlR X Ah0:=by
 intro pins s σ H x v G L lo hi sl Q I M F O U h
 obtain⟨l,rfl,W,q⟩:=h
 obtain⟨t,rfl⟩:=M
 refine⟨"str",_,slot_str_getitem.lookup,typeIs_str s _ t,?_⟩
 obtain⟨d,Y,Z⟩:∃d:Option (Int × Tok),G=partValue d/\d.map (·.1)=lo:=by
  cases O with
  | none=>exact⟨none,rfl,rfl⟩
  | int i t=>exact⟨some (i,t),rfl,rfl⟩
 obtain⟨y,e2,m2⟩:∃y:Option (Int × Tok),L=partValue y/\y.map (·.1)=hi:=by
  cases U with
  | none=>exact⟨none,rfl,rfl⟩
  | int i t=>exact⟨some (i,t),rfl,rfl⟩
 subst Y e2
 refine wpAny_getItem_str_slice (l:=d) (u:=y) (st:=none) F (by decide) ?_
 have ep:slicePicked (tx l) d y none=(List.range (HT.sIx l.length l.length hi-HT.sIx l.length 0 lo)).map (HT.sIx l.length 0 lo+ ·):=by
  unfold slicePicked
  rw [Z,m2]
  exact str_idx l.length lo hi
 have ec:(slicePicked (tx l) d y none).filterMap (fun i=>(tx l).cps[i]?)=R7 l lo hi:=by
  rw [ep]
  exact Yg l _ _
 unfold sliceMade
 split
 . rename_i hc
   have h2:(slicePicked (tx l) d y none).length=l.length:=by
    have:=(Bool.and_eq_true_iff.mp hc).2
    exact eq_of_beq this
   have e3:R7 l lo hi=l:=by
    rw [ep,length_map,length_range]at h2
    unfold R7
    by_cases h0:l.length=0
    . rw [List.length_eq_zero_iff.mp h0]
      simp
    . have F:HT.sIx l.length l.length hi<=l.length:=by
       unfold HT.sIx
       cases hi with
       | none=>exact le_refl _
       | some v=>
         show(if v<0 then(v+(l.length:Int)).toNat else min v.toNat l.length)<=l.length
         split<;>omega
      have ha:HT.sIx l.length 0 lo=0:=by omega
      rw [ha]at h2 ⊢
      rw [drop_zero,h2,take_length]
   rw [Made.post]
   rw [e3]at q
   exact⟨.str (tx l),H,I,⟨t,rfl⟩,q⟩
 . rw [ec,Made.post]
   exact⟨le_trans Xr W,.str (tx (R7 l lo hi)),H,I.tok _,⟨_,rfl⟩,q⟩
theorem Ph:MtR X "str.startswith" (fun x xs H Q=>∃z y,x= .str z/\xs=[.str y]/\Q (.bl (Txt.startswith z y)) H):=by
 intro pins s σ H x xs v G Q I d F h
 obtain⟨z,y,rfl,rfl,q⟩:=h
 obtain⟨t,rfl⟩:=d
 obtain⟨u,rfl,L,rfl⟩:=vals1 F
 exact SC.startswith ⟨.bl _,H,I,rfl,q⟩
theorem Uz (l:List Nat) (c:Nat):Txt.startswith (tx l) (tx [c])=decide (l.head? =some c):=by
 cases l with
 | nil=>rfl
 | cons a l=>
   unfold Txt.startswith Builtin.Str.subAt
   rw [Ho,Ho]
   by_cases h:a=c
   . subst h
     simp [tx]
   . simp [tx,h]
theorem Qq:∀ {ts:List Str}{d:List Value},Vals (ts.map V.str) d->∃l:List (Str × Tok),d=strValues l/\l.map (·.1)=ts
 | [],_,h=>by cases h;exact⟨[],rfl,rfl⟩
 | z::ts,_,h=>by
   cases h with
   | cons r y=>
     obtain⟨l,rfl,e⟩:=Qq y
     obtain⟨t,rfl⟩:=r
     exact⟨(z,t)::l,rfl,by rw [map_cons,e]⟩
theorem Aal:MtR X "str.join" (fun x xs H Q=>∃z a ts,x= .str z/\xs=[.ref a]/\SqL X.K H a (ts.map V.str)/\JoinOk z ts=true/\Q (.str (Txt.join z ts)) H):=by
 intro pins s σ H x xs v W Q I d y h
 obtain⟨z,a,ts,rfl,rfl,F,G,q⟩:=h
 obtain⟨t,rfl⟩:=d
 obtain⟨u,rfl,L⟩:=vals1 y
 cases L
 obtain⟨M,O,U,Y⟩:=I.list F
 obtain⟨l,rfl,e⟩:=Qq O
 exact SC.join U.isList e G fun Z k=>⟨.str _,H,I.tok _,⟨_,rfl⟩,q⟩
theorem Aaj (ts:List (List Nat)):Txt.join (tx []) (ts.map tx)=tx ts.flatten:=by
 have y:∀(ts:List (List Nat)) (d:Array Nat),foldl (fun d p=>d++(tx []).cps++p.cps) d (ts.map tx)=d++ts.flatten.toArray:=by
  intro ts
  induction ts with
  | nil=>intro d;simp
  | cons a ts F=>
    intro d
    rw [map_cons,foldl_cons,F]
    simp
 unfold Txt.join Builtin.Str.glued
 cases ts with
 | nil=>rfl
 | cons a ts=>
   show Str.mk (foldl _ (tx a).cps (ts.map tx))=_
   rw [y]
   simp
theorem Aai (ts:List (List Nat)) (h:ts.flatten.length<=sizeLine):JoinOk (tx []) (ts.map tx)=true:=by
 unfold JoinOk
 rw [StrLaws.joinTotal]
 have e:((ts.map tx).map fun x=>x.length).sum+(ts.map tx).length*(tx []).length=ts.flatten.length:=by
  rw [show(tx []).length=0 from rfl,Nat.mul_zero,Nat.add_zero,map_map,List.length_flatten]
  rfl
 rw [e]
 show(!decide (_>sizeLine))=true
 rw [decide_eq_false (by omega)]
 rfl
theorem Aam:MtR X "str.partition" (fun x xs H Q=>∃z y,x= .str z/\xs=[.str y]/\(y.length==0)=false/\z.length<=sizeLine/\∀p,H p=none->Q (.ref p) (upd H p (.tup [.str (Txt.partition z y).1,.str (Txt.partition z y).2.1,.str (Txt.partition z y).2.2]))):=by
 intro pins s σ H x xs v U Q I d G h
 obtain⟨z,y,rfl,rfl,L,M,q⟩:=h
 obtain⟨t,rfl⟩:=d
 obtain⟨u,rfl,O,rfl⟩:=vals1 G
 refine call_meets F.slot_str_partition (typeIs_str s z t) F.entry_str_partition (F.args_str_partition_2 _ _) (meets_str_partition z y t O L M) ?_
 unfold Txt.partition at q
 cases ho:Builtin.Str.occurrences z y 0 z.length 1 with
 | cons i r=>
   rw [ho]at q
   exact⟨.ref s.heap.objs.size,_,I.laid (o:= .tup _) (fun b o e=>Heap.get?_push_of_some _ e) (le_refl _) (show Fl X.prog X.w _ _ _ (.tup [V.str _,V.str _,V.str _])from⟨show 3<=sizeLine by decide,_,.cons ⟨_,rfl⟩ (.cons ⟨_,rfl⟩ (.cons ⟨_,rfl⟩ .nil)),IsTup.new _ _⟩),rfl,q _ (I.hok.fresh (le_refl _))⟩
 | nil=>
   rw [ho]at q
   exact⟨.ref s.heap.objs.size,_,I.laid (o:= .tup _) (fun b o e=>Heap.get?_push_of_some _ e) (le_refl _) (show Fl X.prog X.w _ _ _ (.tup [V.str _,V.str _,V.str _])from⟨show 3<=sizeLine by decide,_,.cons ⟨_,rfl⟩ (.cons ⟨_,rfl⟩ (.cons ⟨_,rfl⟩ .nil)),IsTup.new _ _⟩),rfl,q _ (I.hok.fresh (le_refl _))⟩
theorem Gk:Gx X (.type "int") (fun xs H Q=>∃z n,xs=[.str z]/\intText? z=some n/\z.length<=640/\Q (.int n) H):=by
 intro pins s σ H xs F Q I r h
 obtain⟨z,n,rfl,d,y,q⟩:=h
 obtain⟨u,rfl,t,rfl⟩:=vals1 r
 exact PySem.W.KIN.call_text d y ⟨.int n,H,I.tok _,⟨_,rfl⟩,q⟩
theorem Np:OpR X (binaryOp .Mult) (fun x y H Q=>∃z n,x= .str z/\y= .int n/\MulOk z n/\Q (.str (Txt.mul z n)) H):=by
 intro pins s σ H x y v u Q I d F h
 obtain⟨z,n,rfl,rfl,G,q⟩:=h
 obtain⟨t,rfl⟩:=d
 obtain⟨L,rfl⟩:=F
 exact SB.mul G fun L k=>⟨.str _,H,I.tok _,⟨_,rfl⟩,q⟩
abbrev TJ:=St->Hp->Str->(Str->Hp->Prop)->Prop
def PJ (X:Cx) (es:List Expr) (t:TJ):Prop:=
 ∀(pins:List (Addr × Obj)) (s:Shared) (σ:St) (H:Hp) (z:Str) (Q:Str->Hp->Prop),Inv X pins σ H s->t σ H z Q->
   Joins (model X.prog X.w) X.A X.xe (evalEach es X.env) z (fun z' s1=>∃H',Inv X pins σ H' s1/\Q z' H') s
def Afn:TJ:=fun _ H z Q=>Q z H
def Afo (x:Str) (t:TJ):TJ:=fun σ H z Q=>(z++x).length<=sizeLine/\t σ H (z++x) Q
def shV:V->Str->Prop
 | .int i,x=>i.natAbs.log2<1920/\x=Str.ofString (toString i)
 | .str y,x=>y.length<=sizeLine/\x=y
 | _,_=>False
def Afp (te:TE) (t:TJ):TJ:=fun σ H z Q=>te σ H fun v H1=>∃x,shV v x/\(z++x).length<=sizeLine/\t σ H1 (z++x) Q
theorem Adc:PJ X [] Afn:=fun pins s σ H z Q I h=>by
 show Joins _ _ _ [] z _ s
 rw [Joins]
 exact⟨H,I,h⟩
theorem Ade {x:Str}{j:Nat}{pos:Pos}{es:List Expr}{t:TJ} (d:PJ X es t):PJ X (.Constant (.str x) j pos::es) (Afo x t):=fun pins s σ H z Q I h=>by
 show Joins _ _ _ (eval (.Constant (.str x) j pos) X.env::evalEach es X.env) z _ s
 rw [Joins]
 exact Calls.Constant_str ⟨x,_,rfl,h.1,d pins _ σ H _ Q (I.tok _) h.2⟩
theorem Adf {e:Expr}{te:TE}{pos:Pos}{es:List Expr}{t:TJ} (O:PE X e te) (d:PJ X es t):PJ X (.FormattedValue e (-1) none pos::es) (Afp te t):=fun pins s σ H z Q I h=>by
 show Joins _ _ _ (eval (.FormattedValue e (-1) none pos) X.env::evalEach es X.env) z _ s
 rw [Joins]
 refine wpAny_FormattedValue_plain (thn (O pins s σ H _ I h) fun v W ⟨x,H1,F,M,U⟩=> ?_)
 obtain⟨y,G,L,q⟩:=U
 cases x with
 | int i=>
   obtain⟨tt,rfl⟩:=M
   obtain⟨h1,rfl⟩:=G
   exact wpAny_formatField_int h1 ⟨_,_,rfl,L,d pins _ σ H1 _ Q (F.tok _) q⟩
 | str i=>
   obtain⟨tt,rfl⟩:=M
   obtain⟨h1,rfl⟩:=G
   exact wpAny_formatField_str ⟨_,_,rfl,L,d pins _ σ H1 _ Q F q⟩ ⟨_,_,rfl,L,d pins _ σ H1 _ Q (F.tok _) q⟩ h1
 | _=>exact G.elim
theorem Nk {M:Model}{A:Around}{E:Value->Shared->Prop}{P d:Str->Shared->Prop} (h:∀z s,P z s->d z s):∀ {es:List (Sem Value)}{z:Str}{s:Shared},Joins M A E es z P s->Joins M A E es z d s
 | [],z,s,q=>by
   rw [Joins]at q ⊢
   exact h z s q
 | e::es,z,s,q=>by
   rw [Joins]at q ⊢
   exact thn q fun v F ⟨y,t,e,l,j⟩=>⟨y,t,e,l,Nk h j⟩
def tJn (t:TJ):TE:=fun σ H Q=>t σ H Str.empty fun z H1=>z.length<=sizeLine/\Q (.str z) H1
theorem Ac2 {d y:Expr}{es:List Expr}{pos:Pos}{t:TJ} (h:PJ X (d::y::es) t):PE X (.JoinedStr (d::y::es) pos) (tJn t):=fun pins s σ H Q I q=>
 wpAny_JoinedStr (Nk (fun z L ⟨H1,F,l,G⟩=>⟨l,.str z,H1,F.tok _,⟨_,rfl⟩,G⟩) (h pins s σ H Str.empty _ I q))
def Its (z:Str):It:=⟨fun i _=>∃c,z.cps[i]? =some c,fun i H x H'=>H'=H/\∀c,z.cps[i]? =some c->x= .str ⟨#[c]⟩,fun i _=>z.cps[i]? =none⟩
theorem Ys {P:Program}{w:World}{K:Frag}{tg:Expr} (z:Str) (t:Tok) (y:Addr):Turn P w K tg (Its z) [y] y (fun i h=>h.IsStrIter y "str_ascii_iterator" z t i) where
 mem:=by simp
 obj:=fun i h st b F=>by
  have e:b=y:=by simpa using F
  subst e
  obtain⟨o,e,c,d⟩:=st
  exact⟨o,e,fun v z=>by rw [d]at z;cases z⟩
 keep:=fun i h h' st k=>by
  obtain⟨o,e,c,d⟩:=st
  exact⟨o,k y (by simp) o e,c,d⟩
 item:=by
  intro X M O U hc i pins s σ H E I L st Y
  subst M O U
  obtain⟨c,hx⟩:=Y
  obtain⟨Z,f1,f2,f3,f4,f5⟩:=L y (by simp)
  refine wpAny_pyNext_ascii_item st hx fun h' G sb=> ?_
  have I1:Inv X pins σ H { s with heap:=h',toks:=s.toks+1}:=I.turned (fun b o F e=>(sb.2 b F).trans e) Z f1 f3 f4 f5
  obtain⟨o,e,c',d⟩:=id G
  exact⟨_,rfl,Vj (s:={ s with heap:=h',toks:=s.toks+1}) e c' d (by decide) ⟨.str ⟨#[c]⟩,H,I1,⟨_,rfl⟩,⟨rfl,fun c2 h2=>by rw [hx]at h2;cases h2;rfl⟩,G,fun b F=>(L b F).1⟩⟩
 done:=by
  intro X M O U hc i pins s σ H E I L st Y
  subst M O U
  obtain⟨Z,f1,f2,f3,f4,f5⟩:=L y (by simp)
  exact wpAny_pyNext_ascii_end (I.ok.hd hc) st Y fun h' eb=>⟨rfl,I.turned (t':=s.toks) (fun b o F e=>eb b o F e) Z f1 f3 f4 f5⟩
 self:=fun _ _ _ _ _ st h=>wpAny_pyIter_striter_ascii st h
def Afk (tl:TE):TI:=fun σ H R=>tl σ H fun x H1=>∃z,x= .str z/\(z.cps.all fun c=>decide (c<128))=true/\R (Its z) H1
theorem Ada {tg l:Expr}{tl:TE} (F:PE X l tl):PI X tg l (Afk tl):=by
 intro pins s σ H R I h
 refine thn (F pins s σ H _ I h) fun v d ⟨x,H1,y,G,L⟩=> ?_
 obtain⟨z,rfl,M,q⟩:=L
 obtain⟨t,rfl⟩:=G
 refine wpAny_pyIter_strU ?_
 refine⟨d.heap.objs.size,[d.heap.objs.size],_,_,H1,rfl,y.kept (t':=d.toks) fun b o e=>Heap.get?_push_of_some _ e,Ys z t _,⟨_,Heap.get?_push_size _ rfl,?_,rfl⟩,fun b O=> ?_,q⟩
 . show Value.type (strIterType z)=_
   unfold strIterType
   rw [if_pos M]
 . have e:b=d.heap.objs.size:=by simpa using O
   subst e
   exact y.fpOk (le_refl _) (y.hok.fresh (le_refl _))
theorem Ad2 {H1:Hp} (l:List Nat):Wk (Its (tx l)) H1 l (fun c=> .str (tx [c])):=fun i H' s=>by
 refine⟨fun h=>by simpa [Its]using h,fun e d=>⟨⟨e,by simpa using d⟩,fun x F y=>⟨y.1,y.2 e (by simpa using d)⟩⟩⟩
end
section
variable {σ:St}{H:Hp}{Q:VK}{R:It->Hp->Prop}{J:Str->Hp->Prop}{z a b:Str}{l:List Nat}
theorem Agw:rEq (.str a) (.str b) H Q=Q (.bl (decide (a=b))) H:=by
 unfold rEq
 simp only [Zr,V.str.injEq,true_and]
theorem Aha:rNe (.str a) (.str b) H Q=Q (.bl (!decide (a=b))) H:=by
 unfold rNe
 simp only [Zr,V.str.injEq,true_and]
theorem Aec {p:Str->Prop}:(∃k,V.str a= .str k/\p k)=p a:=propext ⟨fun⟨_,e,h⟩=>by cases e;exact h,fun h=>⟨a,rfl,h⟩⟩
theorem Aed {p:Str->Str->Prop}:(∃i j,V.str a= .str i/\V.str b= .str j/\p i j)=p a b:=propext ⟨fun⟨_,_,e,f,h⟩=>by cases e;cases f;exact h,fun h=>⟨a,b,rfl,rfl,h⟩⟩
theorem Aee {p:Str->Str->Prop}:(∃i j,V.str a= .str i/\[V.str b]=[.str j]/\p i j)=p a b:=propext ⟨fun⟨_,_,e,f,h⟩=>by cases e;cases f;exact h,fun h=>⟨a,b,rfl,rfl,h⟩⟩
theorem Aef {i:Int}{p:Str->Int->Prop}:(∃z n,V.str a= .str z/\V.int i= .int n/\p z n)=p a i:=propext ⟨fun⟨_,_,e,f,h⟩=>by cases e;cases f;exact h,fun h=>⟨a,i,rfl,rfl,h⟩⟩
theorem Aeg {p:Str->Int->Prop}:(∃z n,[V.str a]=[.str z]/\p z n)=∃n,p a n:=propext ⟨fun⟨_,n,e,h⟩=>by cases e;exact⟨n,h⟩,fun⟨n,h⟩=>⟨a,n,rfl,h⟩⟩
theorem Aeh {p:Str->Prop}:(∃k,[V.str a]=[.str k]/\p k)=p a:=propext ⟨fun⟨_,e,h⟩=>by cases e;exact h,fun h=>⟨a,rfl,h⟩⟩
theorem Ahm {lo hi:Option Int}:Ah0 (.str (tx l)) lo hi H Q=(l.length<=sizeLine/\Q (.str (tx (R7 l lo hi))) H):=propext ⟨fun⟨m,e,h⟩=>by
 have d:l=m:=G5.mp (by injection e)
 subst d
 exact h,fun h=>⟨l,rfl,h⟩⟩
theorem Aik {t:TJ}:tJn t σ H Q=t σ H (tx []) fun z H1=>z.length<=sizeLine/\Q (.str z) H1:=rfl
theorem Aem:Afn σ H z J=J z H:=rfl
theorem Aen {t:TJ}:Afo a t σ H z J=((z++a).length<=sizeLine/\t σ H (z++a) J):=rfl
theorem Aeo {te:TE}{t:TJ}:Afp te t σ H z J=te σ H fun v H1=>∃x,shV v x/\(z++x).length<=sizeLine/\t σ H1 (z++x) J:=rfl
theorem Ahj {i:Int}{p:Str->Prop}:(∃x,shV (.int i) x/\p x)=(i.natAbs.log2<1920/\p (Str.ofString (toString i))):=propext ⟨fun⟨_,⟨e,f⟩,h⟩=>⟨e,by rw [<-f];exact h⟩,fun h=>⟨_,⟨h.1,rfl⟩,h.2⟩⟩
theorem Ahk {p:Str->Prop}:(∃x,shV (.str a) x/\p x)=(a.length<=sizeLine/\p a):=propext ⟨fun⟨_,⟨e,f⟩,h⟩=>⟨e,by rw [<-f];exact h⟩,fun h=>⟨_,⟨h.1,rfl⟩,h.2⟩⟩
theorem Aek {tl:TE}:Afk tl σ H R=tl σ H fun x H1=>∃z,x= .str z/\(z.cps.all fun c=>decide (c<128))=true/\R (Its z) H1:=rfl
theorem Aip:("":Str)=tx []:=by decide
theorem Aiq:("0":Str)=tx [48]:=by decide
theorem Air:("1":Str)=tx [49]:=by decide
theorem Ais:("+":Str)=tx [43]:=by decide
theorem Ait:("-":Str)=tx [45]:=by decide
theorem Aiu:("*":Str)=tx [42]:=by decide
theorem Aiv:("/":Str)=tx [47]:=by decide
theorem Aiw:("^":Str)=tx [94]:=by decide
theorem Aix:("x":Str)=tx [120]:=by decide
theorem Aiy:("x^":Str)=tx [120,94]:=by decide
theorem Ai0:("(":Str)=tx [40]:=by decide
theorem Ai1:(")":Str)=tx [41]:=by decide
theorem Ai2:("great":Str)=tx [103,114,101,97,116]:=by decide
theorem Ai3:("0123456789":Str)=tx [48,49,50,51,52,53,54,55,56,57]:=by decide
end
def dg (m:Nat):List Nat:=(toDigits 10 m).map Char.toNat
def itx (i:Int):List Nat:=if i<0 then 45::dg i.natAbs else dg i.natAbs
theorem X5 (s:String):Str.ofString s=tx (s.toList.map Char.toNat):=by
 show Str.mk _=Str.mk _
 rw [cpsOfBytes_string]
theorem Aaq (i:Int):Str.ofString (toString i)=tx (itx i):=by
 cases i with
 | ofNat m=>
   have h:=PySem.W.KIN.signs_num m
   rw [Zt (Str.ofString (toString (Int.ofNat m)))]
   show tx (Str.ofString (toString ((m:Nat):Int))).cps.toList=_
   rw [h]
   unfold itx
   rw [if_neg (show ¬(Int.ofNat m<0)by have:=Int.natCast_nonneg m;exact Int.not_lt.mpr this)]
   rfl
 | negSucc m=>
   rw [X5]
   unfold itx
   rw [if_pos (Int.negSucc_lt_zero m)]
   have e:(toString (Int.negSucc m)).toList= '-' ::toDigits 10 (m+1):=by
    show("-"++toString (m+1)).toList=_
    rw [String.toList_append]
    have:(toString (m+1)).toList=toDigits 10 (m+1):=by
     show(Nat.repr (m+1)).toList=_
     unfold Nat.repr
     simp
    rw [this]
    rfl
   rw [e,map_cons]
   rfl
end L2
namespace L2
open PySem L2
@[irreducible] def Bp (X:Cx) (e:Expr) (t:TE):Prop:=L2.PE X e t
@[irreducible] def J5 (X:Cx) (e:Expr) (t:TT):Prop:=L2.PT X e t
@[irreducible] def Qu (X:Cx) (e:Expr) (t:TT):Prop:=L2.PW X e t
@[irreducible] def Jb (X:Cx) (es:List Expr) (t:TA):Prop:=L2.PA X es t
@[irreducible] def K7 (X:Cx) (st:Stmt) (t:TS):Prop:=L2.PS X st t
@[irreducible] def Hr (X:Cx) (st:List Stmt) (t:TS):Prop:=L2.PSs X st t
@[irreducible] def Ny (X:Cx) (target:Expr) (t:TG):Prop:=L2.PG X target t
@[irreducible] def O4 (X:Cx) (ts:List Expr) (t:TGs):Prop:=L2.PGs X ts t
@[irreducible] def Nz (X:Cx) (tg iter:Expr) (wi:TI):Prop:=L2.PI X tg iter wi
@[irreducible] def Xg (X:Cx) (e:Option Expr) (t:TO):Prop:=L2.PO X e t
@[irreducible] def U8 (X:Cx) (ifs:List Expr) (t:TT):Prop:=L2.PTs X ifs t
@[irreducible] def Tv (X:Cx) (es:List Expr) (t:TJ):Prop:=L2.PJ X es t
theorem Ab1 {X:Cx}{b:List Stmt}{t:TS} (h:Hr X b t):L2.PSs X b t:=by unfold Hr at h;exact h
theorem Ae:∀ {X:Cx} (i:Nat) {x:Str}{pos:Pos},autoParam ((Cx.N X)[i]? =Option.some x) L2.pv._auto_1->autoParam (Vis (Env.scope (Cx.env X)) x) L2.pv._auto_2->autoParam ((x==("__debug__":Str))=Bool.false) L2.pv._auto_3->autoParam ((x==("__classdict__":Str))=Bool.false) L2.pv._auto_4->Bp X (Expr.Name x pos) (Aby i):=by with_unfolding_all exact @L2.pv
theorem Cr:∀ {X:Cx}{x:Str}{v:V}{u:Value}{pos:Pos},Gl X x->Cx.mg X x=Option.none->bootBuiltins x=Option.some u->RelV v u->autoParam (x≠("__name__":Str)) L2.Rk._auto_1->autoParam ((x==("__debug__":Str))=Bool.false) L2.Rk._auto_2->Bp X (Expr.Name x pos) (tC v):=by with_unfolding_all exact @L2.Rk
theorem Abs:∀ {X:Cx}{x:Str}{v:V}{u:Value}{pos:Pos},Gl X x->Cx.mg X x=Option.some u->RelV v u->autoParam ((x==("__debug__":Str))=Bool.false) L2.Rm._auto_1->Bp X (Expr.Name x pos) (tC v):=by with_unfolding_all exact @L2.Rm
theorem Ad:∀ {X:Cx}{i:Int}{j:Nat}{pos:Pos},Bp X (Expr.Constant (Const.int i) j pos) (tC (V.int i)):=by with_unfolding_all exact @L2.Ac3
theorem Jk:∀ {X:Cx}{b:Bool}{j:Nat}{pos:Pos},Bp X (Expr.Constant (Const.bool b) j pos) (tC (V.bl b)):=by with_unfolding_all exact @L2.Afs
theorem Ao:∀ {X:Cx}{x:Str}{j:Nat}{pos:Pos},Bp X (Expr.Constant (Const.str x) j pos) (tC (V.str x)):=by with_unfolding_all exact @L2.Ac6
theorem Ag:∀ {X:Cx}{a b:Expr}{ta tb:TE}{pos:Pos}{d:Operator}{r:R2},OpR X (binaryOp d) r->Bp X a ta->Bp X b tb->Bp X (Expr.BinOp a d b pos) (tOp r ta tb):=by with_unfolding_all exact @L2.Afu
theorem Em:∀ {X:Cx}{a:Expr}{ta:TE}{pos:Pos}{d:UnaryOp}{r:V->Hp->VK->Prop},UnR X (unaryOp d) r->Bp X a ta->Bp X (Expr.UnaryOp d a pos) (tUn r ta):=by with_unfolding_all exact @L2.Afw
theorem Bo:∀ {X:Cx}{a b:Expr}{ta tb:TE}{pos:Pos}{d:CmpOp}{r:R2},OpR X (compareOp d) r->Bp X a ta->Bp X b tb->behindInMarks d b=Bool.false->Bp X (Expr.Compare a [d] [b] pos) (tOp r ta tb):=by with_unfolding_all exact @L2.Aav
theorem Fy:∀ {X:Cx}{a b:Expr}{ta tb:TE}{pos:Pos}{rest:List Expr},Bp X a ta->Bp X (Expr.BoolOp BoolOp.And (b::rest) pos) tb->Bp X (Expr.BoolOp BoolOp.And (a::b::rest) pos) (Abd ta tb):=by with_unfolding_all exact @L2.Ac1
theorem Xh:∀ {X:Cx}{a b:Expr}{ta tb:TE}{pos:Pos}{rest:List Expr},Bp X a ta->Bp X (Expr.BoolOp BoolOp.Or (b::rest) pos) tb->Bp X (Expr.BoolOp BoolOp.Or (a::b::rest) pos) (Agd ta tb):=by with_unfolding_all exact @L2.Afv
theorem Hs:∀ {X:Cx}{a:Expr}{pos:Pos}{d:BoolOp}{t:TE},Bp X a t->Bp X (Expr.BoolOp d [a] pos) t:=by with_unfolding_all exact @L2.Ac5
theorem Cd:∀ {X:Cx}{a b:Expr}{ta tb:TE}{pos:Pos}{tA:TT}{c:Expr},J5 X c tA->Bp X a ta->Bp X b tb->Bp X (Expr.IfExp c a b pos) (tIf tA ta tb):=by with_unfolding_all exact @L2.Yc
theorem Ba:∀ {X:Cx}{es:List Expr}{t:TA}{pos:Pos}{x1:Nat},Jb X es t->Bp X (Expr.Tuple es x1 pos) (Agg t):=by with_unfolding_all exact @L2.Ac7
theorem Bu:∀ {X:Cx}{es:List Expr}{t:TA}{pos:Pos},Jb X es t->Bp X (Expr.List es pos) (Aga t):=by with_unfolding_all exact @L2.Ac4
theorem Eb:∀ {X:Cx}{e:Expr}{te:TE}{lo hi:Option Expr}{tl th:TO}{pos p2:Pos}{r:V->Option Int->Option Int->Hp->VK->Prop},SlR X r->Bp X e te->Xg X lo tl->Xg X hi th->Bp X (Expr.Subscript e (Expr.Slice lo hi Option.none p2) pos) (tSl r te tl th):=by with_unfolding_all exact @L2.Yd
theorem Ig:∀ {X:Cx},Xg X Option.none Rw:=by with_unfolding_all exact @L2.Aa0
theorem Dk:∀ {X:Cx}{e:Expr}{te:TE},Bp X e te->Xg X (Option.some e) (Abh te):=by with_unfolding_all exact @L2.Aa1
theorem Bf:∀ {X:Cx}{a b:Expr}{ta tb:TE}{pos:Pos}{r:R2},IxR X r->Bp X a ta->Bp X b tb->U7 b->Bp X (Expr.Subscript a b pos) (tOp r ta tb):=by with_unfolding_all exact @L2.Aft
theorem Ek:∀ {X:Cx}{elt tg iter:Expr}{ifs:List Expr}{scope:Scope}{pos:Pos}{wi:TI}{g:TG}{tt:TT}{te:TE}{ts:List Str}{fs:List (Nat × Str)},Cx.calm X=Bool.true->Cz X ts fs scope->Nz X tg iter wi->(∀(ex:List Addr) (s:Shared) (H:Hp),Ny (cxC X (cpN ts fs) scope ex s H) tg g)->(∀(ex:List Addr) (s:Shared) (H:Hp),U8 (cxC X (cpN ts fs) scope ex s H) ifs tt)->(∀(ex:List Addr) (s:Shared) (H:Hp),Bp (cxC X (cpN ts fs) scope ex s H) elt te)->autoParam (∀(x:Value),foldedSetIterable iter (Cx.env X) x=Pure.pure x) L2.Wo._auto_1->Bp X (Expr.ListComp elt [{ target:=tg,iter:=iter,ifs:=ifs,is_async:=(0:Int)}] scope pos) (Yq (List.length ts) fs wi g tt te):=by with_unfolding_all exact @L2.Wo
theorem Az:∀ {X:Cx}{e:Expr}{es:List Expr}{t:TA}{x:Str}{p pos:Pos}{id:String}{r:List V->Hp->VK->Prop},Gx X (Value.builtin id) r->Gl X x->Cx.mg X x=Option.none->bootBuiltins x=Option.some (Value.builtin id)->Jb X (e::es) t->autoParam (Dm e=Bool.true) L2.Wm._auto_1->autoParam (List.all es Dm=Bool.true) L2.Wm._auto_2->autoParam (x≠("__name__":Str)) L2.Wm._auto_3->autoParam ((x==("__debug__":Str))=Bool.false) L2.Wm._auto_4->Bp X (Expr.Call (Expr.Name x p) (e::es) [] pos) (tCB r t):=by with_unfolding_all exact @L2.Wm
theorem Bh:∀ {X:Cx}{e:Expr}{es:List Expr}{t:TA}{x:Str}{p pos:Pos}{T:String}{r:List V->Hp->VK->Prop},Gx X (Value.type T) r->Gl X x->Cx.mg X x=Option.none->bootBuiltins x=Option.some (Value.type T)->Jb X (e::es) t->autoParam (Dm e=Bool.true) L2.Qc._auto_1->autoParam (List.all es Dm=Bool.true) L2.Qc._auto_2->autoParam (x≠("__name__":Str)) L2.Qc._auto_3->autoParam ((x==("__debug__":Str))=Bool.false) L2.Qc._auto_4->Bp X (Expr.Call (Expr.Name x p) (e::es) [] pos) (tCB r t):=by with_unfolding_all exact @L2.Qc
theorem Ae1:∀ {X:Cx}{e:Expr}{es:List Expr}{t:TA}{x:Str}{p pos:Pos}{k:Nat}{ps:List Str}{sp:Sp},Cal (Cx.prog X) (Cx.w X) (Cx.K X) (Cx.mg X) (Cx.base X) k x ps sp->J4 k (Cx.A X)->Jb X (e::es) t->autoParam (Dm e=Bool.true) L2.Us._auto_1->autoParam (List.all es Dm=Bool.true) L2.Us._auto_2->autoParam (Gl X x) L2.Us._auto_3->autoParam ((x==("__debug__":Str))=Bool.false) L2.Us._auto_4->Bp X (Expr.Call (Expr.Name x p) (e::es) [] pos) (Ru sp [] E0 t):=by with_unfolding_all exact @L2.Us
theorem Ai:∀ {X:Cx}{e:Expr}{es:List Expr}{t:TA}{x:Str}{p pos:Pos}{k:Nat}{ps:List Str}{sp:Sp}{n:Nat},Cal (Cx.prog X) (Cx.w X) (Cx.K X) (Cx.mg X) (Cx.base X) k x ps sp->J4 n (Cx.A X)->Jb X (e::es) t->autoParam (k<=n) L2.Ut._auto_1->autoParam (Dm e=Bool.true) L2.Ut._auto_2->autoParam (List.all es Dm=Bool.true) L2.Ut._auto_3->autoParam (Gl X x) L2.Ut._auto_4->autoParam ((x==("__debug__":Str))=Bool.false) L2.Ut._auto_5->Bp X (Expr.Call (Expr.Name x p) (e::es) [] pos) (Ru sp [] E0 t):=by with_unfolding_all exact @L2.Ut
theorem Ea:∀ {X:Cx}{x:Str}{v:V}{pos:Pos},Gl X x->(∃(u:Value),Cx.mg X x=Option.some u/\RelV v u)->autoParam ((x==("__debug__":Str))=Bool.false) L2.S6._auto_1->Bp X (Expr.Name x pos) (tC v):=by with_unfolding_all exact @L2.S6
theorem Fo:∀ {X:Cx}{o e:Expr}{es:List Expr}{to:TE}{t:TA}{name:Str}{apos cpos:Pos}{T id:String}{r:V->List V->Hp->VK->Prop},PlainAttrs T->Slot T name id->typeOf (Value.builtin id)=Pure.pure (Value.type "method_descriptor")->MtR X id r->Bp X o to->Jb X (e::es) t->autoParam (attributeBase o name (Cx.env X) (eval o (Cx.env X))=eval o (Cx.env X)) L2.Ur._auto_1->autoParam ((((List.all (backTo cpos (starEach (e::es) (Cx.env X))) fun(x:Bool × Sem Value) ↦ !Prod.fst x)&&List.all (backToKw cpos (keywordEach [] (Cx.env X))) fun(x:Option Str × Sem Value) ↦ Option.isSome (Prod.fst x))&&Decidable.decide ((List.length (e::es)+List.length ([]:List Keyword)+if List.isEmpty ([]:List Keyword)=Bool.true then(0:Nat)else(1:Nat))<(30:Nat)))=Bool.true) L2.Ur._auto_2->autoParam ((Pos.endLine apos==Pos.line cpos)=Bool.true) L2.Ur._auto_3->autoParam (starEach (e::es) (Cx.env X)=(Bool.false,eval e (Cx.env X))::starEach es (Cx.env X)) L2.Ur._auto_4->autoParam ((List.any (backTo cpos (starEach es (Cx.env X))) fun(x:Bool × Sem Value) ↦ Prod.fst x)=Bool.false) L2.Ur._auto_5->Bp X (Expr.Call (Expr.Attribute o name apos) (e::es) [] cpos) (tBM (Cx.K X) T r to t):=by with_unfolding_all exact @L2.Ur
theorem O5:∀ {X:Cx}{o:Expr}{to:TE}{name:Str}{apos cpos:Pos}{T id:String}{r:V->List V->Hp->VK->Prop},PlainAttrs T->Slot T name id->typeOf (Value.builtin id)=Pure.pure (Value.type "method_descriptor")->MtR X id r->Bp X o to->autoParam (attributeBase o name (Cx.env X) (eval o (Cx.env X))=eval o (Cx.env X)) L2.Wj._auto_1->autoParam ((Pos.endLine apos==Pos.line cpos)=Bool.true) L2.Wj._auto_2->Bp X (Expr.Call (Expr.Attribute o name apos) [] [] cpos) (Af7 (Cx.K X) T r to):=by with_unfolding_all exact @L2.Wj
theorem Ie:∀ {X:Cx}{a:Expr}{ta:TA}{el:List Expr}{x1:Nat}{tp p pos:Pos},Gl X (("enumerate":Str))->Cx.mg X (("enumerate":Str))=Option.none->Jb X [a] ta->autoParam (starEach [a] (Cx.env X)=[(Bool.false,eval a (Cx.env X))]) L2.Ac9._auto_1->Nz X (Expr.Tuple el x1 tp) (Expr.Call (Expr.Name (("enumerate":Str)) p) [a] [] pos) (iEn (Cx.K X) ta):=by with_unfolding_all exact @L2.Ac9
theorem T3:∀ {X:Cx}{a b:Expr}{ta:TA}{el:List Expr}{x1:Nat}{tp p pos:Pos} (d y:Bool),Gl X (("zip":Str))->Cx.mg X (("zip":Str))=Option.none->Jb X [a,b] ta->autoParam (starEach [a,b] (Cx.env X)=[(Bool.false,eval a (Cx.env X)),(Bool.false,eval b (Cx.env X))]) L2.Rq._auto_1->autoParam (starEach [b] (Cx.env X)=[(Bool.false,eval b (Cx.env X))]) L2.Rq._auto_2->Nz X (Expr.Tuple el x1 tp) (Expr.Call (Expr.Name (("zip":Str)) p) [a,b] [] pos) (Aag d y (Cx.K X) ta):=by with_unfolding_all exact @L2.Rq
theorem Jl:∀ {X:Cx}{d y:Expr}{es:List Expr}{pos:Pos}{t:TJ},Tv X (d::y::es) t->Bp X (Expr.JoinedStr (d::y::es) pos) (tJn t):=by with_unfolding_all exact @L2.Ac2
theorem Jo:∀ {X:Cx},Tv X [] Afn:=by with_unfolding_all exact @L2.Adc
theorem Lr:∀ {X:Cx}{x:Str}{j:Nat}{pos:Pos}{es:List Expr}{t:TJ},Tv X es t->Tv X (Expr.Constant (Const.str x) j pos::es) (Afo x t):=by with_unfolding_all exact @L2.Ade
theorem Es:∀ {X:Cx}{e:Expr}{te:TE}{pos:Pos}{es:List Expr}{t:TJ},Bp X e te->Tv X es t->Tv X (Expr.FormattedValue e (-1:Int) Option.none pos::es) (Afp te t):=by with_unfolding_all exact @L2.Adf
theorem U9:∀ {X:Cx}{tg l:Expr}{tl:TE},Bp X l tl->Nz X tg l (Afk tl):=by with_unfolding_all exact @L2.Ada
theorem Tz:∀ {X:Cx}{tg a b c:Expr}{ta:TA}{p pos:Pos},Gl X (("range":Str))->Cx.mg X (("range":Str))=Option.none->Jb X [a,b,c] ta->autoParam (Dm a=Bool.true) L2.Rp._auto_1->autoParam (List.all [b,c] Dm=Bool.true) L2.Rp._auto_2->Nz X tg (Expr.Call (Expr.Name (("range":Str)) p) [a,b,c] [] pos) (Aad ta):=by with_unfolding_all exact @L2.Rp
theorem Er:∀ {X:Cx}{tg a:Expr}{ta:TA}{p pos:Pos},Gl X (("range":Str))->Cx.mg X (("range":Str))=Option.none->Jb X [a] ta->autoParam (starEach [a] (Cx.env X)=[(Bool.false,eval a (Cx.env X))]) L2.Qd._auto_1->Nz X tg (Expr.Call (Expr.Name (("range":Str)) p) [a] [] pos) (Aaf ta):=by with_unfolding_all exact @L2.Qd
theorem J6:∀ {X:Cx}{tg l:Expr}{tl:TE},Bp X l tl->Nz X tg l (Aae (Cx.K X) tl):=by with_unfolding_all exact @L2.Aax
theorem Jm:∀ {X:Cx}{tg l:Expr}{tl:TE},Bp X l tl->Nz X tg l (Afl (Cx.K X) tl):=by with_unfolding_all exact @L2.Adb
theorem Gz:∀ {X:Cx},U8 X [] Rv:=by with_unfolding_all exact @L2.Aa5
theorem Ni:∀ {X:Cx}{c:Expr}{t:TT},J5 X c t->U8 X [c] t:=by with_unfolding_all exact @L2.Aa6
theorem Aj:∀ {X:Cx}{a b:Expr}{ta tb:TE}{pos:Pos}{d:CmpOp}{r:R2},OpR X (compareOp d) r->Bp X a ta->Bp X b tb->behindInMarks d b=Bool.false->J5 X (Expr.Compare a [d] [b] pos) (Abi (tOp r ta tb)):=by with_unfolding_all exact @L2.Aa4
theorem Jq:∀ {X:Cx}{a:Expr}{pos:Pos}{tA:TT},J5 X a tA->J5 X (Expr.UnaryOp UnaryOp.Not a pos) (Agc tA):=by with_unfolding_all exact @L2.Adh
theorem Eh:∀ {X:Cx}{a b:Expr}{pos:Pos}{tA tB':TT}{rest:List Expr},J5 X a tA->Qu X (Expr.BoolOp BoolOp.And (b::rest) pos) tB'->Qu X (Expr.BoolOp BoolOp.And (a::b::rest) pos) (Af6 tA tB'):=by with_unfolding_all exact @L2.Adi
theorem Gj:∀ {X:Cx}{a b:Expr}{pos:Pos}{tA tB':TT}{rest:List Expr},J5 X a tA->Qu X (Expr.BoolOp BoolOp.Or (b::rest) pos) tB'->Qu X (Expr.BoolOp BoolOp.Or (a::b::rest) pos) (tOr tA tB'):=by with_unfolding_all exact @L2.Af0
theorem Ec:∀ {X:Cx}{a:Expr}{pos:Pos}{tA:TT},J5 X a tA->Qu X (Expr.BoolOp BoolOp.And [a] pos) tA:=by with_unfolding_all exact @L2.Aa7
theorem Fz:∀ {X:Cx}{a:Expr}{pos:Pos}{tA:TT},J5 X a tA->Qu X (Expr.BoolOp BoolOp.Or [a] pos) tA:=by with_unfolding_all exact @L2.Adj
theorem Dc:∀ {X:Cx}{e:Expr}{t:TT},Qu X e t->J5 X e t:=by with_unfolding_all exact @L2.PW.pt
theorem Ck:∀ {X:Cx}{e:Expr}{t:TE},Bp X e t->autoParam (∀(whole:Sem Value),isTrue e (Cx.env X) whole=do let v<-whole;standAt (Expr.pos e);holding [v] (truthy v)) L2.Zo._auto_1->J5 X e (tB t):=by with_unfolding_all exact @L2.Zo
theorem Ab:∀ {X:Cx},Jb X [] Agb:=by with_unfolding_all exact @L2.Ac0
theorem Aa:∀ {X:Cx}{e:Expr}{es:List Expr}{te:TE}{t:TA},Bp X e te->Jb X es t->autoParam (Dm e=Bool.true) L2.Zj._auto_1->Jb X (e::es) (Yr te t):=by with_unfolding_all exact @L2.Zj
theorem Ay:∀ {X:Cx},Hr X [] Abg:=by with_unfolding_all exact @L2.Aa2
theorem Af:∀ {X:Cx}{st:Stmt}{t:TS},K7 X st t->Hr X [st] t:=by with_unfolding_all exact @L2.Aa3
theorem Ac:∀ {X:Cx}{st:Stmt}{rest:List Stmt}{t u:TS},K7 X st t->Hr X rest u->Hr X (st::rest) (Abx t u):=by with_unfolding_all exact @L2.Yk
theorem Abt:∀ {X:Cx}{pos:Pos}{i:Nat}{x:Str},Nodup (Cx.N X)->(Cx.N X)[i]? =Option.some x->Loc (Env.scope (Cx.env X)) x->∀(d:autoParam (Cx.fn X x=Bool.true\/lookup x (Scope.names (Env.scope (Cx.env X)))=Option.some NameKind.local) L2.Rn._auto_1),Ny X (Expr.Name x pos) (Jt i):=by with_unfolding_all exact @L2.Rn
theorem Aq:∀ {X:Cx}{pos:Pos}{x:Str} (i:Nat),Nodup (Cx.N X)->autoParam ((Cx.N X)[i]? =Option.some x) L2.Ye._auto_1->autoParam (Loc (Env.scope (Cx.env X)) x) L2.Ye._auto_2->autoParam (Cx.fn X x=Bool.true\/lookup x (Scope.names (Env.scope (Cx.env X)))=Option.some NameKind.local) L2.Ye._auto_3->Ny X (Expr.Name x pos) (Jt i):=by with_unfolding_all exact @L2.Ye
theorem Bd:∀ {X:Cx},O4 X [] Ae2:=by with_unfolding_all exact @L2.Aaw
theorem Ak:∀ {X:Cx}{e:Expr}{es:List Expr}{t:TG}{u:TGs},Ny X e t->O4 X es u->autoParam (List.map (fun(x:Bool × (Value->Sem Unit)) ↦ Prod.snd x) (assignEach (e::es) (Cx.env X))=assign e (Cx.env X)::List.map (fun(x:Bool × (Value->Sem Unit)) ↦ Prod.snd x) (assignEach es (Cx.env X))) L2.S8._auto_1->O4 X (e::es) (Q6 t u):=by with_unfolding_all exact @L2.S8
theorem Tw:∀ {X:Cx}{es:List Expr}{k:Nat}{pos:Pos}{t:TGs} (K:W.Frag) (n:Nat),Cx.K X=K->Cx.calm X=Bool.true->O4 X es t->autoParam (List.length (assignEach es (Cx.env X))=n) L2.Ro._auto_1->autoParam (List.findIdx? (fun(x:Bool × (Value->Sem Unit)) ↦ Prod.fst x) (assignEach es (Cx.env X))=Option.none) L2.Ro._auto_2->Ny X (Expr.Tuple es k pos) (Abu K n t):=by with_unfolding_all exact @L2.Ro
theorem Bk:∀ {X:Cx}{pos:Pos}{es:List Expr}{k:Nat}{t:TGs}{n:Nat},Cx.calm X=Bool.true->O4 X es t->autoParam (List.length (assignEach es (Cx.env X))=n) L2.S7._auto_1->autoParam (List.findIdx? (fun(x:Bool × (Value->Sem Unit)) ↦ Prod.fst x) (assignEach es (Cx.env X))=Option.none) L2.S7._auto_2->Ny X (Expr.Tuple es k pos) (Abu (Cx.K X) n t):=by with_unfolding_all exact @L2.S7
theorem Gy:∀ {X:Cx}{pos:Pos}{o i:Expr}{to d:TE}{t:Ab3},Bp X o to->Bp X i d->Ae8 X t->autoParam (∀(v:Value),assign (Expr.Subscript o i pos) (Cx.env X) v=do let ov<-holding [v] (eval o (Cx.env X));let iv<-holding [v,ov] (eval i (Cx.env X));standAt pos;holding [v,ov,iv] (setItem ov iv v);release [v,ov,iv] []) L2.Zk._auto_1->Ny X (Expr.Subscript o i pos) (Afj to d t):=by with_unfolding_all exact @L2.Zk
theorem G7:∀ {X:Cx}{st:Stmt},K7 X st Zv:=by with_unfolding_all exact @L2.Yi
theorem Ab2:∀ {X:Cx}{pos:Pos}{i:Nat}{x:Str}{e:Expr}{te:TE}{d:Pos},Nodup (Cx.N X)->(Cx.N X)[i]? =Option.some x->Loc (Env.scope (Cx.env X)) x->Bp X e te->autoParam (swapsWith e (Option.some (Expr.Name x d)) (Pos.line pos) (Cx.env X)=Pure.pure Bool.false) L2.Tc._auto_1->autoParam (Cx.fn X x=Bool.true\/lookup x (Scope.names (Env.scope (Cx.env X)))=Option.some NameKind.local) L2.Tc._auto_2->K7 X (Stmt.Assign [Expr.Name x d] e pos) (Abe te (Jt i)):=by with_unfolding_all exact @L2.Tc
theorem Am:∀ {X:Cx}{e:Expr}{pos:Pos}{te:TE}{x:Str}{d:Pos} (i:Nat),Nodup (Cx.N X)->Bp X e te->autoParam ((Cx.N X)[i]? =Option.some x) L2.Ws._auto_1->autoParam (Loc (Env.scope (Cx.env X)) x) L2.Ws._auto_2->autoParam (swapsWith e (Option.some (Expr.Name x d)) (Pos.line pos) (Cx.env X)=Pure.pure Bool.false) L2.Ws._auto_3->autoParam (Cx.fn X x=Bool.true\/lookup x (Scope.names (Env.scope (Cx.env X)))=Option.some NameKind.local) L2.Ws._auto_4->K7 X (Stmt.Assign [Expr.Name x d] e pos) (Abe te (Jt i)):=by with_unfolding_all exact @L2.Ws
theorem Jp:∀ {X:Cx}{pos:Pos}{i j:Nat}{x y:Str}{a b:Expr}{ta:TA}{F G pt:Pos}{I L:Nat}{d:Pos},Cx.calm X=Bool.true->Nodup (Cx.N X)->(Cx.N X)[i]? =Option.some x->(Cx.N X)[j]? =Option.some y->i≠j->lookup x (Scope.names (Env.scope (Cx.env X)))=Option.some NameKind.local->lookup y (Scope.names (Env.scope (Cx.env X)))=Option.some NameKind.local->Jb X [a,b] ta->swappedStores [Expr.Tuple [Expr.Name x F,Expr.Name y G] I pt] (Expr.Tuple [a,b] L d) (Cx.env X)=Pure.pure (Option.some [x,y])->autoParam (swapsWithSole [Expr.Tuple [Expr.Name x F,Expr.Name y G] I pt] (Expr.Tuple [a,b] L d) (Pos.line pos) (Cx.env X)=Pure.pure Bool.false) L2.Zn._auto_1->K7 X (Stmt.Assign [Expr.Tuple [Expr.Name x F,Expr.Name y G] I pt] (Expr.Tuple [a,b] L d) pos) (Age i j ta):=by with_unfolding_all exact @L2.Zn
theorem Bm:∀ {X:Cx}{pos:Pos}{tg e:Expr}{te:TE}{g:TG},Bp X e te->Ny X tg g->autoParam (swapsWithSole [tg] e (Pos.line pos) (Cx.env X)=Pure.pure Bool.false) L2.S9._auto_1->autoParam (swappedStores [tg] e (Cx.env X)=Pure.pure Option.none) L2.S9._auto_2->autoParam (List.map (fun(x:Bool × (Value->Sem Unit)) ↦ Prod.snd x) (assignEach [tg] (Cx.env X))=[assign tg (Cx.env X)]) L2.S9._auto_3->K7 X (Stmt.Assign [tg] e pos) (Abe te g):=by with_unfolding_all exact @L2.S9
theorem Al:∀ {X:Cx}{e:Expr}{te:TE}{pos:Pos},Bp X e te->K7 X (Stmt.Return (Option.some e) pos) (Agf te):=by with_unfolding_all exact @L2.Adg
theorem Bb:∀ {X:Cx}{t u:TS}{pos:Pos}{c:Expr}{a b:List Stmt}{tc:TT},J5 X c tc->Hr X a t->Hr X b u->K7 X (Stmt.If c a b pos) (Af9 tc t u):=by with_unfolding_all exact @L2.Afz
theorem Dp:∀ {X:Cx}{pos:Pos}{c:Expr}{d:List Stmt}{tc:TT}{tb:TS},PassesOwn (model (Cx.prog X) (Cx.w X)) (Cx.A X) (Cx.env X) (Cx.xe X)->J5 X c tc->Hr X d tb->K7 X (Stmt.While c d [] pos) (Qm tc tb):=by with_unfolding_all exact @L2.Yj
theorem Cj:∀ {X:Cx}{tg iter:Expr}{d:List Stmt}{wi:TI}{g:TG}{tb:TS}{pos:Pos},PassesOwn (model (Cx.prog X) (Cx.w X)) (Cx.A X) (Cx.env X) (Cx.xe X)->Cx.calm X=Bool.true->Nz X tg iter wi->Ny X tg g->Hr X d tb->autoParam (∀(x:Value),foldedSetIterable iter (Cx.env X) x=Pure.pure x) L2.Zm._auto_1->K7 X (Stmt.For tg iter d [] pos) (Af8 wi g tb):=by with_unfolding_all exact @L2.Zm
theorem Br:∀ {X:Cx}{e:Expr}{te:TE}{pos:Pos},Bp X e te->autoParam (swapsWith e Option.none (Pos.line pos) (Cx.env X)=Pure.pure Bool.false) L2.Wr._auto_1->K7 X (Stmt.Expr e pos) (Abf te):=by with_unfolding_all exact @L2.Wr
theorem Av {X:Cx}{b:List Stmt}{d:TS->Prop} (h:∃t,Hr X b t/\d t):∃t,L2.PSs X b t/\d t:=by
 obtain⟨t,h1,h2⟩:=h
 exact⟨t,Ab1 h1,h2⟩
end L2
namespace Z
def co (p:List Int) (i:Nat):Int:=p.getD i 0
theorem Jr (i:Nat):co [] i=0:=by simp [co]
theorem Ht (a:Int) (r:List Int):co (a::r) 0=a:=by simp [co]
theorem G8 (a:Int) (r:List Int) (i:Nat):co (a::r) (i+1)=co r i:=by simp [co]
theorem Eu {p:List Int}{i:Nat} (h:p.length<=i):co p i=0:=by simp [co,getD_eq_getElem?_getD,getElem?_eq_none h]
theorem Du {p:List Int}{i:Nat} (h:i<p.length):co p i=p[i]:=by simp [co,getD_eq_getElem?_getD,getElem?_eq_getElem h]
def Tr (p:List Int):Prop:=p=[]\/∃h:p≠ [],p.getLast h≠0
theorem Tr.lead {p:List Int} (h:Tr p) (n:p≠ []):co p (p.length-1)≠0:=by
 rcases h with h | ⟨h,z⟩
 . exact absurd h n
 . have d:0<p.length:=length_pos_iff.mpr h
   rw [Du (by omega)]
   rw [List.getLast_eq_getElem]at z
   exact z
theorem Tr.of {p:List Int} (h:p=[]\/co p (p.length-1)≠0):Tr p:=by
 by_cases n:p=[]
 . exact .inl n
 . rcases h with h | h
   . exact .inl h
   . refine .inr ⟨n,?_⟩
     have d:0<p.length:=length_pos_iff.mpr n
     rw [Du (by omega)]at h
     rw [List.getLast_eq_getElem]
     exact h
theorem Tr.len {p q:List Int} (d:Tr p) (e:∀i,co p i=co q i):p.length<=q.length:=by
 by_cases n:p=[]
 . subst n;simp
 . by_cases h:p.length<=q.length
   . exact h
   . exfalso
     have z:=d.lead n
     rw [e,Eu (by omega)]at z
     exact z rfl
theorem Tr.ext {p q:List Int} (d:Tr p) (y:Tr q) (e:∀i,co p i=co q i):p=q:=by
 have l:=le_antisymm (d.len e) (y.len fun i=>(e i).symm)
 refine List.ext_getElem l fun i h1 h2=> ?_
 rw [<-Du h1,<-Du h2,e]
def trim:List Int->List Int
 | []=>[]
 | a::r=>match trim r with
   | []=>if a=0 then []else [a]
   | b::t=>a::b::t
theorem M7 (a:Int) (r:List Int):trim (a::r)=if trim r=[]/\a=0 then []else a::trim r:=by
 rw [trim]
 split
 . rename_i h
   rw [h]
   by_cases d:a=0<;>simp [d]
 . rename_i b t h
   rw [h]
   simp
theorem Gs:∀(p:List Int) (i:Nat),co (trim p) i=co p i
 | [],i=>rfl
 | a::r,i=>by
   rw [M7]
   split
   . rename_i h
     rw [Jr]
     cases i with
     | zero=>rw [Ht,h.2]
     | succ i=>rw [G8,<-Gs r i,h.1,Jr]
   . cases i with
     | zero=>rw [Ht,Ht]
     | succ i=>rw [G8,G8,Gs r i]
theorem Ej:∀p:List Int,Tr (trim p)
 | []=> .inl rfl
 | a::r=>by
   rw [M7]
   split
   . exact .inl rfl
   . rename_i h
     refine .inr ⟨by simp,?_⟩
     by_cases d:trim r=[]
     . simp only [d,List.getLast_singleton]
       exact fun z=>h ⟨d,z⟩
     . rw [List.getLast_cons d]
       rcases Ej r with z | ⟨_,z⟩
       . exact absurd z d
       . exact z
theorem Kr {p q:List Int} (d:Tr q) (e:∀i,co q i=co p i):trim p=q:=(Ej p).ext d fun i=>by rw [Gs,e]
theorem Ow {p:List Int} (h:Tr p):trim p=p:=Kr h fun _=>rfl
theorem Ve (p:List Int) (n i:Nat):co (p.take n) i=if i<n then co p i else 0:=by
 unfold co
 rw [getD_eq_getElem?_getD,getD_eq_getElem?_getD,List.getElem?_take]
 split<;>rfl
theorem W4 {p:List Int}{n:Nat} (h1:∀i,n<=i->co p i=0) (h2:n=0\/co p (n-1)≠0):trim p=p.take n:=by
 refine Kr ?_ fun i=> ?_
 . rcases h2 with h | h
   . subst h;exact .inl (by simp)
   . have d:n<=p.length:=by
      by_cases z:n<=p.length
      . exact z
      . exact absurd (Eu (by omega)) h
     refine .of ?_
     by_cases y:n=0
     . left;subst y;simp
     . right
       rw [length_take,min_eq_left d,Ve,if_pos (by omega)]
       exact h
 . rw [Ve]
   split
   . rfl
   . rw [h1 i (by omega)]
def sh (f:Nat->Int):Nat->Int
 | 0=>0
 | i+1=>f i
def mu:List Int->(Nat->Int)->Nat->Int
 | [],_=>fun _=>0
 | a::p,f=>fun i=>a*f i+sh (mu p f) i
theorem Ads (f g:Nat->Int):sh (fun i=>f i+g i)=fun i=>sh f i+sh g i:=by funext i;cases i<;>simp [sh]
theorem Adt (c:Int) (f:Nat->Int):sh (fun i=>c*f i)=fun i=>c*sh f i:=by funext i;cases i<;>simp [sh]
theorem Mw:sh (fun _=>0)=fun _=>0:=by funext i;cases i<;>rfl
theorem Zc:∀(p:List Int) (f g:Nat->Int),mu p (fun i=>f i+g i)=fun i=>mu p f i+mu p g i
 | [],f,g=>by funext i;simp [mu]
 | a::p,f,g=>by
   funext i
   simp only [mu]
   rw [Zc p f g,Ads]
   grind
theorem Ze:∀(p:List Int) (c:Int) (f:Nat->Int),mu p (fun i=>c*f i)=fun i=>c*mu p f i
 | [],c,f=>by funext i;simp [mu]
 | a::p,c,f=>by
   funext i
   simp only [mu]
   rw [Ze p c f,Adt]
   grind
theorem Ra:∀(p:List Int),mu p (fun _=>0)=fun _=>0
 | []=>rfl
 | a::p=>by
   funext i
   simp only [mu]
   rw [Ra p,Mw]
   simp
theorem Acs:∀(p:List Int) (f:Nat->Int),mu p (sh f)=sh (mu p f)
 | [],f=>by funext i;cases i<;>rfl
 | a::p,f=>by
   funext i
   simp only [mu]
   rw [Acs p f]
   cases i with
   | zero=>simp [sh]
   | succ i=>simp [sh]
theorem Yx (a:Int) (r:List Int):co (a::r)=fun i=>(if i=0 then a else 0)+sh (co r) i:=by
 funext i
 cases i with
 | zero=>simp [Ht,sh]
 | succ i=>simp [G8,sh]
theorem V4:∀(p:List Int),mu p (fun i=>if i=0 then 1 else 0)=co p
 | []=>by funext i;simp [mu,co]
 | a::p=>by
   funext i
   simp only [mu]
   rw [V4 p,Yx]
   cases i<;>simp
theorem Ud (q:List Int) (a:Int) (p:List Int):mu q (co (a::p))=fun i=>a*co q i+sh (mu q (co p)) i:=by
 rw [Yx,Zc,Acs]
 funext i
 congr 1
 have e:(fun i:Nat=>if i=0 then a else 0)=fun i=>a*(if i=0 then 1 else 0):=by funext i;cases i<;>simp
 rw [e,Ze,V4]
theorem V2:∀p q:List Int,mu p (co q)=mu q (co p)
 | [],q=>by
   have e:co []=fun _=>0:=by funext i;simp [co]
   rw [e,Ra];rfl
 | a::p,q=>by rw [Ud,<-V2 p q];rfl
def al:List Int->List Int->List Int
 | [],q=>q
 | p,[]=>p
 | a::p,b::q=>(a+b)::al p q
theorem Va:∀(p q:List Int) (i:Nat),co (al p q) i=co p i+co q i
 | [],q,i=>by simp [al,co]
 | a::p,[],i=>by simp [al,co]
 | a::p,b::q,0=>by simp [al,Ht]
 | a::p,b::q,i+1=>by simp [al,G8,Va p q i]
theorem Xo (a:Int) (q:List Int) (i:Nat):co (q.map (a* ·)) i=a*co q i:=by
 unfold co
 rw [getD_eq_getElem?_getD,getD_eq_getElem?_getD,getElem?_map]
 cases q[i]? <;>simp
def ml:List Int->List Int->List Int
 | [],_=>[]
 | a::p,q=>al (q.map (a* ·)) (0::ml p q)
theorem Acr:∀(p q:List Int),co (ml p q)=mu p (co q)
 | [],q=>by funext i;simp [ml,mu,co]
 | a::p,q=>by
   funext i
   simp only [ml,mu]
   rw [Va,Xo,<-Acr p q]
   cases i with
   | zero=>simp [Ht,sh]
   | succ i=>simp [G8,sh]
theorem J7:∀(p:List Int) (e:Int) (i:Nat),co (p++ [e]) i=if i=p.length then e else co p i
 | [],e,0=>by simp [co]
 | [],e,i+1=>by simp [co]
 | a::p,e,0=>by simp [Ht]
 | a::p,e,i+1=>by
   rw [cons_append,G8,G8,J7 p e i,length_cons]
   by_cases h:i=p.length<;>simp [h]
theorem R6 (p:List Int) (j:Nat) (x:Int) (h:j<p.length) (i:Nat):co (p.set j x) i=if i=j then x else co p i:=by
 unfold co
 rw [getD_eq_getElem?_getD,getD_eq_getElem?_getD,List.getElem?_set]
 by_cases e:j=i
 . subst e
   simp [h]
 . rw [if_neg e,if_neg (Ne.symm e)]
theorem Nv {p q:List Int} (h:∀i,co p i=co q i):trim p=trim q:=Kr (Ej q) fun i=>by rw [Gs,h]
theorem Od (f:Nat->Int):∀(p:List Int) (e:Int) (i:Nat),mu (p++ [e]) f i=mu p f i+(if p.length<=i then e*f (i-p.length)else 0)
 | [],e,i=>by simp [mu,Mw]
 | a::p,e,0=>by simp [mu,sh]
 | a::p,e,i+1=>by
   simp only [cons_append,mu,sh,length_cons]
   rw [Od f p e i]
   by_cases h:p.length<=i
   . rw [if_pos h,if_pos (by omega),show i+1-(p.length+1)=i-p.length by omega]
     omega
   . rw [if_neg h,if_neg (by omega)]
     omega
theorem Zd:∀(p q:List Int) (i:Nat),p≠ []->p.length+q.length<=i+1->mu p (co q) i=0
 | [],q,i,h,_=>absurd rfl h
 | [a],q,i,_,hl=>by
   simp only [length_cons,length_nil]at hl
   simp only [mu]
   rw [Eu (by omega),Mw]
   simp
 | a::b::p,q,0,_,hl=>by
   simp only [length_cons]at hl
   omega
 | a::b::p,q,i+1,_,hl=>by
   simp only [length_cons]at hl
   show a*co q (i+1)+mu (b::p) (co q) i=0
   rw [Eu (p:=q) (by omega)]
   rw [Zd (b::p) q i (by simp) (by simp only [length_cons];omega)]
   simp
theorem V3:∀(p q:List Int) (i:Nat),p≠ []->q≠ []->i+2=p.length+q.length->mu p (co q) i=co p (p.length-1)*co q (q.length-1)
 | [],q,i,h,_,_=>absurd rfl h
 | [a],q,i,_,hq,hl=>by
   simp only [length_cons,length_nil]at hl
   simp only [mu]
   rw [Mw]
   have e:i=q.length-1:=by omega
   subst e
   simp [Ht]
 | a::b::p,q,0,_,hq,hl=>by
   have:=length_pos_iff.mpr hq
   simp only [length_cons]at hl
   omega
 | a::b::p,q,i+1,_,hq,hl=>by
   simp only [length_cons]at hl
   show a*co q (i+1)+mu (b::p) (co q) i=_
   rw [Eu (p:=q) (by omega)]
   rw [V3 (b::p) q i (by simp) hq (by simp only [length_cons];omega)]
   simp [G8]
def tm (p q:List Int):List Int:=trim (ml p q)
def ta (p q:List Int):List Int:=trim (al p q)
theorem Nh (p q:List Int) (i:Nat):co (tm p q) i=mu p (co q) i:=by rw [tm,Gs,Acr]
theorem Rx (p q:List Int) (i:Nat):co (ta p q) i=co p i+co q i:=by rw [ta,Gs,Va]
theorem Ov (p q:List Int):Tr (tm p q):=Ej _
theorem Qn (p q:List Int):Tr (ta p q):=Ej _
theorem Ry (p q:List Int):tm p q=tm q p:=(Ov _ _).ext (Ov _ _) fun i=>by rw [Nh,Nh,V2]
theorem Abj (p q:List Int):ta p q=ta q p:=(Qn _ _).ext (Qn _ _) fun i=>by rw [Rx,Rx,Int.add_comm]
theorem Ad0 {p:List Int} (h:Tr p):tm p [1]=p:=(Ov _ _).ext h fun i=>by
 rw [Nh,show co [1]=fun i=>if i=0 then 1 else 0 from by funext i;cases i<;>simp [co],V4]
theorem Tg (p:List Int):tm p []=[]:=(Ov _ _).ext (.inl rfl) fun i=>by
 rw [Nh,show co []=fun _=>0 from by funext i;simp [co],Ra]
def pw (p:List Int):Nat->List Int
 | 0=>[1]
 | k+1=>tm p (pw p k)
def ng (p:List Int) (c:Int):List Int:=trim (p.map (· *c))
theorem V5 (p:List Int) (c:Int) (i:Nat):co (ng p c) i=co p i*c:=by
 rw [ng,Gs]
 unfold co
 rw [getD_eq_getElem?_getD,getD_eq_getElem?_getD,getElem?_map]
 cases p[i]? <;>simp
theorem Zx {p q:List Int} (d:Tr p) (y:Tr q) (h1:p≠ []) (h2:q≠ []):(tm p q).length+1=p.length+q.length:=by
 have G:=length_pos_iff.mpr h1
 have I:=length_pos_iff.mpr h2
 have lead:co (tm p q) (p.length+q.length-2)≠0:=by
  rw [Nh,V3 p q _ h1 h2 (by omega)]
  exact Int.mul_ne_zero (d.lead h1) (y.lead h2)
 have a:p.length+q.length-2<(tm p q).length:=by
  by_cases h:p.length+q.length-2<(tm p q).length
  . exact h
  . exact absurd (Eu (by omega)) lead
 have b:(tm p q).length<=p.length+q.length-1:=by
  by_cases h:(tm p q).length<=p.length+q.length-1
  . exact h
  . exfalso
    have F:tm p q≠ []:=fun z=>by rw [z]at h;simp at h
    have:=(Ov p q).lead F
    rw [Nh,Zd p q _ h1 (by omega)]at this
    exact this rfl
 omega
theorem Zw (p q:List Int):(ta p q).length<=max p.length q.length:=by
 by_cases d:ta p q=[]
 . rw [d];simp
 by_cases h:(ta p q).length<=max p.length q.length
 . exact h
 . exfalso
   have:=(Qn p q).lead d
   rw [Rx,Eu (by omega),Eu (by omega)]at this
   exact this rfl
end Z
namespace Z
open PySem L2
theorem Ks (m:Nat):NumText.AllDigits (dg m):=fun c y=>by
 obtain⟨d,F,rfl⟩:=mem_map.mp y
 have:=Nat.isDigit_of_mem_toDigits (by decide) (le_refl 10) F
 simp only [Char.isDigit,and_eq_true,decide_eq_true_eq]at this
 exact⟨this.1,this.2⟩
theorem N8 (m:Nat):dg m≠ []:=fun h=>Nat.toDigits_ne_nil (List.map_eq_nil_iff.mp h)
theorem Fg {m k:Nat} (h:m<10^k) (d:1<=k):(dg m).length<=k:=by
 unfold dg
 rw [length_map]
 exact(Nat.length_toDigits_le_iff (by decide) (by omega)).mpr h
theorem Z5 {m:Nat} (h:m<10):dg m=[m+48]:=by
 unfold dg
 rw [Nat.toDigits_of_lt_base h,List.map_singleton,Nat.toNat_digitChar_of_lt_ten h]
 rw [add_comm]
theorem Z6 {m:Nat} (h:10<=m):dg m=dg (m/10)++ [m%10+48]:=by
 unfold dg
 rw [Nat.toDigits_of_base_le (by decide) h,map_append,List.map_singleton,Nat.toNat_digitChar_of_lt_ten (mod_lt _ (by decide)),add_comm 48]
theorem Vi:∀m:Nat,m≠0->∃c r,dg m=c::r/\49<=c:=fun m=>by
 induction m using Nat.strongRecOn with
 | ind m d=>
   intro F
   by_cases h:m<10
   . exact⟨_,_,Z5 h,by omega⟩
   . obtain⟨c,r,e,y⟩:=d (m/10) (by omega) (by omega)
     exact⟨c,r++ [m%10+48],by rw [Z6 (by omega),e];rfl,y⟩
theorem Z7:dg 0=[48]:=Z5 (by decide)
theorem Vn {m:Nat} (h:(dg m).length<=640):intText? (tx (dg m))=some (m:Int):=by
 have al:=Ks m
 have h1:((tx (dg m)).cps.all fun x=>decide (x<128))=true:=by
  rw [Array.all_eq_true_iff_forall_mem]
  intro x O
  have:=al x (by simpa using O)
  exact decide_eq_true (by omega)
 have h2:numTextOf (tx (dg m))=dg m:=by
  unfold numTextOf
  rw [if_pos h1]
 have U:numSeenOf (tx (dg m))=dg m:=by
  unfold numSeenOf
  rw [h2,NumText.takeWhile_all]
  intro c I
  have:=al c I
  simp
  omega
 obtain⟨c,r,e⟩:∃c r,dg m=c::r:=by
  cases F:dg m with
  | nil=>exact absurd F (N8 m)
  | cons c r=>exact⟨c,r,rfl⟩
 have I:=al c (by rw [e];simp)
 have L:List.dropWhile NumText.blank (dg m)=dg m:=by
  rw [e]
  exact NumText.dropWhile_of (by omega)
 have M:NumText.sign (dg m)=(false,dg m):=by
  rw [e]
  unfold NumText.sign
  split
  . rename_i h;injection h with h;omega
  . rename_i h;injection h with h;omega
  . rfl
 have Y:NumText.core (dg m)=dg m:=by
  unfold NumText.core
  rw [L,M]
  obtain⟨d,q,G⟩:∃d q,(dg m).reverse=d::q:=by
   cases F:(dg m).reverse with
   | nil=>exact absurd (List.reverse_eq_nil_iff.mp F) (N8 m)
   | cons c r=>exact⟨c,r,rfl⟩
  have F:=al d (by rw [<-List.mem_reverse,G];simp)
  show(List.dropWhile NumText.blank (dg m).reverse).reverse=dg m
  rw [G,NumText.dropWhile_of (by omega),<-G,List.reverse_reverse]
 unfold intText?
 rw [U,h2,if_pos (beq_self_eq_true _),Y,NumText.digits_of al (N8 m),L,M]
 have Z:(foldl (fun(y:Array Nat) c=>y.push (c-48)) #[] (dg m)).size=(dg m).length:=by
  have:∀(l:List Nat) (a:Array Nat),(foldl (fun(y:Array Nat) c=>y.push (c-48)) a l).size=a.size+l.length:=by
   intro l
   induction l with
   | nil=>intro a;rfl
   | cons x l ih=>intro a;rw [foldl_cons,ih,Array.size_push,length_cons];omega
  rw [this]
  simp
 show(if _ then _ else _)=_
 rw [if_pos (by rw [Z];omega)]
 unfold NumText.worth
 rw [if_neg Bool.false_ne_true,NumText.push_foldl]
 have:=PySem.W.KIN.val_back m
 show some (((foldl (fun y c=>y*10+(c-48)) 0 (dg m):Nat)):Int)=_
 exact congrArg (fun z:Nat=>some (z:Int)) this
inductive Bx (S:Type) where
 | x | num (n:Nat) | par (s:S)
abbrev Fx (S:Type):=Bx S × Option Nat
def sg (g:Bool):Nat:=if g then 45 else 43
def sgn (g:Bool) (p:List Int):List Int:=if g then ng p (-1)else p
def Bnd (p:List Int):Prop:=p.length<=17/\∀w∈p,w.natAbs<10^60
instance {p:List Int}:Decidable (Bnd p):=inferInstanceAs (Decidable (_/\_))
def bd (p:List Int):Option (List Int):=if Bnd p then some p else none
theorem Ls {p q:List Int} (h:bd p=some q):p=q/\Bnd p:=by
 unfold bd at h
 split at h
 . rename_i b
   exact⟨Option.some.inj h,b⟩
 . cases h
theorem Qy {p:List Int} (h:Bnd p):bd p=some p:=if_pos h
def pwb (p:List Int):Nat->Option (List Int)
 | 0=>some [1]
 | k+1=>(pwb p k).bind fun a=>bd (tm a p)
section
variable {S:Type} (st:S->List Nat) (sv:S->Option (List Int)) (so:S->Prop)
def bT:Bx S->List Nat
 | .x=>[120]
 | .num n=>dg n
 | .par s=>40::(st s++ [41])
def fT (f:Fx S):List Nat:=bT st f.1++(match f.2 with | none=>[] | some k=>94::dg k)
def pU (r:List (Fx S)):List Nat:=r.flatMap fun f=>42::fT st f
def pT:List (Fx S)->List Nat
 | []=>[]
 | f::r=>fT st f++pU st r
def sU (r:List (Bool × List (Fx S))):List Nat:=r.flatMap fun e=>sg e.1::pT st e.2
def sT:List (Bool × List (Fx S))->List Nat
 | []=>[]
 | e::r=>(if e.1 then [45]else [])++(pT st e.2++sU st r)
def bV:Bx S->Option (List Int)
 | .x=>some [0,1]
 | .num n=>some (trim [(n:Int)])
 | .par s=>sv s
def fV (f:Fx S):Option (List Int):=match f.2 with
 | none=>bV sv f.1
 | some k=>(bV sv f.1).bind fun p=>pwb p k
def pS (acc:Option (List Int)) (f:Fx S):Option (List Int):=acc.bind fun a=>(fV sv f).bind fun b=>bd (tm a b)
def pV (p:List (Fx S)):Option (List Int):=p.foldl (pS sv) (some [1])
def sS (acc:Option (List Int)) (e:Bool × List (Fx S)):Option (List Int):=acc.bind fun t=>(pV sv e.2).bind fun a=>bd (ta t (sgn e.1 a))
def sV (s:List (Bool × List (Fx S))):Option (List Int):=s.foldl (sS sv) (some [])
def bO:Bx S->Prop
 | .x=>True
 | .num n=>n<10^60
 | .par s=>so s
def fO (f:Fx S):Prop:=bO so f.1/\∀k,f.2=some k->k<=16
def pO (p:List (Fx S)):Prop:=p≠ []/\∀f∈p,fO so f
def sO (s:List (Bool × List (Fx S))):Prop:=s≠ []/\∀e∈s,pO so e.2
end
def Sm:Nat->Type
 | 0=>Empty
 | n+1=>List (Bool × List (Fx (Sm n)))
def ST:(n:Nat)->Sm n->List Nat
 | 0=>fun s=>s.elim
 | n+1=>sT (ST n)
def SV:(n:Nat)->Sm n->Option (List Int)
 | 0=>fun s=>s.elim
 | n+1=>sV (SV n)
def SO:(n:Nat)->Sm n->Prop
 | 0=>fun s=>s.elim
 | n+1=>sO (SO n)
def Bt (p:List Int):Prop:=Tr p/\Bnd p
theorem Bt.one:Bt [1]:=⟨.inr ⟨by simp,by decide⟩,by decide,by simp⟩
theorem Bt.nil:Bt []:=⟨.inl rfl,by decide,by simp⟩
theorem M6 {p:List Int} (h:Tr p):tm [1] p=p:=by rw [Ry,Ad0 h]
theorem Adk {p q:List Int}:∀ {k:Nat},pwb p k=some q->Bt q
 | 0,h=>by
   cases h
   exact .one
 | k+1,h=>by
   rw [pwb,bind_eq_some_iff]at h
   obtain⟨a,_,h2⟩:=h
   obtain⟨rfl,b⟩:=Ls h2
   exact⟨Ov _ _,b⟩
theorem Aa8 {p:List Int} (h:Bt p):pwb p 1=some p:=by
 show bd (tm [1] p)=some p
 rw [M6 h.1]
 exact Qy h.2
section
variable {S:Type}{st:S->List Nat}{sv:S->Option (List Int)}{so:S->Prop}
theorem Xi (h:∀s p,so s->sv s=some p->Bt p) {b:Bx S}{p:List Int} (o:bO so b) (e:bV sv b=some p):Bt p:=by
 cases b with
 | x=>
   cases e
   exact⟨.inr ⟨by simp,by decide⟩,by decide,by simp⟩
 | num n=>
   cases e
   refine⟨Ej _,?_⟩
   have o':n<10^60:=o
   rw [M7]
   split
   . exact⟨by decide,by simp⟩
   . refine⟨by simp [trim],fun w d=> ?_⟩
     have:w=n:=by simpa [trim]using d
     rw [this,natAbs_natCast]
     exact o'
 | par s=>exact h s p o e
theorem Afg (h:∀s p,so s->sv s=some p->Bt p) {f:Fx S}{p:List Int} (o:fO so f) (e:fV sv f=some p):Bt p:=by
 unfold fV at e
 cases h2:f.2 with
 | none=>
   rw [h2]at e
   exact Xi h o.1 e
 | some k=>
   rw [h2]at e
   obtain⟨a,_,e⟩:=bind_eq_some_iff.mp e
   exact Adk e
theorem Pg {α d:Type}{f:Option α->d->Option α} (h:∀b,f none b=none):∀l:List d,l.foldl f none=none
 | []=>rfl
 | b::l=>by rw [foldl_cons,h,Pg h l]
theorem take_snoc {α:Type}{l:List α}{i:Nat}{e:α} (h:l[i]? =some e):l.take (i+1)=l.take i++ [e]:=by
 rw [take_succ,h]
 rfl
theorem Af4:∀ {s:List (Bool × List (Fx S))}{q:List Int},s.foldl (sS sv) (some [])=some q->Bt q:=fun {p q} h=>by
 rcases List.eq_nil_or_concat p with rfl | ⟨r,f,rfl⟩
 . cases h
   exact .nil
 . rw [List.concat_eq_append,foldl_append]at h
   have h':sS sv (r.foldl (sS sv) (some [])) f=some q:=h
   obtain⟨a,_,h2⟩:=bind_eq_some_iff.mp h'
   obtain⟨b,_,d⟩:=bind_eq_some_iff.mp h2
   obtain⟨rfl,b⟩:=Ls d
   exact⟨Qn _ _,b⟩
end
theorem Ae9:∀ {n:Nat}{s:Sm n}{p:List Int},SV n s=some p->Bt p
 | 0,s,_,_=>s.elim
 | _+1,_,_,h=>Af4 h
end Z
namespace Z
open PySem L2
def trm {S:Type} (w k:Nat):List (Fx S):=if k=0 then [(.num w,none)]else(if w=1 then []else [(.num w,none)])++ [(.x,if k=1 then none else some k)]
def tmT (w k:Nat):List Nat:=if k=0 then dg w else(if w=1 then []else dg w++ [42])++(if k=1 then [120]else 120::94::dg k)
theorem Qo {S:Type}{st:S->List Nat} (w k:Nat):pT st (trm w k)=tmT w k:=by
 unfold trm tmT
 by_cases d:k=0
 . rw [if_pos d,if_pos d]
   simp [pT,fT,bT,pU]
 . rw [if_neg d,if_neg d]
   by_cases h1:w=1
   . rw [if_pos h1,if_pos h1]
     by_cases h2:k=1
     . rw [if_pos h2,if_pos h2]
       simp [pT,fT,bT,pU]
     . rw [if_neg h2,if_neg h2]
       simp [pT,fT,bT,pU]
   . rw [if_neg h1,if_neg h1]
     by_cases h2:k=1
     . rw [if_pos h2,if_pos h2]
       simp [pT,fT,bT,pU]
     . rw [if_neg h2,if_neg h2]
       simp [pT,fT,bT,pU]
def itO {S:Type} (p:List Int) (i:Nat):List (Bool × List (Fx S)):=if co p i=0 then []else [(decide (co p i<0),trm (co p i).natAbs i)]
def itF {S:Type} (p:List Int):Nat->List (Bool × List (Fx S))
 | 0=>[]
 | k+1=>itF p k++itO p (p.length-1-k)
def plF {S:Type} (p:List Int):List (Bool × List (Fx S)):=if p=[]then [(false,[(.num 0,none)])]else itF p p.length
theorem Mj {S:Type}{st:S->List Nat}:∀ {s:List (Bool × List (Fx S))}{e:Bool × List (Fx S)},s≠ []->sT st (s++ [e])=sT st s++(sg e.1::pT st e.2)
 | [],_,h=>absurd rfl h
 | a::r,e,_=>by
   show(if a.1 then [45]else [])++(pT st a.2++sU st (r++ [e]))=(if a.1 then [45]else [])++(pT st a.2++sU st r)++_
   have:sU st (r++ [e])=sU st r++(sg e.1::pT st e.2):=by
    unfold sU
    rw [List.flatMap_append]
    simp
   rw [this]
   simp
theorem Ado {S:Type}{st:S->List Nat}{e:Bool × List (Fx S)}{r:List (Bool × List (Fx S))}:sT st (e::r)=if e.1 then sU st (e::r)else(sU st (e::r)).drop 1:=by
 obtain⟨g,p⟩:=e
 cases g
 . show []++(pT st p++sU st r)=(43::pT st p++sU st r).drop 1
   simp
 . show [45]++(pT st p++sU st r)=45::pT st p++sU st r
   simp
theorem Adz (w k:Nat):tmT w k≠ []:=by
 unfold tmT
 split
 . exact N8 w
 . split<;>split<;>simp
theorem Aba {S:Type}{st:S->List Nat}{p:List Int}:∀ {k:Nat},(itF p k:List (Bool × List (Fx S)))≠ []->sT st (itF p k)≠ []
 | 0,h=>absurd rfl h
 | k+1,h=>by
   show sT st (itF p k++itO p (p.length-1-k))≠ []
   have h':itF p k++itO p (p.length-1-k)≠([]:List (Bool × List (Fx S))):=h
   unfold itO at h' ⊢
   by_cases d:co p (p.length-1-k)=0
   . rw [if_pos d,append_nil]at h' ⊢
     exact Aba h'
   . rw [if_neg d]at h' ⊢
     by_cases h1:itF p k=([]:List (Bool × List (Fx S)))
     . rw [h1]
       show(if _ then [45]else [])++(pT st _++_)≠ []
       rw [Qo]
       intro z
       exact Adz _ _ (List.append_eq_nil_iff.mp (List.append_eq_nil_iff.mp z).2).1
     . rw [Mj h1]
       simp
def mono (w:Int) (i:Nat):List Int:=replicate i 0++ [w]
theorem J9 (w:Int) (i j:Nat):co (mono w i) j=if j=i then w else 0:=by
 unfold mono
 rw [J7,length_replicate]
 by_cases h:j=i
 . rw [if_pos h,if_pos h]
 . rw [if_neg h,if_neg h]
   unfold co
   rw [getD_eq_getElem?_getD,getElem?_replicate]
   split<;>rfl
theorem Q9 {w:Int} (h:w≠0) (i:Nat):Tr (mono w i):= .inr ⟨by simp [mono],by simpa [mono]using h⟩
theorem Lh {w:Int}{i:Nat} (h:i<=16) (y:w.natAbs<10^60):Bnd (mono w i):=by
 refine⟨by simp [mono];omega,fun x d=> ?_⟩
 rcases mem_append.mp d with d | d
 . rw [(List.mem_replicate.mp d).2]
   decide
 . rw [mem_singleton.mp d]
   exact y
theorem Aan (w:Int) (f:Nat->Int):∀(i j:Nat),mu (mono w i) f j=if i<=j then w*f (j-i)else 0:=by
 intro i
 induction i with
 | zero=>
   intro j
   show w*f j+sh (mu [] f) j=_
   have:sh (mu [] f) j=0:=by
    show sh (fun _=>0) j=0
    rw [Mw]
   rw [this,if_pos (zero_le _),sub_zero,add_zero]
 | succ i d=>
   intro j
   show 0*f j+sh (mu (mono w i) f) j=_
   rw [Int.zero_mul,Int.zero_add]
   cases j with
   | zero=>rfl
   | succ j=>
     show mu (mono w i) f j=_
     rw [d j,show j+1-(i+1)=j-i by omega]
     by_cases h:i<=j
     . rw [if_pos h,if_pos (by omega)]
     . rw [if_neg h,if_neg (by omega)]
theorem Ou {v w:Int} (d:v≠0) (y:w≠0) (i j:Nat):tm (mono v i) (mono w j)=mono (v*w) (i+j):=by
 refine(Ov _ _).ext (Q9 (Int.mul_ne_zero d y) _) fun k=> ?_
 rw [Nh,Aan,J9,J9]
 by_cases h:i<=k
 . rw [if_pos h]
   by_cases h2:k-i=j
   . rw [if_pos h2,if_pos (by omega)]
   . rw [if_neg h2,if_neg (by omega),mul_zero]
 . rw [if_neg h,if_neg (by omega)]
theorem Adl:∀ {k:Nat},k<=16->pwb [0,1] k=some (mono 1 k)
 | 0,_=>rfl
 | k+1,h=>by
   rw [pwb,Adl (by omega)]
   show bd (tm (mono 1 k) (mono 1 1))=_
   rw [Ou (by decide) (by decide)]
   exact Qy (Lh h (by decide))
theorem Agp {S:Type}{sv:S->Option (List Int)}{w k:Nat} (Y:w≠0) (I:w<10^60) (F:k<=16):pV sv (trm w k)=some (mono (w:Int) k):=by
 have G:(w:Int)≠0:=by omega
 have U:Bnd (mono (w:Int) 0):=Lh (zero_le _) I
 have L:([1]:List Int)=mono 1 0:=rfl
 have M:bV sv (.num w:Bx S)=some (mono (w:Int) 0):=by
  show some (trim (mono (w:Int) 0))=_
  rw [Ow (Q9 G 0)]
 have d:bd (tm [1] (mono (w:Int) 0))=some (mono (w:Int) 0):=by
  rw [L,Ou (by decide) G,Int.one_mul]
  exact Qy U
 have ex:fV sv ((.x,if k=1 then none else some k):Fx S)=some (mono 1 k)\/k=0:=by
  by_cases y:k=0
  . exact .inr y
  . refine .inl ?_
    by_cases O:k=1
    . subst O
      rfl
    . rw [if_neg O]
      exact Adl F
 unfold trm
 by_cases y:k=0
 . subst y
   rw [if_pos rfl]
   show pS sv (some [1]) (.num w,none)=_
   unfold pS fV
   simp only [bind_some,M,d]
 . rw [if_neg y]
   have ex:=ex.resolve_right y
   by_cases h1:w=1
   . subst h1
     rw [if_pos rfl]
     show pS sv (some [1]) _=_
     unfold pS
     simp only [bind_some,ex]
     rw [L,Ou (by decide) (by decide),zero_add]
     exact Qy (Lh F (by decide))
   . rw [if_neg h1]
     show pS sv (pS sv (some [1]) (.num w,none)) _=_
     have W:pS sv (some [1]) ((.num w,none):Fx S)=some (mono (w:Int) 0):=by
      unfold pS fV
      simp only [bind_some,M,d]
     rw [W]
     unfold pS
     simp only [bind_some,ex]
     rw [Ou G (by decide),zero_add,mul_one]
     exact Qy (Lh F I)
def hiP (p:List Int) (m:Nat):List Int:=if p.length<=m then []else replicate m 0++p.drop m
theorem Vk (p:List Int) (m i:Nat):co (hiP p m) i=if m<=i then co p i else 0:=by
 unfold hiP
 by_cases h:p.length<=m
 . rw [if_pos h,Jr]
   by_cases hi:m<=i
   . rw [if_pos hi,Eu (by omega)]
   . rw [if_neg hi]
 . rw [if_neg h]
   unfold co
   rw [getD_eq_getElem?_getD]
   by_cases hi:m<=i
   . rw [if_pos hi,getElem?_append_right (by rw [length_replicate];exact hi),length_replicate,List.getElem?_drop,show m+(i-m)=i by omega,getD_eq_getElem?_getD]
   . rw [if_neg hi,getElem?_append_left (by rw [length_replicate];omega),getElem?_replicate,if_pos (by omega)]
     rfl
theorem Aac (p:List Int) (m:Nat):(hiP p m).length<=p.length:=by
 unfold hiP
 split
 . simp
 . simp
   omega
theorem Vl {p:List Int} (h:Tr p) (m:Nat):Tr (hiP p m):=by
 unfold hiP
 by_cases d:p.length<=m
 . rw [if_pos d]
   exact .inl rfl
 . rw [if_neg d]
   have y:p≠ []:=fun z=>d (by rw [z];exact zero_le _)
   refine .of (.inr ?_)
   have e:=Vk p m (p.length-1)
   unfold hiP at e
   rw [if_neg d,if_pos (by omega)]at e
   have F:(replicate m 0++p.drop m).length=p.length:=by
    rw [length_append,length_replicate,length_drop]
    omega
   rw [F,e]
   exact h.lead y
theorem Aab {p:List Int} (h:Bnd p) (m:Nat):Bnd (hiP p m):=by
 refine⟨le_trans (Aac p m) h.1,fun w d=> ?_⟩
 unfold hiP at d
 split at d
 . cases d
 . rcases mem_append.mp d with d | d
   . rw [(List.mem_replicate.mp d).2]
     decide
   . exact h.2 w (List.mem_of_mem_drop d)
theorem Acg {S:Type}{sv:S->Option (List Int)}{p:List Int} (h:Bt p):∀ {k:Nat},k<=p.length->(itF p k).foldl (sS sv) (some [])=some (hiP p (p.length-k))
 | 0,_=>by
   show some []=some (hiP p p.length)
   unfold hiP
   rw [if_pos (le_refl _)]
 | k+1,hk=>by
   show(itF p k++itO p (p.length-1-k)).foldl (sS sv) (some [])=_
   rw [foldl_append,Acg h (by omega)]
   have G:p.length-(k+1)=p.length-1-k:=by omega
   rw [G]
   have hi:p.length-1-k<=16:=by have:=h.2.1;omega
   have d:∀i,co (hiP p (p.length-1-k)) i=co (hiP p (p.length-k)) i+co (mono (co p (p.length-1-k)) (p.length-1-k)) i:=fun i=>by
    rw [Vk,Vk,J9]
    by_cases h1:i=p.length-1-k
    . rw [if_pos (by omega),if_neg (by omega),if_pos h1,h1,Int.zero_add]
    . rw [if_neg h1,add_zero]
      by_cases h2:p.length-k<=i
      . rw [if_pos h2,if_pos (by omega)]
      . rw [if_neg h2,if_neg (by omega)]
   unfold itO
   by_cases y:co p (p.length-1-k)=0
   . rw [if_pos y]
     show some (hiP p (p.length-k))=_
     congr 1
     refine(Vl h.1 _).ext (Vl h.1 _) fun i=> ?_
     rw [d,y,J9]
     split<;>simp
   . rw [if_neg y]
     have I:(co p (p.length-1-k)).natAbs<10^60:=by
      rw [Du (by omega)]
      exact h.2.2 _ (getElem_mem _)
     show sS sv (some (hiP p (p.length-k))) _=_
     unfold sS
     simp only [bind_some,Agp (Int.natAbs_ne_zero.mpr y) I hi]
     have e:sgn (decide (co p (p.length-1-k)<0)) (mono ((co p (p.length-1-k)).natAbs:Int) (p.length-1-k))=mono (co p (p.length-1-k)) (p.length-1-k):=by
      unfold sgn
      by_cases F:co p (p.length-1-k)<0
      . rw [decide_eq_true F,if_pos rfl]
        refine(Ej _).ext (Q9 y _) fun i=> ?_
        show co (ng _ (-1)) i=_
        rw [V5,J9,J9]
        split<;>omega
      . rw [decide_eq_false F,if_neg (by decide),show((co p (p.length-1-k)).natAbs:Int)=co p (p.length-1-k)by omega]
     rw [e]
     have L:ta (hiP p (p.length-k)) (mono (co p (p.length-1-k)) (p.length-1-k))=hiP p (p.length-1-k):=(Qn _ _).ext (Vl h.1 _) fun i=>by rw [Rx,d]
     rw [L]
     exact Qy (Aab h.2 _)
theorem Afy {S:Type}{sv:S->Option (List Int)}{p:List Int} (h:Bt p):sV sv (plF p)=some p:=by
 unfold plF sV
 by_cases d:p=[]
 . rw [if_pos d,d]
   rfl
 . rw [if_neg d,Acg h (le_refl _),sub_self]
   congr 1
   unfold hiP
   rw [if_neg (by have:=length_pos_iff.mpr d;omega)]
   simp
theorem Acf {S:Type}{so:S->Prop}{p:List Int} (h:Bt p):∀ {k:Nat},∀e∈(itF p k:List (Bool × List (Fx S))),pO so e.2
 | 0,_,d=>by cases d
 | k+1,e,d=>by
   rcases mem_append.mp (show e∈itF p k++itO p (p.length-1-k)from d)with d | d
   . exact Acf h e d
   . unfold itO at d
     by_cases F:co p (p.length-1-k)=0
     . rw [if_pos F]at d
       cases d
     . rw [if_neg F,mem_singleton]at d
       have M:p.length-1-k<p.length:=by
        by_cases O:p.length=0
        . rw [List.length_eq_zero_iff.mp O,Jr]at F
          exact absurd rfl F
        . omega
       have I:(co p (p.length-1-k)).natAbs<10^60:=by
        rw [Du M]
        exact h.2.2 _ (getElem_mem _)
       have U:=h.2.1
       rw [d]
       show pO so (trm _ _)
       unfold trm
       by_cases L:p.length-1-k=0
       . rw [if_pos L]
         refine⟨by simp,fun f y=> ?_⟩
         rw [mem_singleton.mp y]
         exact⟨I,fun _ e=>by cases e⟩
       . rw [if_neg L]
         refine⟨by simp,fun f y=> ?_⟩
         rcases mem_append.mp y with y | y
         . split at y
           . cases y
           . rw [mem_singleton.mp y]
             exact⟨I,fun _ e=>by cases e⟩
         . rw [mem_singleton.mp y]
           refine⟨trivial,fun m e=> ?_⟩
           have G:(if p.length-1-k=1 then none else some (p.length-1-k))=some m:=e
           split at G
           . cases G
           . cases G
             omega
theorem Sq {S:Type}{p:List Int} (h:Tr p) (d:p≠ []):∀ {k:Nat},1<=k->(itF p k:List (Bool × List (Fx S)))≠ []
 | 0,h=>absurd h (by decide)
 | 1,_=>by
   show []++itO p (p.length-1-0)≠ []
   unfold itO
   rw [sub_zero,if_neg (h.lead d)]
   simp
 | k+2,_=>by
   show itF p (k+1)++_≠ []
   intro z
   exact Sq h d (by omega) (List.append_eq_nil_iff.mp z).1
theorem Afx {S:Type}{so:S->Prop}{p:List Int} (h:Bt p):sO so (plF p):=by
 unfold plF
 by_cases d:p=[]
 . rw [if_pos d]
   refine⟨by simp,fun e y=> ?_⟩
   rw [mem_singleton.mp y]
   refine⟨by simp,fun f F=> ?_⟩
   rw [mem_singleton.mp F]
   exact⟨by show 0<10^60;decide,fun _ e=>by cases e⟩
 . rw [if_neg d]
   exact⟨Sq h.1 d (length_pos_iff.mpr d),fun e y=>Acf h e y⟩
theorem W3 {w k:Nat} (d:w<10^60) (y:k<=16):(tmT w k).length<=65:=by
 have F:=Fg d (by decide)
 have G:(dg k).length<=2:=Fg (show k<10^2 by omega) (by decide)
 unfold tmT
 split
 . omega
 . rw [length_append]
   have h1:(if w=1 then([]:List Nat)else dg w++ [42]).length<=61:=by
    split
    . exact zero_le _
    . rw [length_append,length_singleton]
      omega
   have h2:(if k=1 then [120]else 120::94::dg k).length<=4:=by
    split
    . decide
    . rw [length_cons,length_cons]
      omega
   omega
theorem Vs {p:List Int} (h:Bt p) {i:Nat} (hi:i<p.length):(co p i).natAbs<10^60/\i<=16:=by
 refine⟨?_,by have:=h.2.1;omega⟩
 rw [Du hi]
 exact h.2.2 _ (getElem_mem _)
theorem Ob {S:Type}{st:S->List Nat}{p:List Int} (h:Bt p):∀ {k:Nat},k<=p.length->(sT st (itF p k)).length<=66*k
 | 0,_=>zero_le _
 | k+1,hk=>by
   have G:=Ob (st:=st) h (k:=k) (by omega)
   show(sT st (itF p k++itO p (p.length-1-k))).length<=_
   obtain⟨y,F⟩:=Vs h (i:=p.length-1-k) (by omega)
   unfold itO
   by_cases d:co p (p.length-1-k)=0
   . rw [if_pos d,append_nil]
     omega
   . rw [if_neg d]
     have lt:=W3 y F
     by_cases h1:itF p k=([]:List (Bool × List (Fx S)))
     . rw [h1]
       show((if decide (co p (p.length-1-k)<0)then [45]else [])++(pT st (trm _ _)++ [])).length<=_
       rw [Qo,length_append,append_nil]
       have:(if decide (co p (p.length-1-k)<0)then [45]else([]:List Nat)).length<=1:=by split<;>decide
       omega
     . rw [Mj h1,Qo,length_append,length_cons]
       omega
end Z
namespace Z
open PySem L2
theorem abs_eq (i:Int):(if i<0 then-i else i)=((i.natAbs:Nat):Int):=by
 split<;>omega
theorem Sg (x y:Nat):Nat.gcd y (x%y)=Nat.gcd x y:=by
 rw [Nat.gcd_comm,<-Nat.gcd_rec,Nat.gcd_comm]
theorem at0 {α:Type} (x:α) (r:List α):atI (x::r) 0=some x:=Dl (j:=0) rfl
theorem at1 {α:Type} (x y:α) (r:List α):atI (x::y::r) 1=some y:=Dl (j:=1) rfl
local macro_rules | `(tactic| done)=> `(tactic| simp only [Ahi,Aep,Ag4,Ahh,Ad8,Agr,Abp,Ahf,Aet,Aeu,z_c,Ahd,Ai4,Aim,Ahg,Ain,Agv,Ag9,Agu,Ag8,Xa,Aiz,Agy,Ag0,Agx,Ad9,Aea,Ahc,Agq,Ail,Ad3,Ahe,Aij,Ad4,Ahb,Ad6,Aii,Ahn,Ag7,Ad5,Aes,Abq,Ael,Ag1,Ag5,Ag6,Ag2,Aio,Yv,Aer,Ags,Aih,Agt,Aeq,Ag3,Aei,Aeb,Aej,Ad7,Agz,Abr,cpσ,List.getElem?_cons_zero,List.getElem?_cons_succ,Option.join_some,List.set_cons_zero,List.set_cons_succ,append_nil,decide_eq_true_eq,Bool.not_eq_true',decide_eq_false_iff_not,not_not,ite_not,Bool.false_eq_true,Bool.true_eq_false,if_false,if_true,if_pos,length_cons,length_nil,zero_add,Nat.reduceAdd,Adw,Adx,true_and,and_true,L2.start,map_cons,map_nil,Bool.not_true,Bool.not_false,Nat.reduceSub,replicate_succ,List.replicate_zero,cons_append,List.nil_append,Agw,Aha,Aec,Aed,Aee,Aef,Aeg,Aeh,Ahm,Aik,Aem,Aen,Aeo,Ahj,Ahk,Aek,Aip,Aiq,Air,Ais,Ait,Aiu,Aiv,Aiw,Aix,Aiy,Ai0,Ai1,Ai2,Ai3,K6,Aaq,Uz])
def top (i:Nat):Stmt:=PySem.Challenge.pw_rootcourt_k77_polynomials_written.main.body.getD i (.Pass ⟨0,0,0,0⟩)
theorem Cp {N P:List Str}{sc:Scope} (h1:sc.kind= .function:=by rfl) (h2:sc.isCoroutine=false:=by rfl) (d:sc.isGenerator=false:=by rfl) (F:N.Nodup:=by decide+kernel) (G:N.take P.length=P:=by rfl) (I:∀x∈P,sc.names.lookup x=some .local \/sc.names.lookup x=some .cell:=by decide+kernel) (L:∀y∈sc.names,y.2≠ .free:=by decide+kernel):Bc N P sc:=⟨h1,h2,d,F,G,I,L⟩
abbrev Ml:Stmt:=top 6
theorem Il:Bc ["one","other","greater","lesser"] ["one","other"] (Ar Ml):=Cp
abbrev Kd:Stmt:=top 8
theorem Ji:Bc ["top","bottom","shared"] ["top","bottom"] (Ar Kd):=Cp
abbrev Wv:Stmt:=top 10
theorem Rr:Bc ["weights","length"] ["weights"] (Ar Wv):=Cp
abbrev Oh:Stmt:=top 11
theorem Ww:Bc ["one"] ["one"] (Ar Oh):=Cp
abbrev Lk:Stmt:=top 12
theorem Ey:Bc ["one","other","weights","place","weight"] ["one","other"] (Ar Lk):=Cp
abbrev Mp:Stmt:=top 13
theorem Uw:Bc ["one","other"] ["one","other"] (Ar Mp):=Cp
abbrev Mq:Stmt:=top 14
theorem Fw:Bc ["one","other","weights","place","weight","further","factor"] ["one","other"] (Ar Mq):=Cp
abbrev Ln:Stmt:=top 15
theorem Wx:Bc ["one","factor"] ["one","factor"] (Ar Ln):=Cp
abbrev Gf:Stmt:=top 22
theorem Fb:Bc ["r","top","bottom"] ["r"] (Ar Gf):=Cp
abbrev Hh:Stmt:=top 23
theorem Kw:Bc ["p","shown"] ["p"] (Ar Hh):=Cp
abbrev Jh:Stmt:=top 24
theorem Gm:Bc ["weight","many","ahead","size","raised_x"] ["weight","many"] (Ar Jh):=Cp
abbrev Gd:Stmt:=top 25
theorem Bw:Bc ["text","size","found","top","slash","bottom"] ["text"] (Ar Gd):=Cp
abbrev Ge:Stmt:=top 26
theorem Ld:Bc ["fits"] ["fits"] (Ar Ge):=Cp
abbrev Fq:Stmt:=top 27
theorem Ng:Bc ["text"] ["text"] (Ar Fq):=Cp
abbrev Jg:Stmt:=top 28
theorem Hy:Bc ["text","terms","place"] ["text"] (Ar Jg):=Cp
abbrev Ik:Stmt:=top 29
theorem Di:Bc ["text","start","depth","ahead","terms","product","place"] ["text","start","depth"] (Ar Ik):=Cp
abbrev Mu:Stmt:=top 30
theorem Ux:Bc ["text","place"] ["text","place"] (Ar Mu):=Cp
abbrev En:Stmt:=top 31
theorem Cv:Bc ["text","start","depth","found","factor","place"] ["text","start","depth"] (Ar En):=Cp
abbrev Ft:Stmt:=top 32
theorem Dw:Bc ["text","start","depth","base","place","many"] ["text","start","depth"] (Ar Ft):=Cp
abbrev G9:Stmt:=top 33
theorem Ew:Bc ["text","start","depth","terms","place","found"] ["text","start","depth"] (Ar G9):=Cp
abbrev Hf:Stmt:=top 34
theorem Gu:Bc ["text","start","place"] ["text","start"] (Ar Hf):=Cp
abbrev Eo:Stmt:=top 35
theorem Ci:Bc ["terms","total","ahead","product","part"] ["terms"] (Ar Eo):=Cp
abbrev Dn:Stmt:=top 36
theorem Cg:Bc ["pairs","product","base","many"] ["pairs"] (Ar Dn):=Cp
abbrev Dy:Stmt:=top 37
theorem Cw:Bc ["base","many","one","product","time"] ["base","many"] (Ar Dy):=Cp
abbrev Ju:Stmt:=top 38
theorem Uv:Bc ["p"] ["p"] (Ar Ju):=Cp
abbrev Mr:Stmt:=top 41
theorem Kg:Bc ["_law_draw","_law_k","_law_mix"] ["_law_draw","_law_k"] (Ar Mr):=Cp
abbrev Oj:Stmt:=top 42
theorem Qf:Bc ["_law_source_here","_law_many","_law_found"] ["_law_source_here","_law_many"] (Ar Oj):=Cp
abbrev Kf:Stmt:=top 43
theorem Rt:Bc ["_law_draw"] ["_law_draw"] (Ar Kf):=Cp
abbrev Ol:Stmt:=top 44
theorem Jx:Bc ["_law_source_here","_law_most","_law_weights","_law_k","_law_way"] ["_law_source_here","_law_most"] (Ar Ol):=Cp
abbrev Oo:Stmt:=top 45
theorem Jy:Bc ["_law_weight","_law_at","_law_text_here"] ["_law_weight","_law_at"] (Ar Oo):=Cp
abbrev Oq:Stmt:=top 46
theorem Gg:Bc ["_law_p","_law_text_here","_law_k","_law_at"] ["_law_p"] (Ar Oq):=Cp
abbrev Ke:Stmt:=top 47
theorem Mv:Bc ["_law_one","_law_other"] ["_law_one","_law_other"] (Ar Ke):=Cp
abbrev Hx:Stmt:=top 48
theorem Fv:Bc ["_law_source_here","_law_top","_law_bottom","_law_by"] ["_law_source_here"] (Ar Hx):=Cp
abbrev Ei:Stmt:=top 49
theorem Dh:Bc ["_law_r","_law_text_here","_law_found"] ["_law_r"] (Ar Ei):=Cp
abbrev Ms:Stmt:=top 50
theorem Nq:Bc ["_law_weights","_law_found"] ["_law_weights"] (Ar Ms):=Cp
abbrev Hg:Stmt:=top 51
theorem Kv:Bc ["_law_weights","_law_found"] ["_law_weights"] (Ar Hg):=Cp
abbrev Jv:Stmt:=top 52
theorem Im:Bc ["_law_p","_law_q","_law_by","_law_many","_law_mine","_law_yours"] ["_law_p","_law_q","_law_by"] (Ar Jv):=Cp
abbrev Jf:Stmt:=top 53
theorem Ef:Bc ["_law_p","_law_q","_law_found","_law_k","_law_one","_law_j","_law_other"] ["_law_p","_law_q"] (Ar Jf):=Cp
abbrev Mt:Stmt:=top 54
theorem Io:Bc ["_law_p","_law_many","_law_found","_law_k"] ["_law_p","_law_many"] (Ar Mt):=Cp
abbrev Ij:Stmt:=top 55
theorem Cm:Bc ["_law_source_here","_law_deep","_law_way","_law_text_here","_law_many","_law_p","_law_amount"] ["_law_source_here","_law_deep"] (Ar Ij):=Cp
abbrev Om:Stmt:=top 56
theorem Dt:Bc ["_law_source_here","_law_deep","_law_text_here","_law_found","_law_k","_law_taken","_law_more","_law_p","_law_other","_law_q"] ["_law_source_here","_law_deep"] (Ar Om):=Cp
abbrev Oi:Stmt:=top 57
theorem Jw:Bc ["_law_script","_law_draw","_law_deep","_law_source_here","_law_p","_law_found","_law_text_here","_law_due"] ["_law_script"] (Ar Oi):=Cp
section
variable {P:Program}{w:World}{K:Frag}{mg:Str->Option Value}{base:Heap}
theorem Qz {x:Int} (h:x.natAbs<2^60):Builtin.Int.intBits x<=64:=le_trans (PySem.intBits_le_iff.mpr h) (by decide)
def Src (H:Hp) (l:Addr) (c:Nat):Prop:=∃(x y z:Int) (k:Nat),H l=some (.lst [.int x,.int y,.int (k:Nat),.int z])/\k<=c
def Sx (l:Addr) (H H':Hp):Prop:=∀b o,b≠l->H b=some o->H' b=some o
theorem Sx.of {l:Addr}{H H':Hp} (s:Same H H'):Sx l H H':=fun b o _ e=>s b o e
theorem Sx.refl (l:Addr) (H:Hp):Sx l H H:=fun _ _ _ e=>e
theorem Sx.trans {l:Addr}{H H1 H2:Hp} (a:Sx l H H1) (b:Sx l H1 H2):Sx l H H2:=fun c o n e=>b c o n (a c o n e)
theorem Sx.same {l:Addr}{H H1 H2:Hp} (a:Sx l H H1) (b:Same H1 H2):Sx l H H2:=a.trans (.of b)
theorem Src.same {H H':Hp}{l:Addr}{c:Nat} (h:Src H l c) (s:Same H H'):Src H' l c:=by
 obtain⟨x,y,z,k,e,n⟩:=h
 exact⟨x,y,z,k,s _ _ e,n⟩
theorem Src.up {H:Hp}{l:Addr}{c d:Nat} (h:Src H l c) (n:c<=d):Src H l d:=by
 obtain⟨x,y,z,k,e,m⟩:=h
 exact⟨x,y,z,k,e,by omega⟩
theorem Src.lst {H:Hp}{l:Addr}{c:Nat} (h:Src H l c):∃d,H l=some (.lst d):=by
 obtain⟨x,y,z,k,e,_⟩:=h
 exact⟨_,e⟩
def M4 (K:Frag):Sp:=fun vs H Q _=>∃c:Int,vs=[.int c]/\∀z H',H z=none->Same H H'->Src H' z 0->Q (.ref z) H'
theorem Rg {f:Addr}{fd:FuncData} (F:Df K mg "_law_source" Kf ["_law_draw"] f fd)     :Cal P w K mg base 33 "_law_source" ["_law_draw"] (M4 K):=by
 refine F.cal (F.fn.ok Rt (fun y H Q E h=> ?_) (fun G A outer s H y Q E I h=> ?_))
 . obtain⟨c,rfl,_⟩:=h
   rfl
 obtain⟨c,rfl,k⟩:=h
 refine Av ⟨_,(Af (Al (Bu (Aa (Ag Li (Ae 0) Ad) (Aa (Ag Iw (Ae 0) Ad) (Aa Ad (Aa (Ae 0) Ab))))))),?_⟩
 done
 exact⟨⟨by decide,by decide⟩,by decide,by decide,fun p d=>k p _ d (Same.upd d _) ⟨_,_,_,0,Ah,le_refl _⟩⟩
def Ko (K:Frag):Sp:=fun vs H Q _=>∃(c:Int) (k:Nat),vs=[.int c,.int (k:Nat)]/\k<2^20/\∀r:Int,Q (.int r) H
theorem Ul {f:Addr}{fd:FuncData} (F:Df K mg "_law_mixed" Mr ["_law_draw","_law_k"] f fd)     :Cal P w K mg base 33 "_law_mixed" ["_law_draw","_law_k"] (Ko K):=by
 refine F.cal (F.fn.ok Kg (fun y H Q E h=> ?_) (fun G A outer s H y Q E U h=> ?_))
 . obtain⟨c,k,rfl,_⟩:=h
   rfl
 obtain⟨c,k,rfl,W,q⟩:=h
 refine Av ⟨_,(Ac (Am 2 Kg.nd (Ag Iw (Ag Gb (Ag Bv (Ag Bv (Ag Iw (Ae 0) Ad) (Ag Gb Ad (Ae 1))) Ad) (Ag Bv Ad (Ag Gb Ad (Ae 1)))) Ad))
  (Ac (Am 2 Kg.nd (Ag Iw (Ag Gb (Ae 2) (Ag Bv (Ag Li (Ae 2) Ad) Ad)) Ad))
  (Af (Al (Ag Iw (Ag Gb (Ae 2) (Ag Bv (Ag Bv (Ag Li (Ae 2) Ad) Ad) (Ae 1))) Ad))))),?_⟩
 done
 refine⟨by decide,.of_left (Qz (by decide)),.of_left (Qz (by decide)),.of_right (Qz (by omega)),by decide,?_⟩
 generalize (c%2147483629+69621*(k:Int)+1)*(48271+2*(k:Int))=a
 have I:=emod_nonneg a (show(2147483629:Int)≠0 by decide)
 have L:=emod_lt_of_pos a (show(0:Int)<2147483629 by decide)
 generalize a%2147483629=b at I L
 refine⟨⟨by decide,by decide⟩,.of_left (Qz (by omega)),by decide,?_⟩
 generalize b*(b/1009+69621)=d
 have M:=emod_nonneg d (show(2147483629:Int)≠0 by decide)
 have O:=emod_lt_of_pos d (show(0:Int)<2147483629 by decide)
 generalize d%2147483629=e at M O
 exact⟨⟨by decide,by decide⟩,.of_left (Qz (by omega)),by decide,q _⟩
def Gi (K:Frag):Sp:=fun vs H Q _=>∃(l:Addr) (m:Int) (c:Nat),vs=[.ref l,.int m]/\Src H l c/\c<100000/\0<m/\m<2^210/\∀r H',0<=r->r<m->Sx l H H'->Src H' l (c+1)->Q (.int r) H'
theorem V9 {f:Addr}{fd:FuncData} (F:Df K mg "_law_next" Oj ["_law_source_here","_law_many"] f fd)    (d:Cal P w K mg base 33 "_law_mixed" ["_law_draw","_law_k"] (Ko K)):Cal P w K mg base 34 "_law_next" ["_law_source_here","_law_many"] (Gi K):=by
 refine F.cal (F.fn.ok Qf (fun U H Q E h=> ?_) (fun W A outer s H U Q E Y h=> ?_))
 . obtain⟨l,m,c,rfl,_⟩:=h
   rfl
 obtain⟨l,m,c,rfl,⟨x,y,z,j,G,jc⟩,hc,I,m1,k⟩:=h
 refine Av ⟨_,(Ac (Bb (Dc (Eh (Aj Ds (Bf Dd (Ae 0) Ad (fun _ _=>rfl)) Ad (Aw _)) (Ec (Aj Lb (Bf Dd (Ae 0) Ad (fun _ _=>rfl)) Ad (Aw _))))) (Ac (Am 2 Qf.nd (Ag Iw (Bf Dd (Ae 0) Ad (fun _ _=>rfl)) (Ae 1)))
  (Ac (Bm (Ag Li (Bf Dd (Ae 0) Ad (fun _ _=>rfl)) (Ae 1)) (Gy (Ae 0) Ad set_list))
  (Af (Al (Ae 2))))) Ay)
  (Ac (Bm (Ag Bv (Bf Dd (Ae 0) Ad (fun _ _=>rfl)) Ad) (Gy (Ae 0) Ad set_list))
  (Af (Al (Ag Iw (Ai d Y (Aa (Bf Dd (Ae 0) Ad (fun _ _=>rfl)) (Aa (Bf Dd (Ae 0) Ad (fun _ _=>rfl)) Ab))) (Ae 1)))))),?_⟩
 done
 refine Hq (.of G) (v:= .int y) (at1 _ _ _) ?_
 try done
 have el:Abw K (.ref l) (.int 2) H fun x H1=>rI0 (fun i j=>V.int (i+j)) x (V.int 1) H1 fun x H1=>Aa9 (V.ref l) (V.int 2) x H1 fun Z=>Abw K (V.ref l) (V.int 3) Z fun x H1=>Abw K (V.ref l) (V.int 2) H1 fun L H1=>Ko K [x,L] H1 (fun x H1=>rI (fun x j=>0<j) (fun i j=>V.int (i%j)) x (V.int m) H1 Q) E0:=by
  refine Hq (.of G) (v:= .int (j:Nat)) (Dl (j:=2) rfl) ?_
  try done
  refine Ua (j:=2) G (by simp) ?_
  refine Hq (.of Ah) (v:= .int z) (Dl (j:=3) rfl) ?_
  refine Hq (.of Ah) (v:= .int ((j:Nat)+1)) (Dl (j:=2) rfl) ?_
  refine⟨z,j+1,by rw [natCast_add];rfl,by omega,fun r=> ?_⟩
  try done
  refine⟨I,k _ _ (emod_nonneg _ (by omega)) (emod_lt_of_pos _ I) (fun b o n e=>by rw [Bl n];exact e) ⟨x,y,z,j+1,Ah,by omega⟩⟩
 by_cases M:y=0
 . rw [if_pos M]
   refine Hq (.of G) (v:= .int x) (at0 _ _) ?_
   try done
   by_cases O:1<x
   . rw [if_pos O]
     refine Hq (.of G) (v:= .int x) (at0 _ _) ?_
     try done
     refine⟨I,Hq (.of G) (v:= .int x) (at0 _ _) ?_⟩
     try done
     refine⟨⟨I,Sz.log2 (n:=210) (by unfold Sz;omega) (by omega) (by decide)⟩,Ua (j:=0) G (by simp) ?_⟩
     exact k _ _ (emod_nonneg _ (by omega)) (emod_lt_of_pos _ I) (fun b o n e=>by rw [Bl n];exact e) ⟨x/m,y,z,j,Ah,by omega⟩
   . rw [if_neg O]
     exact el
 . rw [if_neg M]
   exact el
def Ca (K:Frag):Sp:=fun vs H Q _=>vs=[.bl true]/\Q .non H
theorem K9 {f:Addr}{fd:FuncData} (F:Df K mg "refuse_unless" Ge ["fits"] f fd)     :Cal P w K mg base 33 "refuse_unless" ["fits"] (Ca K):=by
 refine F.cal (F.fn.ok Ld (fun d H Q E h=> ?_) (fun y A outer s H d Q E G h=> ?_))
 . obtain⟨rfl,_⟩:=h
   rfl
 obtain⟨rfl,q⟩:=h
 refine Av ⟨_,(Af (Bb (Jq (Ck (Ae 0))) (Af G7) Ay)),?_⟩
 done
 exact q
theorem Z2 {l:List Nat}{a:Nat}:R7 l (some (a:Int)) (some ((a:Int)+1))=(l.drop a).take 1:=by
 unfold R7
 rw [show((a:Int)+1)=((a+1:Nat):Int)by omega,HT.Kc,HT.Kc]
 by_cases h:a<l.length
 . rw [min_eq_left (by omega),min_eq_left (by omega),show a+1-a=1 by omega]
 . rw [Nat.min_eq_right (by omega),Nat.min_eq_right (by omega),drop_eq_nil_of_le (by omega),drop_eq_nil_of_le (by omega)]
   simp
theorem Z4 {l:List Nat}{a b:Nat} (h:b<=l.length):R7 l (some (a:Int)) (some (b:Int))=(l.drop a).take (b-a):=by
 unfold R7
 rw [HT.Kc,HT.Kc,min_eq_left h]
 by_cases h:a<=l.length
 . rw [min_eq_left h]
 . rw [Nat.min_eq_right (by omega),drop_eq_nil_of_le (by omega),drop_eq_nil_of_le (by omega)]
   simp
theorem R8 {l:List Nat}:R7 l (some 1) none=l.drop 1:=by
 unfold R7
 rw [show(1:Int)=((1:Nat):Int)from rfl,HT.Kc,HT.Te]
 cases l with
 | nil=>rfl
 | cons c l=>
   rw [min_eq_left (by simp)]
   exact take_of_length_le (by simp)
def El (K:Frag):Sp:=fun vs H Q _=>∃(l:List Nat) (a:Nat),vs=[.str (tx l),.int (a:Nat)]/\l.length<=400/\Q (.str (tx ((l.drop a).take 1))) H
theorem Uq {f:Addr}{fd:FuncData} (F:Df K mg "sign_at" Mu ["text","place"] f fd)     :Cal P w K mg base 33 "sign_at" ["text","place"] (El K):=by
 refine F.cal (F.fn.ok Ux (fun d H Q E h=> ?_) (fun y A outer s H d Q E I h=> ?_))
 . obtain⟨l,a,rfl,_⟩:=h
   rfl
 obtain⟨l,a,rfl,G,q⟩:=h
 refine Av ⟨_,(Af (Al (Eb Qg (Ae 0) (Dk (Ae 1)) (Dk (Ag Bv (Ae 1) Ad))))),?_⟩
 done
 rw [Z2]
 exact⟨le_trans G (by decide),q⟩
theorem Y7 {c:Nat}:(!(Builtin.Str.occurrences (tx [48,49,50,51,52,53,54,55,56,57]) (tx [c]) 0 (tx [48,49,50,51,52,53,54,55,56,57]).length 1).isEmpty)=decide (48<=c/\c<=57):=by
 rw [Bool.eq_iff_iff,StrLaws.found_iff,decide_eq_true_iff]
 constructor
 . rintro⟨i,h⟩
   have h2:=(StrLaws.subAt_one _ c i).mp h
   have d:c∈ [48,49,50,51,52,53,54,55,56,57]:=List.mem_of_getElem? h2
   simp only [mem_cons,not_mem_nil,or_false]at d
   omega
 . intro h
   refine⟨c-48,(StrLaws.subAt_one _ c (c-48)).mpr ?_⟩
   obtain⟨k,rfl⟩:∃k,c=k+48:=⟨c-48,by omega⟩
   have y:k<10:=by omega
   rw [Nat.add_sub_cancel]
   match k,y with
   | 0,_ | 1,_ | 2,_ | 3,_ | 4,_ | 5,_ | 6,_ | 7,_ | 8,_ | 9,_=>rfl
theorem Afh {c:Nat}:(Builtin.Str.occurrences (tx [48,49,50,51,52,53,54,55,56,57]) (tx [c]) 0 (tx [48,49,50,51,52,53,54,55,56,57]).length 1).isEmpty= !decide (48<=c/\c<=57):=by
 rw [<-Y7,not_not]
theorem ixS {H:Hp}{Q:VK}{l:List Nat}{j c:Nat} (h:l[j]? =some c) (d:l.length<=400) (q:Q (.str (tx [c])) H):Ahy (.str (tx l)) (.int (j:Nat)) H Q:=⟨_,_,c,rfl,rfl,le_trans d (by decide),Dl h,q⟩
theorem Ab5 (m:Nat):((dg m).toArray.all fun c=>decide (c<128))=true:=by
 rw [Array.all_eq_true_iff_forall_mem]
 intro x d
 have:=Ks m x (by simpa using d)
 exact decide_eq_true (by omega)
def Gv (K:Frag):Sp:=fun vs H Q _=>∃m:Nat,vs=[.str (tx (dg m))]/\(dg m).length<=60/\∀H',Same H H'->Q (.bl true) H'
theorem M9 {f:Addr}{fd:FuncData} (F:Df K mg "are_figures" Fq ["text"] f fd)  (z_len:mg "len"=none) (G:mg "all"=none) (d:∃u,mg "MOST_FIGURES"=some u/\RelV (V.int 60) u) (y:∃u,mg "FIGURES"=some u/\RelV (V.str "0123456789") u)  :Cal P w K mg base 33 "are_figures" ["text"] (Gv K):=by
 refine F.cal (F.fn.ok Ng (fun W H Q E h=> ?_) (fun Y A outer s H W Q E hr h=> ?_))
 . obtain⟨m,rfl,_⟩:=h
   rfl
 obtain⟨m,rfl,I,q⟩:=h
 refine Av ⟨_,(Ac (Bb (Dc (Gj (Aj Ds (Ae 0) Ao (Aw _)) (Gj (Aj Lb (Az Ed rfl z_len PySem.boot_len (Aa (Ae 0) Ab)) (Ea (v:= .int 60) rfl d) (Aw _)) (Fz (Jq (Ck (Az (Xj rfl) rfl G boot_all (Aa (Ek (ts:=["sign"]) (fs:=[]) rfl (Cz.of (sc:=Ar Fq) (N:=["text"]) rfl rfl (by decide+kernel)) (U9 (Ae 0)) (fun _ _ _=>(Aq 0 (show Nodup (["sign"]:List Str)by decide+kernel))) (fun _ _ _=>Gz) (fun _ _ _=>(Bo Pz (Ae 0) (Ea (v:= .str "0123456789") rfl y) rfl))) Ab)))))))) (Af (Al Jk)) Ay)
  (Af (Al (Xh (Bo Ds (Ae 0) Ao (Aw _)) (Hs (Bo Qa (Bf Y9 (Ae 0) Ad (fun _ _=>rfl)) Ao (Aw _))))))),?_⟩
 done
 have al:=Ks m
 rw [if_neg fun h=>N8 m (G5.mp h)]
 refine⟨le_trans I (by decide),?_⟩
 rw [if_neg (by rw [Ho];omega)]
 refine⟨Ab5 m,fun p Z=>N6 (es:=dg m) (inj:=fun c=> .str (tx [c])) (fun c=> .bl (decide (48<=c/\c<=57))) (le_trans I (by decide)) Z (Ad2 (dg m)) (fun c H' R L s hR=> ?_) fun H' s M=> ?_⟩
 . done
   rw [Y7]
   exact hR _ (Same.refl _)
 have e:(dg m).map (fun c=>V.bl (decide (48<=c/\c<=57)))=((dg m).map fun c=>decide (48<=c/\c<=57)).map V.bl:=by rw [map_map];rfl
 rw [e]at M
 refine⟨p,_,rfl,.of M,?_⟩
 have e2:((dg m).map fun c=>decide (48<=c/\c<=57)).all id=true:=by
  rw [List.all_map,all_eq_true]
  exact fun c L=>decide_eq_true (al c L)
 rw [e2,if_neg (by decide)]
 by_cases O:m=0
 . subst O
   rw [if_pos (by rw [Z7])]
   exact q _ s
 . obtain⟨c,r,U,L⟩:=Vi m O
   rw [if_neg (fun h=>by have:=G5.mp h;rw [U]at this;injection this with h1;omega)]
   refine⟨_,0,c,rfl,rfl,le_trans I (by decide),by rw [Ad1,U];exact at0 _ _,?_⟩
   show rNe (.str (tx [c])) (.str (tx [48])) _ _
   done
   rw [decide_eq_false (fun h=>by have:=G5.mp h;injection this with h1;omega)]
   exact q _ s
def Ep (K:Frag):Sp:=fun vs H Q _=>∃(l rest:List Nat) (a m:Nat),vs=[.str (tx l),.int (a:Nat)]/\l.drop a=dg m++rest/\(∀c,rest.head? =some c->¬(48<=c/\c<=57))/\m<10^60/\l.length<=400/\∀z H',Same H H'->SqT K H' z [.int (m:Nat),.int ((a+(dg m).length:Nat):Int)]->Q (.ref z) H'
theorem Nb {f:Addr}{fd:FuncData} (F:Df K mg "number_form" Hf ["text","start"] f fd)  (L:mg "int"=none) (z_len:mg "len"=none) (G:∃u,mg "FIGURES"=some u/\RelV (V.str "0123456789") u) (d:Cal P w K mg base 33 "refuse_unless" ["fits"] (Ca K)) (y:Cal P w K mg base 33 "are_figures" ["text"] (Gv K)):Cal P w K mg base 34 "number_form" ["text","start"] (Ep K):=by
 refine F.cal (F.fn.ok Gu (fun vs H Q E h=> ?_) (fun a0 A outer s H vs Q E hr h=> ?_))
 . obtain⟨l,rest,a,m,rfl,_⟩:=h
   rfl
 obtain⟨l,rest,a,m,rfl,Y,Z,hm,U,k⟩:=h
 have al:=Ks m
 have ln:=Fg hm (by decide)
 have la:a+(dg m).length<=l.length:=by
  have:=congrArg List.length Y
  have h0:=length_pos_iff.mpr (N8 m)
  rw [length_drop,length_append]at this
  omega
 have lg:∀j,l[a+j]? =(dg m++rest)[j]? :=fun j=>by rw [<-Y,List.getElem?_drop]
 refine Av ⟨_,(Ac (Am 2 Gu.nd (Ae 1))
  (Ac (Dp PassesOwn.never (Dc (Eh (Aj P0 (Ae 2) (Az Ed rfl z_len PySem.boot_len (Aa (Ae 0) Ab)) (Aw _)) (Ec (Aj Pz (Bf Y9 (Ae 0) (Ae 2) (fun _ _=>rfl)) (Ea (v:= .str "0123456789") rfl G) rfl)))) (Af (Am 2 Gu.nd (Ag Bv (Ae 2) Ad))))
  (Ac (Br (Ai d hr (Aa (Ai y hr (Aa (Eb Qg (Ae 0) (Dk (Ae 1)) (Dk (Ae 2))) Ab)) Ab)))
  (Af (Al (Ba (Aa (Bh Gk rfl L boot_int (Aa (Eb Qg (Ae 0) (Dk (Ae 1)) (Dk (Ae 2))) Ab)) (Aa (Ae 2) Ab)))))))),?_⟩
 refine Ax fun w0 hw=> ?_
 done
 subst hw
 refine Dj (fun I H'=>I=[some (.str (tx l)),some (.int (a:Nat)),some (.int ((a+(dg m).length:Nat):Int))]/\H'=H) (fun M hM=> ?_) ?_
 . refine R0 (fun k I H'=>∃j:Nat,I=[some (.str (tx l)),some (.int (a:Nat)),some (.int ((a+j:Nat):Int))]/\j+k=(dg m).length/\H'=H) (dg m).length ⟨0,rfl,zero_add _,rfl⟩ ?_
   rintro k' I H' ⟨j,rfl,hj,rfl⟩
   done
   refine⟨le_trans U (by decide),?_⟩
   have O:=lg j
   by_cases c1:a+j<l.length
   . rw [if_pos (by rw [Ho];omega)]
     obtain⟨c,W⟩:∃c,l[a+j]? =some c:=⟨_,getElem?_eq_getElem c1⟩
     refine ixS W U ?_
     refine⟨_,_,rfl,rfl,?_⟩
     rw [Afh]
     rw [W]at O
     by_cases c2:j<(dg m).length
     . rw [getElem?_append_left c2]at O
       rw [decide_eq_true (al c (List.mem_of_getElem? O.symm)),if_pos (by decide)]
       refine Abo ?_
       done
       exact⟨k'-1,by omega,j+1,by rw [show(((a+j:Nat):Int)+1)=((a+(j+1):Nat):Int)by omega],by omega⟩
     . rw [getElem?_append_right (by omega),show j-(dg m).length=0 by omega,<-List.head?_eq_getElem?]at O
       rw [decide_eq_false (Z c O.symm),if_neg (by decide)]
       exact hM _ _ ⟨by rw [show j=(dg m).length by omega],rfl⟩
   . rw [if_neg (by rw [Ho];omega)]
     exact hM _ _ ⟨by rw [show j=(dg m).length by omega],rfl⟩
 rintro _ H1 ⟨rfl,rfl⟩
 have W:(l.drop a).take (a+(dg m).length-a)=dg m:=by
  rw [Y,Nat.add_sub_cancel_left,List.take_left]
 done
 rw [Z4 la,W]
 refine⟨le_trans U (by decide),m,rfl,ln,fun H2 s2=>⟨rfl,le_trans U (by decide),(m:Int),Vn (le_trans ln (by decide)),le_trans ln (by decide),fun p hp=> ?_⟩⟩
 exact k p _ (s2.trans (Same.upd hp _)) (.of Ah)
theorem Ti (p:List Int):(trim p).length<=p.length:=(Ej p).len fun i=>Gs p i
def Po (K:Frag) (H:Hp) (v:V) (p:List Int) (l n:Nat):Prop:=(∃a,v= .ref a/\SqT K H a (p.map V.int))/\Tr p/\p.length<=l/\∀i,Sz n (co p i)
theorem Po.mono {K:Frag}{H H':Hp}{v:V}{p:List Int}{l n:Nat} (h:Po K H v p l n) (s:Same H H'):Po K H' v p l n:=by
 obtain⟨⟨a,e,t⟩,r⟩:=h
 exact⟨⟨a,e,s.tup t⟩,r⟩
theorem Sz0 {n:Nat} (h:0<n):Sz n 0:=pow_pos (by decide)
theorem Afd {p:List Int}{n:Nat} (d:0<n) (h:∀x∈p,Sz n x) (i:Nat):Sz n (co p i):=by
 by_cases hi:i<p.length
 . rw [Du hi]
   exact h _ (getElem_mem hi)
 . rw [Eu (by omega)]
   exact Sz0 d
def SqI (K:Frag) (H:Hp) (a:Addr) (ns:List Int):Prop:=SqL K H a (ns.map V.int)\/SqT K H a (ns.map V.int)
def Kl (K:Frag):Sp:=fun vs H Q _=>∃(a:Addr) (ns:List Int),vs=[.ref a]/\SqI K H a ns/\ns.length<=1000/\∀z H',Same H H'->SqT K H' z ((trim ns).map V.int)->Q (.ref z) H'
theorem Aar {f:Addr}{fd:FuncData} (F:Df K mg "poly" Wv ["weights"] f fd)  (z_len:mg "len"=none) (G:mg "tuple"=none)   :Cal P w K mg base 33 "poly" ["weights"] (Kl K):=by
 refine F.cal (F.fn.ok Rr (fun Z H Q E h=> ?_) (fun a0 A outer s H Z Q E hr h=> ?_))
 . obtain⟨a,ns,rfl,_⟩:=h
   rfl
 obtain⟨a,ns,rfl,I,hl,q⟩:=h
 refine Av ⟨_,(Ac (Am 1 Rr.nd (Az Bg rfl z_len PySem.boot_len (Aa (Ae 0) Ab)))
  (Ac (Dp PassesOwn.never (Dc (Eh (Aj Lb (Ae 1) Ad (Aw _)) (Ec (Aj Ds (Bf Aci (Ae 0) (Ag Fi (Ae 1) Ad) (fun _ _=>rfl)) Ad (Aw _))))) (Af (Am 1 Rr.nd (Ag Fi (Ae 1) Ad))))
  (Af (Al (Bh Dr rfl G boot_tuple (Aa (Eb Adu (Ae 0) Ig (Dk (Ae 1))) Ab)))))),?_⟩
 done
 refine⟨a,_,rfl,I,?_⟩
 rw [length_map]
 refine O1 (fun σ H'=>H'=H/\∃n:Nat,σ=[some (.ref a),some (.int n)]/\n<=ns.length/\∀i,n<=i->co ns i=0) (fun σ _=>match σ with | [_,some (.int n)]=>n.toNat | _=>0)
  ⟨rfl,_,rfl,le_refl _,fun i h=>Eu h⟩ ?_
 rintro σ H' ⟨rfl,n,rfl,hn,W⟩
 have L:(n=0\/co ns (n-1)≠0)->Ah1 K (V.ref a) none (some (n:Int)) H' (fun x H1=>∃p ys,[x]=[V.ref p]/\((SqL K H1 p ys/\∀(l:Addr),H1 l=none->Q (V.ref l) (upd H1 l (HO.tup ys)))\/SqT K H1 p ys/\Q (V.ref p) H1)):=fun h=>by
  have e:Qs (ns.map V.int) none (some (n:Int))=(trim ns).map V.int:=by
   rw [W4 W h]
   unfold Qs
   rw [HT.Te,HT.Kc,drop_zero,sub_zero,length_map,min_eq_left hn,map_take]
  rcases I with I | I
  . refine⟨a,_,rfl,.inl ⟨I,fun z H2 O d=> ?_⟩⟩
    rw [e]at d
    exact⟨z,_,rfl,.inl ⟨d,fun y hy=>q y _ (O.trans (Same.upd hy _)) (.of Ah)⟩⟩
  . refine⟨a,_,rfl,.inr ⟨I,fun z H2 O d=> ?_⟩⟩
    rw [e]at d
    exact⟨z,_,rfl,.inr ⟨d,q z _ O d⟩⟩
 done
 by_cases Y:(0:Int)<n
 . rw [if_pos Y]
   refine⟨a,_,_,.int (co ns (n-1)),rfl,rfl,I,?_,?_⟩
   . have e:=Dl (xs:=ns.map V.int) (j:=n-1) (v:= .int (co ns (n-1))) (by rw [getElem?_map,getElem?_eq_getElem (by omega),Du (by omega)];rfl)
     rw [show((n-1:Nat):Int)=(n:Int)-1 by omega]at e
     exact e
   done
   by_cases M:co ns (n-1)=0
   . rw [if_pos M]
     refine Abm ?_
     done
     refine⟨⟨n-1,by rw [show((n-1:Nat):Int)=(n:Int)-1 by omega],by omega,fun i hi=> ?_⟩,by omega⟩
     by_cases U:i=n-1
     . rw [U,M]
     . exact W i (by omega)
   . rw [if_neg M]
     exact L (.inr M)
 . rw [if_neg Y]
   exact L (.inl (by omega))
section
variable {S:Type}
def A2 {α:Type} (R:V->α->Prop) (vs:List V) (es:List α):Prop:=vs.length=es.length/\∀(i:Nat) v e,vs[i]? =some v->es[i]? =some e->R v e
theorem A2.imp {α:Type}{R d:V->α->Prop}{y:List V}{es:List α} (h:A2 R y es) (i:∀v e,R v e->d v e):A2 d y es:=⟨h.1,fun j v e a b=>i v e (h.2 j v e a b)⟩
theorem A2.one {α:Type}{R:V->α->Prop}{v:V}{e:α} (h:R v e):A2 R [v] [e]:=⟨rfl,fun i d y a b=>by
 cases i with
 | zero=>
   cases a
   cases b
   exact h
 | succ i=>cases a⟩
theorem A2.snoc {α:Type}{R:V->α->Prop}{d:List V}{es:List α}{v:V}{e:α} (h:A2 R d es) (q:R v e):A2 R (d++ [v]) (es++ [e]):=by
 refine⟨by rw [length_append,length_append,h.1];rfl,fun i y F a b=> ?_⟩
 by_cases hi:i<d.length
 . rw [getElem?_append_left hi]at a
   rw [getElem?_append_left (by rw [<-h.1];exact hi)]at b
   exact h.2 i y F a b
 . rw [getElem?_append_right (by omega)]at a
   rw [getElem?_append_right (by rw [<-h.1];omega),<-h.1]at b
   cases hj:i-d.length with
   | zero=>
     rw [hj]at a b
     cases a
     cases b
     exact q
   | succ j=>
     rw [hj]at a
     cases a
variable (K:Frag) (H:Hp) (N:Addr->Prop) (sR:V->S->Prop)
def bR (v:V):Bx S->Prop
 | .x=>∃a,v= .ref a/\SqT K H a [.int 0,.int 1]
 | .num n=>∃a,v= .ref a/\SqT K H a ((trim [(n:Int)]).map V.int)
 | .par s=>sR v s
def fR (v:V) (f:Fx S):Prop:=∃a vb,v= .ref a/\SqT K H a [vb,.int ((f.2.getD 1:Nat):Int)]/\bR K H sR vb f.1
def pR (v:V) (p:List (Fx S)):Prop:=∃a vs,v= .ref a/\N a/\H a=some (.lst vs)/\A2 (fR K H sR) vs p
def eR (v:V) (e:Bool × List (Fx S)):Prop:=∃b vp,v= .ref b/\SqT K H b [.str (tx [sg e.1]),vp]/\pR K H N sR vp e.2
def sR' (v:V) (s:List (Bool × List (Fx S))):Prop:=∃a vs,v= .ref a/\N a/\H a=some (.lst vs)/\A2 (eR K H N sR) vs s
end
def SR (K:Frag) (H:Hp) (N:Addr->Prop):(n:Nat)->V->Sm n->Prop
 | 0=>fun _ s=>s.elim
 | n+1=>sR' K H N (SR K H N n)
structure Kp2 (K:Frag) (H H':Hp) (N N':Addr->Prop):Prop where
 l:∀a vs,N a->H a=some (.lst vs)->N' a/\H' a=some (.lst vs)
 t:∀a xs,SqT K H a xs->SqT K H' a xs
section
variable {S:Type}{H H':Hp}{N N':Addr->Prop}{q q':V->S->Prop}
theorem bR.imp {v:V}{b:Bx S} (h:bR K H q v b) (k:Kp2 K H H' N N') (i:∀v s,q v s->q' v s):bR K H' q' v b:=by
 cases b with
 | x=>
   obtain⟨a,e,t⟩:=h
   exact⟨a,e,k.t _ _ t⟩
 | num n=>
   obtain⟨a,e,t⟩:=h
   exact⟨a,e,k.t _ _ t⟩
 | par s=>exact i v s h
theorem fR.imp {v:V}{f:Fx S} (h:fR K H q v f) (k:Kp2 K H H' N N') (i:∀v s,q v s->q' v s):fR K H' q' v f:=by
 obtain⟨a,d,e,t,b⟩:=h
 exact⟨a,d,e,k.t _ _ t,b.imp k i⟩
theorem pR.imp {v:V}{p:List (Fx S)} (h:pR K H N q v p) (k:Kp2 K H H' N N') (i:∀v s,q v s->q' v s):pR K H' N' q' v p:=by
 obtain⟨a,d,e,n,t,b⟩:=h
 exact⟨a,d,e,(k.l _ _ n t).1,(k.l _ _ n t).2,b.imp fun v f h=>h.imp k i⟩
theorem eR.imp {v:V}{e:Bool × List (Fx S)} (h:eR K H N q v e) (k:Kp2 K H H' N N') (i:∀v s,q v s->q' v s):eR K H' N' q' v e:=by
 obtain⟨b,d,e,t,p⟩:=h
 exact⟨b,d,e,k.t _ _ t,p.imp k i⟩
theorem SR.imp (k:Kp2 K H H' N N'):∀ {n:Nat}{v:V}{s:Sm n},SR K H N n v s->SR K H' N' n v s
 | 0,_,s,_=>s.elim
 | n+1,v,s,h=>by
   obtain⟨a,d,e,m,t,b⟩:=h
   exact⟨a,d,e,(k.l _ _ m t).1,(k.l _ _ m t).2,b.imp fun v f h=>h.imp k fun v s h=>SR.imp k h⟩
end
section
variable {H H':Hp}{N N':Addr->Prop}{n:Nat}
theorem Kp2.same (s:Same H H') (i:∀a,N a->N' a):Kp2 K H H' N N':=⟨fun a d m e=>⟨i a m,s _ _ e⟩,fun _ _ h=>s.tup h⟩
theorem Nu {q a:Addr}{d xs:List V}{o:HO} (h:SqT K H a xs) (y:H q=some (.lst d)):SqT K (upd H q o) a xs:=by
 rcases h with h | h
 . have F:a≠q:=fun e=>by
    rw [e]at h
    rcases h with h | ⟨o,h⟩
    . rw [y]at h
      cases h
    . rw [y]at h
      cases h
   rcases h with h | ⟨o,h⟩
   . exact .inl (.inl (by rw [Bl F];exact h))
   . exact .inl (.inr ⟨o,by rw [Bl F];exact h⟩)
 . exact .inr h
theorem Kp2.put {q:Addr}{d:List V}{o:HO} (y:H q=some (.lst d)) (i:∀a,N a->N' a/\a≠q):Kp2 K H (upd H q o) N N':=⟨fun a F m e=>⟨(i a m).1,by rw [Bl (i a m).2];exact e⟩,fun a xs h=>Nu h y⟩
theorem bR.on {v:V}{b:Bx (Sm n)} (h:bR K H (SR K H N n) v b) (k:Kp2 K H H' N N'):bR K H' (SR K H' N' n) v b:=h.imp k fun _ _ h=>h.imp k
theorem fR.on {v:V}{f:Fx (Sm n)} (h:fR K H (SR K H N n) v f) (k:Kp2 K H H' N N'):fR K H' (SR K H' N' n) v f:=h.imp k fun _ _ h=>h.imp k
theorem pR.on {v:V}{p:List (Fx (Sm n))} (h:pR K H N (SR K H N n) v p) (k:Kp2 K H H' N N'):pR K H' N' (SR K H' N' n) v p:=h.imp k fun _ _ h=>h.imp k
theorem eR.on {v:V}{e:Bool × List (Fx (Sm n))} (h:eR K H N (SR K H N n) v e) (k:Kp2 K H H' N N'):eR K H' N' (SR K H' N' n) v e:=h.imp k fun _ _ h=>h.imp k
end
def Hd (r cs:List Nat):Prop:=∀c,r.head? =some c->c∈cs
theorem Gw {r:List Nat}{c:Nat}:tx (r.take 1)=tx [c]↔r.head? =some c:=by
 rw [G5]
 cases r with
 | nil=>simp
 | cons a r=>simp
theorem Iz {H:Hp}{Q:VK}{E:XK}{l r:List Nat}{a:Nat} (h:l.drop a=r) (d:l.length<=400) (q:Q (.str (tx (r.take 1))) H):El K [.str (tx l),.int (a:Nat)] H Q E:=⟨l,a,rfl,d,by rw [h];exact q⟩
theorem Dv {l r s:List Nat}{a:Nat} (h:l.drop a=r++s):l.drop (a+r.length)=s:=by
 rw [<-List.drop_drop,h,List.drop_left]
def J1 (n:Nat) (K:Frag):Sp:=fun vs H Q _=>∃(l rest:List Nat) (a d:Nat) (b:Bx (Sm n)),vs=[.str (tx l),.int (a:Nat),.int (d:Nat)]/\l.drop a=bT (ST n) b++rest/\bO (SO n) b/\Hd rest [43,45,41,42,94]/\l.length<=400/\d+n<=10/\∀z vb H',Same H H'->SqT K H' z [vb,.int ((a+(bT (ST n) b).length:Nat):Int)]->bR K H' (SR K H' (fun b=>H b=none) n) vb b->Q (.ref z) H'
def Ib (n:Nat) (K:Frag):Sp:=fun vs H Q _=>∃(l rest:List Nat) (a d:Nat) (f:Fx (Sm n)),vs=[.str (tx l),.int (a:Nat),.int (d:Nat)]/\l.drop a=fT (ST n) f++rest/\fO (SO n) f/\Hd rest [43,45,41,42]/\l.length<=400/\d+n<=10/\∀z vf H',Same H H'->SqT K H' z [vf,.int ((a+(fT (ST n) f).length:Nat):Int)]->fR K H' (SR K H' (fun b=>H b=none) n) vf f->Q (.ref z) H'
def Hl (n:Nat) (K:Frag):Sp:=fun vs H Q _=>∃(l rest:List Nat) (a d:Nat) (p:List (Fx (Sm n))),vs=[.str (tx l),.int (a:Nat),.int (d:Nat)]/\l.drop a=pT (ST n) p++rest/\pO (SO n) p/\Hd rest [43,45,41]/\l.length<=400/\d+n<=10/\∀z vp H',Same H H'->SqT K H' z [vp,.int ((a+(pT (ST n) p).length:Nat):Int)]->pR K H' (fun b=>H b=none) (SR K H' (fun b=>H b=none) n) vp p->Q (.ref z) H'
def Gq (n:Nat) (K:Frag):Sp:=fun vs H Q _=>∃(l rest:List Nat) (a d:Nat) (s:Sm n),vs=[.str (tx l),.int (a:Nat),.int (d:Nat)]/\l.drop a=ST n s++rest/\SO n s/\Hd rest [41]/\l.length<=400/\d+n<=11/\∀z va H',Same H H'->SqT K H' z [va,.int ((a+(ST n s).length:Nat):Int)]->SR K H' (fun b=>H b=none) n va s->Q (.ref z) H'
def M5 (K:Frag):Sp:=Gq 11 K
theorem Hd.up {r y d:List Nat} (h:Hd r y) (s:∀c∈y,c∈d):Hd r d:=fun c e=>s c (h c e)
theorem Acd {r d:List Nat} (h:Hd r d) (y:∀c∈d,¬(48<=c/\c<=57)):∀c,r.head? =some c->¬(48<=c/\c<=57):=fun c e=>y c (h c e)
theorem Py {r n:Nat}{f:Addr}{fd:FuncData} (F:Df K mg "base_form" G9 ["text","start","depth"] f fd)  (I:∃u,mg "MOST_BRACKETS"=some u/\RelV (V.int 10) u) (y:Cal P w K mg base 33 "refuse_unless" ["fits"] (Ca K)) (G:Cal P w K mg base 33 "sign_at" ["text","place"] (El K)) (L:Cal P w K mg base 34 "number_form" ["text","start"] (Ep K)) (c_poly:Cal P w K mg base 33 "poly" ["weights"] (Kl K)) (M:Cal P w K mg base (34+r) "sum_form" ["text","start","depth"] (Gq n K)):Cal P w K mg base (34+(r+1)) "base_form" ["text","start","depth"] (J1 n K):=by
 refine F.cal (F.fn.ok Ew (fun vs H Q E h=> ?_) (fun a5 A outer s H vs Q E W h=> ?_))
 . obtain⟨l,rest,a,d,b,rfl,_⟩:=h
   rfl
 obtain⟨l,rest,a,d,b,rfl,Z,ho,hh,Y,hn,k⟩:=h
 refine Av ⟨_,(Ac (Bb (Aj Ds (Ai G W (Aa (Ae 0) (Aa (Ae 1) Ab)) (le_trans (by decide) (le_add_right _ _))) Ao (Aw _)) (Af (Al (Ba (Aa (Ba (Aa Ad (Aa Ad Ab))) (Aa (Ag Bv (Ae 1) Ad) Ab))))) Ay)
  (Ac (Bb (Aj Qa (Ai G W (Aa (Ae 0) (Aa (Ae 1) Ab)) (le_trans (by decide) (le_add_right _ _))) Ao (Aw _)) (Ac (Bm (Ai L W (Aa (Ae 0) (Aa (Ae 1) Ab)) (le_trans (by decide) (le_add_right _ _))) (Bk rfl (Ak (Aq 5 Ew.nd) (Ak (Aq 4 Ew.nd) Bd))))
  (Af (Al (Ba (Aa (Ai c_poly W (Aa (Ba (Aa (Ae 5) Ab)) Ab) (le_trans (by decide) (le_add_right _ _))) (Aa (Ae 4) Ab)))))) Ay)
  (Ac (Br (Ai y W (Aa (Bo P0 (Ae 2) (Ea (v:= .int 10) rfl I) (Aw _)) Ab) (le_trans (by decide) (le_add_right _ _))))
  (Ac (Bm (Ai M W (Aa (Ae 0) (Aa (Ag Bv (Ae 1) Ad) (Aa (Ag Bv (Ae 2) Ad) Ab))) (le_refl _)) (Bk rfl (Ak (Aq 3 Ew.nd) (Ak (Aq 4 Ew.nd) Bd))))
  (Ac (Br (Ai y W (Aa (Bo Ds (Ai G W (Aa (Ae 0) (Aa (Ae 4) Ab)) (le_trans (by decide) (le_add_right _ _))) Ao (Aw _)) Ab) (le_trans (by decide) (le_add_right _ _))))
  (Af (Al (Ba (Aa (Ae 3) (Aa (Ag Bv (Ae 4) Ad) Ab)))))))))),?_⟩
 have ne:∀ {c e:Nat}{r:List Nat},r.head? =some c->c≠e->¬tx (r.take 1)=tx [e]:=fun h n z=>n (Option.some.inj (h.symm.trans (Gw.mp z)))
 refine Ax fun w0 O=> ?_
 done
 refine Iz Z Y ?_
 try done
 cases b with
 | x=>
   rw [if_pos (Gw.mpr rfl)]
   intro p hp p1 a0
   exact k p1 (.ref p) _ ((Same.upd hp _).trans (Same.upd a0 _)) (.of Ah) ⟨p,rfl,.of ((Same.upd a0 _) _ _ Ah)⟩
 | num m=>
   obtain⟨c,r,ec⟩:∃c r,dg m=c::r:=by
    cases e:dg m with
    | nil=>exact absurd e (N8 m)
    | cons c r=>exact⟨c,r,rfl⟩
   have hc:=Ks m c (by rw [ec];exact mem_cons_self ..)
   have U:(bT (ST n) (.num m)++rest).head? =some c:=by
    show(dg m++rest).head? =some c
    rw [ec]
    rfl
   rw [if_neg (ne U (by omega))]
   subst O
   refine Ax fun w0 O=> ?_
   done
   refine Iz Z Y ?_
   try done
   rw [if_neg (ne U (by omega))]
   refine⟨l,rest,a,m,rfl,Z,Acd hh (by decide),ho,Y,fun z H1 s1 hz=> ?_⟩
   refine Cy hz ?_
   try done
   intro p hp
   refine⟨p,[(m:Int)],rfl,.inr (.of Ah),show 1<=1000 by decide,fun z2 H2 s2 a2=> ?_⟩
   try done
   intro p3 a3
   have s3:=Same.upd a3 (.tup [.ref z2,.int ((a+(dg m).length:Nat):Int)])
   exact k p3 (.ref z2) _ (s1.trans ((Same.upd hp _).trans (s2.trans s3))) (.of Ah) ⟨z2,rfl,s3.tup a2⟩
 | par s=>
   cases n with
   | zero=>exact s.elim
   | succ n=>
   have U:(bT (ST (n+1)) (.par s)++rest).head? =some 40:=rfl
   rw [if_neg (ne U (by decide))]
   subst O
   refine Ax fun w0 O=> ?_
   done
   refine Iz Z Y ?_
   try done
   rw [if_pos (Gw.mpr U)]
   subst O
   refine Ax fun w0 O=> ?_
   done
   rw [decide_eq_true (by omega)]
   refine⟨rfl,?_⟩
   subst O
   refine Ax fun w0 O=> ?_
   done
   have a1:l.drop (a+1)=ST (n+1) s++(41::rest):=by
    have:=Dv (r:=[40]) (s:=ST (n+1) s++(41::rest)) (by rw [Z];show _=40::(ST (n+1) s++(41::rest));rw [show(41::rest)=[41]++rest from rfl,<-append_assoc];rfl)
    exact this
   refine⟨l,41::rest,a+1,d+1,s,by rw [natCast_add,natCast_add];rfl,a1,ho,fun c h=>by cases h;exact mem_cons_self ..,Y,by omega,fun z va H1 s1 hz hs=> ?_⟩
   refine Cy hz ?_
   try done
   subst O
   refine Ax fun w0 O=> ?_
   done
   have a4:=Dv a1
   refine Iz a4 Y ?_
   try done
   rw [decide_eq_true (Gw.mpr rfl)]
   refine⟨rfl,?_⟩
   subst O
   try done
   intro p hp
   have e:(((a+1+(ST (n+1) s).length:Nat):Int)+1)=((a+(bT (ST (n+1)) (.par s)).length:Nat):Int):=by
    have:(bT (ST (n+1)) (.par s)).length=(ST (n+1) s).length+2:=by simp [bT]
    rw [this]
    omega
   rw [e]
   have s2:=Same.upd hp (.tup [va,.int ((a+(bT (ST (n+1)) (.par s)).length:Nat):Int)])
   exact k p va _ (s1.trans s2) (.of Ah) (SR.imp (Kp2.same s2 fun _ h=>h) hs)
theorem Nf {r n:Nat}{f:Addr}{fd:FuncData} (F:Df K mg "factor_form" Ft ["text","start","depth"] f fd)  (y:∃u,mg "GREATEST_POWER"=some u/\RelV (V.int 16) u) (I:Cal P w K mg base 34 "number_form" ["text","start"] (Ep K)) (G:Cal P w K mg base 33 "refuse_unless" ["fits"] (Ca K)) (M:Cal P w K mg base 33 "sign_at" ["text","place"] (El K)) (L:Cal P w K mg base (34+r) "base_form" ["text","start","depth"] (J1 n K)):Cal P w K mg base (34+(r+1)) "factor_form" ["text","start","depth"] (Ib n K):=by
 refine F.cal (F.fn.ok Dw (fun vs H Q E h=> ?_) (fun a4 A outer s H vs Q E hr h=> ?_))
 . obtain⟨l,rest,a,d,b,rfl,_⟩:=h
   rfl
 obtain⟨l,rest,a,d,⟨b,o⟩,rfl,hd,ho,hh,Z,hn,k⟩:=h
 refine Av ⟨_,(Ac (Bm (Ai L hr (Aa (Ae 0) (Aa (Ae 1) (Aa (Ae 2) Ab))) (le_refl _)) (Bk rfl (Ak (Aq 3 Dw.nd) (Ak (Aq 4 Dw.nd) Bd))))
  (Ac (Bb (Aj Qa (Ai M hr (Aa (Ae 0) (Aa (Ae 4) Ab)) (le_trans (by decide) (le_add_right _ _))) Ao (Aw _)) (Af (Al (Ba (Aa (Ba (Aa (Ae 3) (Aa Ad Ab))) (Aa (Ae 4) Ab))))) Ay)
  (Ac (Bm (Ai I hr (Aa (Ae 0) (Aa (Ag Bv (Ae 4) Ad) Ab)) (le_trans (by decide) (le_add_right _ _))) (Bk rfl (Ak (Aq 5 Dw.nd) (Ak (Aq 4 Dw.nd) Bd))))
  (Ac (Br (Ai G hr (Aa (Bo Aas (Ae 5) (Ea (v:= .int 16) rfl y) (Aw _)) Ab) (le_trans (by decide) (le_add_right _ _))))
  (Af (Al (Ba (Aa (Ba (Aa (Ae 3) (Aa (Ae 5) Ab))) (Aa (Ae 4) Ab))))))))),?_⟩
 refine Ax fun w0 U=> ?_
 done
 obtain⟨hb,hk⟩:=ho
 cases o with
 | none=>
   have O:l.drop a=bT (ST n) b++rest:=by rw [hd];show bT (ST n) b++ []++rest=_;rw [append_nil]
   refine⟨l,rest,a,d,b,rfl,O,hb,hh.up (by decide),Z,hn,fun z vb H1 s1 hz hv=> ?_⟩
   refine Cy hz ?_
   try done
   subst U
   refine Ax fun w0 U=> ?_
   done
   refine Iz (Dv O) Z ?_
   try done
   rw [if_neg fun z=>by have:=hh _ (Gw.mp z);revert this;decide]
   intro p hp p1 W
   have s2:=Same.upd hp (.tup [vb,.int 1])
   have Y:=Same.upd W (.tup [.ref p,.int ((a+(bT (ST n) b).length:Nat):Int)])
   refine k p1 (.ref p) _ (s1.trans (s2.trans Y)) (.of ?_) ⟨p,vb,rfl,Y.tup (.of Ah),hv.on (Kp2.same (s2.trans Y) fun _ h=>h)⟩
   rw [Ah]
   show _=some (HO.tup [_,.int ((a+(bT (ST n) b++ []).length:Nat):Int)])
   rw [append_nil]
 | some m=>
   have a1:=hk m rfl
   have O:l.drop a=bT (ST n) b++(94::(dg m++rest)):=by rw [hd];show bT (ST n) b++(94::dg m)++rest=_;rw [append_assoc];rfl
   refine⟨l,94::(dg m++rest),a,d,b,rfl,O,hb,fun c h=>by cases h;decide,Z,hn,fun z vb H1 s1 hz hv=> ?_⟩
   refine Cy hz ?_
   try done
   subst U
   refine Ax fun w0 U=> ?_
   done
   have a0:=Dv O
   refine Iz a0 Z ?_
   try done
   rw [if_pos (Gw.mpr rfl)]
   subst U
   refine Ax fun w0 U=> ?_
   done
   have a2:l.drop (a+(bT (ST n) b).length+1)=dg m++rest:=Dv (r:=[94]) a0
   refine⟨l,rest,a+(bT (ST n) b).length+1,m,by rw [natCast_add _ 1];rfl,a2,Acd hh (by decide),Nat.lt_of_le_of_lt a1 (by decide),Z,fun z2 H2 s2 a3=> ?_⟩
   refine Cy a3 ?_
   try done
   subst U
   refine Ax fun w0 U=> ?_
   done
   rw [decide_eq_true (by omega)]
   refine⟨rfl,?_⟩
   subst U
   try done
   intro p hp p1 W
   have Y:=Same.upd hp (.tup [vb,.int (m:Nat)])
   have s4:=Same.upd W (.tup [.ref p,.int ((a+(bT (ST n) b).length+1+(dg m).length:Nat):Int)])
   refine k p1 (.ref p) _ (s1.trans (s2.trans (Y.trans s4))) (.of ?_) ⟨p,vb,rfl,s4.tup (.of Ah),hv.on (Kp2.same (s2.trans (Y.trans s4)) fun _ h=>h)⟩
   rw [Ah]
   have e:a+(fT (ST n) (b,some m)).length=a+(bT (ST n) b).length+1+(dg m).length:=by
    show a+(bT (ST n) b++(94::dg m)).length=_
    rw [length_append,length_cons]
    omega
   rw [e]
theorem Ga {H H':Hp} (s:Same H H') {b:Addr} (e:H' b=none):H b=none:=by
 cases h:H b with
 | none=>rfl
 | some o=>
   rw [s _ _ h]at e
   cases e
theorem Zg {n:Nat}{r s:List (Fx (Sm n))}:pU (ST n) (r++s)=pU (ST n) r++pU (ST n) s:=List.flatMap_append
theorem Zh {n:Nat}:∀r:List (Fx (Sm n)),r.length<=(pU (ST n) r).length
 | []=>le_refl _
 | f::r=>by
   have:=Zh r
   show r.length+1<=(42::fT (ST n) f++pU (ST n) r).length
   rw [length_append,length_cons]
   omega
theorem Ace {n:Nat}{r:List (Fx (Sm n))}{rest y:List Nat} (h:Hd rest y):Hd (pU (ST n) r++rest) (42::y):=by
 cases r with
 | nil=>exact h.up fun c d=>mem_cons_of_mem _ d
 | cons f r=>
   intro c d
   cases d
   exact mem_cons_self ..
theorem Mg {r n:Nat}{f:Addr}{fd:FuncData} (F:Df K mg "product_form" En ["text","start","depth"] f fd)   (G:Cal P w K mg base 33 "sign_at" ["text","place"] (El K)) (y:Cal P w K mg base (34+r) "factor_form" ["text","start","depth"] (Ib n K)):Cal P w K mg base (34+(r+1)) "product_form" ["text","start","depth"] (Hl n K):=by
 refine F.cal (F.fn.ok Cv (fun I H Q E h=> ?_) (fun a4 A outer s H I Q E hr h=> ?_))
 . obtain⟨l,rest,a,d,b,rfl,_⟩:=h
   rfl
 obtain⟨l,rest,a,d,p,rfl,hd,ho,hh,hl,hn,k⟩:=h
 refine Av ⟨_,(Ac (Bm (Ai y hr (Aa (Ae 0) (Aa (Ae 1) (Aa (Ae 2) Ab))) (le_refl _)) (Bk rfl (Ak (Aq 4 Cv.nd) (Ak (Aq 5 Cv.nd) Bd))))
  (Ac (Am 3 Cv.nd (Bu (Aa (Ae 4) Ab)))
  (Ac (Dp PassesOwn.never (Aj Ds (Ai G hr (Aa (Ae 0) (Aa (Ae 5) Ab)) (le_trans (by decide) (le_add_right _ _))) Ao (Aw _)) (Ac (Bm (Ai y hr (Aa (Ae 0) (Aa (Ag Bv (Ae 5) Ad) (Aa (Ae 2) Ab))) (le_refl _)) (Bk rfl (Ak (Aq 4 Cv.nd) (Ak (Aq 5 Cv.nd) Bd))))
  (Af (Br (Fo plainAttrs_list PySem.F.slot_list_append PySem.F.type_list_append G3 (Ae 3) (Aa (Ae 4) Ab))))))
  (Af (Al (Ba (Aa (Ae 3) (Aa (Ae 5) Ab)))))))),?_⟩
 cases p with
 | nil=>exact absurd rfl ho.1
 | cons f r=>
 have a0:=ho.2
 refine Ax fun w0 hw=> ?_
 done
 have W:l.drop a=fT (ST n) f++(pU (ST n) r++rest):=by rw [hd];exact append_assoc ..
 have r4:r.length<=400:=by
  have h1:=congrArg List.length W
  have h2:=Zh r
  rw [length_drop,length_append,length_append]at h1
  omega
 refine⟨l,pU (ST n) r++rest,a,d,f,rfl,W,a0 f (mem_cons_self ..),(Ace hh).up (by decide),hl,hn,fun z Y H1 s1 hz hv=> ?_⟩
 refine Cy hz ?_
 try done
 subst hw
 refine Ax fun w0 hw=> ?_
 done
 intro q hq
 have s2:=Same.upd hq (.lst [Y])
 have q0:=Ga s1 hq
 subst hw
 refine Dj (fun L H'=>∃Y I,L=[some (.str (tx l)),some (.int (a:Nat)),some (.int (d:Nat)),some (.ref q),some Y,some (.int ((a+(fT (ST n) f++pU (ST n) r).length:Nat):Int))]/\Same H H'/\H' q=some (.lst I)/\A2 (fR K H' (SR K H' (fun b=>H b=none/\b≠q) n)) I (f::r)) (fun M hM=> ?_) ?_
 . refine R0 (fun k L H'=>∃j Y I,L=[some (.str (tx l)),some (.int (a:Nat)),some (.int (d:Nat)),some (.ref q),some Y,some (.int ((a+(fT (ST n) f++pU (ST n) (r.take j)).length:Nat):Int))]/\j+k=r.length/\Same H H'/\H' q=some (.lst I)/\A2 (fR K H' (SR K H' (fun b=>H b=none/\b≠q) n)) I (f::r.take j)) r.length ⟨0,Y,[Y],?_,zero_add _,s1.trans s2,Ah,.one (hv.on ⟨fun b U m e=>⟨⟨m,fun z=> ?_⟩,s2 _ _ e⟩,fun _ _ h=>s2.tup h⟩)⟩ ?_
   . rw [show fT (ST n) f++pU (ST n) (r.take 0)=fT (ST n) f from append_nil _]
   . rw [z,hq]at e
     cases e
   rintro k' L H2 ⟨j,a1,U,rfl,hj,s3,it,al⟩
   done
   have Z:l.drop (a+(fT (ST n) f++pU (ST n) (r.take j)).length)=pU (ST n) (r.drop j)++rest:=by
    refine Dv ?_
    rw [W,append_assoc,<-append_assoc (pU (ST n) (r.take j)),<-Zg,take_append_drop]
   refine Iz Z hl ?_
   try done
   by_cases c1:j<r.length
   . obtain⟨g,eg⟩:∃g,r[j]? =some g:=⟨_,getElem?_eq_getElem c1⟩
     have ed:r.drop j=g::r.drop (j+1):=by
      obtain⟨h1,h2⟩:=List.getElem?_eq_some_iff.mp eg
      rw [<-h2]
      exact drop_eq_getElem_cons h1
     have a2:l.drop (a+(fT (ST n) f++pU (ST n) (r.take j)).length)=42::(fT (ST n) g++(pU (ST n) (r.drop (j+1))++rest)):=by
      rw [Z,ed]
      show 42::(fT (ST n) g)++pU (ST n) (r.drop (j+1))++rest=_
      rw [append_assoc]
      rfl
     rw [if_pos (Gw.mpr (by rw [<-Z,a2];rfl))]
     refine Abo ?_
     refine Ax fun w0 hw=> ?_
     done
     refine⟨l,pU (ST n) (r.drop (j+1))++rest,a+(fT (ST n) f++pU (ST n) (r.take j)).length+1,d,g,by rw [natCast_add _ 1];rfl,Dv (r:=[42]) a2,a0 g (mem_cons_of_mem _ (List.mem_of_getElem? eg)),(Ace hh).up (by decide),hl,hn,fun z2 vg H3 s4 a3 hg=> ?_⟩
     refine Cy a3 ?_
     try done
     subst hw
     try done
     have O:=s4 _ _ it
     refine⟨.inl ⟨rfl,_,.of O⟩,?_⟩
     refine⟨q,U,vg,rfl,rfl,O,lt_of_lt_of_le (show U.length<1000 by rw [al.1,length_cons,length_take];omega) (by decide),k'-1,by omega,j+1,vg,U++ [vg],?_,by omega,(s3.trans s4).put q0,Ah,?_⟩
     . rw [take_snoc eg,Zg,show a+(fT (ST n) f++(pU (ST n) (r.take j)++pU (ST n) [g])).length=a+(fT (ST n) f++pU (ST n) (r.take j)).length+1+(fT (ST n) g).length by simp [pU];omega]
     . rw [take_snoc eg]
       have ne:∀b,H2 b=none->b≠q:=fun b m z=>by rw [z,it]at m;cases m
       exact(al.imp fun v e h=>h.on (H':=upd H3 q (.lst (U++ [vg]))) ⟨fun b I m e=>⟨m,by rw [Bl m.2];exact s4 _ _ e⟩,fun _ _ h=>Nu (s4.tup h) O⟩).snoc (hg.on ⟨fun b I m e=>⟨⟨Ga s3 m,ne b m⟩,by rw [Bl (ne b m)];exact e⟩,fun _ _ h=>Nu h O⟩)
   . have ej:r.take j=r:=take_of_length_le (by omega)
     rw [ej]at al ⊢
     rw [show r.drop j=[]from drop_eq_nil_of_le (by omega)]
     rw [if_neg fun z=>by have:=hh _ (Gw.mp z);revert this;decide]
     exact hM _ _ ⟨a1,U,rfl,s3,it,al⟩
 rintro _ H4 ⟨a1,U,rfl,s4,it,al⟩
 done
 intro p hp
 have s5:=Same.upd hp (.tup [.ref q,.int ((a+(fT (ST n) f++pU (ST n) r).length:Nat):Int)])
 exact k p (.ref q) _ (s4.trans s5) (.of Ah) ⟨q,U,rfl,q0,s5 _ _ it,al.imp fun v e h=>h.on (Kp2.same s5 fun _ h=>h.1)⟩
theorem Wu {n:Nat}{r s:List (Bool × List (Fx (Sm n)))}:sU (ST n) (r++s)=sU (ST n) r++sU (ST n) s:=List.flatMap_append
theorem Zq {n:Nat}:∀r:List (Bool × List (Fx (Sm n))),r.length<=(sU (ST n) r).length
 | []=>le_refl _
 | f::r=>by
   have:=Zq r
   show r.length+1<=(sg f.1::pT (ST n) f.2++sU (ST n) r).length
   rw [length_append,length_cons]
   omega
theorem Adp (g:Bool):sg g=43\/sg g=45:=by cases g<;>decide
theorem Aaa {n:Nat}{r:List (Bool × List (Fx (Sm n)))}{rest:List Nat} (h:Hd rest [41]):Hd (sU (ST n) r++rest) [43,45,41]:=by
 cases r with
 | nil=>exact h.up (by decide)
 | cons f r=>
   intro c y
   have d:some (sg f.1)=some c:=y
   cases d
   rcases Adp f.1 with e | e<;>rw [e]<;>decide
def sgL (g:Bool):List Nat:=if g then [45]else []
theorem Afb {n:Nat}{b:Bx (Sm n)}{rest:List Nat}:∃c,(bT (ST n) b++rest).head? =some c/\c≠45:=by
 cases b with
 | x=>exact⟨120,rfl,by decide⟩
 | par s=>exact⟨40,rfl,by decide⟩
 | num m=>
   cases e:dg m with
   | nil=>exact absurd e (N8 m)
   | cons c r=>
     have:=Ks m c (by rw [e];exact mem_cons_self ..)
     exact⟨c,by show(dg m++rest).head? =_;rw [e];rfl,by omega⟩
theorem Afq {n:Nat}{p:List (Fx (Sm n))}{rest:List Nat} (h:pO (SO n) p):∃c,(pT (ST n) p++rest).head? =some c/\c≠45:=by
 cases p with
 | nil=>exact absurd rfl h.1
 | cons f r=>
   show ∃c,(bT (ST n) f.1++_++pU (ST n) r++rest).head? =some c/\c≠45
   rw [append_assoc,append_assoc]
   exact Afb
theorem Afm {H:Hp}{Q:VK}{x:List Nat}{t:Addr} (h:SqT K H t [.str (tx [43]),.str (tx [45])]) (q:Q (.bl (decide (x=[43]\/x=[45]))) H):rIn K false (.str (tx x)) (.ref t) H Q:=by
 refine⟨t,_,rfl,.inr h,rfl,rfl,?_⟩
 have e:inV (.str (tx x)) [.str (tx [43]),.str (tx [45])]=decide (x=[43]\/x=[45]):=by
  unfold inV
  rw [Bool.eq_iff_iff,decide_eq_true_iff]
  simp only [any_cons,List.any_nil,Bool.or_false,or_eq_true,eqV,beq_iff_eq,G5]
  constructor
  . exact fun h=>h.imp Eq.symm Eq.symm
  . exact fun h=>h.imp Eq.symm Eq.symm
 show Q (.bl (inV (.str (tx x)) [.str (tx [43]),.str (tx [45])])) H
 rw [e]
 exact q
theorem Rj {r n:Nat}{f:Addr}{fd:FuncData} (F:Df K mg "sum_form" Ik ["text","start","depth"] f fd)   (G:Cal P w K mg base 33 "sign_at" ["text","place"] (El K)) (y:Cal P w K mg base (34+r) "product_form" ["text","start","depth"] (Hl n K)):Cal P w K mg base (34+(r+1)) "sum_form" ["text","start","depth"] (Gq (n+1) K):=by
 refine F.cal (F.fn.ok Di (fun U H Q E h=> ?_) (fun ac A outer s H U Q E hr h=> ?_))
 . obtain⟨l,rest,a,d,b,rfl,_⟩:=h
   rfl
 obtain⟨l,rest,a,d,p,rfl,hd,ho,hh,hl,hn,k⟩:=h
 refine Av ⟨_,(Ac (Am 3 Di.nd (Cd (Aj Ds (Ai G hr (Aa (Ae 0) (Aa (Ae 1) Ab)) (le_trans (by decide) (le_add_right _ _))) Ao (Aw _)) Ao Ao))
  (Ac (Bm (Ai y hr (Aa (Ae 0) (Aa (Cd (Aj Ds (Ae 3) Ao (Aw _)) (Ag Bv (Ae 1) Ad) (Ae 1)) (Aa (Ae 2) Ab))) (le_refl _)) (Bk rfl (Ak (Aq 5 Di.nd) (Ak (Aq 6 Di.nd) Bd))))
  (Ac (Am 4 Di.nd (Bu (Aa (Ba (Aa (Ae 3) (Aa (Ae 5) Ab))) Ab)))
  (Ac (Dp PassesOwn.never (Aj Wh (Ai G hr (Aa (Ae 0) (Aa (Ae 6) Ab)) (le_trans (by decide) (le_add_right _ _))) (Ba (Aa Ao (Aa Ao Ab))) rfl) (Ac (Am 3 Di.nd (Ai G hr (Aa (Ae 0) (Aa (Ae 6) Ab)) (le_trans (by decide) (le_add_right _ _))))
  (Ac (Bm (Ai y hr (Aa (Ae 0) (Aa (Ag Bv (Ae 6) Ad) (Aa (Ae 2) Ab))) (le_refl _)) (Bk rfl (Ak (Aq 5 Di.nd) (Ak (Aq 6 Di.nd) Bd))))
  (Af (Br (Fo plainAttrs_list PySem.F.slot_list_append PySem.F.type_list_append G3 (Ae 4) (Aa (Ba (Aa (Ae 3) (Aa (Ae 5) Ab))) Ab)))))))
  (Af (Al (Ba (Aa (Ae 4) (Aa (Ae 6) Ab))))))))),?_⟩
 cases p with
 | nil=>exact absurd rfl ho.1
 | cons f r=>
 have a3:=ho.2
 obtain⟨g,p⟩:=f
 have op:pO (SO n) p:=a3 (g,p) (mem_cons_self ..)
 have W:l.drop a=sgL g++(pT (ST n) p++(sU (ST n) r++rest)):=by
  rw [hd,<-append_assoc (pT (ST n) p),<-append_assoc]
  rfl
 have r4:r.length<=400:=by
  have h1:=congrArg List.length W
  have h2:=Zq r
  rw [length_drop,length_append,length_append,length_append]at h1
  omega
 refine Dj (fun I H'=>I=[some (.str (tx l)),some (.int (a:Nat)),some (.int (d:Nat)),some (.str (tx [sg g])),none,none,none]/\H'=H) (fun M hM=> ?_) ?_
 . done
   refine Iz W hl ?_
   try done
   cases g with
   | true=>
     rw [if_pos (Gw.mpr rfl)]
     exact hM _ _ ⟨rfl,rfl⟩
   | false=>
     obtain⟨c,hc,a7⟩:=Afq (rest:=sU (ST n) r++rest) op
     rw [show sgL false++(pT (ST n) p++(sU (ST n) r++rest))=pT (ST n) p++(sU (ST n) r++rest)from rfl,if_neg fun z=>a7 (Option.some.inj (hc.symm.trans (Gw.mp z)))]
     exact hM _ _ ⟨rfl,rfl⟩
 rintro _ H' ⟨rfl,e⟩
 replace e:=e.symm
 subst e
 refine Dj (fun I H'=>∃O,I=[some (.str (tx l)),some (.int (a:Nat)),some (.int (d:Nat)),some (.str (tx [sg g])),none,some O,some (.int ((a+(sgL g++pT (ST n) p).length:Nat):Int))]/\Same H H'/\pR K H' (fun b=>H b=none) (SR K H' (fun b=>H b=none) n) O p) (fun M hM=> ?_) ?_
 . done
   have a4:=Dv W
   cases g with
   | true=>
     rw [if_pos (show tx [sg true]=tx [45]from rfl)]
     refine⟨l,sU (ST n) r++rest,a+1,d,p,by rw [natCast_add];rfl,a4,op,Aaa hh,hl,by omega,fun z O H1 s1 hz hv=> ?_⟩
     refine Cy hz ?_
     try done
     exact hM _ _ ⟨O,by rw [show a+1+(pT (ST n) p).length=a+(sgL true++pT (ST n) p).length by simp [sgL];omega],s1,hv⟩
   | false=>
     rw [if_neg (fun z=>by have:=G5.mp z;revert this;decide)]
     refine⟨l,sU (ST n) r++rest,a,d,p,rfl,a4,op,Aaa hh,hl,by omega,fun z O H1 s1 hz hv=> ?_⟩
     refine Cy hz ?_
     try done
     exact hM _ _ ⟨O,rfl,s1,hv⟩
 rintro _ H1 ⟨O,rfl,s1,hv⟩
 refine Ax fun w0 hw=> ?_
 done
 intro t ht q hq
 have st:=Same.upd ht (.tup [.str (tx [sg g]),O])
 have sq:=Same.upd hq (.lst [.ref t])
 have q0:=Ga (s1.trans st) hq
 subst hw
 refine Dj (fun I H'=>∃ah O U,I=[some (.str (tx l)),some (.int (a:Nat)),some (.int (d:Nat)),some ah,some (.ref q),some O,some (.int ((a+(ST (n+1) ((g,p)::r)).length:Nat):Int))]/\Same H H'/\H' q=some (.lst U)/\A2 (eR K H' (fun b=>H b=none/\b≠q) (SR K H' (fun b=>H b=none/\b≠q) n)) U ((g,p)::r)) (fun M hM=> ?_) ?_
 . refine R0 (fun k I H'=>∃j ah O U,I=[some (.str (tx l)),some (.int (a:Nat)),some (.int (d:Nat)),some ah,some (.ref q),some O,some (.int ((a+(sgL g++(pT (ST n) p++sU (ST n) (r.take j))).length:Nat):Int))]/\j+k=r.length/\Same H H'/\H' q=some (.lst U)/\A2 (eR K H' (fun b=>H b=none/\b≠q) (SR K H' (fun b=>H b=none/\b≠q) n)) U ((g,p)::r.take j)) r.length ⟨0,.str (tx [sg g]),O,[.ref t],?_,zero_add _,s1.trans (st.trans sq),Ah,.one ⟨t,O,rfl,sq.tup (.of Ah),hv.on ⟨fun b Z m e=>⟨⟨m,fun z=> ?_⟩,(st.trans sq) _ _ e⟩,fun _ _ h=>(st.trans sq).tup h⟩⟩⟩ ?_
   . rw [show sU (ST n) (r.take 0)=[]from rfl,append_nil]
   . rw [z]at e
     rw [st _ _ e]at hq
     cases hq
   rintro k' I H2 ⟨j,ah,a5,Z,rfl,hj,s3,it,al⟩
   done
   have a0:l.drop (a+(sgL g++(pT (ST n) p++sU (ST n) (r.take j))).length)=sU (ST n) (r.drop j)++rest:=by
    refine Dv ?_
    rw [W,append_assoc,append_assoc,<-append_assoc (sU (ST n) (r.take j)),<-Wu,take_append_drop]
   refine Iz a0 hl ?_
   try done
   intro t2 a8
   have L:=Same.upd a8 (.tup [.str (tx [43]),.str (tx [45])])
   refine Afm (.of Ah) ?_
   refine⟨_,rfl,?_⟩
   by_cases c1:j<r.length
   . obtain⟨e,eg⟩:∃e,r[j]? =some e:=⟨_,getElem?_eq_getElem c1⟩
     have ed:r.drop j=e::r.drop (j+1):=by
      obtain⟨h1,h2⟩:=List.getElem?_eq_some_iff.mp eg
      rw [<-h2]
      exact drop_eq_getElem_cons h1
     have a1:l.drop (a+(sgL g++(pT (ST n) p++sU (ST n) (r.take j))).length)=sg e.1::(pT (ST n) e.2++(sU (ST n) (r.drop (j+1))++rest)):=by
      rw [a0,ed]
      show sg e.1::(pT (ST n) e.2)++sU (ST n) (r.drop (j+1))++rest=_
      rw [append_assoc]
      rfl
     have e1:(sU (ST n) (r.drop j)++rest).take 1=[sg e.1]:=by rw [<-a0,a1];rfl
     rw [e1,decide_eq_true (by rcases Adp e.1 with h | h<;>rw [h]<;>simp),if_pos rfl]
     refine Abo ?_
     refine Ax fun w0 hw=> ?_
     done
     refine Iz a1 hl ?_
     rw [List.take_succ_cons,List.take_zero]
     try done
     subst hw
     refine Ax fun w0 hw=> ?_
     done
     refine⟨l,sU (ST n) (r.drop (j+1))++rest,a+(sgL g++(pT (ST n) p++sU (ST n) (r.take j))).length+1,d,e.2,by rw [natCast_add _ 1];rfl,Dv (r:=[sg e.1]) a1,a3 e (mem_cons_of_mem _ (List.mem_of_getElem? eg)),Aaa hh,hl,by omega,fun z2 vg H3 s4 a9 hg=> ?_⟩
     refine Cy a9 ?_
     try done
     subst hw
     try done
     have a6:=(L.trans s4) _ _ it
     refine⟨.inl ⟨rfl,_,.of a6⟩,fun t4 aa=> ?_⟩
     have s5:=Same.upd aa (.tup [.str (tx [sg e.1]),vg])
     have Y:=s5 _ _ a6
     have a2:=(L.trans s4).trans s5
     refine⟨q,Z,_,rfl,rfl,Y,lt_of_lt_of_le (show Z.length<1000 by rw [al.1,length_cons,length_take];omega) (by decide),k'-1,by omega,j+1,.str (tx [sg e.1]),vg,Z++ [.ref t4],?_,by omega,(s3.trans a2).put q0,Ah,?_⟩
     . rw [take_snoc eg,Wu,show a+(sgL g++(pT (ST n) p++(sU (ST n) (r.take j)++sU (ST n) [e]))).length=a+(sgL g++(pT (ST n) p++sU (ST n) (r.take j))).length+1+(pT (ST n) e.2).length by simp [sU];omega]
     . rw [take_snoc eg]
       have ne:∀b,H2 b=none->b≠q:=fun b m z=>by rw [z,it]at m;cases m
       refine(al.imp fun v e' h=>h.on (H':=upd (upd H3 t4 (.tup [.str (tx [sg e.1]),vg])) q (.lst (Z++ [.ref t4]))) ⟨fun b U m e=>⟨m,by rw [Bl m.2];exact a2 _ _ e⟩,fun _ _ h=>Nu (a2.tup h) Y⟩).snoc ⟨t4,vg,rfl,Nu (.of Ah) Y,hg.on ⟨fun b U m e=>⟨⟨Ga s3 (Ga L m),ne b (Ga L m)⟩,by rw [Bl (ne b (Ga L m))];exact s5 _ _ e⟩,fun _ _ h=>Nu (s5.tup h) Y⟩⟩
   . have ej:r.take j=r:=take_of_length_le (by omega)
     rw [ej]at al ⊢
     rw [show r.drop j=[]from drop_eq_nil_of_le (by omega)]
     have e0:¬((sU (ST n) []++rest).take 1=[43]\/(sU (ST n) []++rest).take 1=[45]):=by
      show ¬(rest.take 1=[43]\/rest.take 1=[45])
      cases rest with
      | nil=>simp
      | cons c rest=>
        have:=hh c rfl
        have ab:c=41:=by simpa using this
        subst ab
        simp
     rw [decide_eq_false e0,if_neg (by decide)]
     exact hM _ _ ⟨ah,a5,Z,rfl,s3.trans L,L _ _ it,al.imp fun v e h=>h.on (Kp2.same L fun _ h=>h)⟩
 rintro _ H4 ⟨ah,a5,Z,rfl,s4,it,al⟩
 done
 intro z hz
 have s5:=Same.upd hz (.tup [.ref q,.int ((a+(ST (n+1) ((g,p)::r)).length:Nat):Int)])
 exact k z (.ref q) _ (s4.trans s5) (.of Ah) ⟨q,Z,rfl,q0,s5 _ _ it,al.imp fun v e h=>h.on (Kp2.same s5 fun _ h=>h.1)⟩
theorem Rh {f:Addr}{fd:FuncData} (F:Df K mg "sum_form" Ik ["text","start","depth"] f fd) {U:Addr}{O:FuncData} (W:Df K mg "product_form" En ["text","start","depth"] U O) {Z:Addr}{Y:FuncData} (a0:Df K mg "factor_form" Ft ["text","start","depth"] Z Y) {a2:Addr}{a1:FuncData} (a3:Df K mg "base_form" G9 ["text","start","depth"] a2 a1)  (L:∃u,mg "GREATEST_POWER"=some u/\RelV (V.int 16) u) (M:∃u,mg "MOST_BRACKETS"=some u/\RelV (V.int 10) u) (G:Cal P w K mg base 33 "sign_at" ["text","place"] (El K)) (I:Cal P w K mg base 34 "number_form" ["text","start"] (Ep K)) (y:Cal P w K mg base 33 "refuse_unless" ["fits"] (Ca K)) (c_poly:Cal P w K mg base 33 "poly" ["weights"] (Kl K)):Cal P w K mg base 78 "sum_form" ["text","start","depth"] (M5 K):=by
 suffices main:∀n:Nat,Cal P w K mg base (34+4*n) "sum_form" ["text","start","depth"] (Gq n K)from main 11
 intro n
 induction n with
 | zero=>
   refine F.cal (F.fn.ok (k:=34-1) Di (fun vs H Q E h=> ?_) (fun a4 A outer s H vs Q E hr h=> ?_))
   . obtain⟨l,rest,a,d,s,rfl,_⟩:=h
     rfl
   . obtain⟨l,rest,a,d,s,_⟩:=h
     exact s.elim
 | succ n ih=>exact Rj F G (Mg W G (Nf a0 L I y G (Py a3 M y G I c_poly ih)))
def Mx (K:Frag):Sp:=fun vs H Q _=>∃(x:V) (p:List Int) (l n:Nat),vs=[x]/\Po K H x p l n/\Q (.int ((p.length:Int)-1)) H
theorem V7 {f:Addr}{fd:FuncData} (F:Df K mg "degree" Oh ["one"] f fd)  (z_len:mg "len"=none)   :Cal P w K mg base 33 "degree" ["one"] (Mx K):=by
 refine F.cal (F.fn.ok Ww (fun d H Q E h=> ?_) (fun y A outer s H d Q E I h=> ?_))
 . obtain⟨x,p,_,_,rfl,_⟩:=h
   rfl
 obtain⟨x,p,l,n,rfl,⟨⟨a,rfl,G⟩,tp,L,M⟩,k⟩:=h
 refine Av ⟨_,(Af (Al (Ag Fi (Az Bg rfl z_len PySem.boot_len (Aa (Ae 0) Ab)) Ad))),?_⟩
 done
 refine⟨a,_,rfl,.inr G,?_⟩
 repeat (first | done | simp only [length_map])
 exact k
theorem Zz {H:Hp}{Q:VK}{E:XK}{a:Addr}{ns:List Int} (d:SqL K H a (ns.map V.int)) (y:ns.length<=1000) (h:∀z H',Same H H'->SqT K H' z ((trim ns).map V.int)->Q (.ref z) H'):Kl K [.ref a] H Q E:=⟨a,ns,rfl,by first | exact d | exact .inl d,y,h⟩
def Ah2 (K:Frag) (c:List Int->List Int->Prop):Sp:=fun vs H Q _=>∃(x y:V) (p q:List Int) (l l' n n':Nat),vs=[x,y]/\Po K H x p l n/\Po K H y q l' n'/\l<=500/\l'<=500/\c p q/\∀z H',Same H H'->Po K H' z (ta p q) (max l l') (max n n'+1)->Q z H'
def Uy (K:Frag):Sp:=Ah2 K fun p q=>q.length<=p.length
def Jz (K:Frag):Sp:=Ah2 K fun _ _=>True
theorem Ui {f:Addr}{fd:FuncData} (F:Df K mg "p_plus" Lk ["one","other"] f fd) (z_list:mg "list"=none) (z_enumerate:mg "enumerate"=none) (z_len:mg "len"=none)  (c_poly:Cal P w K mg base 33 "poly" ["weights"] (Kl K)):Cal P w K mg base 34 "p_plus" ["one","other"] (Uy K):=by
 refine F.cal (F.fn.ok Ey (fun vs H Q E h=> ?_) (fun a3 A outer s H vs Q E hr h=> ?_))
 . obtain⟨x,y,p,q,_,_,_,_,rfl,_⟩:=h
   rfl
 obtain⟨x,y,p,q,l,l',n,n',rfl,⟨⟨a,rfl,ha⟩,tp,lp,zp⟩,⟨⟨b,rfl,hb⟩,tq,lq,zq⟩,l5,a4,hc,k⟩:=h
 refine Av ⟨_,(Ac (Bb (Aj P0 (Az Bg rfl z_len PySem.boot_len (Aa (Ae 0) Ab)) (Az Bg rfl z_len PySem.boot_len (Aa (Ae 1) Ab)) (Aw _)) (Af G7) Ay)
  (Ac (Am 2 Ey.nd (Bh Et rfl z_list boot_list (Aa (Ae 0) Ab)))
  (Ac (Cj PassesOwn.never rfl (Ie rfl z_enumerate (Aa (Ae 1) Ab)) (Bk rfl (Ak (Aq 3 Ey.nd) (Ak (Aq 4 Ey.nd) Bd))) (Af (Bm (Ag Bv (Bf Dd (Ae 2) (Ae 3) (fun _ _=>rfl)) (Ae 4)) (Gy (Ae 2) (Ae 3) set_list))))
  (Af (Al (Ai c_poly hr (Aa (Ae 2) Ab))))))),?_⟩
 done
 refine⟨a,_,rfl,.inr ha,b,_,rfl,.inr hb,?_⟩
 repeat (first | done | simp only [length_map])
 have a0:¬((p.length:Nat):Int)<(q.length:Nat):=by omega
 rw [if_neg a0]
 refine⟨a,_,rfl,.inr ha,fun l0 hn=> ?_⟩
 have s0:=Same.upd hn (.lst (p.map V.int))
 try done
 refine⟨⟨_,s0.tup hb⟩,T9 (es:=q) (inj:=V.int) (fun d σ H'=>∃(U W:Option V) (ms:List Int),σ=[some (.ref a),some (.ref b),some (.ref l0),U,W]/\Same H H'/\H' l0=some (.lst (ms.map V.int))/\ms.length=p.length/\∀i,co ms i=co p i+co d i)
  ⟨_,_,p,rfl,s0,Ah,rfl,fun i=>by rw [Jr,add_zero]⟩ ?_ ?_ ?_⟩
 . rintro d σ H' ⟨U,W,ms,rfl,I,_⟩
   exact I.tup hb
 . rintro d e a2 σ H' p1 he ⟨U,W,ms,rfl,I,hm,L,G⟩ a1
   refine Cy (.of Ah) ?_
   have M:=congrArg List.length he
   rw [length_append,length_cons]at M
   have Y:d.length<ms.length:=by omega
   have Z:=Same.upd a1 (.tup [V.int (d.length:Nat),V.int e])
   have O:=Z _ _ hm
   try done
   refine Tq (.of O) (Lg Y) ?_
   try done
   refine Ua O (by rw [length_map];exact Y) ?_
   try done
   rw [Lp]
   refine⟨_,_,ms.set d.length (ms[d.length]+e),rfl,?_,Ah,by rw [length_set];exact L,fun i=> ?_⟩
   . intro c o hc
     rw [Bl (Bs hc hn)]
     exact Z _ _ (I _ _ hc)
   . rw [R6 _ _ _ Y,J7,G i]
     by_cases hi:i=d.length
     . subst hi
       rw [if_pos rfl,if_pos rfl,<-Du Y,G,Eu (p:=d) (le_refl _)]
       omega
     . rw [if_neg hi,if_neg hi]
 . rintro σ H' ⟨U,W,ms,rfl,I,hm,L,G⟩
   try done
   refine Zz (.of hm) (by omega) fun z H2 Z hz=>k _ _ (I.trans Z) ⟨⟨z,rfl,?_⟩,Qn _ _,?_,fun i=> ?_⟩
   . have e:trim ms=ta p q:=Nv fun i=>by rw [G,Va]
     rw [<-e]
     exact hz
   . have:=Zw p q
     omega
   . rw [Rx]
     exact(zp i).add (zq i)
theorem V8 {f:Addr}{fd:FuncData} (F:Df K mg "p_plus" Lk ["one","other"] f fd)  (z_list:mg "list"=none) (z_enumerate:mg "enumerate"=none) (z_len:mg "len"=none)  (c_poly:Cal P w K mg base 33 "poly" ["weights"] (Kl K)):Cal P w K mg base 35 "p_plus" ["one","other"] (Jz K):=by
 have G:=Ui F (z_len:=z_len) (z_list:=z_list) (z_enumerate:=z_enumerate) (c_poly:=c_poly)
 refine F.cal (F.fn.ok Ey (fun vs H Q E h=> ?_) (fun a3 A outer s H vs Q E hr h=> ?_))
 . obtain⟨x,y,p,q,_,_,_,_,rfl,_⟩:=h
   rfl
 obtain⟨x,y,p,q,l,l',n,n',rfl,⟨⟨a,rfl,ha⟩,tp,lp,zp⟩,⟨⟨b,rfl,Y⟩,tq,lq,zq⟩,l5,a0,hc,k⟩:=h
 refine Av ⟨_,(Ac (Bb (Aj P0 (Az Bg rfl z_len PySem.boot_len (Aa (Ae 0) Ab)) (Az Bg rfl z_len PySem.boot_len (Aa (Ae 1) Ab)) (Aw _)) (Af (Al (Ai G hr (Aa (Ae 1) (Aa (Ae 0) Ab))))) Ay)
  (Ac (Am 2 Ey.nd (Bh Et rfl z_list boot_list (Aa (Ae 0) Ab)))
  (Ac (Cj PassesOwn.never rfl (Ie rfl z_enumerate (Aa (Ae 1) Ab)) (Bk rfl (Ak (Aq 3 Ey.nd) (Ak (Aq 4 Ey.nd) Bd))) (Af (Bm (Ag Bv (Bf Dd (Ae 2) (Ae 3) (fun _ _=>rfl)) (Ae 4)) (Gy (Ae 2) (Ae 3) set_list))))
  (Af (Al (Ai c_poly hr (Aa (Ae 2) Ab))))))),?_⟩
 done
 refine⟨a,_,rfl,.inr ha,b,_,rfl,.inr Y,?_⟩
 repeat (first | done | simp only [length_map])
 by_cases L:((p.length:Nat):Int)<(q.length:Nat)
 . rw [if_pos L]
   refine⟨_,_,q,p,l',l,n',n,rfl,⟨⟨b,rfl,Y⟩,tq,lq,zq⟩,⟨⟨a,rfl,ha⟩,tp,lp,zp⟩,a0,l5,by omega,fun z H' s i=>k z H' s ?_⟩
   rw [Abj p q,Nat.max_comm l l',Nat.max_comm n n']
   exact i
 rw [if_neg L]
 refine⟨a,_,rfl,.inr ha,fun l0 hn=> ?_⟩
 have s0:=Same.upd hn (.lst (p.map V.int))
 try done
 refine⟨⟨_,s0.tup Y⟩,T9 (es:=q) (inj:=V.int) (fun d σ H'=>∃(Z o2:Option V) (ms:List Int),σ=[some (.ref a),some (.ref b),some (.ref l0),Z,o2]/\Same H H'/\H' l0=some (.lst (ms.map V.int))/\ms.length=p.length/\∀i,co ms i=co p i+co d i)
  ⟨_,_,p,rfl,s0,Ah,rfl,fun i=>by rw [Jr,add_zero]⟩ ?_ ?_ ?_⟩
 . rintro d σ H' ⟨Z,o2,ms,rfl,M,_⟩
   exact M.tup Y
 . rintro d e a2 σ H' p1 he ⟨Z,o2,ms,rfl,M,hm,O,I⟩ a1
   refine Cy (.of Ah) ?_
   have U:=congrArg List.length he
   rw [length_append,length_cons]at U
   have hj:d.length<ms.length:=by omega
   have s2:=Same.upd a1 (.tup [V.int (d.length:Nat),V.int e])
   have W:=s2 _ _ hm
   try done
   refine Tq (.of W) (Lg hj) ?_
   try done
   refine Ua W (by rw [length_map];exact hj) ?_
   try done
   rw [Lp]
   refine⟨_,_,ms.set d.length (ms[d.length]+e),rfl,?_,Ah,by rw [length_set];exact O,fun i=> ?_⟩
   . intro c o hc
     rw [Bl (Bs hc hn)]
     exact s2 _ _ (M _ _ hc)
   . rw [R6 _ _ _ hj,J7,I i]
     by_cases hi:i=d.length
     . subst hi
       rw [if_pos rfl,if_pos rfl,<-Du hj,I,Eu (p:=d) (le_refl _)]
       omega
     . rw [if_neg hi,if_neg hi]
 . rintro σ H' ⟨Z,o2,ms,rfl,M,hm,O,I⟩
   try done
   refine Zz (.of hm) (by omega) fun z H2 s2 hz=>k _ _ (M.trans s2) ⟨⟨z,rfl,?_⟩,Qn _ _,?_,fun i=> ?_⟩
   . have e:trim ms=ta p q:=Nv fun i=>by rw [I,Va]
     rw [<-e]
     exact hz
   . have:=Zw p q
     omega
   . rw [Rx]
     exact(zp i).add (zq i)
def Ql (K:Frag):Sp:=fun vs H Q _=>∃(x:V) (c:Int) (p:List Int) (l n m:Nat),vs=[x,.int c]/\Po K H x p l n/\Sz m c/\l<=500/\n+m<=100000000/\∀z H',Same H H'->Po K H' z (ng p c) l (n+m)->Q z H'
theorem Wd {f:Addr}{fd:FuncData} (F:Df K mg "scaled" Ln ["one","factor"] f fd)  (d:mg "tuple"=none)   :Cal P w K mg base 33 "scaled" ["one","factor"] (Ql K):=by
 refine F.cal (F.fn.ok Wx (fun vs H Q E h=> ?_) (fun a0 A outer s H vs Q E hr h=> ?_))
 . obtain⟨x,c,p,_,_,_,rfl,_⟩:=h
   rfl
 obtain⟨x,c,p,l,n,m,rfl,⟨⟨a,rfl,O⟩,tp,L,U⟩,W,l5,hz,k⟩:=h
 refine Av ⟨_,(Ac (Bb (Aj Ds (Ae 1) Ad (Aw _)) (Af (Al (Ba Ab))) Ay)
  (Af (Al (Bh Dr rfl d boot_tuple (Aa (Ek (ts:=["weight"]) (fs:=[(1,"factor")]) rfl (Cz.of (sc:=Ar Ln) (N:=["one","factor"]) rfl rfl (by decide+kernel)) (Jm (Ae 0)) (fun _ _ _=>(Aq 0 (show Nodup (["weight","factor"]:List Str)by decide+kernel))) (fun _ _ _=>Gz) (fun _ _ _=>(Ag Gb (Ae 0) (Ae 1)))) Ab))))),?_⟩
 done
 have G:∀i,Sz (n+m) (co (ng p c) i):=fun i=>by
  rw [V5]
  exact(U i).mul W
 by_cases I:c=0
 . rw [if_pos I]
   refine⟨by decide,fun z y=>k _ _ (Same.upd y _) ⟨⟨z,rfl,?_⟩,Ej _,?_,G⟩⟩
   . have e:ng p c=[]:=(Ej _).ext (.inl rfl) fun i=>by
      have:=V5 p c i
      rw [I,mul_zero]at this
      rw [Jr,<-this,I,ng]
     rw [e]
     exact .of Ah
   . have:=Ti (p.map (· *c))
     rw [length_map]at this
     exact le_trans this L
 . rw [if_neg I]
   refine⟨⟨_,O⟩,fun p1 M=>N6 (es:=p) (inj:=V.int) (fun w=> .int (w*c)) (le_trans L (le_trans l5 (by decide))) M (Tp O) ?_ ?_⟩
   . intro e H2 R he Y hR
     done
     obtain⟨i,hi,ei⟩:=getElem_of_mem he
     have Z:=U i
     rw [Du hi,ei]at Z
     exact⟨Z.mulOk W (by omega),hR _ (Same.refl _)⟩
   . intro H2 Y h2
     try done
     have e:ng p c=p.map (· *c):=Ow (.of (by
      by_cases hp:p=[]
      . left;rw [hp];rfl
      . right
        have:=tp.lead hp
        rw [length_map,<-Gs,show trim (p.map (· *c))=ng p c from rfl,V5]
        exact Int.mul_ne_zero this I))
     refine⟨p1,_,rfl,.inl ⟨.of h2,fun z y=>k _ _ (Y.trans (Same.upd y _)) ⟨⟨z,rfl,?_⟩,Ej _,?_,G⟩⟩⟩
     . rw [e,map_map]
       exact .of Ah
     . rw [e,length_map]
       exact L
def Kh (K:Frag):Sp:=fun vs H Q _=>∃(x y:V) (p q:List Int) (l l' n n':Nat),vs=[x,y]/\Po K H x p l n/\Po K H y q l' n'/\l<=500/\l'<=500/\n'<=10000000/\∀z H',Same H H'->Po K H' z (ta p (ng q (-1))) (max l l') (max n (n'+1)+1)->Q z H'
theorem Uh {f:Addr}{fd:FuncData} (F:Df K mg "p_minus" Mp ["one","other"] f fd)    (d:Cal P w K mg base 35 "p_plus" ["one","other"] (Jz K)) (G:Cal P w K mg base 33 "scaled" ["one","factor"] (Ql K)):Cal P w K mg base 36 "p_minus" ["one","other"] (Kh K):=by
 refine F.cal (F.fn.ok Uw (fun W H Q E h=> ?_) (fun Y A outer s H W Q E L h=> ?_))
 . obtain⟨x,y,p,q,_,_,_,_,rfl,_⟩:=h
   rfl
 obtain⟨x,y,p,q,l,M,n,O,rfl,Z,hy,l5,I,hn,k⟩:=h
 refine Av ⟨_,(Af (Al (Ai d L (Aa (Ae 0) (Aa (Ai G L (Aa (Ae 1) (Aa (Em Ja Ad) Ab))) Ab))))),?_⟩
 done
 refine⟨y,-1,q,M,O,1,rfl,hy,by unfold Sz;decide,I,by omega,fun z H1 U hz=> ?_⟩
 try done
 exact⟨x,z,p,ng q (-1),l,M,n,O+1,rfl,Z.mono U,hz,l5,I,trivial,fun z2 H2 s2 h2=>k z2 H2 (U.trans s2) h2⟩
theorem Acu {q:List Int}{n d:Nat} (F:∀i,Sz d (co q i)):∀(p:List Int),(∀x∈p,Sz n x)->∀i,Sz (n+d+p.length) (mu p (co q) i)
 | [],_,i=>by
   have y:0<2^(n+d+([]:List Int).length):=pow_pos (by decide)
   exact y
 | a::p,h,i=>by
   have G:=Acu F p fun x I=>h x (mem_cons_of_mem _ I)
   have h1:=(h a mem_cons_self).mul (F i)
   have h2:Sz (n+d+p.length) (sh (mu p (co q)) i):=by
    cases i with
    | zero=>
      have y:0<2^(n+d+p.length):=pow_pos (by decide)
      exact y
    | succ i=>exact G i
   exact(h1.add h2).mono (by simp only [length_cons];omega)
theorem Po.mem {K:Frag}{H:Hp}{v:V}{p:List Int}{l n:Nat} (h:Po K H v p l n):∀x∈p,Sz n x:=fun x d=>by
 obtain⟨i,hi,y⟩:=getElem_of_mem d
 have z:=h.2.2.2 i
 rw [Du hi,y]at z
 exact z
def Ip (K:Frag):Sp:=fun vs H Q _=>∃(x y:V) (p q:List Int) (l l' n n':Nat),vs=[x,y]/\Po K H x p l n/\Po K H y q l' n'/\l<=500/\l'<=500/\n+n'<=100000000/\∀z H',Same H H'->Po K H' z (tm p q) (l+l') (n+n'+l)->Q z H'
theorem Uj {f:Addr}{fd:FuncData} (F:Df K mg "p_times" Mq ["one","other"] f fd)  (z_enumerate:mg "enumerate"=none) (M:mg "tuple"=none) (z_len:mg "len"=none)   :Cal P w K mg base 33 "p_times" ["one","other"] (Ip K):=by
 refine F.cal (F.fn.ok Fw (fun vs H Q E h=> ?_) (fun ag A outer s H vs Q E hr h=> ?_))
 . obtain⟨x,y,p,q,_,_,_,_,rfl,_⟩:=h
   rfl
 obtain⟨x,y,p,q,l,l',n,n',rfl,hx,hy,l5,ah,hn,k⟩:=h
 have mx:=hx.mem
 have my:=hy.mem
 obtain⟨⟨a,rfl,ha⟩,tp,lp,zp⟩:=hx
 obtain⟨⟨b,rfl,hb⟩,tq,lq,zq⟩:=hy
 have res:∀(z:Addr) (H':Hp),Same H H'->SqT K H' z ((tm p q).map V.int)->Q (.ref z) H':=fun z H' s O=>by
  refine k _ _ s ⟨⟨z,rfl,O⟩,Ov _ _,?_,fun i=> ?_⟩
  . by_cases h1:p=[]
    . rw [h1,Ry,Tg]
      exact zero_le _
    . by_cases h2:q=[]
      . rw [h2,Tg]
        exact zero_le _
      . have:=Zx tp tq h1 h2
        omega
  . rw [Nh]
    exact(Acu zq p mx i).mono (by omega)
 refine Av ⟨_,(Ac (Bb (Dc (Gj (Aj (Mi hr.units) (Ae 0) (Ba Ab) (Aw _)) (Fz (Aj (Mi hr.units) (Ae 1) (Ba Ab) (Aw _))))) (Af (Al (Ba Ab))) Ay)
  (Ac (Am 2 Fw.nd (Ag Sy (Bu (Aa Ad Ab)) (Ag Fi (Ag Bv (Az Bg rfl z_len PySem.boot_len (Aa (Ae 0) Ab)) (Az Bg rfl z_len PySem.boot_len (Aa (Ae 1) Ab))) Ad)))
  (Ac (Cj PassesOwn.never rfl (Ie rfl z_enumerate (Aa (Ae 0) Ab)) (Bk rfl (Ak (Aq 3 Fw.nd) (Ak (Aq 4 Fw.nd) Bd))) (Af (Bb (Aj Qa (Ae 4) Ad (Aw _)) (Af (Cj PassesOwn.never rfl (Ie rfl z_enumerate (Aa (Ae 1) Ab)) (Bk rfl (Ak (Aq 5 Fw.nd) (Ak (Aq 6 Fw.nd) Bd))) (Af (Bm (Ag Bv (Bf Dd (Ae 2) (Ag Bv (Ae 3) (Ae 5)) (fun _ _=>rfl)) (Ag Gb (Ae 4) (Ae 6))) (Gy (Ae 2) (Ag Bv (Ae 3) (Ae 5)) set_list))))) Ay)))
  (Af (Al (Bh Dr rfl M boot_tuple (Aa (Ae 2) Ab))))))),?_⟩
 done
 refine⟨by decide,fun p1 a9=> ?_⟩
 have s1:=Same.upd a9 (.tup [])
 refine R9 (ms:=[]) (s1.tup ha) (.of Ah) ?_
 try done
 by_cases h1:p=[]
 . rw [if_pos h1]
   refine⟨by decide,fun z O=>res z _ (s1.trans (Same.upd O _)) ?_⟩
   rw [h1,Ry,Tg]
   exact .of Ah
 rw [if_neg h1]
 refine⟨by decide,fun p2 aa=> ?_⟩
 have s2:=s1.trans (Same.upd aa (.tup []))
 refine R9 (ms:=[]) (s2.tup hb) (.of Ah) ?_
 try done
 by_cases h2:q=[]
 . rw [if_pos h2]
   refine⟨by decide,fun z O=>res z _ (s2.trans (Same.upd O _)) ?_⟩
   rw [h2,Tg]
   exact .of Ah
 rw [if_neg h2]
 intro p3 ab
 have s3:=s2.trans (Same.upd ab (.lst [V.int 0]))
 have q1:=length_pos_iff.mpr h1
 have q2:=length_pos_iff.mpr h2
 have ai:1000<=sizeLine:=by decide
 refine⟨a,_,rfl,.inr (s3.tup ha),b,_,rfl,.inr (s3.tup hb),?_⟩
 simp only [length_map]
 have hN:((p.length:Int)+(q.length:Int)-1).toNat=p.length+q.length-1:=by omega
 refine⟨p3,_,[V.int 0],rfl,rfl,Ah,by omega,by omega,by rw [hN];simp only [length_cons,length_nil];omega,fun l0 hn=> ?_⟩
 rw [hN,Js]
 have ac:H l0=none:=Same.free s3 hn
 have s4:=s3.trans (Same.upd hn (.lst ((replicate (p.length+q.length-1) (0:Int)).map V.int)))
 refine⟨⟨_,s4.tup ha⟩,T9 (es:=p) (inj:=V.int) (fun G σ H'=>∃(o1 o2 W Y:Option V) (ms:List Int),σ=[some (.ref a),some (.ref b),some (.ref l0),o1,o2,W,Y]/\Same H H'/\H' l0=some (.lst (ms.map V.int))/\ms.length=p.length+q.length-1/\∀i,co ms i=mu G (co q) i)
  ⟨_,_,_,_,replicate (p.length+q.length-1) 0,rfl,s4,Ah,by rw [length_replicate],fun i=> ?_⟩ ?_ ?_ ?_⟩
 . show _=0
   unfold co
   rw [getD_eq_getElem?_getD,getElem?_replicate]
   split<;>rfl
 . rintro G σ H' ⟨o1,o2,W,Y,ms,rfl,s5,_⟩
   exact s5.tup ha
 . rintro G e af σ H' p4 he ⟨o1,o2,W,Y,ms,rfl,s5,hm,a1,Z⟩ a4
   refine Cy (.of Ah) ?_
   have a5:=congrArg List.length he
   rw [length_append,length_cons]at a5
   have ez:Sz n e:=mx e (by rw [he];simp)
   have s6:=s5.trans (Same.upd a4 (.tup [V.int (G.length:Nat),V.int e]))
   have a6:=Same.upd a4 (.tup [V.int (G.length:Nat),V.int e]) _ _ hm
   try done
   by_cases O:e=0
   . rw [if_pos O]
     exact⟨_,_,_,_,ms,rfl,s6,a6,a1,fun i=>by rw [Od,Z,O];simp⟩
   . rw [if_neg O]
     refine⟨⟨_,s6.tup hb⟩,T9 (es:=q) (inj:=V.int) (fun d σ H2=>∃(W Y:Option V) (I:List Int),σ=[some (.ref a),some (.ref b),some (.ref l0),some (.int (G.length:Nat)),some (.int e),W,Y]/\Same H H2/\H2 l0=some (.lst (I.map V.int))/\I.length=p.length+q.length-1/\
      ∀i,co I i=mu G (co q) i+(if G.length<=i then e*co d (i-G.length)else 0)) ⟨_,_,ms,rfl,s6,a6,a1,fun i=> ?_⟩ ?_ ?_ ?_⟩
     . rw [Z,Jr,mul_zero]
       split<;>simp
     . rintro d σ H2 ⟨W,Y,I,rfl,s7,_⟩
       exact s7.tup hb
     . rintro d f ad σ H2 p5 a7 ⟨W,Y,I,rfl,s7,a2,U,L⟩ ae
       refine Cy (.of Ah) ?_
       have a3:=congrArg List.length a7
       rw [length_append,length_cons]at a3
       have fz:Sz n' f:=my f (by rw [a7];simp)
       have hj:G.length+d.length<I.length:=by omega
       have s8:=Same.upd ae (.tup [V.int (d.length:Nat),V.int f])
       have a8:=s8 _ _ a2
       repeat (first | done | simp only [<-natCast_add])
       refine Tq (.of a8) (Lg hj) ?_
       try done
       refine⟨ez.mulOk fz (by omega),?_⟩
       refine Ua a8 (by rw [length_map];exact hj) ?_
       try done
       rw [Lp]
       refine⟨_,_,I.set (G.length+d.length) (I[G.length+d.length]+e*f),rfl,?_,Ah,by rw [length_set];exact U,fun i=> ?_⟩
       . intro c o hc
         rw [Bl (Bs hc ac)]
         exact s8 _ _ (s7 _ _ hc)
       . rw [R6 _ _ _ hj,J7,L i]
         by_cases hi:i=G.length+d.length
         . subst hi
           rw [if_pos rfl,<-Du hj,L,if_pos (by omega),if_pos (by omega),if_pos (by omega),show G.length+d.length-G.length=d.length by omega,Eu (p:=d) (le_refl _)]
           omega
         . rw [if_neg hi]
           by_cases a0:G.length<=i
           . rw [if_pos a0,if_pos a0,if_neg (by omega)]
           . rw [if_neg a0,if_neg a0]
     . rintro σ H2 ⟨W,Y,I,rfl,s7,a2,U,L⟩
       try done
       exact⟨_,_,_,_,I,rfl,s7,a2,U,fun i=>by rw [Od,L]⟩
 . rintro σ H' ⟨o1,o2,W,Y,ms,rfl,s5,hm,a1,Z⟩
   try done
   have e:ms=tm p q:=by
    have tl:=Zx tp tq h1 h2
    refine List.ext_getElem (by omega) fun i g1 g2=> ?_
    rw [<-Du g1,<-Du g2,Z,Nh]
   refine⟨l0,_,rfl,.inl ⟨.of hm,fun z O=>res z _ (s5.trans (Same.upd O _)) ?_⟩⟩
   rw [<-e]
   exact .of Ah
inductive TyA (K:Frag) (H:Hp):V->Value->Prop where
 | of {v:V}{t:Value} (h:R3 K H v t):TyA K H v t
 | tup {a:Addr}{xs:List V} (h:SqT K H a xs):TyA K H (.ref a) (.type "tuple")
theorem Fp {X:Cx}:Gx X (.builtin "isinstance") (fun xs H Q=>∃x t T b,xs=[x,.ty T]/\TyA X.K H x t/\kitOne X.K t (.type T)=some b/\Q (.bl b) H):=by
 intro pins s σ H xs y Q I r h
 obtain⟨x,t,T,b,rfl,d,F,q⟩:=h
 cases d with
 | of d=>exact N5 pins s σ H _ y Q I r ⟨x,t,T,b,rfl,d,F,q⟩
 | tup G=>exact Xl pins s σ H _ y Q I r ⟨_,_,T,b,rfl,G,F,q⟩
theorem isa {H:Hp}{d:Bool->Prop}{v:V}{t:Value}{T:String}{b:Bool} (I:TyA K H v t) (L:kitOne K t (.type T)=some b) (q:d b):
 ∃x y F G,[v,V.ty T]=[x,V.ty F]/\TyA K H x y/\kitOne K y (.type F)=some G/\d G:=⟨v,t,T,b,rfl,I,L,q⟩
theorem Abv {T U:String}{b:Bool} (h:(if(Value.type T==Value.type U)=true then some true else if PySem.W.kitMeta U=true then subIn [] (.type T) (.type U)else none)=some b):kitOne K (.type T) (.type U)=some b:=h
theorem Bt.po {H:Hp}{z:Addr}{p:List Int} (h:Bt p) (t:SqT K H z (p.map V.int)):Po K H (.ref z) p 17 200:=⟨⟨z,rfl,t⟩,h.1,h.2.1,Afd (by decide) fun x d=>lt_trans (h.2.2 x d) (by decide)⟩
theorem Po.cut {H:Hp}{v:V}{p:List Int}{l n:Nat} (h:Po K H v p l n) (b:Bnd p):Po K H v p 17 200:=by
 obtain⟨⟨a,rfl,t⟩,d,_⟩:=h
 exact Bt.po ⟨d,b⟩ t
def G4 (K:Frag):Sp:=fun vs H Q _=>∃(v:V) (p:List Int) (l n:Nat),vs=[v]/\Po K H v p l n/\Bnd p/\∀H',Same H H'->Q v H'
theorem Ue {f:Addr}{fd:FuncData} (F:Df K mg "bounded" Ju ["p"] f fd)  (G:mg "any"=none) (I:mg "abs"=none) (d:∃u,mg "GREATEST_POWER"=some u/\RelV (V.int 16) u) (y:Cal P w K mg base 33 "degree" ["one"] (Mx K)):Cal P w K mg base 34 "bounded" ["p"] (G4 K):=by
 refine F.cal (F.fn.ok Uv (fun W H Q E h=> ?_) (fun Y A outer s H W Q E Z h=> ?_))
 . obtain⟨v,p,l,n,rfl,_⟩:=h
   rfl
 obtain⟨v,p,l,n,rfl,O,L,k⟩:=h
 refine Av ⟨_,(Ac (Bb (Dc (Gj (Aj Lb (Ai y Z (Aa (Ae 0) Ab)) (Ea (v:= .int 16) rfl d) (Aw _)) (Fz (Ck (Az (Xk rfl) rfl G boot_any (Aa (Ek (ts:=["weight"]) (fs:=[]) rfl (Cz.of (sc:=Ar Ju) (N:=["p"]) rfl rfl (by decide+kernel)) (Jm (Ae 0)) (fun _ _ _=>(Aq 0 (show Nodup (["weight"]:List Str)by decide+kernel))) (fun _ _ _=>Gz) (fun _ _ _=>(Bo Acy (Az Ih rfl I boot_abs (Aa (Ae 0) Ab)) (Ag Ku Ad Ad) (Aw _)))) Ab)))))) (Af G7) Ay)
  (Af (Al (Ae 0)))),?_⟩
 done
 refine⟨v,p,l,n,rfl,O,?_⟩
 obtain⟨⟨a,rfl,t⟩,_⟩:=O
 try done
 rw [if_neg (by have:=L.1;omega)]
 refine⟨⟨_,t⟩,fun q hq=>N6 (es:=p) (inj:=V.int) (fun _=> .bl false) (le_trans L.1 (by decide)) hq (Tp t) (fun e H' R he s hR=> ?_) fun H' s U=> ?_⟩
 . done
   refine⟨⟨by decide,by decide,by decide⟩,?_⟩
   rw [decide_eq_false]
   . exact hR _ (Same.refl _)
   . rw [abs_eq]
     have:=L.2 e he
     have M:(10:Int)^(60:Int).toNat=((10^60:Nat):Int):=by decide
     rw [M]
     omega
 rw [show p.map (fun _=>V.bl false)=(p.map fun _=>false).map V.bl by rw [map_map];rfl]at U
 refine⟨q,_,rfl,.of U,?_⟩
 rw [show(p.map fun _=>false).any id=false by rw [List.any_map];simp,if_neg (by decide)]
 exact k _ s
theorem Td {p q:List Int}{i:Nat}:∀ {j:Nat},pwb p (i+j)=some q->∃a,pwb p i=some a
 | 0,h=>⟨q,h⟩
 | j+1,h=>by
   rw [<-Nat.add_assoc,pwb,bind_eq_some_iff]at h
   obtain⟨a,h,_⟩:=h
   exact Td h
def Gp (n:Nat) (K:Frag):Sp:=fun vs H Q _=>∃(vb:V) (N:Addr->Prop) (b:Bx (Sm n)) (k:Nat) (p q:List Int),vs=[vb,.int (k:Nat)]/\bR K H (SR K H N n) vb b/\bO (SO n) b/\bV (SV n) b=some p/\pwb p k=some q/\k<=16/\∀z H',Same H H'->Po K H' z q 17 200->Q z H'
def Fj (n:Nat) (K:Frag):Sp:=fun vs H Q _=>∃(vp:V) (N:Addr->Prop) (p:List (Fx (Sm n))) (q:List Int),vs=[vp]/\pR K H N (SR K H N n) vp p/\pO (SO n) p/\pV (SV n) p=some q/\∀z H',Same H H'->Po K H' z q 17 200->Q z H'
def Dz (n:Nat) (K:Frag):Sp:=fun vs H Q _=>∃(va:V) (N:Addr->Prop) (s:Sm n) (q:List Int),vs=[va]/\SR K H N n va s/\SO n s/\SV n s=some q/\∀z H',Same H H'->Po K H' z q 17 200->Q z H'
def Ia (K:Frag):Sp:=Dz 11 K
theorem Xf {n:Nat}:∀(s:Sm n) (p:List Int),SO n s->SV n s=some p->Bt p:=fun _ _ _ h=>Ae9 h
theorem Wf {H:Hp}{z:Addr} (h:H z=some (.tup [.int 1])):Po K H (.ref z) [1] 17 200:=Bt.one.po (.of h)
theorem Za:kitOne K (.type "tuple") (.type "list")=some false:=Abv (by decide+kernel)
theorem Aco:kitOne K (.type "list") (.type "list")=some true:=Abv (by decide+kernel)
theorem Ka {r n:Nat}{f:Addr}{fd:FuncData} (F:Df K mg "reckoned_power" Dy ["base","many"] f fd) (L:mg "range"=none) (y:mg "isinstance"=none) (z_list:mg "list"=none)  (G:Cal P w K mg base 34 "bounded" ["p"] (G4 K)) (I:Cal P w K mg base 33 "p_times" ["one","other"] (Ip K)) (d:Cal P w K mg base (36+r) "reckoned_sum" ["terms"] (Dz n K)):Cal P w K mg base (36+(r+1)) "reckoned_power" ["base","many"] (Gp n K):=by
 refine F.cal (F.fn.ok Cw (fun vs H Q E h=> ?_) (fun a0 A outer s H vs Q E hr h=> ?_))
 . obtain⟨vb,N,b,k,p,q,rfl,_⟩:=h
   rfl
 obtain⟨vb,N,b,k,p,q,rfl,Z,ho,hp,hq,a1,K1⟩:=h
 refine Av ⟨_,(Ac (Am 2 Cw.nd (Cd (Ck (Az Fp rfl y boot_isinstance (Aa (Ae 0) (Aa (Cr (v:= .ty "list") rfl z_list boot_list rfl) Ab)))) (Ai d hr (Aa (Ae 0) Ab) (le_refl _)) (Ae 0)))
  (Ac (Am 3 Cw.nd (Ba (Aa Ad Ab)))
  (Ac (Cj PassesOwn.never rfl (Er rfl L (Aa (Ae 1) Ab)) (Aq 4 Cw.nd) (Af (Am 3 Cw.nd (Ai G hr (Aa (Ai I hr (Aa (Ae 3) (Aa (Ae 2) Ab)) (le_trans (by decide) (le_add_right _ _))) Ab) (le_trans (by decide) (le_add_right _ _))))))
  (Af (Al (Ae 3)))))),?_⟩
 have bp:=Xi Xf ho hp
 refine Dj (fun O H'=>∃Y,O=[some vb,some (.int (k:Nat)),some Y,none,none]/\Same H H'/\Po K H' Y p 17 200) (fun M hM=> ?_) ?_
 . done
   cases b with
   | x=>
     obtain⟨a,rfl,t⟩:=Z
     cases hp
     refine isa (.tup t) Za ?_
     try done
     exact hM _ _ ⟨_,rfl,Same.refl _,bp.po t⟩
   | num m=>
     obtain⟨a,rfl,t⟩:=Z
     cases hp
     refine isa (.tup t) Za ?_
     try done
     exact hM _ _ ⟨_,rfl,Same.refl _,bp.po t⟩
   | par s=>
     cases n with
     | zero=>exact s.elim
     | succ n=>
     obtain⟨a,vs,rfl,hN,it,al⟩:=id Z
     refine isa (.of (.lst it)) Aco ?_
     try done
     exact⟨_,N,s,p,rfl,Z,ho,hp,fun z H1 s1 hz=>hM _ _ ⟨z,rfl,s1,hz⟩⟩
 rintro _ H1 ⟨Y,rfl,s1,h1⟩
 refine Ax fun w0 hw=> ?_
 done
 intro z hz
 have s2:=Same.upd hz (.tup [.int 1])
 subst hw
 done
 refine⟨by omega,by omega,?_⟩
 rw [toNat_natCast]
 refine Aca k (fun i=> .int (0+(i:Nat))) (fun i O H'=>∃z a o,O=[some vb,some (.int (k:Nat)),some Y,some z,o]/\Same H1 H'/\pwb p i=some a/\Po K H' z a 17 200) ⟨.ref z,[1],none,rfl,s2,rfl,Wf Ah⟩ (fun _ _ _ _=>G6) ?_ ?_
 . rintro i O H2 hi ⟨z2,a,o,rfl,s3,ha,U⟩
   obtain⟨a',W⟩:∃a',pwb p (i+1)=some a':=Td (j:=k-(i+1)) (by rw [show i+1+(k-(i+1))=k by omega];exact hq)
   have e:bd (tm a p)=some a':=by rw [pwb,ha]at W;exact W
   obtain⟨rfl,bn⟩:=Ls e
   done
   refine⟨z2,Y,a,p,17,17,200,200,rfl,U,h1.mono s3,by decide,by decide,by decide,fun z3 H3 s4 h3=> ?_⟩
   refine⟨z3,_,_,_,rfl,h3,bn,fun H4 s5=> ?_⟩
   exact⟨z3,_,_,rfl,s3.trans (s4.trans s5),W,(h3.mono s5).cut bn⟩
 . rintro O H2 ⟨z2,a,o,rfl,s3,ha,U⟩
   done
   rw [hq]at ha
   cases ha
   exact K1 z2 H2 (s1.trans s3) U
theorem Ah3 {α d:Type}{xs:List α}{ds:List d} (h:xs.length=ds.length):(xs.zip ds).map (·.1)=xs:=List.map_fst_zip (le_of_eq h)
theorem zip2 {α d:Type}{xs:List α}{ds:List d} (h:xs.length=ds.length):(xs.zip ds).map (·.2)=ds:=List.map_snd_zip (le_of_eq h.symm)
theorem Ah4 {α d:Type}{xs:List α}{ds:List d}{e:α × d} (h:e∈xs.zip ds):∃i:Nat,xs[i]? =some e.1/\ds[i]? =some e.2:=by
 obtain⟨i,hi⟩:=List.getElem?_of_mem h
 exact⟨i,List.getElem?_zip_eq_some.mp hi⟩
theorem Sd {α d:Type}{g:Option α->d->Option α} (y:∀b,g none b=none) {l r:List d}{f:d}{x:Option α}{q:α} (h:(l++f::r).foldl g x=some q):∃F,(l++ [f]).foldl g x=some F:=by
 cases e:(l++ [f]).foldl g x with
 | some a=>exact⟨a,rfl⟩
 | none=>
   rw [show l++f::r=(l++ [f])++r by rw [append_assoc];rfl,foldl_append,e,Pg y]at h
   cases h
theorem Je {r n:Nat}{f:Addr}{fd:FuncData} (F:Df K mg "reckoned_product" Dn ["pairs"] f fd)   (y:Cal P w K mg base 34 "bounded" ["p"] (G4 K)) (G:Cal P w K mg base 33 "p_times" ["one","other"] (Ip K)) (d:Cal P w K mg base (36+r) "reckoned_power" ["base","many"] (Gp n K)):Cal P w K mg base (36+(r+1)) "reckoned_product" ["pairs"] (Fj n K):=by
 refine F.cal (F.fn.ok Cg (fun vs H Q E h=> ?_) (fun a5 A outer s H vs Q E hr h=> ?_))
 . obtain⟨vp,N,p,q,rfl,_⟩:=h
   rfl
 obtain⟨vp,N,p,q,rfl,⟨a,vs,rfl,hN,it,al⟩,ho,hq,k⟩:=h
 refine Av ⟨_,(Ac (Am 1 Cg.nd (Ba (Aa Ad Ab)))
  (Ac (Cj PassesOwn.never rfl (J6 (Ae 0)) (Bk rfl (Ak (Aq 2 Cg.nd) (Ak (Aq 3 Cg.nd) Bd))) (Af (Am 1 Cg.nd (Ai y hr (Aa (Ai G hr (Aa (Ae 1) (Aa (Ai d hr (Aa (Ae 2) (Aa (Ae 3) Ab)) (le_refl _)) Ab)) (le_trans (by decide) (le_add_right _ _))) Ab) (le_trans (by decide) (le_add_right _ _))))))
  (Af (Al (Ae 1))))),?_⟩
 refine Ax fun w0 hw=> ?_
 done
 intro z hz
 have s2:=Same.upd hz (.tup [.int 1])
 subst hw
 done
 refine⟨⟨_,.of (s2 _ _ it)⟩,Xz (es:=vs.zip p) (inj:=(·.1)) (fun M O H'=>∃z L o1 o2,O=[some (.ref a),some z,o1,o2]/\Same H H'/\(M.map (·.2)).foldl (pS (SV n)) (some [1])=some L/\Po K H' z L 17 200) ⟨.ref z,[1],none,none,rfl,s2,rfl,Wf Ah⟩ ?_ ?_ ?_⟩
 . rintro M O H' ⟨_,_,_,_,_,U,_⟩
   exact M8 (.of (by rw [Ah3 al.1];exact U _ _ it))
 . rintro M e a0 O H2 hE ⟨z2,L,o1,o2,rfl,U,I,W⟩
   have em:e∈vs.zip p:=by rw [hE];simp
   obtain⟨j,j1,j2⟩:=Ah4 em
   obtain⟨c,vb,ev,t,hb⟩:=al.2 j e.1 e.2 j1 j2
   have fo:=ho.2 e.2 (List.mem_of_getElem? j2)
   have hp:p=M.map (·.2)++e.2::a0.map (·.2):=by rw [<-zip2 al.1,hE,map_append,map_cons]
   obtain⟨a1,a2⟩:=Sd (g:=pS (SV n)) (fun _=>rfl) (by rw [<-hp];exact hq)
   have a3:=a2
   rw [foldl_append,I]at a3
   obtain⟨b,Y,a4⟩:=bind_eq_some_iff.mp (show((fV (SV n) e.2).bind fun b=>bd (tm L b))=some a1 from a3)
   obtain⟨rfl,bn⟩:=Ls a4
   obtain⟨Z,h1,h2,h3⟩:∃Z,bV (SV n) e.2.1=some Z/\pwb Z (e.2.2.getD 1)=some b/\e.2.2.getD 1<=16:=by
    unfold fV at Y
    cases h2:e.2.2 with
    | none=>
      rw [h2]at Y
      exact⟨b,Y,Aa8 (Xi Xf fo.1 Y),by decide⟩
    | some m=>
      rw [h2]at Y
      obtain⟨Z,h3,h4⟩:=bind_eq_some_iff.mp Y
      exact⟨Z,h3,h4,fo.2 m h2⟩
   rw [ev]
   refine Cy (U.tup t) ?_
   done
   refine⟨vb,N,e.2.1,e.2.2.getD 1,Z,b,rfl,hb.on (Kp2.same U fun _ h=>h),fo.1,h1,h2,h3,fun z3 H3 s4 h3=> ?_⟩
   try done
   refine⟨z2,z3,L,b,17,17,200,200,rfl,W.mono s4,h3,by decide,by decide,by decide,fun z4 H4 s5 h4=> ?_⟩
   refine⟨z4,_,_,_,rfl,h4,bn,fun H5 s6=> ?_⟩
   refine⟨z4,_,_,_,rfl,U.trans (s4.trans (s5.trans s6)),?_,(h4.mono s6).cut bn⟩
   rw [map_append]
   exact a2
 . rintro O H2 ⟨z2,L,o1,o2,rfl,U,I,W⟩
   done
   rw [zip2 al.1]at I
   rw [show pV (SV n) p=p.foldl (pS (SV n)) (some [1])from rfl,I]at hq
   cases hq
   exact k z2 H2 U W
theorem Mh {r n:Nat}{f:Addr}{fd:FuncData} (F:Df K mg "reckoned_sum" Eo ["terms"] f fd)   (y:Cal P w K mg base 34 "bounded" ["p"] (G4 K)) (M:Cal P w K mg base 35 "p_plus" ["one","other"] (Jz K)) (G:Cal P w K mg base 36 "p_minus" ["one","other"] (Kh K)) (d:Cal P w K mg base (36+r) "reckoned_product" ["pairs"] (Fj n K)):Cal P w K mg base (36+(r+1)) "reckoned_sum" ["terms"] (Dz (n+1) K):=by
 refine F.cal (F.fn.ok Ci (fun vs H Q E h=> ?_) (fun a4 A outer s H vs Q E hr h=> ?_))
 . obtain⟨vp,N,p,q,rfl,_⟩:=h
   rfl
 obtain⟨vp,N,p,q,rfl,⟨a,vs,rfl,hN,it,al⟩,ho,hq,k⟩:=h
 refine Av ⟨_,(Ac (Am 1 Ci.nd (Ba Ab))
  (Ac (Cj PassesOwn.never rfl (J6 (Ae 0)) (Bk rfl (Ak (Aq 2 Ci.nd) (Ak (Aq 3 Ci.nd) Bd))) (Ac (Am 4 Ci.nd (Ai d hr (Aa (Ae 3) Ab) (le_refl _)))
  (Af (Am 1 Ci.nd (Ai y hr (Aa (Cd (Aj Ds (Ae 2) Ao (Aw _)) (Ai M hr (Aa (Ae 1) (Aa (Ae 4) Ab)) (le_trans (by decide) (le_add_right _ _))) (Ai G hr (Aa (Ae 1) (Aa (Ae 4) Ab)) (le_trans (by decide) (le_add_right _ _)))) Ab) (le_trans (by decide) (le_add_right _ _)))))))
  (Af (Al (Ae 1))))),?_⟩
 refine Ax fun w0 hw=> ?_
 done
 refine⟨by decide,fun z hz=> ?_⟩
 have s2:=Same.upd hz (.tup [])
 subst hw
 done
 refine⟨⟨_,.of (s2 _ _ it)⟩,Xz (es:=vs.zip p) (inj:=(·.1)) (fun O U H'=>∃z I o1 o2 o3,U=[some (.ref a),some z,o1,o2,o3]/\Same H H'/\(O.map (·.2)).foldl (sS (SV n)) (some [])=some I/\Po K H' z I 17 200) ⟨.ref z,[],none,none,none,rfl,s2,rfl,Bt.nil.po (.of Ah)⟩ ?_ ?_ ?_⟩
 . rintro O U H' ⟨_,_,_,_,_,_,Y,_⟩
   exact M8 (.of (by rw [Ah3 al.1];exact Y _ _ it))
 . rintro O e a0 U H2 hE ⟨z2,I,o1,o2,o3,rfl,Y,L,W⟩
   have em:e∈vs.zip p:=by rw [hE];simp
   obtain⟨j,j1,j2⟩:=Ah4 em
   obtain⟨c,vb,ev,t,hb⟩:=al.2 j e.1 e.2 j1 j2
   have fo:=ho.2 e.2 (List.mem_of_getElem? j2)
   have hp:p=O.map (·.2)++e.2::a0.map (·.2):=by rw [<-zip2 al.1,hE,map_append,map_cons]
   obtain⟨a1,Z⟩:=Sd (g:=sS (SV n)) (fun _=>rfl) (by rw [<-hp];exact hq)
   have a2:=Z
   rw [foldl_append,L]at a2
   obtain⟨b,hf,a3⟩:=bind_eq_some_iff.mp (show((pV (SV n) e.2.2).bind fun b=>bd (ta I (sgn e.2.1 b)))=some a1 from a2)
   obtain⟨rfl,bn⟩:=Ls a3
   rw [ev]
   refine Cy (Y.tup t) ?_
   refine Ax fun w0 hw=> ?_
   done
   refine⟨vb,N,e.2.2,b,rfl,hb.on (Kp2.same Y fun _ h=>h),fo,hf,fun z3 H3 s4 h3=> ?_⟩
   try done
   subst hw
   try done
   obtain⟨v,g,p'⟩:=e
   cases g with
   | true=>
     rw [if_neg fun z=>absurd (G5.mp z) (show ¬ [sg true]=[43]by decide)]
     refine⟨z2,z3,I,b,17,17,200,200,rfl,W.mono s4,h3,by decide,by decide,by decide,fun z4 H4 s5 h4=> ?_⟩
     refine⟨z4,_,_,_,rfl,h4,bn,fun H5 s6=> ?_⟩
     refine⟨z4,_,_,_,_,rfl,Y.trans (s4.trans (s5.trans s6)),?_,(h4.mono s6).cut bn⟩
     rw [map_append]
     exact Z
   | false=>
     rw [if_pos (show tx [sg false]=tx [43]from rfl)]
     refine⟨z2,z3,I,b,17,17,200,200,rfl,W.mono s4,h3,by decide,by decide,trivial,fun z4 H4 s5 h4=> ?_⟩
     refine⟨z4,_,_,_,rfl,h4,bn,fun H5 s6=> ?_⟩
     refine⟨z4,_,_,_,_,rfl,Y.trans (s4.trans (s5.trans s6)),?_,(h4.mono s6).cut bn⟩
     rw [map_append]
     exact Z
 . rintro U H2 ⟨z2,I,o1,o2,o3,rfl,Y,L,W⟩
   done
   rw [zip2 al.1]at L
   rw [show SV (n+1) p=p.foldl (sS (SV n)) (some [])from rfl,L]at hq
   cases hq
   exact k z2 H2 Y W
theorem Mf {f:Addr}{fd:FuncData} (F:Df K mg "reckoned_sum" Eo ["terms"] f fd) {y:Addr}{d:FuncData} (G:Df K mg "reckoned_product" Dn ["pairs"] y d) {M:Addr}{I:FuncData} (O:Df K mg "reckoned_power" Dy ["base","many"] M I) (a0:mg "range"=none) (W:mg "isinstance"=none) (z_list:mg "list"=none)  (L:Cal P w K mg base 34 "bounded" ["p"] (G4 K)) (Z:Cal P w K mg base 35 "p_plus" ["one","other"] (Jz K)) (Y:Cal P w K mg base 36 "p_minus" ["one","other"] (Kh K)) (U:Cal P w K mg base 33 "p_times" ["one","other"] (Ip K)):Cal P w K mg base 69 "reckoned_sum" ["terms"] (Ia K):=by
 suffices main:∀n:Nat,Cal P w K mg base (36+3*n) "reckoned_sum" ["terms"] (Dz n K)from main 11
 intro n
 induction n with
 | zero=>
   refine F.cal (F.fn.ok (k:=36-1) Ci (fun vs H Q E h=> ?_) (fun a1 A outer s H vs Q E hr h=> ?_))
   . obtain⟨va,N,s,q,rfl,_⟩:=h
     rfl
   . obtain⟨va,N,s,_⟩:=h
     exact s.elim
 | succ n ih=>exact Mh F L Z Y (Je G L U (Ka O a0 W z_list L U ih))
def Kz (K:Frag):Sp:=fun vs H Q _=>∃(s:Sm 11) (p:List Int),vs=[.str (tx (ST 11 s))]/\SO 11 s/\(ST 11 s).length<=400/\SV 11 s=some p/\∀z H',Same H H'->Po K H' z p 17 200->Q z H'
theorem Vv:kitOne K (.type "str") (.type "str")=some true:=Abv (by decide+kernel)
theorem Pr {f:Addr}{fd:FuncData} (F:Df K mg "read_poly" Jg ["text"] f fd)  (I:mg "isinstance"=none) (M:mg "str"=none) (z_len:mg "len"=none) (G:∃u,mg "MOST_SIGNS"=some u/\RelV (V.int 400) u) (d:Cal P w K mg base 33 "refuse_unless" ["fits"] (Ca K)) (L:Cal P w K mg base 78 "sum_form" ["text","start","depth"] (M5 K)) (y:Cal P w K mg base 69 "reckoned_sum" ["terms"] (Ia K)):Cal P w K mg base 79 "read_poly" ["text"] (Kz K):=by
 refine F.cal (F.fn.ok Hy (fun vs H Q E h=> ?_) (fun a0 A outer s H vs Q E U h=> ?_))
 . obtain⟨s,p,rfl,_⟩:=h
   rfl
 obtain⟨s,p,rfl,Y,W,hp,k⟩:=h
 refine Av ⟨_,(Ac (Br (Ai d U (Aa (Fy (Az N5 rfl I boot_isinstance (Aa (Ae 0) (Aa (Cr (v:= .ty "str") rfl M boot_str rfl) Ab))) (Hs (Bo Aas (Az Ed rfl z_len PySem.boot_len (Aa (Ae 0) Ab)) (Ea (v:= .int 400) rfl G) (Aw _)))) Ab)))
  (Ac (Bm (Ai L U (Aa (Ae 0) (Aa Ad (Aa Ad Ab)))) (Bk rfl (Ak (Aq 1 Hy.nd) (Ak (Aq 2 Hy.nd) Bd))))
  (Ac (Br (Ai d U (Aa (Bo Ds (Ae 2) (Az Ed rfl z_len PySem.boot_len (Aa (Ae 0) Ab)) (Aw _)) Ab)))
  (Af (Al (Ai y U (Aa (Ae 1) Ab))))))),?_⟩
 refine Ax fun Z O=> ?_
 done
 refine⟨_,_,_,_,rfl,.str _,Vv,?_⟩
 try done
 refine⟨le_trans W (by decide),?_⟩
 refine⟨congrArg (fun b=>[V.bl b]) (decide_eq_true (show((tx (ST 11 s)).length:Int)<=400 by rw [Ho];omega)),?_⟩
 subst O
 refine Ax fun Z O=> ?_
 done
 refine⟨_,[],0,0,s,rfl,by rw [append_nil];rfl,Y,(fun c h=>by cases h),W,by decide,fun z va H1 s1 hz hs=> ?_⟩
 refine Cy hz ?_
 try done
 subst O
 refine Ax fun Z O=> ?_
 done
 refine⟨le_trans W (by decide),?_⟩
 rw [decide_eq_true (by rw [Ho])]
 refine⟨rfl,?_⟩
 subst O
 try done
 exact⟨va,_,s,p,rfl,hs,Y,hp,fun z2 H2 s2 h2=>k z2 H2 (s1.trans s2) h2⟩
theorem Iv {i:Int} (h:i.natAbs<10^61):i.natAbs.log2<1920:=by
 by_cases d:i.natAbs=0
 . rw [d]
   decide
 . exact(Nat.log2_lt d).mpr (lt_trans h (by decide+kernel))
theorem Lz (m:Nat):itx (m:Int)=dg m:=by
 unfold itx
 rw [if_neg (by omega),natAbs_natCast]
theorem szl {n:Nat} (h:n<=1000000):n<=sizeLine:=le_trans h (by decide)
theorem txl {l:List Nat} (h:l.length<=1000):(tx l).length<=sizeLine:=szl (le_trans h (by decide))
def Qj (K:Frag):Sp:=fun vs H Q _=>∃w k:Nat,vs=[.int (w:Nat),.int (k:Nat)]/\w≠0/\w<10^60/\k<=16/\Q (.str (tx (tmT w k))) H
theorem Wb {f:Addr}{fd:FuncData} (F:Df K mg "_law_term" Oo ["_law_weight","_law_at"] f fd)  (d:mg "str"=none)   :Cal P w K mg base 33 "_law_term" ["_law_weight","_law_at"] (Qj K):=by
 refine F.cal (F.fn.ok Jy (fun U H Q E h=> ?_) (fun W A outer s H U Q E hr h=> ?_))
 . obtain⟨y,k,rfl,_⟩:=h
   rfl
 obtain⟨y,k,rfl,h0,I,Y,q⟩:=h
 refine Av ⟨_,(Ac (Am 2 Jy.nd (Bh Dq rfl d boot_str (Aa (Ae 0) Ab)))
  (Ac (Bb (Aj Ds (Ae 1) Ad (Aw _)) (Af (Al (Ae 2))) Ay)
  (Ac (Bb (Aj Ds (Ae 0) Ad (Aw _)) (Af (Am 2 Jy.nd Ao)) (Af (Am 2 Jy.nd (Ag Bj (Ae 2) Ao))))
  (Ac (Bb (Aj Ds (Ae 1) Ad (Aw _)) (Af (Al (Ag Bj (Ae 2) Ao))) Ay)
  (Af (Al (Ag Bj (Ag Bj (Ae 2) Ao) (Bh Dq rfl d boot_str (Aa (Ae 1) Ab))))))))),?_⟩
 done
 have lw:=Fg I (by decide)
 have lk:(dg k).length<=2:=Fg (show k<10^2 by omega) (by decide)
 have Z:((y:Nat):Int).natAbs.log2<1920:=Iv (by rw [natAbs_natCast];exact lt_trans I (by decide))
 have L:((k:Nat):Int).natAbs.log2<1920:=Iv (by rw [natAbs_natCast];exact Nat.lt_of_le_of_lt Y (by decide))
 rw [Lz,Lz]
 refine⟨Z,?_⟩
 unfold tmT at q
 by_cases M:k=0
 . rw [if_pos M]at q
   rw [if_pos (by omega)]
   exact q
 rw [if_neg M]at q
 rw [if_neg (by omega)]
 by_cases O:y=1
 . rw [if_pos O]at q
   rw [if_pos (by omega)]
   by_cases G:k=1
   . rw [if_pos G]at q
     rw [if_pos (by omega)]
     exact⟨by decide,q⟩
   . rw [if_neg G]at q
     rw [if_neg (by omega)]
     exact⟨by decide,L,szl (show 2+(dg k).length<=1000000 by omega),q⟩
 . rw [if_neg O]at q
   rw [if_neg (by omega)]
   refine⟨szl (show(dg y).length+1<=1000000 by omega),?_⟩
   by_cases G:k=1
   . rw [if_pos G]at q
     rw [if_pos (by omega)]
     exact⟨szl (show(dg y++ [42]).length+1<=1000000 by rw [length_append];show _+1+1<=1000000;omega),q⟩
   . rw [if_neg G]at q
     rw [if_neg (by omega)]
     refine⟨szl (show(dg y++ [42]).length+2<=1000000 by rw [length_append];show _+1+2<=1000000;omega),L,szl (show(dg y++ [42]++ [120,94]).length+(dg k).length<=1000000 by rw [length_append,length_append];show _+1+2+_<=1000000;omega),?_⟩
     rw [append_assoc (dg y++ [42])]
     exact q
def K4 (K:Frag):Sp:=fun vs H Q _=>∃(x:Int) (k:Nat),vs=[.int x,.int (k:Nat)]/\x≠0/\x.natAbs<10^60/\k<=16/\Q (.str (tx (sg (decide (x<0))::tmT x.natAbs k))) H
theorem Px {f:Addr}{fd:FuncData} (F:Df K mg "show_term" Jh ["weight","many"] f fd)  (d:mg "abs"=none)   :Cal P w K mg base 33 "show_term" ["weight","many"] (K4 K):=by
 refine F.cal (F.fn.ok Gm (fun vs H Q E h=> ?_) (fun a0 A outer s H vs Q E hr h=> ?_))
 . obtain⟨w',k,rfl,_⟩:=h
   rfl
 obtain⟨x,k,rfl,h0,hw,hk,q⟩:=h
 refine Av ⟨_,(Ac (Am 2 Gm.nd (Cd (Aj P0 (Ae 0) Ad (Aw _)) Ao Ao))
  (Ac (Am 3 Gm.nd (Az Ih rfl d boot_abs (Aa (Ae 0) Ab)))
  (Ac (Bb (Aj Ds (Ae 1) Ad (Aw _)) (Af (Al (Jl (Es (Ae 2) (Es (Ae 3) Jo))))) Ay)
  (Ac (Am 4 Gm.nd (Cd (Aj Ds (Ae 1) Ad (Aw _)) Ao (Jl (Lr (Es (Ae 1) Jo)))))
  (Af (Al (Cd (Aj Ds (Ae 3) Ad (Aw _)) (Ag Bj (Ae 2) (Ae 4)) (Jl (Es (Ae 2) (Es (Ae 3) (Lr (Es (Ae 4) Jo)))))))))))),?_⟩
 refine Dj (fun W H'=>W=[some (.int x),some (.int (k:Nat)),some (.str (tx [sg (decide (x<0))])),none,none]/\H'=H) (fun M hM=> ?_) ?_
 . done
   by_cases L:x<0
   . rw [if_pos L]
     exact hM _ _ ⟨by rw [decide_eq_true L];rfl,rfl⟩
   . rw [if_neg L]
     exact hM _ _ ⟨by rw [decide_eq_false L];rfl,rfl⟩
 rintro _ H' ⟨rfl,e⟩
 replace e:=e.symm
 subst e
 done
 have lw:=Fg hw (by decide)
 have lk:(dg k).length<=2:=Fg (show k<10^2 by omega) (by decide)
 have Y:((x.natAbs:Nat):Int).natAbs.log2<1920:=Iv (by rw [natAbs_natCast];exact lt_trans hw (by decide))
 have gk:((k:Nat):Int).natAbs.log2<1920:=Iv (by rw [natAbs_natCast];exact Nat.lt_of_le_of_lt hk (by decide))
 simp only [abs_eq,Lz]
 unfold tmT at q
 by_cases k0:k=0
 . rw [if_pos k0]at q
   rw [if_pos (by omega)]
   have y:(tx (sg (decide (x<0))::dg x.natAbs)).length<=sizeLine:=txl (by rw [length_cons];omega)
   exact⟨txl (show 1<=1000 by decide),txl (show 1<=1000 by decide),Y,y,y,q⟩
 rw [if_neg k0]at q
 rw [if_neg (by omega)]
 have O:(tx [sg (decide (x<0))]).length<=sizeLine:=txl (show 1<=1000 by decide)
 have y:(tx (sg (decide (x<0))::dg x.natAbs)).length<=sizeLine:=txl (by rw [length_cons];omega)
 have l2:(tx (sg (decide (x<0))::(dg x.natAbs++ [42]))).length<=sizeLine:=txl (by rw [length_cons,length_append,length_singleton];omega)
 by_cases U:k=1
 . rw [if_pos (by omega)]
   by_cases G:x.natAbs=1
   . rw [if_pos G,if_pos U]at q
     rw [if_pos (by omega)]
     exact⟨szl (show 1+1<=1000000 by decide),q⟩
   . rw [if_neg G,if_pos U]at q
     rw [if_neg (by omega)]
     have I:(tx (sg (decide (x<0))::(dg x.natAbs++ [42]++ [120]))).length<=sizeLine:=txl (by rw [length_cons,length_append,length_append,length_singleton,length_singleton];omega)
     exact⟨O,O,Y,y,l2,txl (by decide),I,I,q⟩
 . rw [if_neg (by omega)]
   have Z:(tx (120::94::dg k)).length<=sizeLine:=txl (by rw [length_cons,length_cons];omega)
   refine⟨txl (by decide),gk,Z,Z,?_⟩
   by_cases G:x.natAbs=1
   . rw [if_pos G,if_neg U]at q
     rw [if_pos (by omega)]
     exact⟨szl (show 1+(120::94::dg k).length<=1000000 by rw [length_cons,length_cons];omega),q⟩
   . rw [if_neg G,if_neg U]at q
     rw [if_neg (by omega)]
     have I:(tx (sg (decide (x<0))::(dg x.natAbs++ [42]++120::94::dg k))).length<=sizeLine:=txl (by rw [length_cons,length_append,length_append,length_singleton,length_cons,length_cons];omega)
     exact⟨O,O,Y,y,l2,Z,I,I,q⟩
theorem Rz {p:List Int}{k:Nat}{c:Int} (d:co p (p.length-1-k)=c) (y:c≠0):sT (ST 10) (itF p (k+1))=if itF p k=([]:List (Bool × List (Fx (Sm 10))))then sgL (decide (c<0))++tmT c.natAbs (p.length-1-k)else sT (ST 10) (itF p k)++(sg (decide (c<0))::tmT c.natAbs (p.length-1-k)):=by
 have e:(itF p (k+1):List (Bool × List (Fx (Sm 10))))=itF p k++ [(decide (c<0),trm c.natAbs (p.length-1-k))]:=by
  show itF p k++itO p (p.length-1-k)=_
  unfold itO
  rw [d,if_neg y]
 rw [e]
 by_cases h1:itF p k=([]:List (Bool × List (Fx (Sm 10))))
 . rw [if_pos h1,h1]
   show(if _ then [45]else [])++(pT (ST 10) (trm _ _)++ [])=_
   rw [append_nil,Qo]
   rfl
 . rw [if_neg h1,Mj h1,Qo]
def Qk (K:Frag):Sp:=fun vs H Q _=>∃(v:V) (p:List Int),vs=[v]/\Po K H v p 17 200/\Bnd p/\Q (.str (tx (sT (ST 10) (plF p)))) H
theorem Wc {f:Addr}{fd:FuncData} (F:Df K mg "_law_text" Oq ["_law_p"] f fd)  (G:mg "range"=none) (z_len:mg "len"=none)  (d:Cal P w K mg base 33 "_law_term" ["_law_weight","_law_at"] (Qj K)):Cal P w K mg base 34 "_law_text" ["_law_p"] (Qk K):=by
 refine F.cal (F.fn.ok Gg (fun vs H Q E h=> ?_) (fun a0 A outer s H vs Q E hr h=> ?_))
 . obtain⟨v,p,rfl,_⟩:=h
   rfl
 obtain⟨v,p,rfl,⟨⟨a,rfl,t⟩,tp,lp,zp⟩,hb,q⟩:=h
 refine Av ⟨_,(Ac (Am 1 Gg.nd Ao)
  (Ac (Cj PassesOwn.never rfl (Er rfl G (Aa (Az Bg rfl z_len PySem.boot_len (Aa (Ae 0) Ab)) Ab)) (Aq 2 Gg.nd) (Ac (Am 3 Gg.nd (Ag Fi (Ag Fi (Az Bg rfl z_len PySem.boot_len (Aa (Ae 0) Ab)) Ad) (Ae 2)))
  (Af (Bb (Aj P0 (Bf Hv (Ae 0) (Ae 3) (fun _ _=>rfl)) Ad (Aw _)) (Af (Am 1 Gg.nd (Ag Bj (Ag Bj (Ae 1) Ao) (Ai d hr (Aa (Ag Fi Ad (Bf Hv (Ae 0) (Ae 3) (fun _ _=>rfl))) (Aa (Ae 3) Ab)))))) (Af (Bb (Dc (Eh (Aj Lb (Bf Hv (Ae 0) (Ae 3) (fun _ _=>rfl)) Ad (Aw _)) (Ec (Aj Ds (Ae 1) Ao (Aw _))))) (Af (Am 1 Gg.nd (Ai d hr (Aa (Bf Hv (Ae 0) (Ae 3) (fun _ _=>rfl)) (Aa (Ae 3) Ab))))) (Af (Bb (Aj Lb (Bf Hv (Ae 0) (Ae 3) (fun _ _=>rfl)) Ad (Aw _)) (Af (Am 1 Gg.nd (Ag Bj (Ag Bj (Ae 1) Ao) (Ai d hr (Aa (Bf Hv (Ae 0) (Ae 3) (fun _ _=>rfl)) (Aa (Ae 3) Ab)))))) Ay))))))))
  (Ac (Bb (Aj Ds (Ae 1) Ao (Aw _)) (Af (Al Ao)) Ay)
  (Af (Al (Ae 1)))))),?_⟩
 have bt:Bt p:=⟨tp,hb⟩
 refine Ax fun w0 hw=> ?_
 done
 subst hw
 refine Dj (fun y H'=>∃L O,y=[some (.ref a),some (.str (tx (sT (ST 10) (itF p p.length)))),L,O]/\H'=H) (fun M hM=> ?_) ?_
 . done
   refine⟨a,_,rfl,.inr t,?_⟩
   rw [length_map,toNat_natCast]
   refine⟨by omega,by omega,Aca p.length (fun i=> .int (0+(i:Nat))) (fun k y H'=>∃L O,y=[some (.ref a),some (.str (tx (sT (ST 10) (itF p k)))),L,O]/\H'=H) ⟨_,_,rfl,rfl⟩ (fun _ _ _ _=>G6) ?_ fun y H' h=>hM y H' h⟩
   rintro k y H' hk ⟨L,O,rfl,e⟩
   replace e:=e.symm
   subst e
   refine Ax fun w0 hw=> ?_
   done
   refine⟨a,_,rfl,.inr t,?_⟩
   rw [length_map,show((p.length:Int)-1-(0+(k:Nat)))=((p.length-1-k:Nat):Int)by omega]
   have hi:p.length-1-k<p.length:=by omega
   have I:(p.map V.int)[p.length-1-k]? =some (.int (co p (p.length-1-k))):=by rw [getElem?_map,getElem?_eq_getElem hi,Du hi];rfl
   obtain⟨U,Z⟩:=Vs bt hi
   have ln:=Ob (S:=Sm 10) (st:=ST 10) bt (k:=k) (by omega)
   have lt:=W3 U Z
   have nx:∀ {e:List (Bool × List (Fx (Sm 10)))},itO p (p.length-1-k)=e->itF p (k+1)=itF p k++e:=fun h=>by rw [<-h];rfl
   subst hw
   generalize hc:co p (p.length-1-k)=c at I U lt
   done
   refine Le t (Dl I) ?_
   try done
   by_cases W:c<0
   . rw [if_pos W]
     refine⟨szl (show(sT (ST 10) (itF p k)).length+1<=1000000 by omega),Le t (Dl I) ?_⟩
     try done
     refine⟨c.natAbs,p.length-1-k,by rw [show 0-c=((c.natAbs:Nat):Int)by omega],by omega,U,Z,?_⟩
     refine⟨_,_,rfl,rfl,szl (show(sT (ST 10) (itF p k)++ [45]).length+(tmT c.natAbs (p.length-1-k)).length<=1000000 by rw [length_append,length_singleton];omega),some (.int (0+(k:Nat))),some (.int ((p.length-1-k:Nat):Int)),?_,rfl⟩
     rw [K6,Rz hc (by omega),decide_eq_true W]
     by_cases h1:itF p k=([]:List (Bool × List (Fx (Sm 10))))
     . rw [if_pos h1,h1]
       rfl
     . rw [if_neg h1,append_assoc]
       rfl
   . rw [if_neg W]
     refine Le t (Dl I) ?_
     try done
     by_cases hp:0<c
     . rw [if_pos hp]
       by_cases h1:itF p k=([]:List (Bool × List (Fx (Sm 10))))
       . rw [if_pos (by rw [h1];rfl)]
         refine Le t (Dl I) ?_
         try done
         refine⟨c.natAbs,p.length-1-k,by rw [show c=((c.natAbs:Nat):Int)by omega,natAbs_natCast],by omega,U,Z,some (.int (0+(k:Nat))),some (.int ((p.length-1-k:Nat):Int)),?_,rfl⟩
         rw [Rz hc (by omega),decide_eq_false W,if_pos h1]
         rfl
       . rw [if_neg fun z=>Aba (st:=ST 10) h1 (G5.mp z)]
         refine Le t (Dl I) ?_
         try done
         rw [if_pos hp]
         refine⟨szl (show(sT (ST 10) (itF p k)).length+1<=1000000 by omega),Le t (Dl I) ?_⟩
         try done
         refine⟨c.natAbs,p.length-1-k,by rw [show c=((c.natAbs:Nat):Int)by omega,natAbs_natCast],by omega,U,Z,?_⟩
         refine⟨_,_,rfl,rfl,szl (show(sT (ST 10) (itF p k)++ [43]).length+(tmT c.natAbs (p.length-1-k)).length<=1000000 by rw [length_append,length_singleton];omega),some (.int (0+(k:Nat))),some (.int ((p.length-1-k:Nat):Int)),?_,rfl⟩
         rw [K6,Rz hc (by omega),decide_eq_false W,if_neg h1,append_assoc]
         rfl
     . rw [if_neg hp]
       refine Le t (Dl I) ?_
       try done
       rw [if_neg hp]
       refine⟨some (.int (0+(k:Nat))),some (.int ((p.length-1-k:Nat):Int)),?_⟩
       have e0:itO p (p.length-1-k)=([]:List (Bool × List (Fx (Sm 10)))):=by
        unfold itO
        rw [if_pos (by omega)]
       rw [nx e0,append_nil]
 rintro _ H' ⟨L,O,rfl,e⟩
 replace e:=e.symm
 subst e
 done
 unfold plF at q
 by_cases Y:p=[]
 . rw [if_pos Y]at q
   subst Y
   rw [if_pos (show tx (sT (ST 10) (itF [] ([]:List Int).length))=tx []from rfl)]
   exact q
 . rw [if_neg Y]at q
   rw [if_neg fun z=>Aba (st:=ST 10) (Sq tp Y (length_pos_iff.mpr Y)) (G5.mp z)]
   exact q
def itS (p:List Int) (i:Nat):List Nat:=sg (decide (co p i<0))::tmT (co p i).natAbs i
theorem Ss {p:List Int}:∀k:Nat,(((List.range k).filter fun i=>decide (co p (p.length-1-i)≠0)).map fun i=>itS p (p.length-1-i)).flatten=sU (ST 10) (itF p k)
 | 0=>rfl
 | k+1=>by
   rw [List.range_succ,filter_append,map_append,List.flatten_append,Ss k]
   show _=sU (ST 10) (itF p k++itO p (p.length-1-k))
   rw [Wu]
   congr 1
   unfold itO
   by_cases d:co p (p.length-1-k)=0
   . rw [if_pos d,List.filter_cons_of_neg (by simpa using d)]
     rfl
   . rw [if_neg d,List.filter_cons_of_pos (by simpa using d)]
     show itS p (p.length-1-k)++ []=(sg _::pT (ST 10) (trm _ _))++ []
     rw [Qo]
     rfl
def K3 (K:Frag):Sp:=fun vs H Q _=>∃(v:V) (p:List Int),vs=[v]/\Po K H v p 17 200/\Bnd p/\∀H',Same H H'->Q (.str (tx (sT (ST 10) (plF p)))) H'
theorem Pu {f:Addr}{fd:FuncData} (F:Df K mg "show_poly" Hh ["p"] f fd)  (G:mg "range"=none)  (d:Cal P w K mg base 33 "show_term" ["weight","many"] (K4 K)) (y:Cal P w K mg base 33 "degree" ["one"] (Mx K)):Cal P w K mg base 34 "show_poly" ["p"] (K3 K):=by
 refine F.cal (F.fn.ok Kw (fun vs H Q E h=> ?_) (fun a2 A outer s H vs Q E Z h=> ?_))
 . obtain⟨v,p,rfl,_⟩:=h
   rfl
 obtain⟨v,p,rfl,hp,hb,q⟩:=h
 have bt:Bt p:=⟨hp.2.1,hb⟩
 obtain⟨⟨a,rfl,t⟩,tp,lp,zp⟩:=id hp
 refine Av ⟨_,(Ac (Bb (Aj (Mi Z.units) (Ae 0) (Ba Ab) (Aw _)) (Af (Al Ao)) Ay)
  (Ac (Am 1 Kw.nd (Fo plainAttrs_str PySem.F.slot_str_join PySem.F.type_str_join Aal Ao (Aa (Ek (ts:=["many"]) (fs:=[(0,"p")]) rfl (Cz.of (sc:=Ar Hh) (N:=["p","shown"]) rfl rfl (by decide+kernel)) (Tz rfl G (Aa (Ai y Z (Aa (Ae 0) Ab)) (Aa (Em Ja Ad) (Aa (Em Ja Ad) Ab)))) (fun _ _ _=>(Aq 0 (show Nodup (["many","p"]:List Str)by decide+kernel))) (fun _ _ _=>(Ni (Aj Qa (Bf (Vu K) (Ae 1) (Ae 0) (fun _ _=>rfl)) Ad (Aw _)))) (fun _ _ _=>(Ai d Z (Aa (Bf (Vu K) (Ae 1) (Ae 0) (fun _ _=>rfl)) (Aa (Ae 0) Ab))))) Ab)))
  (Af (Al (Cd (Ck (Fo plainAttrs_str PySem.F.slot_str_startswith PySem.F.type_str_startswith Ph (Ae 1) (Aa Ao Ab))) (Eb Qg (Ae 1) (Dk Ad) Ig) (Ae 1)))))),?_⟩
 refine Ax fun w0 hw=> ?_
 done
 refine⟨zero_le _,fun z hz=> ?_⟩
 have M:=Same.upd hz (.tup [])
 have W:=M.tup t
 refine⟨a,z,p,[],rfl,rfl,W,.of Ah,?_⟩
 try done
 by_cases L:p=[]
 . rw [if_pos L]
   subst L
   exact q _ M
 rw [if_neg L]
 have a0:=length_pos_iff.mpr L
 generalize upd H z (.tup [])=H1 at M W
 subst hw
 refine Ax fun w0 hw=> ?_
 done
 refine⟨rfl,.ref a,p,17,200,rfl,hp.mono M,(p.length:Int)-1,-1,rfl,⟨by omega,by omega,by decide,by decide⟩,fun b a1=> ?_⟩
 rw [show((p.length:Int)-1- -1).toNat=p.length by omega]
 refine Nj (es:=List.range p.length) (inj:=fun i=> .int ((p.length:Int)-1-(i:Nat))) (fun i=>decide (co p (p.length-1-i)≠0)) (fun i=> .str (tx (itS p (p.length-1-i)))) (by rw [length_range];exact le_trans lp (by decide)) a1 (fun i H' _=>W9 i) (fun i H' R RF hi s hR hF=> ?_) fun H' s2 hl=> ?_
 . have a3:=mem_range.mp hi
   have ei:((p.length:Int)-1-(i:Nat))=((p.length-1-i:Nat):Int):=by omega
   have I:p.length-1-i<p.length:=by omega
   have hx:(p.map V.int)[p.length-1-i]? =some (.int (co p (p.length-1-i))):=by rw [getElem?_map,getElem?_eq_getElem I,Du I];rfl
   obtain⟨wb,wk⟩:=Vs bt I
   rw [ei]
   done
   refine Le (s.tup W) (Dl hx) ?_
   try done
   by_cases O:co p (p.length-1-i)=0
   . rw [if_pos O]
     exact hF (decide_eq_false fun z=>z O) _ (Same.refl _)
   . rw [if_neg O]
     refine Le (s.tup W) (Dl hx) ?_
     try done
     exact⟨_,p.length-1-i,rfl,O,wb,wk,hR (decide_eq_true O) _ (Same.refl _)⟩
 rw [show((List.range p.length).filter fun i=>decide (co p (p.length-1-i)≠0)).map (fun i=>V.str (tx (itS p (p.length-1-i))))=((((List.range p.length).filter fun i=>decide (co p (p.length-1-i)≠0)).map fun i=>itS p (p.length-1-i)).map tx).map V.str by rw [map_map,map_map];rfl]at hl
 have ef:=Ss (p:=p) p.length
 have Y:=Ob (S:=Sm 10) (st:=ST 10) bt (k:=p.length) (le_refl _)
 cases hE:(itF p p.length:List (Bool × List (Fx (Sm 10))))with
 | nil=>exact absurd hE (Sq tp L a0)
 | cons e r=>
 rw [hE]at ef Y
 rw [Ado]at Y
 have U:(sU (ST 10) (e::r)).length<=2000:=by
  split at Y
  . omega
  . rw [length_drop]at Y
    omega
 refine⟨_,b,_,rfl,rfl,.of hl,Aai _ (by rw [ef];exact le_trans U (by decide)),?_⟩
 rw [Aaj,ef]
 subst hw
 try done
 have q':=q H' (M.trans s2)
 unfold plF at q'
 rw [if_neg L,hE,Ado]at q'
 obtain⟨g,p'⟩:=e
 refine⟨rfl,?_⟩
 cases g with
 | true=>
   have nh:¬(sU (ST 10) ((true,p')::r)).head? =some 43:=fun z=>absurd (show some 45=some 43 from z) (by decide)
   rw [if_neg nh]
   exact q'
 | false=>
   rw [if_pos (show(sU (ST 10) ((false,p')::r)).head? =some 43 from rfl),R8]
   exact⟨le_trans U (by decide),q'⟩
def Af5:Sp:=fun vs H Q _=>∃a b:Int,vs=[.int a,.int b]/\Q (.int (Int.gcd a b:Int)) H
def Nt (_:Frag):Sp:=Af5
theorem Ug {f:Addr}{fd:FuncData} (F:Df K mg "divisor" Ml ["one","other"] f fd)  (d:mg "abs"=none)   :Cal P w K mg base 33 "divisor" ["one","other"] (Nt K):=by
 refine F.cal (F.fn.ok Il (fun M H Q E h=> ?_) (fun O A outer s H M Q E hr h=> ?_))
 . obtain⟨a,b,rfl,_⟩:=h
   rfl
 obtain⟨a,b,rfl,q⟩:=h
 refine Av ⟨_,(Ac (Am 2 Il.nd (Az Ih rfl d boot_abs (Aa (Ae 0) Ab)))
  (Ac (Am 3 Il.nd (Az Ih rfl d boot_abs (Aa (Ae 1) Ab)))
  (Ac (Dp PassesOwn.never (Aj Qa (Ae 3) Ad (Aw _)) (Af (Jp (i:=2) (j:=3) rfl Il.nd rfl rfl (by decide) rfl rfl (Aa (Ae 3) (Aa (Ag Iw (Ae 2) (Ae 3)) Ab)) rfl)))
  (Af (Al (Ae 2)))))),?_⟩
 repeat (first | done | simp only [abs_eq])
 refine Tn (fun σ H'=>H'=H/\∃x y:Nat,σ=[some (.int a),some (.int b),some (.int x),some (.int y)]/\Nat.gcd x y=Nat.gcd a.natAbs b.natAbs)
  (fun σ _=>match σ with | [_,_,_,some (.int y)]=>y.toNat | _=>0) ⟨rfl,_,_,rfl,rfl⟩ ?_ ?_
 . rintro σ H' ⟨rfl,x,y,rfl,e⟩
   done
   by_cases L:(y:Int)=0
   . rw [if_pos L]
     have G:y=0:=by omega
     subst G
     rw [Nat.gcd_zero_right]at e
     subst e
     exact q
   . rw [if_neg L]
     refine⟨by omega,⟨y,x%y,by rw [natCast_emod],by rw [Sg];exact e⟩,?_⟩
     show((x:Int)%(y:Int)).toNat<(y:Int).toNat
     rw [<-natCast_emod,toNat_natCast,toNat_natCast]
     exact mod_lt _ (by omega)
 . intro σ H' Q1 Q2 I
   simp only [Xa,Ahd]
   rintro⟨v,U,W⟩
   exact⟨v,U,by
    obtain⟨Y,k,Z,h3⟩:=W
    exact⟨Y,k,Z,I _ _ h3⟩⟩
def Mz (K:Frag):Sp:=fun vs H Q _=>∃a b:Nat,vs=[.int (a:Nat),.int (b:Nat)]/\Q (.int ((Nat.gcd a b:Nat):Int)) H
theorem Rf {f:Addr}{fd:FuncData} (F:Df K mg "_law_shared" Ke ["_law_one","_law_other"] f fd)     :Cal P w K mg base 33 "_law_shared" ["_law_one","_law_other"] (Mz K):=by
 refine F.cal (F.fn.ok Mv (fun L H Q E h=> ?_) (fun M A outer s H L Q E hr h=> ?_))
 . obtain⟨a,b,rfl,_⟩:=h
   rfl
 obtain⟨a,b,rfl,q⟩:=h
 refine Av ⟨_,(Ac (Dp PassesOwn.never (Aj Lb (Ae 1) Ad (Aw _)) (Af (Jp (i:=0) (j:=1) rfl Mv.nd rfl rfl (by decide) rfl rfl (Aa (Ae 1) (Aa (Ag Iw (Ae 0) (Ae 1)) Ab)) rfl)))
  (Af (Al (Ae 0)))),?_⟩
 done
 refine Tn (fun σ H'=>H'=H/\∃x y:Nat,σ=[some (.int x),some (.int y)]/\Nat.gcd x y=Nat.gcd a b)
  (fun σ _=>match σ with | [_,some (.int y)]=>y.toNat | _=>0) ⟨rfl,_,_,rfl,rfl⟩ ?_ ?_
 . rintro σ H' ⟨rfl,x,y,rfl,e⟩
   done
   by_cases I:0<(y:Int)
   . rw [if_pos I]
     refine⟨by omega,⟨y,x%y,by rw [natCast_emod],by rw [Sg];exact e⟩,?_⟩
     show((x:Int)%(y:Int)).toNat<(y:Int).toNat
     rw [<-natCast_emod,toNat_natCast,toNat_natCast]
     exact mod_lt _ (by omega)
   . rw [if_neg I]
     have d:y=0:=by omega
     subst d
     rw [Nat.gcd_zero_right]at e
     subst e
     exact q
 . intro σ H' Q1 Q2 G
   simp only [Xa,Ahd]
   rintro⟨v,O,U,k,W,Y,Z,e4,h3⟩
   exact⟨v,O,U,k,W,Y,Z,e4,G _ _ h3⟩
def Jj (K:Frag):Sp:=fun vs H Q _=>∃a b:Int,vs=[.int a,.int b]/\0<b/\Int.gcd a b=1/\∀z H',Same H H'->SqT K H' z [.int a,.int b]->Q (.ref z) H'
theorem Rb {f:Addr}{fd:FuncData} (F:Df K mg "fraction" Kd ["top","bottom"] f fd)   (G:Pyl P base) (d:Cal P w K mg base 33 "divisor" ["one","other"] (Nt K)):Cal P w K mg base 34 "fraction" ["top","bottom"] (Jj K):=by
 refine F.cal (F.fn.ok Ji (fun I H Q E h=> ?_) (fun L A outer s H I Q E y h=> ?_))
 . obtain⟨a,b,rfl,_⟩:=h
   rfl
 obtain⟨a,b,rfl,U,M,q⟩:=h
 refine Av ⟨_,(Ac (Bb (Aj Ds (Ae 1) Ad (Aw _)) (Af G7) Ay)
  (Ac (Am 2 Ji.nd (Ai d y (Aa (Ae 0) (Aa (Ae 1) Ab))))
  (Ac (Bb (Aj P0 (Ae 1) Ad (Aw _)) (Af (Am 2 Ji.nd (Em Ja (Ae 2)))) Ay)
  (Af (Al (Ba (Aa (Ag (Lj G (y.far (by decide)) rfl rfl rfl rfl rfl) (Ae 0) (Ae 2)) (Aa (Ag (Lj G (y.far (by decide)) rfl rfl rfl rfl rfl) (Ae 1) (Ae 2)) Ab)))))))),?_⟩
 done
 rw [if_neg (by omega)]
 refine⟨a,b,rfl,?_⟩
 rw [M]
 try done
 rw [if_neg (by omega)]
 refine⟨by decide,by decide,fun p O=> ?_⟩
 rw [show a.fdiv ((1:Nat):Int)=a from Int.fdiv_one a,show b.fdiv ((1:Nat):Int)=b from Int.fdiv_one b]
 exact q p _ (Same.upd O _) (.of Ah)
theorem Ez {H:Hp}{Q:VK}{E:XK}{l:Addr}{m:Int}{c:Nat} (h:Src H l c) (d:c<100000) (y:0<m) (F:m<2^210) (k:∀r H',0<=r->r<m->Sx l H H'->Src H' l (c+1)->Q (.int r) H'):Gi K [.ref l,.int m] H Q E:=⟨l,m,c,rfl,h,d,y,F,k⟩
theorem W0 {H:Hp}{l p:Addr}{c:Nat} (h:Src H l c) (d:H p=none):p≠l:=fun z=>by
 obtain⟨y,e⟩:=h.lst
 rw [<-z,d]at e
 cases e
def J0 (K:Frag):Sp:=fun vs H Q _=>∃(l:Addr) (c:Nat),vs=[.ref l]/\Src H l c/\c+6<100000/\∀z (a b:Int) H',Sx l H H'->Src H' l (c+6)->SqT K H' z [.int a,.int b]->0<b->b<10^60->a.natAbs<10^60->Int.gcd a b=1->Q (.ref z) H'
theorem Oe {f:Addr}{fd:FuncData} (F:Df K mg "_law_fraction" Hx ["_law_source_here"] f fd)  (W:mg "abs"=none) (py:Pyl P base) (y:Cal P w K mg base 33 "_law_shared" ["_law_one","_law_other"] (Mz K)) (d:Cal P w K mg base 34 "_law_next" ["_law_source_here","_law_many"] (Gi K)):Cal P w K mg base 35 "_law_fraction" ["_law_source_here"] (J0 K):=by
 refine F.cal (F.fn.ok Fv (fun vs H Q E h=> ?_) (fun a3 A outer s H vs Q E L h=> ?_))
 . obtain⟨l,c,rfl,_⟩:=h
   rfl
 obtain⟨l,c,rfl,sr,hc,q⟩:=h
 refine Av ⟨_,(Ac (Am 1 Fv.nd (Bf Dd (Bu (Aa (Ag Fi (Ai d L (Aa (Ae 0) (Aa Ad Ab))) Ad) (Aa (Ag Bv (Ag Fi (Ai d L (Aa (Ae 0) (Aa (Ag Fi (Ag Gb Ad (Ag Ku Ad Ad)) Ad) Ab))) (Ag Ku Ad Ad)) Ad) Ab))) (Ai d L (Aa (Ae 0) (Aa Ad Ab))) (fun _ _=>rfl)))
  (Ac (Am 2 Fv.nd (Ag Bv Ad (Bf Dd (Bu (Aa Ad (Aa (Ai d L (Aa (Ae 0) (Aa Ad Ab))) (Aa (Ai d L (Aa (Ae 0) (Aa (Ag Fi (Ag Ku Ad Ad) Ad) Ab))) Ab)))) (Ai d L (Aa (Ae 0) (Aa Ad Ab))) (fun _ _=>rfl))))
  (Ac (Am 3 Fv.nd (Ai y L (Aa (Az Ih rfl W boot_abs (Aa (Ae 1) Ab)) (Aa (Ae 2) Ab))))
  (Af (Al (Ba (Aa (Ag (Lj py (L.far (by decide)) rfl rfl rfl rfl rfl) (Ae 1) (Ae 3)) (Aa (Ag (Lj py (L.far (by decide)) rfl rfl rfl rfl rfl) (Ae 2) (Ae 3)) Ab)))))))),?_⟩
 have a2:(10:Int)^toNat 60=((10^60:Nat):Int):=by decide
 have cp:Aev 10 60:=⟨by decide,by decide,by decide⟩
 refine Dj (fun Y H'=>∃a:Int,Y=[some (.ref l),some (.int a),none,none]/\a.natAbs<10^60/\Sx l H H'/\Src H' l (c+3)) (fun M hM=> ?_) ?_
 . done
   rw [a2]
   refine Ez sr (by omega) (by decide) (by decide) fun r1 H1 a0 a1 x1 Z=> ?_
   try done
   refine⟨cp,.of_left (Qz (by decide)),Ez Z (by omega) (by decide) (by decide) fun r2 H2 b0 b1 x2 G=> ?_⟩
   try done
   refine⟨cp,fun p U=> ?_⟩
   have s3:=Same.upd U (.lst [.int (r1-4),.int (r2-((10^60:Nat):Int)+1)])
   have np:=W0 G U
   refine Ez (G.same s3) (by omega) (by decide) (by decide) fun i H3 i0 i1 x3 O=> ?_
   have it:=x3 _ _ np Ah
   have hx:=(x1.trans (x2.same s3)).trans x3
   rcases(show i=0\/i=1 by omega)with rfl | rfl
   . refine Hq (.of it) (at0 _ _) ?_
     exact hM _ _ ⟨_,rfl,by omega,hx,O⟩
   . refine Hq (.of it) (at1 _ _ _) ?_
     exact hM _ _ ⟨_,rfl,by omega,hx,O⟩
 rintro _ H3 ⟨a,rfl,ha,x3,O⟩
 refine Dj (fun Y H'=>∃b:Int,Y=[some (.ref l),some (.int a),some (.int b),none]/\0<b/\b<10^60/\Sx l H H'/\Src H' l (c+6)) (fun M hM=> ?_) ?_
 . done
   rw [a2]
   refine Ez O (by omega) (by decide) (by decide) fun r1 H1 a0 a1 x1 Z=> ?_
   try done
   refine⟨cp,Ez Z (by omega) (by decide) (by decide) fun r2 H2 b0 b1 x2 G=> ?_⟩
   try done
   refine⟨by decide,fun p U=> ?_⟩
   have s3:=Same.upd U (.lst [.int 0,.int r1,.int r2])
   have np:=W0 G U
   refine Ez (G.same s3) (by omega) (by decide) (by decide) fun i H4 i0 i1 x4 I=> ?_
   have it:=x4 _ _ np Ah
   have hx:=x3.trans ((x1.trans (x2.same s3)).trans x4)
   rcases(show i=0\/i=1\/i=2 by omega)with rfl | rfl | rfl
   . refine Hq (.of it) (at0 _ _) ?_
     try done
     exact hM _ _ ⟨_,rfl,by omega,by omega,hx,I⟩
   . refine Hq (.of it) (at1 _ _ _) ?_
     try done
     exact hM _ _ ⟨_,rfl,by omega,by omega,hx,I⟩
   . refine Hq (.of it) (Dl (j:=2) rfl) ?_
     try done
     exact hM _ _ ⟨_,rfl,by omega,by omega,hx,I⟩
 rintro _ H4 ⟨b,rfl,b0,b1,x4,I⟩
 repeat (first | done | simp only [abs_eq])
 refine⟨a.natAbs,b.natAbs,by rw [show((b.natAbs:Nat):Int)=b by omega],?_⟩
 have eg:Nat.gcd a.natAbs b.natAbs=Int.gcd a b:=rfl
 rw [eg]
 have g0:=Int.gcd_pos_of_ne_zero_right a (show b≠0 by omega)
 try done
 refine⟨by omega,by omega,fun p U=> ?_⟩
 have a4:(0:Int)<((Int.gcd a b:Nat):Int):=by omega
 have ea:a.fdiv ((Int.gcd a b:Nat):Int)=a/((Int.gcd a b:Nat):Int):=Int.fdiv_eq_ediv_of_nonneg _ (by omega)
 have eb:b.fdiv ((Int.gcd a b:Nat):Int)=b/((Int.gcd a b:Nat):Int):=Int.fdiv_eq_ediv_of_nonneg _ (by omega)
 have db:=Int.gcd_dvd_right a b
 have da:=Int.gcd_dvd_left a b
 obtain⟨u,hu⟩:=da
 obtain⟨v,hv⟩:=db
 have qa:a/((Int.gcd a b:Nat):Int)=u:=Int.ediv_eq_of_eq_mul_right (by omega) hu
 have qb:b/((Int.gcd a b:Nat):Int)=v:=Int.ediv_eq_of_eq_mul_right (by omega) hv
 rw [ea,eb,qa,qb]
 have v0:0<v:=by
  by_cases h:0<v
  . exact h
  . have:=Int.mul_nonneg (show(0:Int)<=((Int.gcd a b:Nat):Int)by omega) (show 0<= -v by omega)
    rw [Int.mul_neg]at this
    omega
 have a5:v<=b:=by
  have:=Int.mul_le_mul_of_nonneg_right (show(1:Int)<=((Int.gcd a b:Nat):Int)by omega) (Int.le_of_lt v0)
  omega
 have a6:u.natAbs<=a.natAbs:=by
  have h1:=congrArg Int.natAbs hu
  rw [Int.natAbs_mul,natAbs_natCast]at h1
  rw [h1]
  exact Nat.le_mul_of_pos_left _ g0
 have gu:Int.gcd u v=1:=by
  have h1:=Int.gcd_mul_left ((Int.gcd a b:Nat):Int) u v
  rw [<-hu,<-hv,natAbs_natCast]at h1
  exact(Nat.eq_of_mul_eq_mul_left g0 (by rw [Nat.mul_one];exact h1)).symm
 exact q p u v _ (x4.same (Same.upd U _)) (I.same (Same.upd U _)) (.of Ah) v0 (by omega) (by omega) gu
def frT (a b:Int):List Nat:=itx a++(if b=1 then []else 47::dg b.natAbs)
theorem Q8 {a:Int} (h:a.natAbs<10^60):(itx a).length<=61:=by
 have:=Fg h (by decide)
 unfold itx
 split
 . rw [length_cons]
   omega
 . omega
def Fe (K:Frag):Sp:=fun vs H Q _=>∃(z:Addr) (a b:Int),vs=[.ref z]/\SqT K H z [.int a,.int b]/\0<b/\b<10^60/\a.natAbs<10^60/\Q (.str (tx (frT a b))) H
theorem La {f:Addr}{fd:FuncData} (F:Df K mg "show_fraction" Gf ["r"] f fd)  (d:mg "str"=none)   :Cal P w K mg base 33 "show_fraction" ["r"] (Fe K):=by
 refine F.cal (F.fn.ok Fb (fun L H Q E h=> ?_) (fun M A outer s H L Q E Y h=> ?_))
 . obtain⟨z,a,b,rfl,_⟩:=h
   rfl
 obtain⟨z,a,b,rfl,t,Z,b1,y,q⟩:=h
 refine Av ⟨_,(Ac (Bm (Ae 0) (Bk rfl (Ak (Aq 1 Fb.nd) (Ak (Aq 2 Fb.nd) Bd))))
  (Af (Al (Cd (Aj Ds (Ae 2) Ad (Aw _)) (Bh Dq rfl d boot_str (Aa (Ae 1) Ab)) (Jl (Es (Ae 1) (Lr (Es (Ae 2) Jo)))))))),?_⟩
 refine Ax fun w0 O=> ?_
 done
 refine Cy t ?_
 try done
 subst O
 try done
 have la:=Q8 y
 have lb:=Fg (show b.natAbs<10^60 by omega) (by decide)
 have G:a.natAbs.log2<1920:=Iv (lt_trans y (by decide))
 have U:b.natAbs.log2<1920:=Iv (show b.natAbs<10^61 by omega)
 have W:itx b=dg b.natAbs:=by
  unfold itx
  rw [if_neg (by omega)]
 unfold frT at q
 by_cases h1:b=1
 . rw [if_pos h1]at q
   rw [if_pos h1]
   rw [append_nil]at q
   exact⟨G,q⟩
 . rw [if_neg h1]at q
   rw [if_neg h1,W]
   have l1:(itx a++ [47]).length<=62:=by rw [length_append,length_singleton];omega
   have I:(tx (itx a++ [47]++dg b.natAbs)).length<=sizeLine:=txl (by rw [length_append];omega)
   refine⟨G,txl (by omega),txl (by omega),U,I,I,?_⟩
   rw [append_assoc]
   exact q
theorem Og {l:List Nat}{c i:Nat}:StrLaws.At (tx l) (tx [c]) (tx l).length i↔l[i]? =some c:=StrLaws.subAt_one (tx l) c i
theorem Zu {l:List Nat}{i j:Nat}:Builtin.Str.strSub (tx l) i j=tx ((l.drop i).take (j-i)):=by
 rw [Zt (Builtin.Str.strSub (tx l) i j),StrLaws.strSub_toList]
theorem Wi {d:List Nat} (h:47∉d):Txt.partition (tx d) (tx [47])=(tx d,tx [],tx []):=by
 rcases partition_whole (tx d) (tx [47])with⟨e,_⟩ | ⟨i,_,hi,_⟩
 . exact e
 . exact absurd (List.mem_of_getElem? (Og.mp hi)) h
theorem S5 {d e:List Nat} (h:47∉d):Txt.partition (tx (d++47::e)) (tx [47])=(tx d,tx [47],tx e):=by
 have y:(d++47::e)[d.length]? =some 47:=by rw [getElem?_append_right (le_refl _),sub_self];rfl
 rcases partition_whole (tx (d++47::e)) (tx [47])with⟨_,n⟩ | ⟨i,F,hi,G⟩
 . exact absurd (Og.mpr y) (n _)
 . have h1:i=d.length:=by
    have h2:=Og.mp hi
    by_cases I:i<d.length
    . rw [getElem?_append_left I]at h2
      exact absurd (List.mem_of_getElem? h2) h
    . by_cases L:d.length<i
      . exact absurd (Og.mpr y) (G _ L)
      . omega
   rw [F,h1,Zu,Zu]
   have M:((d++47::e).drop 0).take (d.length-0)=d:=by rw [drop_zero,sub_zero,List.take_left]
   have O:((d++47::e).drop (d.length+(tx [47]).length)).take ((tx (d++47::e)).length-(d.length+(tx [47]).length))=e:=by
    show((d++47::e).drop (d.length+1)).take _=e
    rw [<-List.drop_drop,List.drop_left]
    show e.take _=e
    refine take_of_length_le ?_
    rw [Ho,length_append,length_cons]
    show e.length<=d.length+(e.length+1)-(d.length+1)
    omega
   rw [M,O]
theorem Xv {m:Nat}:47∉dg m:=fun h=>by have:=Ks m _ h;omega
theorem Afe {m:Nat} (h:m≠0):dg m≠ [48]:=fun z=>by
 obtain⟨c,r,e,d⟩:=Vi m h
 rw [z]at e
 injection e with e1
 omega
theorem Ab7:dg 1=[49]:=Z5 (by decide)
theorem Z9 {H:Hp}{σ:St}{Q:St->Hp->Prop}{p:Addr}{d y F:V}{i j k:Nat} (h:SqT K H p [d,y,F]) (q:Q (((σ.set i (some d)).set j (some y)).set k (some F)) H):Abu K 3 (Q6 (Jt i) (Q6 (Jt j) (Q6 (Jt k) Ae2))) (.ref p) σ H Q:=⟨p,_,rfl,h,rfl,d,_,rfl,y,_,rfl,F,_,rfl,rfl,q⟩
def Hj (K:Frag):Sp:=fun vs H Q _=>∃a b:Int,vs=[.str (tx (frT a b))]/\0<b/\b<10^60/\a.natAbs<10^60/\Int.gcd a b=1/\∀z H',Same H H'->SqT K H' z [.int a,.int b]->Q (.ref z) H'
theorem K8 {f:Addr}{fd:FuncData} (F:Df K mg "read_fraction" Gd ["text"] f fd)  (I:mg "isinstance"=none) (Z:mg "str"=none) (O:mg "int"=none)  (d:Cal P w K mg base 33 "refuse_unless" ["fits"] (Ca K)) (L:Cal P w K mg base 34 "fraction" ["top","bottom"] (Jj K)) (y:Cal P w K mg base 33 "are_figures" ["text"] (Gv K)) (G:Cal P w K mg base 33 "show_fraction" ["r"] (Fe K)):Cal P w K mg base 35 "read_fraction" ["text"] (Hj K):=by
 refine F.cal (F.fn.ok Bw (fun vs H Q E h=> ?_) (fun a3 A outer s H vs Q E hr h=> ?_))
 . obtain⟨a,b,rfl,_⟩:=h
   rfl
 obtain⟨a,b,rfl,b0,b1,a1,hg,q⟩:=h
 refine Av ⟨_,(Ac (Br (Ai d hr (Aa (Az N5 rfl I boot_isinstance (Aa (Ae 0) (Aa (Cr (v:= .ty "str") rfl Z boot_str rfl) Ab))) Ab)))
  (Ac (Am 1 Bw.nd (Cd (Ck (Fo plainAttrs_str PySem.F.slot_str_startswith PySem.F.type_str_startswith Ph (Ae 0) (Aa Ao Ab))) (Eb Qg (Ae 0) (Dk Ad) Ig) (Ae 0)))
  (Ac (Bm (Fo plainAttrs_str PySem.F.slot_str_partition PySem.F.type_str_partition Aam (Ae 1) (Aa Ao Ab)) (Bk rfl (Ak (Aq 3 Bw.nd) (Ak (Aq 4 Bw.nd) (Ak (Aq 5 Bw.nd) Bd)))))
  (Ac (Bb (Aj Ds (Ae 4) Ao (Aw _)) (Af (Am 5 Bw.nd Ao)) Ay)
  (Ac (Br (Ai d hr (Aa (Fy (Ai y hr (Aa (Ae 3) Ab)) (Fy (Ai y hr (Aa (Ae 5) Ab)) (Hs (Bo Qa (Ae 5) Ao (Aw _))))) Ab)))
  (Ac (Am 2 Bw.nd (Ai L hr (Aa (Cd (Aj Ds (Ae 1) (Ae 0) (Aw _)) (Bh Gk rfl O boot_int (Aa (Ae 3) Ab)) (Em Ja (Bh Gk rfl O boot_int (Aa (Ae 3) Ab)))) (Aa (Bh Gk rfl O boot_int (Aa (Ae 5) Ab)) Ab))))
  (Ac (Br (Ai d hr (Aa (Bo Ds (Ai G hr (Aa (Ae 2) Ab)) (Ae 0) (Aw _)) Ab)))
  (Af (Al (Ae 2)))))))))),?_⟩
 have la:=Q8 a1
 have ld:=Fg a1 (by decide)
 have lb:=Fg (show b.natAbs<10^60 by omega) (by decide)
 have lt:(frT a b).length<=200:=by
  unfold frT
  rw [length_append]
  split
  . show _+0<=200
    omega
  . rw [length_cons]
    omega
 have W:frT a b=(if a<0 then [45]else [])++(dg a.natAbs++(if b=1 then []else 47::dg b.natAbs)):=by
  unfold frT itx
  split<;>simp
 refine Ax fun w0 hw=> ?_
 done
 refine⟨_,_,_,_,rfl,.str _,Vv,rfl,?_⟩
 subst hw
 refine Dj (fun U H'=>U=[some (.str (tx (frT a b))),some (.str (tx (dg a.natAbs++(if b=1 then []else 47::dg b.natAbs)))),none,none,none,none]/\H'=H) (fun M Y=> ?_) ?_
 . done
   refine⟨rfl,?_⟩
   by_cases hn:a<0
   . rw [if_pos hn]at W
     rw [if_pos (by rw [W];rfl)]
     refine⟨txl (le_trans lt (by decide)),Y _ _ ⟨?_,rfl⟩⟩
     rw [R8,W]
     rfl
   . rw [if_neg hn]at W
     have hh:¬(frT a b).head? =some 45:=fun z=>by
      rw [W]at z
      cases e:dg a.natAbs with
      | nil=>exact absurd e (N8 _)
      | cons c r=>
        rw [e]at z
        have:=Ks a.natAbs c (by rw [e];exact mem_cons_self ..)
        have z':some c=some 45:=z
        injection z' with z'
        omega
     rw [if_neg hh]
     exact Y _ _ ⟨by rw [W];rfl,rfl⟩
 rintro _ H' ⟨rfl,e⟩
 replace e:=e.symm
 subst e
 have lz:(dg a.natAbs++(if b=1 then []else 47::dg b.natAbs)).length<=200:=by
  rw [W,length_append]at lt
  omega
 refine Dj (fun U H'=>∃sl bo,U=[some (.str (tx (frT a b))),some (.str (tx (dg a.natAbs++(if b=1 then []else 47::dg b.natAbs)))),none,some (.str (tx (dg a.natAbs))),some (.str sl),some (.str bo)]/\Same H H'/\((b=1/\sl=tx [])\/(b≠1/\sl=tx [47]/\bo=tx (dg b.natAbs)))) (fun M Y=> ?_) ?_
 . done
   refine⟨rfl,rfl,txl (le_trans lz (by decide)),fun p hp=> ?_⟩
   have s1:=Same.upd hp (.tup [.str (Txt.partition (tx (dg a.natAbs++(if b=1 then []else 47::dg b.natAbs))) (tx [47])).1,.str (Txt.partition (tx (dg a.natAbs++(if b=1 then []else 47::dg b.natAbs))) (tx [47])).2.1,.str (Txt.partition (tx (dg a.natAbs++(if b=1 then []else 47::dg b.natAbs))) (tx [47])).2.2])
   refine Z9 (.of Ah) ?_
   refine Y _ _ ⟨(Txt.partition (tx (dg a.natAbs++(if b=1 then []else 47::dg b.natAbs))) (tx [47])).2.1,(Txt.partition (tx (dg a.natAbs++(if b=1 then []else 47::dg b.natAbs))) (tx [47])).2.2,?_,s1,?_⟩
   . by_cases h1:b=1
     . rw [if_pos h1,append_nil,Wi Xv]
       rfl
     . rw [if_neg h1,S5 Xv]
       rfl
   . by_cases h1:b=1
     . rw [if_pos h1,append_nil,Wi Xv]
       exact .inl ⟨h1,rfl⟩
     . rw [if_neg h1,S5 Xv]
       exact .inr ⟨h1,rfl,rfl⟩
 rintro _ H1 ⟨sl,bo,rfl,s1,hb⟩
 refine Dj (fun U H'=>U=[some (.str (tx (frT a b))),some (.str (tx (dg a.natAbs++(if b=1 then []else 47::dg b.natAbs)))),none,some (.str (tx (dg a.natAbs))),some (.str sl),some (.str (tx (dg b.natAbs)))]/\H'=H1) (fun M Y=> ?_) ?_
 . done
   rcases hb with⟨h1,rfl⟩ | ⟨h1,rfl,rfl⟩
   . rw [if_pos rfl]
     refine Y _ _ ⟨?_,rfl⟩
     rw [h1,show dg (1:Int).natAbs=[49]from Ab7]
   . rw [if_neg fun z=>absurd (G5.mp z) (by decide)]
     exact Y _ _ ⟨rfl,rfl⟩
 rintro _ H' ⟨rfl,e⟩
 replace e:=e.symm
 subst e
 refine Ax fun w0 hw=> ?_
 done
 refine⟨a.natAbs,rfl,ld,fun H2 s2=> ?_⟩
 try done
 refine⟨b.natAbs,rfl,lb,fun H3 s3=> ?_⟩
 try done
 rw [decide_eq_false fun z=>Afe (show b.natAbs≠0 by omega) (G5.mp z)]
 refine⟨rfl,?_⟩
 subst hw
 have a2:=s1.trans (s2.trans s3)
 refine Dj (fun U H'=>∃z,U=[some (.str (tx (frT a b))),some (.str (tx (dg a.natAbs++(if b=1 then []else 47::dg b.natAbs)))),some (.ref z),some (.str (tx (dg a.natAbs))),some (.str sl),some (.str (tx (dg b.natAbs)))]/\Same H H'/\SqT K H' z [.int a,.int b]) (fun M Y=> ?_) ?_
 . done
   have ia:=Vn (m:=a.natAbs) (le_trans ld (by decide))
   have ib:=Vn (m:=b.natAbs) (le_trans lb (by decide))
   have l6:(tx (dg a.natAbs)).length<=640:=le_trans ld (by decide)
   have l7:(tx (dg b.natAbs)).length<=640:=le_trans lb (by decide)
   have a0:Jj K [.int a,.int ((b.natAbs:Nat):Int)] H3 (fun x H1=>M [some (.str (tx (frT a b))),some (.str (tx (dg a.natAbs++(if b=1 then []else 47::dg b.natAbs)))),some x,some (.str (tx (dg a.natAbs))),some (.str sl),some (.str (tx (dg b.natAbs)))] H1) E0:=⟨a,b,by rw [show((b.natAbs:Nat):Int)=b by omega],b0,hg,fun z H4 s4 hz=>Y _ _ ⟨z,rfl,a2.trans s4,hz⟩⟩
   by_cases hn:a<0
   . rw [if_pos hn]at W
     rw [if_neg fun z=>by
      have:=congrArg List.length (G5.mp z)
      rw [W,show [45]++(dg a.natAbs++(if b=1 then []else 47::dg b.natAbs))=45::(dg a.natAbs++(if b=1 then []else 47::dg b.natAbs))from rfl,length_cons]at this
      omega]
     refine⟨_,ia,l6,_,ib,l7,?_⟩
     rw [show-((a.natAbs:Nat):Int)=a by omega]
     exact a0
   . rw [if_neg hn]at W
     rw [if_pos (by rw [W];rfl)]
     refine⟨_,ia,l6,_,ib,l7,?_⟩
     rw [show((a.natAbs:Nat):Int)=a by omega]
     exact a0
 rintro _ H4 ⟨z,rfl,s4,hz⟩
 refine Ax fun w0 hw=> ?_
 done
 refine⟨z,a,b,rfl,hz,b0,b1,a1,?_⟩
 try done
 refine⟨congrArg (fun b=>[V.bl b]) (decide_eq_true trivial),?_⟩
 subst hw
 try done
 exact q z H4 s4 hz
def Gh (K:Frag):Sp:=fun vs H Q _=>∃(z:Addr) (a b:Int),vs=[.ref z]/\SqT K H z [.int a,.int b]/\0<b/\b<10^60/\a.natAbs<10^60/\Int.gcd a b=1/\∀H',Same H H'->Q (.bl true) H'
theorem Vw:kitOne K (.type "tuple") (.type "tuple")=some true:=Abv (by decide+kernel)
theorem Jd {f:Addr}{fd:FuncData} (F:Df K mg "_law_fraction_right" Ei ["_law_r"] f fd)  (L:mg "str"=none) (I:mg "isinstance"=none) (O:mg "tuple"=none)  (d:Cal P w K mg base 35 "read_fraction" ["text"] (Hj K)) (G:Cal P w K mg base 33 "show_fraction" ["r"] (Fe K)):Cal P w K mg base 36 "_law_fraction_right" ["_law_r"] (Gh K):=by
 refine F.cal (F.fn.ok Dh (fun vs H Q E h=> ?_) (fun a0 A outer s H vs Q E W h=> ?_))
 . obtain⟨z,a,b,rfl,_⟩:=h
   rfl
 obtain⟨z,a,b,rfl,t,b0,b1,U,hg,q⟩:=h
 refine Av ⟨_,(Ac (Am 1 Dh.nd (Bh Dq rfl L boot_str (Aa (Bf Hv (Ae 0) Ad (fun _ _=>rfl)) Ab)))
  (Ac (Bb (Aj Lb (Bf Hv (Ae 0) Ad (fun _ _=>rfl)) Ad (Aw _)) (Af (Am 1 Dh.nd (Ag Bj (Ag Bj (Ae 1) Ao) (Bh Dq rfl L boot_str (Aa (Bf Hv (Ae 0) Ad (fun _ _=>rfl)) Ab))))) Ay)
  (Ac (Am 2 Dh.nd (Ai d W (Aa (Ae 1) Ab)))
  (Af (Al (Fy (Bo Ds (Ai G W (Aa (Ae 0) Ab)) (Ae 1) (Aw _)) (Fy (Az Fp rfl I boot_isinstance (Aa (Ae 2) (Aa (Cr (v:= .ty "tuple") rfl O boot_tuple rfl) Ab))) (Hs (Bo (Mi W.units) (Ae 2) (Ae 0) (Aw _)))))))))),?_⟩
 have la:=Q8 U
 have lb:=Fg (show b.natAbs<10^60 by omega) (by decide)
 have ga:a.natAbs.log2<1920:=Iv (lt_trans U (by decide))
 have gb:b.natAbs.log2<1920:=Iv (show b.natAbs<10^61 by omega)
 have eb:itx b=dg b.natAbs:=by
  unfold itx
  rw [if_neg (by omega)]
 refine Ax fun w0 Y=> ?_
 done
 refine Le t (at0 _ _) ?_
 try done
 refine⟨ga,?_⟩
 subst Y
 refine Dj (fun Z H'=>Z=[some (.ref z),some (.str (tx (frT a b))),none]/\H'=H) (fun M hM=> ?_) ?_
 . done
   refine Le t (at1 _ _ _) ?_
   try done
   by_cases h1:b=1
   . rw [if_neg (by omega)]
     refine hM _ _ ⟨?_,rfl⟩
     unfold frT
     rw [if_pos h1,append_nil]
   . rw [if_pos (by omega)]
     refine⟨szl (show(itx a).length+1<=1000000 by omega),Le t (at1 _ _ _) ?_⟩
     try done
     rw [eb]
     refine⟨gb,szl (show(itx a++ [47]).length+(dg b.natAbs).length<=1000000 by rw [length_append,length_singleton];omega),hM _ _ ⟨?_,rfl⟩⟩
     unfold frT
     rw [if_neg h1,append_assoc]
     rfl
 rintro _ H' ⟨rfl,e⟩
 replace e:=e.symm
 subst e
 refine Ax fun w0 Y=> ?_
 done
 refine⟨a,b,rfl,b0,b1,U,hg,fun y H1 s1 hy=> ?_⟩
 subst Y
 try done
 refine⟨z,a,b,rfl,s1.tup t,b0,b1,U,?_⟩
 try done
 refine isa (.tup hy) Vw ?_
 try done
 exact⟨y,z,[a,b],[a,b],rfl,rfl,hy,s1.tup t,by rw [decide_eq_true rfl];exact q _ s1⟩
theorem U0 (p:List Int):trim (p++ [0])=trim p:=by
 refine Kr (Ej p) fun i=> ?_
 rw [Gs]
 unfold co
 rw [getD_eq_getElem?_getD,getD_eq_getElem?_getD]
 by_cases h:i<p.length
 . rw [getElem?_append_left h]
 . rw [getElem?_append_right (by omega),getElem?_eq_none (l:=p) (by omega)]
   cases h':i-p.length with
   | zero=>rfl
   | succ j=>rfl
def Ir (K:Frag):Sp:=fun vs H Q _=>∃(a:Addr) (ns:List Int),vs=[.ref a]/\SqI K H a ns/\ns.length<=1000/\∀z H',Same H H'->SqT K H' z ((trim ns).map V.int)->Q (.ref z) H'
theorem Um {f:Addr}{fd:FuncData} (F:Df K mg "_law_plain" Ms ["_law_weights"] f fd)  (z_list:mg "list"=none) (y:mg "tuple"=none)   :Cal P w K mg base 33 "_law_plain" ["_law_weights"] (Ir K):=by
 refine F.cal (F.fn.ok Nq (fun vs H Q E h=> ?_) (fun a0 A outer s H vs Q E hr h=> ?_))
 . obtain⟨a,ns,rfl,_⟩:=h
   rfl
 obtain⟨a,ns,rfl,hS,hl,q⟩:=h
 refine Av ⟨_,(Ac (Am 1 Nq.nd (Bh Et rfl z_list boot_list (Aa (Ae 0) Ab)))
  (Ac (Dp PassesOwn.never (Dc (Eh (Aj (Sw hr.units) (Ae 1) (Bu Ab) (Aw _)) (Ec (Aj Ds (Bf Dd (Ae 1) (Em Ja Ad) (fun _ _=>rfl)) Ad (Aw _))))) (Af (Br (O5 plainAttrs_list slot_list_pop type_list_pop Zb (Ae 1)))))
  (Af (Al (Bh Dr rfl y boot_tuple (Aa (Ae 1) Ab)))))),?_⟩
 done
 refine⟨a,_,rfl,hS,fun l Z=> ?_⟩
 refine O1 (fun σ H'=>σ=[some (.ref a),some (.ref l)]/\Same H H'/\∃ms:List Int,H' l=some (.lst (ms.map V.int))/\trim ms=trim ns/\ms.length<=1000)
  (fun σ H'=>match H' l with | some (.lst xs)=>xs.length | _=>0) ⟨rfl,Same.upd Z _,ns,Ah,rfl,hl⟩ ?_
 rintro σ H' ⟨rfl,s1,ms,M,ht,U⟩
 have W:∀H2:Hp,Same H' H2->trim ms=ms->∃p ys,[V.ref l]=[V.ref p]/\((SqL K H2 p ys/\∀(l:Addr),H2 l=none->Q (V.ref l) (upd H2 l (HO.tup ys)))\/SqT K H2 p ys/\Q (V.ref p) H2):=fun H2 L e=>
  ⟨l,_,rfl,.inl ⟨.of (L _ _ M),fun z O=>q z _ ((s1.trans L).trans (Same.upd O _)) (by rw [<-ht,e];exact .of Ah)⟩⟩
 done
 refine⟨by decide,fun p hp=> ?_⟩
 have a1:l≠p:=fun z=>by
  rw [z,hp]at M
  cases M
 have L:=Same.upd hp (.lst [])
 have G:upd H' p (.lst []) l=some (.lst (ms.map V.int)):=L _ _ M
 refine Oa (ms:=[]) (.of G) (.of Ah) ?_
 done
 by_cases Y:ms=[]
 . rw [if_pos Y]
   exact W _ L (by rw [Y];rfl)
 . rw [if_neg Y]
   obtain⟨I,d,rfl⟩:∃(i:List Int) (x:Int),ms=i++ [x]:=⟨_,_,(List.dropLast_concat_getLast Y).symm⟩
   have em:(I++ [d]).map V.int=I.map V.int++ [V.int d]:=by rw [map_append];rfl
   rw [em]at M G
   refine Hq (.of G) (R4 _ _) ?_
   done
   by_cases O:d=0
   . rw [if_pos O]
     subst O
     refine Abm ?_
     done
     refine⟨.inl ⟨rfl,_,.of G⟩,l,_,.int 0,rfl,rfl,G,by simp,?_⟩
     dsimp only
     rw [M,Ah,List.dropLast_concat]
     refine⟨⟨fun b o e=> ?_,I,rfl,(U0 I).symm.trans ht,?_⟩,?_⟩
     . rw [Bl (Bs e Z)]
       exact L _ _ (s1 _ _ e)
     . rw [length_append]at U
       exact le_trans (le_add_right _ _) U
     . simp
   . rw [if_neg O]
     exact W _ L (Ow (.inr ⟨Y,by rw [List.getLast_concat];exact O⟩))
def OV (K:Frag) (H:Hp) (v:V):Option (List Int)->Prop
 | some p=>Po K H v p 17 200/\Bnd p
 | none=>v= .str (tx [103,114,101,97,116])
theorem OV.mono {H H':Hp}{v:V}{o:Option (List Int)} (h:OV K H v o) (s:Same H H'):OV K H' v o:=by
 cases o with
 | none=>exact h
 | some p=>exact⟨h.1.mono s,h.2⟩
def Hz (K:Frag):Sp:=fun vs H Q _=>∃(a:Addr) (ns:List Int),vs=[.ref a]/\SqI K H a ns/\ns.length<=1000/\∀v H',Same H H'->OV K H' v (bd (trim ns))->Q v H'
theorem Pn {f:Addr}{fd:FuncData} (F:Df K mg "_law_bounded" Hg ["_law_weights"] f fd)  (z_len:mg "len"=none) (I:mg "abs"=none)  (y:Cal P w K mg base 33 "_law_plain" ["_law_weights"] (Ir K)):Cal P w K mg base 34 "_law_bounded" ["_law_weights"] (Hz K):=by
 refine F.cal (F.fn.ok Kv (fun vs H Q E h=> ?_) (fun a0 A outer s H vs Q E hr h=> ?_))
 . obtain⟨a,ns,rfl,_⟩:=h
   rfl
 obtain⟨a,ns,rfl,hS,hl,q⟩:=h
 refine Av ⟨_,(Ac (Am 1 Kv.nd (Ai y hr (Aa (Ae 0) Ab)))
  (Ac (Bb (Dc (Gj (Aj Lb (Az Bg rfl z_len PySem.boot_len (Aa (Ae 1) Ab)) Ad (Aw _)) (Fz (Aj (Sw hr.units) (Ek (ts:=["_law_weight"]) (fs:=[]) rfl (Cz.of (sc:=Ar Hg) (N:=["_law_weights","_law_found"]) rfl rfl (by decide+kernel)) (Jm (Ae 1)) (fun _ _ _=>(Aq 0 (show Nodup (["_law_weight"]:List Str)by decide+kernel))) (fun _ _ _=>(Ni (Aj Acy (Az Ih rfl I boot_abs (Aa (Ae 0) Ab)) (Ag Ku Ad Ad) (Aw _)))) (fun _ _ _=>(Ae 0))) (Bu Ab) (Aw _))))) (Af (Al Ao)) Ay)
  (Af (Al (Ae 1))))),?_⟩
 have tr:=Ej ns
 have ln:(trim ns).length<=1000:=le_trans (Ti ns) hl
 refine Ax fun w0 G=> ?_
 done
 refine⟨a,ns,rfl,hS,hl,fun z H1 s1 L=> ?_⟩
 subst G
 refine Ax fun w0 G=> ?_
 generalize trim ns=p at tr ln L q
 have no:¬Bnd p->∀ {H':Hp},Same H H'->Q (.str (tx [103,114,101,97,116])) H':=fun M {H'} s=>q _ H' s (by unfold bd;rw [if_neg M];rfl)
 done
 refine⟨z,_,rfl,.inr L,?_⟩
 rw [length_map]
 by_cases O:p.length<=17
 rotate_left
 . rw [if_pos (by omega)]
   exact no (fun b=>O b.1) s1
 rw [if_neg (by omega)]
 refine⟨⟨_,L⟩,fun c hc=>Nj (es:=p) (inj:=V.int) (fun w=>decide (10^60<=w.natAbs)) V.int (le_trans ln (by decide)) hc (Tp L) (fun e H' R RF he s hR hF=> ?_) fun H' s2 Y=> ?_⟩
 . repeat (first | done | simp only [abs_eq])
   refine⟨⟨by decide,by decide,by decide⟩,?_⟩
   have Z:(10:Int)^(60:Int).toNat=((10^60:Nat):Int):=by decide
   rw [Z]
   by_cases G:10^60<=e.natAbs
   . rw [if_pos (by omega)]
     exact hR (decide_eq_true G) _ (Same.refl _)
   . rw [if_neg (by omega)]
     exact hF (decide_eq_false G) _ (Same.refl _)
 refine⟨by decide,fun d hd=> ?_⟩
 have s3:=Same.upd hd (.lst [])
 refine Oa (ms:=[]) (.of (s3 _ _ Y)) (.of Ah) ?_
 try done
 have U:=s1.trans (s2.trans s3)
 by_cases W:p.filter (fun w=>decide (10^60<=w.natAbs))=[]
 . rw [if_pos W]
   subst G
   try done
   have M:Bnd p:=⟨O,fun w G=>by
    have:=List.filter_eq_nil_iff.mp W w G
    simpa using this⟩
   exact q _ _ U (by unfold bd;rw [if_pos M];exact⟨Bt.po ⟨tr,M⟩ ((s2.trans s3).tup L),M⟩)
 . rw [if_neg W]
   refine no (fun b=>W (List.filter_eq_nil_iff.mpr fun w G=> ?_)) U
   have:=b.2 w G
   simpa using this
theorem Acq:kitOne K (.type "tuple") (.type "str")=some false:=Abv (by decide+kernel)
def OVs (o:Option (List Int)):Bool:=o.isNone
theorem OV.ty {H:Hp}{v:V}{o:Option (List Int)} (h:OV K H v o):∃t,TyA K H v t/\kitOne K t (.type "str")=some (OVs o):=by
 cases o with
 | none=>
   cases(show v=_ from h)
   exact⟨_,.of (.str _),Vv⟩
 | some p=>
   obtain⟨⟨⟨a,rfl,t⟩,_⟩,_⟩:=h
   exact⟨_,.tup t,Acq⟩
def Gn (K:Frag):Sp:=fun vs H Q _=>∃(x y:V) (o1 o2:Option (List Int)),vs=[x,y]/\OV K H x o1/\OV K H y o2/\∀v H',Same H H'->OV K H' v (o1.bind fun p=>o2.bind fun q=>bd (tm p q))->Q v H'
theorem Pq {f:Addr}{fd:FuncData} (F:Df K mg "_law_product" Jf ["_law_p","_law_q"] f fd)  (z_enumerate:mg "enumerate"=none) (I:mg "isinstance"=none) (U:mg "str"=none) (z_len:mg "len"=none)  (M:Cal P w K mg base 34 "_law_bounded" ["_law_weights"] (Hz K)):Cal P w K mg base 35 "_law_product" ["_law_p","_law_q"] (Gn K):=by
 refine F.cal (F.fn.ok Ef (fun vs H Q E h=> ?_) (fun ah A outer s H vs Q E hr h=> ?_))
 . obtain⟨x,y,o1,o2,rfl,_⟩:=h
   rfl
 obtain⟨x,y,o1,o2,rfl,h1,h2,k⟩:=h
 refine Av ⟨_,(Ac (Bb (Dc (Gj (Ck (Az Fp rfl I boot_isinstance (Aa (Ae 0) (Aa (Cr (v:= .ty "str") rfl U boot_str rfl) Ab)))) (Fz (Ck (Az Fp rfl I boot_isinstance (Aa (Ae 1) (Aa (Cr (v:= .ty "str") rfl U boot_str rfl) Ab))))))) (Af (Al Ao)) Ay)
  (Ac (Am 2 Ef.nd (Ag Sy (Bu (Aa Ad Ab)) (Ag Bv (Az Bg rfl z_len PySem.boot_len (Aa (Ae 0) Ab)) (Az Bg rfl z_len PySem.boot_len (Aa (Ae 1) Ab)))))
  (Ac (Cj PassesOwn.never rfl (Ie rfl z_enumerate (Aa (Ae 0) Ab)) (Bk rfl (Ak (Aq 3 Ef.nd) (Ak (Aq 4 Ef.nd) Bd))) (Af (Cj PassesOwn.never rfl (Ie rfl z_enumerate (Aa (Ae 1) Ab)) (Bk rfl (Ak (Aq 5 Ef.nd) (Ak (Aq 6 Ef.nd) Bd))) (Af (Bm (Ag Bv (Bf Dd (Ae 2) (Ag Bv (Ae 3) (Ae 5)) (fun _ _=>rfl)) (Ag Gb (Ae 4) (Ae 6))) (Gy (Ae 2) (Ag Bv (Ae 3) (Ae 5)) set_list))))))
  (Af (Al (Ai M hr (Aa (Ae 2) Ab))))))),?_⟩
 obtain⟨t1,a9,k1⟩:=h1.ty
 obtain⟨t2,aa,k2⟩:=h2.ty
 refine Ax fun w0 hw=> ?_
 done
 refine isa a9 k1 ?_
 try done
 cases o1 with
 | none=>
   try done
   exact k _ _ (Same.refl _) rfl
 | some p=>
 try done
 refine isa aa k2 ?_
 try done
 cases o2 with
 | none=>
   try done
   exact k _ _ (Same.refl _) rfl
 | some q=>
 try done
 subst hw
 obtain⟨hx,bp⟩:=h1
 obtain⟨hy,bq⟩:=h2
 have mx:=hx.mem
 have my:=hy.mem
 obtain⟨⟨a,rfl,ha⟩,tp,lp,zp⟩:=hx
 obtain⟨⟨b,rfl,hb⟩,tq,lq,zq⟩:=hy
 rw [if_neg (show ¬OVs (some q)=true from Bool.false_ne_true)]
 done
 intro p3 ab
 have s3:=Same.upd ab (.lst [V.int 0])
 have ai:1000<=sizeLine:=by decide
 refine⟨a,_,rfl,.inr (s3.tup ha),b,_,rfl,.inr (s3.tup hb),?_⟩
 simp only [length_map]
 have hN:((p.length:Int)+(q.length:Int)).toNat=p.length+q.length:=by omega
 refine⟨p3,_,[V.int 0],rfl,rfl,Ah,by omega,by omega,by rw [hN];simp only [length_cons,length_nil];omega,fun l0 hn=> ?_⟩
 rw [hN,Js]
 have ac:H l0=none:=Same.free s3 hn
 have s4:=s3.trans (Same.upd hn (.lst ((replicate (p.length+q.length) (0:Int)).map V.int)))
 refine⟨⟨_,s4.tup ha⟩,T9 (es:=p) (inj:=V.int) (fun G σ H'=>∃(o1 o2 Y Z:Option V) (ms:List Int),σ=[some (.ref a),some (.ref b),some (.ref l0),o1,o2,Y,Z]/\Same H H'/\H' l0=some (.lst (ms.map V.int))/\ms.length=p.length+q.length/\∀i,co ms i=mu G (co q) i)
  ⟨_,_,_,_,replicate (p.length+q.length) 0,rfl,s4,Ah,by rw [length_replicate],fun i=> ?_⟩ ?_ ?_ ?_⟩
 . show _=0
   unfold co
   rw [getD_eq_getElem?_getD,getElem?_replicate]
   split<;>rfl
 . rintro G σ H' ⟨o1,o2,Y,Z,ms,rfl,s5,_⟩
   exact s5.tup ha
 . rintro G e ag σ H' p4 he ⟨o1,o2,Y,Z,ms,rfl,s5,hm,a4,a1⟩ a5
   refine Cy (.of Ah) ?_
   have a6:=congrArg List.length he
   rw [length_append,length_cons]at a6
   have ez:Sz 200 e:=mx e (by rw [he];simp)
   have s6:=s5.trans (Same.upd a5 (.tup [V.int (G.length:Nat),V.int e]))
   have ad:=Same.upd a5 (.tup [V.int (G.length:Nat),V.int e]) _ _ hm
   try done
   refine⟨⟨_,s6.tup hb⟩,T9 (es:=q) (inj:=V.int) (fun d σ H2=>∃(Y Z:Option V) (L:List Int),σ=[some (.ref a),some (.ref b),some (.ref l0),some (.int (G.length:Nat)),some (.int e),Y,Z]/\Same H H2/\H2 l0=some (.lst (L.map V.int))/\L.length=p.length+q.length/\
    ∀i,co L i=mu G (co q) i+(if G.length<=i then e*co d (i-G.length)else 0)) ⟨_,_,ms,rfl,s6,ad,a4,fun i=> ?_⟩ ?_ ?_ ?_⟩
   . rw [a1,Jr,mul_zero]
     split<;>simp
   . rintro d σ H2 ⟨Y,Z,L,rfl,s7,_⟩
     exact s7.tup hb
   . rintro d f ae σ H2 p5 a7 ⟨Y,Z,L,rfl,s7,a2,W,O⟩ af
     refine Cy (.of Ah) ?_
     have a3:=congrArg List.length a7
     rw [length_append,length_cons]at a3
     have fz:Sz 200 f:=my f (by rw [a7];simp)
     have hj:G.length+d.length<L.length:=by omega
     have s8:=Same.upd af (.tup [V.int (d.length:Nat),V.int f])
     have a8:=s8 _ _ a2
     repeat (first | done | simp only [<-natCast_add])
     refine Tq (.of a8) (Lg hj) ?_
     try done
     refine⟨ez.mulOk fz (by omega),?_⟩
     refine Ua a8 (by rw [length_map];exact hj) ?_
     try done
     rw [Lp]
     refine⟨_,_,L.set (G.length+d.length) (L[G.length+d.length]+e*f),rfl,?_,Ah,by rw [length_set];exact W,fun i=> ?_⟩
     . intro c o hc
       rw [Bl (Bs hc ac)]
       exact s8 _ _ (s7 _ _ hc)
     . rw [R6 _ _ _ hj,J7,O i]
       by_cases hi:i=G.length+d.length
       . subst hi
         rw [if_pos rfl,<-Du hj,O,if_pos (by omega),if_pos (by omega),if_pos (by omega),show G.length+d.length-G.length=d.length by omega,Eu (p:=d) (le_refl _)]
         omega
       . rw [if_neg hi]
         by_cases a0:G.length<=i
         . rw [if_pos a0,if_pos a0,if_neg (by omega)]
         . rw [if_neg a0,if_neg a0]
   . rintro σ H2 ⟨Y,Z,L,rfl,s7,a2,W,O⟩
     try done
     exact⟨_,_,_,_,L,rfl,s7,a2,W,fun i=>by rw [Od,O]⟩
 . rintro σ H' ⟨o1,o2,Y,Z,ms,rfl,s5,hm,a4,a1⟩
   try done
   have e:trim ms=tm p q:=Kr (Ov _ _) fun i=>by rw [Nh,a1]
   refine⟨l0,ms,rfl,.inl (.of hm),by omega,fun v H2 s6 hv=>k v H2 (s5.trans s6) ?_⟩
   rw [e]at hv
   exact hv
theorem Aak (a b:Nat):(if((b:Nat):Int)>(a:Nat)then((b:Nat):Int)else((a:Nat):Int))=((max a b:Nat):Int):=by
 split<;>omega
theorem Yy (p:List Int) (k i:Nat):co (p++replicate k 0) i=co p i:=by
 unfold co
 rw [getD_eq_getElem?_getD,getD_eq_getElem?_getD]
 by_cases h:i<p.length
 . rw [getElem?_append_left h]
 . rw [getElem?_append_right (by omega),getElem?_eq_none (l:=p) (by omega),getElem?_replicate]
   split<;>rfl
theorem Ahw {p:List Int}{i:Nat} (h:i<p.length):(p.map V.int).getD i .non= .int (co p i):=by
 rw [getD_eq_getElem?_getD,getElem?_map,getElem?_eq_getElem h,Du h]
 rfl
def sgi (g:Bool):Int:=if g then-1 else 1
theorem Adq (g:Bool) (p:List Int) (i:Nat):co (sgn g p) i=sgi g*co p i:=by
 cases g
 . show co p i=1*co p i
   omega
 . show co (ng p (-1)) i= -1*co p i
   rw [V5]
   omega
theorem Xn (f:Nat->Int) (m i:Nat):co ((List.range m).map f) i=if i<m then f i else 0:=by
 unfold co
 rw [getD_eq_getElem?_getD,getElem?_map]
 by_cases h:i<m
 . rw [List.getElem?_range h,if_pos h]
   rfl
 . rw [getElem?_eq_none (by rw [length_range];omega),if_neg h]
   rfl
def Km (K:Frag):Sp:=fun vs H Q _=>∃(x y:V) (g:Bool) (o1 o2:Option (List Int)),vs=[x,y,.int (sgi g)]/\OV K H x o1/\OV K H y o2/\∀v H',Same H H'->OV K H' v (o1.bind fun p=>o2.bind fun q=>bd (ta p (sgn g q)))->Q v H'
theorem Uk {f:Addr}{fd:FuncData} (F:Df K mg "_law_added" Jv ["_law_p","_law_q","_law_by"] f fd)  (L:mg "max"=none) (d:mg "isinstance"=none) (I:mg "str"=none) (z_len:mg "len"=none) (z_list:mg "list"=none) (M:mg "zip"=none)  (G:Cal P w K mg base 34 "_law_bounded" ["_law_weights"] (Hz K)):Cal P w K mg base 35 "_law_added" ["_law_p","_law_q","_law_by"] (Km K):=by
 refine F.cal (F.fn.ok Im (fun vs H Q E h=> ?_) (fun a7 A outer s H vs Q E hr h=> ?_))
 . obtain⟨x,y,g,o1,o2,rfl,_⟩:=h
   rfl
 obtain⟨x,y,g,o1,o2,rfl,h1,h2,k⟩:=h
 refine Av ⟨_,(Ac (Bb (Dc (Gj (Ck (Az Fp rfl d boot_isinstance (Aa (Ae 0) (Aa (Cr (v:= .ty "str") rfl I boot_str rfl) Ab)))) (Fz (Ck (Az Fp rfl d boot_isinstance (Aa (Ae 1) (Aa (Cr (v:= .ty "str") rfl I boot_str rfl) Ab))))))) (Af (Al Ao)) Ay)
  (Ac (Am 3 Im.nd (Az (Vb rfl) rfl L boot_max (Aa (Az Bg rfl z_len PySem.boot_len (Aa (Ae 0) Ab)) (Aa (Az Bg rfl z_len PySem.boot_len (Aa (Ae 1) Ab)) Ab))))
  (Ac (Am 4 Im.nd (Ag Wg (Bh Et rfl z_list boot_list (Aa (Ae 0) Ab)) (Ag Sy (Bu (Aa Ad Ab)) (Ag Fi (Ae 3) (Az Bg rfl z_len PySem.boot_len (Aa (Ae 0) Ab))))))
  (Ac (Am 5 Im.nd (Ag Wg (Bh Et rfl z_list boot_list (Aa (Ae 1) Ab)) (Ag Sy (Bu (Aa Ad Ab)) (Ag Fi (Ae 3) (Az Bg rfl z_len PySem.boot_len (Aa (Ae 1) Ab))))))
  (Af (Al (Ai G hr (Aa (Ek (ts:=["_law_one","_law_other"]) (fs:=[(2,"_law_by")]) rfl (Cz.of (sc:=Ar Jv) (N:=["_law_p","_law_q","_law_by","_law_many","_law_mine","_law_yours"]) rfl rfl (by decide+kernel)) (T3 false false rfl M (Aa (Ae 4) (Aa (Ae 5) Ab))) (fun _ _ _=>(Tw K 2 rfl rfl (Ak (Aq 0 (show Nodup (["_law_one","_law_other","_law_by"]:List Str)by decide+kernel)) (Ak (Aq 1 (show Nodup (["_law_one","_law_other","_law_by"]:List Str)by decide+kernel)) Bd)))) (fun _ _ _=>Gz) (fun _ _ _=>(Ag Bv (Ae 0) (Ag Gb (Ae 2) (Ae 1))))) Ab)))))))),?_⟩
 obtain⟨t1,a0,k1⟩:=h1.ty
 obtain⟨t2,a1,k2⟩:=h2.ty
 refine Ax fun w0 O=> ?_
 done
 refine isa a0 k1 ?_
 try done
 cases o1 with
 | none=>
   try done
   exact k _ _ (Same.refl _) rfl
 | some p=>
 try done
 refine isa a1 k2 ?_
 try done
 cases o2 with
 | none=>
   try done
   exact k _ _ (Same.refl _) rfl
 | some q=>
 try done
 subst O
 obtain⟨⟨⟨a,rfl,ha⟩,tp,lp,zp⟩,bp⟩:=h1
 obtain⟨⟨⟨b,rfl,hb⟩,tq,lq,zq⟩,bq⟩:=h2
 rw [if_neg (show ¬OVs (some q)=true from Bool.false_ne_true)]
 have a8:1000<=sizeLine:=by decide
 refine Ax fun w0 O=> ?_
 done
 refine⟨a,_,rfl,.inr ha,b,_,rfl,.inr hb,?_⟩
 repeat (first | done | simp only [length_map,Aak])
 subst O
 refine Ax fun w0 O=> ?_
 done
 refine⟨a,_,rfl,.inr ha,fun l1 a2 p1 U=> ?_⟩
 have s1:=Same.upd a2 (.lst (p.map V.int))
 have s2:=s1.trans (Same.upd U (.lst [V.int 0]))
 refine⟨a,_,rfl,.inr (s2.tup ha),?_⟩
 have e1:(((max p.length q.length:Nat):Int)-((p.map V.int).length:Nat)).toNat=max p.length q.length-p.length:=by rw [length_map];omega
 refine⟨p1,_,[V.int 0],rfl,rfl,Ah,by rw [length_map];omega,by rw [length_map];omega,by rw [e1];simp only [length_cons,length_nil];omega,fun l2 W=> ?_⟩
 rw [e1,Js]
 have n1:l1≠p1:=fun z=>by rw [<-z,Ah]at U;cases U
 have n2:l1≠l2:=fun z=>by rw [<-z,Bl n1,Ah]at W;cases W
 have s3:=s2.trans (Same.upd W (.lst ((replicate (max p.length q.length-p.length) (0:Int)).map V.int)))
 refine⟨l1,l2,_,_,rfl,rfl,(Bl n2).trans ((Bl n1).trans Ah),Ah,by rw [length_map,length_map,length_replicate];omega,fun l3 a3=> ?_⟩
 rw [<-map_append]
 have s4:=s3.trans (Same.upd a3 (.lst ((p++replicate (max p.length q.length-p.length) 0).map V.int)))
 subst O
 refine Ax fun w0 O=> ?_
 done
 refine⟨b,_,rfl,.inr (s4.tup hb),fun l4 a4 p2 Y=> ?_⟩
 have s5:=Same.upd a4 (.lst (q.map V.int))
 have s6:=s5.trans (Same.upd Y (.lst [V.int 0]))
 refine⟨b,_,rfl,.inr ((s4.trans s6).tup hb),?_⟩
 have e2:(((max p.length q.length:Nat):Int)-((q.map V.int).length:Nat)).toNat=max p.length q.length-q.length:=by rw [length_map];omega
 refine⟨p2,_,[V.int 0],rfl,rfl,Ah,by rw [length_map];omega,by rw [length_map];omega,by rw [e2];simp only [length_cons,length_nil];omega,fun l5 Z=> ?_⟩
 rw [e2,Js]
 have n4:l4≠p2:=fun z=>by rw [<-z,Ah]at Y;cases Y
 have n5:l4≠l5:=fun z=>by rw [<-z,Bl n4,Ah]at Z;cases Z
 have s7:=s6.trans (Same.upd Z (.lst ((replicate (max p.length q.length-q.length) (0:Int)).map V.int)))
 refine⟨l4,l5,_,_,rfl,rfl,(Bl n5).trans ((Bl n4).trans Ah),Ah,by rw [length_map,length_map,length_replicate];omega,fun l6 a5=> ?_⟩
 rw [<-map_append]
 have s8:=s7.trans (Same.upd a5 (.lst ((q++replicate (max p.length q.length-q.length) 0).map V.int)))
 have g3:=s8 l3 _ Ah
 subst O
 try done
 have q1:(p++replicate (max p.length q.length-p.length) 0).length=max p.length q.length:=by rw [length_append,length_replicate];omega
 have q2:(q++replicate (max p.length q.length-q.length) 0).length=max p.length q.length:=by rw [length_append,length_replicate];omega
 have zg:Sz 2 (sgi g):=by cases g<;>(unfold Sz;decide)
 refine⟨l3,l6,rfl,⟨_,show SqL K _ l3 _ from .of g3⟩,⟨_,show SqL K _ l6 _ from .of Ah⟩,fun l7 a6=> ?_⟩
 refine Xm (xs:=(p++replicate (max p.length q.length-p.length) 0).map V.int) (ys:=(q++replicate (max p.length q.length-q.length) 0).map V.int) (max p.length q.length) (by rw [length_map,length_map,q1,q2,Nat.min_self]) (fun i=> .int (co p i+sgi g*co q i)) (by omega) a6 (fun H' s'=>show SqL K H' l3 _ from .of (s' _ _ g3)) (fun H' s'=>show SqL K H' l6 _ from .of (s' _ _ Ah)) ?_ ?_
 . intro j H6 b6 R hj s6 h6 hR
   rw [Ahw (by rw [q1];exact hj),Ahw (by rw [q2];exact hj),Yy,Yy]at h6
   refine Cy (.of h6) ?_
   done
   exact⟨zg.mulOk (zq j) (by omega),hR _ (Same.refl _)⟩
 intro H6 s6 h6
 have em:(List.range (max p.length q.length)).map (fun i=>V.int (co p i+sgi g*co q i))=((List.range (max p.length q.length)).map fun i=>co p i+sgi g*co q i).map V.int:=by rw [map_map];rfl
 rw [em]at h6
 refine⟨l7,_,rfl,.inl (.of h6),by rw [length_map,length_range];omega,fun v H7 s7 hv=>k v H7 ((s4.trans s8).trans (s6.trans s7)) ?_⟩
 have e:trim ((List.range (max p.length q.length)).map fun i=>co p i+sgi g*co q i)=ta p (sgn g q):=Kr (Qn _ _) fun i=>by
  rw [Rx,Adq,Xn]
  by_cases h:i<max p.length q.length
  . rw [if_pos h]
  . rw [if_neg h,Eu (p:=p) (by omega),Eu (p:=q) (by omega),mul_zero]
    rfl
 rw [e]at hv
 exact hv
def Kq (K:Frag):Sp:=fun vs H Q _=>∃(x:V) (k:Nat) (o:Option (List Int)),vs=[x,.int (k:Nat)]/\OV K H x o/\k<=16/\∀v H',Same H H'->OV K H' v (o.bind fun p=>pwb p k)->Q v H'
theorem Uo {f:Addr}{fd:FuncData} (F:Df K mg "_law_power" Mt ["_law_p","_law_many"] f fd)  (G:mg "range"=none) (d:mg "isinstance"=none) (O:mg "str"=none)  (y:Cal P w K mg base 35 "_law_product" ["_law_p","_law_q"] (Gn K)):Cal P w K mg base 36 "_law_power" ["_law_p","_law_many"] (Kq K):=by
 refine F.cal (F.fn.ok Io (fun vs H Q E h=> ?_) (fun a1 A outer s H vs Q E hr h=> ?_))
 . obtain⟨x,k,o,rfl,_⟩:=h
   rfl
 obtain⟨x,k,o,rfl,Z,a2,q⟩:=h
 refine Av ⟨_,(Ac (Am 2 Io.nd (Ba (Aa Ad Ab)))
  (Ac (Cj PassesOwn.never rfl (Er rfl G (Aa (Ae 1) Ab)) (Aq 3 Io.nd) (Af (Am 2 Io.nd (Ai y hr (Aa (Ae 2) (Aa (Ae 0) Ab))))))
  (Ac (Bb (Ck (Az Fp rfl d boot_isinstance (Aa (Ae 0) (Aa (Cr (v:= .ty "str") rfl O boot_str rfl) Ab)))) (Af (Al (Ae 0))) Ay)
  (Af (Al (Ae 2)))))),?_⟩
 refine Ax fun w0 hw=> ?_
 done
 intro z hz
 have s1:=Same.upd hz (.tup [.int 1])
 subst hw
 refine Dj (fun I H'=>∃v U,I=[some x,some (.int (k:Nat)),some v,U]/\Same H H'/\(∀p,o=some p->OV K H' v (pwb p k))) (fun M hM=> ?_) ?_
 . done
   refine⟨by omega,by omega,?_⟩
   rw [toNat_natCast]
   refine Aca k (fun i=> .int (0+(i:Nat))) (fun i I H'=>∃v U,I=[some x,some (.int (k:Nat)),some v,U]/\Same H H'/\∃W,OV K H' v W/\(∀p,o=some p->W=pwb p i)) ⟨.ref z,none,rfl,s1,some [1],⟨Wf Ah,Bt.one.2⟩,fun p _=>rfl⟩ (fun _ _ _ _=>G6) ?_ ?_
   . rintro i I H2 hi ⟨v,U,rfl,L,W,Y,he⟩
     done
     refine⟨v,x,W,o,rfl,Y,Z.mono L,fun v2 H3 s3 h3=>⟨v2,_,rfl,L.trans s3,_,h3,fun p e=> ?_⟩⟩
     rw [he p e,e,pwb]
     rfl
   . rintro I H2 ⟨v,U,rfl,L,W,Y,he⟩
     exact hM _ _ ⟨v,U,rfl,L,fun p e=>by rw [<-he p e];exact Y⟩
 rintro _ H2 ⟨v,U,rfl,L,Y⟩
 obtain⟨t1,a0,k1⟩:=(Z.mono L).ty
 done
 refine isa a0 k1 ?_
 try done
 cases o with
 | none=>
   try done
   exact q _ _ L (Z.mono L)
 | some p=>
   rw [if_neg (show ¬OVs (some p)=true from Bool.false_ne_true)]
   exact q _ _ L (Y p rfl)
theorem Ady {H H':Hp}{l a:Addr}{c:Nat}{xs:List V} (h:SqT K H a xs) (s:Sx l H H') (y:Src H l c):SqT K H' a xs:=by
 obtain⟨F,e⟩:=y.lst
 rcases h with h | h
 . have d:a≠l:=fun z=>by
    rw [z]at h
    rcases h with h | ⟨o,h⟩
    . rw [e]at h
      cases h
    . rw [e]at h
      cases h
   rcases h with h | ⟨o,h⟩
   . exact .inl (.inl (s _ _ d h))
   . exact .inl (.inr ⟨o,s _ _ d h⟩)
 . exact .inr h
theorem OV.sx {H H':Hp}{l:Addr}{c:Nat}{v:V}{o:Option (List Int)} (h:OV K H v o) (s:Sx l H H') (d:Src H l c):OV K H' v o:=by
 cases o with
 | none=>exact h
 | some p=>
   obtain⟨⟨⟨a,rfl,t⟩,r⟩,b⟩:=h
   exact⟨⟨⟨a,rfl,Ady t s d⟩,r⟩,b⟩
def Bq:Nat->Nat
 | 0=>0
 | n+1=>6*Bq n+30
def Cq:Nat->Nat
 | 0=>0
 | n+1=>6*Cq n+31
def J2 (n:Nat) (K:Frag):Sp:=fun vs H Q _=>∃(l:Addr) (c d:Nat),vs=[.ref l,.int (d:Nat)]/\Src H l c/\c+Cq n<100000/\d<n/\n<=3/\∀z v (s:Sm (8+n)) H',Sx l H H'->Src H' l (c+Cq n)->SqT K H' z [.str (tx (ST (8+n) s)),v]->OV K H' v (SV (8+n) s)->SO (8+n) s->(ST (8+n) s).length<=Bq n->Q (.ref z) H'
def Tf (K:Frag):Sp:=J2 3 K
def K5 (n:Nat) (K:Frag):Sp:=fun vs H Q _=>∃(l:Addr) (c d:Nat),vs=[.ref l,.int (d:Nat)]/\Src H l c/\c+Cq n+4<100000/\d<=n/\n<=2/\∀z v (f:Fx (Sm (8+n))) H',Sx l H H'->Src H' l (c+Cq n+4)->SqT K H' z [.str (tx (fT (ST (8+n)) f)),v]->OV K H' v (fV (SV (8+n)) f)->fO (SO (8+n)) f->(fT (ST (8+n)) f).length<=Bq n+4->Q (.ref z) H'
theorem Abz:∀ {n:Nat},n<=3->Bq n<=1290
 | 0,_=>by decide
 | 1,_=>by decide
 | 2,_=>by decide
 | 3,_=>by decide
theorem X3 {p q:Prop} [Decidable p] [Decidable q] {a b:Prop}:(if p then(if q then a else b)else b)=if p/\q then a else b:=by
 by_cases d:p<;>by_cases y:q<;>simp [d,y]
theorem Ri {r n:Nat}{f:Addr}{fd:FuncData} (F:Df K mg "_law_factor" Ij ["_law_source_here","_law_deep"] f fd) (O:mg "str"=none)  (y:Cal P w K mg base 34 "_law_next" ["_law_source_here","_law_many"] (Gi K)) (G:Cal P w K mg base 36 "_law_power" ["_law_p","_law_many"] (Kq K)) (I:Cal P w K mg base 33 "_law_plain" ["_law_weights"] (Ir K)) (U:Cal P w K mg base (36+r) "_law_sum" ["_law_source_here","_law_deep"] (J2 n K)):Cal P w K mg base (36+(r+1)) "_law_factor" ["_law_source_here","_law_deep"] (K5 n K):=by
 refine F.cal (F.fn.ok Cm (fun vs H Q E h=> ?_) (fun a5 A outer s H vs Q E Y h=> ?_))
 . obtain⟨l,c,d,rfl,_⟩:=h
   rfl
 obtain⟨l,c,d,rfl,sr,hc,hd,hn,q⟩:=h
 refine Av ⟨_,(Ac (Am 2 Cm.nd (Ai y Y (Aa (Ae 0) (Aa Ad Ab)) (le_trans (by decide) (le_add_right _ _))))
  (Ac (Bb (Dc (Eh (Aj Ds (Ae 2) Ad (Aw _)) (Ec (Aj Lb (Ae 1) Ad (Aw _))))) (Ac (Bm (Ai U Y (Aa (Ae 0) (Aa (Ag Fi (Ae 1) Ad) Ab)) (le_refl _)) (Bk rfl (Ak (Aq 3 Cm.nd) (Ak (Aq 5 Cm.nd) Bd))))
  (Af (Am 3 Cm.nd (Ag Bj (Ag Bj Ao (Ae 3)) Ao)))) (Af (Bb (Aj P0 (Ae 2) Ad (Aw _)) (Af (Bm (Ba (Aa Ao (Aa (Ba (Aa Ad (Aa Ad Ab))) Ab))) (Bk rfl (Ak (Aq 3 Cm.nd) (Ak (Aq 5 Cm.nd) Bd))))) (Ac (Am 6 Cm.nd (Ai y Y (Aa (Ae 0) (Aa Ad Ab)) (le_trans (by decide) (le_add_right _ _))))
  (Af (Jp (i:=3) (j:=5) rfl Cm.nd rfl rfl (by decide) rfl rfl (Aa (Bh Dq rfl O boot_str (Aa (Ae 6) Ab)) (Aa (Ai I Y (Aa (Bu (Aa (Ae 6) Ab)) Ab) (le_trans (by decide) (le_add_right _ _))) Ab)) rfl))))))
  (Ac (Bb (Aj Ds (Ai y Y (Aa (Ae 0) (Aa Ad Ab)) (le_trans (by decide) (le_add_right _ _))) Ad (Aw _)) (Ac (Am 4 Cm.nd (Ai y Y (Aa (Ae 0) (Aa Ad Ab)) (le_trans (by decide) (le_add_right _ _))))
  (Af (Al (Ba (Aa (Ag Bj (Ag Bj (Ae 3) Ao) (Bh Dq rfl O boot_str (Aa (Ae 4) Ab))) (Aa (Ai G Y (Aa (Ae 5) (Aa (Ae 4) Ab)) (le_trans (by decide) (le_add_right _ _))) Ab)))))) Ay)
  (Af (Al (Ba (Aa (Ae 3) (Aa (Ae 5) Ab)))))))),?_⟩
 have bq:=Abz (n:=n) (by omega)
 refine Dj (fun Z H'=>∃r:Int,Z=[some (.ref l),some (.int (d:Nat)),some (.int r),none,none,none,none]/\0<=r/\r<5/\Sx l H H'/\Src H' l (c+1)) (fun M hM=> ?_) ?_
 . done
   exact Ez sr (by omega) (by decide) (by decide) fun r H1 a0 a1 x1 W=>hM _ _ ⟨r,rfl,a0,a1,x1,W⟩
 rintro _ H1 ⟨r,rfl,r0,r1,x1,W⟩
 refine Dj (fun Z H'=>∃(b:Bx (Sm (8+n))) (vp:V) (oa:Option V),Z=[some (.ref l),some (.int (d:Nat)),some (.int r),some (.str (tx (bT (ST (8+n)) b))),none,some vp,oa]/\OV K H' vp (bV (SV (8+n)) b)/\bO (SO (8+n)) b/\(bT (ST (8+n)) b).length<=Bq n+2/\Sx l H H'/\Src H' l (c+Cq n+2)) (fun M hM=> ?_) ?_
 . done
   rw [X3]
   by_cases h1:r=0/\0<((d:Nat):Int)
   . rw [if_pos h1]
     refine⟨l,c+1,d-1,by rw [show((d:Int)-1)=((d-1:Nat):Int)by omega],W,by omega,by omega,by omega,fun z v s H2 x2 L hz hv ho hl=> ?_⟩
     refine Cy hz ?_
     try done
     refine⟨szl (show 1+(ST (8+n) s).length<=1000000 by omega),szl (show(40::ST (8+n) s).length+1<=1000000 by rw [length_cons];omega),hM _ _ ⟨.par s,v,none,rfl,hv,ho,?_,x1.trans x2,L.up (by omega)⟩⟩
     show(40::(ST (8+n) s++ [41])).length<=_
     rw [length_cons,length_append,length_singleton]
     omega
   . rw [if_neg h1]
     by_cases h3:r<3
     . rw [if_pos h3]
       intro p hp p1 a3
       have s1:=Same.upd hp (.tup [.int 0,.int 1])
       have s2:=Same.upd a3 (.tup [.str (tx [120]),.ref p])
       refine Cy (.of Ah) ?_
       have bx:Bt [0,1]:=⟨.inr ⟨by simp,by decide⟩,by decide,by simp⟩
       exact hM _ _ ⟨.x,.ref p,none,rfl,⟨bx.po (.of (s2 _ _ Ah)),bx.2⟩,trivial,by show 1<=_;omega,x1.same (s1.trans s2),((W.same s1).same s2).up (by omega)⟩
     . rw [if_neg h3]
       refine Ez W (by omega) (by decide) (by decide) fun r2 H2 b0 b1 x2 L=> ?_
       obtain⟨m,rfl⟩:∃m:Nat,r2=(m:Nat):=⟨r2.toNat,by omega⟩
       try done
       refine⟨Iv (by rw [natAbs_natCast];exact lt_trans (show m<30 by omega) (by decide)),fun p hp=> ?_⟩
       have s1:=Same.upd hp (.lst [.int (m:Nat)])
       refine⟨p,[(m:Int)],rfl,.inl (.of Ah),show 1<=1000 by decide,fun z H3 s3 hz=> ?_⟩
       try done
       rw [Lz]
       have ho:bO (SO (8+n)) (.num m):=lt_trans (show m<30 by omega) (by decide)
       have bt:=Xi (sv:=SV (8+n)) Xf ho rfl
       have lm:(dg m).length<=2:=Fg (show m<10^2 by omega) (by decide)
       exact hM _ _ ⟨.num m,.ref z,_,rfl,⟨bt.po hz,bt.2⟩,ho,by show(dg m).length<=_;omega,x1.trans (x2.same (s1.trans s3)),((L.same s1).same s3).up (by omega)⟩
 rintro _ H2 ⟨b,vp,oa,rfl,hv,ho,hl,x2,L⟩
 refine Ax fun w0 hw=> ?_
 done
 refine Ez L (by omega) (by decide) (by decide) fun r2 H3 b0 b1 x3 a2=> ?_
 try done
 by_cases h0:r2=0
 . rw [if_pos h0]
   refine Ez a2 (by omega) (by decide) (by decide) fun r3 H4 c0 c1 x4 a4=> ?_
   obtain⟨m,rfl⟩:∃m:Nat,r3=(m:Nat):=⟨r3.toNat,by omega⟩
   try done
   rw [Lz]
   have lm:(dg m).length<=1:=Fg (show m<10^1 by omega) (by decide)
   refine⟨szl (show(bT (ST (8+n)) b).length+1<=1000000 by omega),Iv (by rw [natAbs_natCast];exact lt_trans (show m<3 by omega) (by decide)),szl (show(bT (ST (8+n)) b++ [94]).length+(dg m).length<=1000000 by rw [length_append,length_singleton];omega),?_⟩
   refine⟨vp,m,_,rfl,(hv.sx x3 L).sx x4 a2,by omega,fun v H5 s5 h5 p hp=> ?_⟩
   have s6:=Same.upd hp (.tup [.str (tx (bT (ST (8+n)) b++ [94]++dg m)),v])
   have e:fT (ST (8+n)) (b,some m)=bT (ST (8+n)) b++ [94]++dg m:=by rw [append_assoc];rfl
   refine q p v (b,some m) _ ((x2.trans (x3.trans x4)).same (s5.trans s6)) (((a4.same s5).same s6).up (by omega)) (by rw [e];exact .of Ah) (h5.mono s6) ⟨ho,fun k' e'=>by cases e';omega⟩ ?_
   rw [e,length_append,length_append,length_singleton]
   omega
 . rw [if_neg h0]
   subst hw
   try done
   intro p hp
   have s6:=Same.upd hp (.tup [.str (tx (bT (ST (8+n)) b)),vp])
   have e:fT (ST (8+n)) (b,none)=bT (ST (8+n)) b:=append_nil _
   refine q p vp (b,none) _ ((x2.trans x3).same s6) ((a2.same s6).up (by omega)) (by rw [e];exact .of Ah) ((hv.sx x3 L).mono s6) ⟨ho,fun k' e'=>by cases e'⟩ ?_
   rw [e]
   omega
theorem Zi {n:Nat}{f:Fx (Sm n)} (h:fO (SO n) f):pV (SV n) [f]=fV (SV n) f:=by
 show((fV (SV n) f).bind fun b=>bd (tm [1] b))=_
 cases e:fV (SV n) f with
 | none=>rfl
 | some p=>
   have d:=Afg Xf h e
   show bd (tm [1] p)=_
   rw [M6 d.1]
   exact Qy d.2
theorem Acz {n:Nat}{f g:Fx (Sm n)} (h:fO (SO n) f):pV (SV n) [f,g]=(fV (SV n) f).bind fun a=>(fV (SV n) g).bind fun b=>bd (tm a b):=by
 show pS (SV n) (pV (SV n) [f]) g=_
 rw [Zi h]
 rfl
theorem X7 {r n:Nat}{f:Addr}{fd:FuncData} (F:Df K mg "_law_sum" Om ["_law_source_here","_law_deep"] f fd) (a3:mg "range"=none) (O:mg "int"=none)  (U:Cal P w K mg base 35 "_law_added" ["_law_p","_law_q","_law_by"] (Km K)) (y:Cal P w K mg base 34 "_law_next" ["_law_source_here","_law_many"] (Gi K)) (L:Cal P w K mg base 35 "_law_product" ["_law_p","_law_q"] (Gn K)) (I:Cal P w K mg base (36+r) "_law_factor" ["_law_source_here","_law_deep"] (K5 n K)):Cal P w K mg base (36+(r+1)) "_law_sum" ["_law_source_here","_law_deep"] (J2 (n+1) K):=by
 refine F.cal (F.fn.ok Dt (fun vs H Q E h=> ?_) (fun ah A outer s H vs Q E hr h=> ?_))
 . obtain⟨l,c,d,rfl,_⟩:=h
   rfl
 obtain⟨l,c,d,rfl,sr,hc,hd,hn,q⟩:=h
 refine Av ⟨_,(Ac (Am 2 Dt.nd Ao)
  (Ac (Am 3 Dt.nd (Ba Ab))
  (Ac (Cj PassesOwn.never rfl (Er rfl a3 (Aa (Ag Bv Ad (Ai y hr (Aa (Ae 0) (Aa Ad Ab)) (le_trans (by decide) (le_add_right _ _)))) Ab)) (Aq 4 Dt.nd) (Ac (Am 5 Dt.nd (Bo Ds (Ai y hr (Aa (Ae 0) (Aa Ad Ab)) (le_trans (by decide) (le_add_right _ _))) Ad (Aw _)))
  (Ac (Bm (Ai I hr (Aa (Ae 0) (Aa (Ae 1) Ab)) (le_refl _)) (Bk rfl (Ak (Aq 6 Dt.nd) (Ak (Aq 7 Dt.nd) Bd))))
  (Ac (Bb (Aj Ds (Ai y hr (Aa (Ae 0) (Aa Ad Ab)) (le_trans (by decide) (le_add_right _ _))) Ad (Aw _)) (Ac (Bm (Ai I hr (Aa (Ae 0) (Aa (Ae 1) Ab)) (le_refl _)) (Bk rfl (Ak (Aq 8 Dt.nd) (Ak (Aq 9 Dt.nd) Bd))))
  (Af (Jp (i:=6) (j:=7) rfl Dt.nd rfl rfl (by decide) rfl rfl (Aa (Ag Bj (Ag Bj (Ae 6) Ao) (Ae 8)) (Aa (Ai L hr (Aa (Ae 7) (Aa (Ae 9) Ab)) (le_trans (by decide) (le_add_right _ _))) Ab)) rfl))) Ay)
  (Ac (Am 2 Dt.nd (Ag Bj (Ag Bj (Ae 2) (Bf Dd (Bu (Aa (Bf Dd (Bu (Aa Ao (Aa Ao Ab))) (Bh Lw rfl O boot_int (Aa (Bo Lb (Ae 4) Ad (Aw _)) Ab)) (fun _ _=>rfl)) (Aa Ao Ab))) (Bh Lw rfl O boot_int (Aa (Ae 5) Ab)) (fun _ _=>rfl))) (Ae 6)))
  (Af (Am 3 Dt.nd (Ai U hr (Aa (Ae 3) (Aa (Ae 7) (Aa (Bf Dd (Bu (Aa Ad (Aa (Em Ja Ad) Ab))) (Bh Lw rfl O boot_int (Aa (Ae 5) Ab)) (fun _ _=>rfl)) Ab))) (le_trans (by decide) (le_add_right _ _))))))))))
  (Af (Al (Ba (Aa (Ae 2) (Aa (Ae 3) Ab)))))))),?_⟩
 have bq:=Abz (n:=n) (by omega)
 have cq:Cq (n+1)=6*Cq n+31:=rfl
 have ai:Bq (n+1)=6*Bq n+30:=rfl
 refine Ax fun w0 hw=> ?_
 done
 subst hw
 refine Ax fun w0 hw=> ?_
 done
 refine⟨by decide,fun z0 aa=> ?_⟩
 have s0:=Same.upd aa (.tup [])
 subst hw
 refine Dj (fun G H'=>∃(s:List (Bool × List (Fx (Sm (8+n))))) (v:V) (o1 o2 o3 o4 W Y:Option V),G=[some (.ref l),some (.int (d:Nat)),some (.str (tx (sT (ST (8+n)) s))),some v,o1,o2,o3,o4,W,Y]/\OV K H' v (sV (SV (8+n)) s)/\sO (SO (8+n)) s/\(sT (ST (8+n)) s).length<=Bq (n+1)/\Sx l H H'/\Src H' l (c+Cq (n+1))) (fun M hM=> ?_) ?_
 . done
   refine Ez (sr.same s0) (by omega) (by decide) (by decide) fun r H1 a0 a1 x1 ab=> ?_
   obtain⟨m,rfl⟩:∃m:Nat,r=(m:Nat):=⟨r.toNat,by omega⟩
   try done
   refine⟨by omega,by omega,?_⟩
   rw [show(1+(m:Int)).toNat=m+1 by omega]
   refine Aca (m+1) (fun i=> .int (0+(i:Nat))) (fun k G H'=>∃(s:List (Bool × List (Fx (Sm (8+n))))) (v:V) (o1 o2 o3 o4 W Y:Option V),G=[some (.ref l),some (.int (d:Nat)),some (.str (tx (sT (ST (8+n)) s))),some v,o1,o2,o3,o4,W,Y]/\s.length=k/\OV K H' v (s.foldl (sS (SV (8+n))) (some []))/\(∀e∈s,pO (SO (8+n)) e.2)/\(sT (ST (8+n)) s).length<=k*(2*Bq n+10)/\Sx l H H'/\Src H' l (c+1+k*(2*Cq n+10))) ⟨[],.ref z0,none,none,none,none,none,none,rfl,rfl,⟨Bt.nil.po (Ady (.of Ah) x1 (sr.same s0)),Bt.nil.2⟩,(fun _ h=>by cases h),zero_le _,(Sx.of s0).trans x1,by rw [Nat.zero_mul];exact ab⟩ (fun _ _ _ _=>G6) ?_ ?_
   . rintro k G H2 hk ⟨s,v,o1,o2,o3,o4,W,Y,rfl,ls,hv,ho,hl,x2,Z⟩
     have kC:k*(2*Cq n+10)<=2*(2*Cq n+10):=Nat.mul_le_mul_right _ (by omega)
     have kB:k*(2*Bq n+10)<=2*(2*Bq n+10):=Nat.mul_le_mul_right _ (by omega)
     refine Dj (fun G H'=>∃g:Bool,G=[some (.ref l),some (.int (d:Nat)),some (.str (tx (sT (ST (8+n)) s))),some v,some (.int (0+(k:Nat))),some (.bl g),o3,o4,W,Y]/\Sx l H2 H'/\Src H' l (c+1+k*(2*Cq n+10)+1)) (fun M hM=> ?_) ?_
     . done
       refine Ez Z (by omega) (by decide) (by decide) fun r H3 b0 b1 x3 a6=> ?_
       try done
       exact hM _ _ ⟨_,rfl,x3,a6⟩
     rintro _ H3 ⟨g,rfl,x3,a6⟩
     refine Dj (fun G H'=>∃(f:Fx (Sm (8+n))) (vp:V),G=[some (.ref l),some (.int (d:Nat)),some (.str (tx (sT (ST (8+n)) s))),some v,some (.int (0+(k:Nat))),some (.bl g),some (.str (tx (fT (ST (8+n)) f))),some vp,W,Y]/\OV K H' vp (fV (SV (8+n)) f)/\fO (SO (8+n)) f/\(fT (ST (8+n)) f).length<=Bq n+4/\Sx l H2 H'/\Src H' l (c+1+k*(2*Cq n+10)+1+Cq n+4)) (fun M hM=> ?_) ?_
     . done
       refine⟨l,c+1+k*(2*Cq n+10)+1,d,rfl,a6,by omega,by omega,by omega,fun z vp f H4 x4 a4 hz a2 hf lf=> ?_⟩
       refine Cy hz ?_
       try done
       exact hM _ _ ⟨f,vp,rfl,a2,hf,lf,x3.trans x4,a4⟩
     rintro _ H4 ⟨f,vp,rfl,a2,hf,lf,x4,a4⟩
     refine Dj (fun G H'=>∃(p:List (Fx (Sm (8+n)))) (vp:V) (W Y:Option V),G=[some (.ref l),some (.int (d:Nat)),some (.str (tx (sT (ST (8+n)) s))),some v,some (.int (0+(k:Nat))),some (.bl g),some (.str (tx (pT (ST (8+n)) p))),some vp,W,Y]/\OV K H' vp (pV (SV (8+n)) p)/\pO (SO (8+n)) p/\(pT (ST (8+n)) p).length<=2*Bq n+9/\Sx l H2 H'/\Src H' l (c+1+k*(2*Cq n+10)+(2*Cq n+10))) (fun M hM=> ?_) ?_
     . done
       refine Ez a4 (by omega) (by decide) (by decide) fun r H5 b0 b1 x5 a5=> ?_
       try done
       have a8:pT (ST (8+n)) [f]=fT (ST (8+n)) f:=append_nil _
       have ac:pO (SO (8+n)) [f]:=⟨by simp,fun e he=>by rw [mem_singleton.mp he];exact hf⟩
       by_cases h0:r=0
       . rw [if_pos h0]
         refine⟨l,c+1+k*(2*Cq n+10)+1+Cq n+4+1,d,rfl,a5,by omega,by omega,by omega,fun z vq f2 H6 x6 ad hz ae af aj=> ?_⟩
         refine Cy hz ?_
         try done
         refine⟨szl (show(fT (ST (8+n)) f).length+1<=1000000 by omega),szl (show(fT (ST (8+n)) f++ [42]).length+(fT (ST (8+n)) f2).length<=1000000 by rw [length_append,length_singleton];omega),?_⟩
         refine⟨vp,vq,_,_,rfl,(a2.sx x5 a4).sx x6 a5,ae,fun w H7 s7 hw=> ?_⟩
         have a9:pT (ST (8+n)) [f,f2]=fT (ST (8+n)) f++ [42]++fT (ST (8+n)) f2:=by
          show fT (ST (8+n)) f++(42::fT (ST (8+n)) f2++ [])=_
          rw [append_nil,append_assoc]
          rfl
         refine hM _ _ ⟨[f,f2],w,_,_,by rw [a9],by rw [Acz hf];exact hw,⟨by simp,fun e he=> ?_⟩,?_,(x4.trans (x5.trans x6)).same s7,(ad.same s7).up (by omega)⟩
         . rcases mem_cons.mp he with rfl | he
           . exact hf
           . rw [mem_singleton.mp he]
             exact af
         . rw [a9,length_append,length_append,length_singleton]
           omega
       . rw [if_neg h0]
         exact hM _ _ ⟨[f],vp,_,_,by rw [a8],by rw [Zi hf];exact a2.sx x5 a4,ac,by rw [a8];omega,x4.trans x5,a5.up (by omega)⟩
     rintro _ H5 ⟨p,vp,W,Y,rfl,a2,hp,lp,x5,a5⟩
     have eT:sT (ST (8+n)) (s++ [(g,p)])=sT (ST (8+n)) s++((if g then [45]else if 0<k then [43]else [])++pT (ST (8+n)) p):=by
      by_cases hs:s=[]
      . subst hs
        have k0:k=0:=ls.symm
        subst k0
        show(if g then [45]else [])++(pT (ST (8+n)) p++ [])=_
        rw [append_nil,if_neg (lt_irrefl 0)]
        rfl
      . rw [Mj hs]
        have k0:0<k:=by rw [<-ls];exact length_pos_iff.mpr hs
        rw [if_pos k0]
        cases g<;>rfl
     have lT:(sT (ST (8+n)) (s++ [(g,p)])).length<=(k+1)*(2*Bq n+10):=by
      rw [eT,length_append,length_append,succ_mul]
      have:(if g then [45]else if 0<k then [43]else([]:List Nat)).length<=1:=by
       split
       . decide
       . split<;>decide
      omega
     refine Dj (fun G H'=>G=[some (.ref l),some (.int (d:Nat)),some (.str (tx (sT (ST (8+n)) (s++ [(g,p)])))),some v,some (.int (0+(k:Nat))),some (.bl g),some (.str (tx (pT (ST (8+n)) p))),some vp,W,Y]/\Same H5 H') (fun M hM=> ?_) ?_
     . done
       intro p1 a7
       have sA:=Same.upd a7 (.lst [.str (tx []),.str (tx [43])])
       refine Hq (.of Ah) (v:= .str (tx (if 0<k then [43]else []))) ?_ ?_
       . by_cases h:0<k
         . rw [if_pos (by omega),if_pos h]
           exact at1 _ _ _
         . rw [if_neg (by omega),if_neg h]
           exact at0 _ _
       intro p2 ag
       have sB:=Same.upd ag (.lst [.str (tx (if 0<k then [43]else [])),.str (tx [45])])
       refine Hq (.of Ah) (v:= .str (tx (if g then [45]else if 0<k then [43]else []))) ?_ ?_
       . cases g
         . exact at0 _ _
         . exact at1 _ _ _
       have l1:(if g then [45]else if 0<k then [43]else([]:List Nat)).length<=1:=by
        split
        . decide
        . split<;>decide
       refine⟨_,_,rfl,rfl,szl (show(sT (ST (8+n)) s).length+(if g then [45]else if 0<k then [43]else([]:List Nat)).length<=1000000 by omega),?_,?_⟩
       . rw [K6]
         refine szl (show(sT (ST (8+n)) s++(if g then [45]else if 0<k then [43]else [])).length+(pT (ST (8+n)) p).length<=1000000 from ?_)
         rw [length_append]
         omega
       . rw [K6,K6]
         exact hM _ _ ⟨by rw [eT,append_assoc],sA.trans sB⟩
     rintro _ H6 ⟨rfl,s6⟩
     done
     intro p1 a7
     have sA:=Same.upd a7 (.lst [.int 1,.int (-1)])
     refine Hq (.of Ah) (v:= .int (sgi g)) ?_ ?_
     . cases g
       . exact at0 _ _
       . exact at1 _ _ _
     refine⟨v,vp,g,_,_,rfl,(hv.sx x5 Z).mono (s6.trans sA),a2.mono (s6.trans sA),fun w H7 s7 hw=>⟨s++ [(g,p)],w,_,_,_,_,_,_,rfl,by rw [length_append,ls];rfl,?_,fun e he=> ?_,lT,(x2.trans x5).same (s6.trans (sA.trans s7)),?_⟩⟩
     . rw [foldl_append]
       exact hw
     . rcases mem_append.mp he with he | he
       . exact ho e he
       . rw [mem_singleton.mp he]
         exact hp
     . refine(a5.same (s6.trans (sA.trans s7))).up ?_
       have e:(k+1)*(2*Cq n+10)=k*(2*Cq n+10)+(2*Cq n+10):=succ_mul _ _
       rw [e]
       omega
   . rintro G H2 ⟨s,v,o1,o2,o3,o4,W,Y,rfl,ls,hv,ho,hl,x2,Z⟩
     have kC:(m+1)*(2*Cq n+10)<=3*(2*Cq n+10):=Nat.mul_le_mul_right _ (by omega)
     have kB:(m+1)*(2*Bq n+10)<=3*(2*Bq n+10):=Nat.mul_le_mul_right _ (by omega)
     exact hM _ _ ⟨s,v,o1,o2,o3,o4,W,Y,rfl,hv,⟨(fun z=>by rw [z]at ls;cases ls),ho⟩,by omega,x2,Z.up (by omega)⟩
 rintro _ H2 ⟨s,v,o1,o2,o3,o4,W,Y,rfl,hv,ho,hl,x2,Z⟩
 done
 intro z hz
 have s6:=Same.upd hz (.tup [.str (tx (sT (ST (8+n)) s)),v])
 exact q z v s _ (x2.same s6) (Z.same s6) (.of Ah) (hv.mono s6) ho hl
theorem X6 {f:Addr}{fd:FuncData} (F:Df K mg "_law_sum" Om ["_law_source_here","_law_deep"] f fd) {L:Addr}{G:FuncData} (M:Df K mg "_law_factor" Ij ["_law_source_here","_law_deep"] L G) (Y:mg "range"=none) (Z:mg "int"=none) (a0:mg "str"=none)  (O:Cal P w K mg base 35 "_law_added" ["_law_p","_law_q","_law_by"] (Km K)) (y:Cal P w K mg base 34 "_law_next" ["_law_source_here","_law_many"] (Gi K)) (I:Cal P w K mg base 35 "_law_product" ["_law_p","_law_q"] (Gn K)) (U:Cal P w K mg base 36 "_law_power" ["_law_p","_law_many"] (Kq K)) (W:Cal P w K mg base 33 "_law_plain" ["_law_weights"] (Ir K)):Cal P w K mg base 42 "_law_sum" ["_law_source_here","_law_deep"] (Tf K):=by
 suffices main:∀n:Nat,Cal P w K mg base (36+2*n) "_law_sum" ["_law_source_here","_law_deep"] (J2 n K)from main 3
 intro n
 induction n with
 | zero=>
   refine F.cal (F.fn.ok (k:=36-1) Dt (fun vs H Q E h=> ?_) (fun a1 A outer s H vs Q E hr h=> ?_))
   . obtain⟨l,c,d,rfl,_⟩:=h
     rfl
   . obtain⟨l,c,d,_,_,_,hd,_⟩:=h
     omega
 | succ n ih=>exact X7 F Y Z O y I (Ri M a0 y U W ih)
theorem Src.put {l p:Addr}{H:Hp}{o:HO}{c:Nat} (h:Src H l c) (n:l≠p):Src (upd H p o) l c:=by
 obtain⟨x,y,z,k,e,m⟩:=h
 exact⟨x,y,z,k,by rw [Bl n];exact e,m⟩
theorem Sx.put {l p:Addr}{H H':Hp}{o:HO} (s:Sx l H H') (d:H p=none):Sx l H (upd H' p o):=fun b u n e=>by
 rw [Bl (Bs e d)]
 exact s b u n e
def Qi (K:Frag):Sp:=fun vs H Q _=>∃(l:Addr) (c:Nat),vs=[.ref l,.int 16]/\Src H l c/\c+40<100000/\∀v p H',Sx l H H'->Src H' l (c+40)->Po K H' v p 17 200->Bnd p->Q v H'
theorem Wa {f:Addr}{fd:FuncData} (F:Df K mg "_law_poly" Ol ["_law_source_here","_law_most"] f fd)  (U:mg "range"=none) (W:mg "tuple"=none)  (y:Cal P w K mg base 34 "_law_next" ["_law_source_here","_law_many"] (Gi K)):Cal P w K mg base 35 "_law_poly" ["_law_source_here","_law_most"] (Qi K):=by
 refine F.cal (F.fn.ok Jx (fun vs H Q E h=> ?_) (fun ai A outer s H vs Q E hr h=> ?_))
 . obtain⟨l,c,rfl,_⟩:=h
   rfl
 obtain⟨l,c,rfl,sr,hc,k⟩:=h
 refine Av ⟨_,(Ac (Am 2 Jx.nd (Bu Ab))
  (Ac (Cj PassesOwn.never rfl (Er rfl U (Aa (Ag Bv Ad (Ai y hr (Aa (Ae 0) (Aa (Ag Bv (Ae 1) Ad) Ab)))) Ab)) (Aq 3 Jx.nd) (Ac (Am 4 Jx.nd (Ai y hr (Aa (Ae 0) (Aa Ad Ab))))
  (Af (Bb (Aj Ds (Ae 4) Ad (Aw _)) (Af (Br (Fo plainAttrs_list PySem.F.slot_list_append PySem.F.type_list_append G3 (Ae 2) (Aa Ad Ab)))) (Af (Bb (Aj Ds (Ae 4) Ad (Aw _)) (Af (Br (Fo plainAttrs_list PySem.F.slot_list_append PySem.F.type_list_append G3 (Ae 2) (Aa (Ag Fi (Ai y hr (Aa (Ae 0) (Aa (Ag Gb Ad (Ag Ku Ad Ad)) Ab))) (Ag Ku Ad Ad)) Ab)))) (Af (Br (Fo plainAttrs_list PySem.F.slot_list_append PySem.F.type_list_append G3 (Ae 2) (Aa (Ag Fi (Ai y hr (Aa (Ae 0) (Aa Ad Ab))) Ad) Ab))))))))))
  (Ac (Dp PassesOwn.never (Dc (Eh (Aj (Sw hr.units) (Ae 2) (Bu Ab) (Aw _)) (Ec (Aj Ds (Bf Dd (Ae 2) (Em Ja Ad) (fun _ _=>rfl)) Ad (Aw _))))) (Af (Br (O5 plainAttrs_list slot_list_pop type_list_pop Zb (Ae 2)))))
  (Af (Al (Bh Dr rfl W boot_tuple (Aa (Ae 2) Ab))))))),?_⟩
 refine Ax fun w0 hw=> ?_
 done
 refine⟨by decide,fun q hq=> ?_⟩
 have s0:=Same.upd hq (.lst [])
 have nq:=W0 sr hq
 subst hw
 refine Dj (fun Y H'=>∃(ms:List Int) (G I:Option V),Y=[some (.ref l),some (.int 16),some (.ref q),G,I]/\Sx l H H'/\Src H' l (c+40)/\H' q=some (.lst (ms.map V.int))/\ms.length<=17/\∀w∈ms,w.natAbs<10^60) (fun M hM=> ?_) ?_
 . done
   refine Ez (sr.same s0) (by omega) (by decide) (by decide) fun r H1 a0 a1 x1 a3=> ?_
   obtain⟨m,rfl⟩:∃m:Nat,r=(m:Nat):=⟨r.toNat,by omega⟩
   try done
   refine⟨by omega,by omega,?_⟩
   rw [show(1+(m:Int)).toNat=m+1 by omega]
   refine Aca (m+1) (fun i=> .int (0+(i:Nat))) (fun i Y H'=>∃(ms:List Int) (G I:Option V),Y=[some (.ref l),some (.int 16),some (.ref q),G,I]/\Sx l H H'/\Src H' l (c+1+2*i)/\H' q=some (.lst (ms.map V.int))/\ms.length=i/\∀w∈ms,w.natAbs<10^60) ⟨[],none,none,rfl,(Sx.of s0).trans x1,a3,x1 _ _ nq Ah,rfl,by simp⟩ (fun _ _ _ _=>G6) ?_ ?_
   . rintro i Y H2 hi ⟨ms,G,I,rfl,x2,L,it,lm,a4⟩
     have add:∀ {H3:Hp}{w:Int}{c':Nat}{G I:Option V},Sx l H2 H3->Src H3 l c'->c'<=c+1+2*(i+1)->w.natAbs<10^60->Wt (.ref q) [.int w] H3 fun _ H'=>∃(ms:List Int) (a9 aa:Option V),[some (.ref l),some (.int 16),some (.ref q),G,I]=[some (.ref l),some (.int 16),some (.ref q),a9,aa]/\Sx l H H'/\Src H' l (c+1+2*(i+1))/\H' q=some (.lst (ms.map V.int))/\ms.length=i+1/\∀w∈ms,w.natAbs<10^60:=fun {H3 w c' G I} x3 Z ab a2=>by
      refine⟨q,_,_,rfl,rfl,x3 _ _ nq it,lt_of_lt_of_le (show(ms.map V.int).length<1000 by rw [length_map];omega) (by decide),ms++ [w],G,I,rfl,(x2.trans x3).put hq,(Z.put (Ne.symm nq)).up ab,by rw [Ah,map_append];rfl,by rw [length_append,lm];rfl,fun w' ac=> ?_⟩
      rcases mem_append.mp ac with h | h
      . exact a4 w' h
      . rw [mem_singleton.mp h]
        exact a2
     refine Ax fun w0 hw=> ?_
     done
     refine Ez L (by omega) (by decide) (by decide) fun r H3 b0 b1 x3 Z=> ?_
     subst hw
     try done
     have a5:=x3 _ _ nq it
     by_cases h0:r=0
     . rw [if_pos h0]
       exact⟨.inl ⟨rfl,_,.of a5⟩,add x3 Z (by omega) (by decide)⟩
     . rw [if_neg h0]
       by_cases h1:r=1
       . rw [if_pos h1]
         have ad:(10:Int)^toNat 30=((10^30:Nat):Int):=by decide
         rw [ad]
         have cp:Aev 10 30:=⟨by decide,by decide,by decide⟩
         refine⟨.inl ⟨rfl,_,.of a5⟩,cp,.of_left (Qz (by decide)),Ez Z (by omega) (by decide) (by decide) fun r2 H4 d0 d1 x4 a6=> ?_⟩
         try done
         exact⟨cp,add (x3.trans x4) a6 (by omega) (by omega)⟩
       . rw [if_neg h1]
         refine⟨.inl ⟨rfl,_,.of a5⟩,Ez Z (by omega) (by decide) (by decide) fun r2 H4 d0 d1 x4 a6=> ?_⟩
         try done
         exact add (x3.trans x4) a6 (by omega) (by omega)
   . rintro Y H2 ⟨ms,G,I,rfl,x2,L,it,lm,a4⟩
     exact hM _ _ ⟨ms,G,I,rfl,x2,L.up (by omega),it,by omega,a4⟩
 rintro _ H1 ⟨ae,G,I,rfl,x1,a3,af,ag,ah⟩
 refine Ax fun w0 hW=> ?_
 refine O1 (fun σ H'=>σ=[some (.ref l),some (.int 16),some (.ref q),G,I]/\Sx l H H'/\Src H' l (c+40)/\∃ms:List Int,H' q=some (.lst (ms.map V.int))/\ms.length<=17/\∀w∈ms,w.natAbs<10^60)
  (fun σ H'=>match H' q with | some (.lst xs)=>xs.length | _=>0) ⟨rfl,x1,a3,ae,af,ag,ah⟩ ?_
 rintro σ H' ⟨rfl,x2,L,ms,hm,lm,a2⟩
 done
 refine⟨by decide,fun p hp=> ?_⟩
 have s2:=Same.upd hp (.lst [])
 have O:=s2 _ _ hm
 refine Oa (ms:=[]) (.of O) (.of Ah) ?_
 done
 have a8:trim ms=ms->w0 { nx:=fun x H'=>Q V.non H',rt:=Q} [some (.ref l),some (.int 16),some (.ref q),G,I] (upd H' p (.lst [])):=fun e=>by
  subst hW
  done
  refine⟨q,_,rfl,.inl ⟨.of O,fun z hz=> ?_⟩⟩
  have s3:=Same.upd hz (.tup (ms.map V.int))
  have bt:Bt ms:=⟨by rw [<-e];exact Ej ms,lm,a2⟩
  exact k _ ms _ (x2.same (s2.trans s3)) ((L.same s2).same s3) (bt.po (.of Ah)) bt.2
 by_cases h0:ms=[]
 . rw [if_pos h0]
   exact a8 (by rw [h0];rfl)
 . rw [if_neg h0]
   obtain⟨a7,d,rfl⟩:∃(i:List Int) (x:Int),ms=i++ [x]:=⟨_,_,(List.dropLast_concat_getLast h0).symm⟩
   have em:(a7++ [d]).map V.int=a7.map V.int++ [V.int d]:=by rw [map_append];rfl
   rw [em]at hm O
   refine Hq (.of O) (R4 _ _) ?_
   done
   by_cases hz:d=0
   . rw [if_pos hz]
     subst hz
     refine Abm ?_
     done
     refine⟨.inl ⟨rfl,_,.of O⟩,q,_,.int 0,rfl,rfl,O,by simp,?_⟩
     dsimp only
     rw [hm,Ah,List.dropLast_concat]
     refine⟨⟨(x2.same s2).put hq,(L.same s2).put (Ne.symm nq),a7,rfl,?_,fun w hw=>a2 w (List.mem_append_left _ hw)⟩,?_⟩
     . rw [length_append]at lm
       omega
     . simp
   . rw [if_neg hz]
     exact a8 (Ow (.inr ⟨h0,by rw [List.getLast_concat];exact hz⟩))
def Yp (K:Frag):Sp:=fun vs H Q _=>∃(a:Addr) (ns:List Int),vs=[.ref a]/\SqL K H a (ns.map V.int)/\ns.length<=63/\∀H',Q (.bl true) H'
theorem Ahl {H:Hp}{Q:VK}{a:Addr}{xs:List V}{lo hi:Option Int} (h:SqL K H a xs) (k:∀p,H p=none->Q (.ref p) (upd H p (.lst (Qs xs lo hi)))):Ahz K (.ref a) lo hi H Q:=⟨a,xs,rfl,h,k⟩
theorem Xu (ns:List Int) (lo hi:Option Int):∃ms:List Int,Qs (ns.map V.int) lo hi=ms.map V.int/\ms.length<=ns.length:=by
 unfold Qs
 refine⟨(ns.drop (HT.sIx (ns.map V.int).length 0 lo)).take (HT.sIx (ns.map V.int).length (ns.map V.int).length hi-HT.sIx (ns.map V.int).length 0 lo),by rw [map_take,List.map_drop],?_⟩
 rw [length_take,length_drop]
 omega
theorem Abk {w k:Nat} (d:w<10^13) (y:k<=16):(tmT w k).length<=18:=by
 have F:=Fg d (by decide)
 have G:(dg k).length<=2:=Fg (show k<10^2 by omega) (by decide)
 unfold tmT
 split
 . omega
 . rw [length_append]
   have h1:(if w=1 then([]:List Nat)else dg w++ [42]).length<=14:=by
    split
    . exact zero_le _
    . rw [length_append,length_singleton]
      omega
   have h2:(if k=1 then [120]else 120::94::dg k).length<=4:=by
    split
    . decide
    . rw [length_cons,length_cons]
      omega
   omega
theorem Vr {p:List Int} (h:p.length<=17) (d:∀w∈p,w.natAbs<10^13):∀ {k:Nat},k<=p.length->(sT (ST 10) (itF p k)).length<=19*k
 | 0,_=>zero_le _
 | k+1,hk=>by
   have G:=Vr h d (k:=k) (by omega)
   show(sT (ST 10) (itF p k++itO p (p.length-1-k))).length<=_
   have hi:p.length-1-k<p.length:=by omega
   have F:(co p (p.length-1-k)).natAbs<10^13:=by
    rw [Du hi]
    exact d _ (getElem_mem _)
   unfold itO
   by_cases y:co p (p.length-1-k)=0
   . rw [if_pos y,append_nil]
     omega
   . rw [if_neg y]
     have lt:=Abk F (show p.length-1-k<=16 by omega)
     by_cases h1:itF p k=([]:List (Bool × List (Fx (Sm 10))))
     . rw [h1]
       show((if decide (co p (p.length-1-k)<0)then [45]else [])++(pT (ST 10) (trm _ _)++ [])).length<=_
       rw [Qo,length_append,append_nil]
       have:(if decide (co p (p.length-1-k)<0)then [45]else([]:List Nat)).length<=1:=by split<;>decide
       omega
     . rw [Mj h1,Qo,length_append,length_cons]
       omega
theorem Aay {p:List Int} (h:p.length<=17) (y:∀w∈p,w.natAbs<10^13):(sT (ST 10) (plF p)).length<=400:=by
 unfold plF
 by_cases d:p=[]
 . rw [if_pos d]
   decide
 . rw [if_neg d]
   have:=Vr h y (k:=p.length) (le_refl _)
   omega
theorem Aaz {p:List Int} (h:Bt p):(sT (ST 10) (plF p)).length<=1200:=by
 unfold plF
 by_cases d:p=[]
 . rw [if_pos d]
   decide
 . rw [if_neg d]
   have:=Ob (S:=Sm 10) (st:=ST 10) h (k:=p.length) (le_refl _)
   have:=h.2.1
   omega
theorem Ab0 {n:Nat}{s:Sm n} (h:SO n s):SO (n+1) [(false,[(.par s,none)])]:=by
 refine⟨by simp,fun e d=> ?_⟩
 rw [mem_singleton.mp d]
 refine⟨by simp,fun f y=> ?_⟩
 rw [mem_singleton.mp y]
 exact⟨h,fun k e=>by cases e⟩
def deep:(n:Nat)->Sm (n+1)
 | 0=>[(false,[(.x,none)])]
 | n+1=>[(false,[(.par (deep n),none)])]
theorem Y4:∀n:Nat,SO (n+1) (deep n)
 | 0=>by
   refine⟨by simp [deep],fun e d=> ?_⟩
   rw [mem_singleton.mp d]
   refine⟨by simp,fun f y=> ?_⟩
   rw [mem_singleton.mp y]
   exact⟨trivial,fun k e=>by cases e⟩
 | n+1=>Ab0 (Y4 n)
def Agk:Sm 10:=[(false,[(.x,none)]),(true,[(.num 1,none)])]
def Agl:Sm 10:=[(false,[(.x,none)]),(false,[(.num 2,none)])]
def tr2:Sm 11:=[(false,[(.par Agk,some 2),(.par Agl,none)]),(true,[(.x,none)])]
def tr3:Sm 11:=[(true,[(.x,some 0)])]
theorem Yn {n:Nat}{s:List (Bool × List (Fx (Sm n)))} (h:s≠ []) (g:∀e∈s,e.2≠ []/\∀f∈e.2,fO (SO n) f):SO (n+1) s:=⟨h,g⟩
theorem Y5:ST 11 (deep 10)=[40,40,40,40,40,40,40,40,40,40,120,41,41,41,41,41,41,41,41,41,41]:=by decide+kernel
theorem Ab6:SV 11 (deep 10)=some [0,1]:=by decide+kernel
theorem Agi:("(x-1)^2*(x+2)-x":Str)=tx (ST 11 tr2):=by decide+kernel
theorem Agj:SV 11 tr2=some [2,-4,0,1]:=by decide+kernel
theorem Agn:("-x^0":Str)=tx (ST 11 tr3):=by decide+kernel
theorem Ago:SV 11 tr3=some [-1]:=by decide+kernel
theorem Agh:SO 11 tr2:=by
 have F:∀n:Nat,fO (SO n) (.x,none):=fun n=>⟨trivial,fun k e=>by cases e⟩
 have G:∀(n m:Nat),m<10^60->fO (SO n) (.num m,none):=fun n m h=>⟨h,fun k e=>by cases e⟩
 have I:SO 10 Agk:=by
  refine Yn (n:=9) (by simp [Agk]) fun e y=> ?_
  rcases mem_cons.mp y with rfl | y
  . exact⟨by simp,fun f d=>by rw [mem_singleton.mp d];exact F 9⟩
  . rw [mem_singleton.mp y]
    exact⟨by simp,fun f d=>by rw [mem_singleton.mp d];exact G 9 1 (by decide)⟩
 have L:SO 10 Agl:=by
  refine Yn (n:=9) (by simp [Agl]) fun e y=> ?_
  rcases mem_cons.mp y with rfl | y
  . exact⟨by simp,fun f d=>by rw [mem_singleton.mp d];exact F 9⟩
  . rw [mem_singleton.mp y]
    exact⟨by simp,fun f d=>by rw [mem_singleton.mp d];exact G 9 2 (by decide)⟩
 refine Yn (n:=10) (by simp [tr2]) fun e y=> ?_
 rcases mem_cons.mp y with rfl | y
 . refine⟨by simp,fun f d=> ?_⟩
   rcases mem_cons.mp d with rfl | d
   . exact⟨I,fun k e=>by cases e;decide⟩
   . rw [mem_singleton.mp d]
     exact⟨L,fun k e=>by cases e⟩
 . rw [mem_singleton.mp y]
   exact⟨by simp,fun f d=>by rw [mem_singleton.mp d];exact F 10⟩
theorem Agm:SO 11 tr3:=by
 refine Yn (n:=10) (by simp [tr3]) fun e d=> ?_
 rw [mem_singleton.mp d]
 exact⟨by simp,fun f y=>by rw [mem_singleton.mp y];exact⟨trivial,fun k e=>by cases e;decide⟩⟩
theorem Acv:Txt.mul (tx [40]) 10=tx [40,40,40,40,40,40,40,40,40,40]:=by decide+kernel
theorem Acw:Txt.mul (tx [41]) 10=tx [41,41,41,41,41,41,41,41,41,41]:=by decide+kernel
theorem Acp:kitOne K (.type "str") (.type "tuple")=some false:=Abv (by decide+kernel)
theorem Acb {f:Addr}{fd:FuncData} (F:Df K mg "law" Oi ["_law_script"] f fd) (z_len:mg "len"=none) (L:mg "tuple"=none) (G:mg "isinstance"=none)  (Z:Cal P w K mg base 33 "_law_source" ["_law_draw"] (M4 K)) (a0:Cal P w K mg base 35 "_law_poly" ["_law_source_here","_law_most"] (Qi K)) (d:Cal P w K mg base 79 "read_poly" ["text"] (Kz K)) (a3:Cal P w K mg base 42 "_law_sum" ["_law_source_here","_law_deep"] (Tf K)) (W:Cal P w K mg base 34 "show_poly" ["p"] (K3 K)) (I:Cal P w K mg base 34 "_law_text" ["_law_p"] (Qk K)) (y:Cal P w K mg base 36 "_law_fraction_right" ["_law_r"] (Gh K)) (U:Cal P w K mg base 35 "_law_fraction" ["_law_source_here"] (J0 K)):Nx P w K mg base CX0 80 f fd ["_law_script"] (Yp K):=by
 refine F.fn.ok Jw (fun vs H Q E h=> ?_) (fun aq A outer s H vs Q E Y h=> ?_)
 . obtain⟨a,ns,rfl,_⟩:=h
   rfl
 obtain⟨a,ns,rfl,hS,ar,k⟩:=h
 refine Av ⟨_,(Ac (Cj PassesOwn.never rfl (J6 (Ag Wg (Eb Wz (Ae 0) Ig (Dk Ad)) (Bu (Aa Ad Ab)))) (Aq 1 Jw.nd) (Ac (Am 3 Jw.nd (Ai Z Y (Aa (Ae 1) Ab)))
  (Ac (Am 4 Jw.nd (Ai a0 Y (Aa (Ae 3) (Aa Ad Ab))))
  (Ac (Bb (Aj Qa (Ai W Y (Aa (Ae 4) Ab)) (Ai I Y (Aa (Ae 4) Ab)) (Aw _)) (Af (Al Jk)) Ay)
  (Ac (Bb (Aj Lb (Az Ed rfl z_len PySem.boot_len (Aa (Ai I Y (Aa (Ae 4) Ab)) Ab)) Ad (Aw _)) (Af (Am 4 Jw.nd (Bh Dr rfl L boot_tuple (Aa (Ek (ts:=["_law_weight"]) (fs:=[]) rfl (Cz.of (sc:=Ar Oi) (N:=["_law_script","_law_draw","_law_deep","_law_source_here","_law_p","_law_found","_law_text_here","_law_due"]) rfl rfl (by decide+kernel)) (Jm (Ae 4)) (fun _ _ _=>(Aq 0 (show Nodup (["_law_weight"]:List Str)by decide+kernel))) (fun _ _ _=>Gz) (fun _ _ _=>(Ag Bv (Ag Iw (Ae 0) (Ag Ku Ad Ad)) Ad))) Ab)))) Ay)
  (Ac (Am 5 Jw.nd (Ai d Y (Aa (Ai I Y (Aa (Ae 4) Ab)) Ab)))
  (Ac (Bb (Dc (Gj (Jq (Ck (Az Fp rfl G boot_isinstance (Aa (Ae 5) (Aa (Cr (v:= .ty "tuple") rfl L boot_tuple rfl) Ab))))) (Fz (Aj (Zf Y.units) (Ae 5) (Ae 4) (Aw _))))) (Af (Al Jk)) Ay)
  (Ac (Bb (Jq (Ck (Ai y Y (Aa (Ai U Y (Aa (Ae 3) Ab)) Ab)))) (Af (Al Jk)) Ay)
  (Ac (Bm (Ai a3 Y (Aa (Ae 3) (Aa Ad Ab))) (Bk rfl (Ak (Aq 6 Jw.nd) (Ak (Aq 7 Jw.nd) Bd))))
  (Af (Bb (Dc (Eh (Ck (Az Fp rfl G boot_isinstance (Aa (Ae 7) (Aa (Cr (v:= .ty "tuple") rfl L boot_tuple rfl) Ab)))) (Eh (Aj Aas (Az Ed rfl z_len PySem.boot_len (Aa (Ae 6) Ab)) Ad (Aw _)) (Ec (Aj (Zf Y.units) (Ai d Y (Aa (Ae 6) Ab)) (Ae 7) (Aw _)))))) (Af (Al Jk)) Ay)))))))))))
  (Ac (Am 2 Jw.nd (Ag Bj (Ag Bj (Ag Np Ao Ad) Ao) (Ag Np Ao Ad)))
  (Af (Al (Fy (Bo (Mi Y.units) (Ai d Y (Aa (Ae 2) Ab)) (Ba (Aa Ad (Aa Ad Ab))) (Aw _)) (Fy (Bo (Mi Y.units) (Ai d Y (Aa Ao Ab)) (Ba (Aa Ad (Aa (Em Ja Ad) (Aa Ad (Aa Ad Ab))))) (Aw _)) (Hs (Bo (Mi Y.units) (Ai d Y (Aa Ao Ab)) (Ba (Aa (Em Ja Ad) Ab)) (Aw _))))))))),?_⟩
 refine Ax fun w0 hW=> ?_
 done
 refine Ahl hS fun p1 aa=> ?_
 obtain⟨qs,eq,lq⟩:=Xu ns none (some 12)
 rw [eq]
 intro p2 a6
 have t2:=Same.upd a6 (.lst [V.int 0])
 refine⟨p1,p2,_,_,rfl,rfl,t2 _ _ Ah,Ah,?_,fun p3 ab=>⟨p3,rfl,⟨_,.of Ah⟩,?_⟩⟩
 . rw [length_map]
   exact le_trans (show _<=64 by simp;omega) (by decide)
 have g3:upd (upd (upd H p1 (.lst (qs.map V.int))) p2 (.lst [V.int 0])) p3 (.lst (qs.map V.int++ [V.int 0])) p3=some (.lst ((qs++ [0]).map V.int)):=by rw [Ah,map_append];rfl
 generalize upd (upd (upd H p1 (.lst (qs.map V.int))) p2 (.lst [V.int 0])) p3 (.lst (qs.map V.int++ [V.int 0]))=H3 at g3
 refine Xz (es:=qs++ [0]) (inj:=V.int) (fun _ a2 H'=>Same H3 H'/\∃o1 o2 o3 o4 o5 o6 o7,a2=[some (.ref a),o1,o2,o3,o4,o5,o6,o7]) ⟨Same.refl _,_,_,_,_,_,_,_,rfl⟩ ?_ ?_ ?_
 . rintro _ a2 H' ⟨s4,_⟩
   exact M8 (.of (s4 _ _ g3))
 . rintro as c ap a2 H4 _ ⟨s4,o1,o2,o3,o4,o5,o6,o7,rfl⟩
   clear hW
   refine Ax fun w0 O=> ?_
   done
   refine⟨c,rfl,fun l H5 nl s5 r5=> ?_⟩
   have x5:Sx l H4 H5:= .of s5
   subst O
   refine Ax fun w0 O=> ?_
   done
   refine⟨l,0,rfl,r5,by decide,fun v p H6 x6 r6 hp bp=> ?_⟩
   subst O
   refine Ax fun w0 O=> ?_
   done
   refine⟨v,p,rfl,hp,bp,fun H7 s7=>⟨v,p,rfl,hp.mono s7,bp,?_⟩⟩
   try done
   subst O
   have bt:Bt p:=⟨hp.2.1,bp⟩
   have lp:=Aaz bt
   refine Dj (fun a2 H'=>∃(v':V) (p':List Int),a2=[some (.ref a),some (.int c),o2,some (.ref l),some v',o5,o6,o7]/\Po K H' v' p' 17 200/\Bnd p'/\(sT (ST 10) (plF p')).length<=400/\Same H7 H') (fun M hM=> ?_) ?_
   . done
     refine⟨v,p,rfl,hp.mono s7,bp,?_⟩
     try done
     refine⟨szl (le_trans lp (by decide)),?_⟩
     by_cases hl:(sT (ST 10) (plF p)).length<=400
     . rw [if_neg (by rw [Ho];omega)]
       exact hM _ _ ⟨v,p,rfl,hp.mono s7,bp,hl,Same.refl _⟩
     . rw [if_pos (by rw [Ho];omega)]
       obtain⟨⟨b,rfl,t⟩,tp,ln,zp⟩:=hp.mono s7
       have cp:Aev 10 12:=⟨by decide,by decide,by decide⟩
       refine⟨b,rfl,⟨_,t⟩,fun q hq=>N6 (es:=p) (inj:=V.int) (fun w=> .int (w%10^toNat 12+1)) (le_trans ln (by decide)) hq (Tp t) (fun e H' R he s hR=> ?_) fun H' s a4=> ?_⟩
       . done
         exact⟨cp,by decide,hR _ (Same.refl _)⟩
       have em:p.map (fun w=>V.int (w%10^toNat 12+1))=(p.map fun w=>w%10^toNat 12+1).map V.int:=by rw [map_map];rfl
       rw [em]at a4
       refine⟨q,_,rfl,.inl ⟨.of a4,fun z hz=> ?_⟩⟩
       have O:∀w∈p.map (fun w:Int=>w%10^toNat 12+1),w≠0/\w.natAbs<10^13:=fun w O=>by
        obtain⟨x,_,rfl⟩:=mem_map.mp O
        have ag:(10:Int)^toNat 12=1000000000000:=by decide
        rw [ag]
        have h1:=emod_nonneg x (show(1000000000000:Int)≠0 by decide)
        have h2:=emod_lt_of_pos x (show(0:Int)<1000000000000 by decide)
        exact⟨by omega,by omega⟩
       have tr:Tr (p.map fun w:Int=>w%10^toNat 12+1):=by
        by_cases h0:(p.map fun w:Int=>w%10^toNat 12+1)=[]
        . exact .inl h0
        . exact .inr ⟨h0,(O _ (List.getLast_mem h0)).1⟩
       have lq:(p.map fun w:Int=>w%10^toNat 12+1).length<=17:=by rw [length_map];exact ln
       have bn:Bnd (p.map fun w:Int=>w%10^toNat 12+1):=⟨lq,fun w h=>lt_trans (O w h).2 (by decide)⟩
       exact hM _ _ ⟨.ref z,_,rfl,Bt.po ⟨tr,bn⟩ (.of Ah),bn,Aay lq fun w h=>(O w h).2,s.trans (Same.upd hz _)⟩
   rintro _ H8 ⟨v',p',rfl,a7,ac,ah,s8⟩
   have ad:Bt p':=⟨a7.2.1,ac⟩
   refine Ax fun w0 O=> ?_
   done
   refine⟨v',p',rfl,a7,ac,?_⟩
   try done
   refine⟨plF p',p',rfl,Afx ad,ah,Afy ad,fun z H9 s9 hz=> ?_⟩
   subst O
   refine Ax fun w0 O=> ?_
   done
   obtain⟨⟨b,rfl,t⟩,tp,ln,zp⟩:=a7.mono s9
   obtain⟨⟨b2,rfl,t2⟩,_⟩:=hz
   refine isa (.tup t2) Vw ?_
   try done
   refine⟨b2,b,p',p',rfl,rfl,t2,t,?_⟩
   try done
   subst O
   refine Ax fun w0 O=> ?_
   done
   have r9:=((r6.same s7).same s8).same s9
   refine⟨l,_,rfl,r9,by decide,fun z1 a' b' au ai aj tz b0 b1 a1 hg=> ?_⟩
   refine⟨z1,a',b',rfl,tz,b0,b1,a1,hg,fun av ae=> ?_⟩
   try done
   subst O
   refine Ax fun w0 O=> ?_
   done
   refine⟨l,_,2,rfl,aj.same ae,by decide,by decide,by decide,fun z2 v2 s2 a8 ak aw am a5 an a4=> ?_⟩
   refine Cy am ?_
   try done
   subst O
   have xa:Sx l H4 a8:=((x5.trans x6).same (s7.trans (s8.trans s9))).trans ((ai.same ae).trans ak)
   have sa:Same H4 a8:=fun b o e=>xa b o (fun z=>by rw [z,nl]at e;cases e) e
   have lt:(ST 11 s2).length<=1290:=a4
   have a9:∀ {H':Hp}{o1 o2 o3 o4 o5 o6 o7:Option V},Same a8 H'->Same H3 H'/\∃p1 p2 p3 p4 p5 p6 p7,[some (.ref a),o1,o2,o3,o4,o5,o6,o7]=[some (.ref a),p1,p2,p3,p4,p5,p6,p7]:=fun s'=>⟨s4.trans (sa.trans s'),_,_,_,_,_,_,_,rfl⟩
   done
   cases hS2:SV 11 s2 with
   | none=>
     rw [show SV (8+3) s2=none from hS2]at a5
     cases(show v2=_ from a5)
     refine isa (.of (.str _)) Acp ?_
     try done
     exact a9 (Same.refl _)
   | some pd=>
     rw [show SV (8+3) s2=some pd from hS2]at a5
     obtain⟨⟨⟨b3,rfl,t3⟩,_⟩,ax⟩:=a5
     refine isa (.tup t3) Vw ?_
     try done
     refine⟨szl (le_trans lt (by decide)),?_⟩
     by_cases h4:(ST 11 s2).length<=400
     . rw [if_pos (show((tx (ST (8+3) s2)).length:Int)<=400 from by rw [Ho];exact Int.ofNat_le.mpr h4)]
       refine⟨s2,pd,rfl,an,h4,hS2,fun z3 ay af ao=> ?_⟩
       obtain⟨⟨b4,rfl,t4⟩,_⟩:=ao
       refine⟨b4,b3,pd,pd,rfl,rfl,t4,af.tup t3,?_⟩
       try done
       exact a9 af
     . rw [if_neg (show ¬((tx (ST (8+3) s2)).length:Int)<=400 from fun z=>h4 (by rw [Ho]at z;exact Int.ofNat_le.mp z))]
       exact a9 (Same.refl _)
 . rintro a2 H4 ⟨s4,o1,o2,o3,o4,o5,o6,o7,rfl⟩
   subst hW
   refine Ax fun w0 O=> ?_
   done
   subst O
   refine Ax fun w0 O=> ?_
   done
   have m0:MulOk (tx [40]) 10:=⟨by decide,fun _ _=>by decide,fun _ _=>by decide⟩
   have m1:MulOk (tx [41]) 10:=⟨by decide,fun _ _=>by decide,fun _ _=>by decide⟩
   rw [Acv,Acw,K6,K6]
   refine⟨m0,by decide,m1,by decide,?_⟩
   subst O
   done
   refine⟨deep 10,[0,1],by rw [Y5],Y4 10,by rw [Y5];decide,Ab6,fun z1 H5 s5 h5=> ?_⟩
   obtain⟨⟨b1,rfl,t1⟩,_⟩:=h5
   try done
   intro p1 aa
   refine⟨b1,p1,[0,1],[0,1],rfl,rfl,(Same.upd aa _).tup t1,.of Ah,?_⟩
   try done
   rw [Agi]
   refine⟨tr2,[2,-4,0,1],rfl,Agh,by decide+kernel,Agj,fun z2 H6 s6 h6=> ?_⟩
   obtain⟨⟨b2,rfl,t2⟩,_⟩:=h6
   try done
   refine⟨by decide,fun p2 a6=> ?_⟩
   refine⟨b2,p2,[2,-4,0,1],[2,-4,0,1],rfl,rfl,(Same.upd a6 _).tup t2,.of Ah,?_⟩
   try done
   rw [Agn]
   refine⟨tr3,[-1],rfl,Agm,by decide+kernel,Ago,fun z3 H7 s7 h7=> ?_⟩
   obtain⟨⟨b3,rfl,t3⟩,_⟩:=h7
   try done
   intro p3 ab
   exact⟨b3,p3,[-1],[-1],rfl,rfl,(Same.upd ab _).tup t3,.of Ah,by rw [decide_eq_true rfl];exact k _⟩
end
abbrev Fd (K:Frag) (x:Str) (st:Stmt):Prop:=∃(f:Addr) (od an:Option Addr) (sl:Array (Option Value)) (oc kV dc pm cd ct:Value),PySem.W.nsIn K mainGlobals x=some (some (.ref f))/\K.lookup f=some ⟨oc,od,.func (PySem.W.fnOf x x (Jc st) (Hu st) (Ar st) .none kV dc pm an cd ct),sl⟩/\PySem.W.codeIn K cd x=true/\keepIn K (.ref f)=true
theorem us0 {P:List Value->Prop} (h:P []) (d:List Value) (y:d.length=0):P d:=by
 rw [List.length_eq_zero_iff.mp y]
 exact h
theorem usS {P:List Value->Prop}{k:Nat} (h:∀a,∀d:List Value,d.length=k->P (a::d)) (d:List Value) (y:d.length=k+1):P d:=by
 cases d with
 | nil=>cases y
 | cons a l=>exact h a l (Nat.succ.inj y)
theorem us1 {P:List Value->Prop} (h:∀a,P [a]):∀d:List Value,d.length=1->P d:=usS fun a=>us0 (h a)
theorem us2 {P:List Value->Prop} (h:∀a b,P [a,b]):∀d:List Value,d.length=2->P d:=usS fun a=>usS fun b=>us0 (h a b)
theorem us3 {P:List Value->Prop} (h:∀a b c,P [a,b,c]):∀d:List Value,d.length=3->P d:=usS fun a=>usS fun b=>usS fun c=>us0 (h a b c)
theorem Cu {K:Frag}{h:Heap}{mg:Str->Option Value}{x:Str}{st:Stmt} (X:K.In h) (G:h.Ns mainGlobals mg) (d:Fd K x st) (ps:List Str) (M:∀(kV y O:Value) (U:Option Addr) (I ct:Value) (L:List Value),L.length=ps.length->bindArgs (PySem.W.fnOf x x (Jc st) (Hu st) (Ar st) .none kV y O U I ct) ⟨L,[]⟩=pure (ps.zip L):=by first | exact(fun _ _ _ _ _ _=>us1 fun _=>rfl) | exact(fun _ _ _ _ _ _=>us2 fun _ _=>rfl) | exact(fun _ _ _ _ _ _=>us3 fun _ _ _=>rfl)):∃f fd,Df K mg x st ps f fd:=by
 obtain⟨f,_,_,_,_,_,_,_,_,_,a,l,c,k⟩:=d
 have F:=Y8 (st:=st) l c k
 exact⟨_,_,F,F.binds M,mg_of X G a⟩
theorem all_mk {l:PySem.W.OpenLaw}{w:World}{K:Frag}{h:Heap}{mg:Str->Option Value}{fa:Addr} (X:K.In h) (G:h.Ns mainGlobals mg) (c3:mg "law"=some (.ref fa))
 (d1:Fd K "_law_source" Kf) (d2:Fd K "_law_mixed" Mr) (d3:Fd K "_law_next" Oj) (d4:Fd K "_law_poly" Ol) (d5:Fd K "refuse_unless" Ge) (d6:Fd K "sign_at" Mu) (d7:Fd K "are_figures" Fq) (d8:Fd K "number_form" Hf) (d9:Fd K "poly" Wv) (c4:Fd K "product_form" En) (c5:Fd K "factor_form" Ft) (c6:Fd K "base_form" G9) (c7:Fd K "sum_form" Ik) (c8:Fd K "degree" Oh) (c9:Fd K "bounded" Ju) (ca:Fd K "p_plus" Lk) (cb:Fd K "scaled" Ln) (cc:Fd K "p_minus" Mp) (ce:Fd K "p_times" Mq) (cf:Fd K "reckoned_product" Dn) (cg:Fd K "reckoned_power" Dy) (ch:Fd K "reckoned_sum" Eo) (ci:Fd K "read_poly" Jg) (cj:Fd K "_law_plain" Ms) (ck:Fd K "_law_bounded" Hg) (cl:Fd K "_law_added" Jv) (cm:Fd K "_law_product" Jf) (cn:Fd K "_law_power" Mt) (cp:Fd K "_law_factor" Ij) (cq:Fd K "_law_sum" Om) (cr:Fd K "show_term" Jh) (cs:Fd K "show_poly" Hh) (cu:Fd K "_law_term" Oo) (cv:Fd K "_law_text" Oq) (cw:Fd K "divisor" Ml) (cx:Fd K "fraction" Kd) (cy:Fd K "show_fraction" Gf) (cz:Fd K "read_fraction" Gd) (d0:Fd K "_law_fraction_right" Ei) (da:Fd K "_law_shared" Ke) (db:Fd K "_law_fraction" Hx) (dd:Fd K "law" Oi)
 {af:Tok}
 {bc:Tok}
 {a5:Tok}
 {ab:Tok}
 {aq:Tok}
 (ac:PySem.W.nsIn K mainGlobals "MOST_FIGURES"=some (some (.int 60 af)))
 (b1:PySem.W.nsIn K mainGlobals "FIGURES"=some (some (.str "0123456789" bc)))
 (a1:PySem.W.nsIn K mainGlobals "GREATEST_POWER"=some (some (.int 16 a5)))
 (a6:PySem.W.nsIn K mainGlobals "MOST_BRACKETS"=some (some (.int 10 ab)))
 (ak:PySem.W.nsIn K mainGlobals "MOST_SIGNS"=some (some (.int 400 aq)))
 (bj:PySem.W.nsIn K mainGlobals "range"=some none) (bl:PySem.W.nsIn K mainGlobals "tuple"=some none) (br:PySem.W.nsIn K mainGlobals "len"=some none) (bt:PySem.W.nsIn K mainGlobals "all"=some none) (bu:PySem.W.nsIn K mainGlobals "int"=some none) (bv:PySem.W.nsIn K mainGlobals "any"=some none) (bw:PySem.W.nsIn K mainGlobals "abs"=some none) (bm:PySem.W.nsIn K mainGlobals "list"=some none) (aw:PySem.W.nsIn K mainGlobals "enumerate"=some none) (ar:PySem.W.nsIn K mainGlobals "isinstance"=some none) (bx:PySem.W.nsIn K mainGlobals "str"=some none) (bz:PySem.W.nsIn K mainGlobals "max"=some none) (c0:PySem.W.nsIn K mainGlobals "zip"=some none):
 ∃fd:FuncData,(∀(s:Shared) (v:Value),BindsTo s fd ⟨[v],[]⟩ [("_law_script",v)])/\∀base:Heap,Pyl l.prog base->Nx l.prog w K mg base CX0 80 fa fd ["_law_script"] (Yp K):=by
 obtain⟨ei,_,an,sl,oc,kV,dc,pm,cd,ct,c1,de,df,dh⟩:=dd
 have e:=c3.symm.trans (mg_of X G c1)
 cases e
 have M:=mg_none_of X G bj
 have I:=mg_none_of X G bl
 have F:=mg_none_of X G br
 have bn:=mg_none_of X G bt
 have b2:=mg_none_of X G bu
 have bo:=mg_none_of X G bv
 have ag:=mg_none_of X G bw
 have ae:=mg_none_of X G bm
 have U:=mg_none_of X G aw
 have d:=mg_none_of X G ar
 have Y:=mg_none_of X G bx
 have bp:=mg_none_of X G bz
 have bq:=mg_none_of X G c0
 have a7:∃u,mg "MOST_FIGURES"=some u/\RelV (V.int 60) u:=⟨_,mg_of X G ac,⟨_,rfl⟩⟩
 have aa:∃u,mg "FIGURES"=some u/\RelV (V.str "0123456789") u:=⟨_,mg_of X G b1,⟨_,rfl⟩⟩
 have L:∃u,mg "GREATEST_POWER"=some u/\RelV (V.int 16) u:=⟨_,mg_of X G a1,⟨_,rfl⟩⟩
 have a2:∃u,mg "MOST_BRACKETS"=some u/\RelV (V.int 10) u:=⟨_,mg_of X G a6,⟨_,rfl⟩⟩
 have ah:∃u,mg "MOST_SIGNS"=some u/\RelV (V.int 400) u:=⟨_,mg_of X G ak,⟨_,rfl⟩⟩
 obtain⟨_,_,D1⟩:=Cu X G d1 ["_law_draw"]
 obtain⟨_,_,D2⟩:=Cu X G d2 ["_law_draw","_law_k"]
 obtain⟨_,_,D3⟩:=Cu X G d3 ["_law_source_here","_law_many"]
 obtain⟨_,_,D4⟩:=Cu X G d4 ["_law_source_here","_law_most"]
 obtain⟨_,_,D5⟩:=Cu X G d5 ["fits"]
 obtain⟨_,_,D6⟩:=Cu X G d6 ["text","place"]
 obtain⟨_,_,D7⟩:=Cu X G d7 ["text"]
 obtain⟨_,_,D8⟩:=Cu X G d8 ["text","start"]
 obtain⟨_,_,D9⟩:=Cu X G d9 ["weights"]
 obtain⟨_,_,di⟩:=Cu X G c4 ["text","start","depth"]
 obtain⟨_,_,dj⟩:=Cu X G c5 ["text","start","depth"]
 obtain⟨_,_,dk⟩:=Cu X G c6 ["text","start","depth"]
 obtain⟨_,_,dl⟩:=Cu X G c7 ["text","start","depth"]
 obtain⟨_,_,dm⟩:=Cu X G c8 ["one"]
 obtain⟨_,_,dn⟩:=Cu X G c9 ["p"]
 obtain⟨_,_,dp⟩:=Cu X G ca ["one","other"]
 obtain⟨_,_,dq⟩:=Cu X G cb ["one","factor"]
 obtain⟨_,_,dr⟩:=Cu X G cc ["one","other"]
 obtain⟨_,_,dt⟩:=Cu X G ce ["one","other"]
 obtain⟨_,_,du⟩:=Cu X G cf ["pairs"]
 obtain⟨_,_,dv⟩:=Cu X G cg ["base","many"]
 obtain⟨_,_,dw⟩:=Cu X G ch ["terms"]
 obtain⟨_,_,dy⟩:=Cu X G ci ["text"]
 obtain⟨_,_,dz⟩:=Cu X G cj ["_law_weights"]
 obtain⟨_,_,e0⟩:=Cu X G ck ["_law_weights"]
 obtain⟨_,_,e1⟩:=Cu X G cl ["_law_p","_law_q","_law_by"]
 obtain⟨_,_,e2⟩:=Cu X G cm ["_law_p","_law_q"]
 obtain⟨_,_,e3⟩:=Cu X G cn ["_law_p","_law_many"]
 obtain⟨_,_,e4⟩:=Cu X G cp ["_law_source_here","_law_deep"]
 obtain⟨_,_,e5⟩:=Cu X G cq ["_law_source_here","_law_deep"]
 obtain⟨_,_,e6⟩:=Cu X G cr ["weight","many"]
 obtain⟨_,_,e7⟩:=Cu X G cs ["p"]
 obtain⟨_,_,e8⟩:=Cu X G cu ["_law_weight","_law_at"]
 obtain⟨_,_,e9⟩:=Cu X G cv ["_law_p"]
 obtain⟨_,_,ea⟩:=Cu X G cw ["one","other"]
 obtain⟨_,_,eb⟩:=Cu X G cx ["top","bottom"]
 obtain⟨_,_,ec⟩:=Cu X G cy ["r"]
 obtain⟨_,_,ed⟩:=Cu X G cz ["text"]
 obtain⟨_,_,ee⟩:=Cu X G d0 ["_law_r"]
 obtain⟨_,_,ef⟩:=Cu X G da ["_law_one","_law_other"]
 obtain⟨_,_,eg⟩:=Cu X G db ["_law_source_here"]
 have c2:=Y8 (st:=Oi) de df dh
 have eh:Df K mg "law" Oi ["_law_script"] _ _:=⟨c2,c2.binds (ps:=["_law_script"]) fun _ _ _ _ _ _ us hl=>match us,hl with | [_],_=>rfl,mg_of X G c1⟩
 refine⟨PySem.W.fnOf "law" "law" (Jc Oi) (Hu Oi) (Ar Oi) .none kV dc pm an cd ct,fun s v=> .of_eq rfl,fun base py=> ?_⟩
 have ax:= @Rg l.prog w K mg base _ _ D1
 have b3:= @Ul l.prog w K mg base _ _ D2
 have a8:=V9 D3 b3
 have be:=Wa D4 M I a8
 have y:= @K9 l.prog w K mg base _ _ D5
 have b4:= @Uq l.prog w K mg base _ _ D6
 have Z:= @M9 l.prog w K mg base _ _ D7 F bn a7 aa
 have ai:=Nb D8 b2 F aa y Z
 have bb:= @Aar l.prog w K mg base _ _ D9 F I
 have ay:=Rh dl di dj dk L a2 b4 ai y bb
 have ao:= @V7 l.prog w K mg base _ _ dm F
 have b5:=Ue dn bo ag L ao
 have ap:=V8 dp ae U F bb
 have bf:= @Wd l.prog w K mg base _ _ dq I
 have b6:=Uh dr ap bf
 have b7:= @Uj l.prog w K mg base _ _ dt U I F
 have ad:=Mf dw du dv M d ae b5 ap b6 b7
 have as:=Pr dy d Y F ah y ay ad
 have aj:= @Um l.prog w K mg base _ _ dz ae I
 have a3:=Pn e0 F ag aj
 have b8:=Uk e1 bp d Y F ae bq a3
 have a4:=Pq e2 U d Y F a3
 have b9:=Uo e3 M d Y a4
 have bi:=X6 e5 e4 M b2 Y b8 a8 a4 b9 aj
 have au:= @Px l.prog w K mg base _ _ e6 ag
 have av:=Pu e7 M au ao
 have bg:= @Wb l.prog w K mg base _ _ e8 Y
 have bh:=Wc e9 M F bg
 have ba:= @Ug l.prog w K mg base _ _ ea ag
 have az:=Rb eb py ba
 have O:= @La l.prog w K mg base _ _ ec Y
 have a9:=K8 ed d Y b2 y az Z O
 have a0:=Jd ee Y d I a9 O
 have b0:= @Rf l.prog w K mg base _ _ ef
 have am:=Oe eg ag py b0 a8
 exact @Acb l.prog w K mg base _ _ eh F I d ax be as bi av bh a0 am
theorem walk {l:PySem.W.OpenLaw}{q:Program}{y:List Str}{U:(Str->Option Value)->Heap->Prop}{M:World->Heap->Prop}{d:DefRec}{K:Params->Frag} (Y:l.most=some 63) (G:d.params.defaults=[]) (I:PyProof.Rows.importsNone q=true) (L:l.prog.given.tree=none)
 (Z:∀(w:World) (h:Heap),M w h->(K w.params).In h)
 (F:∀(w:World) (mg:Str->Option Value) (O:Addr) (h:Heap),(K w.params).In h->h.Ns mainGlobals mg->mg d.name=some (.ref O)->
   ∃fd:FuncData,(∀(s:Shared) (u:Value),BindsTo s fd ⟨[u],[]⟩ [("_law_script",u)])/\∀base:Heap,Pyl l.prog base->Nx l.prog w (K w.params) mg base CX0 80 O fd ["_law_script"] (Yp (K w.params))):
 PySem.W.WalkO q y U M l.row.toRowW d [] (fun f vs=>PySem.call f vs):=
 L2.Yt (n:=63) (k:=80) (x:="_law_script") (sp:=Yp) Y (by decide) G ⟨rfl,by decide,by decide⟩ I L Z F (fun _ _ a ns hl hS=>⟨a,ns,rfl,hS,hl,fun _=>rfl⟩) fun _ _ _ _ z=>z
end Z
namespace PySem.W.Fast
def tw10028380852251210153:=()
def tw10039646999083781631:=()
def tw10083313330080500368:=()
def tw10085232171340108555:=()
def tw10136234681314165697:=()
def tw10182004294180333621:=()
def tw10242410987638387096:=()
def tw10262320452697289257:=()
def tw1029227053833004324:=()
def tw10377510903371074480:=()
def tw1040485909060571081:=()
def tw10463337479713574177:=()
def tw10479270230647229205:=()
def tw10507192712656492911:=()
def tw10539016193424712456:=()
def tw1055174817974798706:=()
def tw10695218577401348627:=()
def tw10746174654489098217:=()
def tw10757732942640483684:=()
def tw10792512210939679701:=()
def tw10802387137567418952:=()
def tw10948212021326316619:=()
def tw10984712770119625195:=()
def tw11051506762815452172:=()
def tw11249971694503176192:=()
def tw11296291462393457308:=()
def tw11355582611207062477:=()
def tw11403717742156542848:=()
def tw11583867998995338949:=()
def tw11621827313511265007:=()
def tw11638602354345828994:=()
def tw11646644219601033396:=()
def tw11668041618426024090:=()
def tw11718101463015717230:=()
def tw11901874734269350926:=()
def tw11914881786424650638:=()
def tw11935363478710330984:=()
def tw11938015000617771182:=()
def tw11980410366574937003:=()
def tw12004002593178159343:=()
def tw12045897291685255879:=()
def tw12106520061348739633:=()
def tw12147776322644341238:=()
def tw12149216831102499596:=()
def tw12197576980914893567:=()
def tw12358195690860693577:=()
def tw12393570482058253058:=()
def tw12421597539821459437:=()
def tw12428702049177050058:=()
def tw12431026796647282166:=()
def tw12529097409665629910:=()
def tw12547951909033228818:=()
def tw12672350759236100009:=()
def tw12701719474119914954:=()
def tw12791717009076320742:=()
def tw12926429124449355514:=()
def tw12940425778269965240:=()
def tw12950681895050512943:=()
def tw12955458416527011502:=()
def tw12984525530415125547:=()
def tw1302213358891874354:=()
def tw13053302627965425392:=()
def tw13065128932193955347:=()
def tw13075794377782325868:=()
def tw13120266240497152375:=()
def tw13146854954852404137:=()
def tw13161284331998517356:=()
def tw13184144710767849674:=()
def tw13428240813006196937:=()
def tw13469877594824120498:=()
def tw13538500208303933044:=()
def tw13557791791984476080:=()
def tw1357124755922897872:=()
def tw13620371221303600252:=()
def tw136721211132346635:=()
def tw1375183053611819304:=()
def tw13760987209110972058:=()
def tw1379930192793373422:=()
def tw13811753693021516782:=()
def tw1403149233003217032:=()
def tw14181439970872989808:=()
def tw14319641443447141022:=()
def tw1432243777556858671:=()
def tw14347259353358404585:=()
def tw14504442617569066101:=()
def tw14708176760455389632:=()
def tw14726818410175069755:=()
def tw14742192983404179413:=()
def tw14891905191401159923:=()
def tw14914443427824126773:=()
def tw14925610092007024700:=()
def tw14944689953638637921:=()
def tw14947386959660789935:=()
def tw14947552567368891057:=()
def tw149718996059874266:=()
def tw14982768168026580100:=()
def tw14997695216266217874:=()
def tw15189221186532980757:=()
def tw15228096587651331579:=()
def tw15284583872453876089:=()
def tw15323306794081404715:=()
def tw15325700381135862641:=()
def tw15388427470641350332:=()
def tw15534677604097859689:=()
def tw15602092166077856377:=()
def tw1562348070737033472:=()
def tw15685226173531412591:=()
def tw15704297372580471336:=()
def tw15709523664605314095:=()
def tw15804045973113429201:=()
def tw1587926164482597531:=()
def tw15894195566318934762:=()
def tw15943791505352804412:=()
def tw16013960381832310198:=()
def tw16024244281385134024:=()
def tw16080953703306123129:=()
def tw16082632475592903818:=()
def tw162220906109330966:=()
def tw162421191117079648:=()
def tw16329930665322590246:=()
def tw16337530456535063695:=()
def tw16444298235957024863:=()
def tw16469339553648841705:=()
def tw16521603293691984620:=()
def tw16554637955827377560:=()
def tw16597585292826660119:=()
def tw1660895845147116193:=()
def tw16623972465466928170:=()
def tw16707513745250124931:=()
def tw16799292426989754677:=()
def tw16884932220845296564:=()
def tw16897795760806379655:=()
def tw16964048278684846883:=()
def tw17014760523039536256:=()
def tw17067536051832872169:=()
def tw17085026711825138765:=()
def tw17129260998215493106:=()
def tw17132031227516029491:=()
def tw17229341994243796840:=()
def tw17241401356569469599:=()
def tw17265505041861709962:=()
def tw17320180525059346193:=()
def tw17483505304791021938:=()
def tw17484816037790209870:=()
def tw17485047655264638520:=()
def tw17579815948360233470:=()
def tw177317079705032734:=()
def tw17734519648173929115:=()
def tw1777187677216959329:=()
def tw17955276250064654981:=()
def tw17959409971349329310:=()
def tw17991103169148675426:=()
def tw18213923652860684047:=()
def tw18266183029011543989:=()
def tw18383448387885169109:=()
def tw18431990436357095083:=()
def tw18437067050547524664:=()
def tw18437471977524950147:=()
def tw18439838222782218730:=()
def tw1871410953196679624:=()
def tw189955749316531172:=()
def tw2075013894131271279:=()
def tw2154094432768839144:=()
def tw217875604682565863:=()
def tw2196702014300078878:=()
def tw2208041753560448801:=()
def tw2251335255511397673:=()
def tw2349700410889732876:=()
def tw2360564331644582837:=()
def tw2479481149885979674:=()
def tw2629148059789157216:=()
def tw2805293652068154141:=()
def tw2822383621809726807:=()
def tw2835124998532210379:=()
def tw2906242101225936740:=()
def tw2985105533834437404:=()
def tw3001392043656685449:=()
def tw3064117533157959380:=()
def tw3106302553309674467:=()
def tw3106375006351128960:=()
def tw3151557111510945265:=()
def tw3157569947483066111:=()
def tw3302248888408953721:=()
def tw3343386138887916853:=()
def tw3437019157468642117:=()
def tw3479863462994987935:=()
def tw3537357255309349856:=()
def tw3568752158828483131:=()
def tw3631994635028833845:=()
def tw3709408548049004171:=()
def tw3767332647746384650:=()
def tw3771535095844243628:=()
def tw3791174810498080453:=()
def tw3839565568036643473:=()
def tw4027941924169103857:=()
def tw4033062756547445749:=()
def tw4044047597426817942:=()
def tw4076078232995553047:=()
def tw4077853066204842132:=()
def tw4078577276685098859:=()
def tw4081480872873852269:=()
def tw4094375518201060346:=()
def tw4165448462760381391:=()
def tw418134450407466511:=()
def tw4189520299502517297:=()
def tw420178125361516100:=()
def tw4251844497578954024:=()
def tw4271981020503396841:=()
def tw4343781642343433892:=()
def tw4349058868672613690:=()
def tw4466594627998953828:=()
def tw4481754288965584011:=()
def tw45534251161866434:=()
def tw4601968068642937008:=()
def tw4611786590767633647:=()
def tw468371992226916618:=()
def tw4877529197965043128:=()
def tw4903422365070400398:=()
def tw4939418600264471812:=()
def tw4967699428940513919:=()
def tw5003315280089588615:=()
def tw500509401731791142:=()
def tw5044300715100487245:=()
def tw5055976550908819993:=()
def tw5067627573832501937:=()
def tw510076159709820864:=()
def tw5123634873074175299:=()
def tw5126332544884692881:=()
def tw5164160321218040742:=()
def tw5195524078517892697:=()
def tw5199340819003671817:=()
def tw5220080506620843082:=()
def tw5240802588264962612:=()
def tw5241132017951006384:=()
def tw5265993122196821847:=()
def tw5313714641917260059:=()
def tw5339267020568747455:=()
def tw5374782039785599014:=()
def tw5400268584003219534:=()
def tw5473361130675352363:=()
def tw549980838795056385:=()
def tw5539622413973508359:=()
def tw5544572829162430639:=()
def tw5693937383722576821:=()
def tw5717627565184459467:=()
def tw5832728614490320578:=()
def tw5897618193649727815:=()
def tw5928300289219792702:=()
def tw5935689844075622986:=()
def tw5992258767693647709:=()
def tw6004395353159701170:=()
def tw603995249994863925:=()
def tw6044829273275912288:=()
def tw607371155123967476:=()
def tw6080469461858031405:=()
def tw612481684803257289:=()
def tw6131286000799269373:=()
def tw622390889383477859:=()
def tw6236447553436016044:=()
def tw6254495090860446378:=()
def tw6366067780486849296:=()
def tw6387450251096981446:=()
def tw6479664941517769718:=()
def tw6480787353429695149:=()
def tw658398936748355000:=()
def tw6686639900311436214:=()
def tw6900938591356693423:=()
def tw6912129098789158439:=()
def tw7039299889133419919:=()
def tw7086067645728218781:=()
def tw7101453946015905464:=()
def tw7105557173076314574:=()
def tw7141264141072034626:=()
def tw7146446967578565000:=()
def tw7168811826533502324:=()
def tw7186642239472958233:=()
def tw7209276637121204662:=()
def tw7344870780471635221:=()
def tw7350223666661693569:=()
def tw7392622388503479119:=()
def tw7424422214334275132:=()
def tw7474611771525127544:=()
def tw7505772287294903127:=()
def tw7505868010538989340:=()
def tw753761295931159854:=()
def tw7542238672304723976:=()
def tw7712896264037757231:=()
def tw7762881525682480984:=()
def tw7776951506619791552:=()
def tw7846607835780753460:=()
def tw7906019865195115949:=()
def tw7936818496652246703:=()
def tw7992542642462141805:=()
def tw8065435425607346448:=()
def tw8095958501872859363:=()
def tw8140142701213577770:=()
def tw8187005429171343684:=()
def tw8197682904625304985:=()
def tw8237543470544665523:=()
def tw8243810756098721812:=()
def tw8288277420967108799:=()
def tw8322836925276217308:=()
def tw8326348135373374749:=()
def tw8411471232793737808:=()
def tw8509036743524262070:=()
def tw8550929727833770647:=()
def tw8591749925936444357:=()
def tw8787226175751078528:=()
def tw8798251108272607383:=()
def tw8931115213122993183:=()
def tw9018705547709698110:=()
def tw9065727500635782369:=()
def tw9198722496015770727:=()
def tw9387711038097261605:=()
def tw9425012177356673562:=()
def tw9466914772117047680:=()
def tw9580651227568745313:=()
def tw9692142857746691189:=()
def tw9764232857363488216:=()
def tw9820290519676034136:=()
def tw9838191053323926545:=()
def tw9876880298385971353:=()
def tw991532800374042631:=()
def tw9958389751068411167:=()
def tw9959694361584415817:=()
def tw996556177736623274:=()
def tw9994858074075465463:=()
end PySem.W.Fast
open PySem PySem.W PyProof.Rows
set_option maxRecDepth 100000 in
set_option maxHeartbeats 0 in
theorem PySem.Challenge.cw_rootcourt_k77_polynomials_written_holds : PySem.Challenge.rw_rootcourt_k77_polynomials_written.Holds := by
 w_on;o_law;k_head;(case hw=>w_witness2)
 k_fill
 refine Z.walk (l:=PySem.Challenge.rw_rootcourt_k77_polynomials_written) rfl rfl (by decide+kernel) rfl (fun w h Y=>kIn_of Y) ?F
 case F=>
  intro w mg I h y G d
  refine' Z.all_mk y G d ?d1 ?d2 ?d3 ?d4 ?d5 ?d6 ?d7 ?d8 ?d9 ?d10 ?d11 ?d12 ?d13 ?d14 ?d15 ?d16 ?d17 ?d18 ?d19 ?d20 ?d21 ?d22 ?d23 ?d24 ?d25 ?d26 ?d27 ?d28 ?d29 ?d30 ?d31 ?d32 ?d33 ?d34 ?d35 ?d36 ?d37 ?d38 ?d39 ?d40 ?d41 ?d42  ?xcMOST_FIGURES ?xcFIGURES ?xcGREATEST_POWER ?xcMOST_BRACKETS ?xcMOST_SIGNS ?zrange ?ztuple ?zlen ?zall ?zint ?zany ?zabs ?zlist ?zenumerate ?zisinstance ?zstr ?zmax ?zzip
  (case xcMOST_FIGURES=>k_is);(case xcFIGURES=>k_is);(case xcGREATEST_POWER=>k_is);(case xcMOST_BRACKETS=>k_is);(case xcMOST_SIGNS=>k_is)
  all_goals first | k_is | exact⟨_,_,_,_,_,_,_,_,_,_,by k_is,by k_is,by k_is,by k_is⟩
