import PyProof.Rows.All
import Wide.All
import OpenK.AllK
import Wide.FinOn
import Lean
import PyProof.EqAt
import PyProof.EqKinds
import PyProof.TupleCall
import PySem.Challenge.RW_rootcourt_k14_whole_any_paper_let_by
set_option maxHeartbeats 4000000
set_option Elab.async false
set_option linter.all false
set_option compiler.extract_closed false
local macro_rules | `(tactic| omega) => `(tactic| lia)
open PySem.W (Frag InstAt callWith_K cellsFrom_some clsIn excIn findIn hideAll hideAll_get instObj isFn kIn_of ke_canLayAll0 ke_depthAll keepIn kia_one kitOne kitx_dict kitx_list kitx_tuple lookIn methodObj mg_none_of mg_of mroIn of_hideAll plainGet specialIn subIn)
open Nat (add_mul div_add_mod le_add_right le_antisymm le_mul_of_pos_left le_of_eq le_of_lt le_of_not_lt le_refl le_trans lt_irrefl lt_of_le_of_lt lt_of_lt_of_le min_eq_left mod_lt mul_add mul_le_mul mul_le_mul_left mul_le_mul_right mul_succ ne_of_gt ne_of_lt pow_add pow_lt_pow_right pow_pos sub_self sub_zero succ_mul two_pow_pos zero_le)
open List (Nodup all_cons all_eq_true all_nil any_cons append_assoc append_nil cons_append drop_zero filter_cons find?_cons flatten_cons foldl foldl_cons forIn_cons getD_eq_getElem?_getD getElem?_append_left getElem?_append_right getElem?_cons_zero getElem?_drop getElem?_eq_getElem getElem?_eq_none getElem?_map getElem?_mapIdx getElem?_range getElem?_replicate getElem_mem getElem_of_mem length_append length_cons length_drop length_map length_nil length_pos_iff length_range length_replicate length_set length_singleton length_take lookup lookup_cons map_append map_cons map_drop map_map map_nil map_set mem_append mem_append_right mem_cons mem_cons_of_mem mem_cons_self mem_filter mem_filterMap mem_range mem_reverse mem_singleton nil_append nodup_cons not_mem_nil of_mem_zip replicate replicate_succ set_cons_succ set_cons_zero size_toArray take_length take_of_length_le take_succ)
open PySem.F (args_tuple_add_2 entry_tuple_add plainAttrs_list slot_tuple_add slot_tuple_mul)
open Int (dvd_add dvd_mul_left dvd_mul_right dvd_neg dvd_refl dvd_trans dvd_zero emod_lt_of_pos emod_nonneg eq_of_mul_eq_mul_left le_of_dvd lt_or_gt_of_ne mul_ediv_add_emod mul_eq_zero mul_ne_zero mul_neg natAbs natAbs_dvd_natAbs natAbs_mul natAbs_natCast natAbs_pos natCast_add natCast_emod natCast_mul neg_mul ofNat_dvd_left pow_mul toNat toNat_natCast zero_add zero_dvd zero_emod)
open Bool (and_eq_true eq_false_iff or_eq_true)
open Option (getD_none)
open PyProof.Rows (bitAnd_pp boot_abs boot_all boot_bool boot_int boot_isinstance boot_list boot_max boot_tuple)
set_option maxRecDepth 100000
namespace L2
open PySem PySem.Spec PyProof.Rows
noncomputable abbrev Key:=Sum Int Str
noncomputable def Alo:Key->Value->Bool
 | .inl k,v=>Value.isInt k v
 | .inr x,v=>Value.isStrOf x v
noncomputable def Aq0 (w:World):Key->Int
 | .inl k=>hashInt k
 | .inr x=>hashStr w x
theorem Fv:∀ {k:Key}{v:Value},Alo k v=true->(∃i t,k=Sum.inl i/\v=Value.int i t)\/(∃x t,k=Sum.inr x/\v=Value.str x t)
 | .inl i,v,h=>by
   obtain⟨t,e⟩:=Value.isInt_shape (k:=i) (v:=v) h
   exact .inl ⟨i,t,rfl,e⟩
 | .inr x,v,h=>by
   obtain⟨t,e⟩:=Value.isStrOf_shape (x:=x) (v:=v) h
   exact .inr ⟨x,t,rfl,e⟩
theorem Alp (a b:Int):decide ((Sum.inl a:Key)=Sum.inl b)=(a==b):=by
 by_cases e:a=b
 . subst e;simp
 . have h:¬(Sum.inl a:Key)=Sum.inl b:=fun q=>e (Sum.inl.inj q)
   rw [decide_eq_false h]
   exact(beq_eq_false_iff_ne.mpr e).symm
theorem Als (a b:Str):decide ((Sum.inr a:Key)=Sum.inr b)=decide (a=b):=by
 by_cases e:a=b
 . subst e;simp
 . have h:¬(Sum.inr a:Key)=Sum.inr b:=fun q=>e (Sum.inr.inj q)
   rw [decide_eq_false h,decide_eq_false e]
theorem Alq (a:Int) (b:Str):decide ((Sum.inl a:Key)=Sum.inr b)=false:=decide_eq_false (fun q=>nomatch q)
theorem Alr (a:Str) (b:Int):decide ((Sum.inr a:Key)=Sum.inl b)=false:=decide_eq_false (fun q=>nomatch q)
noncomputable def Ac2 (prog:Program) (w:World):PySem.KeyKind prog w Key where
 is:=Alo
 hash:=Aq0 w
 inj:=fun v a b ha hb=>by
  rcases Fv ha with⟨i,t,rfl,rfl⟩ | ⟨x,t,rfl,rfl⟩
  . rcases Fv hb with⟨j,u,rfl,e⟩ | ⟨y,u,rfl,e⟩
    . injection e with e1 _;rw [e1]
    . exact nomatch e
  . rcases Fv hb with⟨j,u,rfl,e⟩ | ⟨y,u,rfl,e⟩
    . exact nomatch e
    . injection e with e1 _;rw [e1]
 byValue:=fun k v h=>by
  rcases Fv h with⟨i,t,rfl,rfl⟩ | ⟨x,t,rfl,rfl⟩<;>rfl
 pyHash:=fun hv h=>by
  rcases Fv hv with⟨i,t,rfl,rfl⟩ | ⟨x,t,rfl,rfl⟩
  . exact wpAny_pyHash_int h
  . exact wpAny_pyHash_str h
 eqBool:=fun hu hv h=>by
  rcases Fv hu with⟨i,t,rfl,rfl⟩ | ⟨x,t,rfl,rfl⟩
  . rcases Fv hv with⟨j,u,rfl,rfl⟩ | ⟨y,u,rfl,rfl⟩
    . rw [Alp]at h;exact wpAny_eqBool_int h
    . rw [Alq]at h;exact SeqAt.EqAt.int_str i t y u _ _ _ _ h
  . rcases Fv hv with⟨j,u,rfl,rfl⟩ | ⟨y,u,rfl,rfl⟩
    . rw [Alr]at h;exact SeqAt.EqAt.str_int x t j u _ _ _ _ h
    . rw [Als]at h;exact wpAny_eqBool_str h
 «strs» :=fun k x t v h=>by
  rcases Fv h with⟨i,u,rfl,e⟩ | ⟨y,u,rfl,e⟩
  . exact nomatch e
  . injection e with e1 _
    subst e1
    cases v<;>rfl
inductive V where
 | non | bl (b:Bool) | int (i:Int) | str (x:Str) | byt (b:Array UInt8) | flt (b:UInt64) | ref (a:Addr) | ty (n:String)
 deriving DecidableEq
noncomputable def RelV:V->Value->Prop
 | .non,u=>u=Value.none
 | .bl b,u=>u=Value.bool b
 | .int i,u=>∃t,u=Value.int i t
 | .str x,u=>∃t,u=Value.str x t
 | .byt b,u=>∃t,u=Value.bytes b t
 | .flt b,u=>∃t,u=Value.float b t
 | .ref a,u=>u=Value.ref a
 | .ty n,u=>u=Value.type n
noncomputable abbrev Vals:List V->List Value->Prop:=Paired RelV
theorem Vals.length {xs:List V}{z:List Value} (r:Vals xs z):xs.length=z.length:=Paired.length r
theorem Vals.get:∀ {xs:List V}{z:List Value}{i:Nat}{x:V},Vals xs z->xs[i]? =some x->∃u,z[i]? =some u/\RelV x u
 | _,_,_,_,.nil,e=>by simp at e
 | _,_,0,_,.cons r _,e=>by simp at e;subst e;exact⟨_,rfl,r⟩
 | _,_,i+1,x,.cons _ t,e=>by
   obtain⟨u,h1,h2⟩:=Vals.get (i:=i) (x:=x) t (by simpa using e)
   exact⟨u,by simpa using h1,h2⟩
theorem Vals.set {x:V}{u:Value} (r:RelV x u):∀ {xs:List V}{z:List Value} (i:Nat),Vals xs z->Vals (xs.set i x) (z.set i u)
 | _,_,_,.nil=> .nil
 | _,_,0,.cons _ t=> .cons r t
 | _,_,i+1,.cons q t=> .cons q (Vals.set r i t)
theorem Vals.append:∀ {xs ys:List V}{z I:List Value},Vals xs z->Vals ys I->Vals (xs++ys) (z++I)
 | _,_,_,_,.nil,s=>s
 | _,_,_,_,.cons r t,s=> .cons r (Vals.append t s)
theorem Vals.take:∀ {xs:List V}{z:List Value} (n:Nat),Vals xs z->Vals (xs.take n) (z.take n)
 | _,_,0,_=> .nil
 | _,_,_+1,.nil=> .nil
 | _,_,n+1,.cons r t=> .cons r (Vals.take n t)
theorem Vals.drop:∀ {xs:List V}{z:List Value} (n:Nat),Vals xs z->Vals (xs.drop n) (z.drop n)
 | _,_,0,r=>r
 | _,_,_+1,.nil=> .nil
 | _,_,n+1,.cons _ t=>Vals.drop n t
noncomputable def Ae8:Option V->Option Value->Prop
 | some v,some u=>RelV v u
 | none,none=>True
 | _,_=>False
noncomputable def KV {κ:Type}:List (κ × V)->List (κ × Value)->Prop:=Paired fun(p:κ × V) (q:κ × Value)=>p.1=q.1/\RelV p.2 q.2
noncomputable def kV:Key->V
 | .inl i=> .int i
 | .inr x=> .str x
inductive HO where
 | lst (xs:List V)
 | tup (xs:List V)
 | dK (kvs:List (Key × V)) | dT (kvs:List (List Key × V))
 | set (S:Int->Bool) (n:Nat)
 | ins (C dx:Addr) (fs:List (Str × V))
 | own (x:Addr)
 | xd (fs:List (Str × V))
 | met (f x:Addr)
 | rng (lo hi:Int)
 | frz (o:Obj) (u:HO)
 | tbl (ps:Array Value)
 | ext (φ:Heap->Prop)
noncomputable abbrev Hp:=Addr->Option HO
noncomputable def upd (H:Hp) (a:Addr) (o:HO):Hp:=fun b=>if b=a then some o else H b
theorem Ao {H:Hp}{a:Addr}{o:HO}:upd H a o a=some o:=by unfold upd;rw [if_pos rfl]
theorem Cu {H:Hp}{a b:Addr}{o:HO} (h:b≠a):upd H a o b=H b:=by unfold upd;rw [if_neg h]
theorem Afw {H:Hp}{a b:Addr}{o u:HO} (h:H a=some o) (h':H b=some u) (d:o≠u):a≠b:=by
 intro e;subst e;rw [h]at h';exact d (Option.some.inj h')
theorem Dk {H:Hp}{a b:Addr}{o:HO} (h:H a=some o) (h':H b=none):a≠b:=by
 intro e;subst e;rw [h]at h';cases h'
section
variable (P:Program) (w:World)
noncomputable def Jc (H:Hp) (h:Heap) (a:Addr):HO->Prop
 | .lst xs=>xs.length<=sizeLine/\∃(its:List Value) (n:Nat),Vals xs its/\h.get? a=some { cls:= .type "list",data:= .seq its.toArray n}
 | .tup xs=>xs.length<=sizeLine/\∃its:List Value,Vals xs its/\IsTup h a its.toArray
 | .dK kvs=>kvs.length<=sizeLine/\(a==sysModules)=false/\∃vs,KV kvs vs/\h.DictOf (Ac2 P w) a vs
 | .dT kvs=>kvs.length<=sizeLine/\(a==sysModules)=false/\∃xs:List (List Key × Addr × Value),
    Paired (fun(p:List Key × V) (q:List Key × Addr × Value)=>p.1=q.1/\H q.2.1=some (.tup (p.1.map kV))/\RelV p.2 q.2.2) kvs xs/\
    ∃o es ep,h.get? a=some o/\o.ExactDict/\o.data= .dict es ep/\es.toList=xs.map (entryOfKey (tupleKind (Ac2 P w)))/\(xs.map (·.1)).Nodup
 | .set S n=>h.SetOf (intKind P w) a S n
 | .ins C dx fs=>H dx=some (.own a)/\fs.length<=1000/\dx≠a/\h.get? a=some (instObj C dx)/\
    ∃mA,h.Ns1 dx mA/\(∀f,Ae8 (fs.lookup f) (mA f))/\PySem.Within mA (fs.map (·.1))
 | .own _=>∃o,h.get? a=some o
 | .xd fs=>∃mA,h.Ns1 a mA/\∀f,Ae8 (fs.lookup f) (mA f)
 | .rng lo hi=>∃t u v,h.get? a=some { cls:= .type "range",data:= .fields #[.int lo t,.int hi u,.int 1 v]}
 | .frz o u=>h.get? a=some o/\Jc H h a u
 | .tbl ps=>h.get? a=some { cls:= .none,data:= .fields ps}
 | .met f x=>h.get? a=some (methodObj (.ref f) (.ref x))
 | .ext φ=>φ h/\(∃o,h.get? a=some o)/\∀h1 h2:Heap,φ h1->(∀o,h1.get? a=some o->h2.get? a=some o)->φ h2
noncomputable def HOk (H:Hp) (h:Heap):Prop:=∀a o,H a=some o->Jc P w H h a o
end
section
variable {P:Program}{w:World}{H H':Hp}{h h':Heap}{a:Addr}{o:HO}
theorem Jc.lt (x:Jc P w H h a o):a<h.objs.size:=by
 cases o with
 | lst xs=>obtain⟨_,_,_,_,e⟩:=x;exact Heap.lt_size e
 | tup xs=>obtain⟨_,_,_,p⟩:=x;exact p.lt
 | dK z=>obtain⟨_,_,_,_,o,_,_,e,_⟩:=x;exact Heap.lt_size e
 | dT z=>obtain⟨_,_,_,_,o,_,_,e,_⟩:=x;exact Heap.lt_size e
 | set S n=>obtain⟨o,_,_,_,e,_⟩:=x;exact Heap.lt_size e
 | ins C dx fs=>obtain⟨_,_,_,e,_⟩:=x;exact Heap.lt_size e
 | own y=>obtain⟨_,e⟩:=x;exact Heap.lt_size e
 | xd fs=>obtain⟨_,⟨_,_,_,e,_⟩,_⟩:=x;exact Heap.lt_size e
 | rng lo hi=>obtain⟨_,_,_,e⟩:=x;exact Heap.lt_size e
 | frz I u=>obtain⟨e,_⟩:=x;exact Heap.lt_size e
 | tbl ps=>exact Heap.lt_size (show h.get? a=some _ from x)
 | met f y=>exact Heap.lt_size (show h.get? a=some _ from x)
 | ext J=>obtain⟨_,⟨_,e⟩,_⟩:=x;exact Heap.lt_size e
theorem Paired.mapP {α J:Type}{F G:α->J->Prop}:∀ {z:List α}{I:List J},Paired F z I->(∀a b,F a b->G a b)->Paired G z I
 | _,_,.nil,_=> .nil
 | _,_,.cons r t,f=> .cons (f _ _ r) (Paired.mapP t f)
theorem Jc.stay (x:Jc P w H h a o) (k:∀b u,(b=a\/H b=some (.own a))->h.get? b=some u->h'.get? b=some u)
 (Z:∀b,H b=some (.own a)->H' b=some (.own a)) (ht:∀b xs,H b=some (.tup xs)->H' b=some (.tup xs)):Jc P w H' h' a o:=by
 induction o with
 | lst xs=>obtain⟨z,M,n,r,e⟩:=x;exact⟨z,M,n,r,k _ _ (.inl rfl) e⟩
 | tup xs=>obtain⟨z,M,r,I,e,c⟩:=x;exact⟨z,M,r,I,k _ _ (.inl rfl) e,c⟩
 | dK O=>obtain⟨z,y,vs,r,I,es,J,e,c⟩:=x;exact⟨z,y,vs,r,I,es,J,k _ _ (.inl rfl) e,c⟩
 | dT O=>
   obtain⟨z,y,xs,r,I,es,J,e,c⟩:=x
   exact⟨z,y,xs,Paired.mapP r fun p q z=>⟨z.1,ht _ _ z.2.1,z.2.2⟩,I,es,J,k _ _ (.inl rfl) e,c⟩
 | set S n=>obtain⟨I,es,J,t,e,c⟩:=x;exact⟨I,es,J,t,k _ _ (.inl rfl) e,c⟩
 | ins C dx fs=>
   obtain⟨d,z,ne,e,U,⟨Y,es,J,e2,c⟩,r⟩:=x
   exact⟨Z _ d,z,ne,k _ _ (.inl rfl) e,U,⟨Y,es,J,k _ _ (.inr d) e2,c⟩,r⟩
 | own y=>obtain⟨I,e⟩:=x;exact⟨I,k _ _ (.inl rfl) e⟩
 | xd fs=>obtain⟨U,⟨Y,es,J,e,c⟩,r⟩:=x;exact⟨U,⟨Y,es,J,k _ _ (.inl rfl) e,c⟩,r⟩
 | rng lo hi=>obtain⟨t,u,v,e⟩:=x;exact⟨t,u,v,k _ _ (.inl rfl) e⟩
 | frz I u ih=>obtain⟨e,q⟩:=x;exact⟨k _ _ (.inl rfl) e,ih q⟩
 | tbl ps=>
   have e:h.get? a=some { cls:= .none,data:= .fields ps}:=x
   show h'.get? a=some { cls:= .none,data:= .fields ps}
   exact k a _ (.inl rfl) e
 | met f y=>
   have e:h.get? a=some (methodObj (.ref f) (.ref y)):=x
   show h'.get? a=some (methodObj (.ref f) (.ref y))
   exact k a _ (.inl rfl) e
 | ext φ=>obtain⟨p,⟨o,e⟩,st⟩:=x;exact⟨st _ _ p fun o q=>k _ _ (.inl rfl) q,⟨o,k _ _ (.inl rfl) e⟩,st⟩
theorem HOk.lt (x:HOk P w H h) (e:H a=some o):a<h.objs.size:=(x a o e).lt
theorem HOk.fresh (x:HOk P w H h) (e:h.objs.size<=a):H a=none:=by
 cases q:H a with
 | none=>rfl
 | some u=>exact absurd (lt_of_lt_of_le (x.lt q) e) (lt_irrefl _)
theorem HOk.kept (x:HOk P w H h) (k:∀b u,h.get? b=some u->h'.get? b=some u):HOk P w H h':=fun a o e=>
 (x a o e).stay (fun b u _ q=>k b u q) (fun _ q=>q) fun _ _ q=>q
theorem HOk.laid (x:HOk P w H h) (k:∀b u,h.get? b=some u->h'.get? b=some u) (M:h.objs.size<=a) (z:Jc P w (upd H a o) h' a o):HOk P w (upd H a o) h':=fun b u e=>by
 have I:=x.fresh M
 by_cases J:b=a
 . subst J;rw [Ao]at e;cases e;exact z
 . rw [Cu J]at e
   exact(x b u e).stay (fun c v _ q=>k c v q) (fun c q=>by rw [Cu (Dk q I)];exact q) fun c xs q=>by rw [Cu (Dk q I)];exact q
end
noncomputable def Rd (H:Hp) (a:Addr) (u:HO):Prop:=H a=some u\/∃o,H a=some (.frz o u)
theorem Rd.ok {P:Program}{w:World}{H:Hp}{h:Heap}{a:Addr}{u:HO} (r:Rd H a u) (x:HOk P w H h):Jc P w H h a u:=by
 rcases r with r | ⟨o,r⟩
 . exact x a u r
 . obtain⟨_,q⟩:=x a _ r
   exact q
noncomputable def Mut:Option HO->Prop
 | some (.lst _)=>True
 | some (.dK _)=>True
 | some (.dT _)=>True
 | some (.set _ _)=>True
 | some (.ins _ _ _)=>True
 | some (.ext _)=>True
 | _=>False
section
variable {P:Program}{w:World}{H:Hp}{h h':Heap}{x e:Addr}{o':HO}
theorem HOk.write (ok:HOk P w H h) (mu:Mut (H x)) (Y:e=x\/H e=some (.own x)) (k:∀b u,b≠e->h.get? b=some u->h'.get? b=some u) (U:∃u,h'.get? e=some u)
 (W:Jc P w (upd H x o') h' x o'):HOk P w (upd H x o') h':=fun b u q=>by
 have J:∀c y,H c=some (.own y)->c≠x:=fun c y r z=>by subst z;rw [r]at mu;exact mu
 have M:∀c xs,H c=some (.tup xs)->c≠x:=fun c xs r z=>by subst z;rw [r]at mu;exact mu
 by_cases O:b=x
 . subst O;rw [Ao]at q;cases q;exact W
 . rw [Cu O]at q
   by_cases I:b=e
   . have Z:H b=some (.own x):=by
      rcases Y with z | z
      . exact absurd (I.trans z) O
      . rw [I];exact z
     rw [q]at Z;cases Z
     obtain⟨v,hv⟩:=U
     exact⟨v,by rw [I];exact hv⟩
   . refine(ok b u q).stay (fun c v S r=>k c v ?_ r) (fun c r=>by rw [Cu (J c b r)];exact r) fun c xs r=>by rw [Cu (M c xs r)];exact r
     rcases S with rfl | S
     . exact I
     . rintro rfl
       rcases Y with z | z
       . exact J c b S z
       . rw [S]at z;cases z;exact O rfl
end
structure Un (fs ex:List Addr) (H H':Hp) (h h':Heap):Prop where
 keep:∀b o,h.get? b=some o->H b=none->b∉fs->b∉ex->h'.get? b=some o
 slot:∀b o,h.get? b=some o->H b=none->b∈fs->b∉ex->∃sl,h'.get? b=some { o with slots:=sl}
 free:∀b o,h.get? b=some o->H b=none->b∉ex->H' b=none
 there:∀b o,h.get? b=some o->b∉ex->∃o',h'.get? b=some o'
 tups:∀b xs,H b=some (.tup xs)->H' b=some (.tup xs)
 frzs:∀b o u,H b=some (.frz o u)->H' b=some (.frz o u)
 tbls:∀b ps,H b=some (.tbl ps)->∃more,H' b=some (.tbl (ps++more))
section
variable {fs fs' ex ex':List Addr}{H H1 H2:Hp}{h h1 h2 h':Heap}{a x e:Addr}{o:HO}
theorem Un.any (u:Un fs ex H H1 h h1) {b:Addr}{z:Obj} (q:h.get? b=some z) (n:H b=none) (I:b∉ex):∃M,h1.get? b=some { z with slots:=M}:=by
 by_cases J:b∈fs
 . exact u.slot b z q n J I
 . exact⟨z.slots,u.keep b z q n J I⟩
theorem Un.trans (a:Un fs ex H H1 h h1) (b:Un fs ex H1 H2 h1 h2):Un fs ex H H2 h h2 where
 keep:=fun c z q n M I=>b.keep c z (a.keep c z q n M I) (a.free c z q n I) M I
 slot:=fun c z q n M I=>by
  obtain⟨Y,J⟩:=a.slot c z q n M I
  obtain⟨O,S⟩:=b.slot c _ J (a.free c z q n I) M I
  exact⟨O,S⟩
 free:=fun c z q n I=>by
  obtain⟨o',J⟩:=a.there c z q I
  exact b.free c o' J (a.free c z q n I) I
 there:=fun c z q I=>by
  obtain⟨o',J⟩:=a.there c z q I
  exact b.there c o' J I
 tups:=fun c xs q=>b.tups c xs (a.tups c xs q)
 frzs:=fun c z xs q=>b.frzs c z xs (a.frzs c z xs q)
 tbls:=fun c ps q=>by
  obtain⟨U,J⟩:=a.tbls c ps q
  obtain⟨W,S⟩:=b.tbls c _ J
  exact⟨U++W,by rw [S,Array.append_assoc]⟩
theorem Un.kept (k:∀b u,h.get? b=some u->h'.get? b=some u):Un fs ex H H h h':=
 ⟨fun b z q _ _ _=>k b z q,fun b z q _ _ _=>⟨z.slots,k b z q⟩,fun _ _ _ n _=>n,fun b z q _=>⟨z,k b z q⟩,fun _ _ q=>q,fun _ _ _ q=>q,fun _ ps q=>⟨#[],by rw [q];simp⟩⟩
theorem Un.refl:Un fs ex H H h h:=Un.kept fun _ _ q=>q
theorem Un.laid (k:∀b u,h.get? b=some u->h'.get? b=some u) (I:h.objs.size<=a) (z:H a=none):Un fs ex H (upd H a o) h h' where
 keep:=fun b u q _ _ _=>k b u q
 slot:=fun b u q _ _ _=>⟨u.slots,k b u q⟩
 free:=fun b u q n _=>by rw [Cu (ne_of_lt (lt_of_lt_of_le (Heap.lt_size q) I))];exact n
 there:=fun b u q _=>⟨u,k b u q⟩
 tups:=fun b xs q=>by rw [Cu (Dk q z)];exact q
 frzs:=fun b u xs q=>by rw [Cu (Dk q z)];exact q
 tbls:=fun b ps q=>⟨#[],by rw [Cu (Dk q z),q];simp⟩
theorem Un.write (mu:Mut (H x)) (U:e=x\/H e=some (.own x)) (k:∀b u,b≠e->h.get? b=some u->h'.get? b=some u) (J:∃u,h'.get? e=some u):Un fs ex H (upd H x o) h h':=by
 have O:∀b,H b=none->b≠x:=fun b n z=>by subst z;rw [n]at mu;exact mu
 have S:∀b,H b=none->b≠e:=fun b n z=>by
  subst z
  rcases U with r | r
  . exact O b n r
  . rw [n]at r;cases r
 have M:∀b u,H b=some u->¬Mut (some u)->b≠x:=fun b u q nm z=>by subst z;rw [q]at mu;exact nm mu
 refine⟨fun b u q n _ _=>k b u (S b n) q,fun b u q n _ _=>⟨u.slots,k b u (S b n) q⟩,fun b u q n _=>by rw [Cu (O b n)];exact n,fun b u q _=> ?_,
  fun b xs q=>by rw [Cu (M b _ q fun z=>z)];exact q,fun b u xs q=>by rw [Cu (M b _ q fun z=>z)];exact q,fun b ps q=>⟨#[],by rw [Cu (M b _ q fun z=>z),q];simp⟩⟩
 by_cases I:b=e
 . subst I;exact J
 . exact⟨u,k b u I q⟩
end
noncomputable def trk (h:Heap) (H:Hp):List Addr:=(List.range h.objs.size).filter fun a=>(H a).isSome
noncomputable def Abj (h:Heap) (H:Hp):Heap:=hideAll h (trk h H)
theorem Acp (h:Heap) (H:Hp):(Abj h H).objs.size=h.objs.size:=PySem.W.hideAll_size _ _
theorem Zf {h:Heap}{H:Hp}{b:Addr}{o:Obj} (e:h.get? b=some o) (n:H b=none):(Abj h H).get? b=some o:=
 hideAll_get _ e fun z=>by
  have q:(H b).isSome=true:=(mem_filter.mp z).2
  rw [n]at q;simp at q
theorem Ajc {h:Heap}{H:Hp}{b:Addr}{o:Obj} (e:(Abj h H).get? b=some o):h.get? b=some o/\H b=none:=by
 have I:h.get? b=some o:=of_hideAll (trk h H) e
 refine⟨I,?_⟩
 cases q:H b with
 | none=>rfl
 | some x=>
   have J:b∈trk h H:=mem_filter.mpr ⟨mem_range.mpr (Heap.lt_size I),by simp [q]⟩
   have z:(Abj h H).get? b=none:=PySem.W.hideAll_none (trk h H) J
   rw [z]at e;cases e
noncomputable def Aii (g h:Heap) (L:Addr):List (Addr × Obj):=(List.range h.objs.size).filterMap fun a=>if a=L\/(g.get? a).isSome=true then none else(h.get? a).map fun o=>(a,o)
noncomputable def rest (g h:Heap) (L d:Addr):List (Addr × Obj):=(Aii g h L).filter fun p=>decide (p.1≠d)
structure Mod (K:Frag) (mg:Str->Option Value) (base:Heap):Prop where
 kin:K.In base
 glob:base.Ns mainGlobals mg
 blt:∃mb,base.Ns builtinsNs mb/\∀x:Str,x≠"__name__"->mb x=bootBuiltins x
 nolimit:base.NoLimit
structure Cx where
 prog:Program
 w:World
 K:Frag
 mg:Str->Option Value
 base:Heap
 A:Around
 N:List Str
 s₀:Shared
 H₀:Hp
 env:Env
 outer:List Env
 stack:List Env
 ex:List Addr
 fn:Str->Bool
 calm:Bool
 pn:List (Addr × Obj)
 xe:Value->Shared->Prop
noncomputable def frs (l:List Env):List Addr:=l.filterMap (·.frame)
noncomputable abbrev Cx.fs (X:Cx):List Addr:=frs X.outer
noncomputable def Vis (sc:Scope) (x:Str):Prop:=sc.names.lookup x=some .local \/sc.names.lookup x=some .cell\/sc.names.lookup x=some .free
noncomputable def Loc (sc:Scope) (x:Str):Prop:=sc.names.lookup x=some .local \/sc.names.lookup x=some .cell
noncomputable def Look (env:Env) (h:Heap) (m:Str->Option Value) (x:Str) (u:Value):Prop:=
 (env.kindOf x=some .local /\m x=some u)\/((env.kindOf x=some .cell\/env.kindOf x=some .free)/\∃c,env.cells.lookup x=some c/\h.IsCell c (some u))
structure Cx.Ok (X:Cx):Prop where
 mod:Mod X.K X.mg X.base
 kind:X.env.scope.kind= .function
 glob:X.env.globals=mainGlobals
 blt:X.env.builtins=builtinsNs
 above:X.s₀.heap.objs.size<=X.env.locals
 inj:∀x y c,X.env.cells.lookup x=some c->X.env.cells.lookup y=some c->x=y
 has:∀x,(X.env.kindOf x=some .cell\/X.env.kindOf x=some .free)->∃c,X.env.cells.lookup x=some c
 cab:∀x c,X.fn x=true->X.env.cells.lookup x=some c->X.s₀.heap.objs.size<=c
 hd:X.calm=true->X.A.handled=none
 frames:X.A.frames=some X.stack
 stk:X.stack=X.outer\/(X.stack=X.env::X.outer/\X.env.frame=some X.env.locals)
 exf:∀b∈X.ex,b≠X.env.locals/\∀x c,X.env.cells.lookup x=some c->c≠b
 bs:∀b o,X.base.get? b=some o->X.s₀.heap.get? b=some o/\X.H₀ b=none
 bsz:X.base.objs.size<=X.s₀.heap.objs.size
 noex:∀b o,X.base.get? b=some o->b∉X.ex
 exfs:∀b∈X.ex,b∉X.fs
 funs:X.s₀.heap.FunFrames X.base X.outer
 frf:∀b∈X.fs,X.H₀ b=none
structure Inv (X:Cx) (pins:List (Addr × Obj)) (σ:List (Option V)) (H:Hp) (s:Shared):Prop where
 ok:X.Ok
 os:s.os=X.s₀.os
 bare:AllBare s.gens
 base:Un X.fs X.ex X.H₀ H X.s₀.heap s.heap
 loc:∃m,s.heap.Ns X.env.locals m/\∀(i:Nat) (x:Str) (v:V),X.N[i]? =some x->σ[i]? =some (some v)->Vis X.env.scope x->∃u,RelV v u/\Look X.env s.heap m x u
 cell:∀x c,X.env.cells.lookup x=some c->∃v,s.heap.IsCell c v
 free:H X.env.locals=none
 freeC:∀x c,X.env.cells.lookup x=some c->H c=none
 pin:∀p∈X.pn++pins,s.heap.get? p.1=some p.2/\H p.1=none/\p.1≠X.env.locals/\p.1∉X.fs/\∀v,p.2.data≠ .cell v
 hok:HOk X.prog X.w H s.heap
 len:σ.length=X.N.length
section
variable {X:Cx}{pins:List (Addr × Obj)}{σ:List (Option V)}{H H':Hp}{s:Shared}{h':Heap}
theorem Cx.Ok.nofr (ok:X.Ok) {b:Addr}{o:Obj} (e:X.base.get? b=some o):b∉X.fs:=fun z=>by
 have:=(ok.funs.mem z).1
 rw [e]at this;cases this
theorem Inv.bs (I:Inv X pins σ H s):∀b o,X.base.get? b=some o->s.heap.get? b=some o/\H b=none:=fun b o e=>
 ⟨I.base.keep b o (I.ok.bs b o e).1 (I.ok.bs b o e).2 (I.ok.nofr e) (I.ok.noex b o e),I.base.free b o (I.ok.bs b o e).1 (I.ok.bs b o e).2 (I.ok.noex b o e)⟩
theorem Inv.bk (I:Inv X pins σ H s):∀b o,X.base.get? b=some o->s.heap.get? b=some o:=fun b o e=>(I.bs b o e).1
theorem Inv.mod (I:Inv X pins σ H s):Mod X.K X.mg X.base:=I.ok.mod
theorem Inv.kIn (I:Inv X pins σ H s):X.K.In s.heap:=I.ok.mod.kin.keeps I.bk
theorem Inv.nolimit (I:Inv X pins σ H s):s.heap.NoLimit:=I.ok.mod.nolimit.keeps I.bk
theorem Inv.lt (I:Inv X pins σ H s):X.env.locals<s.heap.objs.size:=let ⟨_,hn,_⟩:=I.loc;hn.lt
theorem Inv.sz (I:Inv X pins σ H s):X.s₀.heap.objs.size<=s.heap.objs.size:=le_trans I.ok.above (le_of_lt I.lt)
theorem Inv.nofs (I:Inv X pins σ H s) {a:Addr} (h:s.heap.objs.size<=a):a∉X.fs:=fun z=>by
 obtain⟨_,o,J,_⟩:=I.ok.funs.mem z
 exact absurd (lt_of_lt_of_le (Heap.lt_size J) (le_trans I.sz h)) (lt_irrefl _)
theorem Inv.cne (I:Inv X pins σ H s):∀x c,X.env.cells.lookup x=some c->c≠X.env.locals:=fun x c e z=>by
 obtain⟨v,o,O,S⟩:=I.cell x c e
 obtain⟨m,⟨o',es,U,J,M,_⟩,_⟩:=I.loc
 rw [z,J]at O;cases O;rw [M]at S;cases S
theorem Inv.funs (I:Inv X pins σ H s):s.heap.FunFrames X.base X.outer:=by
 have all:∀(l:List Env),(∀b∈frs l,b∈X.fs)->X.s₀.heap.FunFrames X.base l->s.heap.FunFrames X.base l:=by
  intro l
  induction l with
  | nil=>intro _ _;trivial
  | cons env r U=>
    intro S W
    obtain⟨Y,⟨L,o,J,Z,ho,hd⟩,hr⟩:=W
    have M:L∈X.fs:=S L (by unfold frs;rw [List.filterMap_cons,J];exact mem_cons_self)
    obtain⟨sl,e⟩:=I.base.slot L o ho (I.ok.frf L M) M fun z=>I.ok.exfs L z M
    exact⟨Y,⟨L,_,J,Z,e,hd⟩,U (fun b O=>S b (by unfold frs;rw [List.filterMap_cons,J];exact mem_cons_of_mem _ O)) hr⟩
 exact all X.outer (fun _ O=>O) I.ok.funs
theorem Inv.stack (I:Inv X pins σ H s):s.heap.FunFrames X.base X.stack:=by
 rcases I.ok.stk with e | ⟨e,z⟩
 . rw [e];exact I.funs
 . rw [e]
   obtain⟨m,J,_⟩:=I.loc
   refine .cons (by rw [I.ok.kind];decide) z J ?_ I.funs
   exact Heap.get?_none_of_le (le_trans I.ok.bsz I.ok.above)
theorem Inv.stkSub (I:Inv X pins σ H s):∀b∈frs X.stack,b∈X.env.locals::X.fs:=fun b z=>by
 rcases I.ok.stk with e | ⟨e,J⟩
 . rw [e]at z;exact mem_cons_of_mem _ z
 . rw [e]at z
   unfold frs at z
   rw [List.filterMap_cons,J]at z
   exact z
theorem Inv.stkFree (I:Inv X pins σ H s):∀b∈frs X.stack,H b=none:=fun b J=>by
 rcases mem_cons.mp (I.stkSub b J)with e | J
 . rw [e];exact I.free
 . obtain⟨_,o,M,_⟩:=I.ok.funs.mem J
   exact I.base.free b o M (I.ok.frf b J) fun z=>I.ok.exfs b z J
theorem Inv.step {g':Array GenState}{t':Nat}{d':Drawn}{ch:List Addr} (I:Inv X pins σ H s)
 (M:∀b∈ch,(b∈X.ex\/X.s₀.heap.objs.size<=b)/\b≠X.env.locals/\(∀x c,X.env.cells.lookup x=some c->c≠b)/\∀p∈X.pn++pins,p.1≠b)
 (O:∀b o,b≠X.env.locals->b∉X.fs->b∉ch->s.heap.get? b=some o->H b=none->h'.get? b=some o)
 (Y:∀b o,b≠X.env.locals->b∈X.fs->b∉ch->s.heap.get? b=some o->H b=none->∃sl,h'.get? b=some { o with slots:=sl}) (free:∀b o,b∉ch->s.heap.get? b=some o->H b=none->H' b=none)
 (there:∀b o,b∉ch->s.heap.get? b=some o->∃o',h'.get? b=some o')
 (a0:∀b xs,H b=some (.tup xs)->H' b=some (.tup xs)) (a1:∀b o u,H b=some (.frz o u)->H' b=some (.frz o u)) (a2:∀b ps,H b=some (.tbl ps)->∃a3,H' b=some (.tbl (ps++a3)))
 (ns:∀m,s.heap.Ns X.env.locals m->h'.Ns X.env.locals m) (a5:HOk X.prog X.w H' h') (hg:AllBare g'):
 Inv X pins σ H' { s with heap:=h',gens:=g',drawn:=d',toks:=t'}:=by
 have a4:∀b o,X.s₀.heap.get? b=some o->b≠X.env.locals:=fun b o e=>ne_of_lt (lt_of_lt_of_le (Heap.lt_size e) I.ok.above)
 have U:∀b o,X.s₀.heap.get? b=some o->b∉X.ex->b∉ch:=fun b o e J Z=>by
  rcases(M b Z).1 with z | z
  . exact J z
  . exact absurd (lt_of_lt_of_le (Heap.lt_size e) z) (lt_irrefl _)
 have cellK:∀x c,X.env.cells.lookup x=some c->∀v,s.heap.IsCell c v->h'.IsCell c v:=fun x c e v ⟨o,ho,hd⟩=>by
  have S:c∉ch:=fun z=>(M c z).2.2.1 x c e rfl
  by_cases hc:c∈X.fs
  . obtain⟨sl,q⟩:=Y c o (I.cne x c e) hc S ho (I.freeC x c e)
    exact⟨_,q,hd⟩
  . exact⟨o,O c o (I.cne x c e) hc S ho (I.freeC x c e),hd⟩
 refine⟨I.ok,I.os,hg,⟨fun b o e n Z J=> ?_,fun b o e n Z J=> ?_,fun b o e n J=> ?_,fun b o e J=> ?_,fun b xs e=>a0 b xs (I.base.tups b xs e),fun b o xs e=>a1 b o xs (I.base.frzs b o xs e),fun b ps e=> ?_⟩,?_,fun x c e=> ?_,?_,fun x c e=> ?_,fun p hp=> ?_,a5,I.len⟩
 . exact O b o (a4 b o e) Z (U b o e J) (I.base.keep b o e n Z J) (I.base.free b o e n J)
 . obtain⟨sl,W⟩:=I.base.slot b o e n Z J
   obtain⟨a6,e2⟩:=Y b _ (a4 b o e) Z (U b o e J) W (I.base.free b o e n J)
   exact⟨a6,e2⟩
 . obtain⟨o',W⟩:=I.base.there b o e J
   exact free b o' (U b o e J) W (I.base.free b o e n J)
 . obtain⟨o',W⟩:=I.base.there b o e J
   exact there b o' (U b o e J) W
 . obtain⟨m1,W⟩:=I.base.tbls b ps e
   obtain⟨m2,e2⟩:=a2 b _ W
   exact⟨m1++m2,by rw [e2,Array.append_assoc]⟩
 . obtain⟨m,hn,hl⟩:=I.loc
   refine⟨m,ns m hn,fun i x v W e2 e3=> ?_⟩
   obtain⟨u,r,l⟩:=hl i x v W e2 e3
   refine⟨u,r,?_⟩
   rcases l with l | ⟨k,c,e,z⟩
   . exact .inl l
   . exact .inr ⟨k,c,e,cellK x c e _ z⟩
 . obtain⟨v,z⟩:=I.cell x c e
   exact⟨v,cellK x c e v z⟩
 . obtain⟨m,⟨o,_,_,ho,_⟩,_⟩:=I.loc
   exact free _ o (fun z=>(M _ z).2.1 rfl) ho I.free
 . obtain⟨v,o,ho,hd⟩:=I.cell x c e
   exact free c o (fun z=>(M c z).2.2.1 x c e rfl) ho (I.freeC x c e)
 . obtain⟨e,n,ne,nf,d⟩:=I.pin p hp
   have S:p.1∉ch:=fun z=>(M p.1 z).2.2.2 p hp rfl
   exact⟨O p.1 p.2 ne nf S e n,free p.1 p.2 S e n,ne,nf,d⟩
theorem Inv.un {t':Nat} (I:Inv X pins σ H s) (u:Un X.fs [] H H' s.heap h') (M:HOk X.prog X.w H' h'):Inv X pins σ H' { s with heap:=h',toks:=t'}:=by
 obtain⟨m,⟨o,es,ep,W,r⟩,_⟩:=id I.loc
 obtain⟨sl,Y⟩:=u.any W I.free (by simp)
 exact I.step (g':=s.gens) (d':=s.drawn) (ch:=[]) (fun _ z=>nomatch z) (fun b o _ O _ e n=>u.keep b o e n O (by simp)) (fun b o _ O _ e n=>u.slot b o e n O (by simp)) (fun b o _ e n=>u.free b o e n (by simp)) (fun b o _ e=>u.there b o e (by simp)) u.tups u.frzs u.tbls (fun m' Z=>by
  obtain⟨o',S,U,J,r'⟩:=Z
  rw [W]at J;cases J
  exact⟨_,S,U,Y,r'⟩) M I.bare
theorem Inv.call {g':Array GenState}{t':Nat}{d':Drawn}{ch:List Addr} (I:Inv X pins σ H s) (u:Un (frs X.stack) ch H H' s.heap h') (S:HOk X.prog X.w H' h') (hg:AllBare g')
 (M:∀b∈ch,(b∈X.ex\/X.s₀.heap.objs.size<=b)/\b≠X.env.locals/\(∀x c,X.env.cells.lookup x=some c->c≠b)/\∀p∈X.pn++pins,p.1≠b):
 Inv X pins σ H' { s with heap:=h',gens:=g',drawn:=d',toks:=t'}:=by
 obtain⟨m,⟨o,es,ep,Z,r⟩,_⟩:=id I.loc
 obtain⟨sl,U⟩:=u.any Z I.free fun z=>(M _ z).2.1 rfl
 exact I.step (ch:=ch) M (fun b o U hb J e n=>u.keep b o e n (fun z=>(mem_cons.mp (I.stkSub b z)).elim U hb) J) (fun b o _ _ J e n=>u.any e n J) (fun b o J e n=>u.free b o e n J) (fun b o J e=>u.there b o e J) u.tups u.frzs u.tbls (fun m' hm=>by
  obtain⟨o',W,Y,O,r'⟩:=hm
  rw [Z]at O;cases O
  exact⟨_,W,Y,U,r'⟩) S hg
theorem Inv.turned {t':Nat}{J:Addr} (I:Inv X pins σ H s) (k:∀b o,b≠J->s.heap.get? b=some o->h'.get? b=some o) (U:H J=none) (S:J≠X.env.locals)
 (h1:J∈X.ex\/X.s₀.heap.objs.size<=J) (h2:∀x c,X.env.cells.lookup x=some c->c≠J) (W:∀p∈X.pn++pins,p.1≠J):Inv X pins σ H { s with heap:=h',toks:=t'}:=by
 have O:∀b u,H b=some u->b≠J:=fun b u e z=>by rw [z,U]at e;cases e
 refine I.step (g':=s.gens) (d':=s.drawn) (ch:=[J]) (fun b Y=> ?_) (fun b o _ _ M e _=>k b o (fun z=>M (by simp [z])) e) (fun b o _ _ M e _=>⟨o.slots,k b o (fun z=>M (by simp [z])) e⟩) (fun _ _ _ _ n=>n)
  (fun b o M e=>⟨o,k b o (fun z=>M (by simp [z])) e⟩) (fun _ _ e=>e) (fun _ _ _ e=>e) (fun b ps e=>⟨#[],by rw [e];simp⟩) (fun m Z=> ?_) (fun b u e=> ?_) I.bare
 . have e:b=J:=by simpa using Y
   subst e
   exact⟨h1,S,h2,W⟩
 . obtain⟨o,es,ep,ho,r⟩:=Z
   exact⟨o,es,ep,k _ o (Ne.symm S) ho,r⟩
 . refine(I.hok b u e).stay (fun c v M q=>k c v ?_ q) (fun _ q=>q) fun _ _ q=>q
   rcases M with z | z
   . rw [z];exact O b u e
   . exact O c _ z
theorem Inv.tok (I:Inv X pins σ H s) (t:Nat):Inv X pins σ H { s with toks:=t}:=I.un (h':=s.heap) (t':=t) Un.refl I.hok
theorem Inv.kept {t':Nat} (I:Inv X pins σ H s) (k:∀b u,s.heap.get? b=some u->h'.get? b=some u):Inv X pins σ H { s with heap:=h',toks:=t'}:=I.un (Un.kept k) (I.hok.kept k)
theorem Inv.laid {a:Addr}{o:HO}{t':Nat} (I:Inv X pins σ H s) (k:∀b u,s.heap.get? b=some u->h'.get? b=some u) (z:s.heap.objs.size<=a) (J:Jc X.prog X.w (upd H a o) h' a o):
 Inv X pins σ (upd H a o) { s with heap:=h',toks:=t'}:=I.un (Un.laid k z (I.hok.fresh z)) (I.hok.laid k z J)
theorem Inv.write {x e:Addr}{o:HO}{t':Nat} (I:Inv X pins σ H s) (mu:Mut (H x)) (M:e=x\/H e=some (.own x)) (k:∀b u,b≠e->s.heap.get? b=some u->h'.get? b=some u) (z:∃u,h'.get? e=some u)
 (J:Jc X.prog X.w (upd H x o) h' x o):Inv X pins σ (upd H x o) { s with heap:=h',toks:=t'}:=I.un (Un.write mu M k z) (I.hok.write mu M k z J)
theorem Inv.pins_of {J:List (Addr × Obj)} (I:Inv X pins σ H s) (h:∀p∈J,s.heap.get? p.1=some p.2/\H p.1=none/\p.1≠X.env.locals/\p.1∉X.fs/\∀v,p.2.data≠ .cell v):Inv X J σ H s:=
 ⟨I.ok,I.os,I.bare,I.base,I.loc,I.cell,I.free,I.freeC,fun p M=>(mem_append.mp M).elim (fun z=>I.pin p (List.mem_append_left _ z)) (h p),I.hok,I.len⟩
theorem Zj {N:List Str} (z:N.Nodup) {i j:Nat}{x:Str} (a:N[i]? =some x) (b:N[j]? =some x):i=j:=by
 obtain⟨h1,I⟩:=List.getElem?_eq_some_iff.mp a
 obtain⟨h2,J⟩:=List.getElem?_eq_some_iff.mp b
 exact(List.getElem_inj z).mp (I.trans J.symm)
theorem Aep {M:Model}{A:Around}{E:Value->Shared->Prop}{i:Nat}{x:Str}{v:V}{u:Value}{Q:Unit->Shared->Prop} (I:Inv X pins σ H s) (hN:X.N.Nodup) (hi:X.N[i]? =some x) (U:Loc X.env.scope x) (r:RelV v u)
 (h:∀s',Inv X pins (σ.set i (some v)) H s'->(∃a,Heap.SameBut a s.heap s'.heap/\(a=X.env.locals\/X.env.cells.lookup x=some a))->Q () s') (hf:X.fn x=true\/X.env.scope.names.lookup x=some .local :=by first | exact .inl rfl | exact .inr rfl | assumption):wpAny M A (storeName X.env x u) Q E s:=by
 obtain⟨m,hn,hl⟩:=id I.loc
 have a1:(X.env.scope.kind== .class||(X.env.scope.kind== .module&&X.env.locals != X.env.globals))=false:=by rw [I.ok.kind];rfl
 have Z:i<σ.length:=by rw [I.len];exact(List.getElem?_eq_some_iff.mp hi).1
 have cne:=I.cne
 have tracked:∀ {a:Addr}{h':Heap},(∃o,s.heap.get? a=some o/\H a=none)->Heap.SameBut a s.heap h'->HOk X.prog X.w H h':=fun {a h'} ha J b ob e=>by
  obtain⟨_,_,W⟩:=ha
  refine(I.hok b ob e).stay (fun c w' S q=>(J.2 c ?_).trans q) (fun _ q=>q) fun _ _ q=>q
  rintro rfl
  rcases S with rfl | S
  . rw [W]at e;cases e
  . rw [W]at S;cases S
 rcases U with hk | hk
 . refine wpAny_storeName_local hk hn (fun h' a6 J=> ?_) a1
   obtain⟨oL,_,_,a7,_⟩:=id hn
   refine h _ ⟨I.ok,I.os,I.bare,⟨fun b o e n hb U=> ?_,fun b o e n hb U=> ?_,I.base.free,fun b o e U=> ?_,I.base.tups,I.base.frzs,I.base.tbls⟩,⟨_,a6,fun j y v' O Y e3=> ?_⟩,fun y c e=> ?_,I.free,I.freeC,fun p hp=> ?_,tracked ⟨oL,a7,I.free⟩ J,by simpa using I.len⟩ ⟨_,J,.inl rfl⟩
   . exact(J.2 b (ne_of_lt (lt_of_lt_of_le (Heap.lt_size e) I.ok.above))).trans (I.base.keep b o e n hb U)
   . obtain⟨sl,O⟩:=I.base.slot b o e n hb U
     exact⟨sl,(J.2 b (ne_of_lt (lt_of_lt_of_le (Heap.lt_size e) I.ok.above))).trans O⟩
   . obtain⟨o',O⟩:=I.base.there b o e U
     exact⟨o',(J.2 b (ne_of_lt (lt_of_lt_of_le (Heap.lt_size e) I.ok.above))).trans O⟩
   . by_cases hj:j=i
     . subst hj
       rw [hi]at O;cases O
       rw [List.getElem?_set_self Z]at Y
       cases Y
       exact⟨u,r,.inl ⟨hk,by simp⟩⟩
     . rw [List.getElem?_set_ne (Ne.symm hj)]at Y
       obtain⟨u',r',q⟩:=hl j y v' O Y e3
       refine⟨u',r',?_⟩
       rcases q with⟨k,e⟩ | ⟨k,c,e,z⟩
       . refine .inl ⟨k,?_⟩
         have:y≠x:=fun e=>hj (Zj hN O (e▸hi))
         simp [this,e]
       . exact .inr ⟨k,c,e,z.sameBut J (cne y c e)⟩
   . obtain⟨w',z⟩:=I.cell y c e
     exact⟨w',z.sameBut J (cne y c e)⟩
   . obtain⟨e,n,ne,nf,d⟩:=I.pin p hp
     exact⟨(J.2 p.1 ne).trans e,n,ne,nf,d⟩
 . have a0:X.fn x=true:=by
    rcases hf with z | z
    . exact z
    . rw [z]at hk;cases hk
   obtain⟨c,S⟩:=I.ok.has x (.inl hk)
   obtain⟨w',z⟩:=I.cell x c S
   refine wpAny_storeName_cell I.ok.kind hk S z (fun h' a2 J=> ?_)
   obtain⟨oc,a3,a4⟩:=id z
   refine h { s with heap:=h'} ⟨I.ok,I.os,I.bare,⟨fun b o e n hb U=> ?_,fun b o e n hb U=> ?_,I.base.free,fun b o e U=> ?_,I.base.tups,I.base.frzs,I.base.tbls⟩,⟨m,hn.sameBut J (Ne.symm (cne x c S)),fun j y v' O Y e3=> ?_⟩,fun y c' e=> ?_,I.free,I.freeC,fun p hp=> ?_,tracked ⟨oc,a3,I.freeC x c S⟩ J,by simpa using I.len⟩ ⟨c,J,.inr S⟩
   . exact(J.2 b (ne_of_lt (lt_of_lt_of_le (Heap.lt_size e) (I.ok.cab x c a0 S)))).trans (I.base.keep b o e n hb U)
   . obtain⟨sl,O⟩:=I.base.slot b o e n hb U
     exact⟨sl,(J.2 b (ne_of_lt (lt_of_lt_of_le (Heap.lt_size e) (I.ok.cab x c a0 S)))).trans O⟩
   . obtain⟨o',O⟩:=I.base.there b o e U
     exact⟨o',(J.2 b (ne_of_lt (lt_of_lt_of_le (Heap.lt_size e) (I.ok.cab x c a0 S)))).trans O⟩
   . by_cases hj:j=i
     . subst hj
       rw [hi]at O;cases O
       rw [List.getElem?_set_self Z]at Y
       cases Y
       exact⟨u,r,.inr ⟨.inl hk,c,S,a2⟩⟩
     . rw [List.getElem?_set_ne (Ne.symm hj)]at Y
       obtain⟨u',r',q⟩:=hl j y v' O Y e3
       refine⟨u',r',?_⟩
       rcases q with q | ⟨k,c',e,z'⟩
       . exact .inl q
       . refine .inr ⟨k,c',e,z'.sameBut J ?_⟩
         rintro rfl
         exact hj (Zj hN O (I.ok.inj _ _ _ e S▸hi))
   . by_cases a5:c'=c
     . subst a5;exact⟨_,a2⟩
     . obtain⟨w2,z2⟩:=I.cell y c' e
       exact⟨w2,z2.sameBut J a5⟩
   . obtain⟨e,n,ne,nf,d⟩:=I.pin p hp
     refine⟨(J.2 p.1 ?_).trans e,n,ne,nf,d⟩
     intro q
     rw [q,a3]at e
     have q':oc=p.2:=Option.some.inj e
     exact d w' (by rw [<-q'];exact a4)
theorem Q6 {M:Model}{A:Around}{E:Value->Shared->Prop}{i:Nat}{x:Str}{v:V}{u:Value}{Q:Unit->Shared->Prop} (I:Inv X pins σ H s) (z:X.N.Nodup) (hi:X.N[i]? =some x) (J:Loc X.env.scope x) (r:RelV v u)
 (h:∀s',Inv X pins (σ.set i (some v)) H s'->Q () s') (O:X.fn x=true\/X.env.scope.names.lookup x=some .local :=by first | exact .inl rfl | exact .inr rfl | assumption):wpAny M A (storeName X.env x u) Q E s:=
 Aep I z hi J r (fun s' S _=>h s' S) O
theorem Inv.call' {s':Shared}{ch:List Addr} (I:Inv X pins σ H s) (U:s'.os=s.os) (u:Un (frs X.stack) ch H H' s.heap s'.heap) (z:HOk X.prog X.w H' s'.heap) (W:AllBare s'.gens)
 (J:∀b∈ch,(b∈X.ex\/X.s₀.heap.objs.size<=b)/\b≠X.env.locals/\(∀x c,X.env.cells.lookup x=some c->c≠b)/\∀p∈X.pn++pins,p.1≠b):Inv X pins σ H' s':=by
 obtain⟨h',M,O,S,o'⟩:=s'
 have e:o'=s.os:=U
 subst e
 exact I.call (g':=M) (t':=S) (d':=O) u z W J
end
noncomputable abbrev XK:=Value->Option Addr->Hp->Prop
noncomputable abbrev St:=List (Option V)
noncomputable abbrev VK:=V->Hp->Prop
noncomputable abbrev TE:=St->Hp->VK->Prop
noncomputable abbrev TT:=St->Hp->(Bool->Hp->Prop)->Prop
noncomputable abbrev TA:=St->Hp->(List V->Hp->Prop)->Prop
structure Ends where
 nx:St->Hp->Prop
 rt:VK
 bk:St->Hp->Prop:=fun _ _=>False
 ct:St->Hp->Prop:=fun _ _=>False
noncomputable abbrev TS:=Ends->St->Hp->Prop
noncomputable def EP (X:Cx) (pins:List (Addr × Obj)) (σ:St) (Q:VK) (u:Value) (s':Shared):Prop:=∃v H',Inv X pins σ H' s'/\RelV v u/\Q v H'
noncomputable def TP (X:Cx) (pins:List (Addr × Obj)) (σ:St) (Q:Bool->Hp->Prop) (b:Bool) (s':Shared):Prop:=∃H',Inv X pins σ H' s'/\Q b H'
noncomputable def AP (X:Cx) (pins:List (Addr × Obj)) (σ:St) (Q:List V->Hp->Prop) (us:List Value) (s':Shared):Prop:=∃vs H',Inv X pins σ H' s'/\Vals vs us/\Q vs H'
noncomputable def SP (X:Cx) (pins:List (Addr × Obj)) (D:Ends) (f:Flow) (s':Shared):Prop:=
 match f with
 | .next=>∃σ' H',Inv X pins σ' H' s'/\D.nx σ' H'
 | .brk=>∃σ' H',Inv X pins σ' H' s'/\D.bk σ' H'
 | .cont=>∃σ' H',Inv X pins σ' H' s'/\D.ct σ' H'
 | .ret u=>∃v σ' H',Inv X pins σ' H' s'/\RelV v u/\D.rt v H'
noncomputable def PE (X:Cx) (e:Expr) (t:TE):Prop:=
 ∀(pins:List (Addr × Obj)) (s:Shared) (σ:St) (H:Hp) (Q:VK),Inv X pins σ H s->t σ H Q->wpAny (model X.prog X.w) X.A (eval e X.env) (EP X pins σ Q) X.xe s
noncomputable def PT (X:Cx) (e:Expr) (t:TT):Prop:=
 ∀(pins:List (Addr × Obj)) (s:Shared) (σ:St) (H:Hp) (Q:Bool->Hp->Prop),Inv X pins σ H s->t σ H Q->wpAny (model X.prog X.w) X.A (isTrue e X.env (eval e X.env)) (TP X pins σ Q) X.xe s
noncomputable def PW (X:Cx) (e:Expr) (t:TT):Prop:=
 ∀(whole:Sem Value) (pins:List (Addr × Obj)) (s:Shared) (σ:St) (H:Hp) (Q:Bool->Hp->Prop),Inv X pins σ H s->t σ H Q->wpAny (model X.prog X.w) X.A (isTrue e X.env whole) (TP X pins σ Q) X.xe s
theorem PW.pt {X:Cx}{e:Expr}{t:TT} (h:PW X e t):PT X e t:=h _
noncomputable def PA (X:Cx) (es:List Expr) (t:TA):Prop:=
 ∀(pos:Pos) (pins:List (Addr × Obj)) (s:Shared) (σ:St) (H:Hp) (Q:List V->Hp->Prop),Inv X pins σ H s->t σ H Q->wpAny (model X.prog X.w) X.A (spliced (backTo pos (starEach es X.env))) (AP X pins σ Q) X.xe s
noncomputable def PS (X:Cx) (st:Stmt) (t:TS):Prop:=
 ∀(pins:List (Addr × Obj)) (s:Shared) (σ:St) (H:Hp) (D:Ends),Inv X pins σ H s->t D σ H->wpAny (model X.prog X.w) X.A (exec st X.env) (SP X pins D) X.xe s
noncomputable def PSs (X:Cx) (st:List Stmt) (t:TS):Prop:=
 ∀(pins:List (Addr × Obj)) (s:Shared) (σ:St) (H:Hp) (D:Ends),Inv X pins σ H s->t D σ H->wpAny (model X.prog X.w) X.A (execs st X.env) (SP X pins D) X.xe s
theorem thn {α:Type}{t:Sem α}{Q Q':α->Shared->Prop}{M:Model}{A:Around}{E:Value->Shared->Prop}{s:Shared} (h:wpAny M A t Q E s) (z:∀a s,Q a s->Q' a s):wpAny M A t Q' E s:=wpAny_mono h z fun _ _ x=>x
section
variable {X:Cx}
noncomputable def Abk (i:Nat):TE:=fun σ H Q=>∃v,σ[i]? =some (some v)/\Q v H
noncomputable def tC (v:V):TE:=fun _ H Q=>Q v H
theorem Ami {i:Nat}{x:Str}{pos:Pos} (W:X.N[i]? =some x) (hv:Vis X.env.scope x) (O:(x==("__debug__":Str))=false:=by decide) (S:(x==("__classdict__":Str))=false:=by decide):PE X (.Name x pos) (Abk i):=by
 intro pins s σ H Q I h
 obtain⟨v,e,h⟩:=h
 obtain⟨m,Y,Z⟩:=I.loc
 obtain⟨u,r,l⟩:=Z i x v W e hv
 have J:EP X pins σ Q u s:=⟨v,H,I,r,h⟩
 rcases l with⟨M,hm⟩ | ⟨M,c,U,z⟩
 . exact wpAny_Name (wpAny_loadName_local I.ok.kind M Y hm J) O
 . rcases M with M | M
   . exact wpAny_Name (wpAny_loadName_cell I.ok.kind M U z J) O
   . exact wpAny_Name (wpAny_loadName_free I.ok.kind M U z J S) O
theorem Amb {i j pos}:PE X (.Constant (.int i) j pos) (tC (.int i)):=fun _ _ _ H _ I h=>wpAny_Constant_int ⟨.int i,H,I.tok _,⟨_,rfl⟩,h⟩
theorem Aor {b j pos}:PE X (.Constant (.bool b) j pos) (tC (.bl b)):=fun _ _ _ H _ I h=>Constant_bool ⟨.bl b,H,I,rfl,h⟩
theorem Amd {j pos}:PE X (.Constant .none j pos) (tC .non):=fun _ _ _ H _ I h=>Constant_none ⟨.non,H,I,rfl,h⟩
theorem Amg {x j pos}:PE X (.Constant (.str x) j pos) (tC (.str x)):=fun _ _ _ H _ I h=>Calls.Constant_str ⟨.str x,H,I.tok _,⟨_,rfl⟩,h⟩
noncomputable def Gl (X:Cx) (x:Str):Prop:=X.env.kindOf x=some .globalImplicit
theorem Xr {E:Value->Shared->Prop}{pins:List (Addr × Obj)}{s:Shared}{σ:St}{H:Hp}{x:Str}{u:Value}{pos:Pos}{Q:Value->Shared->Prop} (I:Inv X pins σ H s) (z:Gl X x) (J:X.mg x=some u) (h:Q u s)
 (M:(x==("__debug__":Str))=false:=by decide):wpAny (model X.prog X.w) X.A (eval (.Name x pos) X.env) Q E s:=
 Calls.Name_function_global I.ok.kind z (Calls.loadGlobal_global (by rw [I.ok.glob];exact I.mod.glob.keeps I.bk) J h) M
theorem Qa {E:Value->Shared->Prop}{pins:List (Addr × Obj)}{s:Shared}{σ:St}{H:Hp}{x:Str}{u:Value}{pos:Pos}{Q:Value->Shared->Prop} (I:Inv X pins σ H s) (z:Gl X x) (J:X.mg x=none) (hv:bootBuiltins x=some u) (h:Q u s)
 (M:x≠"__name__":=by decide) (O:(x==("__debug__":Str))=false:=by decide):wpAny (model X.prog X.w) X.A (eval (.Name x pos) X.env) Q E s:=by
 obtain⟨S,h1,h2⟩:=I.mod.blt
 exact Calls.Name_function_global I.ok.kind z (Calls.loadGlobal_builtin (by rw [I.ok.glob];exact I.mod.glob.keeps I.bk) J (by rw [I.ok.blt];exact h1.keeps I.bk) ((h2 x M).trans hv) h) O
theorem Yg {x:Str}{v:V}{u:Value}{pos:Pos} (z:Gl X x) (J:X.mg x=some u) (r:RelV v u) (M:(x==("__debug__":Str))=false:=by decide):PE X (.Name x pos) (tC v):=
 fun _ _ _ H _ I h=>Xr I z J ⟨v,H,I,r,h⟩ M
theorem Ye {x:Str}{v:V}{u:Value}{pos:Pos} (z:Gl X x) (J:X.mg x=none) (hv:bootBuiltins x=some u) (r:RelV v u) (M:x≠"__name__":=by decide) (O:(x==("__debug__":Str))=false:=by decide):PE X (.Name x pos) (tC v):=
 fun _ _ _ H _ I h=>Qa I z J hv ⟨v,H,I,r,h⟩ M O
variable {a b:Expr}{ta tb:TE}{pos:Pos}
noncomputable def tB (t:TE):TT:=fun σ H Q=>t σ H fun x H1=>∃c,x= .bl c/\Q c H1
theorem Ahx {e:Expr}{t:TE} (h:PE X e t) (z:∀whole,isTrue e X.env whole=(do let v<-whole;standAt e.pos;holding [v] (truthy v)):=by intro _;rfl):PT X e (tB t):=by
 intro pins s σ H Q I J
 refine isTrue_plain (thn (h pins s σ H _ I J) fun v U ⟨x,H1,M,O,S⟩=> ?_) (z _)
 obtain⟨d,rfl,q⟩:=S
 cases O
 exact wpAny_truthy_bool ⟨H1,M,q⟩
variable {tA tB':TT}{rest:List Expr}
noncomputable def Ao9 (t u:TT):TT:=fun σ H Q=>t σ H fun c H1=>if c=true then u σ H1 Q else Q false H1
noncomputable def tOr (t u:TT):TT:=fun σ H Q=>t σ H fun c H1=>if c=true then Q true H1 else u σ H1 Q
noncomputable def Ape (t:TT):TT:=fun σ H Q=>t σ H fun c H1=>Q (!c) H1
theorem Ajy (z:PT X a tA):PW X (.BoolOp .And [a] pos) tA:=by
 intro J pins s σ H Q I h
 refine isTrue_and (thn (z pins s σ H Q I h) fun c M e=> ?_)
 cases c with
 | true=>exact isTrue_and_nil e
 | false=>exact e
theorem Amv (z:PT X a tA):PW X (.BoolOp .Or [a] pos) tA:=by
 intro J pins s σ H Q I h
 refine isTrue_or (thn (z pins s σ H Q I h) fun c M e=> ?_)
 cases c with
 | false=>exact isTrue_or_nil e
 | true=>exact e
theorem Amt (M:PT X a tA) (O:PW X (.BoolOp .And (b::rest) pos) tB'):PW X (.BoolOp .And (a::b::rest) pos) (Ao9 tA tB'):=by
 intro S pins s σ H Q I h
 refine isTrue_and (thn (M pins s σ H _ I h) fun c U ⟨H1,z,J⟩=> ?_)
 cases c with
 | true=>exact O S pins U σ H1 Q z J
 | false=>exact⟨H1,z,J⟩
theorem Aox (M:PT X a tA) (O:PW X (.BoolOp .Or (b::rest) pos) tB'):PW X (.BoolOp .Or (a::b::rest) pos) (tOr tA tB'):=by
 intro S pins s σ H Q I h
 refine isTrue_or (thn (M pins s σ H _ I h) fun c U ⟨H1,z,J⟩=> ?_)
 cases c with
 | true=>exact⟨H1,z,J⟩
 | false=>exact O S pins U σ H1 Q z J
theorem Ams (z:PT X a tA):PT X (.UnaryOp .Not a pos) (Ape tA):=by
 intro pins s σ H Q I h
 exact isTrue_not (z pins s σ H (fun c H1=>Q (!c) H1) I h)
noncomputable def Aka (ta tb:TE):TE:=fun σ H Q=>ta σ H fun x H1=>∃c,x= .bl c/\if c=true then tb σ H1 Q else Q (.bl false) H1
noncomputable def Apf (ta tb:TE):TE:=fun σ H Q=>ta σ H fun x H1=>∃c,x= .bl c/\if c=true then Q (.bl true) H1 else tb σ H1 Q
noncomputable def Akd (ta:TE):TE:=fun σ H Q=>ta σ H fun x H1=>∃c,x= .bl c/\Q (.bl (!c)) H1
theorem Amf {op}{t:TE} (h:PE X a t):PE X (.BoolOp op [a] pos) t:=fun pins s σ H Q I z=>BoolOp_one (h pins s σ H Q I z)
theorem Ama (M:PE X a ta) (O:PE X (.BoolOp .And (b::rest) pos) tb):PE X (.BoolOp .And (a::b::rest) pos) (Aka ta tb):=by
 intro pins s σ H Q I h
 refine BoolOp_and (thn (M pins s σ H _ I h) fun v S ⟨x,H1,J,U,z⟩=> ?_)
 obtain⟨c,rfl,z⟩:=z
 cases U
 refine wpAny_truthy_bool ?_
 cases c with
 | true=>exact O pins S σ H1 Q J z
 | false=>exact⟨.bl false,H1,J,rfl,z⟩
theorem Aou (M:PE X a ta) (O:PE X (.BoolOp .Or (b::rest) pos) tb):PE X (.BoolOp .Or (a::b::rest) pos) (Apf ta tb):=by
 intro pins s σ H Q I h
 refine BoolOp_or (thn (M pins s σ H _ I h) fun v S ⟨x,H1,J,U,z⟩=> ?_)
 obtain⟨c,rfl,z⟩:=z
 cases U
 refine wpAny_truthy_bool ?_
 cases c with
 | false=>exact O pins S σ H1 Q J z
 | true=>exact⟨.bl true,H1,J,rfl,z⟩
theorem Ame (J:PE X a ta):PE X (.UnaryOp .Not a pos) (Akd ta):=by
 intro pins s σ H Q I h
 refine UnaryOp_ (thn (J pins s σ H _ I h) fun v S ⟨x,H1,M,O,z⟩=> ?_)
 obtain⟨c,rfl,z⟩:=z
 cases O
 exact not_of (wpAny_truthy_bool ⟨.bl (!c),H1,M,rfl,z⟩)
noncomputable def tIf (t:TT) (ta tb:TE):TE:=fun σ H Q=>t σ H fun c H1=>if c=true then ta σ H1 Q else tb σ H1 Q
theorem Af6 {c:Expr} (O:PT X c tA) (S:PE X a ta) (U:PE X b tb):PE X (.IfExp c a b pos) (tIf tA ta tb):=by
 intro pins s σ H Q I h
 refine wpAny_IfExp (thn (O pins s σ H _ I h) fun d z ⟨H1,J,M⟩=> ?_)
 cases d with
 | true=>exact S pins z σ H1 Q J M
 | false=>exact U pins z σ H1 Q J M
end
noncomputable def SqL (K:Frag) (H:Hp) (a:Addr) (xs:List V):Prop:=
 Rd H a (.lst xs)\/
  ∃(o:Obj) (its:Array Value) (n:Nat),K.lookup a=some o/\o.cls= .type "list"/\o.dict=none/\o.data= .seq its n/\its.size<=sizeLine/\Vals xs its.toList
noncomputable def SqT (K:Frag) (H:Hp) (a:Addr) (xs:List V):Prop:=
 Rd H a (.tup xs)\/
  ∃(o:Obj) (its:Array Value) (n:Nat),K.lookup a=some o/\o.cls= .type "tuple"/\o.data= .seq its n/\its.size<=sizeLine/\Vals xs its.toList
noncomputable def Aqz:Value->Option V
 | .none=>some .non
 | .bool b=>some (.bl b)
 | .int i _=>some (.int i)
 | .str x _=>some (.str x)
 | .bytes b _=>some (.byt b)
 | .float b _=>some (.flt b)
 | .ref a=>some (.ref a)
 | .type n=>some (.ty n)
 | _=>none
theorem RelV.abs {x:V}{u:Value} (r:RelV x u):Aqz u=some x:=by
 cases x with
 | non=>cases r;rfl
 | bl _=>cases r;rfl
 | int _=>obtain⟨t,rfl⟩:=r;rfl
 | str _=>obtain⟨t,rfl⟩:=r;rfl
 | byt _=>obtain⟨t,rfl⟩:=r;rfl
 | flt _=>obtain⟨t,rfl⟩:=r;rfl
 | ref _=>cases r;rfl
 | ty _=>cases r;rfl
theorem RelV.inj {x y:V}{u:Value} (r:RelV x u) (q:RelV y u):x=y:=Option.some.inj (r.abs.symm.trans q.abs)
theorem Vals.inj:∀ {xs ys:List V}{z:List Value},Vals xs z->Vals ys z->xs=ys
 | _,_,_,.nil,.nil=>rfl
 | _,_,_,.cons r t,.cons r' t'=>by rw [r.inj r',Vals.inj t t']
section
variable {X:Cx}{pins:List (Addr × Obj)}{σ:St}{H:Hp}{s:Shared}{a:Addr}{xs ys:List V}
theorem SqL.of {K:Frag} (h:H a=some (.lst xs)):SqL K H a xs:= .inl (.inl h)
theorem SqT.of {K:Frag} (h:H a=some (.tup xs)):SqT K H a xs:= .inl (.inl h)
theorem Inv.list (I:Inv X pins σ H s) (h:SqL X.K H a xs):∃J:List Value,Vals xs J/\PlainL s.heap a J.toArray/\xs.length<=sizeLine:=by
 rcases h with h | ⟨o,J,n,M,O,S,U,W,r⟩
 . obtain⟨z,J,n,r,e⟩:=h.ok I.hok
   exact⟨J,r,⟨_,n,e,rfl,rfl,rfl⟩,z⟩
 . refine⟨J.toList,r,⟨o,n,I.kIn a o M,O,S,by simpa using U⟩,?_⟩
   have e:=r.length
   simp only [Array.length_toList]at e
   omega
theorem Inv.tuple (I:Inv X pins σ H s) (h:SqT X.K H a xs):∃J:List Value,Vals xs J/\IsTup s.heap a J.toArray/\xs.length<=sizeLine:=by
 rcases h with h | ⟨o,J,n,M,O,S,U,r⟩
 . obtain⟨z,J,r,p⟩:=h.ok I.hok
   exact⟨J,r,p,z⟩
 . refine⟨J.toList,r,⟨o,I.kIn a o M,O,n,by simpa using S⟩,?_⟩
   have e:=r.length
   simp only [Array.length_toList]at e
   omega
theorem Inv.list_inj (I:Inv X pins σ H s) (h:SqL X.K H a xs) (h':SqL X.K H a ys):xs=ys:=by
 obtain⟨J,r,⟨o,n,e,_,_,d⟩,_⟩:=I.list h
 obtain⟨z,S,⟨o',n',M,_,_,O⟩,_⟩:=I.list h'
 rw [e]at M;cases M
 rw [d]at O
 injection O with d1 _
 have:J=z:=by simpa using congrArg Array.toList d1
 subst this
 exact r.inj S
theorem Inv.tuple_inj (I:Inv X pins σ H s) (h:SqT X.K H a xs) (h':SqT X.K H a ys):xs=ys:=by
 obtain⟨J,r,⟨o,e,_,n,d⟩,_⟩:=I.tuple h
 obtain⟨z,S,⟨o',M,_,n',O⟩,_⟩:=I.tuple h'
 rw [e]at M;cases M
 rw [d]at O
 injection O with d1 _
 have:J=z:=by simpa using congrArg Array.toList d1
 subst this
 exact r.inj S
end
noncomputable abbrev Cx.wish (X:Cx) (E:Value->Shared->Prop):Cx:={ X with xe:=E}
noncomputable abbrev Cx.nox (X:Cx):Cx:=X.wish fun _ _=>False
theorem Cx.Ok.wish {X:Cx} (ok:X.Ok) (E:Value->Shared->Prop):(X.wish E).Ok:=
 ⟨ok.mod,ok.kind,ok.glob,ok.blt,ok.above,ok.inj,ok.has,ok.cab,ok.hd,ok.frames,ok.stk,ok.exf,ok.bs,ok.bsz,ok.noex,ok.exfs,ok.funs,ok.frf⟩
theorem Cx.Ok.unwish {X:Cx}{E:Value->Shared->Prop} (ok:(X.wish E).Ok):X.Ok:=
 ⟨ok.mod,ok.kind,ok.glob,ok.blt,ok.above,ok.inj,ok.has,ok.cab,ok.hd,ok.frames,ok.stk,ok.exf,ok.bs,ok.bsz,ok.noex,ok.exfs,ok.funs,ok.frf⟩
section
variable {X:Cx}{pins:List (Addr × Obj)}{σ:St}{H:Hp}{s:Shared}{E:Value->Shared->Prop}
theorem Inv.wish (I:Inv X pins σ H s) (E:Value->Shared->Prop):Inv (X.wish E) pins σ H s:=⟨I.ok.wish E,I.os,I.bare,I.base,I.loc,I.cell,I.free,I.freeC,I.pin,I.hok,I.len⟩
theorem Inv.unwish (I:Inv (X.wish E) pins σ H s):Inv X pins σ H s:=⟨I.ok.unwish,I.os,I.bare,I.base,I.loc,I.cell,I.free,I.freeC,I.pin,I.hok,I.len⟩
theorem SP.unwish {D:Ends}{f:Flow}{s':Shared} (h:SP (X.wish E) pins D f s'):SP X pins D f s':=by
 cases f with
 | next=>obtain⟨z,H',I,q⟩:=h;exact⟨z,H',I.unwish,q⟩
 | brk=>obtain⟨z,H',I,q⟩:=h;exact⟨z,H',I.unwish,q⟩
 | cont=>obtain⟨z,H',I,q⟩:=h;exact⟨z,H',I.unwish,q⟩
 | ret u=>obtain⟨v,z,H',I,r,q⟩:=h;exact⟨v,z,H',I.unwish,r,q⟩
theorem PSs.nox {st:List Stmt}{t:TS} (h:PSs X.nox st t):PSs X st t:=fun pins s σ H D I J=>
 wpAny_mono (h pins s σ H D (I.wish _) J) (fun _ _ q=>q.unwish) fun _ _ z=>False.elim z
end
section
variable {X:Cx}{st:Stmt}{rest:List Stmt}{t u:TS}{e:Expr}{te:TE}{pos:Pos}
noncomputable def Akc:TS:=fun D σ H=>D.nx σ H
noncomputable def Aob (t u:TS):TS:=fun D σ H=>t { D with nx:=u D} σ H
theorem Aju:PSs X [] Akc:=fun _ _ σ H _ I h=>wpAny_execs_nil ⟨σ,H,I,h⟩
theorem Agf (h1:PS X st t) (h2:PSs X rest u):PSs X (st::rest) (Aob t u):=by
 intro pins s σ H D I h
 refine wpAny_execs_cons (thn (h1 pins s σ H { D with nx:=u D} I h) fun f J q=> ?_)
 cases f with
 | next=>
   obtain⟨z,H',M,q⟩:=q
   exact h2 pins J z H' D M q
 | ret v=>exact q
 | brk=>exact q
 | cont=>exact q
theorem Ajv (h1:PS X st t):PSs X [st] t:=by
 intro pins s σ H D I h
 refine wpAny_execs_cons (thn (h1 pins s σ H D I h) fun f z q=> ?_)
 cases f with
 | next=>exact wpAny_execs_nil q
 | ret v=>exact q
 | brk=>exact q
 | cont=>exact q
theorem Inv.quiet {pins:List (Addr × Obj)}{σ:St}{H:Hp}{s:Shared} (I:Inv X pins σ H s):interactive X.env=false:=by simp [interactive,I.ok.kind]
noncomputable def Akb (te:TE):TS:=fun D σ H=>te σ H fun _ H1=>D.nx σ H1
theorem Ad2 (z:PE X e te) (J:swapsWith e none pos.line X.env=pure false:=by rfl):PS X (.Expr e pos) (Akb te):=by
 intro pins s σ H D I h
 exact wpAny_Expr_any (thn (z pins s σ H _ I h) fun v S ⟨x,H1,M,U,O⟩=>⟨σ,H1,M,O⟩) I.quiet J
noncomputable def Aph (te:TE):TS:=fun D σ H=>te σ H D.rt
theorem Amr (z:PE X e te):PS X (.Return (some e) pos) (Aph te):=by
 intro pins s σ H D I h
 exact wpAny_Return_some (thn (z pins s σ H _ I h) fun v S ⟨x,H1,J,M,O⟩=>⟨x,σ,H1,J,M,O⟩)
noncomputable def Apc (c:TT) (t u:TS):TS:=fun D σ H=>c σ H fun b H1=>if b=true then t D σ H1 else u D σ H1
theorem Aow {c:Expr}{a b:List Stmt}{tc:TT} (O:PT X c tc) (S:PSs X a t) (U:PSs X b u):PS X (.If c a b pos) (Apc tc t u):=by
 intro pins s σ H D I h
 refine wpAny_If (thn (O pins s σ H _ I h) fun d z ⟨H1,J,M⟩=> ?_)
 cases d with
 | true=>exact S pins z σ H1 D J M
 | false=>exact U pins z σ H1 D J M
noncomputable def Aia:TS:=fun _ _ _=>False
theorem Agd:PS X st Aia:=fun _ _ _ _ _ _ h=>h.elim
end
noncomputable abbrev TG:=V->St->Hp->(St->Hp->Prop)->Prop
noncomputable abbrev TGs:=List V->St->Hp->(St->Hp->Prop)->Prop
noncomputable def PG (X:Cx) (target:Expr) (t:TG):Prop:=
 ∀(pins:List (Addr × Obj)) (s:Shared) (σ:St) (H:Hp) (v:V) (u:Value) (Q:St->Hp->Prop),Inv X pins σ H s->RelV v u->t v σ H Q->
   wpAny (model X.prog X.w) X.A (assign target X.env u) (fun _ s'=>∃σ' H',Inv X pins σ' H' s'/\Q σ' H') X.xe s
noncomputable def PGs (X:Cx) (ts:List Expr) (t:TGs):Prop:=
 ∀(pins:List (Addr × Obj)) (s:Shared) (σ:St) (H:Hp) (vs:List V) (us:List Value) (Q:St->Hp->Prop),Inv X pins σ H s->Vals vs us->t vs σ H Q->
   wpAny (model X.prog X.w) X.A (assignInOrder ((assignEach ts X.env).map (·.2)) us) (fun _ s'=>∃σ' H',Inv X pins σ' H' s'/\Q σ' H') X.xe s
noncomputable abbrev Aky:=V->V->V->Hp->(Hp->Prop)->Prop
noncomputable def Aoe (X:Cx) (t:Aky):Prop:=
 ∀(pins:List (Addr × Obj)) (s:Shared) (σ:St) (H:Hp) (o i v:V) (ov iv u:Value) (Q:Hp->Prop),Inv X pins σ H s->RelV o ov->RelV i iv->RelV v u->t o i v H Q->
   wpAny (model X.prog X.w) X.A (setItem ov iv u) (fun _ s'=>∃H',Inv X pins σ H' s'/\Q H') X.xe s
section
variable {X:Cx}{pos:Pos}
noncomputable def O4 (i:Nat):TG:=fun v σ H Q=>Q (σ.set i (some v)) H
theorem Yh {i:Nat}{x:Str} (z:X.N.Nodup) (hi:X.N[i]? =some x) (J:Loc X.env.scope x) (M:X.fn x=true\/X.env.scope.names.lookup x=some .local :=by first | exact .inl rfl | exact .inr rfl | assumption):PG X (.Name x pos) (O4 i):=by
 intro pins s σ H v u Q I r h
 exact wpAny_assign_Name (Q6 I z hi J r (fun s' O=>⟨_,H,O,h⟩) M)
noncomputable def Aom:TGs:=fun vs σ H Q=>vs=[]/\Q σ H
noncomputable def Afn (t:TG) (u:TGs):TGs:=fun vs σ H Q=>∃v r,vs=v::r/\t v σ H fun σ' H'=>u r σ' H' Q
theorem Ajm:PGs X [] Aom:=by
 intro pins s σ H z J Q I r h
 obtain⟨e,h⟩:=h
 subst e
 cases r
 exact assignInOrder_nil ⟨σ,H,I,h⟩
theorem Zo {e:Expr}{es:List Expr}{t:TG}{u:TGs} (h1:PG X e t) (h2:PGs X es u)
 (J:(assignEach (e::es) X.env).map (·.2)=assign e X.env::(assignEach es X.env).map (·.2):=by rfl):PGs X (e::es) (Afn t u):=by
 intro pins s σ H Y Z Q I r h
 obtain⟨v,vr,M,h⟩:=h
 subst M
 cases r with
 | cons r O=>
   rw [J]
   refine assignInOrder_cons (thn (h1 pins s σ H _ _ _ I r h) fun _ S ⟨z,H1,U,W⟩=> ?_)
   exact h2 pins S z H1 _ _ Q U O W
noncomputable def Ale (K:Frag) (n:Nat) (t:TGs):TG:=fun v σ H Q=>∃a xs,v= .ref a/\SqT K H a xs/\xs.length=n/\t xs σ H Q
theorem Zn {es:List Expr}{k:Nat}{t:TGs}{n:Nat} (O:X.calm=true) (h:PGs X es t)
 (S:(assignEach es X.env).length=n:=by rfl) (z:(assignEach es X.env).findIdx? (·.1)=none:=by rfl):PG X (.Tuple es k pos) (Ale X.K n t):=by
 intro pins s σ H v u Q I r J
 obtain⟨a,xs,U,W,Y,J⟩:=J
 subst U
 cases r
 obtain⟨Z,M,ht,hz⟩:=I.tuple W
 refine assign_Tuple_tuple (I.ok.hd O) ht (by simp [S,<-Y,M.length]) z fun h' hx=> ?_
 have I1:Inv X pins σ H { s with heap:=h'}:=I.kept (t':=s.toks) fun b o e=>hx b o (ne_of_lt (Heap.lt_size e)) e
 exact h pins _ σ H xs _ Q I1 (by simpa using M) J
noncomputable def Aon (to ti:TE) (t:Aky):TG:=fun v σ H Q=>to σ H fun o H1=>ti σ H1 fun i H2=>t o i v H2 fun H3=>Q σ H3
theorem Ahp {o i:Expr}{to M:TE}{t:Aky} (O:PE X o to) (hi:PE X i M) (S:Aoe X t)
 (U:∀v,assign (.Subscript o i pos) X.env v=(do
   let z<-holding [v] (eval o X.env)
   let J<-holding [v,z] (eval i X.env)
   standAt pos
   holding [v,z,J] (setItem z J v)
   release [v,z,J] []):=by intro _;rfl):PG X (.Subscript o i pos) (Aon to M t):=by
 intro pins s σ H v u Q I r h
 rw [U]
 refine wpAny_bind (wpAny_holding (thn (O pins s σ H _ I h) fun z W ⟨x,H1,Y,Z,q1⟩=> ?_))
 refine wpAny_bind (wpAny_holding (thn (hi pins W σ H1 _ Y q1) fun J s2 ⟨y,H2,I2,r2,q2⟩=> ?_))
 refine wpAny_bind (wpAny_standAt (wpAny_bind (wpAny_holding (thn (S pins s2 σ H2 x y v z J u _ I2 Z r2 r q2) fun _ s3 ⟨H3,I3,q3⟩=> ?_))))
 exact wpAny_release ⟨σ,H3,I3,q3⟩
noncomputable def Agr (te:TE) (g:TG):TS:=fun D σ H=>te σ H fun x H1=>g x σ H1 D.nx
theorem Zr {tg e:Expr}{te:TE}{g:TG} (z:PE X e te) (J:PG X tg g) (M:swapsWithSole [tg] e pos.line X.env=pure false:=by rfl) (O:swappedStores [tg] e X.env=pure none:=by rfl)
 (h1:(assignEach [tg] X.env).map (·.2)=[assign tg X.env]:=by rfl):PS X (.Assign [tg] e pos) (Agr te g):=by
 intro pins s σ H D I h
 refine wpAny_Assign_stores (thn (z pins s σ H _ I h) fun v S ⟨x,H1,U,W,Y⟩=> ?_) M O
 rw [h1]
 exact thn (J pins S σ H1 x v _ U W Y) fun _ Z q=>q
theorem Zt {i:Nat}{x:Str}{e:Expr}{te:TE}{z:Pos} (J:X.N.Nodup) (hi:X.N[i]? =some x) (M:Loc X.env.scope x) (O:PE X e te) (S:swapsWith e (some (.Name x z)) pos.line X.env=pure false:=by rfl) (U:X.fn x=true\/X.env.scope.names.lookup x=some .local :=by first | exact .inl rfl | exact .inr rfl | assumption):
 PS X (.Assign [.Name x z] e pos) (Agr te (O4 i)):=by
 intro pins s σ H D I h
 refine wpAny_Assign_Name (thn (O pins s σ H _ I h) fun v s1 ⟨y,H1,W,Y,Z⟩=> ?_) S
 exact Q6 W J hi M Y (fun s2 I2=>⟨_,H1,I2,Z⟩) U
noncomputable def Apg (i j:Nat) (ta:TA):TS:=fun D σ H=>ta σ H fun vs H1=>∃v w,vs=[v,w]/\D.nx ((σ.set i (some v)).set j (some w)) H1
theorem Ahw {i j:Nat}{x y:Str}{a b:Expr}{ta:TA}{O py pt:Pos}{kt k2 pt2} (hc:X.calm=true) (Z:X.N.Nodup) (hi:X.N[i]? =some x) (hj:X.N[j]? =some y) (S:i≠j)
 (hx:X.env.scope.names.lookup x=some .local) (hy:X.env.scope.names.lookup y=some .local) (ha:PA X [a,b] ta)
 (hw:swappedStores [.Tuple [.Name x O,.Name y py] kt pt] (.Tuple [a,b] k2 pt2) X.env=pure (some [x,y]))
 (hs:swapsWithSole [.Tuple [.Name x O,.Name y py] kt pt] (.Tuple [a,b] k2 pt2) pos.line X.env=pure false:=by rfl):
 PS X (.Assign [.Tuple [.Name x O,.Name y py] kt pt] (.Tuple [a,b] k2 pt2) pos) (Apg i j ta):=by
 intro pins s σ H D I h
 rw [exec_Assign_arm]
 refine wpAny_bind (wpAny_standAt ?_)
 rw [hs]
 refine wpAny_bind (wpAny_pure ?_)
 rw [if_neg (by decide)]
 refine wpAny_bind (Tuple_ (thn (ha _ pins s σ H _ I h) fun us z ⟨vs,H1,I1,r1,U⟩=> ?_))
 obtain⟨v,w,e1,U⟩:=U
 subst e1
 obtain⟨J,M,rfl,rv,W⟩:∃J M,us=[J,M]/\RelV v J/\RelV w M:=by
  cases r1 with
  | cons p q=>
    cases q with
    | cons p' q'=>
      cases q'
      exact⟨_,_,rfl,p,p'⟩
 refine wpAny_newObj_type ?_ (by show 2<=sizeLine;decide)
 have I2:Inv X pins σ H1 { z with heap:=z.heap.push { cls:= .type "tuple",data:= .seq [J,M].toArray}}:=I1.kept (t':=z.toks) fun b o e=>Heap.get?_push_of_some _ e
 rw [hw]
 refine wpAny_bind (wpAny_pure ?_)
 show wpAny (model X.prog X.w) X.A (do rule "assign.swapped-stores";let items<-unpackItems (.ref z.heap.objs.size) 2 none;assignInOrder [fun v=>bindName X.env y v,fun v=>bindName X.env x v] items.reverse;pure Flow.next) _ _ _
 refine wpAny_bind (wpAny_rule (wpAny_bind (unpackItems_tuple (items:= #[J,M]) (I.ok.hd hc) (IsTup.new z.heap _) fun h' Y=> ?_)))
 have I3:=I2.kept (h':=h') (t':=z.toks) fun b o e=>Y b o (ne_of_lt (Heap.lt_size e)) e
 show wpAny _ _ (assignInOrder [fun v=>bindName X.env y v,fun v=>bindName X.env x v] [M,J]>>=fun _=>pure Flow.next) _ _ _
 refine wpAny_bind (assignInOrder_cons (wpAny_bindName (Q6 I3 Z hj (.inl hy) W (fun s2 I4=> ?_) (.inr hy))))
 refine assignInOrder_cons (wpAny_bindName (Q6 I4 Z hi (.inl hx) rv (fun s3 I5=>assignInOrder_nil (wpAny_pure ?_)) (.inr hx)))
 rw [List.set_comm _ _ (Ne.symm S)]at I5
 exact⟨_,H1,I5,U⟩
end
section
variable {X:Cx}{pos:Pos}
noncomputable def W7 (c:TT) (tb:TS):TS:=fun D σ H=>∃W:Nat->St->Hp->Prop,(∃m,W m σ H)/\∀m σ H,W m σ H->
 c σ H fun b H1=>if b=true then ∃N:St->Hp->Prop,(∀σ' H',N σ' H'->∃m',m'<m/\W m' σ' H')/\tb { D with nx:=N,ct:=N,bk:=D.nx} σ H1 else D.nx σ H1
theorem Age {c:Expr}{M:List Stmt}{tc:TT}{tb:TS} (hp:PassesOwn (model X.prog X.w) X.A X.env X.xe) (hc:PT X c tc) (hb:PSs X M tb):PS X (.While c M [] pos) (W7 tc tb):=by
 intro pins s σ H D I h
 obtain⟨W,⟨m0,w0⟩,O⟩:=h
 refine wpAny_While (codeAny_whileLoop (fun n s'=>∃S H',Inv X pins S H' s'/\W n S H') ?_ m0 ⟨σ,H,I,w0⟩)
 rintro n s1 ⟨J,H1,I1,w1⟩
 refine wpAny_passesOwn hp (thn (hc pins s1 J H1 _ I1 (O n J H1 w1)) fun b s2 ⟨H2,I2,Y⟩=> ?_)
 cases b with
 | true=>
   obtain⟨N,hN,Y⟩:=Y
   rw [if_pos rfl]
   refine wpAny_passesOwn hp (thn (hb pins s2 J H2 _ I2 Y) fun f s3 Z=> ?_)
   cases f with
   | next=>
     obtain⟨z,U,I3,n3⟩:=Z
     obtain⟨m',hm,w3⟩:=hN z U n3
     exact⟨m',hm,z,U,I3,w3⟩
   | cont=>
     obtain⟨z,U,I3,n3⟩:=Z
     obtain⟨m',hm,w3⟩:=hN z U n3
     exact⟨m',hm,z,U,I3,w3⟩
   | brk=>exact Z
   | ret v=>exact Z
 | false=>
   rw [if_neg Bool.false_ne_true]
   exact wpAny_execs_nil ⟨J,H2,I2,Y⟩
end
structure It where
 go:Nat->Hp->Prop
 yld:Nat->Hp->V->Hp->Prop
 stop:Nat->Hp->Prop
noncomputable def Xb (X:Cx) (pins:List (Addr × Obj)) (H:Hp) (b:Addr):Prop:=
 H b=none/\b≠X.env.locals/\b∉X.fs/\(b∈X.ex\/X.s₀.heap.objs.size<=b)/\(∀x c,X.env.cells.lookup x=some c->c≠b)/\∀p∈X.pn++pins,p.1≠b
theorem Inv.fpOk {X:Cx}{pins:List (Addr × Obj)}{σ:St}{H H':Hp}{s:Shared}{b:Addr} (I:Inv X pins σ H s) (J:s.heap.objs.size<=b) (M:H' b=none):Xb X pins H' b:=by
 refine⟨M,ne_of_gt (lt_of_lt_of_le I.lt J),I.nofs J,.inr (le_trans I.sz J),fun x c e z=> ?_,fun p O z=> ?_⟩
 . obtain⟨v,q⟩:=I.cell x c e
   exact absurd (lt_of_lt_of_le q.lt (by rw [z];exact J)) (lt_irrefl _)
 . exact absurd (lt_of_lt_of_le (Heap.lt_size (I.pin p O).1) (by rw [z];exact J)) (lt_irrefl _)
structure Turn (P:Program) (w:World) (K:Frag) (tg:Expr) (J:It) (fp:List Addr) (it:Addr) (tn:Nat->Heap->Prop):Prop where
 mem:it∈fp
 obj:∀i h,tn i h->∀b∈fp,∃o,h.get? b=some o/\∀v,o.data≠ .cell v
 keep:∀i h h',tn i h->(∀b∈fp,∀o,h.get? b=some o->h'.get? b=some o)->tn i h'
 item:∀(X:Cx),X.prog=P->X.w=w->X.K=K->X.calm=true->∀(i:Nat) (pins:List (Addr × Obj)) (s:Shared) (σ:St) (H:Hp) (E:Value->Shared->Prop),Inv X pins σ H s->(∀b∈fp,Xb X pins H b)->tn i s.heap->J.go i H->
  wpAny (model P w) X.A (pyNext (.ref it)) (fun r s1=>∃u,r=some u/\
   wpAny (model P w) X.A (letOwnedTupleGo tg (.ref it) u) (fun _ s2=>∃x H',Inv X pins σ H' s2/\RelV x u/\J.yld i H x H'/\tn (i+1) s2.heap/\∀b∈fp,H' b=none) E s1) E s
 done:∀(X:Cx),X.prog=P->X.w=w->X.K=K->X.calm=true->∀(i:Nat) (pins:List (Addr × Obj)) (s:Shared) (σ:St) (H:Hp) (E:Value->Shared->Prop),Inv X pins σ H s->(∀b∈fp,Xb X pins H b)->tn i s.heap->J.stop i H->
  wpAny (model P w) X.A (pyNext (.ref it)) (fun r s1=>r=none/\Inv X pins σ H s1) E s
 self:∀(A:Around) (i:Nat) (s:Shared) (Q:Value->Shared->Prop) (E:Value->Shared->Prop),tn i s.heap->Q (.ref it) s->wpAny (model P w) A (pyIter (.ref it)) Q E s
noncomputable abbrev TI:=St->Hp->(It->Hp->Prop)->Prop
noncomputable def PIE (X:Cx) (pins:List (Addr × Obj)) (σ:St) (tg:Expr) (R:It->Hp->Prop) (itv:Value) (s2:Shared):Prop:=
 ∃(it:Addr) (fp:List Addr) (tn:Nat->Heap->Prop) (J:It) (H':Hp),itv= .ref it/\Inv X pins σ H' s2/\Turn X.prog X.w X.K tg J fp it tn/\tn 0 s2.heap/\(∀b∈fp,Xb X pins H' b)/\R J H'
noncomputable def PI (X:Cx) (tg iter:Expr) (wi:TI):Prop:=
 ∀(pins:List (Addr × Obj)) (s:Shared) (σ:St) (H:Hp) (R:It->Hp->Prop),Inv X pins σ H s->wi σ H R->
   wpAny (model X.prog X.w) X.A (eval iter X.env) (fun v s1=>wpAny (model X.prog X.w) X.A (pyIter v) (PIE X pins σ tg R) X.xe s1) X.xe s
theorem Aco {M:Model}{A:Around}{E:Value->Shared->Prop}{s:Shared}{tg:Expr}{I:Addr}{u:Value}{o:Obj}{n:String}{J:Array Value}{Q:Unit->Shared->Prop} (O:s.heap.get? I=some o) (S:o.cls= .type n) (U:o.data= .fields J)
 (W:["enumerate","zip","dict_itemiterator","dict_reverseitemiterator","odict_iterator","itertools.zip_longest","itertools.pairwise"].contains n=false) (z:Q () s):wpAny M A (letOwnedTupleGo tg (.ref I) u) Q E s:=by
 unfold letOwnedTupleGo
 cases tg<;>first
  | exact wpAny_pure z
  | (cases u<;>first
      | exact wpAny_pure z
      | (refine wpAny_bind (wpAny_load O ?_)
         rw [S,U]
         show wpAny M A (if(["enumerate","zip","dict_itemiterator","dict_reverseitemiterator","odict_iterator","itertools.zip_longest","itertools.pairwise"].contains n&&J[0]? ==some (rawInt _))=true then _ else _) Q E s
         rw [if_neg (by intro h;rw [W,Bool.false_and]at h;cases h)]
         exact wpAny_pure z))
noncomputable def Itl (K:Frag) (a:Addr):It:=
 ⟨fun i H=>∃xs x,SqL K H a xs/\xs[i]? =some x,fun i H x H'=>H'=H/\∀xs,SqL K H a xs->xs[i]? =some x,fun i H=>∃xs,SqL K H a xs/\xs.length<=i⟩
noncomputable def Itt (K:Frag) (a:Addr):It:=
 ⟨fun i H=>∃xs x,SqT K H a xs/\xs[i]? =some x,fun i H x H'=>H'=H/\∀xs,SqT K H a xs->xs[i]? =some x,fun i H=>∃xs,SqT K H a xs/\xs.length<=i⟩
noncomputable def Itr (lo:Int) (n:Nat):It:=⟨fun i _=>i<n,fun i H x H'=>H'=H/\x= .int (lo+i),fun i _=>n<=i⟩
theorem Aex {P:Program}{w:World}{K:Frag}{tg:Expr} (a J:Addr):Turn P w K tg (Itl K a) [J] J (fun i h=>h.IsListIter J a i) where
 mem:=by simp
 obj:=fun i h st b M=>by
  have e:b=J:=by simpa using M
  subst e
  obtain⟨o,e,c,d⟩:=st
  exact⟨o,e,fun v z=>by rw [d]at z;cases z⟩
 keep:=fun i h h' st k=>st.at fun o e=>k J (by simp) o e
 item:=by
  intro X Y Z hK hc i pins s σ H E I S st hg
  subst Y Z hK
  obtain⟨xs,x,U,hx⟩:=hg
  obtain⟨a0,rv,p,hz⟩:=I.list U
  obtain⟨u,hu,ru⟩:=rv.get hx
  obtain⟨f0,f1,f2,f3,f4,f5⟩:=S J (by simp)
  refine wpAny_pyNext_list_item st p.isList (x:=u) (by simpa using hu) fun h' O sb=> ?_
  have I1:Inv X pins σ H { s with heap:=h'}:=I.turned (t':=s.toks) (fun b o M e=>(sb.2 b M).trans e) f0 f1 f3 f4 f5
  obtain⟨o,e,c,d⟩:=id O
  exact⟨u,rfl,Aco (s:={ s with heap:=h'}) e c d (by decide) ⟨x,H,I1,ru,⟨rfl,fun ys hy=>by rw [I.list_inj hy U];exact hx⟩,O,fun b M=>(S b M).1⟩⟩
 done:=by
  intro X Y Z hK hc i pins s σ H E I S st hg
  subst Y Z hK
  obtain⟨xs,U,hx⟩:=hg
  obtain⟨a0,rv,p,hz⟩:=I.list U
  obtain⟨f0,f1,f2,f3,f4,f5⟩:=S J (by simp)
  have hl:=rv.length
  exact wpAny_pyNext_list_end (I.ok.hd hc) st p.isList (by simp;omega) fun h' eb=>⟨rfl,I.turned (t':=s.toks) (fun b o M e=>eb b o M e) f0 f1 f3 f4 f5⟩
 self:=fun _ _ _ _ _ st h=>wpAny_pyIter_listiter st h
theorem Abg {P:Program}{w:World}{K:Frag}{tg:Expr} (a J:Addr):Turn P w K tg (Itt K a) [J] J (fun i h=>h.IsTupleIter J a i) where
 mem:=by simp
 obj:=fun i h st b M=>by
  have e:b=J:=by simpa using M
  subst e
  obtain⟨o,e,c,d⟩:=st
  exact⟨o,e,fun v z=>by rw [d]at z;cases z⟩
 keep:=fun i h h' st k=>st.at fun o e=>k J (by simp) o e
 item:=by
  intro X Z hw hK hc i pins s σ H E I U st hg
  subst Z hw hK
  obtain⟨xs,x,Y,hx⟩:=hg
  obtain⟨O,rv,p,hz⟩:=I.tuple Y
  obtain⟨u,hu,ru⟩:=rv.get hx
  obtain⟨f0,f1,f2,f3,f4,f5⟩:=U J (by simp)
  refine wpAny_pyNext_tuple_item st (show s.heap.IsTuple a O.toArray from p) (x:=u) (by simpa using hu) fun h' S sb=> ?_
  have I1:Inv X pins σ H { s with heap:=h'}:=I.turned (t':=s.toks) (fun b o M e=>(sb.2 b M).trans e) f0 f1 f3 f4 f5
  obtain⟨o,e,c,d⟩:=id S
  exact⟨u,rfl,Aco (s:={ s with heap:=h'}) e c d (by decide) ⟨x,H,I1,ru,⟨rfl,fun ys hy=>by rw [I.tuple_inj hy Y];exact hx⟩,S,fun b M=>(U b M).1⟩⟩
 done:=by
  intro X Z hw hK hc i pins s σ H E I U st hg
  subst Z hw hK
  obtain⟨xs,Y,hx⟩:=hg
  obtain⟨O,rv,p,hz⟩:=I.tuple Y
  obtain⟨f0,f1,f2,f3,f4,f5⟩:=U J (by simp)
  have hl:=rv.length
  exact wpAny_pyNext_tuple_end (I.ok.hd hc) st (show s.heap.IsTuple a O.toArray from p) (by simp;omega) fun h' eb=>⟨rfl,I.turned (t':=s.toks) (fun b o M e=>eb b o M e) f0 f1 f3 f4 f5⟩
 self:=fun _ _ _ _ _ st h=>wpAny_pyIter_tupleiter st h
theorem Abf {P:Program}{w:World}{K:Frag}{tg:Expr} (J:Addr) (lo:Int) (n:Nat):Turn P w K tg (Itr lo n) [J] J (fun i h=>IsRangeIter h J (lo+(i:Nat)*1) ((n:Int)-(i:Nat)) 1) where
 mem:=by simp
 obj:=fun i h st b M=>by
  have e:b=J:=by simpa using M
  subst e
  exact⟨_,st,fun v z=>by
   have z':Data.fields _=Data.cell v:=z
   cases z'⟩
 keep:=fun i h h' st k=>k J (by simp) _ st
 item:=by
  intro X U Y Z hc i pins s σ H E I S st hg
  subst U Y Z
  obtain⟨f0,f1,f2,f3,f4,f5⟩:=S J (by simp)
  have W:=Walks.range (prog:=X.prog) (w:=X.w) (I.ok.hd hc) J lo 1 n
  refine W.item i s _ _ hg st fun v h' tk hv O kk=> ?_
  obtain⟨t,rfl⟩:=hv
  have I1:Inv X pins σ H { s with heap:=h',toks:=tk}:=I.turned (fun b o M e=>kk b o (by simpa using M) e) f0 f1 f3 f4 f5
  refine⟨_,rfl,Aco (s:={ s with heap:=h',toks:=tk}) (n:="range_iterator") O rfl rfl (by decide) ⟨.int (lo+i),H,I1,⟨t,?_⟩,⟨rfl,rfl⟩,O,fun b M=>(S b M).1⟩⟩
  rw [Int.mul_one]
 done:=by
  intro X U Y Z hc i pins s σ H E I S st hg
  subst U Y Z
  obtain⟨f0,f1,f2,f3,f4,f5⟩:=S J (by simp)
  exact wpAny_pyNext_range_end (I.ok.hd hc) st (by have:n<=i:=hg;omega) fun h' eb=>⟨rfl,I.turned (t':=s.toks) (fun b o M e=>eb b o M e) f0 f1 f3 f4 f5⟩
 self:=fun _ _ _ _ _ st h=>wpAny_pyIter_rangeiter st h
section
variable {X:Cx}{tg:Expr}
noncomputable def Aiy (K:Frag) (tl:TE):TI:=fun σ H R=>tl σ H fun x H1=>∃a,x= .ref a/\(∃xs,SqL K H1 a xs)/\R (Itl K a) H1
noncomputable def Aoo (K:Frag) (tl:TE):TI:=fun σ H R=>tl σ H fun x H1=>∃a,x= .ref a/\(∃xs,SqT K H1 a xs)/\R (Itt K a) H1
theorem Ajn {l:Expr}{tl:TE} (M:PE X l tl):PI X tg l (Aiy X.K tl):=by
 intro pins s σ H R I h
 refine thn (M pins s σ H _ I h) fun v z ⟨x,H1,J,O,S⟩=> ?_
 obtain⟨a,e,⟨xs,U⟩,q⟩:=S
 subst e
 cases O
 obtain⟨W,Z,p,hz⟩:=J.list U
 refine wpAny_pyIter_list p.isList ?_
 refine⟨z.heap.objs.size,[z.heap.objs.size],_,_,H1,rfl,J.kept (t':=z.toks) fun b o e=>Heap.get?_push_of_some _ e,Aex a _,⟨_,Heap.get?_push_size _ rfl,rfl,rfl⟩,fun b Y=> ?_,q⟩
 have e:b=z.heap.objs.size:=by simpa using Y
 subst e
 exact J.fpOk (le_refl _) (J.hok.fresh (le_refl _))
theorem Aml {l:Expr}{tl:TE} (O:PE X l tl):PI X tg l (Aoo X.K tl):=by
 intro pins s σ H R I h
 refine thn (O pins s σ H _ I h) fun v z ⟨x,H1,J,S,U⟩=> ?_
 obtain⟨a,e,⟨xs,W⟩,q⟩:=U
 subst e
 cases S
 obtain⟨M,Z,p,hz⟩:=J.tuple W
 refine wpAny_pyIter_tuple (show z.heap.IsTuple a M.toArray from p) ?_
 refine⟨z.heap.objs.size,[z.heap.objs.size],_,_,H1,rfl,J.kept (t':=z.toks) fun b o e=>Heap.get?_push_of_some _ e,Abg a _,⟨_,Heap.get?_push_size _ rfl,rfl,rfl⟩,fun b Y=> ?_,q⟩
 have e:b=z.heap.objs.size:=by simpa using Y
 subst e
 exact J.fpOk (le_refl _) (J.hok.fresh (le_refl _))
theorem Agh {pins:List (Addr × Obj)}{σ:St}{H:Hp}{s:Shared}{R:It->Hp->Prop}{E:Value->Shared->Prop}{lo hi:Int}{t u v:Tok}{tk:Nat} (I:Inv X pins σ H s) (h1: -(2^62)<=lo) (h2:lo<2^62) (J: -(2^62)<=hi) (M:hi<2^62)
 (q:R (Itr lo (hi-lo).toNat) H):wpAny (model X.prog X.w) X.A (pyIter (.ref s.heap.objs.size)) (PIE X pins σ tg R) E { s with heap:=s.heap.push { cls:= .type "range",data:= .fields #[.int lo t,.int hi u,.int 1 v]},toks:=tk}:=by
 refine wpAny_pyIter_range (IsRange.new ..) (small_one h1 h2 J M) ?_
 have z:Inv X pins σ H { s with heap:=s.heap.push { cls:= .type "range",data:= .fields #[.int lo t,.int hi u,.int 1 v]},toks:=tk}:=I.kept fun b o e=>Heap.get?_push_of_some _ e
 refine⟨(s.heap.push { cls:= .type "range",data:= .fields #[.int lo t,.int hi u,.int 1 v]}).objs.size,[(s.heap.push { cls:= .type "range",data:= .fields #[.int lo t,.int hi u,.int 1 v]}).objs.size],_,_,H,rfl,
  z.kept (t':=tk) fun b o e=>Heap.get?_push_of_some _ e,Abf _ lo (hi-lo).toNat,?_,fun b O=> ?_,q⟩
 . have S:lo+((0:Nat):Int)*1=lo:=by simp
   have U:(((hi-lo).toNat:Nat):Int)-((0:Nat):Int)=Builtin.Range.rangeSize lo hi 1:=by rw [rangeSize_one];split<;>omega
   show IsRangeIter _ _ (lo+((0:Nat):Int)*1) ((((hi-lo).toNat:Nat):Int)-((0:Nat):Int)) 1
   rw [S,U]
   exact Heap.get?_push_size _ rfl
 . have e:b=(s.heap.push { cls:= .type "range",data:= .fields #[.int lo t,.int hi u,.int 1 v]}).objs.size:=by simpa using O
   subst e
   exact z.fpOk (le_refl _) (z.hok.fresh (le_refl _))
noncomputable def Aiz (ta:TA):TI:=fun σ H R=>ta σ H fun vs H1=>∃j:Int,vs=[.int j]/\ -(2^62)<=j/\j<2^62/\R (Itr 0 j.toNat) H1
theorem Wr {a:Expr}{ta:TA}{p pos:Pos} (J:Gl X "range") (M:X.mg "range"=none) (O:PA X [a] ta) (S:starEach [a] X.env=[(false,eval a X.env)]:=by rfl):PI X tg (.Call (.Name "range" p) [a] [] pos) (Aiz ta):=by
 intro pins s σ H R I h
 refine Call_ (Qa I J M boot_range (PyProof.Rows.callWith_type1 (thn (O pos pins s σ H _ I h) fun us s1 ⟨vs,H1,U,W,z⟩=> ?_) S rfl))
 obtain⟨j,e,z,Y,q⟩:=z
 subst e
 cases W with
 | cons r Z=>
   cases Z
   obtain⟨t,rfl⟩:=r
   exact call_range_1 (Agh U (by omega) (by omega) z Y (by simpa using q))
noncomputable def Apb (wi:TI) (g:TG) (tb:TS):TS:=fun D σ H=>wi σ H fun J H1=>∃W:Nat->Nat->St->Hp->Prop,(∃m,W 0 m σ H1)/\∀i m σ H,W i m σ H->
 (J.stop i H/\D.nx σ H)\/(J.go i H/\∃N:St->Hp->Prop,(∀σ' H',N σ' H'->∃m',m'<m/\W (i+1) m' σ' H')/\∀x H',J.yld i H x H'->g x σ H' fun σ2 H2=>tb { D with nx:=N,ct:=N,bk:=D.nx} σ2 H2)
noncomputable def Ws (fp:List Addr) (h:Heap):List (Addr × Obj):=fp.filterMap fun b=>(h.get? b).map fun o=>(b,o)
theorem Jy {fp:List Addr}{h:Heap}{b:Addr}{o:Obj} (z:b∈fp) (e:h.get? b=some o):(b,o)∈Ws fp h:=mem_filterMap.mpr ⟨b,z,by rw [e];rfl⟩
theorem Ac8 {fp:List Addr}{h:Heap}{p:Addr × Obj} (z:p∈Ws fp h):p.1∈fp/\h.get? p.1=some p.2:=by
 obtain⟨b,I,e⟩:=mem_filterMap.mp z
 cases q:h.get? b with
 | none=>rw [q]at e;cases e
 | some o=>
   rw [q]at e
   have J:(b,o)=p:=Option.some.inj e
   subst J
   exact⟨I,q⟩
theorem Inv.pinned {pins:List (Addr × Obj)}{σ:St}{H:Hp}{s:Shared}{fp:List Addr} (I:Inv X pins σ H s) (O:∀b∈fp,Xb X pins H b) (S:∀b∈fp,∃o,s.heap.get? b=some o/\∀v,o.data≠ .cell v):Inv X (pins++Ws fp s.heap) σ H s:=
 I.pins_of fun p U=>(mem_append.mp U).elim (fun z=>I.pin p (mem_append_right _ z)) fun z=>by
  obtain⟨J,e⟩:=Ac8 z
  obtain⟨W,Y,Z,_⟩:=O p.1 J
  obtain⟨o,M,d⟩:=S p.1 J
  rw [e]at M;cases M
  exact⟨e,W,Y,Z,d⟩
theorem Inv.unpinned {pins z:List (Addr × Obj)}{σ:St}{H:Hp}{s:Shared} (I:Inv X (pins++z) σ H s):Inv X pins σ H s:=I.pins_of fun p J=>I.pin p (mem_append_right _ (List.mem_append_left _ J))
theorem Ahv {iter:Expr}{a0:List Stmt}{wi:TI}{g:TG}{tb:TS}{pos:Pos} (hp:PassesOwn (model X.prog X.w) X.A X.env X.xe) (hc:X.calm=true) (hi:PI X tg iter wi) (hg:PG X tg g) (M:PSs X a0 tb)
 (hs:∀x,foldedSetIterable iter X.env x=pure x:=by intro _;rfl):PS X (.For tg iter a0 [] pos) (Apb wi g tb):=by
 intro pins s σ H D I h
 refine wpAny_For (thn (hi pins s σ H _ I h) fun v s1 h1=>thn h1 fun aa s2 h2=> ?_) hs
 obtain⟨it,fp,tn,J,H2,e,I2,T,a6,f2,W,⟨m0,w0⟩,a2⟩:=h2
 subst e
 have O:∀ {H':Hp},(∀b∈fp,H' b=none)->∀b∈fp,Xb X pins H' b:=fun hn b M=>⟨hn b M,(f2 b M).2⟩
 refine codeAny_forLoop_any (fun n s'=>∃i S H',Inv X pins S H' s'/\tn i s'.heap/\(∀b∈fp,H' b=none)/\W i n S H') ?_ m0 ⟨0,σ,H2,I2,a6,fun b M=>(f2 b M).1,w0⟩
 rintro n s3 ⟨i,U,H3,I3,a3,a4,w3⟩
 rcases a2 i n U H3 w3 with⟨a5,qn⟩ | ⟨go,N,hN,step⟩
 . refine wpAny_passesOwn hp (thn (T.done X rfl rfl rfl hc i pins s3 U H3 X.xe I3 (O a4) a3 a5) fun r s4 ⟨hr,I4⟩=> ?_)
   subst hr
   exact wpAny_execs_nil ⟨U,H3,I4,qn⟩
 . refine wpAny_passesOwn hp (thn (T.item X rfl rfl rfl hc i pins s3 U H3 X.xe I3 (O a4) a3 go) fun r s4 ⟨u,hr,h4⟩=> ?_)
   subst hr
   refine wpAny_passesOwn hp (thn h4 fun _ s5 ⟨x,H5,I5,r5,y5,a1,a7⟩=> ?_)
   have a8:=I5.pinned (O a7) (T.obj _ _ a1)
   refine wpAny_passesOwn hp (thn (hg _ s5 U H5 x u _ a8 r5 (step x H5 y5)) fun _ s6 ⟨a9,H6,I6,q6⟩=> ?_)
   refine wpAny_passesOwn hp (thn (M _ s6 a9 H6 _ I6 q6) fun f s7 q7=> ?_)
   have again:∀ {z:St}{Y:Hp},Inv X (pins++Ws fp s5.heap) z Y s7->N z Y->∃m,m<n/\∃i S H',Inv X pins S H' s7/\tn i s7.heap/\(∀b∈fp,H' b=none)/\W i m S H':=fun {z Y} Z n7=>by
    obtain⟨m',hm,w7⟩:=hN z Y n7
    refine⟨m',hm,i+1,z,Y,Z.unpinned,T.keep _ _ _ a1 fun b M o e=>(Z.pin (b,o) (mem_append_right _ (mem_append_right _ (Jy M e)))).1,fun b M=> ?_,w7⟩
    obtain⟨o,e,d⟩:=T.obj _ _ a1 b M
    exact(Z.pin (b,o) (mem_append_right _ (mem_append_right _ (Jy M e)))).2.1
   cases f with
   | next=>obtain⟨z,Y,Z,n7⟩:=q7;exact again Z n7
   | cont=>obtain⟨z,Y,Z,n7⟩:=q7;exact again Z n7
   | brk=>obtain⟨z,Y,Z,q7⟩:=q7;exact⟨z,Y,Z.unpinned,q7⟩
   | ret v=>obtain⟨x7,z,Y,Z,r7,q7⟩:=q7;exact⟨x7,z,Y,Z.unpinned,r7,q7⟩
end
theorem Z5 {c:TT}{tb:TS}{D:Ends}{σ:St}{H:Hp} (I:St->Hp->Prop) (J:St->Hp->Nat) (O:I σ H)
 (S:∀σ H,I σ H->c σ H fun b H1=>if b=true then tb { D with nx:=fun z H'=>I z H'/\J z H'<J σ H,ct:=fun z H'=>I z H'/\J z H'<J σ H,bk:=D.nx} σ H1 else D.nx σ H1)
 (mono:∀σ H Q M,(∀b H1,Q b H1->M b H1)->c σ H Q->c σ H M):W7 c tb D σ H:=by
 refine⟨fun m σ H=>m=J σ H/\I σ H,⟨_,rfl,O⟩,?_⟩
 rintro m σ H ⟨rfl,p⟩
 refine mono σ H _ _ (fun b H1 q=> ?_) (S σ H p)
 cases b with
 | true=>exact⟨_,fun z H' ⟨U,l⟩=>⟨_,l,rfl,U⟩,q⟩
 | false=>exact q
noncomputable abbrev R2:=V->V->Hp->VK->Prop
noncomputable def OpR (X:Cx) (f:Value->Value->Sem Value) (r:R2):Prop:=
 ∀(pins:List (Addr × Obj)) (s:Shared) (σ:St) (H:Hp) (x y:V) (v u:Value) (Q:VK),Inv X pins σ H s->RelV x v->RelV y u->r x y H Q->
   wpAny (model X.prog X.w) X.A (f v u) (EP X pins σ Q) X.xe s
noncomputable def UnR (X:Cx) (f:Value->Sem Value) (r:V->Hp->VK->Prop):Prop:=
 ∀(pins:List (Addr × Obj)) (s:Shared) (σ:St) (H:Hp) (x:V) (v:Value) (Q:VK),Inv X pins σ H s->RelV x v->r x H Q->
   wpAny (model X.prog X.w) X.A (f v) (EP X pins σ Q) X.xe s
noncomputable def Jm (X:Cx) (f:Value) (r:List V->Hp->VK->Prop):Prop:=
 ∀(pins:List (Addr × Obj)) (s:Shared) (σ:St) (H:Hp) (xs:List V) (us:List Value) (Q:VK),Inv X pins σ H s->Vals xs us->r xs H Q->
   wpAny (model X.prog X.w) X.A (call f us) (EP X pins σ Q) X.xe s
noncomputable def tOp (r:R2) (ta tb:TE):TE:=fun σ H Q=>ta σ H fun x H1=>tb σ H1 fun y H2=>r x y H2 Q
noncomputable def tUn (r:V->Hp->VK->Prop) (ta:TE):TE:=fun σ H Q=>ta σ H fun x H1=>r x H1 Q
noncomputable def rI (C:Int->Int->Prop) (g:Int->Int->V):R2:=fun x y H Q=>∃i j,x= .int i/\y= .int j/\C i j/\Q (g i j) H
noncomputable def rI0 (g:Int->Int->V):R2:=fun x y H Q=>∃i j,x= .int i/\y= .int j/\Q (g i j) H
noncomputable def rU (g:Int->V):V->Hp->VK->Prop:=fun x H Q=>∃i,x= .int i/\Q (g i) H
section
variable {X:Cx}{a b c:Expr}{ta tb tc:TE}{pos:Pos}
theorem Aog (O:PE X a ta) (S:PE X b tb) {pins:List (Addr × Obj)}{s:Shared}{σ:St}{H:Hp}{R:V->V->Hp->Prop} (I:Inv X pins σ H s)
 (h:ta σ H fun x H1=>tb σ H1 fun y H2=>R x y H2) {Q:Value->Shared->Prop}{f:Value->Value->Sem Value}
 (U:∀v u M x y H2,Inv X pins σ H2 M->RelV x v->RelV y u->R x y H2->wpAny (model X.prog X.w) X.A (f v u) Q X.xe M):
 wpAny (model X.prog X.w) X.A (eval a X.env) (fun v z=>wpAny (model X.prog X.w) X.A (eval b X.env) (fun u J=>wpAny (model X.prog X.w) X.A (f v u) Q X.xe J) X.xe z) X.xe s:=by
 refine thn (O pins s σ H _ I h) fun v W ⟨x,H1,Y,Z,q1⟩=> ?_
 refine thn (S pins W σ H1 _ Y q1) fun u M ⟨y,H2,I2,r2,q2⟩=> ?_
 exact U v u M x y H2 I2 Z r2 q2
theorem Aot {z:Operator}{r:R2} (J:OpR X (binaryOp z) r) (M:PE X a ta) (O:PE X b tb):PE X (.BinOp a z b pos) (tOp r ta tb):=by
 intro pins s σ H Q I h
 exact wpAny_BinOp (Aog M O I h fun v u S x y H2 U W Y q=>J pins S σ H2 x y v u Q U W Y q)
theorem Aov {z:UnaryOp}{r:V->Hp->VK->Prop} (J:UnR X (unaryOp z) r) (M:PE X a ta):PE X (.UnaryOp z a pos) (tUn r ta):=by
 intro pins s σ H Q I h
 exact UnaryOp_ (thn (M pins s σ H _ I h) fun v O ⟨x,H1,S,U,W⟩=>J pins O σ H1 x v Q S U W)
theorem opI {f:Value->Value->Sem Value}{C:Int->Int->Prop}{g:Int->Int->Int}
 (z:∀(i j:Int) (t u:Tok) (s:Shared) (Q:Value->Shared->Prop) (E:Value->Shared->Prop),C i j->Q (.int (g i j) s.toks) { s with toks:=s.toks+1}->wpAny (model X.prog X.w) X.A (f (.int i t) (.int j u)) Q E s):
 OpR X f (rI C fun i j=> .int (g i j)):=by
 intro pins s σ H x y v u Q I J M h
 obtain⟨i,j,rfl,rfl,O,q⟩:=h
 obtain⟨t,rfl⟩:=J
 obtain⟨S,rfl⟩:=M
 exact z i j t S s _ _ O ⟨.int (g i j),H,I.tok _,⟨_,rfl⟩,q⟩
theorem Aop {f:Value->Value->Sem Value}{g:Int->Int->Int}
 (z:∀(i j:Int) (t u:Tok) (s:Shared) (Q:Value->Shared->Prop) (E:Value->Shared->Prop),Q (.int (g i j) s.toks) { s with toks:=s.toks+1}->wpAny (model X.prog X.w) X.A (f (.int i t) (.int j u)) Q E s):
 OpR X f (rI0 fun i j=> .int (g i j)):=by
 intro pins s σ H x y v u Q I J M h
 obtain⟨i,j,rfl,rfl,q⟩:=h
 obtain⟨t,rfl⟩:=J
 obtain⟨O,rfl⟩:=M
 exact z i j t O s _ _ ⟨.int (g i j),H,I.tok _,⟨_,rfl⟩,q⟩
theorem Aqo {f:Value->Value->Sem Value}{g:Int->Int->Bool}
 (z:∀(i j:Int) (t u:Tok) (s:Shared) (Q:Value->Shared->Prop) (E:Value->Shared->Prop),Q (.bool (g i j)) s->wpAny (model X.prog X.w) X.A (f (.int i t) (.int j u)) Q E s):
 OpR X f (rI0 fun i j=> .bl (g i j)):=by
 intro pins s σ H x y v u Q I J M h
 obtain⟨i,j,rfl,rfl,q⟩:=h
 obtain⟨t,rfl⟩:=J
 obtain⟨O,rfl⟩:=M
 exact z i j t O s _ _ ⟨.bl (g i j),H,I,rfl,q⟩
noncomputable def Aqg (i j:Int):Prop:=0<=j/\j<=1000000/\i.natAbs<2^64
noncomputable def Aqf (i j:Int):Prop:=(-(2^64)<i/\i<2^64)\/(-(2^64)<j/\j<2^64)
theorem Abh (k:Nat):(0:Int)<=2^k:=by
 rw [two_pow_cast]
 exact Int.natCast_nonneg _
theorem Eh:OpR X (binaryOp .Add) (rI0 fun i j=> .int (i+j)):=Aop fun _ _ _ _ _ _ _ q=>add_int q
theorem Em:OpR X (binaryOp .Sub) (rI0 fun i j=> .int (i-j)):=Aop fun _ _ _ _ _ _ _ q=>sub_int q
theorem Dc:OpR X (binaryOp .Mod) (rI (fun _ j=>0<j) fun i j=> .int (i%j)):=opI fun i j _ _ _ _ _ z q=>by
 have h1:(0:Int)<j:=z
 exact mod_int' (by omega) (by rw [Int.fmod_eq_emod_of_nonneg i (by omega)];exact q)
theorem Ahn:OpR X (binaryOp .Pow) (rI Aqg fun i j=> .int (i^j.toNat)):=opI fun _ _ _ _ _ _ _ z q=>pow_int_small z.1 z.2.1 z.2.2 q
theorem Al5:OpR X (binaryOp .LShift) (rI Aqg fun i j=> .int (i*2^j.toNat)):=opI fun _ _ _ _ _ _ _ z q=>lshift_int_small z.1 z.2.1 z.2.2 q
theorem Al6:OpR X (binaryOp .RShift) (rI (fun _ j=>0<=j) fun i j=> .int (i/2^j.toNat)):=opI fun i j _ _ _ _ _ z q=>
 rshift_int z (by rw [Int.fdiv_eq_ediv_of_nonneg i (Abh _)];exact q)
theorem Al2:OpR X (binaryOp .BitAnd) (rI0 fun i j=> .int (Builtin.bitAnd i j)):=Aop fun _ _ _ _ _ _ _ q=>and_int q
theorem unI {f:Value->Sem Value}{g:Int->Int}
 (z:∀(i:Int) (t:Tok) (s:Shared) (Q:Value->Shared->Prop) (E:Value->Shared->Prop),Q (.int (g i) s.toks) { s with toks:=s.toks+1}->wpAny (model X.prog X.w) X.A (f (.int i t)) Q E s):
 UnR X f (rU fun i=> .int (g i)):=by
 intro pins s σ H x v Q I J h
 obtain⟨i,rfl,q⟩:=h
 obtain⟨t,rfl⟩:=J
 exact z i t s _ _ ⟨.int (g i),H,I.tok _,⟨_,rfl⟩,q⟩
theorem Ce:UnR X (unaryOp .USub) (rU fun i=> .int (-i)):=unI fun _ _ _ _ _ q=>neg_int q
end
noncomputable def Akt:V->V->Bool
 | .non,.non=>true | .non,.int _=>true | .int _,.non=>true | .non,.bl _=>true | .bl _,.non=>true | .non,.str _=>true | .str _,.non=>true
 | .int _,.int _=>true | .bl _,.bl _=>true | .str _,.str _=>true | .byt _,.byt _=>true
 | .int _,.str _=>true | .str _,.int _=>true | .bl _,.str _=>true | .str _,.bl _=>true
 | _,_=>false
noncomputable def rEq:R2:=fun x y H Q=>Akt x y=true/\Q (.bl (decide (x=y))) H
noncomputable def rNe:R2:=fun x y H Q=>Akt x y=true/\Q (.bl (!decide (x=y))) H
theorem Xm {i j:Int}:decide (V.int i=V.int j)=(i==j):=by
 rw [Bool.eq_iff_iff]
 simp
theorem Ahg {i j:Bool}:decide (V.bl i=V.bl j)=(i==j):=by
 rw [Bool.eq_iff_iff]
 simp
theorem Ab4 {i j:Str}:decide (V.str i=V.str j)=(i==j):=by
 rw [Bool.eq_iff_iff]
 simp
theorem Ab3 {i j:Array UInt8}:decide (V.byt i=V.byt j)=(i.toList==j.toList):=by
 rw [Bool.eq_iff_iff]
 cases i
 cases j
 simp
section
variable {X:Cx}{a b c:Expr}{ta tb tc:TE}{pos:Pos}
theorem Ep {pins:List (Addr × Obj)}{σ:St}{H:Hp}{s:Shared}{Q:VK}{k z:Bool} (I:Inv X pins σ H s) (q:Q (.bl k) H) (e:k=z):EP X pins σ Q (.bool z) s:=by
 subst e
 exact⟨.bl k,H,I,rfl,q⟩
theorem Hj:OpR X (compareOp .Eq) rEq:=by
 intro pins s σ H x y v u Q I O z h
 obtain⟨M,q⟩:=h
 cases x with
 | non=>
   cases O
   cases y with
   | non=>cases z;exact PySem.EqNone.eq_none_none (Ep I q (by simp))
   | bl j=>cases z;exact PySem.EqNone.eq_none_bool (Ep I q (by simp))
   | int j=>obtain⟨J,rfl⟩:=z;exact PySem.EqNone.eq_none_int (Ep I q (by simp))
   | str j=>obtain⟨J,rfl⟩:=z;exact PySem.EqNone.eq_none_str (Ep I q (by simp))
   | _=>exact absurd (show false=true from M) Bool.false_ne_true
 | bl i=>
   cases O
   cases y with
   | non=>cases z;exact PySem.EqNone.eq_bool_none (Ep I q (by simp))
   | bl j=>cases z;exact eq_bool (Ep I q Ahg)
   | str j=>obtain⟨J,rfl⟩:=z;exact PySem.EqMixed.eq_bool_str (Ep I q (by simp))
   | _=>exact absurd (show false=true from M) Bool.false_ne_true
 | int i=>
   obtain⟨t,rfl⟩:=O
   cases y with
   | non=>cases z;exact PySem.EqNone.eq_int_none (Ep I q (by simp))
   | int j=>obtain⟨J,rfl⟩:=z;exact eq_int (Ep I q Xm)
   | str j=>obtain⟨J,rfl⟩:=z;exact PySem.EqMixed.eq_int_str (Ep I q (by simp))
   | _=>exact absurd (show false=true from M) Bool.false_ne_true
 | str i=>
   obtain⟨t,rfl⟩:=O
   cases y with
   | non=>cases z;exact PySem.EqNone.eq_str_none (Ep I q (by simp))
   | bl j=>cases z;exact PySem.EqMixed.eq_str_bool (Ep I q (by simp))
   | int j=>obtain⟨J,rfl⟩:=z;exact PySem.EqMixed.eq_str_int (Ep I q (by simp))
   | str j=>obtain⟨J,rfl⟩:=z;exact eq_str (Ep I q Ab4)
   | _=>exact absurd (show false=true from M) Bool.false_ne_true
 | byt i=>
   obtain⟨t,rfl⟩:=O
   cases y with
   | byt j=>obtain⟨J,rfl⟩:=z;exact PySem.W.eq_bytes (Ep I q Ab3)
   | _=>exact absurd (show false=true from M) Bool.false_ne_true
 | _=>cases y<;>exact absurd (show false=true from M) Bool.false_ne_true
theorem Lf:OpR X (compareOp .NotEq) rNe:=by
 intro pins s σ H x y v u Q I O z h
 obtain⟨M,q⟩:=h
 cases x with
 | non=>
   cases O
   cases y with
   | non=>cases z;exact PySem.EqNone.ne_none_none (Ep I q (by simp))
   | bl j=>cases z;exact PySem.EqNone.ne_none_bool (Ep I q (by simp))
   | int j=>obtain⟨J,rfl⟩:=z;exact PySem.EqNone.ne_none_int (Ep I q (by simp))
   | str j=>obtain⟨J,rfl⟩:=z;exact PySem.EqNone.ne_none_str (Ep I q (by simp))
   | _=>exact absurd (show false=true from M) Bool.false_ne_true
 | bl i=>
   cases O
   cases y with
   | non=>cases z;exact PySem.EqNone.ne_bool_none (Ep I q (by simp))
   | bl j=>cases z;exact ne_bool (Ep I q (congrArg not Ahg))
   | str j=>obtain⟨J,rfl⟩:=z;exact PySem.EqMixed.ne_bool_str (Ep I q (by simp))
   | _=>exact absurd (show false=true from M) Bool.false_ne_true
 | int i=>
   obtain⟨t,rfl⟩:=O
   cases y with
   | non=>cases z;exact PySem.EqNone.ne_int_none (Ep I q (by simp))
   | int j=>obtain⟨J,rfl⟩:=z;exact ne_int (Ep I q (congrArg not Xm))
   | str j=>obtain⟨J,rfl⟩:=z;exact PySem.EqMixed.ne_int_str (Ep I q (by simp))
   | _=>exact absurd (show false=true from M) Bool.false_ne_true
 | str i=>
   obtain⟨t,rfl⟩:=O
   cases y with
   | non=>cases z;exact PySem.EqNone.ne_str_none (Ep I q (by simp))
   | bl j=>cases z;exact PySem.EqMixed.ne_str_bool (Ep I q (by simp))
   | int j=>obtain⟨J,rfl⟩:=z;exact PySem.EqMixed.ne_str_int (Ep I q (by simp))
   | str j=>obtain⟨J,rfl⟩:=z;exact ne_str (Ep I q (congrArg not Ab4))
   | _=>exact absurd (show false=true from M) Bool.false_ne_true
 | byt i=>
   obtain⟨t,rfl⟩:=O
   cases y with
   | byt j=>obtain⟨J,rfl⟩:=z;exact PySem.W.ne_bytes (Ep I q (congrArg not Ab3))
   | _=>exact absurd (show false=true from M) Bool.false_ne_true
 | _=>cases y<;>exact absurd (show false=true from M) Bool.false_ne_true
theorem Wo:OpR X (compareOp .Lt) (rI0 fun i j=> .bl (decide (i<j))):=Aqo fun _ _ _ _ _ _ _ q=>lt_int q
theorem R3:OpR X (compareOp .Gt) (rI0 fun i j=> .bl (decide (j<i))):=Aqo fun _ _ _ _ _ _ _ q=>gt_int q
theorem Al4:OpR X (compareOp .Is) (fun x y H Q=>y= .non/\Q (.bl (decide (x= .non))) H):=by
 intro pins s σ H x y v u Q I z J h
 obtain⟨rfl,q⟩:=h
 cases J
 refine is_none_gen (Ep I q ?_)
 cases x<;>first
  | (cases z;rfl)
  | (obtain⟨t,rfl⟩:=z;rfl)
theorem Bb (b:Expr) {z:CmpOp} (h:z≠ .In:=by decide) (h2:z≠ .NotIn:=by decide):behindInMarks z b=false:=by
 have I:(z==CmpOp.In)=false:=by cases z<;>first | rfl | exact absurd rfl h
 have J:(z==CmpOp.NotIn)=false:=by cases z<;>first | rfl | exact absurd rfl h2
 cases b<;>simp [behindInMarks,I,J]
theorem Ajl {z:CmpOp}{r:R2} (J:OpR X (compareOp z) r) (M:PE X a ta) (O:PE X b tb) (S:behindInMarks z b=false):PE X (.Compare a [z] [b] pos) (tOp r ta tb):=by
 intro pins s σ H Q I h
 exact wpAny_Compare1 (Aog M O I h fun v u U x y H2 W Y Z q=>J pins U σ H2 x y v u Q W Y Z q) S
noncomputable def Akf (t:TE):TT:=fun σ H Q=>t σ H fun x H'=>∃k,x= .bl k/\Q k H'
theorem Ajw {J:CmpOp}{r:R2} (M:OpR X (compareOp J) r) (O:PE X a ta) (S:PE X b tb) (U:behindInMarks J b=false):PT X (.Compare a [J] [b] pos) (Akf (tOp r ta tb)):=by
 intro pins s σ H Q I h
 refine wpAny_isTrue_Compare1 (thn (O pins s σ H _ I h) fun v W ⟨x,H1,Y,Z,q1⟩=>thn (S pins W σ H1 _ Y q1) fun u s2 ⟨y,H2,I2,r2,q2⟩=>
  thn (M pins s2 σ H2 x y v u _ I2 Z r2 q2) fun c s3 ⟨z,H3,I3,r3,k,e,q3⟩=> ?_) U
 subst e
 cases r3
 exact wpAny_truthy_bool ⟨H3,I3,q3⟩
theorem Ua:(sizeLine:Nat)<2^63:=by rw [sizeLine_eq];decide
theorem vals1 {x:V}{z:List Value} (r:Vals [x] z):∃u,z=[u]/\RelV x u:=by
 cases r with
 | cons I J=>cases J;exact⟨_,rfl,I⟩
theorem vals2 {x y:V}{z:List Value} (r:Vals [x,y] z):∃u I,z=[u,I]/\RelV x u/\RelV y I:=by
 cases r with
 | cons J M=>
   cases M with
   | cons O S=>cases S;exact⟨_,_,rfl,J,O⟩
theorem Ny:Jm X (.builtin "abs") (fun xs H Q=>∃i,xs=[.int i]/\Q (.int (if i<0 then-i else i)) H):=by
 intro pins s σ H xs z Q I r h
 obtain⟨i,rfl,q⟩:=h
 obtain⟨u,rfl,t,rfl⟩:=vals1 r
 exact call_abs_int fun u tk=>⟨.int (if i<0 then-i else i),H,I.tok _,⟨_,rfl⟩,q⟩
theorem Rh (J:X.calm=true):Jm X (.builtin "max") (fun xs H Q=>∃i j,xs=[.int i,.int j]/\Q (.int (if j>i then j else i)) H):=by
 intro pins s σ H xs M Q I r h
 obtain⟨i,j,rfl,q⟩:=h
 obtain⟨u,O,rfl,⟨t,rfl⟩,⟨S,rfl⟩⟩:=vals2 r
 refine max_two_ints (I.ok.hd J) fun h' tk k=>⟨_,H,I.kept k,?_,q⟩
 by_cases z:j>i
 . rw [if_pos z,if_pos z];exact⟨_,rfl⟩
 . rw [if_neg z,if_neg z];exact⟨_,rfl⟩
theorem Abx:Jm X (.type "int") (fun xs H Q=>(∃i,xs=[.int i]/\Q (.int i) H)\/∃k,xs=[.bl k]/\Q (.int (if k then 1 else 0)) H):=by
 intro pins s σ H xs J Q I r h
 rcases h with⟨i,rfl,q⟩ | ⟨k,rfl,q⟩
 . obtain⟨u,rfl,t,rfl⟩:=vals1 r
   exact call_int_int ⟨.int i,H,I,⟨_,rfl⟩,q⟩
 . obtain⟨u,rfl,z⟩:=vals1 r
   cases z
   exact call_int_bool ⟨.int (if k then 1 else 0),H,I.tok _,⟨_,rfl⟩,q⟩
end
structure Aod (h:Heap) (x dx C:Addr) (mA:Str->Option Value):Prop where
 obj:h.get? x=some (instObj C dx)
 ns:h.Ns1 dx mA
 ne:dx≠x
theorem Acz {h:Heap}{dx:Addr}{J:Str->Option Value} (n:h.Ns1 dx J):∃M,h.get? dx=some M/\∀name,lookIn name M=some (J name):=by
 obtain⟨o,es,ep,O,S,U,_,Y⟩:=n
 refine⟨o,O,fun name=> ?_⟩
 have e:=Y name
 unfold nsFind findBy at e
 rw [<-Array.find?_toList]at e
 unfold lookIn
 rw [S]
 dsimp only
 split
 . rename_i y q
   rw [q]at e
   exact congrArg some e
 . rename_i q
   rw [q]at e
   have a:es.toList.any (·.refKey)=false:=by
    rw [List.any_eq_false]
    intro y Z
    obtain⟨z,t,I⟩:=U y (Array.mem_toList_iff.mp Z)
    simp [DictEntry.refKey,I]
   have a':¬es.toList.any (·.refKey)=true:=by rw [a];exact Bool.false_ne_true
   rw [if_neg a']
   exact congrArg some e
theorem Aod.look {h:Heap}{x dx C:Addr}{J:Str->Option Value} (I:Aod h x dx C J):∃z,InstAt h x (instObj C dx) C (some z)/\∀name,lookIn name z=some (J name):=
 let ⟨z,ho,hl⟩:=Acz I.ns
 ⟨z,⟨I.obj,rfl,rfl,ho⟩,hl⟩
section
variable {P:Program}{w:World}{H H':Hp}{h h':Heap}{a C dx:Addr}{fs fs':List (Str × V)}
theorem Ai1 (J:HOk P w H h) (e:H a=some (.ins C dx fs)):∃I,Aod h a dx C I/\(∀f,Ae8 (fs.lookup f) (I f))/\PySem.Within I (fs.map (·.1))/\fs.length<=1000/\H dx=some (.own a):=by
 obtain⟨d,z,M,O,I,n,r,q⟩:=(show Jc P w H h a (.ins C dx fs)from J a _ e)
 exact⟨I,⟨O,n,M⟩,r,q,z,d⟩
end
structure Cls (K:Frag) (C:Addr):Prop where
 pg:plainGet K C Str.empty=true
 hd:PySem.W.hasDictIn K C=true
 po:PySem.W.plainOver K C=true
 sa:findIn K (.ref C) "__setattr__"=some (some (.builtin "object.__setattr__"))
theorem Cls.get {K:Frag}{C:Addr} (c:Cls K C) (f:Str):plainGet K C f=true:=c.pg
structure Con (K:Frag) (C:Addr) (f:Str) (v:V) (u:Value):Prop where
 at_:findIn K (.ref C) f=some (some u)
 rel:RelV v u
 get:specialIn K u "__get__"=some none
 cp:PySem.W.copiedNames.contains f=false
structure Meth (K:Frag) (C:Addr) (m:Str) (f:Addr):Prop where
 at_:findIn K (.ref C) m=some (some (.ref f))
 fn:isFn K (.ref f)=true
 kp:keepIn K (.ref f)=true
section
variable {X:Cx}{pins:List (Addr × Obj)}{σ:St}{H:Hp}{s:Shared}{A:Around}{E:Value->Shared->Prop}{Q:Value->Shared->Prop}{c:Value}{b:Bool}
inductive Xg (K:Frag) (H:Hp):V->Value->Prop where
 | non:Xg K H .non (.type "NoneType")
 | bl (x:Bool):Xg K H (.bl x) (.type "bool")
 | int (i:Int):Xg K H (.int i) (.type "int")
 | str (x:Str):Xg K H (.str x) (.type "str")
 | flt (x:UInt64):Xg K H (.flt x) (.type "float")
 | lst {a:Addr}{xs:List V} (e:H a=some (.lst xs)):Xg K H (.ref a) (.type "list")
 | frz {a:Addr}{o:Obj}{xs:List V} (e:H a=some (.frz o (.lst xs))):Xg K H (.ref a) (.type "list")
 | tup {a:Addr}{xs:List V} (e:H a=some (.tup xs)):Xg K H (.ref a) (.type "tuple")
 | dK {a:Addr}{kvs:List (Key × V)} (e:H a=some (.dK kvs)):Xg K H (.ref a) (.type "dict")
 | dT {a:Addr}{kvs:List (List Key × V)} (e:H a=some (.dT kvs)):Xg K H (.ref a) (.type "dict")
 | ins {a C dx:Addr}{fs:List (Str × V)} (e:H a=some (.ins C dx fs)) (cl:Cls K C) (ha:findIn K (.ref C) "__class__"=some (some (.builtin "object.__class__")))
    (hn:specialIn K (.builtin "object.__class__") "__get__"=some (some (.builtin "getset_descriptor.__get__"))) (htk:PySem.W.takesIn K (.builtin "object.__class__")=some true)
    (hm:mroIn K C (.type "object")=some true):Xg K H (.ref a) (.ref C)
theorem Acs {x:V}{u t:Value} (I:Inv X pins σ H s) (M:RelV x u) (ty:Xg X.K H x t) (e:kitOne X.K t c=some b) (h:∀tk,Q (.bool b) { s with toks:=tk}):
 wpAny (model X.prog X.w) A (call (.builtin "isinstance") [u,c]) Q E s:=by
 cases ty with
 | non=>cases(show u=Value.none from M);exact kia_one PySem.W.kitx_none I.kIn True.intro e (fun z=>nomatch z) h
 | bl y=>cases(show u=Value.bool y from M);exact kia_one PySem.W.kitx_bool I.kIn True.intro e (fun z=>nomatch z) h
 | int i=>obtain⟨t,q⟩:=(show ∃t,u=Value.int i t from M);cases q;exact kia_one PySem.W.kitx_int I.kIn True.intro e (fun z=>nomatch z) h
 | str y=>obtain⟨t,q⟩:=(show ∃t,u=Value.str y t from M);cases q;exact kia_one PySem.W.kitx_str I.kIn True.intro e (fun z=>nomatch z) h
 | flt y=>obtain⟨t,q⟩:=(show ∃t,u=Value.float y t from M);cases q;exact kia_one PySem.W.kitx_float I.kIn True.intro e (fun z=>nomatch z) h
 | @lst a xs S=>
   cases(show u=Value.ref a from M)
   obtain⟨_,_,n,_,h1⟩:=(show Jc X.prog X.w H s.heap a (.lst xs)from I.hok a _ S)
   exact kia_one kitx_list I.kIn ⟨_,h1,rfl⟩ e (fun z=>nomatch z) h
 | @frz a ob xs S=>
   cases(show u=Value.ref a from M)
   obtain⟨_,_,_,n,_,h1⟩:=(show Jc X.prog X.w H s.heap a (.frz ob (.lst xs))from I.hok a _ S)
   exact kia_one kitx_list I.kIn ⟨_,h1,rfl⟩ e (fun z=>nomatch z) h
 | @tup a xs S=>
   cases(show u=Value.ref a from M)
   obtain⟨_,_,_,p⟩:=(show Jc X.prog X.w H s.heap a (.tup xs)from I.hok a _ S)
   obtain⟨o,h1,h2,_⟩:=p
   exact kia_one kitx_tuple I.kIn ⟨o,h1,h2⟩ e (fun z=>nomatch z) h
 | @dK a U S=>
   cases(show u=Value.ref a from M)
   obtain⟨_,_,vs,_,p⟩:=(show Jc X.prog X.w H s.heap a (.dK U)from I.hok a _ S)
   obtain⟨o,es,ep,h1,h2,_⟩:=p
   exact kia_one kitx_dict I.kIn ⟨o,h1,h2.1⟩ e (fun z=>nomatch z) h
 | @dT a U S=>
   cases(show u=Value.ref a from M)
   obtain⟨_,_,xs,_,o,es,ep,h1,h2,_⟩:=(show Jc X.prog X.w H s.heap a (.dT U)from I.hok a _ S)
   exact kia_one kitx_dict I.kIn ⟨o,h1,h2.1⟩ e (fun z=>nomatch z) h
 | @ins a C dx fs S Z ha hn Y hm=>
   cases(show u=Value.ref a from M)
   obtain⟨mA,O,_⟩:=Ai1 I.hok S
   obtain⟨od,J,_⟩:=O.look
   exact kia_one (PySem.W.kitx_own (Z.get _) Z.hd ha hn Y hm) I.kIn J e (fun z=>nomatch z) h
end
structure Mz (k:Nat) (A:Around):Prop where
 hd:A.handled=none
 dp:A.depth+3*k+5<recursionLimit
 un:A.units+16*k+200<cLine
theorem Mz.mono {j k:Nat}{A:Around} (r:Mz k A) (h:j<=k):Mz j A:=⟨r.hd,by have:=r.dp;omega,by have:=r.un;omega⟩
theorem Mz.deeper {k:Nat}{A:Around} (r:Mz (k+1) A) (env:Env):Mz k (A.deeper env):=
 ⟨r.hd,by have:=r.dp;show A.depth+1+3*k+5<_;omega,by have:=r.un;show A.units+3+16*k+200<_;omega⟩
theorem Mz.depth {k:Nat}{A:Around} (r:Mz k A):A.depth<recursionLimit:=by have:=r.dp;omega
theorem Mz.units {k:Nat}{A:Around} (r:Mz k A):A.units+64<cLine:=by have:=r.un;omega
noncomputable def Aoa:TA:=fun _ H Q=>Q [] H
noncomputable def Aeq (ta:TE) (tr:TA):TA:=fun σ H Q=>ta σ H fun x H1=>tr σ H1 fun xs H2=>Q (x::xs) H2
section
variable {X:Cx}{e:Expr}{es:List Expr}{te:TE}{t:TA}{pos:Pos}
theorem Al7:PA X [] Aoa:=fun _ _ _ _ H Q I h=>Calls.spliced_nil ⟨[],H,I,.nil,h⟩
theorem Aji (z:PE X e te) (J:PA X es t) (M:starEach (e::es) X.env=(false,eval e X.env)::starEach es X.env:=by rfl):PA X (e::es) (Aeq te t):=by
 intro pos pins s σ H Q I h
 rw [M]
 show wpAny _ _ (spliced ((false,eval e X.env)::backTo pos (starEach es X.env))) _ _ s
 refine Calls.spliced_cons (thn (z pins s σ H _ I h) fun u O ⟨x,H1,S,U,W⟩=> ?_)
 exact thn (J pos pins O σ H1 _ S W) fun us s2 ⟨xs,H2,Y,Z,q2⟩=>⟨x::xs,H2,Y,.cons U Z,q2⟩
noncomputable def Apj (t:TA):TE:=fun σ H Q=>t σ H fun xs H1=>xs.length<=sizeLine/\∀p,H1 p=none->Q (.ref p) (upd H1 p (.tup xs))
noncomputable def Apd (t:TA):TE:=fun σ H Q=>t σ H fun xs H1=>xs.length<=sizeLine/\∀p,H1 p=none->Q (.ref p) (upd H1 p (.lst xs))
theorem Amh {x1} (h:PA X es t):PE X (.Tuple es x1 pos) (Apj t):=by
 intro pins s σ H Q I O
 refine wpAny_Tuple_spliced (thn (h pos pins s σ H _ I O) fun S J ⟨xs,H1,M,r,z,q⟩=>⟨by rw [<-r.length];exact z,?_⟩)
 have U:H1 J.heap.objs.size=none:=M.hok.fresh (le_refl _)
 refine⟨.ref J.heap.objs.size,upd H1 J.heap.objs.size (.tup xs),M.laid (t':=J.toks) (fun b u e=>Heap.get?_push_of_some _ e) (le_refl _) ?_,rfl,q _ U⟩
 exact⟨z,S,r,⟨_,Heap.get?_push_size _ rfl,rfl,_,rfl⟩⟩
theorem Amc (h:PA X es t):PE X (.List es pos) (Apd t):=by
 intro pins s σ H Q I O
 refine wpAny_List_spliced (thn (h pos pins s σ H _ I O) fun S J ⟨xs,H1,M,r,z,q⟩=>⟨by rw [<-r.length];exact z,?_⟩)
 have U:H1 J.heap.objs.size=none:=M.hok.fresh (le_refl _)
 refine⟨.ref J.heap.objs.size,upd H1 J.heap.objs.size (.lst xs),M.laid (t':=J.toks) (fun b u e=>Heap.get?_push_of_some _ e) (le_refl _) ?_,rfl,q _ U⟩
 exact⟨z,S,0,r,Heap.get?_push_size _ rfl⟩
end
noncomputable abbrev Sp:=List V->Hp->VK->XK->Prop
noncomputable abbrev CXT:=List Env->Hp->Shared->XK->Value->Shared->Prop
structure Aif (P:Program) (w:World) (K:Frag) (mg:Str->Option Value) (base:Heap) (A:Around) (outer:List Env) (s:Shared) (H:Hp):Prop where
 frames:A.frames=some outer
 mod:Mod K mg base
 bs:∀b o,base.get? b=some o->s.heap.get? b=some o/\H b=none
 bsz:base.objs.size<=s.heap.objs.size
 funs:s.heap.FunFrames base outer
 frf:∀b∈frs outer,H b=none
 hok:HOk P w H s.heap
 bare:AllBare s.gens
noncomputable def CE (outer:List Env) (P:Program) (w:World) (H:Hp) (s:Shared) (Q:VK) (u:Value) (s':Shared):Prop:=
 ∃v H',s'.os=s.os/\AllBare s'.gens/\Un (frs outer) [] H H' s.heap s'.heap/\HOk P w H' s'.heap/\RelV v u/\Q v H'
noncomputable def CR (CX:CXT) (outer:List Env) (P:Program) (w:World) (H:Hp) (s:Shared) (Q:VK) (E:XK) (r:Result) (s':Shared):Prop:=
 match r with
 | .ok (.ret u)=>CE outer P w H s Q u s'
 | .ok _=>False
 | .error e=>CX outer H s E e s'
structure Ti (P:Program) (w:World) (K:Frag) (mg:Str->Option Value) (base:Heap) (CX:CXT) (k:Nat) (f:Addr) (fd:FuncData) (ps:List Str) (sp:Sp):Prop where
 len:∀vs H Q E,sp vs H Q E->vs.length=ps.length
 run:∀(A:Around) (outer:List Env) (s:Shared) (H:Hp) (args:Args) (us:List Value) (vs:List V) (Q:VK) (E:XK),Mz k A->Aif P w K mg base A outer s H->BindsTo s fd args (ps.zip us)->Vals vs us->sp vs H Q E->
  codeAny (model P w) A (.call (.ref f) args) (CR CX outer P w H s Q E) s
theorem Ti.mono {P:Program}{w:World}{K:Frag}{mg:Str->Option Value}{base:Heap}{CX:CXT}{j k:Nat}{f:Addr}{fd:FuncData}{ps:List Str}{sp:Sp} (F:Ti P w K mg base CX j f fd ps sp) (h:j<=k):
 Ti P w K mg base CX k f fd ps sp:=⟨F.len,fun A outer s H args z I Q E J=>F.run A outer s H args z I Q E (J.mono h)⟩
section
variable {X:Cx}{pins:List (Addr × Obj)}{σ:St}{H:Hp}{s s':Shared}
theorem Inv.env0 (I:Inv X pins σ H s):Aif X.prog X.w X.K X.mg X.base X.A X.stack s H:=
 ⟨I.ok.frames,I.ok.mod,I.bs,le_trans I.ok.bsz I.sz,I.stack,I.stkFree,I.hok,I.bare⟩
theorem Inv.after {Q:VK}{u:Value} (I:Inv X pins σ H s) (h:CE X.stack X.prog X.w H s Q u s'):EP X pins σ Q u s':=by
 obtain⟨v,H',S,J,un,M,r,q⟩:=h
 obtain⟨U,g,d,t,O⟩:=s'
 obtain rfl:O=s.os:=S
 exact⟨v,H',I.call (h':=U) (g':=g) (d':=d) (t':=t) (ch:=[]) un M J (fun b z=>absurd z (by simp)),r,q⟩
end
noncomputable def T4 (sp:Sp) (dvs:List V) (E:XK) (t:TA):TE:=fun σ H Q=>t σ H fun vs H1=>sp (vs++dvs) H1 Q E
noncomputable def Binds (K:Frag) (fd:FuncData) (ps:List Str) (ds:List Value):Prop:=
 ∀(s:Shared) (us:List Value),K.In s.heap->(us++ds).length=ps.length->BindsTo s fd ⟨us,[]⟩ (ps.zip (us++ds))
theorem Binds.all {K:Frag}{fd:FuncData}{ps:List Str} (h:∀z:List Value,z.length=ps.length->bindArgs fd ⟨z,[]⟩=pure (ps.zip z)):Binds K fd ps []:=fun s z _ I=>by
 rw [append_nil]at I ⊢
 exact .of_eq (h z I)
noncomputable def Passes (CX:CXT) (X:Cx) (E:XK):Prop:=∀(pins:List (Addr × Obj)) (σ:St) (H:Hp) (s:Shared) (e:Value) (s':Shared),Inv X pins σ H s->CX X.stack H s E e s'->X.xe e s'
section
variable {X:Cx}{CX:CXT}{k:Nat}{f C:Addr}{fd:FuncData}{ps:List Str}{sp:Sp}{dvs:List V}{ds:List Value}{E:XK}{x m:Str}{p pos apos:Pos}{e o:Expr}{es:List Expr}{ta:TE}{t:TA}
theorem Ah3 {pins:List (Addr × Obj)}{σ:St}{H:Hp}{s:Shared}{Q:VK}{z:List Value}{M:List V} (F:Ti X.prog X.w X.K X.mg X.base CX k f fd ps sp) (S:Mz k X.A) (U:Binds X.K fd ps ds) (W:Vals dvs ds) (Y:Passes CX X E)
 (I:Inv X pins σ H s) (r:Vals M z) (h:sp (M++dvs) H Q E):wpAny (model X.prog X.w) X.A (call (.ref f) z) (EP X pins σ Q) X.xe s:=by
 have O:Vals (M++dvs) (z++ds):=r.append W
 have Z:(z++ds).length=ps.length:=by rw [<-O.length];exact F.len _ _ _ _ h
 refine wpAny_call (codeAny_mono (F.run X.A X.stack s H ⟨z,[]⟩ (z++ds) (M++dvs) Q E S I.env0 (U s z I.kIn Z) O h) fun r s' J=> ?_)
 cases r with
 | error e=>exact Y pins σ H s e s' I J
 | ok fl=>
   cases fl with
   | ret u=>exact I.after J
   | next=>exact False.elim J
   | brk=>exact False.elim J
   | cont=>exact False.elim J
theorem Adp (F:Ti X.prog X.w X.K X.mg X.base CX k f fd ps sp) (O:Mz k X.A) (S:Gl X x) (U:X.mg x=some (.ref f)) (Y:keepIn X.K (.ref f)=true) (Z:Binds X.K fd ps ds) (hd:Vals dvs ds) (hx:Passes CX X E)
 (ha:PA X (e::es) t) (z:(x==("__debug__":Str))=false:=by decide) (he:starEach (e::es) X.env=(false,eval e X.env)::starEach es X.env:=by rfl) (J:(backTo pos (starEach es X.env)).any (·.1)=false:=by rfl):
 PE X (.Call (.Name x p) (e::es) [] pos) (T4 sp dvs E t):=by
 intro pins s σ H Q I h
 refine wpAny_Call_Name_kw (Xr I S U ?_ z)
 refine callWith_K (h₀:=X.base) I.ok.mod.kin Y (thn (ha pos pins s σ H _ I h) fun us s1 ⟨vs,H1,M,r,q⟩=>⟨M.kIn,?_⟩) he J
 exact Ah3 F O Z hd hx M r q
structure Mk (K:Frag) (C f:Addr):Prop where
 makes:PySem.W.makesIn K C=true
 init:findIn K (.ref C) "__init__"=some (some (.ref f))
 fn:isFn K (.ref f)=true
 kp:keepIn K (.ref C)=true
end
section
variable {X:Cx}{CX:CXT}{k:Nat}{f C:Addr}{fd:FuncData}{ps ks:List Str}{sp:Sp}{E:XK}{x m:Str}{p pos apos kpos:Pos}{e o:Expr}{es:List Expr}{kws:List Keyword}{te ta:TE}{t tk:TA}{nm:Option Str}
structure Aqi (K:Frag) (fd:FuncData) (ps ks:List Str) (g:List Value->List Value->List Value) (gV:List V->List V->List V):Prop where
 to:∀(s:Shared) (us ws:List Value),K.In s.heap->(g us ws).length=ps.length->BindsTo s fd ⟨us,ks.zip ws⟩ (ps.zip (g us ws))
 rel:∀ {vs:List V}{us:List Value}{zs:List V}{ws:List Value},Vals vs us->Vals zs ws->Vals (gV vs zs) (g us ws)
variable {g:List Value->List Value->List Value}{gV:List V->List V->List V}
end
structure Bc (N P:List Str) (sc:Scope):Prop where
 kind:sc.kind= .function
 co:sc.isCoroutine=false
 gen:sc.isGenerator=false
 nd:N.Nodup
 pre:N.take P.length=P
 par:∀x∈P,sc.names.lookup x=some .local \/sc.names.lookup x=some .cell
 nofree:∀y∈sc.names,y.2≠ .free
theorem V5 {kindOf:Str->Option NameKind}{x:Str}:∀ {binds:List (Str × Value)}{m:Str->Option Value},(∀v,(x,v)∉binds)->bindL kindOf binds m x=m x
 | [],_,_=>rfl
 | (n,v)::r,m,h=>by
   unfold bindL
   rw [V5 fun w z=>h w (mem_cons_of_mem _ z)]
   split
   . have:x≠n:=by rintro rfl;exact h v mem_cons_self
     simp [this]
   . rfl
theorem V3 {kindOf:Str->Option NameKind}{x:Str}:∀ {binds:List (Str × Value)}{m:Str->Option Value},(∀v,(x,v)∉binds)->bindC kindOf binds m x=m x
 | [],_,_=>rfl
 | (n,v)::r,m,h=>by
   unfold bindC
   rw [V3 fun w z=>h w (mem_cons_of_mem _ z)]
   split
   . rfl
   . have:x≠n:=by rintro rfl;exact h v mem_cons_self
     simp [this]
theorem V4 {kindOf:Str->Option NameKind}{x:Str}{v:Value}:∀ {P:List Str}{z:List Value}{i:Nat}{m:Str->Option Value},P.Nodup->P[i]? =some x->z[i]? =some v->kindOf x=some .local ->
 bindL kindOf (P.zip z) m x=some v
 | [],_,_,_,_,h,_,_=>by simp at h
 | _::_,[],_,_,_,_,h,_=>by simp at h
 | p::P,w::z,0,m,nd,h1,h2,hk=>by
   simp at h1 h2;subst h1;subst h2
   show bindL kindOf ((p,w)::P.zip z) m p=_
   unfold bindL
   rw [V5 fun v hv=>(nodup_cons.mp nd).1 (of_mem_zip hv).1,if_pos hk]
   simp
 | p::P,w::z,i+1,m,nd,h1,h2,hk=>by
   show bindL kindOf ((p,w)::P.zip z) m x=_
   unfold bindL
   exact V4 (i:=i) (nodup_cons.mp nd).2 (by simpa using h1) (by simpa using h2) hk
theorem V2 {kindOf:Str->Option NameKind}{x:Str}{v:Value}:∀ {P:List Str}{z:List Value}{i:Nat}{m:Str->Option Value},P.Nodup->P[i]? =some x->z[i]? =some v->kindOf x≠some .local ->
 bindC kindOf (P.zip z) m x=some v
 | [],_,_,_,_,h,_,_=>by simp at h
 | _::_,[],_,_,_,_,h,_=>by simp at h
 | p::P,w::z,0,m,nd,h1,h2,hk=>by
   simp at h1 h2;subst h1;subst h2
   show bindC kindOf ((p,w)::P.zip z) m p=_
   unfold bindC
   rw [V3 fun v hv=>(nodup_cons.mp nd).1 (of_mem_zip hv).1,if_neg hk]
   simp
 | p::P,w::z,i+1,m,nd,h1,h2,hk=>by
   show bindC kindOf ((p,w)::P.zip z) m x=_
   unfold bindC
   exact V2 (i:=i) (nodup_cons.mp nd).2 (by simpa using h1) (by simpa using h2) hk
noncomputable def start (N:List Str) (vs:List V):St:=vs.map some++replicate (N.length-vs.length) none
noncomputable def Rj (CX:CXT) (P:Program) (w:World) (K:Frag) (mg:Str->Option Value) (base:Heap) (N:List Str) (qual:Str) (scope:Scope) (f:Addr) (cd:Value) (A:Around) (outer:List Env) (s:Shared) (H:Hp) (E:XK):Cx where
 prog:=P
 w:=w
 K:=K
 mg:=mg
 base:=base
 A:=A.deeper (envOfC qual scope s.heap.objs.size f cd)
 N:=N
 s₀:=s
 H₀:=H
 env:=envOfC qual scope s.heap.objs.size f cd
 outer:=outer
 stack:=envOfC qual scope s.heap.objs.size f cd::outer
 ex:=[]
 calm:=true
 fn:=fun _=>true
 pn:=[]
 xe:=fun e s'=>wpAny (model P w) (A.deeper (envOfC qual scope s.heap.objs.size f cd)) (leaving (envOfC qual scope s.heap.objs.size f cd) e) (fun _ s''=>CX outer H s E e s'') (fun e' s''=>CX outer H s E e' s'') s'
theorem Y6 {sc:Scope}{n:Nat}{x:Str} (h:sc.names.lookup x=some .cell):∃c,(cellsFrom n sc.names []).lookup x=some c:=by
 have q:=cellsFrom_some sc.names n [] (.inl h)
 exact Option.isSome_iff_exists.mp q
theorem Acq {CX:CXT}{P:Program}{w:World}{K:Frag}{mg:Str->Option Value}{base:Heap}{N ps:List Str}{qual:Str}{scope:Scope}{f:Addr}{cd:Value}{A:Around}{outer:List Env}{s s1:Shared}{H:Hp}{E:XK}{Z:List Value}{J:List V}
 (S:Bc N ps scope) (hd:A.handled=none) (I:Aif P w K mg base A outer s H) (hl:J.length=ps.length) (r:Vals J Z)
 (x:InCallC s s.heap.objs.size (bindL (envOfC qual scope s.heap.objs.size f cd).kindOf (ps.zip Z) fun _=>none) (cellsFrom (s.heap.objs.size+1) scope.names []) (bindC (envOfC qual scope s.heap.objs.size f cd).kindOf (ps.zip Z) fun _=>none) s1):
 Inv (Rj CX P w K mg base N qual scope f cd A outer s H E) [] (start N J) H s1:=by
 have a0:ps.length<=N.length:=by have:=congrArg List.length S.pre;rw [length_take]at this;omega
 obtain⟨h1,tk,rfl,hk⟩:=x.done
 have M:∀b:Addr,b∉(Rj CX P w K mg base N qual scope f cd A outer s H E).ex:=fun b z=>absurd (show b∈([]:List Addr)from z) (by simp)
 refine⟨⟨I.mod,S.kind,rfl,rfl,le_refl _,fun y z c h1 h2=> ?_,fun y O=> ?_,fun y c _ h=> ?_,fun _=>hd,Around.frames_deeper I.frames,.inr ⟨rfl,rfl⟩,fun b z=>absurd z (M b),I.bs,I.bsz,fun b _ _=>M b,fun b z=>absurd z (M b),I.funs,I.frf⟩,
  rfl,I.bare,Un.kept hk,⟨_,x.toInCall.ns,fun i y v h1 h2 h3=> ?_⟩,fun y c h=>⟨_,x.cell y c h⟩,I.hok.fresh (le_refl _),fun y c h=> ?_,fun p U=>absurd (show p∈([]:List (Addr × Obj))from U) (by simp),I.hok.kept hk,?_⟩
 . exact name_of_addr x.apart (PySem.mem_of_lookup h1) (PySem.mem_of_lookup h2)
 . have O:scope.names.lookup y=some .cell\/scope.names.lookup y=some .free:=O
   rcases O with O | O
   . exact Y6 O
   . exact absurd rfl (S.nofree _ (PySem.mem_of_lookup O))
 . exact le_of_lt (x.above y c (PySem.mem_of_lookup h))
 . have hi:i<J.length:=by
    unfold start at h2
    by_cases hi:i<J.length
    . exact hi
    . rw [getElem?_append_right (by simpa using hi)]at h2
      rw [getElem?_replicate]at h2
      split at h2<;>cases h2
   have ha:J[i]? =some v:=by
    unfold start at h2
    rw [getElem?_append_left (by simpa using hi),getElem?_map]at h2
    cases e:J[i]? with
    | none=>rw [e]at h2;cases h2
    | some a=>rw [e]at h2;cases h2;rfl
   obtain⟨u,hu,rv⟩:=r.get ha
   have U:ps[i]? =some y:=by
    rw [<-S.pre,List.getElem?_take_of_lt (by omega)];exact h1
   have Y:ps.Nodup:=by rw [<-S.pre];exact S.nd.sublist (List.take_sublist _ _)
   refine⟨u,rv,?_⟩
   rcases S.par y (List.mem_of_getElem? U)with k | k
   . exact .inl ⟨k,V4 Y U hu k⟩
   . obtain⟨c,e⟩:=Y6 (n:=s.heap.objs.size+1) k
     refine .inr ⟨.inl k,c,e,?_⟩
     have q:=x.cell y c e
     rw [V2 Y U hu (by show scope.names.lookup y≠_;rw [k];decide)]at q
     exact q
 . exact I.hok.fresh (le_of_lt (x.above y c (PySem.mem_of_lookup h)))
 . unfold start
   show _=N.length
   rw [length_append,length_map,length_replicate]
   omega
theorem Alb {CX:CXT}{P:Program}{w:World}{K:Frag}{mg:Str->Option Value}{base:Heap}{k:Nat}{f:Addr}{name qual:Str}{params:Arguments}{M:List Stmt}{scope:Scope}{dV kV a0 pm z ct oc:Value}{an od:Option Addr}
 {a3:Array (Option Value)}{N ps:List Str}{sp:Sp} (lk:K.lookup f=some ⟨oc,od,.func (PySem.W.fnOf name qual params M scope dV kV a0 pm an z ct),a3⟩) (a4:PySem.W.codeIn K z qual=true) (S:Bc N ps scope)
 (len:∀O H Q E,sp O H Q E->O.length=ps.length)
 (Y:∀(A:Around) (outer:List Env) (s:Shared) (H:Hp) (O:List V) (Q:VK) (E:XK),Mz k (A.deeper (envOfC qual scope s.heap.objs.size f z))->sp O H Q E->
   ∃t,PSs (Rj CX P w K mg base N qual scope f z A outer s H E) M t/\t { nx:=fun _ H'=>Q .non H',rt:=Q} (start N O) H):
 Ti P w K mg base CX (k+1) f (PySem.W.fnOf name qual params M scope dV kV a0 pm an z ct) ps sp:=by
 refine⟨len,fun A outer s H args us O Q E hr e0 hb r a1=> ?_⟩
 have hl:=len _ _ _ _ a1
 have KX:K.In s.heap:=e0.mod.kin.keeps fun b o e=>(e0.bs b o e).1
 have a5:s.heap.NoLimit:=e0.mod.nolimit.keeps fun b o e=>(e0.bs b o e).1
 have Z:∀y∈ps.zip us,scope.names.lookup y.1=some .local \/(scope.names.lookup y.1=some .cell/\((cellsFrom (s.heap.objs.size+1) scope.names []).lookup y.1).isSome=true):=fun⟨n,v⟩ hy=>by
  rcases S.par n (of_mem_zip hy).1 with q | q
  . exact .inl q
  . exact .inr ⟨q,cellsFrom_some _ _ _ (.inl q)⟩
 refine codeAny_call_function hr.depth (KX _ _ lk) rfl S.co S.gen rfl (PySem.W.codeRec_of KX a4) (hb _ _ _ _ ?_)
 refine wpAny_newFunctionEnv_cells S.kind Z fun env he s1 x=> ?_
 subst he
 refine⟨a5.keeps x.toInCall.keep,codeAny_func ?_⟩
 obtain⟨t,ht,hq⟩:=Y A outer s H O Q E (hr.deeper _) a1
 have I:Inv (Rj CX P w K mg base N qual scope f z A outer s H E) [] (start N O) H s1:=Acq S hr.hd e0 hl r x
 refine wpAny_mono (ht [] s1 (start N O) H _ I hq) (fun fl s' hs=> ?_) fun e s' hs=>hs
 have a2:∀ {U:St}{H':Hp}{v:V}{u:Value},Inv (Rj CX P w K mg base N qual scope f z A outer s H E) [] U H' s'->RelV v u->Q v H'->CE outer P w H s Q u s':=
  fun {U H' v u} J rv q=>⟨v,H',J.os,J.bare,J.base,J.hok,rv,q⟩
 cases fl with
 | ret u=>
   obtain⟨v,U,H',J,rv,q⟩:=hs
   exact a2 J rv q
 | next=>
   obtain⟨U,H',J,q⟩:=hs
   exact a2 (v:=V.non) (u:=Value.none) J rfl q
 | brk=>
   obtain⟨_,_,_,q⟩:=hs
   exact False.elim q
 | cont=>
   obtain⟨_,_,_,q⟩:=hs
   exact False.elim q
section
variable {X:Cx}{x:Str}{p pos:Pos}{e:Expr}{es:List Expr}{t:TA}{id T:String}{r:List V->Hp->VK->Prop}
noncomputable def tCB (r:List V->Hp->VK->Prop) (t:TA):TE:=fun σ H Q=>t σ H fun vs H1=>r vs H1 Q
theorem Af4 (M:Jm X (.builtin id) r) (O:Gl X x) (S:X.mg x=none) (hv:bootBuiltins x=some (.builtin id)) (U:PA X (e::es) t) (W:x≠"__name__":=by decide) (z:(x==("__debug__":Str))=false:=by decide)
 (Y:starEach (e::es) X.env=(false,eval e X.env)::starEach es X.env:=by rfl) (J:(backTo pos (starEach es X.env)).any (·.1)=false:=by rfl):PE X (.Call (.Name x p) (e::es) [] pos) (tCB r t):=by
 intro pins s σ H Q I h
 refine wpAny_Call_Name_kw (Qa I O S hv ?_ W z)
 exact PyProof.Rows.callWith_builtin1 (thn (U pos pins s σ H _ I h) fun Z s1 ⟨vs,H1,I1,r1,q1⟩=>M pins s1 σ H1 vs Z Q I1 r1 q1) Y J
theorem Adq (M:Jm X (.type T) r) (O:Gl X x) (S:X.mg x=none) (hv:bootBuiltins x=some (.type T)) (U:PA X (e::es) t) (W:x≠"__name__":=by decide) (z:(x==("__debug__":Str))=false:=by decide)
 (Y:starEach (e::es) X.env=(false,eval e X.env)::starEach es X.env:=by rfl) (J:(backTo pos (starEach es X.env)).any (·.1)=false:=by rfl):PE X (.Call (.Name x p) (e::es) [] pos) (tCB r t):=by
 intro pins s σ H Q I h
 refine wpAny_Call_Name_kw (Qa I O S hv ?_ W z)
 exact PyProof.Rows.callWith_type1 (thn (U pos pins s σ H _ I h) fun Z s1 ⟨vs,H1,I1,r1,q1⟩=>M pins s1 σ H1 vs Z Q I1 r1 q1) Y J
end
end L2
namespace HT
open PySem PyProof.Rows
section
variable {prog:Program}{w:World}{A:Around}{E:Value->Shared->Prop}{s:Shared}
theorem Aim {t b:Addr}{J z:List Value}{Q:Value->Shared->Prop} (ht:IsTup s.heap t J.toArray) (hb:IsTup s.heap b z.toArray) (hv:J≠ [])
 (h1:z=[]->Q (.ref t) s) (h2:z≠ []->Q (.ref s.heap.objs.size) { s with heap:=s.heap.push { cls:= .type "tuple",data:= .seq (J++z).toArray}})
 (Z:J.length+z.length<=sizeLine):wpAny (model prog w) A (binaryOp .Add (.ref t) (.ref b)) Q E s:=by
 obtain⟨⟨cls,dd,data,sl⟩,W,hc,n,hd⟩:=id ht
 obtain⟨⟨a0,M,data2,O⟩,I,S,n2,U⟩:=id hb
 simp only at hc hd S U
 subst hc hd S U
 have e:J.toArray++z.toArray=(J++z).toArray:=by simp
 by_cases Y:z=[]
 . exact concat_meets ⟨_,W,rfl⟩ ⟨_,I,rfl⟩ noFill_tuple_add seq_tuple_add slot_tuple_add entry_tuple_add (args_tuple_add_2 _ _)
    (tuple_addW1 t b J.toArray z.toArray n n2 dd M sl O (by simpa using hv) (by simp [Y])) ⟨W,I,h1 Y⟩
 . refine concat_meets ⟨_,W,rfl⟩ ⟨_,I,rfl⟩ noFill_tuple_add seq_tuple_add slot_tuple_add entry_tuple_add (args_tuple_add_2 _ _)
    (tuple_addW2 t b J.toArray z.toArray n n2 dd M sl O (by simpa using hv) (by simpa using Y) (by rw [size_toArray,size_toArray];exact Z)) ⟨W,I,?_⟩
   rw [e]
   exact h2 Y
noncomputable def sIx (n d:Nat):Option Int->Nat
 | none=>d
 | some v=>if v<0 then(v+(n:Int)).toNat else min v.toNat n
theorem Kd (n d:Nat):sIx n d none=d:=rfl
theorem O6 (n d k:Nat):sIx n d (some (k:Int))=min k n:=by
 show(if(k:Int)<0 then((k:Int)+(n:Int)).toNat else min (k:Int).toNat n)=min k n
 rw [if_neg (by omega),toNat_natCast]
theorem Am2 (n d:Nat) (z:d<=n) (o:Option Int):sIx n d o<=n:=by
 cases o with
 | none=>exact z
 | some v=>
   show(if v<0 then(v+(n:Int)).toNat else min v.toNat n)<=n
   by_cases hv:v<0
   . rw [if_pos hv];omega
   . rw [if_neg hv];exact Nat.min_le_right _ _
theorem Ab0 (v:Int) (n d:Nat):(if v<0 then max (v+(n:Int)) 0 else min v (n:Int))=((sIx n d (some v):Nat):Int):=by
 show(if v<0 then max (v+(n:Int)) 0 else min v (n:Int))=(((if v<0 then(v+(n:Int)).toNat else min v.toNat n):Nat):Int)
 by_cases hv:v<0
 . simp only [if_pos hv];omega
 . simp only [if_neg hv];omega
theorem Aac (lo hi:Option Int) (n:Nat):Builtin.Slice.sliceAdjust lo hi 1 (n:Int)=(((sIx n 0 lo:Nat):Int),((sIx n n hi:Nat):Int)):=by
 have h1:¬((1:Int)<0):=by omega
 unfold Builtin.Slice.sliceAdjust
 simp only [h1,if_false]
 refine Prod.ext ?_ ?_
 . cases lo with
   | none=>rfl
   | some v=>exact Ab0 v n 0
 . cases hi with
   | none=>rfl
   | some v=>exact Ab0 v n n
theorem Aa1 (i j:Nat):Builtin.Slice.slicePlaces (i:Int) (j:Int) 1=j-i:=by
 unfold Builtin.Slice.slicePlaces
 have h1:(1:Int)>0:=by omega
 simp only [h1,if_true,Int.ediv_one]
 split<;>omega
theorem Uh {v:Value}{o:Option Int}{Q:Option Int->Shared->Prop} (p:IsPart v o) (h:Q o s):wpAny (model prog w) A (Builtin.Slice.slicePartIndex v) Q E s:=by
 cases p with
 | none=>exact slicePart_none h
 | int i t=>exact slicePart_int h
theorem Ky {O:Addr}{J M:Value}{lo hi:Option Int}{n:Nat}{Q:Int × Int × Nat->Shared->Prop} (S:s.heap.IsSliceOf O J M .none) (U:IsPart J lo) (W:IsPart M hi)
 (h:Q (((sIx n 0 lo:Nat):Int),1,sIx n n hi-sIx n 0 lo) s):wpAny (model prog w) A (Builtin.Slice.sliceApplied (.ref O) (pure (n:Int))) Q E s:=by
 obtain⟨Z,z,Y,I⟩:=id S
 unfold Builtin.Slice.sliceApplied Builtin.Slice.sliceFields
 refine wpAny_bind (wpAny_bind (wpAny_field z I (x:=J) rfl (wpAny_bind (wpAny_field z I (x:=M) rfl (wpAny_bind (wpAny_field z I (x:= .none) rfl (wpAny_pure ?_)))))))
 refine wpAny_bind (slicePart_none ?_)
 show wpAny _ _ (if((1:Int)==0)=true then _ else _) _ _ s
 rw [if_neg (by decide)]
 refine wpAny_bind (Uh U (wpAny_bind (Uh W (wpAny_bind (wpAny_pure ?_)))))
 show wpAny _ _ (match Builtin.Slice.sliceAdjust lo hi 1 (n:Int)with | (lo,hi)=>pure (lo,(1:Int),Builtin.Slice.slicePlaces lo hi 1)) _ _ s
 rw [Aac lo hi n]
 show wpAny _ _ (pure (((sIx n 0 lo:Nat):Int),(1:Int),Builtin.Slice.slicePlaces ((sIx n 0 lo:Nat):Int) ((sIx n n hi:Nat):Int) 1)) _ _ s
 rw [Aa1]
 exact wpAny_pure h
theorem Af9 (xs:Array Value) (i k:Nat):((List.range k).filterMap fun(m:Nat)=>xs[((i:Int)+(m:Int)*1).toNat]?).toArray=((xs.toList.drop i).take k).toArray:=by
 have e:(fun(m:Nat)=>xs[((i:Int)+(m:Int)*1).toNat]?)=fun m=>xs[i+m]? :=by
  funext m
  have:((i:Int)+(m:Int)*1).toNat=i+m:=by omega
  rw [this]
 rw [e]
 have:=pick_run xs i k
 rw [List.filterMap_map]at this
 have z:((fun x=>xs[x]?) ∘ fun x=>i+x)=fun m=>xs[i+m]? :=rfl
 rw [z]at this
 rw [this]
theorem O5 {t J:Addr}{items:Array Value}{W Y:Value}{lo hi:Option Int}{Q:Value->Shared->Prop} (I:IsTup s.heap t items) (Z:s.heap.IsSliceOf J W Y .none) (pl:IsPart W lo) (pu:IsPart Y hi)
 (hw:¬(sIx items.size 0 lo=0/\sIx items.size items.size hi=items.size))
 (h:Q (.ref s.heap.objs.size) { s with heap:=s.heap.push { cls:= .type "tuple",data:= .seq ((items.toList.drop (sIx items.size 0 lo)).take (sIx items.size items.size hi-sIx items.size 0 lo)).toArray}})
 (a0:items.size<=sizeLine):wpAny (model prog w) A (getItem (.ref t) (.ref J)) Q E s:=by
 have z:sizeOk (.seq ((items.toList.drop (sIx items.size 0 lo)).take (sIx items.size items.size hi-sIx items.size 0 lo)).toArray):=by
  show((items.toList.drop (sIx items.size 0 lo)).take (sIx items.size items.size hi-sIx items.size 0 lo)).toArray.size<=sizeLine
  rw [size_toArray,length_take,length_drop,Array.length_toList]
  omega
 have hj:sIx items.size items.size hi<=items.size:=Am2 _ _ (le_refl _) hi
 obtain⟨os,M,O,a1⟩:=id Z
 have S:s.TypeIs (.ref J) "slice":=⟨os,M,O⟩
 unfold getItem
 try with_reducible refine wpAny_holding ?_
 first | refine wpAny_bind (wpAny_pure ?_) | skip
 refine wpAny_bind (wpAny_sequenceKey I.typeIs (by decide) ?_)
 refine wpAny_bind (wpAny_callSpecial?_slot (name:=Str.ofString "__getitem__") I.typeIs PyProof.Rows.slot_tuple_getitem
  (wpAny_call_entry PyProof.Rows.slot_tuple_getitem I.typeIs entry_tuple_getitem ?_ (args_tuple_getitem _ _)))
 show wpAny _ _ (Builtin.Tuple.tupleItemsOf (.ref t)>>=_) _ _ s
 refine wpAny_bind (tupleItemsOf_ I ?_)
 refine wpAny_bind (wpAny_typeOf S ?_)
 rw [if_pos (by decide)]
 refine wpAny_bind (Ky Z pl pu ?_)
 have U:¬((((sIx items.size 0 lo:Nat):Int)==0&&(1:Int)==1&&(sIx items.size items.size hi-sIx items.size 0 lo)==items.size)=true):=by
  intro q
  rw [and_eq_true,and_eq_true]at q
  have q1:((sIx items.size 0 lo:Nat):Int)=0:=eq_of_beq q.1.1
  have q2:sIx items.size items.size hi-sIx items.size 0 lo=items.size:=eq_of_beq q.2
  exact hw ⟨by omega,by omega⟩
 show wpAny _ _ (if(((sIx items.size 0 lo:Nat):Int)==0&&(1:Int)==1&&(sIx items.size items.size hi-sIx items.size 0 lo)==items.size)=true then _ else _) _ _ s
 rw [if_neg U,Af9]
 first
  | exact wpAny_bind (m:=Builtin.Tuple.tupleExact _) (wpAny_newObj_type (wpAny_pure ⟨_,rfl,wpAny_pure h⟩) z)
  | exact wpAny_bind (m:=Builtin.Tuple.tupleExact _) (wpAny_newObj_type (wpAny_bind (wpAny_pure (wpAny_pure ⟨_,rfl,wpAny_pure h⟩))) z)
  | exact wpAny_bind (wpAny_bind (m:=Builtin.Tuple.tupleExact _) (wpAny_newObj_type (wpAny_pure (wpAny_pure ⟨_,rfl,wpAny_pure h⟩)) z))
  | exact wpAny_bind (wpAny_bind (m:=Builtin.Tuple.tupleExact _) (wpAny_newObj_type (wpAny_pure ⟨_,rfl,wpAny_pure h⟩) z))
end
end HT
namespace L2
open PySem PySem.Spec PyProof.Rows
noncomputable abbrev TO:=St->Hp->(Option Int->Hp->Prop)->Prop
noncomputable def PO (X:Cx) (e:Option Expr) (t:TO):Prop:=
 ∀(pins:List (Addr × Obj)) (s:Shared) (σ:St) (H:Hp) (Q:Option Int->Hp->Prop),Inv X pins σ H s->t σ H Q->
   wpAny (model X.prog X.w) X.A (evalPart e X.env) (fun u s'=>∃o H',Inv X pins σ H' s'/\IsPart u o/\Q o H') X.xe s
noncomputable def Yw:TO:=fun _ H Q=>Q none H
noncomputable def Ake (t:TE):TO:=fun σ H Q=>t σ H fun x H1=>∃i,x= .int i/\Q (some i) H1
section
variable {X:Cx}{e:Expr}{te:TE}{lo hi:Option Expr}{tl th:TO}{pos p2:Pos}
theorem Ajs:PO X none Yw:=by
 intro pins s σ H Q I h
 rw [evalPart_none]
 exact wpAny_pure ⟨none,H,I,.none,h⟩
theorem Ajt (h:PE X e te):PO X (some e) (Ake te):=by
 intro pins s σ H Q I z
 rw [evalPart_some]
 refine thn (h pins s σ H _ I z) fun u S ⟨x,H1,J,M,O⟩=> ?_
 obtain⟨i,rfl,q⟩:=O
 obtain⟨t,rfl⟩:=M
 exact⟨some i,H1,J,.int i t,q⟩
noncomputable def SlR (X:Cx) (r:V->Option Int->Option Int->Hp->VK->Prop):Prop:=
 ∀(pins:List (Addr × Obj)) (s:Shared) (σ:St) (H:Hp) (x:V) (v vl vu:Value) (lo hi:Option Int) (sl:Addr) (Q:VK),Inv X pins σ H s->RelV x v->s.heap.IsSliceOf sl vl vu .none->IsPart vl lo->IsPart vu hi->r x lo hi H Q->
   ∃T id,typeLookup (.type T) "__getitem__"=pure (some (.builtin id))/\s.TypeIs v T/\wpAny (model X.prog X.w) X.A (getItem v (.ref sl)) (EP X pins σ Q) X.xe s
noncomputable def tSl (r:V->Option Int->Option Int->Hp->VK->Prop) (te:TE) (tl th:TO):TE:=fun σ H Q=>te σ H fun x H1=>tl σ H1 fun l H2=>th σ H2 fun u H3=>r x l u H3 Q
theorem Af7 {r:V->Option Int->Option Int->Hp->VK->Prop} (S:SlR X r) (U:PE X e te) (W:PO X lo tl) (Y:PO X hi th):PE X (.Subscript e (.Slice lo hi none p2) pos) (tSl r te tl th):=by
 intro pins s σ H Q I h
 refine Subscript_ (thn (U pins s σ H _ I h) fun v Z ⟨x,H1,I1,r1,q1⟩=> ?_)
 refine wpAny_Slice (thn (W pins Z σ H1 _ I1 q1) fun J s2 ⟨l,H2,I2,pl,q2⟩=>thn (Y pins s2 σ H2 _ I2 q2) fun M z ⟨u,O,I3,pu,q3⟩=> ?_)
 rw [evalPart_none]
 refine wpAny_pure ?_
 have I4:Inv X pins σ O { z with heap:=z.heap.push { cls:= .type "slice",data:= .fields #[J,M,.none]}}:=I3.kept (t':=z.toks) fun b ob q=>Heap.get?_push_of_some _ q
 obtain⟨T,id,hT,ht,hg⟩:=S pins { z with heap:=z.heap.push { cls:= .type "slice",data:= .fields #[J,M,.none]}} σ O x v J M l u z.heap.objs.size Q I4 r1 (Heap.IsSliceOf.new ..) pl pu q3
 show wpAny (model X.prog X.w) X.A (subscriptTail e (.Slice lo hi none p2) v (.ref z.heap.objs.size)) (EP X pins σ Q) X.xe { z with heap:=z.heap.push { cls:= .type "slice",data:= .fields #[J,M,.none]}}
 exact tail_any (ops:=[.ref z.heap.objs.size,v]) ht hT hg (by with_unfolding_all rfl)
noncomputable def K6 (xs:List V) (lo hi:Option Int):List V:=(xs.drop (HT.sIx xs.length 0 lo)).take (HT.sIx xs.length xs.length hi-HT.sIx xs.length 0 lo)
theorem Ka (xs:List V) (lo hi:Option Int):(K6 xs lo hi).length<=xs.length:=by
 unfold K6
 rw [length_take,length_drop]
 omega
noncomputable def Aq6 (K:Frag):V->Option Int->Option Int->Hp->VK->Prop:=fun x lo hi H Q=>∃a xs,x= .ref a/\SqT K H a xs/\
 ¬(HT.sIx xs.length 0 lo=0/\HT.sIx xs.length xs.length hi=xs.length)/\∀p,H p=none->Q (.ref p) (upd H p (.tup (K6 xs lo hi)))
theorem Am7:SlR X (Aq6 X.K):=by
 intro pins s σ H x v vl vu lo hi sl Q I S U W Y h
 obtain⟨a,xs,rfl,Z,hw,q⟩:=h
 cases S
 obtain⟨J,r,M,O⟩:=I.tuple Z
 have z:J.toArray.size=xs.length:=by rw [size_toArray];exact r.length.symm
 refine⟨"tuple",_,PyProof.Rows.slot_tuple_getitem.lookup,M.typeIs,?_⟩
 refine HT.O5 M U W Y (by rw [z];exact hw) ?_ (by rw [z];exact O)
 rw [z]
 refine⟨.ref s.heap.objs.size,_,I.laid (t':=s.toks) (o:= .tup (K6 xs lo hi)) (fun b ob q=>Heap.get?_push_of_some _ q) (le_refl _) ?_,rfl,q _ (I.hok.fresh (le_refl _))⟩
 exact⟨le_trans (Ka xs lo hi) O,_,(r.drop (HT.sIx xs.length 0 lo)).take (HT.sIx xs.length xs.length hi-HT.sIx xs.length 0 lo),IsTup.new _ _⟩
noncomputable def Aoz (K:Frag):R2:=fun x y H Q=>∃a b xs ys,x= .ref a/\y= .ref b/\SqT K H a xs/\SqT K H b ys/\xs≠ []/\xs.length+ys.length<=sizeLine/\
 (ys=[]->Q (.ref a) H)/\(ys≠ []->∀p,H p=none->Q (.ref p) (upd H p (.tup (xs++ys))))
theorem Vals.nil_iff {xs:List V}{z:List Value} (r:Vals xs z):z=[]↔xs=[]:=by
 cases r with
 | nil=>simp
 | cons _ _=>simp
theorem Ajf:OpR X (binaryOp .Add) (Aoz X.K):=by
 intro pins s σ H x y v u Q I U W h
 obtain⟨a,b,xs,ys,rfl,rfl,Y,Z,hx,O,q1,q2⟩:=h
 cases U
 cases W
 obtain⟨a0,M,p1,_⟩:=I.tuple Y
 obtain⟨S,J,p2,_⟩:=I.tuple Z
 refine HT.Aim p1 p2 (fun z=>hx (M.nil_iff.mp z)) (fun z=>⟨.ref a,H,I,rfl,q1 (J.nil_iff.mp z)⟩) (fun z=> ?_) (by rw [<-M.length,<-J.length];exact O)
 refine⟨.ref s.heap.objs.size,_,I.laid (t':=s.toks) (o:= .tup (xs++ys)) (fun b ob q=>Heap.get?_push_of_some _ q) (le_refl _) ?_,rfl,q2 (fun w=>z (J.nil_iff.mpr w)) _ (I.hok.fresh (le_refl _))⟩
 exact⟨by rw [length_append];exact O,_,M.append J,IsTup.new _ _⟩
end
noncomputable def ixN (n:Nat) (i:Int):Option Nat:=if 0<=i then(if i<n then some i.toNat else none)else if-(n:Int)<=i then some (i+n).toNat else none
noncomputable def atI {α:Type} (xs:List α) (i:Int):Option α:=(ixN xs.length i).bind fun j=>xs[j]?
theorem Acv {n:Nat}{i:Int}{j:Nat} (h:ixN n i=some j):seqIndex? i n=some j/\j<n/\ -(n:Int)<=i/\i<n:=by
 unfold ixN at h
 by_cases z:0<=i
 . rw [if_pos z]at h
   by_cases h1:i<n
   . rw [if_pos h1]at h
     have e:i.toNat=j:=Option.some.inj h
     exact⟨by rw [seqIndex_of z h1,e],by omega,by omega,h1⟩
   . rw [if_neg h1]at h;cases h
 . rw [if_neg z]at h
   by_cases h1: -(n:Int)<=i
   . rw [if_pos h1]at h
     have e:(i+n).toNat=j:=Option.some.inj h
     exact⟨by rw [seqIndex_neg (by omega) h1,e],by omega,h1,by omega⟩
   . rw [if_neg h1]at h;cases h
theorem Abw {α:Type}{xs:List α}{i:Int}{v:α} (h:atI xs i=some v):∃j,seqIndex? i xs.length=some j/\xs[j]? =some v/\j<xs.length/\ -(xs.length:Int)<=i/\i<xs.length:=by
 unfold atI at h
 cases e:ixN xs.length i with
 | none=>rw [e]at h;cases h
 | some j=>
   rw [e]at h
   obtain⟨h1,h2,z,I⟩:=Acv e
   exact⟨j,h1,h,h2,z,I⟩
theorem Bk {α:Type}{xs:List α}{j:Nat}{v:α} (h:xs[j]? =some v):atI xs (j:Int)=some v:=by
 have z:j<xs.length:=(List.getElem?_eq_some_iff.mp h).1
 have e:ixN xs.length (j:Int)=some j:=by
  unfold ixN
  rw [if_pos (by omega),if_pos (by omega)];simp
 unfold atI;rw [e];exact h
theorem Nx {α:Type} (xs:List α) (v:α):atI (xs++ [v]) (-1)=some v:=by
 have z:(xs++ [v]).length=xs.length+1:=by simp
 have e:ixN (xs++ [v]).length (-1)=some xs.length:=by
  unfold ixN
  rw [z,if_neg (by decide),if_pos (by omega)]
  congr 1
  omega
 unfold atI
 rw [e]
 show(xs++ [v])[xs.length]? =some v
 simp
noncomputable def Abt (b:Expr):Prop:=∀o i,subscripted b false o i=operate [o,i] (getItem o i)
noncomputable def IxR (X:Cx) (r:R2):Prop:=
 ∀(value slice:Expr) (pins:List (Addr × Obj)) (s:Shared) (σ:St) (H:Hp) (x y:V) (v u:Value) (Q:VK),Inv X pins σ H s->RelV x v->RelV y u->r x y H Q->
   subscripted slice false v u=operate [v,u] (getItem v u)->wpAny (model X.prog X.w) X.A (subscriptTail value slice v u) (EP X pins σ Q) X.xe s
noncomputable def MtR (X:Cx) (id:String) (r:V->List V->Hp->VK->Prop):Prop:=
 ∀(pins:List (Addr × Obj)) (s:Shared) (σ:St) (H:Hp) (x:V) (xs:List V) (v:Value) (us:List Value) (Q:VK),Inv X pins σ H s->RelV x v->Vals xs us->r x xs H Q->
   wpAny (model X.prog X.w) X.A (call (.builtin id) (v::us)) (EP X pins σ Q) X.xe s
section
variable {X:Cx}{a b:Expr}{ta tb:TE}{pos:Pos}
theorem Aos {r:R2} (z:IxR X r) (J:PE X a ta) (M:PE X b tb) (O:Abt b):PE X (.Subscript a b pos) (tOp r ta tb):=by
 intro pins s σ H Q I h
 exact Subscript_ (Aog J M I h fun v u S x y H2 U W Y q=>z a b pins S σ H2 x y v u Q U W Y q (O _ _))
noncomputable def Ah2 (K:Frag):R2:=fun x y H Q=>∃p xs i v,x= .ref p/\y= .int i/\SqL K H p xs/\atI xs i=some v/\Q v H
noncomputable def Amw (K:Frag):R2:=fun x y H Q=>∃p xs i v,x= .ref p/\y= .int i/\SqT K H p xs/\atI xs i=some v/\Q v H
theorem Ec:IxR X (Ah2 X.K):=by
 intro value slice pins s σ H x y v u Q I rx ry h W
 obtain⟨p,xs,i,z,rfl,rfl,hq,he,q⟩:=h
 cases rx
 obtain⟨t,rfl⟩:=ry
 obtain⟨M,r,O,hz⟩:=I.list hq
 obtain⟨j,h1,h2,h3,h4,h5⟩:=Abw he
 obtain⟨w,Y,S⟩:=r.get h2
 have hl:=r.length
 have hn:=Ua
 have J:EP X pins σ Q w s:=⟨z,H,I,S,q⟩
 by_cases Z:0<=i
 . have U:i.toNat=j:=by
    rw [seqIndex_of Z h5]at h1
    exact Option.some.inj h1
   exact item_listR O.isList Z (by omega) (by rw [U];simpa using Y) J W
 . have U:(i+(M.toArray.size:Int)).toNat=j:=by
    rw [seqIndex_neg (by omega) h4]at h1
    rw [size_toArray,<-hl]
    exact Option.some.inj h1
   exact subscriptTail_builtinR (x:=w) O.isList.typeIs slot_list_getitem.lookup
    (wpAny_getItem_list_neg (Q:=fun r s'=>r=w/\EP X pins σ Q r s') O.isList (by omega) (by rw [size_toArray]<;>omega) (by omega) (by rw [U];simpa using Y) ⟨rfl,J⟩) W
theorem Bx:IxR X (Amw X.K):=by
 intro value slice pins s σ H x y v u Q I S U h W
 obtain⟨p,xs,i,z,rfl,rfl,Y,Z,q⟩:=h
 cases S
 obtain⟨t,rfl⟩:=U
 obtain⟨a0,r,O,hz⟩:=I.tuple Y
 obtain⟨j,h1,h2,h3,h4,h5⟩:=Abw Z
 obtain⟨w,ew,J⟩:=r.get h2
 have hl:=r.length
 have hn:=Ua
 have M:EP X pins σ Q w s:=⟨z,H,I,J,q⟩
 exact subscriptTail_builtinR (x:=w) O.typeIs slot_tuple_getitem.lookup
  (getItem_tuple (j:=j) (Q:=fun r s'=>r=w/\EP X pins σ Q r s') O (by omega) (by omega) (by rw [size_toArray,<-hl];exact h1) (by simpa using ew) ⟨rfl,M⟩) W
theorem Aak (its:List Value) (n j:Nat) (u:Value):Obj.mapSeq (·.setIfInBounds j u) { cls:= .type "list",data:= .seq its.toArray n}={ cls:= .type "list",data:= .seq (its.set j u).toArray n}:=by
 simp [Obj.mapSeq]
theorem Inv.lst {pins:List (Addr × Obj)}{σ:St}{H:Hp}{s:Shared}{p:Addr}{xs:List V} (I:Inv X pins σ H s) (h:H p=some (.lst xs)):
 ∃(its:List Value) (n:Nat),Vals xs its/\s.heap.get? p=some { cls:= .type "list",data:= .seq its.toArray n}/\xs.length<=sizeLine:=by
 obtain⟨z,its,n,r,e⟩:=I.hok p _ h
 exact⟨its,n,r,e,z⟩
theorem Inv.lstUpd {pins:List (Addr × Obj)}{σ:St}{H:Hp}{s:Shared}{p:Addr}{xs ys:List V}{its its':List Value}{n n':Nat}{f:Obj->Obj} (I:Inv X pins σ H s) (h:H p=some (.lst xs))
 (J:s.heap.get? p=some { cls:= .type "list",data:= .seq its.toArray n}) (z:f { cls:= .type "list",data:= .seq its.toArray n}={ cls:= .type "list",data:= .seq its'.toArray n'}) (r:Vals ys its') (M:ys.length<=sizeLine) (t:Nat):
 Inv X pins σ (upd H p (.lst ys)) { s with heap:=s.heap.update p f,toks:=t}:=by
 have e:(s.heap.update p f).get? p=some { cls:= .type "list",data:= .seq its'.toArray n'}:=by
  rw [Heap.get?_update_self f J (by rw [z]<;>rfl),z]
 refine I.write (x:=p) (e:=p) (by rw [h];trivial) (.inl rfl) (fun b u O q=>(Heap.get?_update_other _ _ (Ne.symm O)).trans q) ⟨_,e⟩ ?_
 exact⟨M,its',n',r,e⟩
noncomputable def Amx:V->V->V->Hp->(Hp->Prop)->Prop:=fun o i v H Q=>∃p xs k j,o= .ref p/\i= .int k/\H p=some (.lst xs)/\ixN xs.length k=some j/\Q (upd H p (.lst (xs.set j v)))
theorem set_list:Aoe X Amx:=by
 intro pins s σ H o i v ov iv u Q I ro ri rv h
 obtain⟨p,xs,k,j,rfl,rfl,S,hj,q⟩:=h
 cases ro
 obtain⟨t,rfl⟩:=ri
 obtain⟨z,n,r,J,hz⟩:=I.lst S
 obtain⟨h1,h2,U,Y⟩:=Acv hj
 have M:=r.length
 have hn:=Ua
 have Z:Inv X pins σ (upd H p (.lst (xs.set j v))) { s with heap:=s.heap.update p (Obj.mapSeq (·.setIfInBounds j u))}:=
  I.lstUpd S J (Aak z n j u) (r.set rv j) (by rw [length_set];exact hz) s.toks
 by_cases h0:0<=k
 . have O:k.toNat=j:=by
    rw [seqIndex_of h0 Y]at h1
    exact Option.some.inj h1
   exact PySem.W.ki_setAt J h0 (by omega) (by rw [size_toArray,<-M];exact Y) (by rw [O];exact⟨_,Z,q⟩)
 . have O:(k+(z.toArray.size:Int)).toNat=j:=by
    rw [seqIndex_neg (by omega) U]at h1
    rw [size_toArray,<-M]
    exact Option.some.inj h1
   exact PySem.W.ki_setBack J (by omega) (by rw [size_toArray,<-M];exact U) (by omega) (by rw [O];exact⟨_,Z,q⟩)
theorem Wz (lo hi:Option Int) (n:Nat):(sliceBounds lo hi none n).1=((HT.sIx n 0 lo:Nat):Int)/\(sliceBounds lo hi none n).2.1=((HT.sIx n n hi:Nat):Int)/\(sliceBounds lo hi none n).2.2=1:=by
 refine⟨?_,?_,rfl⟩
 . cases lo with
   | none=>simp [sliceBounds,HT.sIx]
   | some i=>
     simp only [sliceBounds,HT.sIx,getD_none,show(1:Int)>0 by decide,if_true]
     by_cases h:i<0
     . simp only [h,if_true]<;>omega
     . simp only [h,if_false]<;>omega
 . cases hi with
   | none=>simp [sliceBounds,HT.sIx]
   | some i=>
     simp only [sliceBounds,HT.sIx,getD_none,show(1:Int)>0 by decide,if_true]
     by_cases h:i<0
     . simp only [h,if_true]<;>omega
     . simp only [h,if_false]<;>omega
theorem Vq (its:List Value) (lo hi:Option Int):slicePick its.toArray lo hi none=((its.drop (HT.sIx its.length 0 lo)).take (HT.sIx its.length its.length hi-HT.sIx its.length 0 lo)).toArray:=by
 obtain⟨h1,h2,z⟩:=Wz lo hi its.toArray.size
 unfold slicePick
 rw [h1,h2,z]
 simp only [sliceRange_one,pick_run,size_toArray]<;>rfl
noncomputable def Aqr (K:Frag):V->Option Int->Option Int->Hp->VK->Prop:=fun x lo hi H Q=>∃a xs,x= .ref a/\SqL K H a xs/\∀p,H p=none->Q (.ref p) (upd H p (.lst (K6 xs lo hi)))
theorem Vp:SlR X (Aqr X.K):=by
 intro pins s σ H x v vl vu lo hi sl Q I M O S U h
 obtain⟨a,xs,rfl,W,q⟩:=h
 cases M
 obtain⟨Y,r,J,Z⟩:=I.list W
 have z:=r.length
 refine⟨"list",_,slot_list_getitem.lookup,J.isList.typeIs,?_⟩
 refine wpAny_getItem_list_slice J.isList O S U .none (by simp) ?_ (by rw [size_toArray]<;>omega)
 rw [Vq,<-z]
 refine⟨.ref s.heap.objs.size,_,I.laid (t':=s.toks) (o:= .lst (K6 xs lo hi)) (fun b ob q=>Heap.get?_push_of_some _ q) (le_refl _) ?_,rfl,q _ (I.hok.fresh (le_refl _))⟩
 exact⟨le_trans (Ka xs lo hi) Z,_,0,(r.drop (HT.sIx xs.length 0 lo)).take (HT.sIx xs.length xs.length hi-HT.sIx xs.length 0 lo),Heap.get?_push_size _ rfl⟩
theorem Az:Jm X (.builtin "len") (fun xs H Q=>∃p ys,xs=[.ref p]/\(SqL X.K H p ys\/SqT X.K H p ys)/\Q (.int ys.length) H):=by
 intro pins s σ H xs Y Q I r h
 obtain⟨p,ys,rfl,J,q⟩:=h
 obtain⟨u,rfl,U⟩:=vals1 r
 cases U
 have Z:=Ua
 rcases J with J | J
 . obtain⟨M,O,S,W⟩:=I.list J
   have z:=O.length
   exact Calls.call_len_list S.isList (by simp only [size_toArray]<;>omega) ⟨.int ys.length,H,I.tok _,⟨s.toks+1,by rw [size_toArray,z]⟩,q⟩
 . obtain⟨M,O,S,W⟩:=I.tuple J
   have z:=O.length
   exact len_tuple S (by simp only [size_toArray]<;>omega) ⟨.int ys.length,H,I.tok _,⟨s.toks+1,by rw [size_toArray,z]⟩,q⟩
theorem Fp:Jm X (.type "list") (fun xs H Q=>∃p ys,xs=[.ref p]/\(SqL X.K H p ys\/SqT X.K H p ys)/\∀l,H l=none->Q (.ref l) (upd H l (.lst ys))):=by
 intro pins s σ H xs us Q I r h
 obtain⟨p,ys,rfl,O,q⟩:=h
 obtain⟨u,rfl,rx⟩:=vals1 r
 cases rx
 have S:∀(z:List Value),Vals ys z->ys.length<=sizeLine->∀(h':Heap) (J:Nat),(∀b o',s.heap.get? b=some o'->h'.get? b=some o')->
  h'.get? s.heap.objs.size=some { cls:= .type "list",dict:=none,data:= .seq z.toArray J,slots:= #[]}->EP X pins σ Q (.ref s.heap.objs.size) { s with heap:=h'}:=fun z M U h' J W e=>
  ⟨.ref s.heap.objs.size,_,I.laid (t':=s.toks) W (le_refl _) (show Jc X.prog X.w _ h' _ (.lst ys)from⟨U,z,J,M,e⟩),rfl,q _ (I.hok.fresh (le_refl _))⟩
 rcases O with O | O
 . obtain⟨z,M,Z,U⟩:=I.list O
   have Y:=M.length
   obtain⟨o,ho,hc,n,hd⟩:=Z.isList
   exact call_list_seq p (.inl rfl) ho hc hd (fun h' J W e=>S z M U h' J W e) (by simp only [size_toArray]<;>omega)
 . obtain⟨z,M,Z,U⟩:=I.tuple O
   have Y:=M.length
   obtain⟨o,ho,hc,n,hd⟩:=Z
   exact call_list_seq p (.inr rfl) ho hc hd (fun h' J W e=>S z M U h' J W e) (by simp only [size_toArray]<;>omega)
theorem Ey:Jm X (.type "tuple") (fun xs H Q=>∃p ys,xs=[.ref p]/\((SqL X.K H p ys/\∀l,H l=none->Q (.ref l) (upd H l (.tup ys)))\/(SqT X.K H p ys/\Q (.ref p) H))):=by
 intro pins s σ H xs us Q I r h
 obtain⟨p,ys,rfl,h⟩:=h
 obtain⟨u,rfl,Y⟩:=vals1 r
 cases Y
 rcases h with⟨J,q⟩ | ⟨J,q⟩
 . obtain⟨z,M,O,S⟩:=I.list J
   have U:=M.length
   refine call_tuple_list O.isList (fun h' Z=> ?_) (by simp only [size_toArray]<;>omega)
   have W:Inv X pins σ H { s with heap:=h'}:=I.kept (t':=s.toks) Z
   have I2:Inv X pins σ (upd H h'.objs.size (.tup ys)) { s with heap:=h'.push { cls:= .type "tuple",data:= .seq z.toArray}}:=
    W.laid (t':=s.toks) (fun b o e=>Heap.get?_push_of_some _ e) (le_refl _) (show Jc X.prog X.w _ _ _ (.tup ys)from⟨S,z,M,IsTup.new _ _⟩)
   exact⟨.ref h'.objs.size,_,I2,rfl,q _ (W.hok.fresh (le_refl _))⟩
 . obtain⟨z,M,O,S⟩:=I.tuple J
   exact call_tuple_same O ⟨.ref p,H,I,rfl,q⟩
noncomputable def tyV (K:Frag) (T:String) (x:V) (H:Hp):Prop:=match x with
 | .str _=>T="str"
 | .int _=>T="int"
 | .ref p=>(T="list"/\∃xs,SqL K H p xs)\/(T="tuple"/\∃o,K.lookup p=some o/\o.cls= .type "tuple"/\o.dict=none)\/
    (T="dict"/\((∃kvs,H p=some (.dK kvs))\/∃kvs,H p=some (.dT kvs)))\/(T="set"/\∃S n,H p=some (.set S n))
 | _=>False
theorem Aic {pins:List (Addr × Obj)}{σ:St}{H:Hp}{s:Shared}{T:String}{x:V}{v:Value} (I:Inv X pins σ H s) (r:RelV x v) (ty:tyV X.K T x H):
 s.TypeIs v T/\∀a,v= .ref a->∃W,s.heap.get? a=some W/\W.dict=none:=by
 cases x with
 | str z=>
   obtain⟨t,rfl⟩:=r
   cases(show T="str" from ty)
   exact⟨typeIs_str s z t,fun _ e=>nomatch e⟩
 | int i=>
   obtain⟨t,rfl⟩:=r
   cases(show T="int" from ty)
   exact⟨typeIs_int s i t,fun _ e=>nomatch e⟩
 | ref p=>
   cases r
   rcases ty with⟨rfl,xs,Z⟩ | ⟨rfl,o,J,hc,M⟩ | ⟨rfl,J⟩ | ⟨rfl,S,n,J⟩
   . obtain⟨a0,_,Y,_⟩:=I.list Z
     refine⟨Y.isList.typeIs,fun a e=> ?_⟩
     cases e
     obtain⟨o,n,e,c,M,_⟩:=Y
     exact⟨o,e,M⟩
   . refine⟨⟨o,I.kIn p o J,hc⟩,fun a e=> ?_⟩
     cases e
     exact⟨o,I.kIn _ o J,M⟩
   . have z:∃o,s.heap.get? p=some o/\o.ExactDict:=by
      rcases J with⟨O,J⟩ | ⟨O,J⟩
      . obtain⟨_,_,_,_,o,_,_,e,ex,_⟩:=I.hok p _ J
        exact⟨o,e,ex⟩
      . obtain⟨_,_,_,_,o,_,_,e,ex,_⟩:=I.hok p _ J
        exact⟨o,e,ex⟩
     obtain⟨o,e,ex⟩:=z
     refine⟨⟨o,e,ex.1⟩,fun a U=> ?_⟩
     cases U
     exact⟨o,e,ex.2.1⟩
   . obtain⟨o,_,_,_,e,ex,_⟩:=I.hok p _ J
     refine⟨⟨o,e,ex.1⟩,fun a U=> ?_⟩
     cases U
     exact⟨o,e,ex.2.1⟩
 | _=>exact False.elim ty
noncomputable def Apa (K:Frag) (T:String) (r:V->List V->Hp->VK->Prop) (to:TE):TE:=fun σ H Q=>to σ H fun x H1=>tyV K T x H1/\r x [] H1 Q
noncomputable def tBM (K:Frag) (T:String) (r:V->List V->Hp->VK->Prop) (to:TE) (t:TA):TE:=fun σ H Q=>to σ H fun x H1=>tyV K T x H1/\t σ H1 fun xs H2=>r x xs H2 Q
variable {o e:Expr}{es:List Expr}{to:TE}{t:TA}{name:Str}{apos cpos:Pos}{T id:String}{r:V->List V->Hp->VK->Prop}
theorem Adn (W:PlainAttrs T) (M:Slot T name id) (O:typeOf (.builtin id)=pure (.type "method_descriptor")) (Y:MtR X id r) (Z:PE X o to)
 (z:attributeBase o name X.env (eval o X.env)=eval o X.env:=by rfl) (J:(apos.endLine==cpos.line)=true:=by rfl):PE X (.Call (.Attribute o name apos) [] [] cpos) (Apa X.K T r to):=by
 intro pins s σ H Q I h
 refine wpAny_Call_method0_late z J (thn (Z pins s σ H _ I h) fun v s1 ⟨x,H1,S,U,ty,q1⟩=> ?_)
 obtain⟨h1,h2⟩:=Aic S U ty
 exact⟨T,id,W,M,O,h1,h2,Calls.callWith_builtin rfl (PySem.evalArgs_none (Y pins s1 σ H1 x [] v [] Q S U .nil q1))⟩
theorem Aay (pa:PlainAttrs T) (O:Slot T name id) (U:typeOf (.builtin id)=pure (.type "method_descriptor")) (hm:MtR X id r) (ho:PE X o to) (ha:PA X (e::es) t)
 (J:attributeBase o name X.env (eval o X.env)=eval o X.env:=by rfl)
 (S:((backTo cpos (starEach (e::es) X.env)).all (fun x=> !x.1)&&(backToKw cpos (keywordEach [] X.env)).all (fun x=>x.1.isSome)
   &&decide ((e::es).length+([]:List Keyword).length+(if([]:List Keyword).isEmpty then 0 else 1)<30))=true:=by rfl)
 (M:(apos.endLine==cpos.line)=true:=by rfl) (hs:starEach (e::es) X.env=(false,eval e X.env)::starEach es X.env:=by rfl) (z:(backTo cpos (starEach es X.env)).any (·.1)=false:=by rfl):
 PE X (.Call (.Attribute o name apos) (e::es) [] cpos) (tBM X.K T r to t):=by
 intro pins s σ H Q I h
 refine wpAny_Call_method_late J S M rfl (thn (ho pins s σ H _ I h) fun v s1 ⟨x,H1,W,Y,ty,q1⟩=> ?_)
 obtain⟨h1,h2⟩:=Aic W Y ty
 refine⟨T,id,pa,O,U,h1,h2,?_⟩
 have Z:=ha cpos pins s1 σ H1 _ W q1
 rw [hs]at Z ⊢
 refine Calls.callWith_builtin (by show(false||(backTo cpos (starEach es X.env)).any (·.1))=false;rw [z]<;>rfl) (Calls.evalArgs_plain ?_)
 exact thn Z fun us s2 ⟨vs,H2,I2,r2,q2⟩=>hm pins s2 σ H2 x vs v us Q I2 Y r2 q2
/-xs.append(e),list.index on a module's tuple .. are MtR facts of 06m-/
end
noncomputable def MtM (X:Cx) (id:String) (r:V->List V->Hp->VK->Prop):Prop:=
 ∀(pins:List (Addr × Obj)) (s:Shared) (σ:St) (H:Hp) (x:V) (xs:List V) (v:Value) (us:List Value) (Q:VK),Inv X pins σ H s->RelV x v->Vals xs us->r x xs H Q->
   wpAny (model X.prog X.w) X.A (call (.builtin id) (v::us)) (EP X pins σ Q) X.xe s
theorem Vals.one:∀ {x:V}{z:List Value},Vals [x] z->∃u,z=[u]/\RelV x u
 | _,_,.cons r .nil=>⟨_,rfl,r⟩
theorem Vals.zero:∀ {z:List Value},Vals [] z->z=[]
 | _,.nil=>rfl
theorem Vals.dropLast {xs:List V}{z:List Value} (h:Vals xs z):Vals xs.dropLast z.dropLast:=by
 induction h with
 | nil=>exact .nil
 | cons r t I=>
   cases t with
   | nil=>exact .nil
   | cons q J=>exact .cons r I
theorem Vals.rep {xs:List V}{z:List Value} (h:Vals xs z):∀k:Nat,Vals (replicate k xs).flatten (replicate k z).flatten
 | 0=> .nil
 | k+1=>by
   rw [replicate_succ,replicate_succ,flatten_cons,flatten_cons]
   exact Vals.append h (Vals.rep h k)
theorem Aag {α:Type} (l:List α):l.eraseIdx (l.length-1)=l.dropLast:=by
 induction l with
 | nil=>rfl
 | cons a r z=>
   cases r with
   | nil=>rfl
   | cons b r=>
     have e:(a::b::r).length-1=((b::r).length-1)+1:=by
      have h1:(a::b::r).length=r.length+2:=rfl
      have h2:(b::r).length=r.length+1:=rfl
      omega
     rw [e,List.eraseIdx_cons_succ,z]
     all_goals rfl
theorem foldl_rep (its:List Value):∀(k:Nat) (z:List Value),
 foldl (fun x1 I=>x1++I) z.toArray (replicate k its.toArray)=(z++(replicate k its).flatten).toArray
 | 0,z=>by simp
 | k+1,z=>by
   have e:z.toArray++its.toArray=(z++its).toArray:=by simp
   have J:(z++its)++(replicate k its).flatten=z++(replicate (k+1) its).flatten:=by
    rw [replicate_succ,flatten_cons,append_assoc]
   rw [<-J,<-foldl_rep its k (z++its),<-e,replicate_succ,foldl_cons]
section
variable {X:Cx}{pins:List (Addr × Obj)}{σ:St}{H:Hp}{s:Shared}{l b:Addr}{xs ys zs:List V}
theorem Inv.lset {its its':List Value}{n:Nat}{f:Array Value->Array Value}{t':Nat} (I:Inv X pins σ H s) (z:H l=some (.lst xs))
 (e:s.heap.get? l=some { cls:= .type "list",data:= .seq its.toArray n}) (J:f its.toArray=its'.toArray) (hv:Vals ys its') (M:ys.length<=sizeLine):
 Inv X pins σ (upd H l (.lst ys)) { s with heap:=s.heap.update l (Obj.mapSeq f),toks:=t'}:=by
 have q:=PySem.IsL.update e f
 rw [J]at q
 refine I.write (x:=l) (e:=l) (by rw [z];exact trivial) (.inl rfl) (fun U u O S=>(Heap.get?_update_other s.heap (Obj.mapSeq f) (Ne.symm O)).trans S) ⟨_,q⟩ ?_
 exact⟨M,its',_,hv,q⟩
theorem Inv.lnew {its:List Value}{t':Nat} (I:Inv X pins σ H s) (hv:Vals ys its) (z:ys.length<=sizeLine):
 Inv X pins σ (upd H s.heap.objs.size (.lst ys)) { s with heap:=s.heap.push { cls:= .type "list",data:= .seq its.toArray},toks:=t'}:=
 I.laid (fun _ _ q=>Heap.get?_push_of_some _ q) (le_refl _) ⟨z,its,0,hv,Heap.get?_push_size _ rfl⟩
theorem Inv.fresh (I:Inv X pins σ H s):H s.heap.objs.size=none:=I.hok.fresh (le_refl _)
theorem Inv.lstM (I:Inv X pins σ H s) (J:H l=some (.lst xs)):xs.length<=sizeLine/\∃(its:List Value) (n:Nat),Vals xs its/\xs.length=its.length/\s.heap.get? l=some { cls:= .type "list",data:= .seq its.toArray n}:=by
 obtain⟨z,its,n,r,e⟩:=I.hok l _ J
 exact⟨z,its,n,r,r.length,e⟩
theorem Afx {n:Nat} (h:n<=sizeLine):Builtin.List.listTooLong n=false:=by
 unfold Builtin.List.listTooLong
 exact decide_eq_false (by omega)
end
section
variable {X:Cx}
noncomputable def Ad6:V->List V->Hp->VK->Prop:=fun x vs H Q=>∃l xs y,x= .ref l/\vs=[y]/\H l=some (.lst xs)/\xs.length<sizeLine/\Q .non (upd H l (.lst (xs++ [y])))
theorem Jz:MtM X "list.append" Ad6:=by
 intro pins s σ H x W v Y Q I O S h
 obtain⟨l,xs,y,rfl,rfl,M,Z,q⟩:=h
 cases O
 obtain⟨u,rfl,U⟩:=S.one
 obtain⟨z,J,n,r,hl,e⟩:=I.lstM M
 refine call_meets F.slot_list_append ⟨_,e,rfl⟩ F.entry_list_append (F.args_list_append_2 _ _) (PySem.list_append l J.toArray n u (by rw [size_toArray];omega)) ⟨e,?_⟩
 refine⟨.non,_,I.lset (its':=J++ [u]) M e (by simp) (r.append (.cons U .nil)) ?_,rfl,q⟩
 rw [length_append,length_singleton]
 omega
noncomputable def Aq3:V->List V->Hp->VK->Prop:=fun x vs H Q=>∃l xs y,x= .ref l/\vs=[]/\H l=some (.lst xs)/\xs[xs.length-1]? =some y/\Q y (upd H l (.lst xs.dropLast))
theorem Alw:MtM X "list.pop" Aq3:=by
 intro pins s σ H x vs v us Q I U W h
 obtain⟨l,xs,y,rfl,rfl,S,Y,q⟩:=h
 cases U
 have M:=W.zero
 subst M
 obtain⟨z,J,n,r,Z,e⟩:=I.lstM S
 obtain⟨u,hu,ru⟩:=r.get Y
 have O:J.toArray[J.toArray.size-1]? =some u:=by
  show J.toArray[J.length-1]? =some u
  rw [<-Array.getElem?_toList,<-Z]
  exact hu
 refine call_meets F.slot_list_pop ⟨_,e,rfl⟩ F.entry_list_pop (F.args_list_pop_1 _) (MeetsSeq.list_pop_last l J.toArray n u O (by rw [size_toArray];omega)) ⟨e,?_⟩
 refine⟨y,_,I.lset (its':=J.dropLast) S e ?_ r.dropLast ?_,ru,q⟩
 . show J.toArray.eraseIdxIfInBounds (J.toArray.size-1)=J.dropLast.toArray
   rw [size_toArray,List.eraseIdxIfInBounds_toArray,Aag]
 . rw [List.length_dropLast]
   omega
noncomputable def Aq1:R2:=fun x y H Q=>∃l b xs zs,x= .ref l/\y= .ref b/\H l=some (.lst xs)/\H b=some (.lst zs)/\xs.length+zs.length<=sizeLine/\∀p,H p=none->Q (.ref p) (upd H p (.lst (xs++zs)))
theorem Zk:OpR X (binaryOp .Add) Aq1:=by
 intro pins s σ H x y v u Q I O S h
 obtain⟨l,b,xs,zs,rfl,rfl,U,W,hz,q⟩:=h
 cases O
 cases S
 obtain⟨z,M,n,r,hl,e⟩:=I.lstM U
 obtain⟨z2,J,n2,Y,Z,e2⟩:=I.lstM W
 refine PySem.P.add_list e e2 ?_ (by rw [size_toArray,size_toArray];omega)
 have ea:M.toArray++J.toArray=(M++J).toArray:=by simp
 rw [ea]
 exact⟨.ref _,_,I.lnew (t':=s.toks) (r.append Y) (by rw [length_append];omega),rfl,q _ I.fresh⟩
noncomputable def Aq4:R2:=fun x y H Q=>∃l k xs,x= .ref l/\y= .int k/\H l=some (.lst xs)/\ -(2^63)<=k/\k<2^63/\xs.length*k.toNat<=sizeLine/\
 ∀p,H p=none->Q (.ref p) (upd H p (.lst (replicate k.toNat xs).flatten))
theorem len_rep {α:Type} (xs:List α) (k:Nat):(replicate k xs).flatten.length=k*xs.length:=by
 induction k with
 | zero=>simp
 | succ k z=>rw [replicate_succ,flatten_cons,length_append,z,succ_mul,Nat.add_comm]
theorem Uc:OpR X (binaryOp .Mult) Aq4:=by
 intro pins s σ H x y v u Q I rx ry h
 obtain⟨l,k,xs,rfl,rfl,hH,h1,h2,hz,q⟩:=h
 cases rx
 obtain⟨t,rfl⟩:=ry
 obtain⟨z,J,n,r,hl,e⟩:=I.lstM hH
 have O:J.toArray.size*k.toNat<=sizeLine:=by rw [size_toArray,<-hl];exact hz
 have S:¬J.toArray.size*k.toNat>(2^63-1)/8:=by
  have:(sizeLine:Nat)<=(2^63-1)/8:=by decide
  omega
 have W:¬(!Builtin.List.listFitsIndex k)=true:=by
  rw [fitsIndex_both h1 h2]
  exact Bool.false_ne_true
 have M:¬Builtin.List.listTooLong (J.toArray.size*k.toNat)=true:=by
  rw [Afx O]
  exact Bool.false_ne_true
 have Y:foldl (fun x1 Z=>x1++Z) #[] (replicate (if J.toArray.isEmpty=true then 0 else k.toNat) J.toArray)=(replicate k.toNat J).flatten.toArray:=by
  have f0:∀m:Nat,foldl (fun x1 Z=>x1++Z) #[] (replicate m J.toArray)=(replicate m J).flatten.toArray:=fun m=>by
   have:=foldl_rep J m []
   rw [nil_append]at this
   exact this
  rw [f0]
  cases J with
  | nil=>simp
  | cons a r'=>rw [if_neg (by simp)]
 refine wpAny_binaryOp_repeat_ref (T:="list") (U:="int") (by decide) ⟨_,e,rfl⟩ (fun s'=>typeIs_int s' k t) noFill_list_mul F.fills_int_mul F.slot_int_rmul repeat_list F.slot_int_index.lookup
  (call_meets F.slot_int_rmul (typeIs_int s k t) F.entry_int_rmul (F.args_int_rmul_2 _ _) (int___rmul___int_list k t l J.toArray n)
    ⟨e,rfl,⟨_,e,rfl⟩,call_meets F.slot_list_mul ⟨_,e,rfl⟩ F.entry_list_mul (F.args_list_mul_2 _ _) (AutoListH.list___mul___list_int_3 l J.toArray n k t W S M) ⟨e,?_⟩⟩)
 rw [Y]
 exact⟨.ref _,_,I.lnew (t':=s.toks) (r.rep k.toNat) (by rw [len_rep,Nat.mul_comm];exact hz),rfl,q _ I.fresh⟩
end
end L2
namespace Att
open PySem PySem.W PySem.Calls PyProof.Rows
theorem Rn {P:Params}{h:Heap}:∀(ns:List Int) (z:List Value),WellAll P h z (ns.map WData.int)->IntsAre z ns:=by
 intro ns
 induction ns with
 | nil=>
   intro z w
   rw [map_nil]at w
   cases w
   exact .nil
 | cons n ns I=>
   intro z w
   rw [map_cons]at w
   cases w with
   | cons a b=>
     cases a
     exact .cons _ _ (I _ b)
theorem Aem {l:OpenLaw}{n:Nat} (hn:l.most=some n) {P:Params}{h:Heap}{args:List WData}{z:List Value}
 (I:l.row.toRowW.claim.pre args=true) (U:WellAll P h z args):
 ∃a Y ns,z=[Value.ref a]/\args=[WData.list (ns.map WData.int)]/\h.get? a=some { cls:= .type "list",data:= .seq Y.toArray}/\IntsAre Y ns/\ns.length<=n:=by
 have W:WShape.hasAll [] args [.list .int]=true:=(pre_splitW I).1
 have Z:l.pre.holds [] { args:=args}=true:=(pre_splitW I).2
 obtain⟨d,r,rfl,h1,h2⟩:=hasAllW_cons W
 obtain rfl:=hasAllW_nil h2
 obtain⟨xs,rfl,h3⟩:=hasW_list h1
 obtain⟨ns,rfl⟩:=items_int h3
 have J:ns.length<=n:=by
  unfold OpenLaw.pre at Z
  have O:(WTm.not (.lt (.lit (.int (n:Int))) (.len (.arg 0)))).holds [] { args:=[.list (ns.map .int)]}=true:=by
   have O:=(holds_andW Z).1
   rw [hn]at O
   exact O
  have S:=condW_of O (w_not (w_lt w_lit (w_len_list (w_arg rfl))))
  rw [length_map]at S
  refine le_of_not_lt fun q=> ?_
  have q':(n:Int)<((ns.length:Nat):Int):=by omega
  first
   | (rw [decide_eq_true q']at S;exact absurd S (by decide))
   | (simp at S;omega)
 cases U with
 | cons w1 w2=>
   cases w2
   cases w1 with
   | list ho M=>exact⟨_,_,ns,rfl,rfl,ho,Rn ns _ M,J⟩
theorem Ad1 (l:OpenLaw) (args:List WData):l.row.toRowW.claim.post args (.bool true) args=true:=
 postW_of (r:=l.row.toRowW) (X:=(true==true))
  (show WShape.has [] (.bool true) .bool=true by first | rfl | decide | simp [WShape.has,WShape.arms,WShape.armsAll])
  (show(WTm.eq .res (.lit (.bool true))).value [] { args:=args,res:=some (.bool true),after:=args}=some (.bool (true==true))from w_eq_bool (w_res rfl) w_lit) rfl
theorem Xh {l:OpenLaw}{n:Nat}{q:Program}{I:List Str}{XP:(Str->Option Value)->Heap->Prop}{YP:World->Heap->Prop}{d:DefRec}
 (hn:l.most=some n) (a1:d.params.defaults=[])
 (call:∀(w:World) (J z:Shared) (mg mb:Str->Option Value) (U:Addr) (o:Obj) (pm cd M:Value) (a:Addr) (S:List Value) (ns:List Int),
   Ground q I [] XP w J mg mb z.heap->YP w z.heap->
   z.heap.get? U=some o->o.data= .func (docDef d.name d.params d.body d.scope pm cd M)->z.heap.CodeRec cd d.name->mg d.name=some (.ref U)->
   z.heap.get? a=some { cls:= .type "list",data:= .seq S.toArray}->IntsAre S ns->ns.length<=n->z.gens= #[]->
   codeAny (model l.prog w) callerA (.call (.ref U) ⟨[.ref a],[]⟩) (fun r s'=>r= .ok (.ret (.bool true))/\OldK z.heap s'.heap/\s'.os=z.os/\AllBare s'.gens) z):
 WalkO q I XP YP l.row.toRowW d [] (fun f S=>PySem.call f S):=by
 intro w J z mg mb G Y U o pm cd M dV kV ho hd a2 hD a3 hg args a5 as W a6 a7 a4 a8
 obtain rfl:dV= .none:=Dflts.none hD a1
 obtain rfl:kV= .none:=Dflts.noKw hD
 obtain⟨a,S,ns,rfl,rfl,Z,O,a0⟩:=Aem hn W a4
 refine enter_call (codeAny_mono (call w J z mg mb U o pm cd M a S ns G Y ho (fd_plain hd) a2 a3 Z O a0 hg) fun r s' hq=> ?_)
 obtain⟨rfl,h2,h3,h4⟩:=hq
 exact⟨.inl ⟨.bool true,.bool true,[],rfl,fun _=>rfl,.bool true,Ad1 l _,fun _=>⟨List.Pairwise.nil,fun _ hm=>(nomatch hm)⟩⟩,h2,h3,h4⟩
end Att
namespace L2
open PySem PySem.Spec PyProof.Rows
theorem Xa:∀ {z:List Value}{ns:List Int},IntsAre z ns->Vals (ns.map V.int) z
 | _,_,.nil=> .nil
 | _,_,.cons n t h=> .cons ⟨t,rfl⟩ (Xa h)
noncomputable def Only (H:Hp):Prop:=∀b,H b=none\/∃o xs,H b=some (.frz o (.lst xs))
end L2
/-THE LAST THEOREM (shape;LID,My.*are yours):
 My.Adr:a structure of the addresses that your layer names (classes,functions);My.Txt K t:a structure (Prop) of the equations over K;
 My.txt_mk:{K}{implicit addresses ..} (e1:nsIn K mainGlobals "law"=some (some (.ref f))) (e2:K.lookup f=some ⟨oc,od,.func (fnOf "law" "law" params body scope dV kV doc pm an cdv ct),sl⟩) (e3:codeIn K cdv "law"=true) .. :∃t,My.Txt K t
set_option maxRecDepth 100000 in
set_option maxHeartbeats 0 in
theorem PySem.Challenge.cw_LID_holds : PySem.Challenge.rw_LID.Holds := by
 w_on;o_law;k_head;(case hw=>w_witness2)
 k_fill
 refine L2.walk_of (l:=PySem.Challenge.rw_LID) (n:=63) (k:=40) (x:="script") (CX:=fun w=> ..) (sp:=fun _=>My.sp_law) rfl (by decide) rfl ⟨rfl,by decide,by decide⟩ (fun w h Y=>kIn_of Y) ?F ?S ?C
 case F=>
  intro w mg fa h KX G O
  have T:∃t,My.Txt (L2.KOf KX) t:=by
   dsimp only [L2.KOf]                          --K must stand as «<heap const>w.params» for z
   refine' My.txt_mk ?e1 ?e2 ?e3 ..
   (case e1=>PySem.W.k_is)                    --in J order:a name->its address->its object->its parts
   (case e2=>PySem.W.k_is)
   ..
  obtain⟨t,T⟩:=T
  have e0:=O.symm.trans (mg_of KX G T.law)
  cases e0                                       --fa is J law's own address
  exact⟨_,fun s u=> .of_eq rfl,fun base U Z=>My.law_fn T U Z⟩     --if «.of_eq rfl» comes too early:refine' ⟨_,?b,fun base U Z=>My.law_fn T U Z⟩;exact fun s u=> .of_eq rfl
 case S=>exact fun w H a ns hl hO hS=> ..
 case C=>exact ..
(J M z has no I:write z)-/
namespace L2
open PySem PySem.Spec PyProof.Rows
noncomputable def M9 (s:Stmt):Arguments:=match s with
 | .FunctionDef _ a _ _ _ _ _ _ _ _=>a
 | _=>{ posonlyargs:=[],args:=[],vararg:=none,kwonlyargs:=[],kw_defaults:=[],kwarg:=none,defaults:=[]}
noncomputable def Kc (s:Stmt):List Stmt:=match s with
 | .FunctionDef _ _ b _ _ _ _ _ _ _=>b
 | _=>[]
noncomputable def Av (s:Stmt):Scope:=match s with
 | .FunctionDef _ _ _ _ _ _ sc _ _ _=>sc
 | _=>{ kind:= .function,names:=[],isGenerator:=false,isCoroutine:=false}
noncomputable abbrev CX0:CXT:=fun _ _ _ _ _ _=>False
noncomputable abbrev E0:XK:=fun _ _ _=>False
theorem Al9 {X:Cx}:Passes CX0 X E0:=fun _ _ _ _ _ _ _ h=>h.elim
structure Fun (K:Frag) (x qual:Str) (st:Stmt) (f:Addr) (fd:FuncData):Prop where
 ex:∃(oc:Value) (od:Option Addr) (kV doc pm:Value) (an:Option Addr) (cdv ct:Value) (osl:Array (Option Value)),
  fd=PySem.W.fnOf x qual (M9 st) (Kc st) (Av st) .none kV doc pm an cdv ct/\K.lookup f=some ⟨oc,od,.func fd,osl⟩/\PySem.W.codeIn K cdv qual=true
 kp:keepIn K (.ref f)=true
section
variable {P:Program}{w:World}{K:Frag}{mg:Str->Option Value}{base:Heap}
theorem Fun.ok {x qual:Str}{st:Stmt}{f:Addr}{fd:FuncData}{N ps:List Str}{k:Nat}{sp:Sp} (F:Fun K x qual st f fd) (S:Bc N ps (Av st)) (len:∀I H Q E,sp I H Q E->I.length=ps.length)
 (J:∀(z:Value) (A:Around) (outer:List Env) (s:Shared) (H:Hp) (I:List V) (Q:VK) (E:XK),Mz k (A.deeper (envOfC qual (Av st) s.heap.objs.size f z))->sp I H Q E->
   ∃t,PSs (Rj CX0 P w K mg base N qual (Av st) f z A outer s H E).nox (Kc st) t/\t { nx:=fun _ H'=>Q .non H',rt:=Q} (start N I) H):Ti P w K mg base CX0 (k+1) f fd ps sp:=by
 obtain⟨oc,od,kV,U,pm,an,z,ct,W,rfl,Y,M⟩:=F.ex
 refine Alb Y M S len fun A outer s H I Q E Z O=> ?_
 obtain⟨t,h,q⟩:=J z A outer s H I Q E Z O
 exact⟨t,h.nox,q⟩
theorem Fun.binds {x qual:Str}{st:Stmt}{f:Addr}{fd:FuncData}{ps:List Str} (F:Fun K x qual st f fd)
 (h:∀(kV z pm:Value) (J:Option Addr) (I ct:Value) (M:List Value),M.length=ps.length->bindArgs (PySem.W.fnOf x qual (M9 st) (Kc st) (Av st) .none kV z pm J I ct) ⟨M,[]⟩=pure (ps.zip M)):Binds K fd ps []:=by
 obtain⟨U,Y,kV,z,pm,J,I,ct,O,rfl,Z,S⟩:=F.ex
 exact .all (h kV z pm J I ct)
theorem Ahj {x qual:Str}{st:Stmt}{f:Addr}{O:Value}{S M:Option Addr}{J:Array (Option Value)}{kV I pm z ct:Value} (l:K.lookup f=some ⟨O,S,.func (PySem.W.fnOf x qual (M9 st) (Kc st) (Av st) .none kV I pm M z ct),J⟩)
 (c:PySem.W.codeIn K z qual=true) (k:keepIn K (.ref f)=true):Fun K x qual st f (PySem.W.fnOf x qual (M9 st) (Kc st) (Av st) .none kV I pm M z ct):=⟨⟨O,S,kV,I,pm,M,z,ct,J,rfl,l,c⟩,k⟩
end
section
variable {X:Cx}
theorem pv (i:Nat) {x:Str}{pos:Pos} (I:X.N[i]? =some x:=by rfl) (hv:Vis X.env.scope x:=by first | exact Or.inl rfl | exact Or.inr (Or.inl rfl) | exact Or.inr (Or.inr rfl)) (J:(x==("__debug__":Str))=false:=by decide)
 (z:(x==("__classdict__":Str))=false:=by decide):PE X (.Name x pos) (Abk i):=Ami I hv J z
end
noncomputable def Same (H H':Hp):Prop:=∀b o,H b=some o->H' b=some o
theorem Same.refl (H:Hp):Same H H:=fun _ _ h=>h
theorem Same.trans {H H1 H2:Hp} (a:Same H H1) (b:Same H1 H2):Same H H2:=fun c o h=>b c o (a c o h)
theorem Same.free {H H':Hp} (e:Same H H') {l:Addr} (h:H' l=Option.none):H l=Option.none:=by
 cases q:H l with
 | none=>rfl
 | some o=>
   rw [e l o q]at h
   cases h
theorem Same.seq {K:Frag}{H H':Hp}{a:Addr}{xs:List V} (e:Same H H') (h:SqL K H a xs):SqL K H' a xs:=by
 rcases h with(h | ⟨o,h⟩) | h
 . exact .inl (.inl (e _ _ h))
 . exact .inl (.inr ⟨o,e _ _ h⟩)
 . exact .inr h
noncomputable def Cal (P:Program) (w:World) (K:Frag) (mg:Str->Option Value) (base:Heap) (k:Nat) (x:Str) (ps:List Str) (sp:Sp):Prop:=
 ∃f fd,Ti P w K mg base CX0 k f fd ps sp/\mg x=some (.ref f)/\keepIn K (.ref f)=true/\Binds K fd ps []
structure Df (K:Frag) (mg:Str->Option Value) (x:Str) (st:Stmt) (ps:List Str) (f:Addr) (fd:FuncData):Prop where
 fn:Fun K x x st f fd
 bd:Binds K fd ps []
 at':mg x=some (.ref f)
theorem Df.cal {P:Program}{w:World}{K:Frag}{mg:Str->Option Value}{base:Heap}{k:Nat}{x:Str}{st:Stmt}{ps:List Str}{f:Addr}{fd:FuncData}{sp:Sp}
 (F:Df K mg x st ps f fd) (G:Ti P w K mg base CX0 k f fd ps sp):Cal P w K mg base k x ps sp:=⟨f,fd,G,F.at',F.fn.kp,F.bd⟩
theorem Af5 {X:Cx}{k:Nat}{x:Str}{ps:List Str}{sp:Sp}{p pos:Pos}{e:Expr}{es:List Expr}{t:TA}
 (C:Cal X.prog X.w X.K X.mg X.base k x ps sp) (J:Mz k X.A) (M:PA X (e::es) t) (O:Gl X x:=by rfl) (z:(x==("__debug__":Str))=false:=by decide)
 (S:starEach (e::es) X.env=(false,eval e X.env)::starEach es X.env:=by rfl) (I:(backTo pos (starEach es X.env)).any (·.1)=false:=by rfl):
 PE X (.Call (.Name x p) (e::es) [] pos) (T4 sp [] E0 t):=by
 obtain⟨f,fd,G,a,b,c⟩:=C
 exact Adp G J O a b c .nil Al9 M z S I
noncomputable def Sz (n:Nat) (a:Int):Prop:=a.natAbs<2^n
theorem Sz.mono {m n:Nat}{a:Int} (h:Sz m a) (l:m<=n):Sz n a:=lt_of_lt_of_le h (Nat.pow_le_pow_right (by decide) l)
theorem Sz.mul {m n:Nat}{a b:Int} (h:Sz m a) (g:Sz n b):Sz (m+n) (a*b):=by
 unfold Sz at*
 rw [natAbs_mul,pow_add]
 exact Nat.mul_lt_mul'' h g
theorem Sz.add {m n:Nat}{a b:Int} (h:Sz m a) (g:Sz n b):Sz (max m n+1) (a+b):=by
 have h1:Sz (max m n) a:=h.mono (Nat.le_max_left _ _)
 have h2:Sz (max m n) b:=g.mono (Nat.le_max_right _ _)
 unfold Sz at*
 have:=Int.natAbs_add_le a b
 rw [Nat.pow_succ]
 omega
theorem Sz.neg {n:Nat}{a:Int} (h:Sz n a):Sz n (-a):=by
 unfold Sz at*
 rw [Int.natAbs_neg]
 exact h
theorem Sz.sub {m n:Nat}{a b:Int} (h:Sz m a) (g:Sz n b):Sz (max m n+1) (a-b):=by
 rw [Int.sub_eq_add_neg]
 exact h.add g.neg
theorem Sz.of_abs {n:Nat}{a b:Int} (h:Sz n b) (l:a.natAbs<=b.natAbs):Sz n a:=lt_of_le_of_lt l h
theorem Sz.mulOk {m n:Nat}{a b:Int} (h:Sz m a) (g:Sz n b) (l:m+n<=134217728):IntMulOk a b:=
 IntMulOk.of_le (PySem.intBits_le_iff.mpr h) (PySem.intBits_le_iff.mpr g) l
theorem Sz.log2 {n:Nat}{a:Int} (h:Sz n a) (z:a≠0) (l:n<=9000):a.natAbs.log2<9000:=
 lt_of_lt_of_le ((Nat.log2_lt (by omega)).mpr h) l
section
variable {X:Cx}{a b:Expr}{ta tb:TE}{pos:Pos}
theorem Cr:OpR X (binaryOp .Mult) (rI IntMulOk fun i j=> .int (i*j)):=opI fun _ _ _ _ _ _ _ z q=>mul_int q z
end
mutual
inductive RdD (K:Frag) (H:Hp):V->PyData->Prop where
 | non:RdD K H .non .none
 | bl (b:Bool):RdD K H (.bl b) (.bool b)
 | int (i:Int):RdD K H (.int i) (.int i)
 | str (x:Str):RdD K H (.str x) (.str x)
 | tup {a:Addr}{xs:List V}{ds:List PyData}:SqT K H a xs->Z8 K H xs ds->RdD K H (.ref a) (.tuple ds)
 | lst {a:Addr}{xs:List V}{ds:List PyData}:SqL K H a xs->Z8 K H xs ds->RdD K H (.ref a) (.list ds)
inductive Z8 (K:Frag) (H:Hp):List V->List PyData->Prop where
 | nil:Z8 K H [] []
 | cons {x:V}{d:PyData}{xs:List V}{ds:List PyData}:RdD K H x d->Z8 K H xs ds->Z8 K H (x::xs) (d::ds)
end
section
variable {X:Cx}{pins:List (Addr × Obj)}{σ:St}{H:Hp}{s:Shared}
mutual
theorem RdD.reads (I:Inv X pins σ H s):∀ {x:V}{d:PyData}{u:Value},RdD X.K H x d->RelV x u->∃as,Reads s.heap u d as
 | _,_,_,.non,r=>by cases r;exact⟨_,.none⟩
 | _,_,_,.bl b,r=>by cases r;exact⟨_,.bool b⟩
 | _,_,_,.int i,r=>by obtain⟨t,rfl⟩:=r;exact⟨_,.int i t⟩
 | _,_,_,.str x,r=>by obtain⟨t,rfl⟩:=r;exact⟨_,.str x t⟩
 | _,_,_,.tup hq hr,r=>by
   cases r
   obtain⟨its,rv,pl,hz⟩:=I.tuple hq
   obtain⟨as,q⟩:=Z8.reads I hr rv
   obtain⟨o,ho,hc,n,hd⟩:=pl
   exact⟨_,.tuple ho hc hd (by simpa using q)⟩
 | _,_,_,.lst hq hr,r=>by
   cases r
   obtain⟨its,rv,pl,hz⟩:=I.list hq
   obtain⟨as,q⟩:=Z8.reads I hr rv
   obtain⟨o,ho,hc,n,hd⟩:=pl.isList
   exact⟨_,.list ho hc hd (by simpa using q)⟩
theorem Z8.reads (I:Inv X pins σ H s):∀ {xs:List V}{ds:List PyData}{us:List Value},Z8 X.K H xs ds->Vals xs us->∃as,ReadsAll s.heap us ds as
 | _,_,_,.nil,r=>by cases r;exact⟨_,.nil⟩
 | _,_,_,.cons h t,r=>by
   cases r with
   | cons r1 r2=>
     obtain⟨as,q⟩:=RdD.reads I h r1
     obtain⟨bs,p⟩:=Z8.reads I t r2
     exact⟨_,.cons q p⟩
end
end
theorem Z8.ints {K:Frag}{H:Hp}:∀ns:List Int,Z8 K H (ns.map V.int) (ns.map PyData.int)
 | []=> .nil
 | n::r=> .cons (.int n) (Z8.ints r)
theorem RdD.ints {K:Frag}{H:Hp}{a:Addr}{ns:List Int} (h:SqT K H a (ns.map V.int)):RdD K H (.ref a) (.tuple (ns.map PyData.int)):= .tup h (.ints ns)
theorem RdD.lints {K:Frag}{H:Hp}{a:Addr}{ns:List Int} (h:SqL K H a (ns.map V.int)):RdD K H (.ref a) (.list (ns.map PyData.int)):= .lst h (.ints ns)
theorem Qt:∀ns ms:List Int,PyData.eqvAll (ns.map PyData.int) (ms.map PyData.int)=decide (ns=ms)
 | [],[]=>by simp [PyData.eqvAll]
 | [],_::_=>by simp [PyData.eqvAll]
 | _::_,[]=>by simp [PyData.eqvAll]
 | a::r,b::t=>by
   simp only [map_cons,PyData.eqvAll,PyData.eqv,Qt r t]
   by_cases h:a=b<;>by_cases h':r=t<;>simp [h,h']
theorem shaped_ints (ns:List Int):SeqAt.shaped (.tuple (ns.map PyData.int))=true:=by
 simp [SeqAt.shaped,PyData.canLay0,PyData.depth,ke_canLayAll0,ke_depthAll]
section
variable {X:Cx}
noncomputable def Ao0 (K:Frag) (f:Bool->Bool):R2:=fun x y H Q=>∃d e,RdD K H x d/\RdD K H y e/\SeqAt.shaped d=true/\SeqAt.shaped e=true/\Q (.bl (f (PyData.eqv d e))) H
theorem Al3 (z:X.A.units+64<cLine):OpR X (compareOp .Eq) (Ao0 X.K fun b=>b):=by
 intro pins s σ H x y v u Q I J M h
 obtain⟨d,e,O,S,U,W,q⟩:=h
 obtain⟨as,Y⟩:=RdD.reads I O J
 obtain⟨bs,Z⟩:=RdD.reads I S M
 exact eq_dataH Y Z U W z ⟨.bl _,H,I,rfl,q⟩
theorem Adl (z:X.A.units+64<cLine):OpR X (compareOp .NotEq) (Ao0 X.K fun b=> !b):=by
 intro pins s σ H x y v u Q I J M h
 obtain⟨d,e,O,S,U,W,q⟩:=h
 obtain⟨as,Y⟩:=RdD.reads I O J
 obtain⟨bs,Z⟩:=RdD.reads I S M
 exact ne_dataH Y Z U W z ⟨.bl _,H,I,rfl,q⟩
noncomputable def An9 (K:Frag) (f:Bool->Bool):R2:=fun x y H Q=>∃(a b:Addr) (ns ms:List Int),x= .ref a/\y= .ref b/\SqT K H a (ns.map V.int)/\SqT K H b (ms.map V.int)/\Q (.bl (f (decide (ns=ms)))) H
theorem Fl (z:X.A.units+64<cLine):OpR X (compareOp .Eq) (An9 X.K fun b=>b):=by
 intro pins s σ H x y v u Q I J M h
 obtain⟨a,b,ns,ms,rfl,rfl,O,S,q⟩:=h
 exact Al3 z pins s σ H _ _ v u Q I J M ⟨_,_,.ints O,.ints S,shaped_ints _,shaped_ints _,by rw [PyData.eqv,Qt];exact q⟩
theorem Gz (z:X.A.units+64<cLine):OpR X (compareOp .NotEq) (An9 X.K fun b=> !b):=by
 intro pins s σ H x y v u Q I J M h
 obtain⟨a,b,ns,ms,rfl,rfl,O,S,q⟩:=h
 exact Adl z pins s σ H _ _ v u Q I J M ⟨_,_,.ints O,.ints S,shaped_ints _,shaped_ints _,by rw [PyData.eqv,Qt];exact q⟩
theorem Y5:Jm X (.builtin "isinstance") (fun xs H Q=>∃x t T b,xs=[x,.ty T]/\Xg X.K H x t/\kitOne X.K t (.type T)=some b/\Q (.bl b) H):=by
 intro pins s σ H xs S Q I r h
 obtain⟨x,t,T,b,rfl,z,J,q⟩:=h
 obtain⟨u,c,rfl,M,O⟩:=vals2 r
 cases O
 exact Acs I M z J fun tk=>⟨.bl b,H,I.tok tk,rfl,q⟩
end
theorem Same.tup {K:Frag}{H H':Hp}{a:Addr}{xs:List V} (e:Same H H') (h:SqT K H a xs):SqT K H' a xs:=by
 rcases h with(h | ⟨o,h⟩) | h
 . exact .inl (.inl (e _ _ h))
 . exact .inl (.inr ⟨o,e _ _ h⟩)
 . exact .inr h
theorem Same.upd {H:Hp}{p:Addr} (h:H p=none) (o:HO):Same H (upd H p o):=fun b u q=>by
 rw [Cu (Dk q h)]
 exact q
section
variable {X:Cx}{K:Frag}{σ:St}{H:Hp}{Q:VK}{D:Ends}{B:Bool->Hp->Prop}
theorem Aqd {t u:TS}:Aob t u D σ H=t { D with nx:=u D} σ H:=rfl
theorem Anv:Akc D σ H=D.nx σ H:=rfl
theorem Apz {c:TT}{t u:TS}:Apc c t u D σ H=c σ H (fun b H1=>if b=true then t D σ H1 else u D σ H1):=rfl
theorem Aqc {te:TE}:Aph te D σ H=te σ H D.rt:=rfl
theorem Ano {te:TE}:Akb te D σ H=te σ H (fun _ H1=>D.nx σ H1):=rfl
theorem Apm {te:TE}{g:TG}:Agr te g D σ H=te σ H (fun x H1=>g x σ H1 D.nx):=rfl
theorem Vx {i:Nat}{v:V}{R:St->Hp->Prop}:O4 i v σ H R=R (σ.set i (some v)) H:=rfl
theorem Aqa {i j:Nat}{ta:TA}:Apg i j ta D σ H=ta σ H (fun z H1=>∃v w,z=[v,w]/\D.nx ((σ.set i (some v)).set j (some w)) H1):=rfl
theorem An1 {v:V}{r:St}:Abk 0 (some v::r) H Q=Q v H:=propext ⟨fun⟨_,e,h⟩=>by cases e;exact h,fun h=>⟨v,rfl,h⟩⟩
theorem An2 {i:Nat}{o:Option V}{r:St}:Abk (i+1) (o::r) H Q=Abk i r H Q:=rfl
theorem z_c {v:V}:tC v σ H Q=Q v H:=rfl
theorem Ap8 {r:R2}{ta tb:TE}:tOp r ta tb σ H Q=ta σ H (fun x H1=>tb σ H1 fun y H2=>r x y H2 Q):=rfl
theorem Ari {r:V->Hp->VK->Prop}{ta:TE}:tUn r ta σ H Q=ta σ H (fun x H1=>r x H1 Q):=rfl
theorem Arc {C:Int->Int->Prop}{g:Int->Int->V}{i j:Int}:rI C g (.int i) (.int j) H Q=(C i j/\Q (g i j) H):=
 propext ⟨fun⟨_,_,e,f,h⟩=>by cases e;cases f;exact h,fun h=>⟨i,j,rfl,rfl,h⟩⟩
theorem Aqb {g:Int->Int->V}{i j:Int}:rI0 g (.int i) (.int j) H Q=Q (g i j) H:=
 propext ⟨fun⟨_,_,e,f,h⟩=>by cases e;cases f;exact h,fun h=>⟨i,j,rfl,rfl,h⟩⟩
theorem Ard {g:Int->V}{i:Int}:rU g (.int i) H Q=Q (g i) H:=propext ⟨fun⟨_,e,h⟩=>by cases e;exact h,fun h=>⟨i,rfl,h⟩⟩
theorem Aps {i j:Int}:rEq (.int i) (.int j) H Q=Q (.bl (decide (i=j))) H:=by
 unfold rEq
 simp only [Akt,V.int.injEq,true_and]
theorem Ap5 {i j:Int}:rNe (.int i) (.int j) H Q=Q (.bl (!decide (i=j))) H:=by
 unfold rNe
 simp only [Akt,V.int.injEq,true_and]
theorem Apq {i j:Bool}:rEq (.bl i) (.bl j) H Q=Q (.bl (decide (i=j))) H:=by
 unfold rEq
 simp only [Akt,V.bl.injEq,true_and]
theorem Ap4 {i j:Bool}:rNe (.bl i) (.bl j) H Q=Q (.bl (!decide (i=j))) H:=by
 unfold rNe
 simp only [Akt,V.bl.injEq,true_and]
theorem Ae2 {t:TE}:Akf t σ H B=t σ H (fun x H'=>∃k,x= .bl k/\B k H'):=rfl
theorem Arh {t:TE}:tB t σ H B=t σ H (fun x H'=>∃k,x= .bl k/\B k H'):=rfl
theorem Apu {b:Bool}{p:Bool->Prop}:(∃k,V.bl b= .bl k/\p k)=p b:=propext ⟨fun⟨_,e,h⟩=>by cases e;exact h,fun h=>⟨b,rfl,h⟩⟩
theorem Apw {b:Int}{p:Int->Prop}:(∃k,V.int b= .int k/\p k)=p b:=propext ⟨fun⟨_,e,h⟩=>by cases e;exact h,fun h=>⟨b,rfl,h⟩⟩
theorem Apt {a b:V}{p:V->V->Prop}:(∃v w,[a,b]=[v,w]/\p v w)=p a b:=propext ⟨fun⟨_,_,e,h⟩=>by cases e;exact h,fun h=>⟨a,b,rfl,h⟩⟩
theorem Anp {b:Int}{p:Int->Prop}:(∃k,[V.int b]=[.int k]/\p k)=p b:=propext ⟨fun⟨_,e,h⟩=>by cases e;exact h,fun h=>⟨b,rfl,h⟩⟩
theorem Anq {a b:Int}{p:Int->Int->Prop}:(∃i j,[V.int a,V.int b]=[.int i,.int j]/\p i j)=p a b:=propext ⟨fun⟨_,_,e,h⟩=>by cases e;exact h,fun h=>⟨a,b,rfl,h⟩⟩
theorem Ap7 {t:TT}:Ape t σ H B=t σ H (fun c H1=>B (!c) H1):=rfl
theorem Apl {t u:TT}:Ao9 t u σ H B=t σ H (fun c H1=>if c=true then u σ H1 B else B false H1):=rfl
theorem Arb {t u:TT}:tOr t u σ H B=t σ H (fun c H1=>if c=true then B true H1 else u σ H1 B):=rfl
theorem Anj {ta tb:TE}:Aka ta tb σ H Q=ta σ H (fun x H1=>∃c,x= .bl c/\if c=true then tb σ H1 Q else Q (.bl false) H1):=rfl
theorem Ap9 {ta tb:TE}:Apf ta tb σ H Q=ta σ H (fun x H1=>∃c,x= .bl c/\if c=true then Q (.bl true) H1 else tb σ H1 Q):=rfl
theorem Anw {ta:TE}:Akd ta σ H Q=ta σ H (fun x H1=>∃c,x= .bl c/\Q (.bl (!c)) H1):=rfl
theorem Ara {t:TT}{ta tb:TE}:tIf t ta tb σ H Q=t σ H (fun c H1=>if c=true then ta σ H1 Q else tb σ H1 Q):=rfl
theorem Ank {sp:Sp}{dvs:List V}{E:XK}{t:TA}:T4 sp dvs E t σ H Q=t σ H (fun z H1=>sp (z++dvs) H1 Q E):=rfl
theorem Ap6 {R:List V->Hp->Prop}:Aoa σ H R=R [] H:=rfl
theorem Anm {te:TE}{t:TA}{R:List V->Hp->Prop}:Aeq te t σ H R=te σ H (fun x H1=>t σ H1 fun xs H2=>R (x::xs) H2):=rfl
theorem Aq8 {r:List V->Hp->VK->Prop}{t:TA}:tCB r t σ H Q=t σ H (fun z H1=>r z H1 Q):=rfl
theorem Aqe {t:TA}:Apj t σ H Q=t σ H (fun xs H1=>xs.length<=sizeLine/\∀p,H1 p=none->Q (.ref p) (upd H1 p (.tup xs))):=rfl
theorem Ap3 {t:TA}:Apd t σ H Q=t σ H (fun xs H1=>xs.length<=sizeLine/\∀p,H1 p=none->Q (.ref p) (upd H1 p (.lst xs))):=rfl
theorem En {a:Addr}{xs:List V}{i:Int}{v:V} (h:SqT K H a xs) (e:atI xs i=some v) (q:Q v H):Amw K (.ref a) (.int i) H Q:=⟨a,xs,i,v,rfl,rfl,h,e,q⟩
theorem Fi {a:Addr}{xs:List V}{i:Int}{v:V} (h:SqL K H a xs) (e:atI xs i=some v) (q:Q v H):Ah2 K (.ref a) (.int i) H Q:=⟨a,xs,i,v,rfl,rfl,h,e,q⟩
end
noncomputable def Aie (_ j:Int):Prop:=0<j/\j.natAbs.log2<9000
theorem Cw {X:Cx}:OpR X (binaryOp .FloorDiv) (rI Aie fun i j=> .int (i/j)):=opI fun i j _ _ _ _ _ z q=>by
 have h:j≠0:=by have:=z.1;omega
 refine floordiv_int h ?_ (.inl (PyProof.noPylong_of_log2 z.2))
 rw [Int.fdiv_eq_ediv_of_nonneg _ (Int.le_of_lt z.1)]
 exact q
theorem Am8:(1:Nat)<=sizeLine:=by decide
theorem Am9:(2:Nat)<=sizeLine:=by decide
noncomputable def clF (env:Env) (cs:List (Str × Addr)) (x:Str × NameKind):List (Str × Addr):=if x.2== .free then(x.1,(env.cells.lookup x.1).getD 0)::cs else cs
theorem Aad {scope:Scope}{env:Env} (h:∀x∈scope.names,x.2= .free->∃c,env.cells.lookup x.1=some c):closureFor scope env=pure (scope.names.foldl (clF env) []):=by
 unfold closureFor
 have J:∀(names:List (Str × NameKind)) (z:List (Str × Addr)),(∀x∈names,x.2= .free->∃c,env.cells.lookup x.1=some c)->
  (forIn names z (fun(x:Str × NameKind) (U:List (Str × Addr))=>(if x.2== .free then(do let c<-cellOf env x.1;pure (ForInStep.yield ((x.1,c)::U)))else pure (ForInStep.yield U):Sem (ForInStep (List (Str × Addr))))))=(pure (names.foldl (clF env) z):Sem (List (Str × Addr))):=by
  intro names
  induction names with
  | nil=>intro z _;rfl
  | cons x r W=>
    intro z M
    rw [forIn_cons,foldl_cons]
    by_cases I:x.2= .free
    . obtain⟨c,Y⟩:=M x mem_cons_self I
      have e1:cellOf env x.1=pure c:=by unfold cellOf;rw [Y]
      have O:clF env z x=(x.1,c)::z:=by unfold clF;rw [I,Y];rfl
      rw [O,<-W _ fun y S=>M y (mem_cons_of_mem _ S)]
      rw [I,e1]
      rfl
    . have Z:(x.2==NameKind.free)=false:=by simpa using I
      have O:clF env z x=z:=by unfold clF;rw [Z];rfl
      rw [O,<-W _ fun y S=>M y (mem_cons_of_mem _ S),Z]
      rfl
 exact(congrArg (fun m=>m>>=fun r=>pure r) (J scope.names [] h)).trans (by rfl)
theorem Uo {env:Env}:∀(names:List (Str × NameKind)) (I:List (Str × Addr)) (y:Str) (c:Addr),(∀x∈names,x.2= .free->∃c,env.cells.lookup x.1=some c)->(names.foldl (clF env) I).lookup y=some c->I.lookup y=some c\/env.cells.lookup y=some c
 | [],_,_,_,_,h=> .inl h
 | x::r,I,y,c,hx,h=>by
   rw [foldl_cons]at h
   rcases Uo r _ y c (fun z O=>hx z (mem_cons_of_mem _ O)) h with h1 | h1
   . unfold clF at h1
     by_cases J:x.2= .free
     . obtain⟨d,M⟩:=hx x mem_cons_self J
       rw [J,M]at h1
       change lookup y ((x.1,d)::I)=some c at h1
       rw [lookup_cons]at h1
       cases hy:y==x.1 with
       | true=>
         rw [hy]at h1
         have:y=x.1:=by simpa using hy
         subst this
         exact .inr (M.trans h1)
       | false=>
         rw [hy]at h1
         exact .inl h1
     . have S:(x.2==NameKind.free)=false:=by simpa using J
       rw [S]at h1
       exact .inl h1
   . exact .inr h1
theorem Xj {env:Env}:∀(names:List (Str × NameKind)) (I:List (Str × Addr)) (y:Str),((∃x∈names,x.2= .free/\x.1=y)\/∃c,I.lookup y=some c)->∃c,(names.foldl (clF env) I).lookup y=some c
 | [],_,_,h=>by
   rcases h with⟨_,h,_⟩ | h
   . cases h
   . exact h
 | x::r,I,y,h=>by
   rw [foldl_cons]
   apply Xj r
   rcases h with⟨z,M,J,rfl⟩ | ⟨c,O⟩
   . rcases mem_cons.mp M with rfl | M
     . refine .inr ⟨(env.cells.lookup z.1).getD 0,?_⟩
       unfold clF
       rw [J]
       show lookup z.1 ((z.1,_)::I)=_
       rw [lookup_cons]
       simp
     . exact .inl ⟨z,M,J,rfl⟩
   . refine .inr ?_
     unfold clF
     by_cases J:x.2= .free
     . rw [J]
       show ∃c,lookup y ((x.1,_)::I)=some c
       rw [lookup_cons]
       cases y==x.1 with
       | true=>exact⟨_,rfl⟩
       | false=>exact⟨c,O⟩
     . have S:(x.2==NameKind.free)=false:=by simpa using J
       rw [S]
       exact⟨c,O⟩
theorem V9 {prog:Program}{w:World}{A:Around}{R:Result->Shared->Prop}{s:Shared}{elt target iter:Expr}{ifs:List Expr}{scope:Scope}{pos:Pos}{it a0:Value}{env:Env} (I:Nat->Shared->Prop)
 (a1:∀n s,I n s->wpAny (model prog w) A (pyNext it) (fun r J=>match r with
   | none=>R (.ok .next) J
   | some v=>wpAny (model prog w) A (letOwnedTupleGo target it v) (fun _ O=>wpAny (model prog w) A (assign target env v) (fun _ S=>
      wpAny (model prog w) A (forIn ifs true fun c r=>if r=true then do let ok<-isTrue c env (eval c env);pure (ForInStep.yield ok)else pure (ForInStep.yield r)) (fun ok M=>
       if ok=true then wpAny (model prog w) A (eval elt env) (fun x U=>
        wpAny (model prog w) A (call (.builtin "list.append") [a0,x]) (fun _ W=>∃m,m<n/\I m W) (fun _ _=>False) U) (fun _ _=>False) M
       else ∃m,m<n/\I m M) (fun _ _=>False) S) (fun _ _=>False) O) (fun _ _=>False) J) (fun _ _=>False) s)
 (n:Nat) (h:I n s):
 codeAny (model prog w) A (.compLoop (.ListComp elt [⟨target,iter,ifs,0⟩] scope pos) 0 it a0 env) R s:=by
 have no:∀(x:Value) (s':Shared),False->notedBy (model prog w) A env (fun e s'=>R (.error e) s') x s':=fun _ _ z=>z.elim
 refine codeAny_loop rfl I (fun n s hI=> ?_) n h
 show wpAny _ A ((compTurn (.ListComp elt [⟨target,iter,ifs,0⟩] scope pos) 0 it a0 env).onRaise (fun x=>do noteFrame x env;theTreesLotGoes x)) _ _ s
 refine wpAny_noted ?_
 rw [compTurn_list]
 refine wpAny_bind (wpAny_standAt (wpAny_bind (wpAny_mono (a1 n s hI) (fun r J Y=> ?_) no)))
 cases r with
 | none=>exact wpAny_pure Y
 | some v=>
   refine wpAny_bind (wpAny_mono Y (fun _ O a2=> ?_) no)
   refine wpAny_bind (wpAny_mono a2 (fun _ S a3=>wpAny_bind (wpAny_mono a3 (fun ok M Z=> ?_) no)) no)
   cases ok with
   | false=>exact wpAny_pure ⟨rfl,Z⟩
   | true=>
     exact wpAny_bind (wpAny_bind (wpAny_mono Z (fun x U a4=>wpAny_bind (wpAny_mono a4 (fun _ W a5=>wpAny_pure (wpAny_pure ⟨rfl,a5⟩)) no)) no))
noncomputable def cxC (X:Cx) (N:List Str) (scope:Scope) (ex:List Addr) (s:Shared) (H:Hp):Cx where
 prog:=X.prog
 w:=X.w
 K:=X.K
 mg:=X.mg
 base:=X.base
 A:=X.A
 N:=N
 s₀:=s
 H₀:=H
 env:=compEnvC scope (scope.names.foldl (clF X.env) []) s.heap.objs.size X.env
 outer:=X.stack
 stack:=X.stack
 ex:=ex
 fn:=fun _=>false
 calm:=X.calm
 pn:=[]
 xe:=fun _ _=>False
structure Dl (X:Cx) (ts:List Str) (fs:List (Nat × Str)) (scope:Scope):Prop where
 kind:scope.kind= .function
 cell:∀y∈scope.names,y.2≠ .cell
 names:∀y∈scope.names,y.2= .local ->scope.names.lookup y.1=some .local
 free:∀y∈scope.names,y.2= .free->X.env.kindOf y.1=some .cell\/X.env.kindOf y.1=some .free
 at':∀p∈fs,X.N[p.1]? =some p.2/\(p.2,NameKind.free)∈scope.names/\((relabel scope X.env).names.lookup p.2=some .cell\/(relabel scope X.env).names.lookup p.2=some .free)
noncomputable def rlb (sc scope:Scope):List (Str × NameKind):=scope.names.map fun(n,k)=>if(k==NameKind.free&&sc.kind== .function&&sc.names.lookup n==some .cell)then(n,NameKind.cell)else(n,k)
noncomputable def Aql (sc:Scope) (N:List Str) (fs:List (Nat × Str)) (scope:Scope):Bool:=
 (scope.kind== .function)&&(scope.names.all fun y=>y.2 != .cell)&&(scope.names.all fun y=>y.2 != .local ||scope.names.lookup y.1==some .local)&&
 (scope.names.all fun y=>y.2 != .free||(sc.names.lookup y.1==some .cell||sc.names.lookup y.1==some .free))&&
 fs.all fun p=>N[p.1]? ==some p.2&&(scope.names.contains (p.2,NameKind.free)&&((rlb sc scope).lookup p.2==some .cell||(rlb sc scope).lookup p.2==some .free))
theorem Dl.of {X:Cx}{ts:List Str}{fs:List (Nat × Str)}{scope sc:Scope}{N:List Str} (J:X.env.scope=sc) (M:X.N=N) (h:Aql sc N fs scope=true):Dl X ts fs scope:=by
 unfold Aql at h
 simp only [and_eq_true,all_eq_true,or_eq_true,bne_iff_ne,beq_iff_eq,List.contains_iff_mem]at h
 obtain⟨⟨⟨⟨h1,h2⟩,O⟩,S⟩,U⟩:=h
 refine⟨h1,h2,fun y I e=> ?_,fun y I e=> ?_,fun p W=> ?_⟩
 . rcases O y I with z | z
   . exact absurd e z
   . exact z
 . rcases S y I with z | z
   . exact absurd e z
   . show X.env.scope.names.lookup y.1=_\/X.env.scope.names.lookup y.1=_
     rw [J]
     exact z
 . obtain⟨a,b,c⟩:=U p W
   refine⟨by rw [M];exact a,b,?_⟩
   subst J
   exact c
noncomputable def cpN (ts:List Str) (fs:List (Nat × Str)):List Str:=ts++fs.map (·.2)
noncomputable def cpσ (n:Nat) (fs:List (Nat × Str)) (σ:St):St:=replicate n none++fs.map fun p=>(σ[p.1]?).join
theorem Lh {env:Env}{x:Str}{I:NameKind}:∀ {names:List (Str × NameKind)},(names.map fun(n,k)=>if(k==NameKind.free&&env.scope.kind== .function&&env.kindOf n==some .cell)then(n,NameKind.cell)else(n,k)).lookup x=some I->
 ∃k,(x,k)∈names/\(I=k\/(k= .free/\I= .cell))
 | [],h=>by simp at h
 | (n,k)::r,h=>by
   rw [map_cons]at h
   dsimp only at h
   by_cases z:(k==NameKind.free&&env.scope.kind== .function&&env.kindOf n==some .cell)=true
   . rw [if_pos z,lookup_cons]at h
     cases hx:x==n with
     | true=>
       rw [hx]at h
       have e:x=n:=by simpa using hx
       subst e
       have M:k= .free:=by
        rw [and_eq_true,and_eq_true]at z
        simpa using z.1.1
       exact⟨k,mem_cons_self,.inr ⟨M,(Option.some.inj h).symm⟩⟩
     | false=>
       rw [hx]at h
       obtain⟨J,h1,h2⟩:=Lh h
       exact⟨J,mem_cons_of_mem _ h1,h2⟩
   . rw [if_neg z,lookup_cons]at h
     cases hx:x==n with
     | true=>
       rw [hx]at h
       have e:x=n:=by simpa using hx
       subst e
       exact⟨k,mem_cons_self,.inl (Option.some.inj h).symm⟩
     | false=>
       rw [hx]at h
       obtain⟨J,h1,h2⟩:=Lh h
       exact⟨J,mem_cons_of_mem _ h1,h2⟩
noncomputable def PTs (X:Cx) (ifs:List Expr) (t:TT):Prop:=
 ∀(pins:List (Addr × Obj)) (s:Shared) (σ:St) (H:Hp) (B:Bool->Hp->Prop),Inv X pins σ H s->t σ H B->
   wpAny (model X.prog X.w) X.A (forIn ifs true fun c r=>if r=true then do let ok<-isTrue c X.env (eval c X.env);pure (ForInStep.yield ok)else pure (ForInStep.yield r)) (TP X pins σ B) X.xe s
noncomputable def T5:TT:=fun _ H B=>B true H
theorem Ajx {X:Cx}:PTs X [] T5:=fun _ _ _ H _ I h=>wpAny_pure ⟨H,I,h⟩
noncomputable def Kp (σ σ':St):Prop:=σ'.length=σ.length/\∀(i:Nat) v,σ[i]? =some (some v)->σ'[i]? =some (some v)
noncomputable def cIn (J:It) (cσ:St) (g:TG) (tt:TT) (te:TE) (Q:VK) (H1:Hp) (p:Addr):Prop:=∃W:Nat->Nat->List V->Hp->Prop,(∃m,W 0 m [] (upd H1 p (.lst [])))/\∀i m acc H2,W i m acc H2->
 (J.stop i H2/\Q (.ref p) H2)\/(J.go i H2/\∀x H3,J.yld i H2 x H3->g x cσ H3 fun σ4 H4=>Kp cσ σ4/\tt σ4 H4 fun b H5=>
   if b=true then te σ4 H5 fun y H6=>H6 p=some (.lst acc)/\acc.length<sizeLine/\∃m',m'<m/\W (i+1) m' (acc++ [y]) (upd H6 p (.lst (acc++ [y])))else ∃m',m'<m/\W (i+1) m' acc H5)
noncomputable def Abd (n:Nat) (fs:List (Nat × Str)) (wi:TI) (g:TG) (tt:TT) (te:TE):TE:=fun σ H Q=>wi σ H fun J H1=>∀p,H1 p=none->cIn J (cpσ n fs σ) g tt te Q H1 p
section
variable {X:Cx}{elt tg iter:Expr}{ifs:List Expr}{scope:Scope}{pos:Pos}{wi:TI}{g:TG}{tt:TT}{te:TE}{ts:List Str}{fs:List (Nat × Str)}
theorem Dl.clos (S:Dl X ts fs scope) (ok:X.Ok):∀x∈scope.names,x.2= .free->∃c,X.env.cells.lookup x.1=some c:=fun x z I=>ok.has x.1 (S.free x z I)
theorem Dl.sub (S:Dl X ts fs scope) (ok:X.Ok) {y:Str}{c:Addr} (h:(scope.names.foldl (clF X.env) []).lookup y=some c):X.env.cells.lookup y=some c:=by
 rcases Uo scope.names [] y c (S.clos ok) h with z | z
 . simp at z
 . exact z
theorem Aae {pins:List (Addr × Obj)}{σ:St}{H:Hp}{U s4:Shared}{ex:List Addr} (S:Dl X ts fs scope) (I:Inv X pins σ H U)
 (M:∀b∈ex,Xb X pins H b/\∃o,U.heap.get? b=some o) (a4:s4.os=U.os) (hg:s4.gens=U.gens) (hk:∀b u,U.heap.get? b=some u->s4.heap.get? b=some u)
 (hn:s4.heap.Ns U.heap.objs.size fun _=>none):Inv (cxC X (cpN ts fs) scope ex U H) [] (cpσ ts.length fs σ) H s4:=by
 have ok:=I.ok
 have a5:∀b∈ex,b≠U.heap.objs.size:=fun b O=>by
  obtain⟨_,o,Y⟩:=M b O
  exact ne_of_lt (Heap.lt_size Y)
 refine⟨⟨ok.mod,S.kind,ok.glob,ok.blt,le_refl _,fun y z c h1 h2=>ok.inj y z c (S.sub ok h1) (S.sub ok h2),fun y Z=> ?_,fun y c h _=>absurd h (by intro z;cases z),ok.hd,ok.frames,.inl rfl,fun b O=>⟨a5 b O,fun x c e=>(M b O).1.2.2.2.2.1 x c (S.sub ok e)⟩,
  I.bs,le_trans ok.bsz I.sz,fun b o e O=> ?_,fun b O=> ?_,I.stack,I.stkFree⟩,a4,by rw [hg];exact I.bare,Un.kept hk,⟨_,hn,fun i x v h1 h2 h3=> ?_⟩,fun y c e=> ?_,I.hok.fresh (le_refl _),fun y c e=>I.freeC y c (S.sub ok e),
  fun p hp=>absurd (show p∈([]:List (Addr × Obj))from hp) (by simp),I.hok.kept hk,?_⟩
 . have z:∃k',(k'=NameKind.cell\/k'= .free)/\(scope.names.map fun(n,k)=>if(k==NameKind.free&&X.env.scope.kind== .function&&X.env.kindOf n==some .cell)then(n,NameKind.cell)else(n,k)).lookup y=some k':=by
    rcases Z with Z | Z
    . exact⟨_,.inl rfl,Z⟩
    . exact⟨_,.inr rfl,Z⟩
   obtain⟨k',a6,hl⟩:=z
   obtain⟨k,hm,h2⟩:=Lh hl
   have hf:k= .free:=by
    rcases h2 with e | ⟨e,_⟩
    . subst e
      rcases a6 with e | e
      . exact absurd e (S.cell _ hm)
      . exact e
    . exact e
   exact Xj scope.names [] y (.inl ⟨_,hm,hf,rfl⟩)
 . rcases(M b O).1.2.2.2.1 with z | z
   . exact ok.noex b o e z
   . exact absurd (lt_of_lt_of_le (Heap.lt_size e) (le_trans ok.bsz z)) (lt_irrefl _)
 . intro a7
   rcases mem_cons.mp (I.stkSub b a7)with e | e
   . exact(M b O).1.2.1 e
   . exact(M b O).1.2.2.1 e
 . unfold cpσ at h2
   by_cases hi:i<ts.length
   . rw [getElem?_append_left (by simpa using hi),getElem?_replicate]at h2
     split at h2<;>cases h2
   . rw [getElem?_append_right (by simpa using hi),length_replicate]at h2
     have J:(cpN ts fs)[i]? =some x:=h1
     unfold cpN at J
     rw [getElem?_append_right (by omega)]at J
     rw [getElem?_map]at J h2
     cases e:fs[i-ts.length]? with
     | none=>rw [e]at J;cases J
     | some p=>
       rw [e]at J h2
       have ex':p.2=x:=Option.some.inj J
       have e2:(σ[p.1]?).join=some v:=Option.some.inj h2
       have e3:σ[p.1]? =some (some v):=by
        cases q:σ[p.1]? with
        | none=>rw [q]at e2;cases e2
        | some o=>rw [q]at e2;cases o with | none=>cases e2 | some v'=>cases e2;rfl
       obtain⟨a1,a2,a3⟩:=S.at' p (List.mem_of_getElem? e)
       obtain⟨m,_,hl⟩:=I.loc
       have kd:=S.free _ a2 rfl
       have a8:Vis X.env.scope p.2:=by
        rcases kd with z | z
        . exact .inr (.inl z)
        . exact .inr (.inr z)
       obtain⟨u,r,l⟩:=hl p.1 p.2 v a1 e3 a8
       refine⟨u,r,?_⟩
       rcases l with⟨z,_⟩ | ⟨_,c,hc,W⟩
       . rcases kd with q | q
         . rw [q]at z;cases z
         . rw [q]at z;cases z
       . obtain⟨c',a0⟩:=Xj (env:=X.env) scope.names [] p.2 (.inl ⟨_,a2,rfl,rfl⟩)
         have ec:c'=c:=Option.some.inj ((S.sub ok a0).symm.trans hc)
         subst ec
         subst ex'
         refine .inr ⟨?_,c',a0,?_⟩
         . exact a3
         . obtain⟨o,Y,hd⟩:=W
           exact⟨o,hk _ _ Y,hd⟩
 . obtain⟨v,o,Y,hd⟩:=I.cell y c (S.sub ok e)
   exact⟨v,o,hk _ _ Y,hd⟩
 . unfold cpσ
   show _=(cpN ts fs).length
   unfold cpN
   simp
theorem Y8 {pins:List (Addr × Obj)}{σ Z:St}{H H':Hp}{M W:Shared}{h':Heap}{ex:List Addr} (S:Dl X ts fs scope) (I:Inv X pins σ H M) (U:∀b∈ex,Xb X pins H b)
 (J:Inv (cxC X (cpN ts fs) scope ex M H) [] Z H' W) (sb:Heap.SameBut M.heap.objs.size W.heap h'):Inv X pins σ H' { W with heap:=h'}:=by
 have nC:H' M.heap.objs.size=none:=J.free
 have old:∀b o,b≠M.heap.objs.size->W.heap.get? b=some o->h'.get? b=some o:=fun b o O e=>sb.extBut b o O e
 have lt:∀b o,M.heap.get? b=some o->b≠M.heap.objs.size:=fun b o e=>ne_of_lt (Heap.lt_size e)
 have u:Un (frs X.stack) ex H H' M.heap W.heap:=J.base
 have u2:Un (frs X.stack) ex H H' M.heap h':=
  ⟨fun b o e n O Y=>old b o (lt b o e) (u.keep b o e n O Y),fun b o e n O Y=>by
   obtain⟨sl,q⟩:=u.slot b o e n O Y
   exact⟨sl,old b _ (lt b o e) q⟩,u.free,fun b o e Y=>by
   obtain⟨o',q⟩:=u.there b o e Y
   exact⟨o',old b o' (lt b o e) q⟩,u.tups,u.frzs,u.tbls⟩
 have a0:HOk X.prog X.w H' h':=fun b o e=>by
  have nb:b≠M.heap.objs.size:=fun z=>by rw [z,nC]at e;cases e
  refine(J.hok b o e).stay (fun c v hc q=>old c v ?_ q) (fun _ q=>q) fun _ _ q=>q
  rcases hc with z | z
  . rw [z];exact nb
  . intro z2;rw [z2,nC]at z;cases z
 exact I.call' (s':={ W with heap:=h'}) (ch:=ex) J.os u2 a0 J.bare fun b O=>⟨(U b O).2.2.2.1,(U b O).2.1,(U b O).2.2.2.2.1,(U b O).2.2.2.2.2⟩
theorem Inv.fade {pins:List (Addr × Obj)}{σ z:St}{H:Hp}{s:Shared} (I:Inv X pins z H s) (k:Kp σ z):Inv X pins σ H s:=by
 refine⟨I.ok,I.os,I.bare,I.base,?_,I.cell,I.free,I.freeC,I.pin,I.hok,k.1.symm.trans I.len⟩
 obtain⟨m,J,M⟩:=I.loc
 exact⟨m,J,fun i x v h1 h2 O=>M i x v h1 (k.2 i v h2) O⟩
theorem Afe {pins:List (Addr × Obj)}{σ:St}{M:Hp}{O s4:Shared}{Q:VK}{R:Result->Shared->Prop}{fp:List Addr}{it p:Addr}{tn:Nat->Heap->Prop}{J:It}{W:Nat->Nat->List V->Hp->Prop}{m0:Nat} (hc:X.calm=true) (S:Dl X ts fs scope)
 (hg:∀ex s H,PG (cxC X (cpN ts fs) scope ex s H) tg g) (ht:∀ex s H,PTs (cxC X (cpN ts fs) scope ex s H) ifs tt) (he:∀ex s H,PE (cxC X (cpN ts fs) scope ex s H) elt te)
 (I3:Inv X pins σ M O) (T:Turn X.prog X.w X.K tg J fp it tn) (a1:∀b∈fp,Xb X pins M b) (lt:∀b∈fp,b<O.heap.objs.size)
 (I4:Inv (cxC X (cpN ts fs) scope fp O M) [] (cpσ ts.length fs σ) M s4) (ab:tn 0 s4.heap) (w0:W 0 m0 [] M)
 (ac:∀H5 s6,Inv (cxC X (cpN ts fs) scope fp O M) [] (cpσ ts.length fs σ) H5 s6->Q (.ref p) H5->R (.ok .next) s6)
 (a5:∀i m I H2,W i m I H2->(J.stop i H2/\Q (.ref p) H2)\/(J.go i H2/\∀x M,J.yld i H2 x M->g x (cpσ ts.length fs σ) M fun a3 H4=>Kp (cpσ ts.length fs σ) a3/\tt a3 H4 fun b H5=>
   if b=true then te a3 H5 fun y H6=>H6 p=some (.lst I)/\I.length<sizeLine/\∃Y,Y<m/\W (i+1) Y (I++ [y]) (upd H6 p (.lst (I++ [y])))else ∃Y,Y<m/\W (i+1) Y I H5)):
 codeAny (model X.prog X.w) X.A (.compLoop (.ListComp elt [⟨tg,iter,ifs,0⟩] scope pos) 0 (.ref it) (.ref p) (cxC X (cpN ts fs) scope fp O M).env) R s4:=by
 have Z:∀ {H':Hp},(∀b∈fp,H' b=none)->∀b∈fp,Xb (cxC X (cpN ts fs) scope fp O M) [] H' b:=fun hn b U=>
  ⟨hn b U,ne_of_lt (lt b U),fun z=>(mem_cons.mp (I3.stkSub b z)).elim (a1 b U).2.1 (a1 b U).2.2.1,.inl U,fun x c e=>(a1 b U).2.2.2.2.1 x c (S.sub I3.ok e),fun q hq=>absurd (show q∈([]:List (Addr × Obj))from hq) (by simp)⟩
 refine V9 (fun n s'=>∃i I H',Inv (cxC X (cpN ts fs) scope fp O M) [] (cpσ ts.length fs σ) H' s'/\tn i s'.heap/\(∀b∈fp,H' b=none)/\W i n I H') ?_ m0 ⟨0,[],M,I4,ab,fun b U=>(a1 b U).1,w0⟩
 rintro n s5 ⟨i,I,H5,I5,a6,a7,w5⟩
 rcases a5 i n I H5 w5 with⟨a8,q⟩ | ⟨go,step⟩
 . refine thn (T.done (cxC X (cpN ts fs) scope fp O M) rfl rfl rfl hc i [] s5 _ H5 _ I5 (Z a7) a6 a8) fun r s6 ⟨hr,I6⟩=> ?_
   subst hr
   exact ac H5 s6 I6 q
 . refine thn (T.item (cxC X (cpN ts fs) scope fp O M) rfl rfl rfl hc i [] s5 _ H5 _ I5 (Z a7) a6 go) fun r s6 ⟨u,hr,h6⟩=> ?_
   subst hr
   refine thn h6 fun _ s7 ⟨x,H7,I7,r7,y7,a4,ad⟩=> ?_
   have ae:=I7.pinned (Z ad) (T.obj _ _ a4)
   refine thn (hg fp O M _ s7 _ H7 x u _ ae r7 (step x H7 y7)) fun _ s8 ⟨a2,H8,I8,kp,q8⟩=> ?_
   have again:∀ {H9:Hp}{s9:Shared}{a0:List V}{Y:Nat},Inv (cxC X (cpN ts fs) scope fp O M) ([]++Ws fp s7.heap) a2 H9 s9->Y<n->W (i+1) Y a0 H9->
    ∃m,m<n/\∃i I H',Inv (cxC X (cpN ts fs) scope fp O M) [] (cpσ ts.length fs σ) H' s9/\tn i s9.heap/\(∀b∈fp,H' b=none)/\W i m I H':=fun {H9 s9 a0 Y} I9 hm w9=>by
    refine⟨Y,hm,i+1,a0,H9,(I9.fade kp).unpinned,T.keep _ _ _ a4 fun b U o e=>(I9.pin (b,o) (mem_append_right _ (mem_append_right _ (Jy U e)))).1,fun b U=> ?_,w9⟩
    obtain⟨o,e,d⟩:=T.obj _ _ a4 b U
    exact(I9.pin (b,o) (mem_append_right _ (mem_append_right _ (Jy U e)))).2.1
   refine thn (ht fp O M _ s8 a2 H8 _ I8 q8) fun ok s9 ⟨H9,I9,q9⟩=> ?_
   cases ok with
   | false=>
     rw [if_neg Bool.false_ne_true]at q9 ⊢
     obtain⟨Y,hm,w9⟩:=q9
     exact again I9 hm w9
   | true=>
     rw [if_pos rfl]at q9 ⊢
     refine thn (he fp O M _ s9 a2 H9 _ I9 q9) fun y af ⟨yv,ag,ah,ai,a9,aa,Y,hm,aj⟩=> ?_
     exact thn (Jz _ af a2 ag (.ref p) [yv] (.ref p) [y] _ ah rfl (.cons ai .nil) ⟨p,I,yv,rfl,rfl,a9,aa,aj⟩) fun _ an ⟨_,ao,ak,_,am⟩=>again ak hm am
set_option maxHeartbeats 2000000 in
theorem T9 {a0:Pos}{pins:List (Addr × Obj)}{σ:St}{H:Hp}{s:Shared}{Q:VK}{QQ:Value->Shared->Prop}{use:Option (Value->Sem Unit)} (hc:X.calm=true) (S:Dl X ts fs scope) (hi:PI X tg iter wi) (hg:∀ex s H,PG (cxC X (cpN ts fs) scope ex s H) tg g) (ht:∀ex s H,PTs (cxC X (cpN ts fs) scope ex s H) ifs tt)
 (he:∀ex s H,PE (cxC X (cpN ts fs) scope ex s H) elt te) (hs:∀x,foldedSetIterable iter X.env x=pure x) (I:Inv X pins σ H s) (h:Abd ts.length fs wi g tt te σ H Q)
 (a6:∀(H3:Hp) (s3:Shared) (fp:List Addr) (p:Addr) (H5:Hp) (s6:Shared),Inv X pins σ H3 s3->(∀b∈fp,Xb X pins H3 b)->Inv (cxC X (cpN ts fs) scope fp s3 H3) [] (cpσ ts.length fs σ) H5 s6->Q (.ref p) H5->compPost (model X.prog X.w) X.A X.xe use QQ (.ref p) s3.heap.objs.size (.ok .next) s6):
 wpAny (model X.prog X.w) X.A (comprehension (.ListComp elt [⟨tg,iter,ifs,0⟩] scope pos) scope X.env a0 (newList []) false (eval iter X.env) use) QQ X.xe s:=by
 refine wpAny_comprehension_free (use:=use) rfl hs (Aad (S.clos I.ok)) S.kind S.names (thn (hi pins s σ H _ I h) fun v s1 h1=>thn h1 fun a7 U h2=> ?_)
 obtain⟨it,fp,tn,J,H2,rfl,I2,T,a1,f2,hw⟩:=h2
 refine wpAny_newObj_type (wpAny_newFunctionEnv S.cell (by intro y hy;simp at hy) (fun O z M=> ?_) S.kind)
 dsimp only at z M ⊢
 have I3:=I2.lnew (its:=[]) (ys:=[]) (t':=U.toks) .nil (zero_le _)
 have hD:H2 U.heap.objs.size=none:=I2.fresh
 obtain⟨W,⟨m0,w0⟩,a2⟩:=hw _ hD
 have up:∀b o,U.heap.get? b=some o->(U.heap.push { cls:= .type "list",data:= .seq ([]:List Value).toArray}).get? b=some o:=fun b o e=>Heap.get?_push_of_some _ e
 have Y:∀b∈fp,Xb X pins (upd H2 U.heap.objs.size (.lst [])) b/\∃o,(U.heap.push { cls:= .type "list",data:= .seq ([]:List Value).toArray}).get? b=some o:=fun b Z=>by
  obtain⟨o,ho,_⟩:=T.obj _ _ a1 b Z
  have nb:b≠U.heap.objs.size:=ne_of_lt (Heap.lt_size ho)
  exact⟨⟨by rw [Cu nb];exact(f2 b Z).1,(f2 b Z).2⟩,o,up b o ho⟩
 have a3:∀b u,(U.heap.push { cls:= .type "list",data:= .seq ([]:List Value).toArray}).get? b=some u->O.get? b=some u:=fun b u e=>
  M.extBut b u (ne_of_lt (Heap.lt_size e)) (Heap.get?_push_of_some _ e)
 have I4:=Aae (s4:={ U with heap:=O,toks:=U.toks}) S I3 Y rfl rfl a3 z
 have a4:tn 0 O:=T.keep _ _ _ a1 fun b _ o e=>a3 b o (up b o e)
 have a5:=Afe (elt:=elt) (iter:=iter) (pos:=pos) hc S hg ht he I3 T (fun b Z=>(Y b Z).1) (fun b Z=>Heap.lt_size (Y b Z).2.choose_spec) I4 a4 w0 (fun H5 s6 I6 q=>a6 _ _ fp _ H5 s6 I3 (fun b Z=>(Y b Z).1) I6 q) a2
 exact codeAny_compStart_list a5 (T.self X.A 0 _ _ _ a4 a5)
theorem Ads (M:X.calm=true) (S:Dl X ts fs scope) (hi:PI X tg iter wi) (O:∀ex s H,PG (cxC X (cpN ts fs) scope ex s H) tg g) (U:∀ex s H,PTs (cxC X (cpN ts fs) scope ex s H) ifs tt)
 (W:∀ex s H,PE (cxC X (cpN ts fs) scope ex s H) elt te) (Y:∀x,foldedSetIterable iter X.env x=pure x:=by intro _;rfl):
 PE X (.ListComp elt [⟨tg,iter,ifs,0⟩] scope pos) (Abd ts.length fs wi g tt te):=by
 intro pins s σ H Q I h
 rw [eval_ListComp]
 refine T9 (use:=none) M S hi O U W Y I h fun H3 s3 fp p Z s6 I3 z J q=> ?_
 obtain⟨m,hn,_⟩:=J.loc
 exact⟨m,hn,fun h' sb=>⟨.ref p,Z,Y8 S I3 z J sb,rfl,q⟩⟩
theorem Ym {g':TG}{y:Str}{py M:Pos} (hc:X.calm=true) (S:Dl X ts fs scope) (hi:PI X tg iter wi) (hg:∀ex s H,PG (cxC X (cpN ts fs) scope ex s H) tg g) (ht:∀ex s H,PTs (cxC X (cpN ts fs) scope ex s H) ifs tt)
 (he:∀ex s H,PE (cxC X (cpN ts fs) scope ex s H) elt te) (hn:PG X (.Name y py) g') (Z:swapsWith (.ListComp elt [⟨tg,iter,ifs,0⟩] scope pos) (some (.Name y py)) M.line X.env=pure true:=by rfl) (hs:∀x,foldedSetIterable iter X.env x=pure x:=by intro _;rfl):
 PS X (.Assign [.Name y py] (.ListComp elt [⟨tg,iter,ifs,0⟩] scope pos) M) (Agr (Abd ts.length fs wi g tt te) g'):=by
 intro pins s σ H D I h
 rw [exec_Assign_Name_used _ _ _ _ Z]
 refine wpAny_bind (wpAny_standAt (wpAny_bind ?_))
 show wpAny _ X.A (do let _<-comprehension (.ListComp elt [⟨tg,iter,ifs,0⟩] scope pos) scope X.env _ (newList []) false (eval iter X.env) (some (assign (.Name y py) X.env))) _ _ s
 refine wpAny_bind (wpAny_mono (T9 (use:=some (assign (.Name y py) X.env)) (QQ:=fun _ s'=>SP X pins D .next s') hc S hi hg ht he hs I h fun H3 O fp p H5 s6 I3 a0 I6 q=> ?_) (fun _ s' hq=>wpAny_pure (wpAny_pure hq)) fun _ _ e=>e)
 have J:Inv X pins σ H5 s6:=Y8 S I3 a0 I6 (Heap.SameBut.refl _ _)
 obtain⟨m,⟨o,es,ep,ho,hd,a1,hf⟩,_⟩:=I6.loc
 have U:s6.heap.get? O.heap.objs.size=some o:=ho
 have W:Xb X pins H5 O.heap.objs.size:=I3.fpOk (le_refl _) I6.free
 have J':=J.pinned (fp:=[O.heap.objs.size]) (fun b Y=>by
  have e:b=O.heap.objs.size:=by simpa using Y
  subst e
  exact W) (fun b Y=>by
  have e:b=O.heap.objs.size:=by simpa using Y
  subst e
  exact⟨o,U,fun v z=>by rw [hd]at z;cases z⟩)
 refine thn (hn _ s6 σ H5 (.ref p) (.ref p) _ J' rfl q) fun _ s7 ⟨a2,H7,I7,q7⟩=> ?_
 have pC:=I7.pin (O.heap.objs.size,o) (mem_append_right _ (mem_append_right _ (Jy (by simp) U)))
 exact⟨m,⟨o,es,ep,pC.1,hd,a1,hf⟩,fun h' sb=>⟨a2,H7,I7.unpinned.turned (t':=s7.toks) (fun b o Y e=>sb.extBut b o Y e) pC.2.1 W.2.1 W.2.2.2.1 W.2.2.2.2.1 W.2.2.2.2.2,q7⟩⟩
end
section
variable {K:Frag}{H1:Hp}{p:Addr}{cσ:St}{g:TG}{te:TE}{Q:VK}{α:Type}{es:List α}{inj:α->V}
noncomputable def Wk (J:It) (H1:Hp) (es:List α) (inj:α->V):Prop:=∀i H',Same H1 H'->(es[i]? =none->J.stop i H')/\∀e,es[i]? =some e->J.go i H'/\∀x H3,J.yld i H' x H3->H3=H'/\x=inj e
theorem Tf {a:Addr} (h:SqL K H1 a (es.map inj)):Wk (Itl K a) H1 es inj:=fun i H' s=>by
 have h':=s.seq h
 refine⟨fun e=>⟨_,h',?_⟩,fun e I=>⟨⟨_,inj e,h',by rw [getElem?_map,I];rfl⟩,fun x O ⟨J,M⟩=>⟨J,?_⟩⟩⟩
 . rw [length_map]
   exact List.getElem?_eq_none_iff.mp e
 . have z:=M _ h'
   rw [getElem?_map,I]at z
   exact(Option.some.inj z).symm
theorem Ov {a:Addr} (h:SqT K H1 a (es.map inj)):Wk (Itt K a) H1 es inj:=fun i H' s=>by
 have h':=s.tup h
 refine⟨fun e=>⟨_,h',?_⟩,fun e I=>⟨⟨_,inj e,h',by rw [getElem?_map,I];rfl⟩,fun x O ⟨J,M⟩=>⟨J,?_⟩⟩⟩
 . rw [length_map]
   exact List.getElem?_eq_none_iff.mp e
 . have z:=M _ h'
   rw [getElem?_map,I]at z
   exact(Option.some.inj z).symm
theorem Q7 {lo:Int}{n:Nat}:Wk (Itr lo n) H1 (List.range n) (fun i=> .int (lo+(i:Nat))):=fun i H' s=>by
 refine⟨fun e=> ?_,fun e I=> ?_⟩
 . have:=List.getElem?_eq_none_iff.mp e
   show n<=i
   simpa using this
 . obtain⟨h,z⟩:=List.getElem?_eq_some_iff.mp I
   have hi:i<n:=by simpa using h
   have J:i=e:=by simpa using z
   subst J
   exact⟨hi,fun x S ⟨M,O⟩=>⟨M,O⟩⟩
theorem Gx {J:It} (f:α->V) (hz:es.length<=sizeLine) (hp:H1 p=none) (Y:Wk J H1 es inj)
 (step:∀e H' R,e∈es->Same H1 H'->(∀M,Same H' M->R (f e) M)->g (inj e) cσ H' fun z I=>Kp cσ z/\te z I R)
 (S:∀H',Same H1 H'->H' p=some (.lst (es.map f))->Q (.ref p) H'):cIn J cσ g T5 te Q H1 p:=by
 have Z:∀ {H':Hp}{o:HO},Same H1 H'->Same H1 (upd H' p o):=fun {H' o} s b u e=>by
  rw [Cu (Dk e hp)]
  exact s b u e
 refine⟨fun i m O H'=>m=es.length-i/\i<=es.length/\O=(es.take i).map f/\H' p=some (.lst O)/\Same H1 H',⟨es.length,by simp,zero_le _,by simp,Ao,Z (Same.refl _)⟩,?_⟩
 rintro i m O H' ⟨rfl,hi,rfl,U,s⟩
 cases he:es[i]? with
 | none=>
   have hl:=List.getElem?_eq_none_iff.mp he
   have e:i=es.length:=le_antisymm hi hl
   subst e
   rw [take_length]at U
   exact .inl ⟨(Y _ _ s).1 he,S _ s U⟩
 | some e=>
   obtain⟨go,yl⟩:=(Y _ _ s).2 e he
   refine .inr ⟨go,fun x H3 y=> ?_⟩
   obtain⟨rfl,rfl⟩:=yl x H3 y
   obtain⟨W,e'⟩:=List.getElem?_eq_some_iff.mp he
   have tk:es.take (i+1)=es.take i++ [e]:=by rw [take_succ,he];rfl
   have q:=step e H3 (fun y M=>M p=some (.lst ((es.take i).map f))/\((es.take i).map f).length<sizeLine/\∃m',m'<es.length-i/\m'=es.length-(i+1)/\i+1<=es.length/\(es.take i).map f++ [y]=(es.take (i+1)).map f/\
    upd M p (.lst ((es.take i).map f++ [y])) p=some (.lst ((es.take i).map f++ [y]))/\Same H1 (upd M p (.lst ((es.take i).map f++ [y])))) (List.mem_of_getElem? he) s
    (fun M s6=>⟨s6 _ _ U,by rw [length_map,length_take];omega,_,by omega,rfl,W,by rw [tk,map_append];rfl,Ao,Z (s.trans s6)⟩)
   have eq:∀(R:VK) (B:Hp->Prop),(fun z I=>Kp cσ z/\T5 z I fun b H5=>if b=true then te z H5 R else B H5)=(fun z I=>Kp cσ z/\te z I R):=fun R B=>by
    funext z I
    show(Kp cσ z/\if true=true then te z I R else B I)=_
    rw [if_pos rfl]
   rw [eq]
   exact q
end
section
variable {X:Cx}{K:Frag}{σ:St}{H:Hp}{Q:VK}{R:It->Hp->Prop}
theorem Anl {n:Nat}{fs:List (Nat × Str)}{wi:TI}{g:TG}{tt:TT}{te:TE}:Abd n fs wi g tt te σ H Q=wi σ H (fun J H1=>∀p,H1 p=none->cIn J (cpσ n fs σ) g tt te Q H1 p):=rfl
theorem An0 {ta:TA}:Aiz ta σ H R=ta σ H (fun z H1=>∃j:Int,z=[.int j]/\ -(2^62)<=j/\j<2^62/\R (Itr 0 j.toNat) H1):=rfl
theorem Akm {tl:TE}:Aiy K tl σ H R=tl σ H (fun x H1=>∃a,x= .ref a/\(∃xs,SqL K H1 a xs)/\R (Itl K a) H1):=rfl
theorem Anu {tl:TE}:Aoo K tl σ H R=tl σ H (fun x H1=>∃a,x= .ref a/\(∃xs,SqT K H1 a xs)/\R (Itt K a) H1):=rfl
theorem Apx {a:Addr}{p:Addr->Prop}:(∃b,V.ref a= .ref b/\p b)=p a:=propext ⟨fun⟨_,e,h⟩=>by cases e;exact h,fun h=>⟨a,rfl,h⟩⟩
theorem Ap1 {v:Option V}{r:St}:Kp (none::r) (v::r)=True:=by
 refine eq_true ⟨rfl,fun i u e=> ?_⟩
 cases i with
 | zero=>cases e
 | succ i=>exact e
theorem Ap2 {v z:Option V}{r:St}:Kp (none::none::r) (v::z::r)=True:=by
 refine eq_true ⟨rfl,fun i u e=> ?_⟩
 cases i with
 | zero=>cases e
 | succ i=>
   cases i with
   | zero=>cases e
   | succ i=>exact e
theorem Ant {k:Bool}{p:Int->Prop}{q:Bool->Prop}:((∃i,[V.bl k]=[V.int i]/\p i)\/∃z,[V.bl k]=[V.bl z]/\q z)=q k:=
 propext ⟨fun h=>h.elim (fun⟨_,e,_⟩=>by cases e) fun⟨_,e,h⟩=>by cases e;exact h,fun h=> .inr ⟨k,rfl,h⟩⟩
end
noncomputable def FI (J:It) (g:TG) (tb:TS) (D:Ends) (σ:St) (H:Hp):Prop:=∃W:Nat->Nat->St->Hp->Prop,(∃m,W 0 m σ H)/\∀i m σ H,W i m σ H->
 (J.stop i H/\D.nx σ H)\/(J.go i H/\∃N:St->Hp->Prop,(∀σ' H',N σ' H'->∃m',m'<m/\W (i+1) m' σ' H')/\∀x H',J.yld i H x H'->g x σ H' fun σ2 H2=>tb { D with nx:=N,ct:=N,bk:=D.nx} σ2 H2)
theorem Agy {wi:TI}{g:TG}{tb:TS}{D:Ends}{σ:St}{H:Hp}:Apb wi g tb D σ H=wi σ H (fun J H1=>FI J g tb D σ H1):=rfl
section
variable {K:Frag}{σ:St}{H:Hp}{g:TG}{tb:TS}{D:Ends}{α:Type}{es:List α}{inj:α->V}
noncomputable def Aih (J:It) (H:Hp) (es:List α) (inj:α->V):Prop:=∀i,(es[i]? =none->J.stop i H)/\∀e,es[i]? =some e->J.go i H/\∀x H3,J.yld i H x H3->H3=H/\x=inj e
theorem Te {a:Addr} (h:SqL K H a (es.map inj)):Aih (Itl K a) H es inj:=fun i=>Tf h i H (Same.refl _)
theorem Z6 {a:Addr} (h:SqT K H a (es.map inj)):Aih (Itt K a) H es inj:=fun i=>Ov h i H (Same.refl _)
theorem J5 {lo:Int}{n:Nat}:Aih (Itr lo n) H (List.range n) (fun i=> .int (lo+(i:Nat))):=fun i=>Q7 i H (Same.refl _)
theorem Uy {J:It} (I:List α->St->Hp->Prop) (U:I [] σ H) (W:∀z σ H,I z σ H->Aih J H es inj)
 (Y:∀z e M σ H,es=z++e::M->I z σ H->g (inj e) σ H fun S H2=>tb { D with nx:=I (z++ [e]),ct:=I (z++ [e]),bk:=D.nx} S H2) (Z:∀σ H,I es σ H->D.nx σ H):FI J g tb D σ H:=by
 refine⟨fun i m σ H=>m=es.length-i/\i<=es.length/\I (es.take i) σ H,⟨es.length,by simp,zero_le _,U⟩,?_⟩
 rintro i m σ H ⟨rfl,hi,p⟩
 have w:=W _ _ _ p i
 cases he:es[i]? with
 | none=>
   have e:i=es.length:=le_antisymm hi (List.getElem?_eq_none_iff.mp he)
   subst e
   rw [take_length]at p
   exact .inl ⟨w.1 he,Z _ _ p⟩
 | some e=>
   obtain⟨O,ee⟩:=List.getElem?_eq_some_iff.mp he
   have tk:es.take (i+1)=es.take i++ [e]:=by rw [take_succ,he];rfl
   have sp:es=es.take i++e::es.drop (i+1):=by
    rw [<-ee,<-List.drop_eq_getElem_cons O,List.take_append_drop]
   refine .inr ⟨(w.2 e he).1,I (es.take i++ [e]),fun a0 H' q=>⟨es.length-(i+1),by omega,rfl,O,by rw [tk];exact q⟩,fun x H' y=> ?_⟩
   obtain⟨rfl,rfl⟩:=(w.2 e he).2 x H' y
   exact Y _ e _ σ H' sp p
end
section
variable {K:Frag}{σ:St}{H:Hp}{Q:VK}
theorem Arf {r:V->Option Int->Option Int->Hp->VK->Prop}{te:TE}{tl th:TO}:tSl r te tl th σ H Q=te σ H (fun x H1=>tl σ H1 fun l H2=>th σ H2 fun u z=>r x l u z Q):=rfl
theorem Agz {R:Option Int->Hp->Prop}:Yw σ H R=R none H:=rfl
theorem Anz {t:TE}{R:Option Int->Hp->Prop}:Ake t σ H R=t σ H (fun x H1=>∃i,x= .int i/\R (some i) H1):=rfl
theorem Apn {T:String}{r:V->List V->Hp->VK->Prop}{to:TE}:Apa K T r to σ H Q=to σ H (fun x H1=>tyV K T x H1/\r x [] H1 Q):=rfl
theorem Aq7 {T:String}{r:V->List V->Hp->VK->Prop}{to:TE}{t:TA}:tBM K T r to t σ H Q=to σ H (fun x H1=>tyV K T x H1/\t σ H1 fun xs H2=>r x xs H2 Q):=rfl
end
section
variable {CX:CXT}{P:Program}{w:World}{K:Frag}{mg:Str->Option Value}{base:Heap}{N:List Str}{qual:Str}{scope:Scope}{f:Addr}{cd:Value}{A:Around}{outer:List Env}{s:Shared}{H H1 H2:Hp}{E:XK}{Q:VK}{a b:Addr}{ns ms:List Int}{g:Bool->Bool}
theorem Apo:(Rj CX P w K mg base N qual scope f cd A outer s H E).K=K:=rfl
theorem Anx:(Rj CX P w K mg base N qual scope f cd A outer s H E).nox.K=K:=rfl
theorem Qe (ns:List Int):SeqAt.shaped (.list (ns.map PyData.int))=true:=by
 simp [SeqAt.shaped,PyData.canLay0,PyData.depth,ke_canLayAll0,ke_depthAll]
theorem Afk (z:SqL K H a (ns.map V.int)) (I:SqL K H b (ms.map V.int)) (h:Q (.bl (g (decide (ns=ms)))) H):Ao0 K g (.ref a) (.ref b) H Q:=
 ⟨_,_,.lints z,.lints I,Qe _,Qe _,by rw [PyData.eqv,Qt];exact h⟩
end
section
variable {c:TT}{tb:TS}{D:Ends}{σ:St}{H:Hp}
noncomputable def WB (Pv:St->Hp->Prop) (μ:St->Hp->Nat) (tb:TS) (D:Ends) (n:Nat) (σ:St) (H:Hp):Prop:=
 ∃N:St->Hp->Prop,(∀σ' H',N σ' H'->∃m',m'<n/\(m'=μ σ' H'/\Pv σ' H'))/\tb { D with nx:=N,ct:=N,bk:=D.nx} σ H
theorem Agw {I:St->Hp->Prop}{J:St->Hp->Nat}{n:Nat} (h:tb { D with nx:=fun z H'=>I z H'/\J z H'<n,ct:=fun z H'=>I z H'/\J z H'<n,bk:=D.nx} σ H):WB I J tb D n σ H:=
 ⟨_,fun _ _ ⟨p,l⟩=>⟨_,l,rfl,p⟩,h⟩
theorem Ou (z:St->Hp->Prop) (I:St->Hp->Nat) (J:z σ H) (M:∀σ H,z σ H->c σ H fun b H1=>if b=true then WB z I tb D (I σ H) σ H1 else D.nx σ H1):W7 c tb D σ H:=by
 refine⟨fun m σ H=>m=I σ H/\z σ H,⟨_,rfl,J⟩,?_⟩
 rintro m σ H ⟨rfl,p⟩
 exact M σ H p
end
section
variable {K:Frag}{H1:Hp}{p:Addr}{cσ:St}{g:TG}{te:TE}{Q:VK}{α:Type}{es:List α}{inj:α->V}
theorem Afc {J:It} (W:α->Int->Prop) (hz:es.length<=sizeLine) (hp:H1 p=none) (hJ:Wk J H1 es inj)
 (step:∀e H' R,e∈es->Same H1 H'->(∀n M,Same H' M->W e n->R (.int n) M)->g (inj e) cσ H' fun z I=>Kp cσ z/\te z I R)
 (U:∀(ns:List Int) H',ns.length=es.length->(∀(i:Nat) e n,es[i]? =some e->ns[i]? =some n->W e n)->Same H1 H'->H' p=some (.lst (ns.map V.int))->Q (.ref p) H'):cIn J cσ g T5 te Q H1 p:=by
 have su:∀ {H':Hp}{o:HO},Same H1 H'->Same H1 (upd H' p o):=fun {H' o} s b u e=>by
  rw [Cu (Dk e hp)]
  exact s b u e
 refine⟨fun i m O H'=>m=es.length-i/\i<=es.length/\(∃ns:List Int,O=ns.map V.int/\ns.length=i/\∀(j:Nat) e n,es[j]? =some e->ns[j]? =some n->W e n)/\H' p=some (.lst O)/\Same H1 H',⟨es.length,by simp,zero_le _,⟨[],rfl,rfl,fun j e n _ h=>by simp at h⟩,Ao,su (Same.refl _)⟩,?_⟩
 rintro i m O H' ⟨rfl,hi,⟨ns,rfl,hl,hn⟩,hH,s⟩
 cases he:es[i]? with
 | none=>
   have e:i=es.length:=le_antisymm hi (List.getElem?_eq_none_iff.mp he)
   exact .inl ⟨(hJ _ _ s).1 he,U ns _ (hl.trans e) hn s hH⟩
 | some e=>
   obtain⟨go,yl⟩:=(hJ _ _ s).2 e he
   refine .inr ⟨go,fun x H3 y=> ?_⟩
   obtain⟨rfl,rfl⟩:=yl x H3 y
   obtain⟨Y,_⟩:=List.getElem?_eq_some_iff.mp he
   have q:=step e H3 (fun y M=>M p=some (.lst (ns.map V.int))/\(ns.map V.int).length<sizeLine/\∃m',m'<es.length-i/\m'=es.length-(i+1)/\i+1<=es.length/\(∃S:List Int,ns.map V.int++ [y]=S.map V.int/\S.length=i+1/\∀(j:Nat) e n,es[j]? =some e->S[j]? =some n->W e n)/\
    upd M p (.lst (ns.map V.int++ [y])) p=some (.lst (ns.map V.int++ [y]))/\Same H1 (upd M p (.lst (ns.map V.int++ [y])))) (List.mem_of_getElem? he) s
    (fun n M s6 pn=>⟨s6 _ _ hH,by rw [length_map];omega,_,by omega,rfl,Y,⟨ns++ [n],by rw [map_append];rfl,by rw [length_append,hl];rfl,fun j e' n' h1 h2=>by
      by_cases hj:j<ns.length
      . rw [getElem?_append_left hj]at h2
        exact hn j e' n' h1 h2
      . rw [getElem?_append_right (by omega)]at h2
        have Z:j-ns.length=0:=by
         have:=(List.getElem?_eq_some_iff.mp h2).1
         simp at this
         omega
        rw [Z]at h2
        have a0:j=i:=by omega
        subst a0
        rw [he]at h1
        cases h1
        cases h2
        exact pn⟩,Ao,su (s.trans s6)⟩)
   have eq:∀(R:VK) (B:Hp->Prop),(fun z I=>Kp cσ z/\T5 z I fun b H5=>if b=true then te z H5 R else B H5)=(fun z I=>Kp cσ z/\te z I R):=fun R B=>by
    funext z I
    show(Kp cσ z/\if true=true then te z I R else B I)=_
    rw [if_pos rfl]
   rw [eq]
   exact q
end
theorem Anr {a:Addr}{p:Addr->Prop}:(∃b,[V.ref a]=[.ref b]/\p b)=p a:=propext ⟨fun⟨_,e,h⟩=>by cases e;exact h,fun h=>⟨a,rfl,h⟩⟩
section
variable {K:Frag}{σ:St}{H:Hp}{Q:St->Hp->Prop}{R:VK}{p a b:Addr}{v w:V}{i j:Nat}{xs:List V}{ns ms:List Int}{f:Bool->Bool}
theorem Nz (h:SqT K H p [v,w]) (q:Q ((σ.set i (some v)).set j (some w)) H):Ale K 2 (Afn (O4 i) (Afn (O4 j) Aom)) (.ref p) σ H Q:=⟨p,_,rfl,h,rfl,v,_,rfl,w,_,rfl,rfl,q⟩
theorem Ans {to z:TE}{t:Aky}:Aon to z t v σ H Q=to σ H (fun o H1=>z σ H1 fun i H2=>t o i v H2 fun I=>Q σ I):=rfl
theorem Wc {G:Hp->Prop} (z:H p=some (.lst xs)) (I:j<xs.length) (q:G (upd H p (.lst (xs.set j v)))):Amx (.ref p) (.int (j:Nat)) v H G:=by
 refine⟨p,xs,j,j,rfl,rfl,z,?_,q⟩
 unfold ixN
 rw [if_pos (by omega),if_pos (by omega),toNat_natCast]
theorem Mh (h:SqL K H a xs) (e:xs[j]? =some v) (q:R v H):Ah2 K (.ref a) (.int (j:Nat)) H R:=Fi h (Bk e) q
theorem Bu (z:SqT K H a (ns.map V.int)) (I:SqT K H b (ms.map V.int)) (h:R (.bl (f (decide (ns=ms)))) H):An9 K f (.ref a) (.ref b) H R:=⟨a,b,ns,ms,rfl,rfl,z,I,h⟩
theorem Jh (ns:List Int) (j:Nat) (x:Int):(ns.map V.int).set j (.int x)=(ns.set j x).map V.int:=by rw [map_set]
theorem Ft {ns:List Int}{j:Nat} (h:j<ns.length):(ns.map V.int)[j]? =some (.int ns[j]):=by rw [getElem?_map,getElem?_eq_getElem h];rfl
theorem Io (k:Nat):(replicate k [V.int 0]).flatten=(replicate k (0:Int)).map V.int:=by
 induction k with
 | zero=>rfl
 | succ k z=>rw [replicate_succ,flatten_cons,z,replicate_succ,map_cons];rfl
end
section
variable {prog:Program}{w:World}{A:Around}{E:Value->Shared->Prop}{s:Shared}{j u:Addr}{i:Nat}{xs:Array Value}
theorem nextT {y:Value}{Q:Value->Shared->Prop} (J:s.heap.IsTupleIter j u i) (M:s.heap.IsTuple u xs) (O:xs[i]? =some y)
 (k:∀g,g.IsTupleIter j u (i+1)->Heap.SameBut j s.heap g->Q y { s with heap:=g}):wpAny (model prog w) A (Builtin.SmallTypes.nextOf (.ref j)) Q E s:=by
 obtain⟨Y,I,S,z⟩:=id J
 obtain⟨Z,U,_,nu,W⟩:=M
 unfold Builtin.SmallTypes.nextOf
 refine wpAny_bind (wpAny_callSpecial?_slot (name:=Str.ofString "__next__") J.typeIs F.slot_tuple_iterator_next (wpAny_call_entry F.slot_tuple_iterator_next J.typeIs F.entry_tuple_iterator_next ?_ (F.args_tuple_iterator_next_1 _)))
 show wpAny _ _ (field (.ref j) 0>>=_) _ _ s
 refine wpAny_bind (wpAny_field I z (x:= .ref u) rfl ?_)
 show wpAny _ _ (if(Value.ref u==Value.none)=true then _ else _) _ _ s
 rw [if_neg (show ¬((Value.ref u==Value.none)=true)from Bool.false_ne_true)]
 show wpAny _ _ (field (.ref j) 1>>=_) _ _ s
 refine wpAny_bind (wpAny_field I z (x:= .int i 0) rfl ?_)
 show wpAny _ _ (seqItems? (.ref u)>>=_) _ _ s
 refine wpAny_bind (wpAny_seqItems U W ?_)
 simp only [O,toNat_natCast]
 refine wpAny_bind (wpAny_setField I z (by simp) (wpAny_pure ⟨y,rfl,wpAny_pure (k _ ?_ (Heap.SameBut.update ..))⟩))
 exact⟨_,Heap.get?_update_self _ I (Obj.isFreed_of_fields (Obj.data_mapFields z _)),(Obj.cls_mapFields ..).trans S,by rw [Obj.data_mapFields z];simp [rawInt]⟩
theorem Wf {Q:Value->Shared->Prop} (M:A.handled=none) (z:s.heap.IsTupleIter j u i) (O:s.heap.IsTuple u xs) (S:xs[i]? =none)
 (k:∀g e,Heap.ExtBut j s.heap g->(∃o,g.get? e=some o/\o.cls= .type "StopIteration")->E (.ref e) { s with heap:=g}):wpAny (model prog w) A (Builtin.SmallTypes.nextOf (.ref j)) Q E s:=by
 obtain⟨Y,I,Z,J⟩:=id z
 obtain⟨ou,U,_,nu,W⟩:=O
 unfold Builtin.SmallTypes.nextOf
 refine wpAny_bind (wpAny_callSpecial?_slot (name:=Str.ofString "__next__") z.typeIs F.slot_tuple_iterator_next (wpAny_call_entry F.slot_tuple_iterator_next z.typeIs F.entry_tuple_iterator_next ?_ (F.args_tuple_iterator_next_1 _)))
 show wpAny _ _ (field (.ref j) 0>>=_) _ _ s
 refine wpAny_bind (wpAny_field I J (x:= .ref u) rfl ?_)
 show wpAny _ _ (if(Value.ref u==Value.none)=true then _ else _) _ _ s
 rw [if_neg (show ¬((Value.ref u==Value.none)=true)from Bool.false_ne_true)]
 show wpAny _ _ (field (.ref j) 1>>=_) _ _ s
 refine wpAny_bind (wpAny_field I J (x:= .int i 0) rfl ?_)
 show wpAny _ _ (seqItems? (.ref u)>>=_) _ _ s
 refine wpAny_bind (wpAny_seqItems U W ?_)
 simp only [S,toNat_natCast]
 refine wpAny_bind (wpAny_rule (wpAny_bind (wpAny_setField I J (by simp) ?_)))
 show wpAny _ A.in1 (newExc (.type "StopIteration") []>>=_) _ _ _
 refine wpAny_bind ?_
 simp only [newTuple,newExc]
 refine wpAny_bind (wpAny_newObj_type ?_ (by size_fits))
 refine wpAny_bind (m:=firstArgMember _ _) (wpAny_of_eq (a:=Value.none) (by first | rfl | (simp only [firstArgMember];rfl)) ?_)
 refine(wpAny_newObj_type ?_ (by size_fits))
 simp only [raiseNew]
 refine wpAny_bind (wpAny_handled ?_)
 first | rw [show A.in1.handled=none from M] | (rw [M])
 refine wpAny_bind (wpAny_pure (wpAny_throw ?_))
 exact k _ _ (((Heap.SameBut.update ..).extBut.push _).push _) ⟨_,Heap.get?_push_size _ rfl,rfl⟩
theorem Afh {e:Addr}{y old:Value}{Q:Value->Shared->Prop} (he:IsEnum s.heap e j i old) (hj:s.heap.IsTupleIter j u i) (hu:s.heap.IsTuple u xs) (hy:xs[i]? =some y) (ne:e≠j)
 (k:∀g,IsEnumOut g e j ((i:Int)+1) y s.heap.objs.size->g.IsTupleIter j u (i+1)->g.get? s.heap.objs.size=some { cls:= .type "tuple",data:= .seq #[.int i s.toks,y]}->g.objs.size=s.heap.objs.size+1->
   (∀b o,b≠e->b≠j->s.heap.get? b=some o->g.get? b=some o)->Q (.ref s.heap.objs.size) { s with heap:=g,toks:=s.toks+1}):
 wpAny (model prog w) A (Builtin.«enumerate.__next__» ⟨[.ref e],[]⟩) (fun af s'=>∃v,af= .done (.ret v)/\Q v s') E s:=by
 obtain⟨hp,gg,d,tk,os⟩:=s
 show wpAny _ _ (field (.ref e) 2>>=_) _ _ _
 refine wpAny_bind (wpAny_field he rfl (x:= .ref j) rfl ?_)
 refine wpAny_bind (nextT hj hu hy fun U a5 z=> ?_)
 replace z:Heap.SameBut j hp U:=z
 have a0:IsEnum U e j i old:=(z.2 e ne).trans he
 show wpAny _ _ (field (.ref e) 3>>=_) _ _ ⟨U,gg,d,tk,os⟩
 refine wpAny_bind (wpAny_field a0 rfl (x:=rawInt i) rfl ?_)
 show wpAny _ _ (field (.ref e) 4>>=_) _ _ ⟨U,gg,d,tk,os⟩
 refine wpAny_bind (wpAny_field a0 rfl (x:= .none) rfl ?_)
 show wpAny _ _ (mkInt i>>=_) _ _ ⟨U,gg,d,tk,os⟩
 refine wpAny_bind (wpAny_mkInt ?_)
 show wpAny _ _ (setField (.ref e) 3 (rawInt ((i:Int)+1))>>=_) _ _ ⟨U,gg,d,tk+1,os⟩
 refine wpAny_bind (wpAny_setField_rec a0 (by simp) fun Z a1 I=> ?_)
 replace I:Heap.SameBut e U Z:=I
 replace a1:IsEnum Z e j ((i:Int)+1) old:=a1
 show wpAny _ _ (setField (.ref e) 4 .none>>=_) _ _ ⟨Z,gg,d,tk+1,os⟩
 refine wpAny_bind (wpAny_setField_rec a1 (by simp) fun W a2 J=> ?_)
 replace J:Heap.SameBut e Z W:=J
 replace a2:IsEnum W e j ((i:Int)+1) old:=a2
 show wpAny _ _ (newTuple [.int i tk,y]>>=_) _ _ ⟨W,gg,d,tk+1,os⟩
 refine wpAny_bind (wpAny_newTuple ?_)
 have a3:IsEnum (W.push { cls:= .type "tuple",data:= .seq #[.int i tk,y]}) e j ((i:Int)+1) old:=Heap.get?_push_of_some _ a2
 generalize hg:W.push { cls:= .type "tuple",data:= .seq #[.int i tk,y]}=Y at a3
 have sz:W.objs.size=hp.objs.size:=by rw [J.1,I.1,z.1]
 have lt:e<hp.objs.size:=Heap.lt_size he
 have ab:Y.get? hp.objs.size=some { cls:= .type "tuple",data:= .seq #[.int i tk,y]}:=by rw [<-hg,<-sz];exact Heap.get?_push_size _ rfl
 have ac:Y.objs.size=hp.objs.size+1:=by rw [<-hg,Heap.size_push,sz]
 have ad:∀b o,b≠e->b≠j->hp.get? b=some o->Y.get? b=some o:=fun b o h1 h2 hb=>by
  rw [<-hg];exact Heap.get?_push_of_some _ (J.extBut b o h1 (I.extBut b o h1 (z.extBut b o h2 hb)))
 have ae:Y.IsTupleIter j u (i+1):=by
  rw [<-hg];obtain⟨o,ho,r⟩:=(a5.extBut I.extBut (Ne.symm ne)).extBut J.extBut (Ne.symm ne);exact⟨o,Heap.get?_push_of_some _ ho,r⟩
 show wpAny _ _ (Builtin.SmallTypes.ownedTupleIsFree (.ref e)>>=_) _ _ ⟨Y,gg,d,tk+1,os⟩
 rw [sz]
 clear hg a2 J a1 I a0 z a5 sz W Z U
 refine wpAny_bind ?_
 . unfold Builtin.SmallTypes.ownedTupleIsFree
   refine wpAny_bind (wpAny_field a3 rfl (x:= .none) rfl (wpAny_pure ?_))
   simp only [if_true]
   refine wpAny_bind (wpAny_rule ?_)
   refine wpAny_bind (wpAny_field a3 rfl (x:=old) rfl ?_)
   refine wpAny_bind (wpAny_setField_rec a3 (by simp) fun a4 a6 M=> ?_)
   replace M:Heap.SameBut e Y a4:=M
   replace a6:IsEnum a4 e j ((i:Int)+1) y:=a6
   show wpAny _ _ (Builtin.SmallTypes.ownedTupleHandOut (.ref e) (.ref hp.objs.size)>>=_) _ _ ⟨a4,gg,d,tk+1,os⟩
   refine wpAny_bind ?_
   . unfold Builtin.SmallTypes.ownedTupleHandOut
     refine wpAny_bind (wpAny_setField_rec a6 (by simp) fun a7 a8 O=> ?_)
     replace O:Heap.SameBut e a4 a7:=O
     replace a8:IsEnumOut a7 e j ((i:Int)+1) y hp.objs.size:=a8
     refine wpAny_setField_rec a8 (by simp) fun a9 aa S=> ?_
     replace S:Heap.SameBut e a7 a9:=S
     replace aa:IsEnumOut a9 e j ((i:Int)+1) y hp.objs.size:=aa
     refine wpAny_bind (wpAny_letGo (wpAny_pure ⟨_,rfl,k a9 aa ?_ ?_ ?_ ?_⟩))
     . exact((ae.extBut M.extBut (Ne.symm ne)).extBut O.extBut (Ne.symm ne)).extBut S.extBut (Ne.symm ne)
     . exact S.extBut _ _ (ne_of_gt lt) (O.extBut _ _ (ne_of_gt lt) (M.extBut _ _ (ne_of_gt lt) ab))
     . rw [S.1,O.1,M.1,ac]
     . exact fun b o h1 h2 hb=>S.extBut b o h1 (O.extBut b o h1 (M.extBut b o h1 (ad b o h1 h2 hb)))
theorem Afi {e:Addr}{y old:Value}{Q:Option Value->Shared->Prop} (z:IsEnum s.heap e j i old) (I:s.heap.IsTupleIter j u i) (J:s.heap.IsTuple u xs) (M:xs[i]? =some y) (O:e≠j)
 (k:∀g,IsEnumOut g e j ((i:Int)+1) y s.heap.objs.size->g.IsTupleIter j u (i+1)->g.get? s.heap.objs.size=some { cls:= .type "tuple",data:= .seq #[.int i s.toks,y]}->g.objs.size=s.heap.objs.size+1->
   (∀b o,b≠e->b≠j->s.heap.get? b=some o->g.get? b=some o)->Q (some (.ref s.heap.objs.size)) { s with heap:=g,toks:=s.toks+1}):wpAny (model prog w) A (pyNext (.ref e)) Q E s:=by
 have ty:s.TypeIs (.ref e) "enumerate":=⟨_,z,rfl⟩
 unfold pyNext
 exact wpAny_bind (wpAny_attempt (wpAny_callSpecial?_slot (name:=Str.ofString "__next__") ty F.slot_enumerate_next (wpAny_call_entry F.slot_enumerate_next ty F.entry_enumerate_next
  (Afh z I J M O fun g a b c d f=>wpAny_pure (k g a b c d f)) (F.args_enumerate_next_1 _))))
theorem Afj {e:Addr}{old:Value}{Q:Option Value->Shared->Prop} (I:A.handled=none) (z:IsEnum s.heap e j i old) (J:s.heap.IsTupleIter j u i) (M:s.heap.IsTuple u xs) (O:xs[i]? =none)
 (k:∀g,Heap.ExtBut j s.heap g->Q none { s with heap:=g}):wpAny (model prog w) A (pyNext (.ref e)) Q E s:=by
 have ty:s.TypeIs (.ref e) "enumerate":=⟨_,z,rfl⟩
 unfold pyNext
 refine wpAny_bind (wpAny_attempt (wpAny_callSpecial?_slot (name:=Str.ofString "__next__") ty F.slot_enumerate_next (wpAny_call_entry F.slot_enumerate_next ty F.entry_enumerate_next ?_ (F.args_enumerate_next_1 _))))
 show wpAny _ _ (field (.ref e) 2>>=_) _ _ _
 refine wpAny_bind (wpAny_field z rfl (x:= .ref j) rfl ?_)
 refine wpAny_bind (Wf I J M O fun g x S ⟨o,U,W⟩=> ?_)
 refine wpAny_bind (wpAny_isInstance (T:="StopIteration") (b:=true) ⟨o,U,W⟩ isSubtype_stop ?_)
 exact wpAny_pure (k _ S)
end
open AutoSeq1 (wpAny_loadPart')in
theorem Ac1 (u:Addr) (xs:Array Value) (o:Obj) (n:Nat) (M:o.cls= .type "tuple") (O:o.data= .seq xs n):
 Meets (Builtin.«enumerate.__new__» ⟨[.type "enumerate",.ref u],[]⟩) (fun _ R s=>s.heap.get? u=some o/\R (.ok (.ret (.ref (s.heap.push { cls:= .type "tuple_iterator",data:= .fields #[.ref u,.int 0 0]}).objs.size)))
  { s with heap:=(s.heap.push { cls:= .type "tuple_iterator",data:= .fields #[.ref u,.int 0 0]}).push { cls:= .type "enumerate",data:= .fields #[.none,.bool false,.ref s.heap.objs.size,rawInt 0,.none,.none]}}):=
 .of_wp fun prog w A R s h=>by
  obtain⟨S,g,d,tk,U⟩:=s;obtain⟨z,h⟩:=h
  obtain⟨W,Z,I,Y⟩:=o
  obtain rfl:W= .type "tuple":=M
  obtain rfl:I= .seq xs n:=O
  have su:=sub_enumerate
  have J:Heap.IsTuple (Shared.heap ⟨S,g,d,tk,U⟩) u xs:=⟨_,z,rfl,n,rfl⟩
  wp_walk using wpAny_loadPart' z
  refine wpAny_stack_any fun st=>wpAny_pure ?_
  split
  . rename_i c _ _ _ _ _
    cases(c==Value.type "enumerate")
    . wp_walk using wpAny_loadPart' z,wpAny_pyIter_tuple J
      exact⟨_,rfl,h⟩
    . wp_walk using wpAny_loadPart' z,wpAny_pyIter_tuple J
      exact⟨_,rfl,h⟩
  . wp_walk using wpAny_loadPart' z,wpAny_pyIter_tuple J
    exact⟨_,rfl,h⟩
section
variable {X:Cx}{pins:List (Addr × Obj)}{σ:St}{H:Hp}{s:Shared}{h':Heap}
theorem Inv.turnL {t':Nat}{fp:List Addr} (I:Inv X pins σ H s) (k:∀b o,b∉fp->s.heap.get? b=some o->h'.get? b=some o) (M:∀b∈fp,Xb X pins H b):Inv X pins σ H { s with heap:=h',toks:=t'}:=by
 have S:∀b u,H b=some u->b∉fp:=fun b u e z=>by
  have:=(M b z).1
  rw [this]at e
  cases e
 refine I.step (g':=s.gens) (d':=s.drawn) (ch:=fp) (fun b O=>⟨(M b O).2.2.2.1,(M b O).2.1,(M b O).2.2.2.2.1,(M b O).2.2.2.2.2⟩) (fun b o _ _ J e _=>k b o J e) (fun b o _ _ J e _=>⟨o.slots,k b o J e⟩) (fun _ _ _ _ n=>n)
  (fun b o J e=>⟨o,k b o J e⟩) (fun _ _ e=>e) (fun _ _ _ e=>e) (fun b ps e=>⟨#[],by rw [e];simp⟩) (fun m U=> ?_) (fun b u e=> ?_) I.bare
 . obtain⟨o,es,W,Y,r⟩:=U
   exact⟨o,es,W,k _ o (fun z=>(M _ z).2.1 rfl) Y,r⟩
 . refine(I.hok b u e).stay (fun c v J q=>k c v ?_ q) (fun _ q=>q) fun _ _ q=>q
   rcases J with z | z
   . rw [z]
     exact S b u e
   . exact S c _ z
end
noncomputable def Ite (K:Frag) (a:Addr):It:=
 ⟨fun i H=>∃xs x,SqT K H a xs/\xs[i]? =some x,fun i H x H'=>∃p v,(∀xs,SqT K H a xs->xs[i]? =some v)/\H p=none/\x= .ref p/\H'=upd H p (.tup [.int (i:Nat),v]),fun i H=>∃xs,SqT K H a xs/\xs.length<=i⟩
theorem Aki {P:Program}{w:World}{K:Frag}{el:List Expr}{x1}{tp:Pos} (a e j:Addr) (ne:e≠j):Turn P w K (.Tuple el x1 tp) (Ite K a) [e,j] e (fun i h=>(∃old,IsEnum h e j i old)/\h.IsTupleIter j a i) where
 mem:=by simp
 obj:=fun i h st b J=>by
  obtain⟨⟨old,M⟩,oj,U,cj,dj⟩:=st
  rcases mem_cons.mp J with rfl | J
  . exact⟨_,M,fun v z=>by cases(show Data.fields _=Data.cell v from z)⟩
  . have z:b=j:=by simpa using J
    subst z
    exact⟨oj,U,fun v z=>by rw [dj]at z;cases z⟩
 keep:=fun i h h' st k=>by
  obtain⟨⟨old,M⟩,oj,U,r⟩:=st
  exact⟨⟨old,k e (by simp) _ M⟩,oj,k j (by simp) _ U,r⟩
 item:=by
  intro X hP hw hK hc i pins s σ H E I hf st hg
  subst hP hw hK
  obtain⟨xs,x,hq,hx⟩:=hg
  obtain⟨S,rv,p,hz⟩:=I.tuple hq
  obtain⟨u,hu,ru⟩:=rv.get hx
  obtain⟨⟨old,M⟩,hj⟩:=st
  refine Afi M hj (show s.heap.IsTuple a S.toArray from p) (y:=u) (by simpa using hu) ne fun g Y a0 hT a5 kk=>⟨_,rfl,?_⟩
  refine wpAny_letOwnedTupleGo_enum Y fun g2 a1 O=> ?_
  replace O:Heap.SameBut e g g2:=O
  have a2:e<s.heap.objs.size:=Heap.lt_size M
  have a3:j<s.heap.objs.size:=by
   obtain⟨_,U,_⟩:=hj
   exact Heap.lt_size U
  have hn:H s.heap.objs.size=none:=I.fresh
  have I1:Inv X pins σ (upd H s.heap.objs.size (.tup [.int (i:Nat),x])) { s with heap:=s.heap.push { cls:= .type "tuple",data:= .seq #[.int i s.toks,u]},toks:=s.toks+1}:=
   I.laid (fun b o q=>Heap.get?_push_of_some _ q) (le_refl _) ⟨by show 2<=sizeLine;decide,[.int i s.toks,u],.cons ⟨_,rfl⟩ (.cons ru .nil),⟨_,Heap.get?_push_size _ rfl,rfl,_,rfl⟩⟩
  have Z:∀b∈ [e,j],Xb X pins (upd H s.heap.objs.size (.tup [.int (i:Nat),x])) b:=fun b J=>by
   have nb:b≠s.heap.objs.size:=by
    rcases mem_cons.mp J with rfl | a4
    . exact ne_of_lt a2
    . have z:b=j:=by simpa using a4
      subst z
      exact ne_of_lt a3
   exact⟨by rw [Cu nb];exact(hf b J).1,(hf b J).2⟩
  have I2:=I1.turnL (h':=g2) (t':=s.toks+1) (fp:=[e,j]) (fun b o J q=>by
   have n1:b≠e:=fun z=>J (by simp [z])
   have n2:b≠j:=fun z=>J (by simp [z])
   refine(O.2 b n1).trans ?_
   rcases Heap.get?_push_cases q with⟨rfl,rfl⟩ | q0
   . exact hT
   . exact kk b o n1 n2 q0) Z
  refine⟨.ref s.heap.objs.size,_,I2,rfl,⟨_,x,fun ys hy=>by rw [I.tuple_inj hy hq];exact hx,hn,rfl,rfl⟩,⟨⟨_,by simpa using a1⟩,?_⟩,fun b J=>(Z b J).1⟩
  exact a0.extBut O.extBut (Ne.symm ne)
 done:=by
  intro X hP hw hK hc i pins s σ H E I hf st hg
  subst hP hw hK
  obtain⟨xs,hq,hx⟩:=hg
  obtain⟨S,rv,p,hz⟩:=I.tuple hq
  obtain⟨⟨old,M⟩,hj⟩:=st
  have hl:=rv.length
  exact Afj (I.ok.hd hc) M hj (show s.heap.IsTuple a S.toArray from p) (by simp;omega) fun g eb=>⟨rfl,I.turnL (t':=s.toks) (fp:=[e,j]) (fun b o J q=>eb b o (fun z=>J (by simp [z])) q) hf⟩
 self:=fun _ _ _ _ _ st h=>by
  obtain⟨⟨old,M⟩,_⟩:=st
  exact wpAny_pyIter_enum M h
section
variable {X:Cx}{a:Expr}{ta:TA}{el:List Expr}{x1}{tp p pos:Pos}
noncomputable def iEn (K:Frag) (ta:TA):TI:=fun σ H R=>ta σ H fun vs H1=>∃a,vs=[.ref a]/\(∃xs,SqT K H1 a xs)/\R (Ite K a) H1
theorem Amj (hg:Gl X "enumerate") (hm:X.mg "enumerate"=none) (ha:PA X [a] ta) (hs:starEach [a] X.env=[(false,eval a X.env)]:=by rfl):PI X (.Tuple el x1 tp) (.Call (.Name "enumerate" p) [a] [] pos) (iEn X.K ta):=by
 intro pins s σ H R I h
 refine Call_ (Qa I hg hm boot_enumerate (PyProof.Rows.callWith_type1 (thn (ha pos pins s σ H _ I h) fun us J ⟨vs,H1,U,r1,q1⟩=> ?_) hs rfl))
 obtain⟨b,rfl,⟨xs,hq⟩,q⟩:=q1
 obtain⟨v,rfl,rv⟩:=vals1 r1
 cases rv
 obtain⟨O,rr,pl,hz⟩:=U.tuple hq
 obtain⟨o,ho,hc,n,hd⟩:=(show J.heap.IsTuple b O.toArray from pl)
 refine callType_new F.called_enumerate (by decide) (F.typeCall_enumerate_1 _) (F.newCall_enumerate_1 _) (fun obj=>F.args_object_init_2 obj _) F.entry_enumerate_new (Ac1 b O.toArray o n hc hd) ⟨ho,?_⟩
 have Y:(J.heap.push { cls:= .type "tuple_iterator",data:= .fields #[.ref b,.int 0 0]}).objs.size=J.heap.objs.size+1:=Heap.size_push ..
 show _/\_
 rw [Y]
 have W:IsEnum ((J.heap.push { cls:= .type "tuple_iterator",data:= .fields #[.ref b,.int 0 0]}).push { cls:= .type "enumerate",data:= .fields #[.none,.bool false,.ref J.heap.objs.size,rawInt 0,.none,.none]}) (J.heap.objs.size+1) J.heap.objs.size ((0:Nat):Int) .none:=by
  have Z:=Heap.get?_push_size (J.heap.push { cls:= .type "tuple_iterator",data:= .fields #[.ref b,.int 0 0]}) (o:={ cls:= .type "enumerate",data:= .fields #[.none,.bool false,.ref J.heap.objs.size,rawInt 0,.none,.none]}) rfl
  rw [Y]at Z
  exact Z
 have hj:Heap.IsTupleIter ((J.heap.push { cls:= .type "tuple_iterator",data:= .fields #[.ref b,.int 0 0]}).push { cls:= .type "enumerate",data:= .fields #[.none,.bool false,.ref J.heap.objs.size,rawInt 0,.none,.none]}) J.heap.objs.size b 0:=
  ⟨_,Heap.get?_push_of_some _ (Heap.get?_push_size _ rfl),rfl,rfl⟩
 have I2:Inv X pins σ H1 { J with heap:=(J.heap.push { cls:= .type "tuple_iterator",data:= .fields #[.ref b,.int 0 0]}).push { cls:= .type "enumerate",data:= .fields #[.none,.bool false,.ref J.heap.objs.size,rawInt 0,.none,.none]}}:=
  U.kept (t':=J.toks) fun c o' e=>Heap.get?_push_of_some _ (Heap.get?_push_of_some _ e)
 refine⟨⟨_,W,rfl⟩,wpAny_pyIter_enum W ⟨J.heap.objs.size+1,[J.heap.objs.size+1,J.heap.objs.size],_,_,H1,rfl,I2,Aki b _ _ (ne_of_gt (Nat.lt_succ_self _)),⟨⟨_,W⟩,hj⟩,fun c M=> ?_,q⟩⟩
 have S:J.heap.objs.size<=c:=by
  rcases mem_cons.mp M with rfl | M
  . exact Nat.le_succ _
  . have z:c=J.heap.objs.size:=by simpa using M
    exact le_of_eq z.symm
 exact U.fpOk S (U.hok.fresh S)
end
theorem Apy {K:Frag}{σ:St}{H:Hp}{ta:TA}{R:It->Hp->Prop}:iEn K ta σ H R=ta σ H (fun z H1=>∃a,z=[.ref a]/\(∃xs,SqT K H1 a xs)/\R (Ite K a) H1):=rfl
theorem Aah {K:Frag}{σ:St}{H:Hp}{g:TG}{tb:TS}{D:Ends}{α:Type}{es:List α}{inj:α->V}{a:Addr} (J:List α->St->Hp->Prop) (Y:J [] σ H) (Z:∀I σ H,J I σ H->SqT K H a (es.map inj))
 (hs:∀I e M σ H p,es=I++e::M->J I σ H->H p=none->g (.ref p) σ (upd H p (.tup [.int (I.length:Nat),inj e])) fun S H2=>tb { D with nx:=J (I++ [e]),ct:=J (I++ [e]),bk:=D.nx} S H2) (hd:∀σ H,J es σ H->D.nx σ H):FI (Ite K a) g tb D σ H:=by
 refine⟨fun i m σ H=>m=es.length-i/\i<=es.length/\J (es.take i) σ H,⟨es.length,by simp,zero_le _,Y⟩,?_⟩
 rintro i m σ H ⟨rfl,hi,p⟩
 have w:=Z _ _ _ p
 cases he:es[i]? with
 | none=>
   have e:i=es.length:=le_antisymm hi (List.getElem?_eq_none_iff.mp he)
   subst e
   rw [take_length]at p
   exact .inl ⟨⟨_,w,by rw [length_map];exact le_refl _⟩,hd _ _ p⟩
 | some e=>
   obtain⟨O,ee⟩:=List.getElem?_eq_some_iff.mp he
   have tk:es.take (i+1)=es.take i++ [e]:=by rw [take_succ,he];rfl
   have sp:es=es.take i++e::es.drop (i+1):=by
    rw [<-ee,<-List.drop_eq_getElem_cons O,List.take_append_drop]
   refine .inr ⟨⟨_,inj e,w,by rw [getElem?_map,he];rfl⟩,J (es.take i++ [e]),fun a0 H' q=>⟨es.length-(i+1),by omega,rfl,O,by rw [tk];exact q⟩,fun x H' y=> ?_⟩
   obtain⟨b,v,y1,y2,rfl,rfl⟩:=y
   have U:=y1 _ w
   rw [getElem?_map,he]at U
   obtain rfl:inj e=v:=Option.some.inj U
   have hl:(es.take i).length=i:=by rw [length_take];omega
   have z:=hs _ e _ σ H b sp p y2
   rw [hl]at z
   exact z
section
variable {X:Cx}
noncomputable def Aoy (K:Frag):R2:=fun x y H Q=>∃a b xs ys,x= .ref a/\y= .ref b/\SqT K H a xs/\SqT K H b ys/\xs.length+ys.length<=sizeLine/\∀z H',Same H H'->SqT K H' z (xs++ys)->Q (.ref z) H'
theorem Jq:OpR X (binaryOp .Add) (Aoy X.K):=by
 intro pins s σ H x y v u Q I W Y h
 obtain⟨a,b,xs,ys,rfl,rfl,S,U,hz,q⟩:=h
 by_cases Z:xs=[]
 . subst Z
   cases W
   cases Y
   obtain⟨a0,r1,p1,_⟩:=I.tuple S
   obtain⟨z,r2,p2,_⟩:=I.tuple U
   cases r1
   obtain⟨⟨c1,d1,t1,l1⟩,ho,hc,n,hd⟩:=(show s.heap.IsTuple a ([]:List Value).toArray from p1)
   obtain⟨⟨c2,d2,t2,l2⟩,J,M,n2,O⟩:=(show s.heap.IsTuple b z.toArray from p2)
   simp only at hc hd M O
   subst hc hd M O
   exact concat_meets ⟨_,ho,rfl⟩ ⟨_,J,rfl⟩ noFill_tuple_add seq_tuple_add slot_tuple_add entry_tuple_add (args_tuple_add_2 _ _)
    (tuple_addW0 a b #[] z.toArray n n2 d1 d2 l1 l2 rfl) ⟨ho,J,⟨.ref b,H,I,rfl,q b H (Same.refl _) U⟩⟩
 . exact Ajf pins s σ H _ _ v u Q I W Y ⟨a,b,xs,ys,rfl,rfl,S,U,Z,hz,fun e=>q a H (Same.refl _) (by rw [e,append_nil];exact S),fun _ p hp=>q p _ (Same.upd hp _) (.of Ao)⟩
theorem J9 (hc:X.calm=true):Jm X (.builtin "all") (fun xs H Q=>∃(a:Addr) (bs:List Bool),xs=[.ref a]/\SqL X.K H a (bs.map V.bl)/\Q (.bl (bs.all id)) H):=by
 intro pins s σ H xs us Q I r h
 obtain⟨a,bs,rfl,ha,q⟩:=h
 obtain⟨u,rfl,ru⟩:=vals1 r
 cases ru
 obtain⟨z,U,p,hz⟩:=I.list ha
 have M:s.heap.IsList a z.toArray:=p.isList
 have lt:a<s.heap.objs.size:=by
  obtain⟨_,e,_⟩:=M
  exact Heap.lt_size e
 have ln:z.length=bs.length:=by
  have:=U.length
  rw [length_map]at this
  exact this.symm
 refine call_all_walk (wpAny_pyIter_list M ?_)
 refine⟨s.heap.objs.size,[s.heap.objs.size,a],[s.heap.objs.size],z.toArray.size,_,_,fun i=>(bs[i]?).getD true,rfl,Walks.list (A:=X.A.in1) (I.ok.hd hc) _ a (ne_of_lt lt) z.toArray,
  ⟨⟨_,Heap.get?_push_size _ rfl,rfl,rfl⟩,M.push _⟩,fun i v s' Q' E' hP W=> ?_,fun g tk hk=> ?_⟩
 . have hv:z[i]? =some v:=by simpa using hP
   have hi:i<z.length:=(List.getElem?_eq_some_iff.mp hv).1
   have Y:bs[i]? =some bs[i]:=getElem?_eq_getElem (by omega)
   obtain⟨w',Z,O⟩:=U.get (show(bs.map V.bl)[i]? =some (V.bl bs[i])by rw [getElem?_map,Y];rfl)
   rw [hv]at Z
   cases Z
   cases O
   simp only [Y,Option.getD_some]at W
   exact wpAny_truthy_bool W
 . have e:((List.range z.toArray.size).all fun i=>(bs[i]?).getD true)=bs.all id:=by
    rw [size_toArray,ln,Bool.eq_iff_iff,all_eq_true,all_eq_true]
    constructor
    . intro h x hx
      obtain⟨i,hi,ei⟩:=getElem_of_mem hx
      have:=h i (mem_range.mpr hi)
      rw [getElem?_eq_getElem hi,ei]at this
      exact this
    . intro h i hi
      have J:=mem_range.mp hi
      rw [getElem?_eq_getElem J]
      exact h _ (getElem_mem J)
   rw [e]
   exact⟨.bl _,H,I.kept (t':=tk) fun b o S=>hk b o (fun hm=>by rw [mem_singleton.mp hm]at S;exact lt_irrefl _ (Heap.lt_size S)) (Heap.get?_push_of_some _ S),rfl,q⟩
end
theorem Ac7:fillsNumberSlot (.type "tuple") "mul"=pure false:=
 PySem.fillsNumberSlot_seq (id:="tuple.__mul__") (r:=some (.builtin "tuple.__rmul__")) slot_tuple_mul.lookup (by decide+kernel) PySem.F.slot_tuple_rmul.lookup (by decide+kernel)
theorem Amy:seqRepeat? (.type "tuple")=pure (some (.builtin "tuple.__mul__")):=by
 unfold seqRepeat?
 rw [PySem.seqSlot_of (T:="tuple") (name:="__mul__") (id:="tuple.__mul__") slot_tuple_mul.lookup (by decide+kernel),PySem.seqSlot_of (T:="tuple") (name:="__rmul__") (id:="tuple.__rmul__") PySem.F.slot_tuple_rmul.lookup (by decide+kernel)]
 rfl
theorem Ajz (k:Int) (t:Tok) (u:Addr) (o:Obj) (xs:Array Value) (n:Nat) (I:o.cls= .type "tuple") (J:o.data= .seq xs n):
 Meets (Builtin.«int.__rmul__» ⟨[.int k t,.ref u],[]⟩) (fun _ R s=>s.heap.get? u=some o/\R (.ok (.ret Value.notImplemented)) s):=
 .of_wp fun prog w A R s h=>by
  obtain⟨S,g,d,tk,U⟩:=s;obtain⟨W,h⟩:=h
  obtain⟨M,Y,z,O⟩:=o
  obtain rfl:M= .type "tuple":=I
  obtain rfl:z= .seq xs n:=J
  wp_walk
  exact⟨_,rfl,h⟩
open AutoSeq1 (wpAny_loadPart')in
theorem Al0 (k:Int) (t:Tok) (u:Addr) (xs:Array Value) (n:Nat) (dd:Option Addr) (O:Array (Option Value)) (k0:¬k<=0) (k1:¬k=1) (k2:k<1000) (J:¬xs.isEmpty=true) (S:xs.size*k.toNat<=100000):
 Meets (Builtin.«tuple.__mul__» ⟨[.ref u,.int k t],[]⟩) (fun _ R s=>s.heap.get? u=some { cls:= .type "tuple",dict:=dd,data:= .seq xs n,slots:=O}/\
  R (.ok (.ret (.ref s.heap.objs.size))) { s with heap:=s.heap.push { cls:= .type "tuple",data:= .seq ((replicate k.toNat xs).foldl (· ++ ·) #[])}}):=
 .of_wp fun prog w A R s h=>by
  obtain⟨U,g,d,tk,os⟩:=s;obtain⟨M,h⟩:=h
  have f1:=AutoSeq1.idx_int
  have f2:=AutoSeq1.sub_tuple_tuple
  have W:0<xs.size:=by
   cases xs with
   | mk l=>
     cases l with
     | nil=>exact absurd rfl J
     | cons a r=>simp
  have Y:(k.toNat:Int)=k:=Int.toNat_of_nonneg (by omega)
  have zz:(xs.size:Int)*k<=100000:=by
   rw [<-Y,<-natCast_mul]
   omega
  have Z:¬(decide (k< -2^63)||decide (k>=2^63))=true:=by simp;omega
  have g2:¬(xs.isEmpty||k==1)=true:=by
   rw [or_eq_true]
   rintro(z | z)
   . exact J z
   . exact k1 (by simpa using z)
  have g3:¬(decide (k<=0)||xs.isEmpty)=true:=by
   rw [or_eq_true]
   rintro(z | z)
   . exact k0 (by simpa using z)
   . exact J z
  have g4:¬((xs.size:Int)*k>(2^63-1)/8):=by omega
  have g5:¬Builtin.Tuple.tupleTooMany ((xs.size:Int)*k)=true:=by
   unfold Builtin.Tuple.tupleTooMany
   have:(100000:Nat)<=sizeLine:=by decide
   simp only [decide_eq_true_eq]
   omega
  have sz:((replicate k.toNat xs).foldl (· ++ ·) #[]).size<=sizeLine:=by
   have e:∀(m:Nat) (I:Array Value),((replicate m xs).foldl (· ++ ·) I).size=I.size+m*xs.size:=fun m=>by
    induction m with
    | zero=>intro I;simp
    | succ m ih=>
      intro I
      rw [replicate_succ,foldl_cons,ih,Array.size_append,succ_mul]
      omega
   rw [e]
   have:(100000:Nat)<=sizeLine:=by decide
   rw [Nat.mul_comm]at S
   simp only [Array.size_empty]
   omega
  have hT:Heap.IsTuple U u xs:=⟨_,M,rfl,n,rfl⟩
  wp_walk using wpAny_loadPart' M
  rw [if_neg Z]
  refine wpAny_bind (tupleItemsOf_ hT ?_)
  dsimp only
  rw [if_neg g2,if_neg g3,if_neg g4,if_neg g5]
  exact wpAny_bind (wpAny_newObj_type (wpAny_pure ⟨_,rfl,h⟩) sz)
open AutoSeq1 (wpAny_loadPart')in
theorem Ai9 (t:Tok) (u:Addr) (xs:Array Value) (n:Nat) (dd:Option Addr) (I:Array (Option Value)):
 Meets (Builtin.«tuple.__mul__» ⟨[.ref u,.int 1 t],[]⟩) (fun _ R s=>s.heap.get? u=some { cls:= .type "tuple",dict:=dd,data:= .seq xs n,slots:=I}/\R (.ok (.ret (.ref u))) s):=
 .of_wp fun prog w A R s h=>by
  obtain⟨J,g,d,tk,M⟩:=s;obtain⟨z,h⟩:=h
  have O:=AutoSeq1.idx_int
  have S:=AutoSeq1.sub_tuple_tuple
  have U:¬(decide ((1:Int)< -2^63)||decide ((1:Int)>=2^63))=true:=by decide
  have W:(xs.isEmpty||(1:Int)==1)=true:=by simp
  have Y:Heap.IsTuple J u xs:=⟨_,z,rfl,n,rfl⟩
  wp_walk using wpAny_loadPart' z
  exact⟨_,rfl,h⟩
open AutoSeq1 (wpAny_loadPart')in
theorem Ai8 (t:Tok) (u:Addr) (xs:Array Value) (n:Nat) (dd:Option Addr) (I:Array (Option Value)) (J:¬xs.isEmpty=true):
 Meets (Builtin.«tuple.__mul__» ⟨[.ref u,.int 0 t],[]⟩) (fun _ R s=>s.heap.get? u=some { cls:= .type "tuple",dict:=dd,data:= .seq xs n,slots:=I}/\
  R (.ok (.ret (.ref s.heap.objs.size))) { s with heap:=s.heap.push { cls:= .type "tuple",data:= .seq #[]}}):=
 .of_wp fun prog w A R s h=>by
  obtain⟨M,g,d,tk,O⟩:=s;obtain⟨z,h⟩:=h
  have S:=AutoSeq1.idx_int
  have U:=AutoSeq1.sub_tuple_tuple
  have W:¬(decide ((0:Int)< -2^63)||decide ((0:Int)>=2^63))=true:=by decide
  have Y:¬(xs.isEmpty||(0:Int)==1)=true:=by simpa using J
  have Z:(decide ((0:Int)<=0)||xs.isEmpty)=true:=by simp
  have hT:Heap.IsTuple M u xs:=⟨_,z,rfl,n,rfl⟩
  wp_walk using wpAny_loadPart' z
  exact⟨_,rfl,h⟩
section
variable {X:Cx}
noncomputable def Ao1 (K:Frag):R2:=fun x y H Q=>∃(a:Addr) (k:Nat) (xs:List V),x= .ref a/\y= .int (k:Nat)/\SqT K H a xs/\xs≠ []/\k<1000/\xs.length*k<=100000/\∀z H',Same H H'->SqT K H' z (replicate k xs).flatten->Q (.ref z) H'
theorem Ajg:OpR X (binaryOp .Mult) (Ao1 X.K):=by
 intro pins s σ H x y v u Q I rx ry h
 obtain⟨a,k,xs,rfl,rfl,ha,hx,hk,hz,q⟩:=h
 cases rx
 obtain⟨t,rfl⟩:=ry
 obtain⟨J,S,p1,_⟩:=I.tuple ha
 obtain⟨⟨c1,W,t1,Y⟩,M,hc,n,hd⟩:=(show s.heap.IsTuple a J.toArray from p1)
 simp only at hc hd
 subst hc hd
 have O:¬J.toArray.isEmpty=true:=by
  have:=fun z=>hx (S.nil_iff.mp z)
  simpa using this
 refine wpAny_binaryOp_repeat_ref (T:="tuple") (U:="int") (by decide) ⟨_,M,rfl⟩ (fun s'=>typeIs_int s' k t) Ac7 F.fills_int_mul F.slot_int_rmul Amy F.slot_int_index.lookup
  (call_meets F.slot_int_rmul (typeIs_int s k t) F.entry_int_rmul (F.args_int_rmul_2 _ _) (Ajz k t a _ J.toArray n rfl rfl) ⟨M,rfl,⟨_,M,rfl⟩,?_⟩)
 by_cases k0:k=0
 . subst k0
   refine call_meets F.slot_tuple_mul ⟨_,M,rfl⟩ F.entry_tuple_mul (F.args_tuple_mul_2 _ _) (Ai8 t a J.toArray n W Y O) ⟨M,?_⟩
   exact⟨.ref s.heap.objs.size,_,I.laid (t':=s.toks) (o:= .tup []) (fun b ob Z=>Heap.get?_push_of_some _ Z) (le_refl _) ⟨zero_le _,[],.nil,IsTup.new _ _⟩,rfl,q _ _ (Same.upd I.fresh _) (.of Ao)⟩
 by_cases k1:k=1
 . subst k1
   refine call_meets F.slot_tuple_mul ⟨_,M,rfl⟩ F.entry_tuple_mul (F.args_tuple_mul_2 _ _) (Ai9 t a J.toArray n W Y) ⟨M,?_⟩
   exact⟨.ref a,H,I,rfl,q a H (Same.refl _) (by simpa using ha)⟩
 have kt:((k:Nat):Int).toNat=k:=toNat_natCast k
 refine call_meets F.slot_tuple_mul ⟨_,M,rfl⟩ F.entry_tuple_mul (F.args_tuple_mul_2 _ _) (Al0 k t a J.toArray n W Y (by omega) (by omega) (by omega) O (by rw [size_toArray,kt,<-S.length];exact hz)) ⟨M,?_⟩
 have e:(replicate ((k:Nat):Int).toNat J.toArray).foldl (· ++ ·) #[]=(replicate k J).flatten.toArray:=by
  rw [kt]
  have:=foldl_rep J k []
  rw [nil_append]at this
  exact this
 rw [e]
 refine⟨.ref s.heap.objs.size,_,I.laid (t':=s.toks) (o:= .tup (replicate k xs).flatten) (fun b ob Z=>Heap.get?_push_of_some _ Z) (le_refl _) ⟨?_,_,S.rep k,IsTup.new _ _⟩,rfl,q _ _ (Same.upd I.fresh _) (.of Ao)⟩
 rw [len_rep,Nat.mul_comm]
 exact le_trans hz (by decide)
end
section
variable {X:Cx}
theorem Zg (K:Frag) (h:X.K=K:=by rfl):IxR X (Ah2 K):=by subst h;exact Ec
theorem Acw (K:Frag) (h:X.K=K:=by rfl):IxR X (Amw K):=by subst h;exact Bx
end
section
variable {X:Cx}
theorem Afb:Jm X (.builtin "isinstance") (fun xs H Q=>∃(a:Addr) (ys:List V) (T:String) (b:Bool),xs=[.ref a,.ty T]/\SqT X.K H a ys/\kitOne X.K (.type "tuple") (.type T)=some b/\Q (.bl b) H):=by
 intro pins s σ H xs Y Q I r h
 obtain⟨a,ys,T,b,rfl,M,O,q⟩:=h
 obtain⟨u,c,rfl,S,U⟩:=vals2 r
 cases U
 cases S
 obtain⟨J,Z,p,_⟩:=I.tuple M
 obtain⟨o,h1,h2,_⟩:=(show s.heap.IsTuple a J.toArray from p)
 exact kia_one kitx_tuple I.kIn ⟨o,h1,h2⟩ O (fun z=>nomatch z) fun tk=>⟨.bl b,H,I.tok tk,rfl,q⟩
end
section
variable {prog:Program}{w:World}{A:Around}{E:Value->Shared->Prop}{s:Shared}
theorem Ae1 {t I:Addr}{ys:Array Value}{O S:Value}{lo hi:Option Int}{Q:Value->Shared->Prop} (z:IsTup s.heap t ys) (U:s.heap.IsSliceOf I O S .none) (W:IsPart O lo) (Y:IsPart S hi)
 (Z:HT.sIx ys.size 0 lo=0) (w2:HT.sIx ys.size ys.size hi=ys.size) (h:Q (.ref t) s):wpAny (model prog w) A (getItem (.ref t) (.ref I)) Q E s:=by
 obtain⟨os,J,cs,ds⟩:=id U
 have ty:s.TypeIs (.ref I) "slice":=⟨os,J,cs⟩
 unfold getItem
 try with_reducible refine(wpAny_holding ?_)
 first | refine(wpAny_bind (wpAny_pure ?_)) | skip
 refine wpAny_bind (wpAny_sequenceKey z.typeIs (by decide) (?_))
 refine wpAny_bind (wpAny_callSpecial?_slot (name:=Str.ofString "__getitem__") z.typeIs PyProof.Rows.slot_tuple_getitem (wpAny_call_entry PyProof.Rows.slot_tuple_getitem z.typeIs entry_tuple_getitem ?_ (args_tuple_getitem _ _)))
 show wpAny _ A.in1 (Builtin.Tuple.tupleItemsOf (.ref t)>>=_) _ _ s
 refine wpAny_bind (tupleItemsOf_ z (?_))
 refine wpAny_bind (wpAny_typeOf ty ?_)
 rw [if_pos (by decide)]
 refine wpAny_bind (HT.Ky U W Y ?_)
 have M:(((HT.sIx ys.size 0 lo:Nat):Int)==0&&(1:Int)==1&&(HT.sIx ys.size ys.size hi-HT.sIx ys.size 0 lo)==ys.size)=true:=by
  rw [Z,w2]
  simp
 show wpAny _ A.in1 (if(((HT.sIx ys.size 0 lo:Nat):Int)==0&&(1:Int)==1&&(HT.sIx ys.size ys.size hi-HT.sIx ys.size 0 lo)==ys.size)=true then _ else _) _ _ s
 rw [if_pos M]
 refine wpAny_bind ?_
 unfold Builtin.Tuple.tupleIsExact
 refine wpAny_bind (wpAny_typeOf z.typeIs (wpAny_pure ?_))
 rw [if_pos (by decide)]
 exact wpAny_bind (wpAny_rule (wpAny_pure ⟨_,rfl,wpAny_pure h⟩))
end
section
variable {X:Cx}
noncomputable def Aq5 (K:Frag):V->Option Int->Option Int->Hp->VK->Prop:=fun x lo hi H Q=>∃a xs,x= .ref a/\SqT K H a xs/\∀z H',Same H H'->SqT K H' z (K6 xs lo hi)->Q (.ref z) H'
theorem Iu:SlR X (Aq5 X.K):=by
 intro pins s σ H x v vl vu lo hi sl Q I S U W Y h
 obtain⟨a,xs,rfl,M,q⟩:=h
 by_cases J:HT.sIx xs.length 0 lo=0/\HT.sIx xs.length xs.length hi=xs.length
 . cases S
   obtain⟨O,r,Z,hz⟩:=I.tuple M
   have z:O.toArray.size=xs.length:=by rw [size_toArray];exact r.length.symm
   refine⟨"tuple",_,PyProof.Rows.slot_tuple_getitem.lookup,Z.typeIs,Ae1 Z U W Y (by rw [z];exact J.1) (by rw [z];exact J.2) ⟨.ref a,H,I,rfl,q a H (Same.refl _) ?_⟩⟩
   have e:K6 xs lo hi=xs:=by
    unfold K6
    rw [J.1,J.2,drop_zero,sub_zero,take_length]
   rw [e]
   exact M
 . exact Am7 pins s σ H _ v vl vu lo hi sl Q I S U W Y ⟨a,xs,rfl,M,J,fun p hp=>q p _ (Same.upd hp _) (.of Ao)⟩
noncomputable def Aq2 (K:Frag):R2:=fun x y H Q=>∃a xs i v,x= .ref a/\y= .int i/\(SqL K H a xs\/SqT K H a xs)/\atI xs i=some v/\Q v H
theorem Aln:IxR X (Aq2 X.K):=by
 intro value slice pins s σ H x y v u Q I J M h O
 obtain⟨a,xs,i,w,rfl,rfl,z,e,q⟩:=h
 rcases z with z | z
 . exact Ec value slice pins s σ H _ _ v u Q I J M ⟨a,xs,i,w,rfl,rfl,z,e,q⟩ O
 . exact Bx value slice pins s σ H _ _ v u Q I J M ⟨a,xs,i,w,rfl,rfl,z,e,q⟩ O
noncomputable def Aqs (K:Frag):V->Option Int->Option Int->Hp->VK->Prop:=fun x lo hi H Q=>∃a xs,x= .ref a/\((SqL K H a xs/\∀z H',Same H H'->SqL K H' z (K6 xs lo hi)->Q (.ref z) H')\/(SqT K H a xs/\∀z H',Same H H'->SqT K H' z (K6 xs lo hi)->Q (.ref z) H'))
theorem Am6:SlR X (Aqs X.K):=by
 intro pins s σ H x v z J lo hi M Q I O S U W h
 obtain⟨a,xs,rfl,h | h⟩:=h
 . exact Vp pins s σ H _ v z J lo hi M Q I O S U W ⟨a,xs,rfl,h.1,fun p Y=>h.2 p _ (Same.upd Y _) (.of Ao)⟩
 . exact Iu pins s σ H _ v z J lo hi M Q I O S U W ⟨a,xs,rfl,h.1,h.2⟩
end
set_option maxRecDepth 100000
theorem R4:Slot "reversed" "__next__" "reversed.__next__":= .of (owner:="reversed") (n:="__next__") (by rw [typeLookup_type,builtinLookup_eq_fast];kernel_rfl) (by decide+kernel) (by decide+kernel) (by decide+kernel) (by first | exact .inl (by decide+kernel) | exact .inr (by decide+kernel)) (by rw [isSubtype_type];kernel_rfl)
theorem Ad9:Slot "reversed" "__iter__" "reversed.__iter__":= .of (owner:="reversed") (n:="__iter__") (by rw [typeLookup_type,builtinLookup_eq_fast];kernel_rfl) (by decide+kernel) (by decide+kernel) (by decide+kernel) (by first | exact .inl (by decide+kernel) | exact .inr (by decide+kernel)) (by rw [isSubtype_type];kernel_rfl)
theorem Aj1:Slot "reversed" "__init__" "object.__init__":= .of (owner:="object") (n:="__init__") (by rw [typeLookup_type,builtinLookup_eq_fast];kernel_rfl) (by decide+kernel) (by decide+kernel) (by decide+kernel) (by first | exact .inl (by decide+kernel) | exact .inr (by decide+kernel)) (by rw [isSubtype_type];kernel_rfl)
theorem Ug:entryFor table "reversed.__next__"=some Builtin.«reversed.__next__» :=entryFor_of_tree (by kernel_rfl)
theorem Ad8:entryFor table "reversed.__new__"=some Builtin.«reversed.__new__» :=entryFor_of_tree (by kernel_rfl)
theorem Aa3:entryFor table "reversed.__iter__"=some Builtin.«dict_keyiterator.__iter__» :=
 entryFor_alias (id':="dict_keyiterator.__iter__") (by kernel_rfl) (by first | rfl | decide+kernel | (unfold String.splitOn;simp+decide [String.splitOnAux])) (by decide+kernel) (by kernel_rfl)
theorem Ah4:mroOf (.type "reversed")=pure [.type "reversed",.type "object"]:=by rw [mroOf_type];kernel_rfl
theorem Ao3:typeLookup (.type "reversed") "__new__"=pure (some (.builtin "reversed.__new__")):=by rw [typeLookup_type,builtinLookup_eq_fast];kernel_rfl
theorem Ad7:TypeCalled "reversed" "reversed.__new__" "object.__init__":=⟨by decide+kernel,by decide+kernel,⟨_,_,Ah4⟩,madeBy_type Ah4 Ao3 (by decide+kernel),by decide+kernel,by rw [isSubtype_type];kernel_rfl,Aj1⟩
theorem Ao5 (a:Value):checkTypeCall "reversed" ⟨[a],[]⟩=pure ():=by kernel_rfl
theorem Ao4 (a:Value):checkBuiltinCall "reversed.__new__" ⟨[.type "reversed",a],[]⟩=pure ():=by kernel_rfl
theorem Zu:Manifest.owners.lookup (String.ofList ['d','e','s','r','e','v','e','r'].reverse)=some Manifest.sig_reversed:=by kernel_rfl
theorem Ue (a:Value):argsOk "reversed.__next__" ⟨[a],[]⟩:=by
 unfold argsOk;rw [signature?_of (id:="reversed.__next__") (n:=['_','_','t','x','e','n','_','_']) (o:=['d','e','s','r','e','v','e','r']) (by kernel_rfl) Zu];kernel_rfl
theorem Aa2 (a:Value):argsOk "reversed.__iter__" ⟨[a],[]⟩:=by
 unfold argsOk;rw [signature?_of (id:="reversed.__iter__") (n:=['_','_','r','e','t','i','_','_']) (o:=['d','e','s','r','e','v','e','r']) (by kernel_rfl) Zu];kernel_rfl
theorem Am1:isSubtype (.type "reversed") (.type "reversed")=pure true:=by rw [isSubtype_type];kernel_rfl
theorem Aea:isSubtype (.type "tuple") (.type "dict")=pure false:=by rw [isSubtype_type];kernel_rfl
noncomputable abbrev Ae7 (h:Heap) (r:Addr) (t:Value) (i:Int):Prop:=h.get? r=some { cls:= .type "reversed",dict:=none,data:= .fields #[t,rawInt i],slots:= #[]}
theorem Aeb:typeLookup (.type "tuple") "__reversed__"=pure none:=by rw [typeLookup_type,builtinLookup_eq_fast];kernel_rfl
section
variable {prog:Program}{w:World}{A:Around}{E:Value->Shared->Prop}{s:Shared}{r t:Addr}{ys:Array Value}
theorem Aj2 {i:Nat}{x:Value}{Q:Option Value->Shared->Prop} (z:Ae7 s.heap r (.ref t) i) (J:s.heap.IsTuple t ys) (M:ys[i]? =some x) (U:ys.size<=sizeLine)
 (k:∀g,Ae7 g r (.ref t) ((i:Int)-1)->Heap.SameBut r s.heap g->Q (some x) { s with heap:=g,toks:=s.toks+1}):wpAny (model prog w) A (pyNext (.ref r)) Q E s:=by
 have ty:s.TypeIs (.ref r) "reversed":=⟨_,z,rfl⟩
 have hi:i<ys.size:=(Array.getElem?_eq_some_iff.mp M).1
 have W:=Ua
 unfold pyNext
 refine wpAny_bind (wpAny_attempt (wpAny_callSpecial?_slot (name:=Str.ofString "__next__") ty R4 (wpAny_call_entry R4 ty Ug ?_ (Ue _))))
 show wpAny _ _ (field (.ref r) 0>>=_) _ _ _
 refine wpAny_bind (wpAny_field z rfl (x:= .ref t) rfl ?_)
 show wpAny _ _ (field (.ref r) 1>>=_) _ _ _
 refine wpAny_bind (wpAny_field z rfl (x:=rawInt i) rfl ?_)
 show wpAny _ _ (if(i:Int)<0 then _ else _) _ _ _
 rw [if_neg (by omega)]
 refine wpAny_bind (wpAny_specialOf J.typeIs PyProof.Rows.slot_tuple_getitem.lookup ?_)
 rw [if_neg (by decide)]
 refine wpAny_bind (wpAny_mkInt ?_)
 have I:({ s with toks:=s.toks+1}:Shared).heap.IsTuple t ys:=J
 refine wpAny_bind (wpAny_attempt (getItem_tuple (j:=i) I (by omega) (by omega) (by unfold seqIndex? ;simp;omega) M ?_))
 show wpAny _ _ (field (.ref r) 1>>=_) _ _ _
 refine wpAny_bind (wpAny_field z rfl (x:=rawInt i) rfl ?_)
 show wpAny _ _ (setField (.ref r) 1 (rawInt ((i:Int)-1))>>=_) _ _ _
 refine wpAny_bind (wpAny_setField_rec z (by simp) fun g O S=> ?_)
 exact wpAny_pure ⟨_,rfl,wpAny_pure (k g O S)⟩
theorem Aj3 {Q:Option Value->Shared->Prop}{i:Int} (hi:i<0) (S:A.handled=none) (M:Ae7 s.heap r (.ref t) i) (k:∀g,Heap.ExtBut r s.heap g->Q none { s with heap:=g}):wpAny (model prog w) A (pyNext (.ref r)) Q E s:=by
 have ty:s.TypeIs (.ref r) "reversed":=⟨_,M,rfl⟩
 unfold pyNext
 refine wpAny_bind (wpAny_attempt (wpAny_callSpecial?_slot (name:=Str.ofString "__next__") ty R4 (wpAny_call_entry R4 ty Ug ?_ (Ue _))))
 show wpAny _ _ (field (.ref r) 0>>=_) _ _ _
 refine wpAny_bind (wpAny_field M rfl (x:= .ref t) rfl ?_)
 show wpAny _ _ (field (.ref r) 1>>=_) _ _ _
 refine wpAny_bind (wpAny_field M rfl (x:=rawInt i) rfl ?_)
 show wpAny _ _ (if i<0 then _ else _) _ _ _
 rw [if_pos hi]
 refine wpAny_bind (wpAny_rule ?_)
 show wpAny _ _ ((setField (.ref r) 1 (rawInt (-1))>>=fun _=>setField (.ref r) 0 .none)>>=_) _ _ _
 refine wpAny_bind (wpAny_bind (wpAny_setField_rec M (by simp) fun O z I=> ?_))
 replace I:Heap.SameBut r s.heap O:=I
 replace z:Ae7 O r (.ref t) (-1):=z
 refine wpAny_setField_rec z (by simp) fun U W J=> ?_
 replace J:Heap.SameBut r O U:=J
 refine wpAny_bind ?_
 unfold Builtin.SmallTypes.stopIteration
 refine wpAny_bind ?_
 simp only [newTuple,newExc]
 refine wpAny_bind (wpAny_newObj_type ?_ (by size_fits))
 refine wpAny_bind (m:=firstArgMember _ _) (wpAny_of_eq (a:=Value.none) (by first | rfl | (simp only [firstArgMember];rfl)) ?_)
 refine(wpAny_newObj_type ?_ (by size_fits))
 simp only [raiseNew]
 refine wpAny_bind (wpAny_handled ?_)
 first | rw [show A.in1.handled=none from S] | (rw [S])
 refine wpAny_bind (wpAny_pure (wpAny_throw ?_))
 refine wpAny_bind (wpAny_isInstance (T:="StopIteration") (b:=true) ⟨_,Heap.get?_push_size _ rfl,rfl⟩ isSubtype_stop ?_)
 refine wpAny_pure (k _ ?_)
 exact((I.trans J).extBut.push _).push _
end
section
variable {prog:Program}{w:World}{A:Around}{E:Value->Shared->Prop}{s:Shared}
theorem Aio {id:String}{b:Builtin}{args:List Value}{R:Result->Shared->Prop} (M:builtinKind id=none) (O:plainId id=true) (S:entryFor table id=some b) (J:argsOk id ⟨args,[]⟩)
 (U:wpAny (model prog w) A.in1 (b ⟨args,[]⟩) (fun z s'=>∃v,z= .done (.ret v)/\R (.ok (.ret v)) s') (fun e s'=>R (.error e) s') s):codeAny (model prog w) A (.call (.builtin id) ⟨args,[]⟩) R s:=by
 refine codeAny_call_builtin O S ?_
 have I:=wpAny_mono U (Q':=fun z s'=>match z with | .done f=>R (.ok f) s' | .again c'=>c'.quiet=true/\codeAny (model prog w) A c' R s')
  (fun z s' h'=>by obtain⟨v,rfl,hv⟩:=h';exact hv) fun _ _ h'=>h'
 simp only [checkBuiltinCall,M]
 cases hsig:Manifest.signature? id with
 | none=>exact wpAny_pure I
 | some W=>
   simp only [argsOk,hsig]at J
   exact wpAny_of_eq J I
theorem Afd {t:Addr}{items:Array Value}{R:Result->Shared->Prop} (z:IsTup s.heap t items) (I:(items.size:Int)<2^63)
 (h:R (.ok (.ret (.int items.size (s.toks+1)))) { s with toks:=s.toks+1+1}):codeAny (model prog w) A (.call (.builtin "len") ⟨[.ref t],[]⟩) R s:=by
 refine Aio kind_len plain_len entry_len (args_len1 _) ?_
 unfold Builtin.«len»
 refine wpAny_bind (m:=oneArg "len" _) (wpAny_pure ?_)
 refine wpAny_bind (m:=callSpecial? (.ref t) (Str.ofString "__len__")) (wpAny_callSpecial?_slot (name:=Str.ofString "__len__") z.typeIs slot_tuple_len
  (wpAny_call_entry slot_tuple_len z.typeIs entry_tuple_len ?_ (args_tuple_len _)))
 show wpAny _ _ (do retInt (<-Builtin.Tuple.tupleItemsOf (.ref t)).size) _ _ s
 refine wpAny_bind (tupleItemsOf_ z ?_)
 refine wpAny_bind (wpAny_mkInt (wpAny_pure ⟨_,rfl,?_⟩))
 refine wpAny_bind (wpAny_holding (wpAny_pure ?_))
 refine wpAny_bind (wpAny_letGo ?_)
 show wpAny _ _ (if((items.size:Nat):Int)<0 then _ else _) _ _ _
 rw [if_neg (by omega)]
 show wpAny _ _ (if((items.size:Nat):Int)>=2^63 then _ else _) _ _ _
 rw [if_neg (by omega)]
 exact wpAny_bind (wpAny_mkInt (wpAny_pure ⟨_,rfl,h⟩))
theorem Mg {e:Addr}{t:Value}{i:Int}{Q:Value->Shared->Prop} (I:Ae7 s.heap e t i) (h:Q (.ref e) s):wpAny (model prog w) A (pyIter (.ref e)) Q E s:=by
 have z:s.TypeIs (.ref e) "reversed":=⟨_,I,rfl⟩
 refine wpAny_pyIter_slot z Ad9 (wpAny_call_entry Ad9 z Aa3 ?_ (Aa2 _))
 show wpAny _ _ (ret (.ref e)) _ _ s
 exact wpAny_pure ⟨_,rfl,"reversed",_,z,R4.lookup,h⟩
end
open AutoSeq1 (wpAny_loadPart')in
theorem Aft (u:Addr) (xs:Array Value) (o:Obj) (n:Nat) (M:o.cls= .type "tuple") (O:o.data= .seq xs n) (Z:xs.size<=sizeLine):
 Meets (Builtin.«reversed.__new__» ⟨[.type "reversed",.ref u],[]⟩) (fun _ R s=>s.heap.get? u=some o/\R (.ok (.ret (.ref s.heap.objs.size)))
  { s with heap:=s.heap.push { cls:= .type "reversed",data:= .fields #[.ref u,rawInt ((xs.size:Int)-1)]},toks:=s.toks+1+1}):=
 .of_wp fun prog w A R s h=>by
  obtain⟨S,g,d,tk,os⟩:=s;obtain⟨J,h⟩:=h
  obtain⟨U,od,z,W⟩:=o
  obtain rfl:U= .type "tuple":=M
  obtain rfl:z= .seq xs n:=O
  have f1:=Aeb
  have f2:=PyProof.Rows.slot_tuple_getitem.lookup
  have f3:=Am1
  have f4:=Aea
  have hn:=Ua
  have Y:Heap.IsTuple S u xs:=⟨_,J,rfl,n,rfl⟩
  have I:(xs.size:Int)<2^63:=by omega
  wp_walk using wpAny_loadPart' J
  refine Afd Y I ?_
  show wpAny _ _ _ _ _ _
  refine wpAny_bind (wpAny_of_eq (a:=some (xs.size:Int)) rfl ?_)
  show wpAny _ _ (Builtin.SmallTypes.newRecord (Value.type "reversed") [Value.ref u,rawInt (xs.size-1)]>>=_) _ _ _
  unfold Builtin.SmallTypes.newRecord
  refine wpAny_bind (wpAny_newObj_type (wpAny_pure ⟨_,rfl,h⟩) (by size_fits))
noncomputable def Itv (K:Frag) (a:Addr) (n:Nat):It:=
 ⟨fun i H=>∃xs x,SqT K H a xs/\xs.length=n/\xs.reverse[i]? =some x,fun i H x H'=>H'=H/\∀xs,SqT K H a xs->xs.reverse[i]? =some x,fun i _=>n<=i⟩
theorem Akj {P:Program}{w:World}{K:Frag}{tg:Expr} (a J:Addr) (n:Nat):Turn P w K tg (Itv K a n) [J] J (fun i h=>Ae7 h J (.ref a) ((n:Int)-1-i)) where
 mem:=by simp
 obj:=fun i h st b M=>by
  have e:b=J:=by simpa using M
  subst e
  exact⟨_,st,fun v z=>by cases(show Data.fields _=Data.cell v from z)⟩
 keep:=fun i h h' st k=>k J (by simp) _ st
 item:=by
  intro X Z hw hK hc i pins s σ H E I S st U
  subst Z hw hK
  obtain⟨xs,x,hq,hl,Y⟩:=U
  obtain⟨a0,rv,p,hz⟩:=I.tuple hq
  have a4:i<n:=by
   have:=(List.getElem?_eq_some_iff.mp Y).1
   simpa [hl]using this
  have a1:xs[n-1-i]? =some x:=by
   rw [List.getElem?_reverse (by omega)]at Y
   rw [<-hl];exact Y
  obtain⟨u,hu,ru⟩:=rv.get a1
  obtain⟨f0,f1,f2,f3,f4,f5⟩:=S J (by simp)
  have a2:Ae7 s.heap J (.ref a) ((n-1-i:Nat):Int):=by
   have z:((n-1-i:Nat):Int)=(n:Int)-1-i:=by omega
   rw [z];exact st
  have a5:=rv.length
  refine Aj2 a2 (show s.heap.IsTuple a a0.toArray from p) (x:=u) (by simpa using hu) (by simp;omega) fun h' a3 sb=> ?_
  have I1:Inv X pins σ H { s with heap:=h',toks:=s.toks+1}:=I.turned (t':=s.toks+1) (fun b o M e=>(sb.2 b M).trans e) f0 f1 f3 f4 f5
  have O:Ae7 h' J (.ref a) ((n:Int)-1-((i+1:Nat):Int)):=by
   have z:((n-1-i:Nat):Int)-1=(n:Int)-1-((i+1:Nat):Int):=by omega
   rw [<-z];exact a3
  exact⟨u,rfl,Aco (s:={ s with heap:=h',toks:=s.toks+1}) O rfl rfl (by decide) ⟨x,H,I1,ru,⟨rfl,fun ys hy=>by rw [I.tuple_inj hy hq];exact Y⟩,O,fun b M=>(S b M).1⟩⟩
 done:=by
  intro X Z hw hK hc i pins s σ H E I S st U
  subst Z hw hK
  have U:n<=i:=U
  obtain⟨f0,f1,f2,f3,f4,f5⟩:=S J (by simp)
  exact Aj3 (i:=(n:Int)-1-i) (by omega) (I.ok.hd hc) st fun h' eb=>⟨rfl,I.turned (t':=s.toks) (fun b o M e=>eb b o M e) f0 f1 f3 f4 f5⟩
 self:=fun _ _ _ _ _ st h=>Mg st h
section
variable {X:Cx}{a:Expr}{ta:TA}{tg:Expr}{p pos:Pos}
noncomputable def iRv (K:Frag) (ta:TA):TI:=fun σ H R=>ta σ H fun vs H1=>∃a,vs=[.ref a]/\∃xs,SqT K H1 a xs/\R (Itv K a xs.length) H1
theorem Amk (Y:Gl X "reversed") (Z:X.mg "reversed"=none) (ha:PA X [a] ta) (hs:starEach [a] X.env=[(false,eval a X.env)]:=by rfl):PI X tg (.Call (.Name "reversed" p) [a] [] pos) (iRv X.K ta):=by
 intro pins s σ H R I h
 refine Call_ (Qa I Y Z boot_reversed (PyProof.Rows.callWith_type1 (thn (ha pos pins s σ H _ I h) fun us M ⟨vs,H1,S,r1,q1⟩=> ?_) hs rfl))
 obtain⟨b,rfl,xs,hq,q⟩:=q1
 obtain⟨v,rfl,rv⟩:=vals1 r1
 cases rv
 obtain⟨J,rr,pl,hz⟩:=S.tuple hq
 obtain⟨o,ho,hc,n,hd⟩:=(show M.heap.IsTuple b J.toArray from pl)
 have hl:=rr.length
 refine callType_new Ad7 (by decide) (Ao5 _) (Ao4 _) (fun obj=>F.args_object_init_2 obj _) Ad8 (Aft b J.toArray o n hc hd (by simp;omega)) ⟨ho,?_⟩
 show _/\_
 have U:Ae7 (M.heap.push { cls:= .type "reversed",data:= .fields #[.ref b,rawInt ((J.toArray.size:Int)-1)]}) M.heap.objs.size (.ref b) ((xs.length:Int)-1-((0:Nat):Int)):=by
  have z2:=Heap.get?_push_size M.heap (o:={ cls:= .type "reversed",data:= .fields #[.ref b,rawInt ((J.toArray.size:Int)-1)]}) rfl
  have z:(xs.length:Int)-1-((0:Nat):Int)=(J.toArray.size:Int)-1:=by simp;omega
  rw [z];exact z2
 have I2:Inv X pins σ H1 { M with heap:=M.heap.push { cls:= .type "reversed",data:= .fields #[.ref b,rawInt ((J.toArray.size:Int)-1)]},toks:=M.toks+1+1}:=
  S.kept (t':=M.toks+1+1) fun c o' e=>Heap.get?_push_of_some _ e
 refine⟨⟨_,U,rfl⟩,Mg U ⟨M.heap.objs.size,[M.heap.objs.size],_,_,H1,rfl,I2,Akj b _ _,U,fun c W=> ?_,q⟩⟩
 have O:M.heap.objs.size<=c:=by
  have z:c=M.heap.objs.size:=by simpa using W
  exact le_of_eq z.symm
 exact S.fpOk O (S.hok.fresh O)
end
theorem Ap0 {K:Frag}{σ:St}{H:Hp}{ta:TA}{R:It->Hp->Prop}:iRv K ta σ H R=ta σ H (fun z H1=>∃a,z=[.ref a]/\∃xs,SqT K H1 a xs/\R (Itv K a xs.length) H1):=rfl
theorem Akl {K:Frag}{H:Hp}{α:Type}{es:List α}{inj:α->V}{a:Addr} (h:SqT K H a (es.map inj)):Aih (Itv K a es.length) H es.reverse inj:=fun i=>by
 refine⟨fun e=> ?_,fun e I=>⟨⟨_,inj e,h,by simp,?_⟩,?_⟩⟩
 . have z:=List.getElem?_eq_none_iff.mp e
   show es.length<=i
   simpa using z
 . rw [<-List.map_reverse,getElem?_map,I];rfl
 . rintro x J ⟨rfl,k⟩
   have z:=k _ h
   rw [<-List.map_reverse,getElem?_map,I]at z
   exact⟨rfl,(Option.some.inj z).symm⟩
section
variable {K:Frag}{H1:Hp}{p:Addr}{cσ:St}{g:TG}{te:TE}{Q:VK}{α:Type}{es:List α}{inj:α->V}
theorem Akz {a:Addr} (f:Nat->α->V) (hz:es.length<=sizeLine) (hp:H1 p=none) (ha:SqT K H1 a (es.map inj))
 (step:∀(i:Nat) e b H' R,es[i]? =some e->Same H1 H'->H' b=none->(∀J,Same H' J->R (f i e) J)->g (.ref b) cσ (upd H' b (.tup [.int (i:Nat),inj e])) fun z I=>Kp cσ z/\te z I R)
 (S:∀H',Same H1 H'->H' p=some (.lst (es.mapIdx f))->Q (.ref p) H'):cIn (Ite K a) cσ g T5 te Q H1 p:=by
 have Z:∀ {H':Hp}{o:HO},Same H1 H'->Same H1 (upd H' p o):=fun {H' o} s b u e=>by
  rw [Cu (Dk e hp)]
  exact s b u e
 refine⟨fun i m M H'=>m=es.length-i/\i<=es.length/\M=(es.take i).mapIdx f/\H' p=some (.lst M)/\Same H1 H',⟨es.length,by simp,zero_le _,by simp,Ao,Z (Same.refl _)⟩,?_⟩
 rintro i m M H' ⟨rfl,hi,rfl,W,s⟩
 have O:=s.tup ha
 cases he:es[i]? with
 | none=>
   have U:=List.getElem?_eq_none_iff.mp he
   have e:i=es.length:=le_antisymm hi U
   subst e
   rw [take_length]at W
   exact .inl ⟨⟨_,O,by rw [length_map];exact le_refl _⟩,S _ s W⟩
 | some e=>
   refine .inr ⟨⟨_,inj e,O,by rw [getElem?_map,he];rfl⟩,fun x H3 y=> ?_⟩
   obtain⟨b,v,y1,y2,rfl,rfl⟩:=y
   have y3:=y1 _ O
   rw [getElem?_map,he]at y3
   obtain rfl:inj e=v:=Option.some.inj y3
   obtain⟨Y,e'⟩:=List.getElem?_eq_some_iff.mp he
   have U:(es.take i).length=i:=by rw [length_take];omega
   have tk:(es.take (i+1)).mapIdx f=(es.take i).mapIdx f++ [f i e]:=by
    rw [take_succ,he]
    show(es.take i++ [e]).mapIdx f=_
    rw [List.mapIdx_concat,U]
   have q:=step i e b H' (fun y J=>J p=some (.lst ((es.take i).mapIdx f))/\((es.take i).mapIdx f).length<sizeLine/\∃m',m'<es.length-i/\m'=es.length-(i+1)/\i+1<=es.length/\(es.take i).mapIdx f++ [y]=(es.take (i+1)).mapIdx f/\
    upd J p (.lst ((es.take i).mapIdx f++ [y])) p=some (.lst ((es.take i).mapIdx f++ [y]))/\Same H1 (upd J p (.lst ((es.take i).mapIdx f++ [y])))) he s y2
    (fun J s6=>⟨s6 _ _ W,by rw [List.length_mapIdx,U];omega,_,by omega,rfl,Y,tk.symm,Ao,Z (s.trans s6)⟩)
   have eq:∀(R:VK) (B:Hp->Prop),(fun z I=>Kp cσ z/\T5 z I fun b H5=>if b=true then te z H5 R else B H5)=(fun z I=>Kp cσ z/\te z I R):=fun R B=>by
    funext z I
    show(Kp cσ z/\if true=true then te z I R else B I)=_
    rw [if_pos rfl]
   rw [eq]
   exact q
end
theorem Yi {X:Cx}{es:List Expr}{k:Nat}{pos:Pos}{t:TGs} (K:Frag) (n:Nat) (I:X.K=K) (J:X.calm=true) (h:PGs X es t)
 (M:(assignEach es X.env).length=n:=by rfl) (z:(assignEach es X.env).findIdx? (·.1)=none:=by rfl):PG X (.Tuple es k pos) (Ale K n t):=by
 subst I
 exact Zn J h M z
end L2
namespace L2
open PySem PySem.Spec PyProof.Rows
set_option maxRecDepth 100000
theorem Jc.has {P:Program}{w:World}{H:Hp}{h:Heap}{a:Addr}{o:HO} (x:Jc P w H h a o):∃z,h.get? a=some z:=by
 cases o with
 | lst xs=>obtain⟨_,_,_,_,e⟩:=x;exact⟨_,e⟩
 | tup xs=>obtain⟨_,_,_,z,e,_⟩:=x;exact⟨_,e⟩
 | dK I=>obtain⟨_,_,_,_,o,_,_,e,_⟩:=x;exact⟨_,e⟩
 | dT I=>obtain⟨_,_,_,_,o,_,_,e,_⟩:=x;exact⟨_,e⟩
 | set S n=>obtain⟨o,_,_,_,e,_⟩:=x;exact⟨_,e⟩
 | ins C dx fs=>obtain⟨_,_,_,e,_⟩:=x;exact⟨_,e⟩
 | own y=>exact x
 | xd fs=>obtain⟨_,⟨_,_,_,e,_⟩,_⟩:=x;exact⟨_,e⟩
 | rng lo hi=>obtain⟨_,_,_,e⟩:=x;exact⟨_,e⟩
 | frz z u=>obtain⟨e,_⟩:=x;exact⟨_,e⟩
 | tbl ps=>exact⟨_,show h.get? a=some _ from x⟩
 | met f y=>exact⟨_,show h.get? a=some _ from x⟩
 | ext J=>exact x.2.1
structure FX (P:Program) (w:World) (fr:List Addr) (H:Hp) (h0:Heap) (B:Heap) (H':Hp) (h:Heap):Prop where
 stay:B.StaysIn h
 k1:∀b o,h0.get? b=some o->b∉fr->∃o',B.get? b=some o'/\(H b=none->o'=o)
 k2:∀b u,H' b=some u->∃o,B.get? b=some o
 fr0:∀b∈fr,H b=none/\∃o,h0.get? b=some o/\∀vs,o.data≠ .fields vs
 un:Un fr [] H H' h0 h
 hok:HOk P w H' h
theorem FX.step {P:Program}{w:World}{fr:List Addr}{H H':Hp}{S B h h':Heap} (x:FX P w fr H S B H' h) (k:B.StaysIn h') (u:h.UpToSlots h'):FX P w fr H S B H' h':=by
 have J:∀b o,S.get? b=some o->H b=none->b∈fr->∃U,h'.get? b=some { o with slots:=U}:=fun b o e n I=>by
  obtain⟨U,M⟩:=x.un.slot b o e n I (by simp)
  obtain⟨_,o2,O,Z⟩:=x.fr0 b I
  rw [e]at O;cases O
  obtain⟨W,e3⟩:=u b _ M Z
  exact⟨W,e3⟩
 refine⟨k,x.k1,x.k2,x.fr0,⟨fun b o e n I _=> ?_,fun b o e n I _=>J b o e n I,x.un.free,fun b o e _=> ?_,x.un.tups,x.un.frzs,x.un.tbls⟩,fun b v e=>(x.hok b v e).stay (fun c z hc q=> ?_) (fun _ q=>q) fun _ _ q=>q⟩
 . obtain⟨o',M,O⟩:=x.k1 b o e I
   rw [O n]at M
   exact k b o M
 . by_cases I:b∈fr
   . obtain⟨U,M⟩:=J b o e (x.fr0 b I).1 I
     exact⟨_,M⟩
   . obtain⟨o',M,_⟩:=x.k1 b o e I
     exact⟨o',k b o' M⟩
 . have t:∃o,B.get? c=some o:=by
    rcases hc with z | z
    . rw [z];exact x.k2 _ _ e
    . exact x.k2 _ _ z
   obtain⟨o,Y⟩:=t
   have:=x.stay c o Y
   rw [q]at this;cases this
   exact k c _ Y
section
variable {X:Cx}{pins:List (Addr × Obj)}{σ:St}{H H':Hp}{s s':Shared}{B:Heap}
theorem Inv.old (I:Inv X pins σ H s) {b:Addr}{o:Obj} (e:X.s₀.heap.get? b=some o) (J:b∉X.fs):b∉frs X.stack:=fun z=>by
 rcases mem_cons.mp (I.stkSub b z)with q | q
 . exact absurd (lt_of_lt_of_le (Heap.lt_size e) I.ok.above) (by rw [q];exact lt_irrefl _)
 . exact J q
theorem Inv.fr0 (I:Inv X pins σ H s):∀b∈X.fs,X.H₀ b=none/\∃o,X.s₀.heap.get? b=some o/\∀J,o.data≠ .fields J:=fun b z=>by
 obtain⟨_,o,M,O⟩:=I.ok.funs.mem z
 exact⟨I.ok.frf b z,o,M,O⟩
theorem Inv.one (I:Inv X pins σ H s) (J:X.ex=[]) {b:Addr}{o:Obj} (e:X.s₀.heap.get? b=some o) (M:b∉X.fs):∃o',s.heap.get? b=some o'/\(X.H₀ b=none->o'=o/\H b=none):=by
 by_cases n:X.H₀ b=none
 . exact⟨o,I.base.keep b o e n M (by rw [J];simp),fun _=>⟨rfl,I.base.free b o e n (by rw [J];simp)⟩⟩
 . obtain⟨o',O⟩:=I.base.there b o e (by rw [J];simp)
   exact⟨o',O,fun z=>absurd z n⟩
theorem Inv.fx (I:Inv X pins σ H s) (J:X.ex=[]):FX X.prog X.w X.fs X.H₀ X.s₀.heap (hideAll s.heap (frs X.stack)) H s.heap:=by
 refine⟨fun b o q=>of_hideAll _ q,fun b o e M=> ?_,fun b u e=> ?_,I.fr0,J▸I.base,I.hok⟩
 . obtain⟨o',O,S⟩:=I.one J e M
   exact⟨o',hideAll_get _ O (I.old e M),fun n=>(S n).1⟩
 . obtain⟨o,U⟩:=(I.hok b u e).has
   exact⟨o,hideAll_get _ U fun z=>by have:=I.stkFree b z;rw [e]at this;cases this⟩
theorem Inv.fxOn (I:Inv X pins σ H s) (M:X.ex=[]) (U:s'.os=s.os) (O:AllBare s'.gens) (x:FX X.prog X.w (frs X.stack) H s.heap B H' s'.heap):FX X.prog X.w X.fs X.H₀ X.s₀.heap B H' s'.heap:=by
 have J:Inv X pins σ H' s':=I.call' (ch:=[]) U x.un x.hok O fun b z=>absurd z (by simp)
 refine⟨x.stay,fun b o e S=> ?_,x.k2,I.fr0,M▸J.base,x.hok⟩
 obtain⟨W,Y,n1⟩:=I.one M e S
 obtain⟨o',Z,n2⟩:=x.k1 b W Y (I.old e S)
 exact⟨o',Z,fun n=>(n2 (n1 n).2).trans (n1 n).1⟩
end
noncomputable def CXE (P:Program) (w:World):CXT:=fun outer H s E e s'=>∃(x C:Addr) (a0:Value) (B:Heap) (H':Hp),e= .ref x/\s'.os=s.os/\AllBare s'.gens/\Heap.FlyingW B outer x (.ref C) a0 s'.heap/\FX P w (frs outer) H s.heap B H' s'.heap/\E (.ref C) none H'
noncomputable abbrev VE:List Value:=[.type "ValueError",.type "Exception",.type "BaseException",.type "object"]
noncomputable def Abo (K:Frag) (C:Addr):Prop:=excIn K C VE "ValueError.__new__"=true
noncomputable def cA (K:Frag) (x:Str):Addr:=match PySem.W.nsIn K mainGlobals x with
 | some (some (.ref C))=>C
 | _=>0
theorem Ail {K:Frag}{x:Str}{C:Addr} (e:PySem.W.nsIn K mainGlobals x=some (some (.ref C))):cA K x=C:=by
 unfold cA
 rw [e]
noncomputable def Aqy (h:Heap) (C:Addr):Prop:=∃bm N nm q bs hdct sn sub ab col dd k0 k1 k2 k3 k5 mN,h.get? C=some (excClassObj nm q C N bs bm hdct sn sub ab col dd k0 k1 k2 k3 k5 "ValueError.__new__")/\h.Ns N mN/\mN "__init__"=none/\OwnTail h VE bm
theorem Abo.obj {K:Frag}{C:Addr}{h:Heap} (q:Abo K C) (X:K.In h):Aqy h C:=by
 unfold Abo excIn at q
 cases e:K.lookup C with
 | none=>rw [e]at q;cases q
 | some ob=>
   rw [e]at q
   have M:=X _ _ e
   split at q
   . rename_i dd cd O z
     cases z
     split at q
     . rename_i C1 bm S U Y Z n a5 hm hs
       rw [and_eq_true,and_eq_true,and_eq_true,and_eq_true,and_eq_true]at q
       obtain⟨⟨⟨⟨⟨z1,z2⟩,z3⟩,z4⟩,I⟩,z6⟩:=q
       have y1:C1=C:=by simpa using z1
       have y2:n="ValueError.__new__":=by simpa using z2
       have y3:cd.hasDel=false:=by simpa using z3
       have y6:PySem.W.nsIn K cd.ns "__init__"=some none:=by simpa using z6
       obtain⟨c1,c2,c3,c4,c5,c6,c7,c8,c9,J,a4⟩:=cd
       have hl:O= #[S,U,Y,Z,some (.builtin n),a5]:=by
        cases O
        exact congrArg Array.mk hs
       dsimp only at hm y3 y6 I
       rw [hl,hm,y1,y2,y3]at M
       exact⟨bm,c4,c1,c5,c2,c6,c7,c8,c9,J,dd,S,U,Y,Z,a5,_,M,Heap.Ns.of_isNs (PySem.W.isNs_of_in X I),PySem.W.nsMap_none_of_in X I y6,PySem.W.tail_of_in X z4⟩
     . cases q
   . cases q
section
variable {P:Program}{w:World}{K:Frag}{mg:Str->Option Value}{base:Heap}{N:List Str}{qual:Str}{scope:Scope}{f:Addr}{cd:Value}{A:Around}{outer:List Env}{s0:Shared}{H0:Hp}{E:XK}
theorem Aoq:Passes (CXE P w) (Rj (CXE P w) P w K mg base N qual scope f cd A outer s0 H0 E) E:=by
 intro pins σ H s e s' I h
 obtain⟨x,C,O,B,H',rfl,M,z,S,fx,q⟩:=h
 show wpAny _ _ (leaving _ (.ref x)) _ _ s'
 refine wpAny_leaves_onW I.ok.frames rfl S fun h' J U=> ?_
 exact⟨x,C,O,B,H',rfl,M.trans I.os,z,J,(I.fxOn rfl M z fx).step J.1 U,q⟩
noncomputable def Aer (C:Addr) (E:XK) (t:TA):TS:=fun _ σ H=>t σ H fun vs H1=>vs.length<=sizeLine/\E (.ref C) none H1
theorem Od {C:Addr}{x:Str}{np cpos pos:Pos}{e:Expr}{es:List Expr}{t:TA} (hq:Abo K C) (hm:mg x=some (.ref C))
 (ha:PA (Rj (CXE P w) P w K mg base N qual scope f cd A outer s0 H0 E) (e::es) t) (hg:Gl (Rj (CXE P w) P w K mg base N qual scope f cd A outer s0 H0 E) x:=by rfl) (Z:(x==("__debug__":Str))=false:=by decide)
 (Y:starEach (e::es) (envOfC qual scope s0.heap.objs.size f cd)=(false,eval e (envOfC qual scope s0.heap.objs.size f cd))::starEach es (envOfC qual scope s0.heap.objs.size f cd):=by rfl)
 (a0:(backTo cpos (starEach es (envOfC qual scope s0.heap.objs.size f cd))).any (·.1)=false:=by rfl):
 PS (Rj (CXE P w) P w K mg base N qual scope f cd A outer s0 H0 E) (.Raise (some (.Call (.Name x np) (e::es) [] cpos)) none pos) (Aer C E t):=by
 intro pins s σ H D I h
 obtain⟨bm,N',nm,q,bs,J,sn,sub,ab,O,dd,k0,k1,k2,k3,k5,mN,hC,hN,a1,TL⟩:=hq.obj I.mod.kin
 refine wpAny_Raise_call_subT (nm:=nm) (q:=q) (C:=C) (N:=N') (bs:=bs) (bm:=bm) (hdct:=J) (sn:=sn) (sub:=sub) (ab:=ab) (col:=O) (dd:=dd) (k0:=k0) (k1:=k1) (k2:=k2) (k3:=k3) (k5:=k5) PySem.F.excBase_ValueError (TL.hasType (by decide)) (I.ok.hd rfl) (by
  show(backTo cpos (starEach (e::es) (envOfC qual scope s0.heap.objs.size f cd))).any (·.1)=false
  rw [Y]
  show(false||(backTo cpos (starEach es _)).any (·.1))=false
  rw [a0];rfl) a1 (Xr I hg hm ⟨rfl,?_⟩ Z)
 have a2:=ha cpos pins s σ H _ I h
 show wpAny _ _ (evalArgs (.ref C) true (backTo cpos (starEach (e::es) (envOfC qual scope s0.heap.objs.size f cd))) []) _ _ s
 have S:wpAny (model P w) (A.deeper (envOfC qual scope s0.heap.objs.size f cd)) (spliced (backTo cpos (starEach (e::es) (envOfC qual scope s0.heap.objs.size f cd)))) _ _ s:=a2
 rw [Y]at S ⊢
 refine Calls.evalArgs_plain (thn S fun us s2 ⟨vs,H2,M,r,z,q2⟩=>⟨rfl,by rw [<-r.length];exact z,M.bk _ _ hC,hN.keeps M.bk,TL.keeps M.bk,fun h' x' U=> ?_⟩)
 show wpAny _ _ (leaving _ (.ref x')) _ _ _
 refine wpAny_leaves_madeW (base:=hideAll s2.heap (frs (envOfC qual scope s0.heap.objs.size f cd::outer))) (h:=s2.heap) M.ok.frames rfl (fun b o q=>of_hideAll _ q) (PySem.W.funFrames_hide M.stack fun env Y b hb=>mem_filterMap.mpr ⟨env,Y,hb⟩) U fun a3 t' fl _ _ up=> ?_
 exact⟨x',C,.ref t',_,H2,rfl,M.os,M.bare,fl,(M.fx rfl).step fl.1 ((Heap.UpToSlots.of_keeps U.keeps).trans up),q2⟩
end
theorem Ako {C:Addr}{E:XK}{t:TA}{D:Ends}{σ:St}{H:Hp}:Aer C E t D σ H=t σ H (fun z H1=>z.length<=sizeLine/\E (.ref C) none H1):=rfl
theorem PS.nox {X:Cx}{st:Stmt}{t:TS} (h:PS X.nox st t):PS X st t:=fun pins s σ H D I J=>
 wpAny_mono (h pins s σ H D (I.wish _) J) (fun _ _ q=>q.unwish) fun _ _ z=>False.elim z
theorem Fun.okE {P:Program}{w:World}{K:Frag}{mg:Str->Option Value}{base:Heap}{x qual:Str}{st:Stmt}{f:Addr}{fd:FuncData}{N ps:List Str}{k:Nat}{sp:Sp} (F:Fun K x qual st f fd) (S:Bc N ps (Av st)) (len:∀I H Q E,sp I H Q E->I.length=ps.length)
 (J:∀(z:Value) (A:Around) (outer:List Env) (s:Shared) (H:Hp) (I:List V) (Q:VK) (E:XK),Mz k (A.deeper (envOfC qual (Av st) s.heap.objs.size f z))->sp I H Q E->
   ∃t,PSs (Rj (CXE P w) P w K mg base N qual (Av st) f z A outer s H E) (Kc st) t/\t { nx:=fun _ H'=>Q .non H',rt:=Q} (start N I) H):Ti P w K mg base (CXE P w) (k+1) f fd ps sp:=by
 obtain⟨oc,od,kV,U,pm,an,z,ct,Y,rfl,Z,M⟩:=F.ex
 exact Alb Z M S len fun A outer s H I Q E hr O=>J z A outer s H I Q E hr O
noncomputable def Vy (P:Program) (w:World) (K:Frag) (mg:Str->Option Value) (base:Heap) (k:Nat) (x:Str) (ps:List Str) (sp:Sp):Prop:=
 ∃f fd,Ti P w K mg base (CXE P w) k f fd ps sp/\mg x=some (.ref f)/\keepIn K (.ref f)=true/\Binds K fd ps []
theorem Df.calE {P:Program}{w:World}{K:Frag}{mg:Str->Option Value}{base:Heap}{k:Nat}{x:Str}{st:Stmt}{ps:List Str}{f:Addr}{fd:FuncData}{sp:Sp}
 (F:Df K mg x st ps f fd) (G:Ti P w K mg base (CXE P w) k f fd ps sp):Vy P w K mg base k x ps sp:=⟨f,fd,G,F.at',F.fn.kp,F.bd⟩
theorem Vy.calm {P:Program}{w:World}{K:Frag}{mg:Str->Option Value}{base:Heap}{k:Nat}{x:Str}{ps:List Str}{sp J:Sp}
 (C:Vy P w K mg base k x ps sp) (h:∀I H Q E,J I H Q E->sp I H Q E0):Cal P w K mg base k x ps J:=by
 obtain⟨f,fd,G,a,b,c⟩:=C
 refine⟨f,fd,⟨fun I H Q E z=>G.len I H Q E0 (h _ _ _ _ z),fun A outer s H args M I Q E O S U hv Y=> ?_⟩,a,b,c⟩
 refine codeAny_mono (G.run A outer s H args M I Q E0 O S U hv (h _ _ _ _ Y)) fun r s' q=> ?_
 cases r with
 | ok Z=>cases Z<;>exact q
 | error e=>
   obtain⟨_,_,_,_,_,_,_,_,_,_,z⟩:=q
   exact z.elim
section
variable {P:Program}{w:World}{K:Frag}{mg:Str->Option Value}{base:Heap}{N:List Str}{qual:Str}{scope:Scope}{f:Addr}{cd:Value}{A:Around}{outer:List Env}{s0:Shared}{H0:Hp}{E:XK}
theorem N8 {k:Nat}{x:Str}{ps:List Str}{sp:Sp}{p pos:Pos}{e:Expr}{es:List Expr}{t:TA}
 (C:Vy P w K mg base k x ps sp) (J:Mz k (A.deeper (envOfC qual scope s0.heap.objs.size f cd))) (M:PA (Rj (CXE P w) P w K mg base N qual scope f cd A outer s0 H0 E) (e::es) t) (O:Gl (Rj (CXE P w) P w K mg base N qual scope f cd A outer s0 H0 E) x:=by rfl) (z:(x==("__debug__":Str))=false:=by decide)
 (S:starEach (e::es) (envOfC qual scope s0.heap.objs.size f cd)=(false,eval e (envOfC qual scope s0.heap.objs.size f cd))::starEach es (envOfC qual scope s0.heap.objs.size f cd):=by rfl)
 (I:(backTo pos (starEach es (envOfC qual scope s0.heap.objs.size f cd))).any (·.1)=false:=by rfl):
 PE (Rj (CXE P w) P w K mg base N qual scope f cd A outer s0 H0 E) (.Call (.Name x p) (e::es) [] pos) (T4 sp [] E t):=by
 obtain⟨U,fd,G,a,b,c⟩:=C
 exact Adp (X:=Rj (CXE P w) P w K mg base N qual scope f cd A outer s0 H0 E) G J O a b c .nil Aoq M z S I
end
end L2
namespace L2
open PySem PySem.Spec PyProof.Rows
set_option maxRecDepth 100000
end L2
namespace L2
open PySem PySem.Spec PyProof.Rows
set_option maxRecDepth 100000
structure Aqh (K:Frag) (C:Addr):Prop where
 ga:findIn K (.ref C) "__getattribute__"=some (some (.builtin "BaseException.__getattribute__"))
 gn:findIn K (.ref C) "__getattr__"=some none
 cl:findIn K (.ref C) "__class__"=some (some (.builtin "object.__class__"))
 ob:mroIn K C (.type "object")=some true
 be:mroIn K C (.type "BaseException")=some true
theorem nw {H H':Hp}{p:Addr}{o:HO} (z:H p=none) (e:upd H p o=H'):Same H H'/\H' p=some o:=by
 subst e
 exact⟨Same.upd z _,Ao⟩
end L2
namespace L2
open PySem PySem.Spec PyProof.Rows
noncomputable def Fo:Expr->Bool
 | .Starred _ _=>false
 | _=>true
theorem Ks {e:Expr}{es:List Expr}{env:Env} (h:Fo e=true):starEach (e::es) env=(false,eval e env)::starEach es env:=by
 cases e<;>first | rfl | cases h
theorem Mv {env:Env}{pos:Pos}:∀ {es:List Expr},es.all Fo=true->(backTo pos (starEach es env)).any (·.1)=false
 | [],_=>rfl
 | e::es,h=>by
   rw [all_cons,and_eq_true]at h
   rw [Ks h.1]
   have z:=Mv (env:=env) (pos:=pos) h.2
   unfold backTo at z ⊢
   rw [map_cons,any_cons,z]
   rfl
section
variable {X:Cx}{e:Expr}{es:List Expr}{te:TE}{t:TA}{x:Str}{p pos:Pos}{id T:String}{r:List V->Hp->VK->Prop}{k:Nat}{ps:List Str}{sp:Sp}
theorem Aho (z:PE X e te) (I:PA X es t) (h:Fo e=true:=by rfl):PA X (e::es) (Aeq te t):=Aji z I (Ks h)
theorem Ado (I:Jm X (.builtin id) r) (J:Gl X x) (M:X.mg x=none) (hv:bootBuiltins x=some (.builtin id)) (O:PA X (e::es) t) (h1:Fo e=true:=by rfl) (h2:es.all Fo=true:=by rfl) (S:x≠"__name__":=by decide) (z:(x==("__debug__":Str))=false:=by decide):
 PE X (.Call (.Name x p) (e::es) [] pos) (tCB r t):=Af4 I J M hv O S z (Ks h1) (Mv h2)
theorem Wq (I:Jm X (.type T) r) (J:Gl X x) (M:X.mg x=none) (hv:bootBuiltins x=some (.type T)) (O:PA X (e::es) t) (h1:Fo e=true:=by rfl) (h2:es.all Fo=true:=by rfl) (S:x≠"__name__":=by decide) (z:(x==("__debug__":Str))=false:=by decide):
 PE X (.Call (.Name x p) (e::es) [] pos) (tCB r t):=Adq I J M hv O S z (Ks h1) (Mv h2)
theorem Aaz (C:Cal X.prog X.w X.K X.mg X.base k x ps sp) (I:Mz k X.A) (J:PA X (e::es) t) (h1:Fo e=true:=by rfl) (h2:es.all Fo=true:=by rfl) (M:Gl X x:=by rfl) (z:(x==("__debug__":Str))=false:=by decide):
 PE X (.Call (.Name x p) (e::es) [] pos) (T4 sp [] E0 t):=Af5 C I J M z (Ks h1) (Mv h2)
theorem Aa0 {n:Nat} (C:Cal X.prog X.w X.K X.mg X.base k x ps sp) (I:Mz n X.A) (J:PA X (e::es) t) (M:k<=n:=by decide) (h1:Fo e=true:=by rfl) (h2:es.all Fo=true:=by rfl) (O:Gl X x:=by rfl) (z:(x==("__debug__":Str))=false:=by decide):
 PE X (.Call (.Name x p) (e::es) [] pos) (T4 sp [] E0 t):=Aaz C (I.mono M) J h1 h2 O z
theorem Ad3 {te:TE}{x:Str}{z:Pos} (i:Nat) (I:X.N.Nodup) (J:PE X e te) (hi:X.N[i]? =some x:=by rfl) (M:Loc X.env.scope x:=by first | exact Or.inl rfl | exact Or.inr rfl) (O:swapsWith e (some (.Name x z)) pos.line X.env=pure false:=by rfl) (S:X.fn x=true\/X.env.scope.names.lookup x=some .local :=by first | exact .inl rfl | exact .inr rfl | assumption):
 PS X (.Assign [.Name x z] e pos) (Agr te (O4 i)):=Zt I hi M J O S
theorem Af8 {x:Str} (i:Nat) (z:X.N.Nodup) (hi:X.N[i]? =some x:=by rfl) (I:Loc X.env.scope x:=by first | exact Or.inl rfl | exact Or.inr rfl) (J:X.fn x=true\/X.env.scope.names.lookup x=some .local :=by first | exact .inl rfl | exact .inr rfl | assumption):PG X (.Name x pos) (O4 i):=Yh z hi I J
end
noncomputable def Itd (lo:Int) (n:Nat):It:=⟨fun i _=>i<n,fun i H x H'=>H'=H/\x= .int (lo-i),fun i _=>n<=i⟩
theorem Aew {P:Program}{w:World}{K:Frag}{tg:Expr} (J:Addr) (lo:Int) (n:Nat):Turn P w K tg (Itd lo n) [J] J (fun i h=>IsRangeIter h J (lo+(i:Nat)*(-1)) ((n:Int)-(i:Nat)) (-1)) where
 mem:=by simp
 obj:=fun i h st b M=>by
  have e:b=J:=by simpa using M
  subst e
  exact⟨_,st,fun v z=>by
   have z':Data.fields _=Data.cell v:=z
   cases z'⟩
 keep:=fun i h h' st k=>k J (by simp) _ st
 item:=by
  intro X U Y Z hc i pins s σ H E I S st hg
  subst U Y Z
  obtain⟨f0,f1,f2,f3,f4,f5⟩:=S J (by simp)
  have W:=Walks.range (prog:=X.prog) (w:=X.w) (I.ok.hd hc) J lo (-1) n
  refine W.item i s _ _ hg st fun v h' tk hv O kk=> ?_
  obtain⟨t,rfl⟩:=hv
  have I1:Inv X pins σ H { s with heap:=h',toks:=tk}:=I.turned (fun b o M e=>kk b o (by simpa using M) e) f0 f1 f3 f4 f5
  refine⟨_,rfl,Aco (s:={ s with heap:=h',toks:=tk}) (n:="range_iterator") O rfl rfl (by decide) ⟨.int (lo-i),H,I1,⟨t,?_⟩,⟨rfl,rfl⟩,O,fun b M=>(S b M).1⟩⟩
  rw [mul_neg,Int.mul_one,<-Int.sub_eq_add_neg]
 done:=by
  intro X U Y Z hc i pins s σ H E I S st hg
  subst U Y Z
  obtain⟨f0,f1,f2,f3,f4,f5⟩:=S J (by simp)
  exact wpAny_pyNext_range_end (I.ok.hd hc) st (by have:n<=i:=hg;omega) fun h' eb=>⟨rfl,I.turned (t':=s.toks) (fun b o M e=>eb b o M e) f0 f1 f3 f4 f5⟩
 self:=fun _ _ _ _ _ st h=>wpAny_pyIter_rangeiter st h
section
variable {X:Cx}{tg:Expr}
theorem Air {pins:List (Addr × Obj)}{σ:St}{H:Hp}{s:Shared}{R:It->Hp->Prop}{E:Value->Shared->Prop}{lo hi:Int}{t u v:Tok}{tk:Nat} (I:Inv X pins σ H s) (h1: -(2^62)<=lo) (h2:lo<2^62) (J: -(2^62)<=hi) (M:hi<2^62)
 (q:R (Itd lo (lo-hi).toNat) H):wpAny (model X.prog X.w) X.A (pyIter (.ref s.heap.objs.size)) (PIE X pins σ tg R) E { s with heap:=s.heap.push { cls:= .type "range",data:= .fields #[.int lo t,.int hi u,.int (-1) v]},toks:=tk}:=by
 refine wpAny_pyIter_range (IsRange.new ..) (PySem.W.small_down h1 h2 J M) ?_
 have z:Inv X pins σ H { s with heap:=s.heap.push { cls:= .type "range",data:= .fields #[.int lo t,.int hi u,.int (-1) v]},toks:=tk}:=I.kept fun b o e=>Heap.get?_push_of_some _ e
 refine⟨(s.heap.push { cls:= .type "range",data:= .fields #[.int lo t,.int hi u,.int (-1) v]}).objs.size,[(s.heap.push { cls:= .type "range",data:= .fields #[.int lo t,.int hi u,.int (-1) v]}).objs.size],_,_,H,rfl,
  z.kept (t':=tk) fun b o e=>Heap.get?_push_of_some _ e,Aew _ lo (lo-hi).toNat,?_,fun b O=> ?_,q⟩
 . have S:lo+((0:Nat):Int)*(-1)=lo:=by simp
   have U:(((lo-hi).toNat:Nat):Int)-((0:Nat):Int)=Builtin.Range.rangeSize lo hi (-1):=by rw [PySem.W.rangeSize_downNat];omega
   show IsRangeIter _ _ (lo+((0:Nat):Int)*(-1)) ((((lo-hi).toNat:Nat):Int)-((0:Nat):Int)) (-1)
   rw [S,U]
   exact Heap.get?_push_size _ rfl
 . have e:b=(s.heap.push { cls:= .type "range",data:= .fields #[.int lo t,.int hi u,.int (-1) v]}).objs.size:=by simpa using O
   subst e
   exact z.fpOk (le_refl _) (z.hok.fresh (le_refl _))
noncomputable def Aix (ta:TA):TI:=fun σ H R=>ta σ H fun vs H1=>∃i j:Int,vs=[.int i,.int j,.int (-1)]/\(-(2^62)<=i/\i<2^62/\ -(2^62)<=j/\j<2^62)/\R (Itd i (i-j).toNat) H1
theorem Yj {a b c:Expr}{ta:TA}{p pos:Pos} (O:Gl X "range") (S:X.mg "range"=none) (U:PA X [a,b,c] ta) (h1:Fo a=true:=by rfl) (h2:[b,c].all Fo=true:=by rfl):
 PI X tg (.Call (.Name "range" p) [a,b,c] [] pos) (Aix ta):=by
 intro pins s σ H R I h
 refine Call_ (Qa I O S boot_range (PyProof.Rows.callWith_type1 (thn (U pos pins s σ H _ I h) fun us s1 ⟨vs,H1,W,Y,J⟩=> ?_) (Ks h1) (Mv h2)))
 obtain⟨i,j,e,⟨J,Z,q3,q4⟩,q⟩:=J
 subst e
 cases Y with
 | cons r z=>
   cases z with
   | cons r' z=>
     cases z with
     | cons M z=>
       cases z
       obtain⟨t,rfl⟩:=r
       obtain⟨t',rfl⟩:=r'
       obtain⟨a0,rfl⟩:=M
       exact call_range_3 (by decide) (Air W J Z q3 q4 q) (.inl (PyProof.noPylong_of_log2 (by decide+kernel)))
theorem Ann {ta:TA}{σ:St}{H:Hp}{R:It->Hp->Prop}:Aix ta σ H R=ta σ H (fun z H1=>∃i j:Int,z=[.int i,.int j,.int (-1)]/\(-(2^62)<=i/\i<2^62/\ -(2^62)<=j/\j<2^62)/\R (Itd i (i-j).toNat) H1):=rfl
theorem Apv {i j:Int}{G:Int->Int->Prop}:(∃z I:Int,[V.int i,.int j,.int (-1)]=[.int z,.int I,.int (-1)]/\G z I)=G i j:=propext ⟨fun⟨_,_,e,h⟩=>by cases e;exact h,fun h=>⟨i,j,rfl,h⟩⟩
end
theorem Td {H:Hp}{lo:Int}{n:Nat}:Aih (Itd lo n) H (List.range n) (fun i=> .int (lo-(i:Nat))):=fun i=>by
 refine⟨fun e=> ?_,fun e h=> ?_⟩
 . have:=List.getElem?_eq_none_iff.mp e
   rw [length_range]at this
   exact this
 . obtain⟨h1,h2⟩:=List.getElem?_eq_some_iff.mp h
   rw [length_range]at h1
   rw [List.getElem_range]at h2
   subst h2
   exact⟨h1,fun x z ⟨a,b⟩=>⟨a,b⟩⟩
theorem Akr {σ:St}{H:Hp}{g:TG}{tb:TS}{D:Ends}{J:It} (n:Nat) (inj:Nat->V) (I:Nat->St->Hp->Prop) (U:I 0 σ H) (W:∀i σ H,I i σ H->Aih J H (List.range n) inj)
 (Y:∀i σ H,i<n->I i σ H->g (inj i) σ H fun M H2=>tb { D with nx:=I (i+1),ct:=I (i+1),bk:=D.nx} M H2) (Z:∀σ H,I n σ H->D.nx σ H):FI J g tb D σ H:=by
 refine Uy (es:=List.range n) (inj:=inj) (fun z=>I z.length) U (fun z σ H p=>W z.length σ H p) (fun z e O σ H S p=> ?_) (fun σ H p=>Z σ H (by rw [length_range]at p;exact p))
 have hl:=congrArg List.length S
 rw [length_range,length_append,length_cons]at hl
 have ee:e=z.length:=by
  have:=congrArg (fun l=>l[z.length]?) S
  simp only [getElem?_append_right (le_refl _),sub_self,getElem?_cons_zero]at this
  rw [getElem?_range (by omega)]at this
  exact(Option.some.inj this).symm
 subst ee
 have:=Y z.length σ H (by omega) p
 rw [length_append,length_singleton]
 exact this
theorem Same.put {H H':Hp}{p:Addr}{o:HO} (s:Same H H') (z:H p=none):Same H (L2.upd H' p o):=fun b u e=>by
 rw [Cu (Dk e z)]
 exact s b u e
theorem Aby {X:Cx} (K:Frag) (h:X.K=K:=by rfl):Jm X (.builtin "isinstance") (fun xs H Q=>∃x t T b,xs=[x,.ty T]/\Xg K H x t/\kitOne K t (.type T)=some b/\Q (.bl b) H):=by
 subst h
 exact Y5
theorem Bp {t u:TS}{D:Ends}{σ:St}{H:Hp} (P:St->Hp->Prop) (h1:∀N:St->Hp->Prop,(∀z H',P z H'->N z H')->t { D with nx:=N} σ H) (h2:∀z H',P z H'->u D z H'):Aob t u D σ H:=h1 (u D) h2
theorem Vt {K:Frag}{H:Hp}{p a:Addr}{I xs:List V}{o:HO} (h:SqT K H a xs) (J:H p=some (.lst I)):SqT K (upd H p o) a xs:=by
 rcases h with(h | ⟨o',h⟩) | h
 . exact .inl (.inl (by rw [Cu (Afw h J (by intro z;cases z))];exact h))
 . exact .inl (.inr ⟨o',by rw [Cu (Afw h J (by intro z;cases z))];exact h⟩)
 . exact .inr h
noncomputable def tCV (i:Nat) (a:Addr) (sp:Sp) (E:XK) (t:TA):TE:=fun σ H Q=>σ[i]? =some (some (.ref a))/\t σ H fun vs H1=>sp vs H1 Q E
theorem Aq9 {i:Nat}{a:Addr}{sp:Sp}{E:XK}{t:TA}{σ:St}{H:Hp}{Q:VK}:tCV i a sp E t σ H Q=(σ[i]? =some (some (.ref a))/\t σ H fun z H1=>sp z H1 Q E):=rfl
theorem Ajk {X:Cx}{i k:Nat}{a:Addr}{x y:Str}{ps:List Str}{sp:Sp}{p pos:Pos}{e:Expr}{es:List Expr}{t:TA} (C:Cal X.prog X.w X.K X.mg X.base k y ps sp) (M:X.mg y=some (.ref a)) (O:Mz k X.A)
 (S:PE X (.Name x p) (Abk i)) (U:PA X (e::es) t) (h1:Fo e=true:=by rfl) (h2:es.all Fo=true:=by rfl):PE X (.Call (.Name x p) (e::es) [] pos) (tCV i a sp E0 t):=by
 obtain⟨f,fd,G,g,b,c⟩:=C
 have Y:f=a:=by rw [M]at g;cases g;rfl
 subst Y
 intro pins s σ H Q I h
 obtain⟨hv,h⟩:=h
 refine wpAny_Call_Name_kw (thn (S pins s σ H (fun v H1=>v= .ref f/\H1=H) I ⟨_,hv,rfl,rfl⟩) fun u Z ⟨v,H1,z,r,e1,e2⟩=> ?_)
 subst e1 e2
 cases r
 refine callWith_K (h₀:=X.base) z.ok.mod.kin b (thn (U pos pins Z σ H1 _ z h) fun us s2 ⟨vs,H2,J,r2,q⟩=>⟨J.kIn,?_⟩) (Ks h1) (Mv h2)
 have q':sp (vs++ []) H2 Q E0:=by rw [append_nil];exact q
 exact Ah3 G O c .nil Al9 J r2 q'
theorem Zm {X:Cx}{x:Str}{v:V}{pos:Pos} (z:Gl X x) (h:∃u,X.mg x=some u/\RelV v u) (I:(x==("__debug__":Str))=false:=by decide):PE X (.Name x pos) (tC v):=by
 obtain⟨u,a,b⟩:=h
 exact Yg z a b I
section
variable {c:TT}{tb:TS}{D:Ends}{σ:St}{H:Hp}
noncomputable def WM (Pv:Nat->St->Hp->Prop) (tb:TS) (D:Ends) (m:Nat) (σ:St) (H:Hp):Prop:=∃N:St->Hp->Prop,(∀σ' H',N σ' H'->∃m',m'<m/\Pv m' σ' H')/\tb { D with nx:=N,ct:=N,bk:=D.nx} σ H
theorem Ani {M:Nat->St->Hp->Prop}{m:Nat} (h:tb { D with nx:=fun I H'=>∃J,J<m/\M J I H',ct:=fun I H'=>∃J,J<m/\M J I H',bk:=D.nx} σ H):WM M tb D m σ H:=⟨_,fun _ _ z=>z,h⟩
theorem Ae0 (z:Nat->St->Hp->Prop) (I:Nat) (J:z I σ H) (M:∀m σ H,z m σ H->c σ H fun b H1=>if b=true then WM z tb D m σ H1 else D.nx σ H1):W7 c tb D σ H:=⟨z,⟨I,J⟩,M⟩
end
noncomputable def It1 (t:Bool) (h:Heap) (j u:Addr) (k:Nat):Prop:=if t=true then h.IsTupleIter j u k else h.IsListIter j u k
noncomputable def Sq1 (t:Bool) (h:Heap) (u:Addr) (xs:Array Value):Prop:=if t=true then h.IsTuple u xs else h.IsList u xs
theorem It1.ext {t:Bool}{h g:Heap}{j u b:Addr}{k:Nat} (x:It1 t h j u k) (e:Heap.ExtBut b h g) (n:j≠b):It1 t g j u k:=by
 cases t
 . exact Heap.IsListIter.extBut x e n
 . exact Heap.IsTupleIter.extBut x e n
theorem It1.to {t:Bool}{h g:Heap}{j u:Addr}{k:Nat} (x:It1 t h j u k) (e:∀o,h.get? j=some o->g.get? j=some o):It1 t g j u k:=by
 cases t
 . exact Heap.IsListIter.at x e
 . exact Heap.IsTupleIter.at x e
theorem Sq1.ext {t:Bool}{h g:Heap}{u b:Addr}{xs:Array Value} (x:Sq1 t h u xs) (e:Heap.ExtBut b h g) (n:u≠b):Sq1 t g u xs:=by
 cases t
 . exact Heap.IsList.extBut x e n
 . exact Heap.IsTuple.extBut x e n
theorem It1.there {t:Bool}{h:Heap}{j u:Addr}{k:Nat} (x:It1 t h j u k):∃o,h.get? j=some o/\∀v,o.data≠ .cell v:=by
 cases t
 . obtain⟨o,e,_,d⟩:=(show h.IsListIter j u k from x)
   exact⟨o,e,fun v z=>by rw [d]at z;cases z⟩
 . obtain⟨o,e,_,d⟩:=(show h.IsTupleIter j u k from x)
   exact⟨o,e,fun v z=>by rw [d]at z;cases z⟩
section
variable {prog:Program}{w:World}{A:Around}{E:Value->Shared->Prop}{s:Shared}
theorem Aja {t:Bool}{j u:Addr}{k:Nat}{xs:Array Value}{y:Value}{Q:Value->Shared->Prop} (z:It1 t s.heap j u k) (I:Sq1 t s.heap u xs) (J:xs[k]? =some y)
 (c:∀g,It1 t g j u (k+1)->Heap.SameBut j s.heap g->Q y { s with heap:=g}):wpAny (model prog w) A (Builtin.SmallTypes.nextOf (.ref j)) Q E s:=by
 cases t
 . exact wpAny_nextOf_list_item z I J c
 . exact nextT z I J c
theorem Wd {t:Bool}{j u:Addr}{k:Nat}{xs:Array Value}{Q:Value->Shared->Prop} (z:A.handled=none) (I:It1 t s.heap j u k) (J:Sq1 t s.heap u xs) (M:xs[k]? =none)
 (c:∀g e,Heap.ExtBut j s.heap g->(∃o,g.get? e=some o/\o.cls= .type "StopIteration")->E (.ref e) { s with heap:=g}):wpAny (model prog w) A (Builtin.SmallTypes.nextOf (.ref j)) Q E s:=by
 cases t
 . exact wpAny_nextOf_list_end z I J M c
 . exact Wf z I J M c
theorem Ae3 {t1 t2:Bool}{z TI TO J M Y Z:Addr}{k1 k2:Nat}{xs ys:Array Value}{x y p q:Value}{Q:Value->Shared->Prop} (D:ZipApart z TI TO J M Y Z)
 (hz:IsZip s.heap z TI TO .none) (a3:IsPair s.heap TI (.ref J) (.ref M)) (a4:IsPair s.heap TO p q) (j1:It1 t1 s.heap J Y k1) (j2:It1 t2 s.heap M Z k2) (a1:Sq1 t1 s.heap Y xs) (a2:Sq1 t2 s.heap Z ys) (hx:xs[k1]? =some x) (hy:ys[k2]? =some y)
 (c:∀g,IsZip g z TI TO (rawInt s.heap.objs.size)->IsPair g TO x y->It1 t1 g J Y (k1+1)->It1 t2 g M Z (k2+1)->IsPair g s.heap.objs.size x y->g.objs.size=s.heap.objs.size+1->
   (∀b o,b≠z->b≠TO->b≠J->b≠M->s.heap.get? b=some o->g.get? b=some o)->Q (.ref s.heap.objs.size) { s with heap:=g}):
 wpAny (model prog w) A (Builtin.«zip.__next__» ⟨[.ref z],[]⟩) (fun a5 s'=>∃v,a5= .done (.ret v)/\Q v s') E s:=by
 show wpAny _ _ (field (.ref z) 2>>=_) _ _ s
 refine wpAny_bind (wpAny_field hz rfl (x:= .bool false) rfl ?z1)
 case z1=>
 show wpAny _ _ (field (.ref z) 3>>=_) _ _ s
 refine wpAny_bind (wpAny_field hz rfl (x:= .ref TI) rfl (wpAny_bind (wpAny_seqItems a3 rfl ?z2)))
 case z2=>
 show wpAny _ _ (Builtin.SmallTypes.ownedTupleIsFree (.ref z)>>=_) _ _ s
 refine wpAny_bind (m:=Builtin.SmallTypes.ownedTupleIsFree (.ref z)) ?z3
 case z3=>
 unfold Builtin.SmallTypes.ownedTupleIsFree;refine wpAny_bind (wpAny_field hz rfl (x:= .none) rfl (wpAny_pure ?z4))
 case z4=>
 simp only [if_true];refine wpAny_bind (wpAny_rule (wpAny_bind (wpAny_field hz rfl (x:= .ref TO) rfl (wpAny_bind (wpAny_setField_rec hz (by simp) fun g1 (z1:IsZip g1 z TI TO .ellipsis) O=> ?z5)))))
 case z5=>
 refine wpAny_bind ?z6
 case z6=>
 simp only [forIn_cons,List.forIn_nil,List.zipIdx_cons,List.zipIdx_nil]
 refine wpAny_bind (wpAny_bind (wpAny_onRaise ?z7))
 case z7=>
 show wpAny _ _ (Builtin.SmallTypes.nextOf (.ref J)>>=_) _ _ { s with heap:=g1}
 refine wpAny_bind (Aja (j1.ext O.extBut D.i1z) (a1.ext O.extBut D.l1z) hx fun g2 n1 U=>wpAny_pure ?z8)
 case z8=>
 have o2:IsPair g2 TO p q:=U.extBut _ _ D.TOi1 (O.extBut _ _ D.TOz a4)
 refine wpAny_bind (wpAny_seqItems o2 rfl (wpAny_bind (wpAny_updateSeq_pair o2 fun g3 (o3:IsPair g3 TO x q) W=>wpAny_bind (wpAny_letGo (wpAny_pure (wpAny_bind (wpAny_bind (wpAny_onRaise ?z9))))))))
 case z9=>
 show wpAny _ _ (Builtin.SmallTypes.nextOf (.ref M)>>=_) _ _ { s with heap:=g3}
 refine wpAny_bind (Aja (((j2.ext O.extBut D.i2z).ext U.extBut D.i12.symm).ext W.extBut D.TOi2.symm) (((a2.ext O.extBut D.l2z).ext U.extBut D.l2i1).ext W.extBut D.l2TO) hy fun g4 n2 b4=>wpAny_pure ?z10)
 case z10=>
 have o4:IsPair g4 TO x q:=b4.extBut _ _ D.TOi2 o3
 refine wpAny_bind (wpAny_seqItems o4 rfl (wpAny_bind (wpAny_updateSeq_pair o4 fun I (o5:IsPair I TO x y) b5=>wpAny_bind (wpAny_letGo (wpAny_pure (wpAny_pure (wpAny_bind (wpAny_seqItems o5 rfl (wpAny_bind (wpAny_newTuple ?z11))))))))))
 case z11=>
 have sz:I.objs.size=s.heap.objs.size:=by rw [b5.1,b4.1,W.1,U.1,O.1]
 have z5:IsZip I z TI TO .ellipsis:=b5.extBut _ _ D.TOz.symm (b4.extBut _ _ D.i2z.symm (W.extBut _ _ D.TOz.symm (U.extBut _ _ D.i1z.symm z1)))
 have k5:∀b o,b≠z->b≠TO->b≠J->b≠M->s.heap.get? b=some o->I.get? b=some o:=fun b o S c2 c3 c4 e=>b5.extBut _ _ c2 (b4.extBut _ _ c4 (W.extBut _ _ c2 (U.extBut _ _ c3 (O.extBut _ _ S e))))
 have m1:It1 t1 I J Y (k1+1):=((n1.ext W.extBut D.TOi1.symm).ext b4.extBut D.i12).ext b5.extBut D.TOi1.symm
 have m2:It1 t2 I M Z (k2+1):=n2.ext b5.extBut D.TOi2.symm
 have a0:z<I.objs.size:=Heap.lt_size z5
 show wpAny _ _ (Builtin.SmallTypes.ownedTupleHandOut (.ref z) (.ref I.objs.size)>>=_) _ _ _
 refine wpAny_bind (m:=Builtin.SmallTypes.ownedTupleHandOut (.ref z) (.ref I.objs.size)) ?z12
 case z12=>
 unfold Builtin.SmallTypes.ownedTupleHandOut
 have z6:IsZip (I.push { cls:= .type "tuple",data:= .seq #[x,y]}) z TI TO .ellipsis:=Heap.get?_push_of_some _ z5
 refine wpAny_bind (wpAny_setField_rec z6 (by simp) fun g7 (z7:IsZip g7 z TI TO (rawInt I.objs.size)) b7=>wpAny_setField_rec z7 (by simp) fun g8 (z8:IsZip g8 z TI TO (rawInt I.objs.size)) b8=> ?z13)
 case z13=>
 have up:∀b o,b≠z->I.get? b=some o->g8.get? b=some o:=fun b o S e=>b8.extBut _ _ S (b7.extBut _ _ S (Heap.get?_push_of_some _ e))
 have t8:IsPair g8 I.objs.size x y:=b8.extBut _ _ (ne_of_gt a0) (b7.extBut _ _ (ne_of_gt a0) (Heap.get?_push_size _ rfl))
 have w8:g8.objs.size=I.objs.size+1:=by rw [b8.1,b7.1,Heap.size_push]
 rw [sz]at z8 t8 w8
 refine wpAny_pure ⟨_,rfl,?z14⟩
 case z14=>
 show Q (.ref I.objs.size) _
 rw [sz]
 exact c g8 z8 (up _ _ D.TOz o5) (m1.to fun o e=>up _ o D.i1z e) (m2.to fun o e=>up _ o D.i2z e) t8 w8 fun b o S c2 c3 c4 e=>up b o S (k5 b o S c2 c3 c4 e)
theorem Ag0 {t1 t2:Bool}{I TI TO U W u1 u2:Addr}{k1 k2:Nat}{xs ys:Array Value}{p q:Value}{Q:Fin->Shared->Prop} (hh:A.handled=none) (D:ZipApart I TI TO U W u1 u2)
 (Y:IsZip s.heap I TI TO .none) (a0:IsPair s.heap TI (.ref U) (.ref W)) (a3:IsPair s.heap TO p q) (j1:It1 t1 s.heap U u1 k1) (j2:It1 t2 s.heap W u2 k2) (a1:Sq1 t1 s.heap u1 xs) (a2:Sq1 t2 s.heap u2 ys) (he:xs[k1]? =none\/ys[k2]? =none)
 (c:∀g e,(∀b o,b≠I->b≠TO->b≠U->b≠W->s.heap.get? b=some o->g.get? b=some o)->(∃o,g.get? e=some o/\o.cls= .type "StopIteration")->E (.ref e) { s with heap:=g}):
 wpAny (model prog w) A (Builtin.«zip.__next__» ⟨[.ref I],[]⟩) Q E s:=by
 show wpAny _ _ (field (.ref I) 2>>=_) _ _ s
 refine wpAny_bind (wpAny_field Y rfl (x:= .bool false) rfl ?z1)
 case z1=>
 show wpAny _ _ (field (.ref I) 3>>=_) _ _ s
 refine wpAny_bind (wpAny_field Y rfl (x:= .ref TI) rfl (wpAny_bind (wpAny_seqItems a0 rfl ?z2)))
 case z2=>
 show wpAny _ _ (Builtin.SmallTypes.ownedTupleIsFree (.ref I)>>=_) _ _ s
 refine wpAny_bind (m:=Builtin.SmallTypes.ownedTupleIsFree (.ref I)) ?z3
 case z3=>
 unfold Builtin.SmallTypes.ownedTupleIsFree;refine wpAny_bind (wpAny_field Y rfl (x:= .none) rfl (wpAny_pure ?z4))
 case z4=>
 simp only [if_true];refine wpAny_bind (wpAny_rule (wpAny_bind (wpAny_field Y rfl (x:= .ref TO) rfl (wpAny_bind (wpAny_setField_rec Y (by simp) fun g1 (z1:IsZip g1 I TI TO .ellipsis) M=> ?z5)))))
 case z5=>
 refine wpAny_bind ?z6
 case z6=>
 simp only [forIn_cons,List.forIn_nil,List.zipIdx_cons,List.zipIdx_nil]
 refine wpAny_bind (wpAny_bind (wpAny_onRaise ?z7))
 case z7=>
 show wpAny _ _ (Builtin.SmallTypes.nextOf (.ref U)>>=_) _ _ { s with heap:=g1}
 cases hx:xs[k1]? with
 | none=>
   refine wpAny_bind (Wd hh (j1.ext M.extBut D.i1z) (a1.ext M.extBut D.l1z) hx fun g2 e O ⟨oe,z,J⟩=> ?_)
   have z2:IsZip g2 I TI TO .ellipsis:=O _ _ D.i1z.symm z1
   have ne:e≠I:=fun y=>by subst y;rw [z2]at z;cases z;simp at J
   exact wpAny_setField_rec z2 (by simp) fun g3 _ S=>c g3 e (fun b o Z _ c3 _ y=>S.extBut _ _ Z (O _ _ c3 (M.extBut _ _ Z y))) ⟨oe,S.extBut _ _ ne z,J⟩
 | some x=>
   have hy:ys[k2]? =none:=by
    rcases he with h | h
    . rw [hx]at h;cases h
    . exact h
   refine wpAny_bind (Aja (j1.ext M.extBut D.i1z) (a1.ext M.extBut D.l1z) hx fun g2 n1 O=>wpAny_pure ?_)
   have o2:IsPair g2 TO p q:=O.extBut _ _ D.TOi1 (M.extBut _ _ D.TOz a3)
   refine wpAny_bind (wpAny_seqItems o2 rfl (wpAny_bind (wpAny_updateSeq_pair o2 fun g3 o3 S=>wpAny_bind (wpAny_letGo (wpAny_pure (wpAny_bind (wpAny_bind (wpAny_onRaise ?z9))))))))
   case z9=>
   show wpAny _ _ (Builtin.SmallTypes.nextOf (.ref W)>>=_) _ _ { s with heap:=g3}
   refine wpAny_bind (Wd hh (((j2.ext M.extBut D.i2z).ext O.extBut D.i12.symm).ext S.extBut D.TOi2.symm) (((a2.ext M.extBut D.l2z).ext O.extBut D.l2i1).ext S.extBut D.l2TO) hy fun g4 e b4 ⟨oe,z,J⟩=> ?_)
   have z4:IsZip g4 I TI TO .ellipsis:=b4 _ _ D.i2z.symm (S.extBut _ _ D.TOz.symm (O.extBut _ _ D.i1z.symm z1))
   have ne:e≠I:=fun y=>by subst y;rw [z4]at z;cases z;simp at J
   exact wpAny_setField_rec z4 (by simp) fun g5 _ b5=>c g5 e (fun b o Z c2 c3 c4 y=>b5.extBut _ _ Z (b4 _ _ c4 (S.extBut _ _ c2 (O.extBut _ _ c3 (M.extBut _ _ Z y))))) ⟨oe,b5.extBut _ _ ne z,J⟩
theorem Ae4 {S U:Bool}{z TI TO I J M O:Addr}{k1 k2:Nat}{xs ys:Array Value}{x y p q:Value}{Q:Option Value->Shared->Prop} (D:ZipApart z TI TO I J M O)
 (Z:IsZip s.heap z TI TO .none) (W:IsPair s.heap TI (.ref I) (.ref J)) (Y:IsPair s.heap TO p q) (j1:It1 S s.heap I M k1) (j2:It1 U s.heap J O k2) (a1:Sq1 S s.heap M xs) (a2:Sq1 U s.heap O ys) (hx:xs[k1]? =some x) (hy:ys[k2]? =some y)
 (c:∀g,IsZip g z TI TO (rawInt s.heap.objs.size)->IsPair g TO x y->It1 S g I M (k1+1)->It1 U g J O (k2+1)->IsPair g s.heap.objs.size x y->g.objs.size=s.heap.objs.size+1->
   (∀b o,b≠z->b≠TO->b≠I->b≠J->s.heap.get? b=some o->g.get? b=some o)->Q (some (.ref s.heap.objs.size)) { s with heap:=g}):wpAny (model prog w) A (pyNext (.ref z)) Q E s:=by
 have ty:s.TypeIs (.ref z) "zip":=⟨_,Z,rfl⟩
 unfold pyNext
 exact wpAny_bind (wpAny_attempt (wpAny_callSpecial?_slot (name:=Str.ofString "__next__") ty F.slot_zip_next (wpAny_call_entry F.slot_zip_next ty F.entry_zip_next
  (Ae3 D Z W Y j1 j2 a1 a2 hx hy fun g b1 b2 b3 b4 b5 b6 b7=>wpAny_pure (c g b1 b2 b3 b4 b5 b6 b7)) (F.args_zip_next_1 _))))
theorem Ae5 {W Y:Bool}{z TI TO I J M O:Addr}{k1 k2:Nat}{xs ys:Array Value}{p q:Value}{Q:Option Value->Shared->Prop} (hh:A.handled=none) (D:ZipApart z TI TO I J M O)
 (Z:IsZip s.heap z TI TO .none) (S:IsPair s.heap TI (.ref I) (.ref J)) (U:IsPair s.heap TO p q) (j1:It1 W s.heap I M k1) (j2:It1 Y s.heap J O k2) (a1:Sq1 W s.heap M xs) (a2:Sq1 Y s.heap O ys) (he:xs[k1]? =none\/ys[k2]? =none)
 (c:∀g,(∀b o,b≠z->b≠TO->b≠I->b≠J->s.heap.get? b=some o->g.get? b=some o)->Q none { s with heap:=g}):wpAny (model prog w) A (pyNext (.ref z)) Q E s:=by
 have ty:s.TypeIs (.ref z) "zip":=⟨_,Z,rfl⟩
 unfold pyNext
 refine wpAny_bind (wpAny_attempt (wpAny_callSpecial?_slot (name:=Str.ofString "__next__") ty F.slot_zip_next (wpAny_call_entry F.slot_zip_next ty F.entry_zip_next (Ag0 hh D Z S U j1 j2 a1 a2 he fun g e hk ⟨o,ho,hc⟩=> ?_) (F.args_zip_next_1 _))))
 exact wpAny_bind (wpAny_isInstance (T:="StopIteration") (b:=true) ⟨o,ho,hc⟩ isSubtype_stop (wpAny_pure (c _ hk)))
end
noncomputable def Alm (t:Bool):String:=if t=true then "tuple_iterator" else "list_iterator"
noncomputable abbrev Xq (t:Bool) (u:Addr):Obj:={ cls:= .type (Alm t),data:= .fields #[.ref u,.int 0 0]}
theorem iter1 {prog:Program}{w:World}{A:Around}{E:Value->Shared->Prop}{s:Shared}{t:Bool}{u:Addr}{xs:Array Value}{Q:Value->Shared->Prop} (h:Sq1 t s.heap u xs) (q:Q (.ref s.heap.objs.size) { s with heap:=s.heap.push (Xq t u)}):wpAny (model prog w) A (pyIter (.ref u)) Q E s:=by
 cases t
 . exact wpAny_pyIter_list h q
 . exact wpAny_pyIter_tuple h q
theorem Acu {t:Bool}{u j:Addr}{g:Heap} (e:g.get? j=some (Xq t u)):It1 t g j u 0:=by
 cases t
 . exact⟨_,e,rfl,rfl⟩
 . exact⟨_,e,rfl,rfl⟩
theorem Sq1.push {t:Bool}{h:Heap}{u:Addr}{xs:Array Value} (x:Sq1 t h u xs) (o:Obj):Sq1 t (h.push o) u xs:=by
 cases t
 . exact Heap.IsList.push x _
 . obtain⟨z,e,r⟩:=(show h.IsTuple u xs from x)
   exact⟨z,Heap.get?_push_of_some _ e,r⟩
noncomputable abbrev zA1 (t1:Bool) (h:Heap) (u1:Addr):Heap:=h.push (Xq t1 u1)
noncomputable abbrev zA2 (t1 t2:Bool) (h:Heap) (u1 u2:Addr):Heap:=(zA1 t1 h u1).push (Xq t2 u2)
noncomputable abbrev zA3 (t1 t2:Bool) (h:Heap) (u1 u2:Addr):Heap:=(zA2 t1 t2 h u1 u2).push { cls:= .type "tuple",data:= .seq #[.ref h.objs.size,.ref (zA1 t1 h u1).objs.size]}
noncomputable abbrev zA4 (t1 t2:Bool) (h:Heap) (u1 u2:Addr):Heap:=(zA3 t1 t2 h u1 u2).push { cls:= .type "tuple",data:= .seq #[.none,.none]}
noncomputable abbrev zA5 (t1 t2:Bool) (h:Heap) (u1 u2:Addr):Heap:=(zA4 t1 t2 h u1 u2).push { cls:= .type "zip",data:= .fields #[.none,.bool false,.bool false,.ref (zA2 t1 t2 h u1 u2).objs.size,.ref (zA3 t1 t2 h u1 u2).objs.size]}
theorem Aam (I M:Bool) (z J:Addr) (xs ys:Array Value):
 Meets (Builtin.«zip.__new__» ⟨[.type "zip",.ref z,.ref J],[]⟩) (fun _ R s=>Sq1 I s.heap z xs/\Sq1 M s.heap J ys/\R (.ok (.ret (.ref (zA4 I M s.heap z J).objs.size))) { s with heap:=zA5 I M s.heap z J}):=
 .of_wp fun prog w A R s h=>by
  obtain⟨O,g,d,tk,S⟩:=s;obtain⟨U,W,h⟩:=h
  have su:=sub_zip
  have Y:Sq1 I (Shared.heap ⟨O,g,d,tk,S⟩) z xs:=U
  have Z:Sq1 M (Shared.heap ⟨O.push (Xq I z),g,d,tk,S⟩) J ys:=W.push _
  wp_walk using iter1 Y,iter1 Z
  exact⟨_,rfl,h⟩
theorem Abz {prog:Program}{w:World}{A:Around}{E:Value->Shared->Prop}{s:Shared}{I M:Bool}{z J:Addr}{xs ys:Array Value}{Q:Value->Shared->Prop} (b1:Sq1 I s.heap z xs) (b2:Sq1 M s.heap J ys)
 (c:∀g,IsZip g (s.heap.objs.size+4) (s.heap.objs.size+2) (s.heap.objs.size+3) .none->IsPair g (s.heap.objs.size+2) (.ref s.heap.objs.size) (.ref (s.heap.objs.size+1))->IsPair g (s.heap.objs.size+3) .none .none->
   It1 I g s.heap.objs.size z 0->It1 M g (s.heap.objs.size+1) J 0->(∀b o,s.heap.get? b=some o->g.get? b=some o)->Q (.ref (s.heap.objs.size+4)) { s with heap:=g}):wpAny (model prog w) A (call (.type "zip") [.ref z,.ref J]) Q E s:=by
 refine callType_new F.called_zip (by decide) (F.typeCall_zip_2 _ _) (F.newCall_zip_2 _ _) (fun obj=>F.args_object_init_3 obj _ _) F.entry_zip_new (Aam I M z J xs ys) ⟨b1,b2,?_⟩
 have O:(zA1 I s.heap z).objs.size=s.heap.objs.size+1:=Heap.size_push ..
 have S:(zA2 I M s.heap z J).objs.size=s.heap.objs.size+2:=by rw [Heap.size_push,O]
 have U:(zA3 I M s.heap z J).objs.size=s.heap.objs.size+3:=by rw [Heap.size_push,S]
 have Y:(zA4 I M s.heap z J).objs.size=s.heap.objs.size+4:=by rw [Heap.size_push,U]
 have W:(zA5 I M s.heap z J).get? (zA4 I M s.heap z J).objs.size=some _:=Heap.get?_push_size _ rfl
 have Z:(zA5 I M s.heap z J).get? (zA3 I M s.heap z J).objs.size=some _:=Heap.get?_push_of_some _ (Heap.get?_push_size _ rfl)
 have e3:(zA5 I M s.heap z J).get? (zA2 I M s.heap z J).objs.size=some _:=Heap.get?_push_of_some _ (Heap.get?_push_of_some _ (Heap.get?_push_size _ rfl))
 have e2:(zA5 I M s.heap z J).get? (zA1 I s.heap z).objs.size=some (Xq M J):=Heap.get?_push_of_some _ (Heap.get?_push_of_some _ (Heap.get?_push_of_some _ (Heap.get?_push_size _ rfl)))
 have e1:(zA5 I M s.heap z J).get? s.heap.objs.size=some (Xq I z):=Heap.get?_push_of_some _ (Heap.get?_push_of_some _ (Heap.get?_push_of_some _ (Heap.get?_push_of_some _ (Heap.get?_push_size _ rfl))))
 show _/\_
 rw [S,U,Y]at W
 rw [O,S]at e3
 rw [U]at Z
 rw [O]at e2
 rw [Y]
 exact⟨⟨_,W,rfl⟩,c _ W e3 Z (Acu e1) (Acu e2) fun b o x=>Heap.get?_push_of_some _ (Heap.get?_push_of_some _ (Heap.get?_push_of_some _ (Heap.get?_push_of_some _ (Heap.get?_push_of_some _ x))))⟩
noncomputable def SqB (t:Bool) (K:Frag) (H:Hp) (a:Addr) (xs:List V):Prop:=if t=true then SqT K H a xs else SqL K H a xs
theorem Inv.sqB {X:Cx}{pins:List (Addr × Obj)}{σ:St}{H:Hp}{s:Shared}{t:Bool}{a:Addr}{xs:List V} (I:Inv X pins σ H s) (h:SqB t X.K H a xs):∃z:List Value,Vals xs z/\Sq1 t s.heap a z.toArray:=by
 cases t
 . obtain⟨z,r,p,_⟩:=I.list h
   exact⟨z,r,p.isList⟩
 . obtain⟨z,r,p,_⟩:=I.tuple h
   exact⟨z,r,p⟩
theorem Inv.sqB_inj {X:Cx}{pins:List (Addr × Obj)}{σ:St}{H:Hp}{s:Shared}{t:Bool}{a:Addr}{xs ys:List V} (I:Inv X pins σ H s) (h:SqB t X.K H a xs) (h':SqB t X.K H a ys):xs=ys:=by
 cases t
 . exact I.list_inj h h'
 . exact I.tuple_inj h h'
noncomputable def An5 (t1 t2:Bool) (K:Frag) (a b:Addr):It:=
 ⟨fun i H=>∃xs ys x y,SqB t1 K H a xs/\SqB t2 K H b ys/\xs[i]? =some x/\ys[i]? =some y,
  fun i H x H'=>∃p u v,(∀xs,SqB t1 K H a xs->xs[i]? =some u)/\(∀ys,SqB t2 K H b ys->ys[i]? =some v)/\H p=none/\x= .ref p/\H'=upd H p (.tup [u,v]),
  fun i H=>∃xs ys,SqB t1 K H a xs/\SqB t2 K H b ys/\(xs.length<=i\/ys.length<=i)⟩
theorem Aey {P:Program}{w:World}{K:Frag}{el:List Expr}{x1}{tp:Pos} (t1 t2:Bool) (a b z TI TO Y Z:Addr) (D:ZipApart z TI TO Y Z a b):
 Turn P w K (.Tuple el x1 tp) (An5 t1 t2 K a b) [z,TI,TO,Y,Z] z (fun i h=>IsZip h z TI TO .none/\IsPair h TI (.ref Y) (.ref Z)/\(∃c d,IsPair h TO c d)/\It1 t1 h Y a i/\It1 t2 h Z b i) where
 mem:=by simp
 obj:=fun i h st c hc=>by
  obtain⟨U,J,⟨u,v,O⟩,h1,h2⟩:=st
  simp only [mem_cons,not_mem_nil,or_false]at hc
  rcases hc with rfl | rfl | rfl | rfl | rfl
  . exact⟨_,U,fun v z=>by cases(show Data.fields _=Data.cell v from z)⟩
  . exact⟨_,J,fun v z=>by cases(show Data.seq _ _=Data.cell v from z)⟩
  . exact⟨_,O,fun v z=>by cases(show Data.seq _ _=Data.cell v from z)⟩
  . exact h1.there
  . exact h2.there
 keep:=fun i h h' st k=>by
  obtain⟨U,J,⟨u,v,O⟩,h1,h2⟩:=st
  exact⟨k z (by simp) _ U,k TI (by simp) _ J,⟨u,v,k TO (by simp) _ O⟩,h1.to fun o e=>k Y (by simp) _ e,h2.to fun o e=>k Z (by simp) _ e⟩
 item:=by
  intro X hP hw hK hc i pins s σ H E I hf st hg
  subst hP hw hK
  obtain⟨xs,ys,x,y,a0,a7,hx,hy⟩:=hg
  obtain⟨ab,rv,p⟩:=I.sqB a0
  obtain⟨a9,a8,p2⟩:=I.sqB a7
  obtain⟨u,hu,ru⟩:=rv.get hx
  obtain⟨v,hv,ac⟩:=a8.get hy
  obtain⟨U,J,⟨c,d,O⟩,h1,h2⟩:=st
  refine Ae4 D U J O h1 h2 p p2 (x:=u) (y:=v) (by simpa using hu) (by simpa using hv) fun g a1 a2 a3 a4 a5 a6 hk=>⟨_,rfl,?_⟩
  refine wpAny_letOwnedTupleGo_zip a1 fun g2 ad S=> ?_
  replace S:Heap.SameBut z g g2:=S
  have lt:∀b∈ [z,TI,TO,Y,Z],b≠s.heap.objs.size:=fun b M=>by
   obtain⟨o1,e1,_⟩:=h1.there
   obtain⟨o2,e2,_⟩:=h2.there
   simp only [mem_cons,not_mem_nil,or_false]at M
   rcases M with rfl | rfl | rfl | rfl | rfl
   . exact ne_of_lt (Heap.lt_size U)
   . exact ne_of_lt (Heap.lt_size J)
   . exact ne_of_lt (Heap.lt_size O)
   . exact ne_of_lt (Heap.lt_size e1)
   . exact ne_of_lt (Heap.lt_size e2)
  have hn:H s.heap.objs.size=none:=I.fresh
  have I1:Inv X pins σ (upd H s.heap.objs.size (.tup [x,y])) { s with heap:=s.heap.push { cls:= .type "tuple",data:= .seq #[u,v]},toks:=s.toks}:=
   I.laid (fun b o q=>Heap.get?_push_of_some _ q) (le_refl _) ⟨by show 2<=sizeLine;decide,[u,v],.cons ru (.cons ac .nil),⟨_,Heap.get?_push_size _ rfl,rfl,_,rfl⟩⟩
  have aa:∀b∈ [z,TI,TO,Y,Z],Xb X pins (upd H s.heap.objs.size (.tup [x,y])) b:=fun b M=>
   ⟨by rw [Cu (lt b M)];exact(hf b M).1,(hf b M).2⟩
  have I2:=I1.turnL (h':=g2) (t':=s.toks) (fp:=[z,TI,TO,Y,Z]) (fun b o M q=>by
   have n1:b≠z:=fun e=>M (by simp [e])
   refine(S.2 b n1).trans ?_
   rcases Heap.get?_push_cases q with⟨rfl,rfl⟩ | q0
   . exact a5
   . exact hk b o n1 (fun e=>M (by simp [e])) (fun e=>M (by simp [e])) (fun e=>M (by simp [e])) q0) aa
  refine⟨.ref s.heap.objs.size,_,I2,rfl,⟨_,x,y,fun zs U=>by rw [I.sqB_inj U a0];exact hx,fun zs U=>by rw [I.sqB_inj U a7];exact hy,hn,rfl,rfl⟩,⟨ad,?_,⟨u,v,S.extBut _ _ D.TOz a2⟩,a3.ext S.extBut D.i1z,a4.ext S.extBut D.i2z⟩,fun b M=>(aa b M).1⟩
  exact S.extBut _ _ D.TIz (hk _ _ D.TIz D.TITO D.TIi1 D.TIi2 J)
 done:=by
  intro X hP hw hK hc i pins s σ H E I hf st hg
  subst hP hw hK
  obtain⟨xs,ys,a0,a7,ae⟩:=hg
  obtain⟨ab,rv,p⟩:=I.sqB a0
  obtain⟨a9,a8,p2⟩:=I.sqB a7
  obtain⟨U,J,⟨c,d,O⟩,h1,h2⟩:=st
  have l1:=rv.length
  have l2:=a8.length
  exact Ae5 (I.ok.hd hc) D U J O h1 h2 p p2 (by
   rcases ae with h | h
   . exact .inl (by simp;omega)
   . exact .inr (by simp;omega)) fun g hk=>⟨rfl,I.turnL (t':=s.toks) (fp:=[z,TI,TO,Y,Z]) (fun b o M q=>hk b o (fun e=>M (by simp [e])) (fun e=>M (by simp [e])) (fun e=>M (by simp [e])) (fun e=>M (by simp [e])) q) hf⟩
 self:=fun _ _ _ _ _ st h=>wpAny_pyIter_zip st.1 h
section
variable {X:Cx}{a b:Expr}{ta:TA}{el:List Expr}{x1}{tp p pos:Pos}
noncomputable def Ai0 (t1 t2:Bool) (K:Frag) (ta:TA):TI:=fun σ H R=>ta σ H fun vs H1=>∃a b,vs=[.ref a,.ref b]/\(∃xs,SqB t1 K H1 a xs)/\(∃ys,SqB t2 K H1 b ys)/\R (An5 t1 t2 K a b) H1
theorem Yk (U W:Bool) (hg:Gl X "zip") (hm:X.mg "zip"=none) (ha:PA X [a,b] ta) (hs:starEach [a,b] X.env=[(false,eval a X.env),(false,eval b X.env)]:=by rfl) (J:starEach [b] X.env=[(false,eval b X.env)]:=by rfl):
 PI X (.Tuple el x1 tp) (.Call (.Name "zip" p) [a,b] [] pos) (Ai0 U W X.K ta):=by
 intro pins s σ H R I h
 refine Call_ (Qa I hg hm boot_zip (PyProof.Rows.callWith_type1 (thn (ha pos pins s σ H _ I h) fun us z ⟨vs,H1,M,Y,q1⟩=> ?_) (by rw [hs,J]) (by rw [J];rfl)))
 obtain⟨u,v,rfl,⟨xs,Z⟩,⟨ys,a0⟩,q⟩:=q1
 obtain⟨v1,v2,rfl,Y,r2⟩:=vals2 Y
 cases Y
 cases r2
 obtain⟨a8,rx,px⟩:=M.sqB Z
 obtain⟨a7,ry,py⟩:=M.sqB a0
 have a1:u<z.heap.objs.size:=by
  cases U
  . obtain⟨o,e,_⟩:=(show z.heap.IsList u _ from px)
    exact Heap.lt_size e
  . obtain⟨o,e,_⟩:=(show z.heap.IsTuple u _ from px)
    exact Heap.lt_size e
 have a2:v<z.heap.objs.size:=by
  cases W
  . obtain⟨o,e,_⟩:=(show z.heap.IsList v _ from py)
    exact Heap.lt_size e
  . obtain⟨o,e,_⟩:=(show z.heap.IsTuple v _ from py)
    exact Heap.lt_size e
 refine Abz px py fun h' hz a3 a4 a5 a6 hk=> ?_
 have I2:Inv X pins σ H1 { z with heap:=h'}:=M.kept (t':=z.toks) fun c o' e=>hk c o' e
 refine wpAny_pyIter_zip hz ⟨z.heap.objs.size+4,[z.heap.objs.size+4,z.heap.objs.size+2,z.heap.objs.size+3,z.heap.objs.size,z.heap.objs.size+1],_,_,H1,rfl,I2,Aey U W u v _ _ _ _ _ (zipApart_new a1 a2),⟨hz,a3,⟨_,_,a4⟩,a5,a6⟩,fun c O=> ?_,q⟩
 have S:z.heap.objs.size<=c:=by
  simp only [mem_cons,not_mem_nil,or_false]at O
  rcases O with rfl | rfl | rfl | rfl | rfl
  . exact le_add_right _ 4
  . exact le_add_right _ 2
  . exact le_add_right _ 3
  . exact le_refl _
  . exact le_add_right _ 1
 exact M.fpOk S (M.hok.fresh S)
end
theorem Akn {z I:Bool}{K:Frag}{ta:TA}{σ:St}{H:Hp}{R:It->Hp->Prop}:Ai0 z I K ta σ H R=ta σ H (fun J H1=>∃a b,J=[.ref a,.ref b]/\(∃xs,SqB z K H1 a xs)/\(∃ys,SqB I K H1 b ys)/\R (An5 z I K a b) H1):=rfl
theorem Aiu {O S:Bool}{K:Frag}{σ:St}{H:Hp}{g:TG}{tb:TS}{D:Ends}{a b:Addr}{xs ys:List V} (n:Nat) (hn:n=min xs.length ys.length) (z:Nat->St->Hp->Prop) (h0:z 0 σ H)
 (hw:∀i σ H,z i σ H->SqB O K H a xs/\SqB S K H b ys)
 (hs:∀i σ H p,i<n->z i σ H->H p=none->g (.ref p) σ (upd H p (.tup [xs.getD i .non,ys.getD i .non])) fun I H2=>tb { D with nx:=z (i+1),ct:=z (i+1),bk:=D.nx} I H2) (hd:∀σ H,z n σ H->D.nx σ H):FI (An5 O S K a b) g tb D σ H:=by
 refine⟨fun i m σ H=>m=n-i/\i<=n/\z i σ H,⟨n,by simp,zero_le _,h0⟩,?_⟩
 rintro i m σ H ⟨rfl,hi,p⟩
 obtain⟨J,M⟩:=hw _ _ _ p
 by_cases he:i=n
 . subst he
   exact .inl ⟨⟨xs,ys,J,M,by omega⟩,hd _ _ p⟩
 . have U:i<n:=by omega
   have ex:xs[i]? =some (xs.getD i .non):=by rw [getD_eq_getElem?_getD,getElem?_eq_getElem (by omega)];rfl
   have Y:ys[i]? =some (ys.getD i .non):=by rw [getD_eq_getElem?_getD,getElem?_eq_getElem (by omega)];rfl
   refine .inr ⟨⟨xs,ys,_,_,J,M,ex,Y⟩,z (i+1),fun a0 H' p'=>⟨n-(i+1),by omega,rfl,U,p'⟩,fun x H3 y=> ?_⟩
   obtain⟨q,u,v,hu,hv,hq,rfl,rfl⟩:=y
   have Z:=hu _ J
   have ev:=hv _ M
   rw [ex]at Z
   rw [Y]at ev
   cases Z
   cases ev
   exact hs i σ H q U p hq
set_option maxRecDepth 100000
noncomputable abbrev TB:=St->Hp->(St->Hp->Prop)->XK->Prop
end L2
namespace L2
open PySem PySem.Spec PyProof.Rows
section
variable {κ:Type} [DecidableEq κ]
noncomputable def Abl (kvs:List (κ × V)) (k:κ):Option V:=(kvs.find? fun kv=>decide (kv.1=k)).map (·.2)
noncomputable def putK (kvs:List (κ × V)) (k:κ) (v:V):List (κ × V):=
 if(kvs.any fun kv=>decide (kv.1=k))=true then kvs.map (fun kv=>if kv.1=k then(kv.1,v)else kv)else kvs++ [(k,v)]
noncomputable def Ak2 (kvs:List (κ × V)) (k:κ):List (κ × V):=kvs.filter fun kv=>decide (kv.1≠k)
theorem Vw {p:κ × V}{r:List (κ × V)}{k:κ} (e:p.1=k):Abl (p::r) k=some p.2:=by simp [Abl,find?_cons,e]
theorem KV.length {z:List (κ × V)}{I:List (κ × Value)} (r:KV z I):z.length=I.length:=Paired.length r
end
noncomputable abbrev KT (H:Hp):List (List Key × V)->List (List Key × Addr × Value)->Prop:=Paired fun p q=>p.1=q.1/\H q.2.1=some (.tup (p.1.map kV))/\RelV p.2 q.2.2
noncomputable def An3 (H:Hp) (a:Addr) (y:V) (r:Option V):Prop:=
 (∃kvs k,Rd H a (.dK kvs)/\y=kV k/\r=Abl kvs k)\/∃kvs k b,Rd H a (.dT kvs)/\y= .ref b/\H b=some (.tup (k.map kV))/\r=Abl kvs k
noncomputable def An4 (H:Hp) (a:Addr) (y v:V) (H':Hp):Prop:=
 (∃kvs k,H a=some (.dK kvs)/\y=kV k/\kvs.length<sizeLine/\H'=upd H a (.dK (putK kvs k v)))\/
 ∃kvs k b,H a=some (.dT kvs)/\y= .ref b/\H b=some (.tup (k.map kV))/\kvs.length<sizeLine/\H'=upd H a (.dT (putK kvs k v))
theorem An3.t {H:Hp}{a b:Addr}{z:List (List Key × V)}{k:List Key} (e:H a=some (.dT z)) (I:H b=some (.tup (k.map kV))):An3 H a (.ref b) (Abl z k):= .inr ⟨z,k,b,.inl e,rfl,I,rfl⟩
theorem An4.t {H:Hp}{a b:Addr}{z:List (List Key × V)}{k:List Key}{v:V} (e:H a=some (.dT z)) (I:H b=some (.tup (k.map kV))) (J:z.length<sizeLine):
 An4 H a (.ref b) v (upd H a (.dT (putK z k v))):= .inr ⟨z,k,b,e,rfl,I,J,rfl⟩
section
variable {X:Cx}{pins:List (Addr × Obj)}{σ:St}{H:Hp}{s:Shared}{a:Addr}{y v:V}{u r:Value}{o:Option V}{A:Around}{E:Value->Shared->Prop}
end
structure M1 (X:Cx) (o:Expr) (m:Str) (apos:Pos) (e:Expr) (cpos:Pos):Prop where
 base:attributeBase o m X.env (eval o X.env)=eval o X.env
 few:((backTo cpos (starEach [e] X.env)).all (fun x=> !x.1)&&(backToKw cpos (keywordEach [] X.env)).all (fun x=>x.1.isSome)
  &&decide (([e]:List Expr).length+([]:List Keyword).length+(if([]:List Keyword).isEmpty then 0 else 1)<30))=true
 line:(apos.endLine==cpos.line)=true
 trees:backTo cpos (starEach [e] X.env)=[(false,eval e X.env)]
structure M2 (X:Cx) (o:Expr) (m:Str) (apos:Pos) (e f:Expr) (cpos:Pos):Prop where
 base:attributeBase o m X.env (eval o X.env)=eval o X.env
 few:((backTo cpos (starEach [e,f] X.env)).all (fun x=> !x.1)&&(backToKw cpos (keywordEach [] X.env)).all (fun x=>x.1.isSome)
  &&decide (([e,f]:List Expr).length+([]:List Keyword).length+(if([]:List Keyword).isEmpty then 0 else 1)<30))=true
 line:(apos.endLine==cpos.line)=true
 trees:backTo cpos (starEach [e,f] X.env)=[(false,eval e X.env),(false,eval f X.env)]
open PySem PySem.W PyProof.Rows
structure LO (n:Nat) (lt:Nat->Nat->Bool):Prop where
 tri:∀i j,i<n->j<n->i≠j->lt i j= !lt j i
 trans:∀i j k,i<n->j<n->k<n->lt i j=true->lt j k=true->lt i k=true
noncomputable def KOk {α:Type} (lt:Nat->Nat->Bool) (n:Nat):KasT α->(α->Prop)->Prop
 | .ret a,P=>P a
 | .ask i j k,P=>i<n/\j<n/\i≠j/\KOk lt n (k (lt i j)) P
noncomputable def aT (p:Array Nat) (i:Nat):Nat:=p.getD i 0
structure PM (n:Nat) (p:Array Nat):Prop where
 sz:p.size=n
 lt:∀i,i<n->aT p i<n
 ne:∀i j,i<n->j<n->i≠j->aT p i≠aT p j
 pm:p.toList.Perm (List.range n)
theorem PM.of {n:Nat}{p:Array Nat} (h:p.toList.Perm (List.range n)):PM n p:=by
 have sz:p.size=n:=by
  have:=h.length_eq
  simpa using this
 have M:p.toList.Nodup:=h.nodup_iff.mpr List.nodup_range
 refine⟨sz,fun i hi=> ?_,fun i j hi W O e=> ?_,h⟩
 . have z:i<p.size:=by omega
   have e:aT p i=p[i]:=by simp [aT,z]
   have m:p[i]∈p.toList:=by simp
   rw [e]
   exact mem_range.mp (h.mem_iff.mp m)
 . have z:i<p.toList.length:=by rw [Array.length_toList];omega
   have I:j<p.toList.length:=by rw [Array.length_toList];omega
   have S:aT p i=p.toList[i]:=by simp [aT,show i<p.size by omega]
   have U:aT p j=p.toList[j]:=by simp [aT,show j<p.size by omega]
   have pw:=List.pairwise_iff_getElem.mp M
   have J:p.toList[i]=p.toList[j]:=by rw [<-S,<-U,e]
   rcases Nat.lt_or_gt_of_ne O with l | l
   . exact pw i j z I l J
   . exact pw j i I z l J.symm
theorem PM.start (n:Nat):PM n (List.toArray (List.range n)):=PM.of (by simp)
open PySem PySem.Spec PySem.Calls PyProof.Rows PySem.W
noncomputable abbrev Prt:=Addr × Addr × List Int × V
noncomputable def Prt.ks (t:Prt):List Int:=t.2.2.1
structure Aqj (K:Frag) (H:Hp) (t:Prt):Prop where
 pr:SqT K H t.1 [.ref t.2.1,t.2.2.2]
 tu:SqT K H t.2.1 (t.ks.map V.int)
structure An6 (P:Program) (w:World) (h:Heap) (t:Prt):Prop where
 pr:∃o xs n u,h.get? t.1=some o/\o.cls= .type "tuple"/\o.data= .seq xs n/\xs.toList=[.ref t.2.1,u]
 tu:∃its:List Value,IsTup h t.2.1 its.toArray/\IntsAre its t.ks
structure M0 (X:Cx) (o:Expr) (m:Str) (apos cpos:Pos):Prop where
 base:attributeBase o m X.env (eval o X.env)=eval o X.env
 few:((backTo cpos (starEach [] X.env)).all (fun x=> !x.1)&&(backToKw cpos (keywordEach [] X.env)).all (fun x=>x.1.isSome)
  &&decide (([]:List Expr).length+([]:List Keyword).length+(if([]:List Keyword).isEmpty then 0 else 1)<30))=true
 line:(apos.endLine==cpos.line)=true
 trees:backTo cpos (starEach [] X.env)=[]
noncomputable abbrev Tpt:=Addr × List Int
structure Aof (h:Heap) (t:Tpt):Prop where
 tu:∃its:List Value,IsTup h t.1 its.toArray/\IntsAre its t.2
set_option maxRecDepth 100000
end L2
namespace L2
open PySem PySem.Spec PyProof.Rows
structure Vz (X:Cx) (ts:List Str) (fs:List (Nat × Str)) (scope:Scope):Prop where
 kind:scope.kind= .function
 names:∀y∈scope.names,y.2= .local ->scope.names.lookup y.1=some .local
 free:∀y∈scope.names,y.2= .free->X.env.kindOf y.1=some .cell\/X.env.kindOf y.1=some .free
 at':∀p∈fs,X.N[p.1]? =some p.2/\(p.2,NameKind.free)∈scope.names/\((relabel scope X.env).names.lookup p.2=some .cell\/(relabel scope X.env).names.lookup p.2=some .free)/\¬(p.2,NameKind.cell)∈scope.names
noncomputable def Aqk (sc:Scope) (N:List Str) (fs:List (Nat × Str)) (scope:Scope):Bool:=
 (scope.kind== .function)&&(scope.names.all fun y=>y.2 != .local ||scope.names.lookup y.1==some .local)&&
 (scope.names.all fun y=>y.2 != .free||(sc.names.lookup y.1==some .cell||sc.names.lookup y.1==some .free))&&
 fs.all fun p=>N[p.1]? ==some p.2&&(scope.names.contains (p.2,NameKind.free)&&(((rlb sc scope).lookup p.2==some .cell||(rlb sc scope).lookup p.2==some .free)&& !scope.names.contains (p.2,NameKind.cell)))
section
variable {X:Cx}{elt tg iter:Expr}{ifs:List Expr}{scope:Scope}{pos:Pos}{wi:TI}{g:TG}{tt:TT}{te:TE}{ts:List Str}{fs:List (Nat × Str)}
end
structure Pyl (P:Program) (base:Heap):Prop where
 seer:base.NoSeer
 tree:P.given.tree=none
theorem Mz.far {k:Nat}{A:Around} (r:Mz k A) (h:32<=k):A.depth+Builtin.pylongFrames<recursionLimit:=by
 have h1:=r.dp
 have h2:Builtin.pylongFrames=100:=rfl
 omega
section
variable {X:Cx}{env:Env}{l:List Env}
theorem Agg {pins:List (Addr × Obj)}{σ:St}{H:Hp}{s:Shared} (z:Pyl X.prog X.base) (J:X.A.depth+Builtin.pylongFrames<recursionLimit) (M:X.stack=env::l) (h1:env.scope.isGenerator=false) (h2:env.scope.isCoroutine=false) (O:env.builtins=builtinsNs) (S:env.globals=mainGlobals)
 (I:Inv X pins σ H s):PylongRoom (model X.prog X.w) X.A s:=by
 refine PylongRoom.of I.nolimit J (SeerAt.of (l:=l) (z.seer.keeps I.bk) z.tree ?_ h1 h2 O S)
 rw [I.ok.frames,M]
theorem Mi (z:Pyl X.prog X.base) (J:X.A.depth+Builtin.pylongFrames<recursionLimit) (M:X.stack=env::l) (h1:env.scope.isGenerator=false) (h2:env.scope.isCoroutine=false) (O:env.builtins=builtinsNs) (S:env.globals=mainGlobals):
 OpR X (binaryOp .FloorDiv) (rI (fun _ j=>j≠0) fun i j=> .int (i.fdiv j)):=by
 intro pins s σ H x y v u Q I U W h
 obtain⟨i,j,rfl,rfl,Y,q⟩:=h
 obtain⟨t,rfl⟩:=U
 obtain⟨Z,rfl⟩:=W
 exact floordiv_int Y ⟨.int (i.fdiv j),H,I.tok _,⟨_,rfl⟩,q⟩ (.inr (Agg z J M h1 h2 O S I))
end
theorem Agk {h:Heap}{H:Hp}{a:Addr}{O:List Value} (M:h.NoSeer) (U:h.get? a=some { cls:= .type "list",data:= .seq O.toArray}) (W:∀b,H b≠none->b=a):(Abj h H).NoSeer:=by
 have I:∀ {b o},h.get? b=some o->o.cls≠ .type "list"\/(∃es J,o.data=Data.dict es J)->(Abj h H).get? b=some o:=fun {b o} e z=>by
  refine Zf e ?_
  cases q:H b with
  | none=>rfl
  | some u=>
    obtain rfl:b=a:=W b (by rw [q];simp)
    rw [U]at e
    cases e
    rcases z with z | ⟨es,J,z⟩
    . exact absurd rfl z
    . cases(show Data.seq O.toArray _=Data.dict es J from z)
 have ns:∀ {b m},h.Ns b m->(Abj h H).Ns b m:=fun {b m} ⟨o,es,J,e,d,r⟩=>⟨o,es,J,I e (.inr ⟨es,J,d⟩),d,r⟩
 obtain⟨⟨Y,Z,b1⟩,⟨m2,a2,b2⟩,⟨m3,a3,b3⟩,⟨m4,bm,ob,a4,b4,c4,S,e4⟩⟩:=M
 exact⟨⟨Y,ns Z,b1⟩,⟨m2,ns a2,b2⟩,⟨m3,ns a3,b3⟩,⟨m4,bm,ob,ns a4,b4,I c4 (.inl (by rw [S];decide)),S,e4⟩⟩
theorem Acy {P:Program}{w:World}{K:Frag}{mg mb:Str->Option Value}{k:Nat}{fa a:Addr}{fd:FuncData}{x:Str}{sp:Sp}{I:Shared}{S:List Value}{ns:List Int}
 (KX:K.In I.heap) (U:I.heap.Ns mainGlobals mg) (hb:I.heap.Ns builtinsNs mb) (a3:∀x:Str,x≠"__name__"->mb x=bootBuiltins x) (Y:I.heap.NoLimit) (a4:I.heap.NoSeer) (hg:I.gens= #[])
 (Z:I.heap.get? a=some { cls:= .type "list",data:= .seq S.toArray}) (hi:IntsAre S ns) (hl:ns.length<=sizeLine) (hr:Mz k callerA)
 (F:∀base:Heap,K.In base->base.Ns mainGlobals mg->base.NoSeer->Ti P w K mg base CX0 k fa fd [x] sp) (O:∀(s:Shared) (u:Value),BindsTo s fd ⟨[u],[]⟩ [(x,u)])
 (a5:∀H:Hp,SqL K H a (ns.map V.int)->sp [.ref a] H (fun v _=>v= .bl true) fun _ _ _=>False)
 (a6:∀H e s',CX0 [] H I (fun _ _ _=>False) e s'->False):
 codeAny (model P w) callerA (.call (.ref fa) ⟨[.ref a],[]⟩) (fun r s'=>r= .ok (.ret (.bool true))/\OldK I.heap s'.heap/\s'.os=I.os/\AllBare s'.gens) I:=by
 have rv:=Xa hi
 have ln:=hi.length
 obtain⟨H,hO,hS,a0,hA,hK⟩:∃H:Hp,Only H/\SqL K H a (ns.map V.int)/\HOk P w H I.heap/\(∀b,H b≠none->b=a)/\(H a≠none->K.lookup a=none):=by
  cases hk:K.lookup a with
  | some o=>
    have e:=KX a o hk
    rw [Z]at e
    cases e
    exact⟨fun _=>none,fun _=> .inl rfl,.inr ⟨_,S.toArray,_,hk,rfl,rfl,rfl,by rw [size_toArray,ln];exact hl,by simpa using rv⟩,by intro b u z;exact(nomatch (show(none:Option HO)=some u from z)),fun b z=>absurd rfl z,fun z=>absurd rfl z⟩
  | none=>
    refine⟨upd (fun _=>none) a (.frz { cls:= .type "list",data:= .seq S.toArray} (.lst (ns.map V.int))),fun b=> ?_,.inl (.inr ⟨_,Ao⟩),fun b u z=> ?_,fun b z=> ?_,fun _=>rfl⟩
    . by_cases e:b=a
      . subst e
        exact .inr ⟨_,_,Ao⟩
      . exact .inl (Cu e)
    . by_cases e:b=a
      . subst e
        rw [Ao]at z
        cases z
        exact⟨Z,by rw [length_map];exact hl,S,_,rv,Z⟩
      . rw [Cu e]at z
        cases z
    . exact Classical.byContradiction fun e=>z (Cu e)
 have M:∀ {b:Addr}{o:Obj},I.heap.get? b=some o->H b=none->(Abj I.heap H).get? b=some o:=fun e n=>Zf e n
 have J:∀ {b:Addr}{m:Str->Option Value},I.heap.Ns b m->(Abj I.heap H).Ns b m:=fun {b m} ⟨o,es,ep,e,d,r⟩=>by
  refine⟨o,es,ep,M e ?_,d,r⟩
  cases q:H b with
  | none=>rfl
  | some u=>
    obtain rfl:b=a:=hA b (by rw [q];simp)
    rw [Z]at e
    cases e
    cases(show Data.seq S.toArray _=Data.dict es ep from d)
 have kb:K.In (Abj I.heap H):=fun b o e=>M (KX b o e) (by
  cases q:H b with
  | none=>rfl
  | some u=>
    obtain rfl:b=a:=hA b (by rw [q];simp)
    rw [hK (by rw [q];simp)]at e
    cases e)
 have hM:Mod K mg (Abj I.heap H):=⟨kb,J U,⟨mb,J hb,a3⟩,let ⟨mc,h1,h2⟩:=Y;⟨mc,J h1,h2⟩⟩
 have e0:Aif P w K mg (Abj I.heap H) callerA [] I H:=⟨rfl,hM,fun b o e=>Ajc e,le_of_eq (Acp _ _),trivial,fun b hb=>absurd (show b∈([]:List Addr)from hb) (by simp),a0,.of_eq hg⟩
 refine codeAny_mono ((F _ kb (J U) (Agk a4 Z hA)).run callerA [] I H ⟨[.ref a],[]⟩ [.ref a] [.ref a] _ _ hr e0 (O I (.ref a)) (.cons rfl .nil) (a5 H hS)) fun r s' h=> ?_
 match r,h with
 | .error e,h=>exact(a6 H e s' h).elim
 | .ok .next,h=>exact False.elim h
 | .ok .brk,h=>exact False.elim h
 | .ok .cont,h=>exact False.elim h
 | .ok (.ret u),h=>
   obtain⟨v,H',os,a1,un,a2,r',q⟩:=h
   obtain rfl:v= .bl true:=q
   obtain rfl:u=Value.bool true:=r'
   refine⟨rfl,OldK.of_keep fun b o e=> ?_,os,a1⟩
   rcases hO b with q | ⟨ob,xs,z⟩
   . exact un.keep b o e q (by intro z;exact absurd (show b∈([]:List Addr)from z) (by simp)) (by simp)
   . obtain⟨e1,_⟩:=a0 b _ z
     obtain⟨e2,_⟩:=a2 b _ (un.frzs b ob _ z)
     rw [e]at e1
     cases e1
     exact e2
theorem Agv {l:PySem.W.OpenLaw}{n k:Nat}{q:Program}{I:List Str}{XP:(Str->Option Value)->Heap->Prop}{YP:World->Heap->Prop}{d:DefRec}{K:Params->Frag}{sp:Frag->Sp}{x:Str}
 (hn:l.most=some n) (U:n<=sizeLine) (Z:d.params.defaults=[]) (hr:Mz k callerA) (a0:importsNone q=true) (a1:l.prog.given.tree=none)
 (hY:∀(w:World) (h:Heap),YP w h->(K w.params).In h)
 (F:∀(w:World) (mg:Str->Option Value) (S:Addr) (h:Heap),(K w.params).In h->h.Ns mainGlobals mg->mg d.name=some (.ref S)->
   ∃fd:FuncData,(∀(s:Shared) (u:Value),BindsTo s fd ⟨[u],[]⟩ [(x,u)])/\∀base:Heap,Pyl l.prog base->Ti l.prog w (K w.params) mg base CX0 k S fd [x] (sp (K w.params)))
 (a2:∀(K:Frag) (H:Hp) (a:Addr) (ns:List Int),ns.length<=n->SqL K H a (ns.map V.int)->sp K [.ref a] H (fun v _=>v= .bl true) fun _ _ _=>False)
 (a3:∀(H:Hp) (s:Shared) (e:Value) (s':Shared),CX0 [] H s (fun _ _ _=>False) e s'->False):
 PySem.W.WalkO q I XP YP l.row.toRowW d [] (fun f vs=>PySem.call f vs):=by
 refine Att.Xh hn Z fun w a5 M mg mb S o pm cd a6 a vs ns G Y ho hd a7 a4 O J z hg=> ?_
 have KX:=hY w _ Y
 obtain⟨fd,hb,hF⟩:=F w mg S _ KX G.T.g a4
 exact Acy KX G.T.g G.T.b G.T.builtins G.T.nolimit (G.T.seer a0) hg O J (le_trans z U) hr (fun base _ _ ns=>hF base ⟨ns,a1⟩) hb (fun H hS=>a2 (K w.params) H a ns z hS) fun H e s'=>a3 H M e s'
set_option maxRecDepth 100000
end L2
namespace L2
open PySem L2
@[irreducible] noncomputable def Dr (X:Cx) (e:Expr) (t:TE):Prop:=L2.PE X e t
@[irreducible] noncomputable def Qi (X:Cx) (e:Expr) (t:TT):Prop:=L2.PT X e t
@[irreducible] noncomputable def Xf (X:Cx) (e:Expr) (t:TT):Prop:=L2.PW X e t
@[irreducible] noncomputable def J6 (X:Cx) (es:List Expr) (t:TA):Prop:=L2.PA X es t
@[irreducible] noncomputable def Mx (X:Cx) (st:Stmt) (t:TS):Prop:=L2.PS X st t
@[irreducible] noncomputable def K3 (X:Cx) (st:List Stmt) (t:TS):Prop:=L2.PSs X st t
@[irreducible] noncomputable def Q9 (X:Cx) (target:Expr) (t:TG):Prop:=L2.PG X target t
@[irreducible] noncomputable def V1 (X:Cx) (ts:List Expr) (t:TGs):Prop:=L2.PGs X ts t
@[irreducible] noncomputable def Tj (X:Cx) (tg iter:Expr) (wi:TI):Prop:=L2.PI X tg iter wi
@[irreducible] noncomputable def Ae9 (X:Cx) (e:Option Expr) (t:TO):Prop:=L2.PO X e t
@[irreducible] noncomputable def Abu (X:Cx) (ifs:List Expr) (t:TT):Prop:=L2.PTs X ifs t
theorem Akw {X:Cx}{b:List Stmt}{t:TS} (h:K3 X b t):L2.PSs X b t:=by unfold K3 at h;exact h
theorem Ae:∀ {X:Cx} (i:Nat) {x:Str}{pos:Pos},autoParam ((Cx.N X)[i]? =Option.some x) L2.pv._auto_1->autoParam (Vis (Env.scope (Cx.env X)) x) L2.pv._auto_2->autoParam ((x==("__debug__":Str))=Bool.false) L2.pv._auto_3->autoParam ((x==("__classdict__":Str))=Bool.false) L2.pv._auto_4->Dr X (Expr.Name x pos) (Abk i):=by with_unfolding_all exact @L2.pv
theorem Ej:∀ {X:Cx}{x:Str}{v:V}{u:Value}{pos:Pos},Gl X x->Cx.mg X x=Option.none->bootBuiltins x=Option.some u->RelV v u->autoParam (x≠("__name__":Str)) L2.Ye._auto_1->autoParam ((x==("__debug__":Str))=Bool.false) L2.Ye._auto_2->Dr X (Expr.Name x pos) (tC v):=by with_unfolding_all exact @L2.Ye
theorem Z9:∀ {X:Cx}{x:Str}{v:V}{u:Value}{pos:Pos},Gl X x->Cx.mg X x=Option.some u->RelV v u->autoParam ((x==("__debug__":Str))=Bool.false) L2.Yg._auto_1->Dr X (Expr.Name x pos) (tC v):=by with_unfolding_all exact @L2.Yg
theorem Ac:∀ {X:Cx}{i:Int}{j:Nat}{pos:Pos},Dr X (Expr.Constant (Const.int i) j pos) (tC (V.int i)):=by with_unfolding_all exact @L2.Amb
theorem Br:∀ {X:Cx}{b:Bool}{j:Nat}{pos:Pos},Dr X (Expr.Constant (Const.bool b) j pos) (tC (V.bl b)):=by with_unfolding_all exact @L2.Aor
theorem K4:∀ {X:Cx}{j:Nat}{pos:Pos},Dr X (Expr.Constant Const.none j pos) (tC V.non):=by with_unfolding_all exact @L2.Amd
theorem K5:∀ {X:Cx}{x:Str}{j:Nat}{pos:Pos},Dr X (Expr.Constant (Const.str x) j pos) (tC (V.str x)):=by with_unfolding_all exact @L2.Amg
theorem Ah:∀ {X:Cx}{a b:Expr}{ta tb:TE}{pos:Pos}{z:Operator}{r:R2},OpR X (binaryOp z) r->Dr X a ta->Dr X b tb->Dr X (Expr.BinOp a z b pos) (tOp r ta tb):=by with_unfolding_all exact @L2.Aot
theorem Nv:∀ {X:Cx}{a:Expr}{ta:TE}{pos:Pos},Dr X a ta->Dr X (Expr.UnaryOp UnaryOp.Not a pos) (Akd ta):=by with_unfolding_all exact @L2.Ame
theorem Bd:∀ {X:Cx}{a:Expr}{ta:TE}{pos:Pos}{z:UnaryOp}{r:V->Hp->VK->Prop},UnR X (unaryOp z) r->Dr X a ta->Dr X (Expr.UnaryOp z a pos) (tUn r ta):=by with_unfolding_all exact @L2.Aov
theorem Cv:∀ {X:Cx}{a b:Expr}{ta tb:TE}{pos:Pos}{z:CmpOp}{r:R2},OpR X (compareOp z) r->Dr X a ta->Dr X b tb->behindInMarks z b=Bool.false->Dr X (Expr.Compare a [z] [b] pos) (tOp r ta tb):=by with_unfolding_all exact @L2.Ajl
theorem Rb:∀ {X:Cx}{a b:Expr}{ta tb:TE}{pos:Pos}{rest:List Expr},Dr X a ta->Dr X (Expr.BoolOp BoolOp.And (b::rest) pos) tb->Dr X (Expr.BoolOp BoolOp.And (a::b::rest) pos) (Aka ta tb):=by with_unfolding_all exact @L2.Ama
theorem Qq:∀ {X:Cx}{a b:Expr}{ta tb:TE}{pos:Pos}{rest:List Expr},Dr X a ta->Dr X (Expr.BoolOp BoolOp.Or (b::rest) pos) tb->Dr X (Expr.BoolOp BoolOp.Or (a::b::rest) pos) (Apf ta tb):=by with_unfolding_all exact @L2.Aou
theorem Il:∀ {X:Cx}{a:Expr}{pos:Pos}{z:BoolOp}{t:TE},Dr X a t->Dr X (Expr.BoolOp z [a] pos) t:=by with_unfolding_all exact @L2.Amf
theorem M8:∀ {X:Cx}{a b:Expr}{ta tb:TE}{pos:Pos}{tA:TT}{c:Expr},Qi X c tA->Dr X a ta->Dr X b tb->Dr X (Expr.IfExp c a b pos) (tIf tA ta tb):=by with_unfolding_all exact @L2.Af6
theorem Al:∀ {X:Cx}{es:List Expr}{t:TA}{pos:Pos}{x1:Nat},J6 X es t->Dr X (Expr.Tuple es x1 pos) (Apj t):=by with_unfolding_all exact @L2.Amh
theorem Cd:∀ {X:Cx}{es:List Expr}{t:TA}{pos:Pos},J6 X es t->Dr X (Expr.List es pos) (Apd t):=by with_unfolding_all exact @L2.Amc
theorem Du:∀ {X:Cx}{e:Expr}{te:TE}{lo hi:Option Expr}{tl th:TO}{pos p2:Pos}{r:V->Option Int->Option Int->Hp->VK->Prop},SlR X r->Dr X e te->Ae9 X lo tl->Ae9 X hi th->Dr X (Expr.Subscript e (Expr.Slice lo hi Option.none p2) pos) (tSl r te tl th):=by with_unfolding_all exact @L2.Af7
theorem Ek:∀ {X:Cx},Ae9 X Option.none Yw:=by with_unfolding_all exact @L2.Ajs
theorem El:∀ {X:Cx}{e:Expr}{te:TE},Dr X e te->Ae9 X (Option.some e) (Ake te):=by with_unfolding_all exact @L2.Ajt
theorem Aw:∀ {X:Cx}{a b:Expr}{ta tb:TE}{pos:Pos}{r:R2},IxR X r->Dr X a ta->Dr X b tb->Abt b->Dr X (Expr.Subscript a b pos) (tOp r ta tb):=by with_unfolding_all exact @L2.Aos
theorem Ea:∀ {X:Cx}{elt tg iter:Expr}{ifs:List Expr}{scope:Scope}{pos:Pos}{wi:TI}{g:TG}{tt:TT}{te:TE}{ts:List Str}{fs:List (Nat × Str)},Cx.calm X=Bool.true->Dl X ts fs scope->Tj X tg iter wi->(∀(ex:List Addr) (s:Shared) (H:Hp),Q9 (cxC X (cpN ts fs) scope ex s H) tg g)->(∀(ex:List Addr) (s:Shared) (H:Hp),Abu (cxC X (cpN ts fs) scope ex s H) ifs tt)->(∀(ex:List Addr) (s:Shared) (H:Hp),Dr (cxC X (cpN ts fs) scope ex s H) elt te)->autoParam (∀(x:Value),foldedSetIterable iter (Cx.env X) x=Pure.pure x) L2.Ads._auto_1->Dr X (Expr.ListComp elt [{ target:=tg,iter:=iter,ifs:=ifs,is_async:=(0:Int)}] scope pos) (Abd (List.length ts) fs wi g tt te):=by with_unfolding_all exact @L2.Ads
theorem Ik:∀ {P:Program}{w:World}{K:W.Frag}{mg:Str->Option Value}{base:Heap}{N:List Str}{qual:Str}{scope:Scope}{f:Addr}{cd:Value}{A:Around}{outer:List Env}{s0:Shared}{H0:Hp}{E:XK}{k:Nat}{x:Str}{ps:List Str}{sp:Sp}{p pos:Pos}{e:Expr}{es:List Expr}{t:TA},Vy P w K mg base k x ps sp->Mz k (Around.deeper A (PyProof.Rows.envOfC qual scope (Array.size (Heap.objs (Shared.heap s0))) f cd))->J6 (Rj (CXE P w) P w K mg base N qual scope f cd A outer s0 H0 E) (e::es) t->autoParam (Gl (Rj (CXE P w) P w K mg base N qual scope f cd A outer s0 H0 E) x) L2.N8._auto_1->autoParam ((x==("__debug__":Str))=Bool.false) L2.N8._auto_2->autoParam (starEach (e::es) (PyProof.Rows.envOfC qual scope (Array.size (Heap.objs (Shared.heap s0))) f cd)=(Bool.false,eval e (PyProof.Rows.envOfC qual scope (Array.size (Heap.objs (Shared.heap s0))) f cd))::starEach es (PyProof.Rows.envOfC qual scope (Array.size (Heap.objs (Shared.heap s0))) f cd)) L2.N8._auto_3->autoParam ((List.any (backTo pos (starEach es (PyProof.Rows.envOfC qual scope (Array.size (Heap.objs (Shared.heap s0))) f cd))) fun(x:Bool × Sem Value) ↦ Prod.fst x)=Bool.false) L2.N8._auto_4->Dr (Rj (CXE P w) P w K mg base N qual scope f cd A outer s0 H0 E) (Expr.Call (Expr.Name x p) (e::es) [] pos) (T4 sp [] E t):=by with_unfolding_all exact @L2.N8
theorem Ba:∀ {X:Cx}{e:Expr}{es:List Expr}{t:TA}{x:Str}{p pos:Pos}{id:String}{r:List V->Hp->VK->Prop},Jm X (Value.builtin id) r->Gl X x->Cx.mg X x=Option.none->bootBuiltins x=Option.some (Value.builtin id)->J6 X (e::es) t->autoParam (Fo e=Bool.true) L2.Ado._auto_1->autoParam (List.all es Fo=Bool.true) L2.Ado._auto_2->autoParam (x≠("__name__":Str)) L2.Ado._auto_3->autoParam ((x==("__debug__":Str))=Bool.false) L2.Ado._auto_4->Dr X (Expr.Call (Expr.Name x p) (e::es) [] pos) (tCB r t):=by with_unfolding_all exact @L2.Ado
theorem Ed:∀ {X:Cx}{e:Expr}{es:List Expr}{t:TA}{x:Str}{p pos:Pos}{T:String}{r:List V->Hp->VK->Prop},Jm X (Value.type T) r->Gl X x->Cx.mg X x=Option.none->bootBuiltins x=Option.some (Value.type T)->J6 X (e::es) t->autoParam (Fo e=Bool.true) L2.Wq._auto_1->autoParam (List.all es Fo=Bool.true) L2.Wq._auto_2->autoParam (x≠("__name__":Str)) L2.Wq._auto_3->autoParam ((x==("__debug__":Str))=Bool.false) L2.Wq._auto_4->Dr X (Expr.Call (Expr.Name x p) (e::es) [] pos) (tCB r t):=by with_unfolding_all exact @L2.Wq
theorem Af:∀ {X:Cx}{e:Expr}{es:List Expr}{t:TA}{x:Str}{p pos:Pos}{k:Nat}{ps:List Str}{sp:Sp}{n:Nat},Cal (Cx.prog X) (Cx.w X) (Cx.K X) (Cx.mg X) (Cx.base X) k x ps sp->Mz n (Cx.A X)->J6 X (e::es) t->autoParam (k<=n) L2.Aa0._auto_1->autoParam (Fo e=Bool.true) L2.Aa0._auto_2->autoParam (List.all es Fo=Bool.true) L2.Aa0._auto_3->autoParam (Gl X x) L2.Aa0._auto_4->autoParam ((x==("__debug__":Str))=Bool.false) L2.Aa0._auto_5->Dr X (Expr.Call (Expr.Name x p) (e::es) [] pos) (T4 sp [] E0 t):=by with_unfolding_all exact @L2.Aa0
theorem Y4:∀ {X:Cx}{i k:Nat}{a:Addr}{x y:Str}{ps:List Str}{sp:Sp}{p pos:Pos}{e:Expr}{es:List Expr}{t:TA},Cal (Cx.prog X) (Cx.w X) (Cx.K X) (Cx.mg X) (Cx.base X) k y ps sp->Cx.mg X y=Option.some (Value.ref a)->Mz k (Cx.A X)->Dr X (Expr.Name x p) (Abk i)->J6 X (e::es) t->autoParam (Fo e=Bool.true) L2.Ajk._auto_1->autoParam (List.all es Fo=Bool.true) L2.Ajk._auto_2->Dr X (Expr.Call (Expr.Name x p) (e::es) [] pos) (tCV i a sp E0 t):=by with_unfolding_all exact @L2.Ajk
theorem Rf:∀ {X:Cx}{x:Str}{v:V}{pos:Pos},Gl X x->(∃(u:Value),Cx.mg X x=Option.some u/\RelV v u)->autoParam ((x==("__debug__":Str))=Bool.false) L2.Zm._auto_1->Dr X (Expr.Name x pos) (tC v):=by with_unfolding_all exact @L2.Zm
theorem Nu:∀ {X:Cx}{o e:Expr}{es:List Expr}{to:TE}{t:TA}{name:Str}{apos cpos:Pos}{T id:String}{r:V->List V->Hp->VK->Prop},PlainAttrs T->Slot T name id->typeOf (Value.builtin id)=Pure.pure (Value.type "method_descriptor")->MtR X id r->Dr X o to->J6 X (e::es) t->autoParam (attributeBase o name (Cx.env X) (eval o (Cx.env X))=eval o (Cx.env X)) L2.Aay._auto_1->autoParam ((((List.all (backTo cpos (starEach (e::es) (Cx.env X))) fun(x:Bool × Sem Value) ↦ !Prod.fst x)&&List.all (backToKw cpos (keywordEach [] (Cx.env X))) fun(x:Option Str × Sem Value) ↦ Option.isSome (Prod.fst x))&&Decidable.decide ((List.length (e::es)+List.length ([]:List Keyword)+if List.isEmpty ([]:List Keyword)=Bool.true then(0:Nat)else(1:Nat))<(30:Nat)))=Bool.true) L2.Aay._auto_2->autoParam ((Pos.endLine apos==Pos.line cpos)=Bool.true) L2.Aay._auto_3->autoParam (starEach (e::es) (Cx.env X)=(Bool.false,eval e (Cx.env X))::starEach es (Cx.env X)) L2.Aay._auto_4->autoParam ((List.any (backTo cpos (starEach es (Cx.env X))) fun(x:Bool × Sem Value) ↦ Prod.fst x)=Bool.false) L2.Aay._auto_5->Dr X (Expr.Call (Expr.Attribute o name apos) (e::es) [] cpos) (tBM (Cx.K X) T r to t):=by with_unfolding_all exact @L2.Aay
theorem Abv:∀ {X:Cx}{o:Expr}{to:TE}{name:Str}{apos cpos:Pos}{T id:String}{r:V->List V->Hp->VK->Prop},PlainAttrs T->Slot T name id->typeOf (Value.builtin id)=Pure.pure (Value.type "method_descriptor")->MtR X id r->Dr X o to->autoParam (attributeBase o name (Cx.env X) (eval o (Cx.env X))=eval o (Cx.env X)) L2.Adn._auto_1->autoParam ((Pos.endLine apos==Pos.line cpos)=Bool.true) L2.Adn._auto_2->Dr X (Expr.Call (Expr.Attribute o name apos) [] [] cpos) (Apa (Cx.K X) T r to):=by with_unfolding_all exact @L2.Adn
theorem J7:∀ {X:Cx}{a:Expr}{ta:TA}{el:List Expr}{x1:Nat}{tp p pos:Pos},Gl X (("enumerate":Str))->Cx.mg X (("enumerate":Str))=Option.none->J6 X [a] ta->autoParam (starEach [a] (Cx.env X)=[(Bool.false,eval a (Cx.env X))]) L2.Amj._auto_1->Tj X (Expr.Tuple el x1 tp) (Expr.Call (Expr.Name (("enumerate":Str)) p) [a] [] pos) (iEn (Cx.K X) ta):=by with_unfolding_all exact @L2.Amj
theorem Aab:∀ {X:Cx}{a b:Expr}{ta:TA}{el:List Expr}{x1:Nat}{tp p pos:Pos} (z I:Bool),Gl X (("zip":Str))->Cx.mg X (("zip":Str))=Option.none->J6 X [a,b] ta->autoParam (starEach [a,b] (Cx.env X)=[(Bool.false,eval a (Cx.env X)),(Bool.false,eval b (Cx.env X))]) L2.Yk._auto_1->autoParam (starEach [b] (Cx.env X)=[(Bool.false,eval b (Cx.env X))]) L2.Yk._auto_2->Tj X (Expr.Tuple el x1 tp) (Expr.Call (Expr.Name (("zip":Str)) p) [a,b] [] pos) (Ai0 z I (Cx.K X) ta):=by with_unfolding_all exact @L2.Yk
theorem Afa:∀ {X:Cx}{a:Expr}{ta:TA}{tg:Expr}{p pos:Pos},Gl X (("reversed":Str))->Cx.mg X (("reversed":Str))=Option.none->J6 X [a] ta->autoParam (starEach [a] (Cx.env X)=[(Bool.false,eval a (Cx.env X))]) L2.Amk._auto_1->Tj X tg (Expr.Call (Expr.Name (("reversed":Str)) p) [a] [] pos) (iRv (Cx.K X) ta):=by with_unfolding_all exact @L2.Amk
theorem Ox:∀ {X:Cx}{tg a b c:Expr}{ta:TA}{p pos:Pos},Gl X (("range":Str))->Cx.mg X (("range":Str))=Option.none->J6 X [a,b,c] ta->autoParam (Fo a=Bool.true) L2.Yj._auto_1->autoParam (List.all [b,c] Fo=Bool.true) L2.Yj._auto_2->Tj X tg (Expr.Call (Expr.Name (("range":Str)) p) [a,b,c] [] pos) (Aix ta):=by with_unfolding_all exact @L2.Yj
theorem Ew:∀ {X:Cx}{tg a:Expr}{ta:TA}{p pos:Pos},Gl X (("range":Str))->Cx.mg X (("range":Str))=Option.none->J6 X [a] ta->autoParam (starEach [a] (Cx.env X)=[(Bool.false,eval a (Cx.env X))]) L2.Wr._auto_1->Tj X tg (Expr.Call (Expr.Name (("range":Str)) p) [a] [] pos) (Aiz ta):=by with_unfolding_all exact @L2.Wr
theorem Hg:∀ {X:Cx}{tg l:Expr}{tl:TE},Dr X l tl->Tj X tg l (Aiy (Cx.K X) tl):=by with_unfolding_all exact @L2.Ajn
theorem Gb:∀ {X:Cx}{tg l:Expr}{tl:TE},Dr X l tl->Tj X tg l (Aoo (Cx.K X) tl):=by with_unfolding_all exact @L2.Aml
theorem Dj:∀ {X:Cx},Abu X [] T5:=by with_unfolding_all exact @L2.Ajx
theorem Am:∀ {X:Cx}{a b:Expr}{ta tb:TE}{pos:Pos}{z:CmpOp}{r:R2},OpR X (compareOp z) r->Dr X a ta->Dr X b tb->behindInMarks z b=Bool.false->Qi X (Expr.Compare a [z] [b] pos) (Akf (tOp r ta tb)):=by with_unfolding_all exact @L2.Ajw
theorem Bt:∀ {X:Cx}{a:Expr}{pos:Pos}{tA:TT},Qi X a tA->Qi X (Expr.UnaryOp UnaryOp.Not a pos) (Ape tA):=by with_unfolding_all exact @L2.Ams
theorem Eo:∀ {X:Cx}{a b:Expr}{pos:Pos}{tA tB':TT}{rest:List Expr},Qi X a tA->Xf X (Expr.BoolOp BoolOp.And (b::rest) pos) tB'->Xf X (Expr.BoolOp BoolOp.And (a::b::rest) pos) (Ao9 tA tB'):=by with_unfolding_all exact @L2.Amt
theorem Bw:∀ {X:Cx}{a b:Expr}{pos:Pos}{tA tB':TT}{rest:List Expr},Qi X a tA->Xf X (Expr.BoolOp BoolOp.Or (b::rest) pos) tB'->Xf X (Expr.BoolOp BoolOp.Or (a::b::rest) pos) (tOr tA tB'):=by with_unfolding_all exact @L2.Aox
theorem Eu:∀ {X:Cx}{a:Expr}{pos:Pos}{tA:TT},Qi X a tA->Xf X (Expr.BoolOp BoolOp.And [a] pos) tA:=by with_unfolding_all exact @L2.Ajy
theorem Dw:∀ {X:Cx}{a:Expr}{pos:Pos}{tA:TT},Qi X a tA->Xf X (Expr.BoolOp BoolOp.Or [a] pos) tA:=by with_unfolding_all exact @L2.Amv
theorem Cj:∀ {X:Cx}{e:Expr}{t:TT},Xf X e t->Qi X e t:=by with_unfolding_all exact @L2.PW.pt
theorem Bo:∀ {X:Cx}{e:Expr}{t:TE},Dr X e t->autoParam (∀(whole:Sem Value),isTrue e (Cx.env X) whole=do let v<-whole;standAt (Expr.pos e);holding [v] (truthy v)) L2.Ahx._auto_1->Qi X e (tB t):=by with_unfolding_all exact @L2.Ahx
theorem Ab:∀ {X:Cx},J6 X [] Aoa:=by with_unfolding_all exact @L2.Al7
theorem Aa:∀ {X:Cx}{e:Expr}{es:List Expr}{te:TE}{t:TA},Dr X e te->J6 X es t->autoParam (Fo e=Bool.true) L2.Aho._auto_1->J6 X (e::es) (Aeq te t):=by with_unfolding_all exact @L2.Aho
theorem Ar:∀ {X:Cx},K3 X [] Akc:=by with_unfolding_all exact @L2.Aju
theorem Ag:∀ {X:Cx}{st:Stmt}{t:TS},Mx X st t->K3 X [st] t:=by with_unfolding_all exact @L2.Ajv
theorem Ad:∀ {X:Cx}{st:Stmt}{rest:List Stmt}{t u:TS},Mx X st t->K3 X rest u->K3 X (st::rest) (Aob t u):=by with_unfolding_all exact @L2.Agf
theorem Aq:∀ {X:Cx}{pos:Pos}{x:Str} (i:Nat),Nodup (Cx.N X)->autoParam ((Cx.N X)[i]? =Option.some x) L2.Af8._auto_1->autoParam (Loc (Env.scope (Cx.env X)) x) L2.Af8._auto_2->autoParam (Cx.fn X x=Bool.true\/lookup x (Scope.names (Env.scope (Cx.env X)))=Option.some NameKind.local) L2.Af8._auto_3->Q9 X (Expr.Name x pos) (O4 i):=by with_unfolding_all exact @L2.Af8
theorem Ci:∀ {X:Cx},V1 X [] Aom:=by with_unfolding_all exact @L2.Ajm
theorem Ai:∀ {X:Cx}{e:Expr}{es:List Expr}{t:TG}{u:TGs},Q9 X e t->V1 X es u->autoParam (List.map (fun(x:Bool × (Value->Sem Unit)) ↦ Prod.snd x) (assignEach (e::es) (Cx.env X))=assign e (Cx.env X)::List.map (fun(x:Bool × (Value->Sem Unit)) ↦ Prod.snd x) (assignEach es (Cx.env X))) L2.Zo._auto_1->V1 X (e::es) (Afn t u):=by with_unfolding_all exact @L2.Zo
theorem Aaa:∀ {X:Cx}{es:List Expr}{k:Nat}{pos:Pos}{t:TGs} (K:W.Frag) (n:Nat),Cx.K X=K->Cx.calm X=Bool.true->V1 X es t->autoParam (List.length (assignEach es (Cx.env X))=n) L2.Yi._auto_1->autoParam (List.findIdx? (fun(x:Bool × (Value->Sem Unit)) ↦ Prod.fst x) (assignEach es (Cx.env X))=Option.none) L2.Yi._auto_2->Q9 X (Expr.Tuple es k pos) (Ale K n t):=by with_unfolding_all exact @L2.Yi
theorem Dn:∀ {X:Cx}{pos:Pos}{es:List Expr}{k:Nat}{t:TGs}{n:Nat},Cx.calm X=Bool.true->V1 X es t->autoParam (List.length (assignEach es (Cx.env X))=n) L2.Zn._auto_1->autoParam (List.findIdx? (fun(x:Bool × (Value->Sem Unit)) ↦ Prod.fst x) (assignEach es (Cx.env X))=Option.none) L2.Zn._auto_2->Q9 X (Expr.Tuple es k pos) (Ale (Cx.K X) n t):=by with_unfolding_all exact @L2.Zn
theorem Hw:∀ {X:Cx}{pos:Pos}{o i:Expr}{to z:TE}{t:Aky},Dr X o to->Dr X i z->Aoe X t->autoParam (∀(v:Value),assign (Expr.Subscript o i pos) (Cx.env X) v=do let ov<-holding [v] (eval o (Cx.env X));let iv<-holding [v,ov] (eval i (Cx.env X));standAt pos;holding [v,ov,iv] (setItem ov iv v);release [v,ov,iv] []) L2.Ahp._auto_1->Q9 X (Expr.Subscript o i pos) (Aon to z t):=by with_unfolding_all exact @L2.Ahp
theorem Rg:∀ {X:Cx}{st:Stmt},Mx X st Aia:=by with_unfolding_all exact @L2.Agd
theorem T8:∀ {X:Cx}{elt tg iter:Expr}{ifs:List Expr}{scope:Scope}{pos:Pos}{wi:TI}{g:TG}{tt:TT}{te:TE}{ts:List Str}{fs:List (Nat × Str)}{g':TG}{y:Str}{py z:Pos},Cx.calm X=Bool.true->Dl X ts fs scope->Tj X tg iter wi->(∀(ex:List Addr) (s:Shared) (H:Hp),Q9 (cxC X (cpN ts fs) scope ex s H) tg g)->(∀(ex:List Addr) (s:Shared) (H:Hp),Abu (cxC X (cpN ts fs) scope ex s H) ifs tt)->(∀(ex:List Addr) (s:Shared) (H:Hp),Dr (cxC X (cpN ts fs) scope ex s H) elt te)->Q9 X (Expr.Name y py) g'->autoParam (swapsWith (Expr.ListComp elt [{ target:=tg,iter:=iter,ifs:=ifs,is_async:=(0:Int)}] scope pos) (Option.some (Expr.Name y py)) (Pos.line z) (Cx.env X)=Pure.pure Bool.true) L2.Ym._auto_1->autoParam (∀(x:Value),foldedSetIterable iter (Cx.env X) x=Pure.pure x) L2.Ym._auto_2->Mx X (Stmt.Assign [Expr.Name y py] (Expr.ListComp elt [{ target:=tg,iter:=iter,ifs:=ifs,is_async:=(0:Int)}] scope pos) z) (Agr (Abd (List.length ts) fs wi g tt te) g'):=by with_unfolding_all exact @L2.Ym
theorem Ak:∀ {X:Cx}{e:Expr}{pos:Pos}{te:TE}{x:Str}{z:Pos} (i:Nat),Nodup (Cx.N X)->Dr X e te->autoParam ((Cx.N X)[i]? =Option.some x) L2.Ad3._auto_1->autoParam (Loc (Env.scope (Cx.env X)) x) L2.Ad3._auto_2->autoParam (swapsWith e (Option.some (Expr.Name x z)) (Pos.line pos) (Cx.env X)=Pure.pure Bool.false) L2.Ad3._auto_3->autoParam (Cx.fn X x=Bool.true\/lookup x (Scope.names (Env.scope (Cx.env X)))=Option.some NameKind.local) L2.Ad3._auto_4->Mx X (Stmt.Assign [Expr.Name x z] e pos) (Agr te (O4 i)):=by with_unfolding_all exact @L2.Ad3
theorem Im:∀ {X:Cx}{pos:Pos}{i j:Nat}{x y:Str}{a b:Expr}{ta:TA}{I py pt:Pos}{J k2:Nat}{z:Pos},Cx.calm X=Bool.true->Nodup (Cx.N X)->(Cx.N X)[i]? =Option.some x->(Cx.N X)[j]? =Option.some y->i≠j->lookup x (Scope.names (Env.scope (Cx.env X)))=Option.some NameKind.local->lookup y (Scope.names (Env.scope (Cx.env X)))=Option.some NameKind.local->J6 X [a,b] ta->swappedStores [Expr.Tuple [Expr.Name x I,Expr.Name y py] J pt] (Expr.Tuple [a,b] k2 z) (Cx.env X)=Pure.pure (Option.some [x,y])->autoParam (swapsWithSole [Expr.Tuple [Expr.Name x I,Expr.Name y py] J pt] (Expr.Tuple [a,b] k2 z) (Pos.line pos) (Cx.env X)=Pure.pure Bool.false) L2.Ahw._auto_1->Mx X (Stmt.Assign [Expr.Tuple [Expr.Name x I,Expr.Name y py] J pt] (Expr.Tuple [a,b] k2 z) pos) (Apg i j ta):=by with_unfolding_all exact @L2.Ahw
theorem Cy:∀ {X:Cx}{pos:Pos}{tg e:Expr}{te:TE}{g:TG},Dr X e te->Q9 X tg g->autoParam (swapsWithSole [tg] e (Pos.line pos) (Cx.env X)=Pure.pure Bool.false) L2.Zr._auto_1->autoParam (swappedStores [tg] e (Cx.env X)=Pure.pure Option.none) L2.Zr._auto_2->autoParam (List.map (fun(x:Bool × (Value->Sem Unit)) ↦ Prod.snd x) (assignEach [tg] (Cx.env X))=[assign tg (Cx.env X)]) L2.Zr._auto_3->Mx X (Stmt.Assign [tg] e pos) (Agr te g):=by with_unfolding_all exact @L2.Zr
theorem Aj:∀ {X:Cx}{e:Expr}{te:TE}{pos:Pos},Dr X e te->Mx X (Stmt.Return (Option.some e) pos) (Aph te):=by with_unfolding_all exact @L2.Amr
theorem Ay:∀ {X:Cx}{t u:TS}{pos:Pos}{c:Expr}{a b:List Stmt}{tc:TT},Qi X c tc->K3 X a t->K3 X b u->Mx X (Stmt.If c a b pos) (Apc tc t u):=by with_unfolding_all exact @L2.Aow
theorem J8:∀ {P:Program}{w:World}{K:W.Frag}{mg:Str->Option Value}{base:Heap}{N:List Str}{qual:Str}{scope:Scope}{f:Addr}{cd:Value}{A:Around}{outer:List Env}{s0:Shared}{H0:Hp}{E:XK}{C:Addr}{x:Str}{z cpos pos:Pos}{e:Expr}{es:List Expr}{t:TA},Abo K C->mg x=Option.some (Value.ref C)->J6 (Rj (CXE P w) P w K mg base N qual scope f cd A outer s0 H0 E) (e::es) t->autoParam (Gl (Rj (CXE P w) P w K mg base N qual scope f cd A outer s0 H0 E) x) L2.Od._auto_1->autoParam ((x==("__debug__":Str))=Bool.false) L2.Od._auto_2->autoParam (starEach (e::es) (PyProof.Rows.envOfC qual scope (Array.size (Heap.objs (Shared.heap s0))) f cd)=(Bool.false,eval e (PyProof.Rows.envOfC qual scope (Array.size (Heap.objs (Shared.heap s0))) f cd))::starEach es (PyProof.Rows.envOfC qual scope (Array.size (Heap.objs (Shared.heap s0))) f cd)) L2.Od._auto_3->autoParam ((List.any (backTo cpos (starEach es (PyProof.Rows.envOfC qual scope (Array.size (Heap.objs (Shared.heap s0))) f cd))) fun(x:Bool × Sem Value) ↦ Prod.fst x)=Bool.false) L2.Od._auto_4->Mx (Rj (CXE P w) P w K mg base N qual scope f cd A outer s0 H0 E) (Stmt.Raise (Option.some (Expr.Call (Expr.Name x z) (e::es) [] cpos)) Option.none pos) (Aer C E t):=by with_unfolding_all exact @L2.Od
theorem Ra:∀ {X:Cx}{st:Stmt}{t:TS},Mx (Cx.nox X) st t->Mx X st t:=by with_unfolding_all exact @L2.PS.nox
theorem Fq:∀ {X:Cx}{pos:Pos}{c:Expr}{z:List Stmt}{tc:TT}{tb:TS},PassesOwn (model (Cx.prog X) (Cx.w X)) (Cx.A X) (Cx.env X) (Cx.xe X)->Qi X c tc->K3 X z tb->Mx X (Stmt.While c z [] pos) (W7 tc tb):=by with_unfolding_all exact @L2.Age
theorem Dp:∀ {X:Cx}{tg iter:Expr}{z:List Stmt}{wi:TI}{g:TG}{tb:TS}{pos:Pos},PassesOwn (model (Cx.prog X) (Cx.w X)) (Cx.A X) (Cx.env X) (Cx.xe X)->Cx.calm X=Bool.true->Tj X tg iter wi->Q9 X tg g->K3 X z tb->autoParam (∀(x:Value),foldedSetIterable iter (Cx.env X) x=Pure.pure x) L2.Ahv._auto_1->Mx X (Stmt.For tg iter z [] pos) (Apb wi g tb):=by with_unfolding_all exact @L2.Ahv
theorem Hi:∀ {X:Cx}{e:Expr}{te:TE}{pos:Pos},Dr X e te->autoParam (swapsWith e Option.none (Pos.line pos) (Cx.env X)=Pure.pure Bool.false) L2.Ad2._auto_1->Mx X (Stmt.Expr e pos) (Akb te):=by with_unfolding_all exact @L2.Ad2
theorem Ax {X:Cx}{b:List Stmt}{z:TS->Prop} (h:∃t,K3 X b t/\z t):∃t,L2.PSs X b t/\z t:=by
 obtain⟨t,h1,h2⟩:=h
 exact⟨t,Akw h1,h2⟩
end L2
namespace Z
noncomputable def co (p:List Int) (i:Nat):Int:=p.getD i 0
theorem Bv (i:Nat):co [] i=0:=by simp [co]
theorem Eb (a:Int) (r:List Int):co (a::r) 0=a:=by simp [co]
theorem Dy (a:Int) (r:List Int) (i:Nat):co (a::r) (i+1)=co r i:=by simp [co]
theorem Ck {p:List Int}{i:Nat} (h:p.length<=i):co p i=0:=by simp [co,getD_eq_getElem?_getD,getElem?_eq_none h]
theorem Ef {p:List Int}{i:Nat} (h:i<p.length):co p i=p[i]:=by simp [co,getD_eq_getElem?_getD,getElem?_eq_getElem h]
noncomputable def Tr (p:List Int):Prop:=p=[]\/∃h:p≠ [],p.getLast h≠0
theorem Tr.lead {p:List Int} (h:Tr p) (n:p≠ []):co p (p.length-1)≠0:=by
 rcases h with h | ⟨h,z⟩
 . exact absurd h n
 . have I:0<p.length:=length_pos_iff.mpr h
   rw [Ef (by omega)]
   rw [List.getLast_eq_getElem]at z
   exact z
theorem Tr.of {p:List Int} (h:p=[]\/co p (p.length-1)≠0):Tr p:=by
 by_cases n:p=[]
 . exact .inl n
 . rcases h with h | h
   . exact .inl h
   . refine .inr ⟨n,?_⟩
     have z:0<p.length:=length_pos_iff.mpr n
     rw [Ef (by omega)]at h
     rw [List.getLast_eq_getElem]
     exact h
theorem Tr.len {p q:List Int} (I:Tr p) (e:∀i,co p i=co q i):p.length<=q.length:=by
 by_cases n:p=[]
 . subst n;simp
 . by_cases h:p.length<=q.length
   . exact h
   . exfalso
     have z:=I.lead n
     rw [e,Ck (by omega)]at z
     exact z rfl
theorem Tr.ext {p q:List Int} (z:Tr p) (I:Tr q) (e:∀i,co p i=co q i):p=q:=by
 have l:=le_antisymm (z.len e) (I.len fun i=>(e i).symm)
 refine List.ext_getElem l fun i h1 h2=> ?_
 rw [<-Ef h1,<-Ef h2,e]
noncomputable def trim:List Int->List Int
 | []=>[]
 | a::r=>match trim r with
   | []=>if a=0 then []else [a]
   | b::t=>a::b::t
theorem W8 (a:Int) (r:List Int):trim (a::r)=if trim r=[]/\a=0 then []else a::trim r:=by
 rw [trim]
 split
 . rename_i h
   rw [h]
   by_cases z:a=0<;>simp [z]
 . rename_i b t h
   rw [h]
   simp
theorem Bl:∀(p:List Int) (i:Nat),co (trim p) i=co p i
 | [],i=>rfl
 | a::r,i=>by
   rw [W8]
   split
   . rename_i h
     rw [Bv]
     cases i with
     | zero=>rw [Eb,h.2]
     | succ i=>rw [Dy,<-Bl r i,h.1,Bv]
   . cases i with
     | zero=>rw [Eb,Eb]
     | succ i=>rw [Dy,Dy,Bl r i]
theorem Bq:∀p:List Int,Tr (trim p)
 | []=> .inl rfl
 | a::r=>by
   rw [W8]
   split
   . exact .inl rfl
   . rename_i h
     refine .inr ⟨by simp,?_⟩
     by_cases I:trim r=[]
     . simp only [I,List.getLast_singleton]
       exact fun z=>h ⟨I,z⟩
     . rw [List.getLast_cons I]
       rcases Bq r with z | ⟨_,z⟩
       . exact absurd z I
       . exact z
theorem Vs {p q:List Int} (z:Tr q) (e:∀i,co q i=co p i):trim p=q:=(Bq p).ext z fun i=>by rw [Bl,e]
theorem Pz {p:List Int} (h:Tr p):trim p=p:=Vs h fun _=>rfl
theorem Jo (p:List Int) (n i:Nat):co (p.take n) i=if i<n then co p i else 0:=by
 unfold co
 rw [getD_eq_getElem?_getD,getD_eq_getElem?_getD,List.getElem?_take]
 split<;>rfl
theorem Aeu {p:List Int}{n:Nat} (h1:∀i,n<=i->co p i=0) (h2:n=0\/co p (n-1)≠0):trim p=p.take n:=by
 refine Vs ?_ fun i=> ?_
 . rcases h2 with h | h
   . subst h;exact .inl (by simp)
   . have I:n<=p.length:=by
      by_cases z:n<=p.length
      . exact z
      . exact absurd (Ck (by omega)) h
     refine .of ?_
     by_cases J:n=0
     . left;subst J;simp
     . right
       rw [length_take,min_eq_left I,Jo,if_pos (by omega)]
       exact h
 . rw [Jo]
   split
   . rfl
   . rw [h1 i (by omega)]
noncomputable def sh (f:Nat->Int):Nat->Int
 | 0=>0
 | i+1=>f i
noncomputable def mu:List Int->(Nat->Int)->Nat->Int
 | [],_=>fun _=>0
 | a::p,f=>fun i=>a*f i+sh (mu p f) i
theorem Ah7 (f g:Nat->Int):sh (fun i=>f i+g i)=fun i=>sh f i+sh g i:=by funext i;cases i<;>simp [sh]
theorem Ah8 (c:Int) (f:Nat->Int):sh (fun i=>c*f i)=fun i=>c*sh f i:=by funext i;cases i<;>simp [sh]
theorem Pq:sh (fun _=>0)=fun _=>0:=by funext i;cases i<;>rfl
theorem Qc:∀(p:List Int) (f g:Nat->Int),mu p (fun i=>f i+g i)=fun i=>mu p f i+mu p g i
 | [],f,g=>by funext i;simp [mu]
 | a::p,f,g=>by
   funext i
   simp only [mu]
   rw [Qc p f g,Ah7]
   grind
theorem Lb:∀(p:List Int) (c:Int) (f:Nat->Int),mu p (fun i=>c*f i)=fun i=>c*mu p f i
 | [],c,f=>by funext i;simp [mu]
 | a::p,c,f=>by
   funext i
   simp only [mu]
   rw [Lb p c f,Ah8]
   grind
theorem Ru:∀(p:List Int),mu p (fun _=>0)=fun _=>0
 | []=>rfl
 | a::p=>by
   funext i
   simp only [mu]
   rw [Ru p,Pq]
   simp
theorem Alz:∀(p:List Int) (f:Nat->Int),mu p (sh f)=sh (mu p f)
 | [],f=>by funext i;cases i<;>rfl
 | a::p,f=>by
   funext i
   simp only [mu]
   rw [Alz p f]
   cases i with
   | zero=>simp [sh]
   | succ i=>simp [sh]
theorem Aha (a:Int) (r:List Int):co (a::r)=fun i=>(if i=0 then a else 0)+sh (co r) i:=by
 funext i
 cases i with
 | zero=>simp [Eb,sh]
 | succ i=>simp [Dy,sh]
theorem Zi:∀(p:List Int),mu p (fun i=>if i=0 then 1 else 0)=co p
 | []=>by funext i;simp [mu,co]
 | a::p=>by
   funext i
   simp only [mu]
   rw [Zi p,Aha]
   cases i<;>simp
theorem Aan (q:List Int) (a:Int) (p:List Int):mu q (co (a::p))=fun i=>a*co q i+sh (mu q (co p)) i:=by
 rw [Aha,Qc,Alz]
 funext i
 congr 1
 have e:(fun i:Nat=>if i=0 then a else 0)=fun i=>a*(if i=0 then 1 else 0):=by funext i;cases i<;>simp
 rw [e,Lb,Zi]
theorem K8:∀p q:List Int,mu p (co q)=mu q (co p)
 | [],q=>by
   have e:co []=fun _=>0:=by funext i;simp [co]
   rw [e,Ru];rfl
 | a::p,q=>by rw [Aan,<-K8 p q];rfl
theorem Rt (f:Nat->Int):∀(r:List Int),(∀i,co r i=0)->mu r f=fun _=>0
 | [],_=>rfl
 | a::r,h0=>by
   have z:a=0:=by have:=h0 0;rwa [Eb]at this
   funext i
   simp only [mu]
   rw [Rt f r fun i=>by have:=h0 (i+1);rwa [Dy]at this,Pq,z]
   simp
theorem Cm (f:Nat->Int):∀(r s:List Int),(∀i,co r i=co s i)->mu r f=mu s f
 | [],s,h0=>(Rt f s fun i=>by rw [<-h0,Bv]).symm
 | a::r,[],h0=>Rt f (a::r) fun i=>by rw [h0,Bv]
 | a::r,b::s,h0=>by
   have z:a=b:=by have:=h0 0;rwa [Eb,Eb]at this
   subst z
   funext i
   simp only [mu]
   rw [Cm f r s fun i=>by have:=h0 (i+1);rwa [Dy,Dy]at this]
noncomputable def al:List Int->List Int->List Int
 | [],q=>q
 | p,[]=>p
 | a::p,b::q=>(a+b)::al p q
theorem Oz:∀(p q:List Int) (i:Nat),co (al p q) i=co p i+co q i
 | [],q,i=>by simp [al,co]
 | a::p,[],i=>by simp [al,co]
 | a::p,b::q,0=>by simp [al,Eb]
 | a::p,b::q,i+1=>by simp [al,Dy,Oz p q i]
theorem Qk (f:Nat->Int):∀(p q:List Int),mu (al p q) f=fun i=>mu p f i+mu q f i
 | [],q=>by funext i;simp [al,mu]
 | a::p,[]=>by funext i;simp [al,mu]
 | a::p,b::q=>by
   funext i
   simp only [al,mu]
   rw [Qk f p q,Ah7]
   grind
theorem Ga (a:Int) (q:List Int) (i:Nat):co (q.map (a* ·)) i=a*co q i:=by
 unfold co
 rw [getD_eq_getElem?_getD,getD_eq_getElem?_getD,getElem?_map]
 cases q[i]? <;>simp
theorem Gy (f:Nat->Int) (a:Int):∀q:List Int,mu (q.map (a* ·)) f=fun i=>a*mu q f i
 | []=>by funext i;simp [mu]
 | b::q=>by
   funext i
   simp only [map_cons,mu]
   rw [Gy f a q,Ah8]
   grind
noncomputable def ml:List Int->List Int->List Int
 | [],_=>[]
 | a::p,q=>al (q.map (a* ·)) (0::ml p q)
theorem U3:∀(p q:List Int),co (ml p q)=mu p (co q)
 | [],q=>by funext i;simp [ml,mu,co]
 | a::p,q=>by
   funext i
   simp only [ml,mu]
   rw [Oz,Ga,<-U3 p q]
   cases i with
   | zero=>simp [Eb,sh]
   | succ i=>simp [Dy,sh]
theorem Rr (f:Nat->Int):∀(p q:List Int),mu (ml p q) f=mu p (mu q f)
 | [],q=>rfl
 | a::p,q=>by
   funext i
   simp only [ml]
   rw [Qk,Gy]
   simp only [mu]
   rw [Rr f p q]
   simp
theorem Afu {p q r:List Int} (f:Nat->Int) (h:∀i,co r i=mu p (co q) i):mu r f=mu p (mu q f):=by
 rw [<-Rr]
 exact Cm f r _ fun i=>by rw [h,U3]
theorem Gp:∀(p:List Int) (e:Int) (i:Nat),co (p++ [e]) i=if i=p.length then e else co p i
 | [],e,0=>by simp [co]
 | [],e,i+1=>by simp [co]
 | a::p,e,0=>by simp [Eb]
 | a::p,e,i+1=>by
   rw [cons_append,Dy,Dy,Gp p e i,length_cons]
   by_cases h:i=p.length<;>simp [h]
theorem P0 (p:List Int) (j:Nat) (x:Int) (h:j<p.length) (i:Nat):co (p.set j x) i=if i=j then x else co p i:=by
 unfold co
 rw [getD_eq_getElem?_getD,getD_eq_getElem?_getD,List.getElem?_set]
 by_cases e:j=i
 . subst e
   simp [h]
 . rw [if_neg e,if_neg (Ne.symm e)]
theorem Mw {p q:List Int} (h:∀i,co p i=co q i):trim p=trim q:=Vs (Bq q) fun i=>by rw [Bl,h]
theorem Ld (f:Nat->Int):∀(p:List Int) (e:Int) (i:Nat),mu (p++ [e]) f i=mu p f i+(if p.length<=i then e*f (i-p.length)else 0)
 | [],e,i=>by simp [mu,Pq]
 | a::p,e,0=>by simp [mu,sh]
 | a::p,e,i+1=>by
   simp only [cons_append,mu,sh,length_cons]
   rw [Ld f p e i]
   by_cases h:p.length<=i
   . rw [if_pos h,if_pos (by omega),show i+1-(p.length+1)=i-p.length by omega]
     omega
   . rw [if_neg h,if_neg (by omega)]
     omega
theorem Zh:∀(p q:List Int) (i:Nat),p≠ []->p.length+q.length<=i+1->mu p (co q) i=0
 | [],q,i,h,_=>absurd rfl h
 | [a],q,i,_,hl=>by
   simp only [length_cons,length_nil]at hl
   simp only [mu]
   rw [Ck (by omega),Pq]
   simp
 | a::b::p,q,0,_,hl=>by
   simp only [length_cons]at hl
   omega
 | a::b::p,q,i+1,_,hl=>by
   simp only [length_cons]at hl
   show a*co q (i+1)+mu (b::p) (co q) i=0
   rw [Ck (p:=q) (by omega)]
   rw [Zh (b::p) q i (by simp) (by simp only [length_cons];omega)]
   simp
theorem K9:∀(p q:List Int) (i:Nat),p≠ []->q≠ []->i+2=p.length+q.length->mu p (co q) i=co p (p.length-1)*co q (q.length-1)
 | [],q,i,h,_,_=>absurd rfl h
 | [a],q,i,_,hq,hl=>by
   simp only [length_cons,length_nil]at hl
   simp only [mu]
   rw [Pq]
   have e:i=q.length-1:=by omega
   subst e
   simp [Eb]
 | a::b::p,q,0,_,hq,hl=>by
   have:=length_pos_iff.mpr hq
   simp only [length_cons]at hl
   omega
 | a::b::p,q,i+1,_,hq,hl=>by
   simp only [length_cons]at hl
   show a*co q (i+1)+mu (b::p) (co q) i=_
   rw [Ck (p:=q) (by omega)]
   rw [K9 (b::p) q i (by simp) hq (by simp only [length_cons];omega)]
   simp [Dy]
noncomputable def tm (p q:List Int):List Int:=trim (ml p q)
noncomputable def ta (p q:List Int):List Int:=trim (al p q)
theorem Dz (p q:List Int) (i:Nat):co (tm p q) i=mu p (co q) i:=by rw [tm,Bl,U3]
theorem Ma (p q:List Int) (i:Nat):co (ta p q) i=co p i+co q i:=by rw [ta,Bl,Oz]
theorem Gw (p q:List Int):Tr (tm p q):=Bq _
theorem Qp (p q:List Int):Tr (ta p q):=Bq _
theorem Ja (p q:List Int):tm p q=tm q p:=(Gw _ _).ext (Gw _ _) fun i=>by rw [Dz,Dz,K8]
theorem Akg (p q:List Int):ta p q=ta q p:=(Qp _ _).ext (Qp _ _) fun i=>by rw [Ma,Ma,Int.add_comm]
theorem Z1 (p q r:List Int):tm (tm p q) r=tm p (tm q r):=(Gw _ _).ext (Gw _ _) fun i=>by
 rw [Dz,Dz,Afu (co r) (fun j=>Dz p q j)]
 exact congrFun (congrArg (mu p) (funext fun j=>(Dz q r j).symm)) i
theorem Apk (p q r:List Int):tm p (ta q r)=ta (tm p q) (tm p r):=(Gw _ _).ext (Qp _ _) fun i=>by
 rw [Dz,Ma,Dz,Dz,show co (ta q r)=fun j=>co q j+co r j from funext fun j=>Ma q r j,Qc]
theorem Aib {p:List Int} (h:Tr p):tm p [1]=p:=(Gw _ _).ext h fun i=>by
 rw [Dz,show co [1]=fun i=>if i=0 then 1 else 0 from by funext i;cases i<;>simp [co],Zi]
theorem Jb (p:List Int):tm p []=[]:=(Gw _ _).ext (.inl rfl) fun i=>by
 rw [Dz,show co []=fun _=>0 from by funext i;simp [co],Ru]
noncomputable def pw (p:List Int):Nat->List Int
 | 0=>[1]
 | k+1=>tm p (pw p k)
theorem Tw (p:List Int):∀k,Tr (pw p k)
 | 0=> .inr ⟨by simp [pw],by simp [pw]⟩
 | k+1=>Gw _ _
theorem Ahy (p:List Int):∀a b,tm (pw p a) (pw p b)=pw p (a+b)
 | 0,b=>by rw [pw,Ja,Aib (Tw p b),Nat.zero_add]
 | a+1,b=>by rw [pw,Z1,Ahy p a b,show a+1+b=(a+b)+1 by omega,pw]
theorem Amu {p:List Int} (h:Tr p):pw p 1=p:=by rw [pw,pw,Aib h]
noncomputable def ng (p:List Int) (c:Int):List Int:=trim (p.map (· *c))
theorem Jp (p:List Int) (c:Int) (i:Nat):co (ng p c) i=co p i*c:=by
 rw [ng,Bl]
 unfold co
 rw [getD_eq_getElem?_getD,getD_eq_getElem?_getD,getElem?_map]
 cases p[i]? <;>simp
theorem J4 {p q:List Int} (I:Tr p) (J:Tr q) (h1:p≠ []) (h2:q≠ []):(tm p q).length+1=p.length+q.length:=by
 have O:=length_pos_iff.mpr h1
 have S:=length_pos_iff.mpr h2
 have lead:co (tm p q) (p.length+q.length-2)≠0:=by
  rw [Dz,K9 p q _ h1 h2 (by omega)]
  exact mul_ne_zero (I.lead h1) (J.lead h2)
 have a:p.length+q.length-2<(tm p q).length:=by
  by_cases h:p.length+q.length-2<(tm p q).length
  . exact h
  . exact absurd (Ck (by omega)) lead
 have b:(tm p q).length<=p.length+q.length-1:=by
  by_cases h:(tm p q).length<=p.length+q.length-1
  . exact h
  . exfalso
    have M:tm p q≠ []:=fun z=>by rw [z]at h;simp at h
    have:=(Gw p q).lead M
    rw [Dz,Zh p q _ h1 (by omega)]at this
    exact this rfl
 omega
theorem Aes (p q:List Int):(ta p q).length<=max p.length q.length:=by
 by_cases z:ta p q=[]
 . rw [z];simp
 by_cases h:(ta p q).length<=max p.length q.length
 . exact h
 . exfalso
   have:=(Qp p q).lead z
   rw [Ma,Ck (by omega),Ck (by omega)]at this
   exact this rfl
noncomputable def gl:List Int->Nat
 | []=>0
 | a::r=>Int.gcd a (gl r)
theorem Acl:∀(L:List Int) (x:Int),x∈L->((gl L:Nat):Int)∣x
 | a::r,x,h=>by
   rcases mem_cons.mp h with rfl | h
   . exact Int.gcd_dvd_left ..
   . exact dvd_trans (Int.gcd_dvd_right ..) (Acl r x h)
theorem Acb (e m:Int):∀L:List Int,(∀x∈L,e∣m*x)->e∣m*(gl L:Nat)
 | [],_=>by simp [gl]
 | a::r,h=>by
   have h1:=h a (by simp)
   have h2:=Acb e m r fun x J=>h x (by simp [J])
   have I:=Int.dvd_coe_gcd h1 h2
   rw [Int.gcd_mul_left,natCast_mul]at I
   rw [gl]
   rcases Int.natAbs_eq m with z | z
   . rw [z];exact I
   . rw [z,neg_mul];exact dvd_neg.mpr I
noncomputable def Cop (s:Int) (a b:List Int):Prop:=∀e:Int,e∣s->(∀k,e∣co a k)->(∀k,e∣co b k)->e∣1
theorem Cop.gl {s:Int}{a b:List Int} (h:Cop s a b):Z.gl (s::(a++b))=1:=by
 have mem:=Acl (s::(a++b))
 have cd:∀(L:List Int),(∀x∈L,x∈s::(a++b))->∀k,((Z.gl (s::(a++b)):Nat):Int)∣co L k:=fun L M k=>by
  by_cases J:k<L.length
  . rw [Ef J];exact mem _ (M _ (getElem_mem J))
  . rw [Ck (by omega)];exact dvd_zero _
 have:=h _ (mem s (by simp)) (cd a fun x I=>by simp [I]) (cd b fun x I=>by simp [I])
 have h1:=le_of_dvd (by decide) this
 rcases Nat.eq_zero_or_pos (Z.gl (s::(a++b)))with z | z
 . rw [z]at this
   have:=zero_dvd.mp this
   omega
 . omega
theorem Aip {s m e:Int}{a b:List Int} (h:Cop s a b) (h1:e∣m*s) (h2:∀k,e∣m*co a k) (J:∀k,e∣m*co b k):e∣m:=by
 have:=Acb e m (s::(a++b)) fun x z=>by
  have I:∀(L:List Int),(∀k,e∣m*co L k)->x∈L->e∣m*x:=fun L M O=>by
   obtain⟨i,hi,ei⟩:=getElem_of_mem O
   have:=M i
   rw [Ef hi,ei]at this
   exact this
  rcases mem_cons.mp z with rfl | z
  . exact h1
  . rcases mem_append.mp z with z | z
    . exact I a h2 z
    . exact I b J z
 rw [h.gl]at this
 simpa using this
theorem Aen {l:Int} (h:l≠0):l.sign*l=(l.natAbs:Int):=by
 rcases lt_or_gt_of_ne h with h | h
 . rw [Int.sign_eq_neg_one_of_neg h];omega
 . rw [Int.sign_eq_one_of_pos h];omega
theorem Aoj (r l:Int) (O:l≠0):∃m f:Int,((l.natAbs:Nat):Int).fdiv ((Int.gcd r l:Nat):Int)=m/\(r*m).fdiv l=f/\1<=m/\r*m=f*l/\(∀e,e∣m->e∣f->e∣1)/\m.natAbs<=l.natAbs/\f.natAbs<=r.natAbs:=by
 have S:0<Int.gcd r l:=Int.gcd_pos_of_ne_zero_right r O
 obtain⟨J,M⟩:((Int.gcd r l:Nat):Int)∣r:=Int.gcd_dvd_left ..
 obtain⟨l',el⟩:((Int.gcd r l:Nat):Int)∣l:=Int.gcd_dvd_right ..
 have U:Int.gcd J l'=1:=by
  have h:Int.gcd r l=Int.gcd r l*Int.gcd J l':=by
   have:=Int.gcd_mul_left ((Int.gcd r l:Nat):Int) J l'
   rw [<-M,<-el,natAbs_natCast]at this
   exact this
  have:Int.gcd r l*1=Int.gcd r l*Int.gcd J l':=by rw [Nat.mul_one];exact h
  exact(Nat.eq_of_mul_eq_mul_left S this).symm
 generalize Int.gcd r l=g at*
 have I:l'≠0:=fun z=>O (by rw [el,z,Int.mul_zero])
 have W:((l.natAbs:Nat):Int).fdiv (g:Int)=(l'.natAbs:Nat):=by
  rw [el,natAbs_mul,natAbs_natCast,natCast_mul,Int.mul_fdiv_cancel_left _ (by omega)]
 refine⟨(l'.natAbs:Nat),J*l'.sign,W,?_,by omega,?_,?_,?_,?_⟩
 . have:r*(l'.natAbs:Nat)=(J*l'.sign)*l:=by
    rw [el]
    have h:=Int.sign_mul_natAbs l'
    have h2:l'.sign*l'=(l'.natAbs:Int):=Aen I
    rw [M,<-h2]
    grind
   rw [this,Int.mul_fdiv_cancel _ O]
 . have h2:l'.sign*l'=(l'.natAbs:Int):=Aen I
   rw [M,el,<-h2]
   grind
 . intro e h1 h2
   have Y:e∣l':=by
    rcases Int.natAbs_eq l' with z | z
    . rw [z];exact h1
    . rw [z];exact dvd_neg.mpr h1
   have Z:e∣J:=by
    have:e∣J*l'.sign*l'.sign:=dvd_trans h2 (dvd_mul_right _ _)
    rw [Int.mul_assoc,show l'.sign*l'.sign=1 by
     rcases lt_or_gt_of_ne I with h | h
     . rw [Int.sign_eq_neg_one_of_neg h];rfl
     . rw [Int.sign_eq_one_of_pos h];rfl,Int.mul_one]at this
    exact this
   have:=Int.dvd_coe_gcd Z Y
   rw [U]at this
   exact this
 . rw [natAbs_natCast,el,natAbs_mul,natAbs_natCast]
   exact le_mul_of_pos_left _ S
 . rw [M,natAbs_mul,natAbs_mul,natAbs_natCast]
   have:l'.sign.natAbs=1:=by
    rcases lt_or_gt_of_ne I with h | h
    . rw [Int.sign_eq_neg_one_of_neg h];rfl
    . rw [Int.sign_eq_one_of_pos h];rfl
   rw [this,Nat.mul_one]
   exact le_mul_of_pos_left _ S
structure DV (p q:List Int) (s:Int) (qs rs:List Int) (j:Nat):Prop where
 pos:1<=s
 eq:∀k,s*co p k=mu qs (co q) k+co rs k
 top:∀k,j+q.length<=k+1->co rs k=0
 low:∀k,k<j->co qs k=0
 cop:Cop s qs rs
theorem Ub (f:Nat->Int) (n:Nat):∀i,mu (replicate n 0) f i=0:=fun i=>by
 rw [Rt f _ fun i=>by unfold co;rw [getD_eq_getElem?_getD,getElem?_replicate];split<;>rfl]
theorem DV.start (p q:List Int) (z:q≠ []):DV p q 1 (replicate (p.length+1-q.length) 0) p (p.length+1-q.length):=by
 have I:0<q.length:=length_pos_iff.mpr z
 refine⟨Int.le_refl _,fun k=>by rw [Ub,Int.one_mul,zero_add],fun k h=>Ck (by omega),fun k h=> ?_,fun e h _ _=>h⟩
 unfold co
 rw [getD_eq_getElem?_getD,getElem?_replicate]
 split<;>rfl
theorem Uq (m:Int) (L:List Int) (k:Nat):co (L.map (· *m)) k=co L k*m:=by
 unfold co
 rw [getD_eq_getElem?_getD,getD_eq_getElem?_getD,getElem?_map]
 cases L[k]? <;>simp
theorem DV.step {p q:List Int}{s:Int}{z rs:List Int}{j:Nat} (h:DV p q s z rs (j+1)) (W:q≠ []) {m f:Int} (Y:1<=m) (Z:j<z.length) (ef:co rs (j+(q.length-1))*m=f*co q (q.length-1)) (cp:∀e,e∣m->e∣f->e∣1)
 {J:List Int} (O:∀k,co J k=co rs k*m-(if j<=k then f*co q (k-j)else 0)):DV p q (s*m) ((z.map (· *m)).set j f) J j:=by
 have hl:0<q.length:=length_pos_iff.mpr W
 have M:∀k,co ((z.map (· *m)).set j f) k=if k=j then f else co z k*m:=fun k=>by
  rw [P0 _ _ _ (by rw [length_map];exact Z),Uq]
 have sp:∀k,co ((z.map (· *m)).set j f) k=co (al (z.map (· *m)) (replicate j 0++ [f])) k:=fun k=>by
  rw [M,Oz,Uq,Gp,length_replicate]
  by_cases I:k=j
  . rw [if_pos I,if_pos I,I,h.low j (by omega)];simp
  . rw [if_neg I,if_neg I]
    have:co (replicate j (0:Int)) k=0:=by
     unfold co
     rw [getD_eq_getElem?_getD,getElem?_replicate]
     split<;>rfl
    rw [this,Int.add_zero]
 have ms:∀k,mu (z.map (· *m)) (co q) k=mu z (co q) k*m:=fun k=>by
  have e:z.map (· *m)=z.map (m* ·):=List.map_congr_left fun x _=>Int.mul_comm _ _
  rw [e,Gy,Int.mul_comm]
 refine⟨?_,fun k=> ?_,fun k I=> ?_,fun k I=> ?_,fun e h1 h2 h3=> ?_⟩
 . have:=Int.mul_le_mul h.pos Y (by decide) (by have:=h.pos;omega)
   omega
 . rw [Cm (co q) _ _ sp,Qk]
   dsimp only
   rw [Ld,Ub,ms,length_replicate,O]
   have:=h.eq k
   have e:s*m*co p k=(s*co p k)*m:=by grind
   rw [e,this]
   grind
 . rw [O,if_pos (by omega)]
   by_cases S:k=j+(q.length-1)
   . subst S
     rw [ef,show j+(q.length-1)-j=q.length-1 by omega]
     omega
   . rw [h.top k (by omega),Ck (show q.length<=k-j by omega)]
     simp
 . rw [M,if_neg (by omega),h.low k (by omega),Int.zero_mul]
 . have U:e∣f:=by have:=h2 j;rw [M,if_pos rfl]at this;exact this
   refine cp e (Aip h.cop (by rw [Int.mul_comm];exact h1) (fun k=> ?_) fun k=> ?_) U
   . by_cases I:k=j
     . rw [I,h.low j (by omega),Int.mul_zero];exact dvd_zero _
     . have:=h2 k
       rw [M,if_neg I]at this
       rw [Int.mul_comm]
       exact this
   . have a:=h3 k
     rw [O]at a
     have b:e∣(if j<=k then f*co q (k-j)else 0):=by
      split
      . exact dvd_trans U (dvd_mul_right _ _)
      . exact dvd_zero _
     have:=dvd_add a b
     rw [Int.sub_add_cancel,Int.mul_comm]at this
     exact this
theorem Ac3 (e:Int):∀(p:List Int) (f:Nat->Int) (i:Nat),(∀j,j<=i->e∣f j)->e∣mu p f i
 | [],_,_,_=>dvd_zero _
 | a::p,f,0,h=>by
   show e∣a*f 0+0
   rw [Int.add_zero]
   exact dvd_trans (h 0 (le_refl _)) (dvd_mul_left _ _)
 | a::p,f,i+1,h=>by
   show e∣a*f (i+1)+mu p f i
   exact dvd_add (dvd_trans (h _ (le_refl _)) (dvd_mul_left _ _)) (Ac3 e p f i fun j z=>h j (by omega))
theorem Rm {e:Int} (M:∀a b:Int,e∣a*b->e∣a\/e∣b):∀(p q:List Int),(∀k,e∣mu p (co q) k)->(∀k,e∣co p k)\/(∀k,e∣co q k)
 | [],_,_=> .inl fun k=>by rw [Bv];exact dvd_zero _
 | a::p,q,h=>by
   by_cases I:e∣a
   . have h2:∀k,e∣mu p (co q) k:=fun k=>by
      have:=h (k+1)
      have z:e∣a*co q (k+1):=dvd_trans I (dvd_mul_right _ _)
      exact(Int.dvd_add_right z).mp this
     rcases Rm M p q h2 with J | J
     . refine .inl fun k=> ?_
       cases k with
       | zero=>rw [Eb];exact I
       | succ k=>rw [Dy];exact J k
     . exact .inr J
   . refine .inr fun k=> ?_
     induction k using Nat.strongRecOn with
     | _ k O=>
       have z:=h k
       have s:e∣sh (mu p (co q)) k:=by
        cases k with
        | zero=>exact dvd_zero _
        | succ k=>exact Ac3 e p _ k fun j S=>O j (by omega)
       have:e∣a*co q k:=(Int.dvd_add_left s).mp z
       exact(M _ _ this).resolve_left I
theorem Zq:∀n:Nat,n≠1->∃r:Nat,2<=r/\r∣n/\∀a b:Int,(r:Int)∣a*b->(r:Int)∣a\/(r:Int)∣b:=fun n=>by
 have z:∀m:Nat,2<=m->∃r:Nat,2<=r/\r∣m/\∀a b:Int,(r:Int)∣a*b->(r:Int)∣a\/(r:Int)∣b:=fun m=>by
  induction m using Nat.strongRecOn with
  | _ m U=>
    intro W
    by_cases h:∃d,2<=d/\d<m/\d∣m
    . obtain⟨d,h1,h2,Y⟩:=h
      obtain⟨r,I,Z,J⟩:=U d h2 h1
      exact⟨r,I,Nat.dvd_trans Z Y,J⟩
    . refine⟨m,W,Nat.dvd_refl _,fun a b M=> ?_⟩
      by_cases O:(m:Int)∣a
      . exact .inl O
      . right
        have g1:Nat.gcd m a.natAbs=1:=by
         have S:Nat.gcd m a.natAbs∣m:=Nat.gcd_dvd_left ..
         have gl:=Nat.le_of_dvd (by omega) S
         have gp:=Nat.gcd_pos_of_pos_left a.natAbs (show 0<m by omega)
         by_cases e1:Nat.gcd m a.natAbs=1
         . exact e1
         . exfalso
           by_cases e2:Nat.gcd m a.natAbs=m
           . refine O (ofNat_dvd_left.mpr ?_)
             have:=Nat.gcd_dvd_right m a.natAbs
             rw [e2]at this
             exact this
           . exact h ⟨_,by omega,by omega,S⟩
        have hd:m∣a.natAbs*b.natAbs:=by
         have:=ofNat_dvd_left.mp M
         rwa [natAbs_mul]at this
        exact ofNat_dvd_left.mpr (Nat.Coprime.dvd_of_dvd_mul_left g1 hd)
 intro hn
 by_cases h0:n=0
 . subst h0
   obtain⟨r,I,_,J⟩:=z 2 (by decide)
   exact⟨r,I,Nat.dvd_zero _,J⟩
 . exact z n (by omega)
noncomputable def Prim (p:List Int):Prop:=∀e:Int,(∀k,e∣co p k)->e∣1
theorem Alf {p q r:List Int} (I:Prim p) (J:Prim q) (M:∀k,co r k=mu p (co q) k):Prim r:=fun e O=>by
 by_cases h1:e.natAbs=1
 . exact Int.natAbs_dvd.mp (by rw [h1];exact dvd_refl _)
 . exfalso
   obtain⟨t,W,S,tp⟩:=Zq e.natAbs h1
   have te:(t:Int)∣e:=ofNat_dvd_left.mpr S
   have z:∀s:List Int,Prim s->¬ ∀k,(t:Int)∣co s k:=fun s U h=>by
    have:=le_of_dvd (by decide) (U _ h)
    omega
   rcases Rm tp p q fun k=>by rw [<-M];exact dvd_trans te (O k)with h | h
   . exact z p I h
   . exact z q J h
theorem K7 {e m:Int}{p:List Int} (h:∀k,e∣m*co p k):e∣m*(gl p:Nat):=Acb e m p fun x z=>by
 obtain⟨i,hi,ei⟩:=getElem_of_mem z
 have:=h i
 rw [Ef hi,ei]at this
 exact this
theorem Afp (p:List Int) (k:Nat):((gl p:Nat):Int)∣co p k:=by
 by_cases z:k<p.length
 . rw [Ef z];exact Acl p _ (getElem_mem z)
 . rw [Ck (by omega)];exact dvd_zero _
theorem Prim.gl {p:List Int} (h:Prim p):Z.gl p=1:=by
 have:=h _ (Afp p)
 have h1:=le_of_dvd (by decide) this
 rcases Nat.eq_zero_or_pos (Z.gl p)with z | z
 . rw [z]at this
   have:=zero_dvd.mp this
   omega
 . omega
theorem Acm {p:List Int}{k:Nat} (h:co p k≠0):0<gl p:=by
 rcases Nat.eq_zero_or_pos (gl p)with z | z
 . have:=Afp p k
   rw [z]at this
   exact absurd (zero_dvd.mp this) h
 . exact z
theorem Agc {u v:List Int}{c d:Int} (M:c≠0) (I:d≠0) (O:Prim u) (hv:Prim v) (h:∀k,c*co u k=d*co v k) {a b:Nat} (ua:0<co u a) (S:∀k,a<k->co u k=0) (va:0<co v b) (U:∀k,b<k->co v k=0):c=d/\∀k,co u k=co v k:=by
 have cd:c∣d:=by
  have:=K7 (e:=c) (m:=d) (p:=v) fun k=>by rw [<-h];exact dvd_mul_right _ _
  rw [hv.gl]at this
  simpa using this
 have W:d∣c:=by
  have:=K7 (e:=d) (m:=c) (p:=u) fun k=>by rw [h];exact dvd_mul_right _ _
  rw [O.gl]at this
  simpa using this
 have Y:a=b:=by
  rcases Nat.lt_trichotomy a b with l | l | l
  . exfalso
    have:=h b
    rw [S b l,Int.mul_zero]at this
    rcases mul_eq_zero.mp this.symm with z | z
    . exact I z
    . omega
  . exact l
  . exfalso
    have:=h a
    rw [U a l,Int.mul_zero]at this
    rcases mul_eq_zero.mp this with z | z
    . exact M z
    . omega
 subst Y
 have Z:=h a
 have e:c=d:=by
  have n:c.natAbs=d.natAbs:=Nat.dvd_antisymm (natAbs_dvd_natAbs.mpr cd) (natAbs_dvd_natAbs.mpr W)
  rcases Int.natAbs_eq_natAbs_iff.mp n with z | z
  . exact z
  . exfalso
    rw [z,neg_mul]at Z
    have h0:d*(co u a+co v a)=0:=by rw [Int.mul_add];omega
    rcases mul_eq_zero.mp h0 with z | z
    . exact I z
    . omega
 refine⟨e,fun k=> ?_⟩
 have J:=h k
 rw [e]at J
 exact eq_of_mul_eq_mul_left I J
noncomputable def un (p:List Int):Int:=if co p (p.length-1)<0 then-(gl p:Nat)else(gl p:Nat)
noncomputable def pln (p:List Int):List Int:=p.map fun x=>x.fdiv (un p)
theorem Fw (p:List Int):(pln p).length=p.length:=by rw [pln,length_map]
theorem Ri {f:Int->Int} (h:f 0=0) (p:List Int) (k:Nat):co (p.map f) k=f (co p k):=by
 unfold co
 rw [getD_eq_getElem?_getD,getD_eq_getElem?_getD,getElem?_map]
 cases p[k]? <;>simp [h]
theorem Aid (p:List Int) (k:Nat):un p∣co p k:=by
 unfold un
 split
 . exact Int.neg_dvd.mpr (Afp p k)
 . exact Afp p k
theorem Tc {p:List Int} (z:Tr p) (h:p≠ []):un p≠0:=by
 have:=Acm (z.lead h)
 unfold un
 split<;>omega
theorem Jl {p:List Int} (z:Tr p) (h:p≠ []) (k:Nat):un p*co (pln p) k=co p k:=by
 rw [pln,Ri (f:=fun x=>x.fdiv (un p)) (Int.zero_fdiv _)]
 obtain⟨t,I⟩:=Aid p k
 rw [I,Int.mul_fdiv_cancel_left _ (Tc z h)]
theorem Ajq {p:List Int} (k:Nat) (z:p.length-1<k):co (pln p) k=0:=Ck (by rw [Fw];omega)
theorem Mj {p:List Int} (I:Tr p) (h:p≠ []):0<co (pln p) (p.length-1):=by
 have e:=Jl I h (p.length-1)
 have l:=I.lead h
 have g:=Acm l
 have z:co (pln p) (p.length-1)≠0:=fun z=>l (by rw [<-e,z,Int.mul_zero])
 by_cases J:co p (p.length-1)<0
 . have u:un p= -(gl p:Nat):=if_pos J
   rw [u]at e
   rcases lt_or_gt_of_ne z with y | y
   . have:=Int.mul_pos_of_neg_of_neg (show-((gl p:Nat):Int)<0 by omega) y
     omega
   . exact y
 . have u:un p=(gl p:Nat):=if_neg J
   rw [u]at e
   rcases lt_or_gt_of_ne z with y | y
   . have:=Int.mul_neg_of_pos_of_neg (show 0<((gl p:Nat):Int)by omega) y
     omega
   . exact y
theorem Kw {p:List Int} (z:Tr p):Tr (pln p):=by
 by_cases h:p=[]
 . subst h;exact .inl rfl
 . refine .of (.inr ?_)
   rw [Fw]
   have:=Mj z h
   omega
theorem Je {p:List Int} (z:Tr p) (h:p≠ []):Prim (pln p):=fun e I=>by
 have g:=Acm (z.lead h)
 have d:(gl p:Nat)*e∣1*(gl p:Nat):=K7 fun k=>by
  rw [Int.one_mul,<-Jl z h k]
  have:((gl p:Nat):Int)*e∣(gl p:Nat)*co (pln p) k:=Int.mul_dvd_mul (dvd_refl _) (I k)
  unfold un
  split
  . rw [neg_mul];exact dvd_neg.mpr this
  . exact this
 rw [Int.mul_comm 1]at d
 exact Int.dvd_of_mul_dvd_mul_left (by omega) d
theorem Adu {r v:List Int}{c:Int} (I:Tr r) (hv:Tr v) (pv:Prim v) (O:c≠0) (h:∀k,c*co v k=co r k) (n:v≠ []) (l:0<co v (v.length-1)):pln r=v:=by
 have J:r≠ []:=fun z=>by
  have:=h (v.length-1)
  rw [z,Bv]at this
  rcases mul_eq_zero.mp this with z | z<;>omega
 refine(Kw I).ext hv (Agc (Tc I J) O (Je I J) pv (fun k=>by rw [Jl I J,h]) (Mj I J) (fun k M=>Ajq k M) l fun k M=>Ck (by omega)).2
theorem Ajo {p q:List Int} (S:Tr p) (U:Tr q):pln (tm p q)=tm (pln p) (pln q):=by
 by_cases I:p=[]
 . subst I;rw [show pln []=[]from rfl];rfl
 by_cases J:q=[]
 . subst J;rw [show pln []=[]from rfl,Jb,Jb];rfl
 have c1:=Tc S I
 have c2:=Tc U J
 have lp:0<p.length:=length_pos_iff.mpr I
 have lq:0<q.length:=length_pos_iff.mpr J
 have M:pln p≠ []:=fun z=>by have:=Fw p;rw [z]at this;exact absurd this.symm (by simp;exact I)
 have W:pln q≠ []:=fun z=>by have:=Fw q;rw [z]at this;exact absurd this.symm (by simp;exact J)
 have lead:mu (pln p) (co (pln q)) (p.length+q.length-2)=co (pln p) (p.length-1)*co (pln q) (q.length-1):=by
  rw [K9 _ _ _ M W (by rw [Fw,Fw];omega),Fw,Fw]
 have O:0<mu (pln p) (co (pln q)) (p.length+q.length-2):=by
  rw [lead];exact Int.mul_pos (Mj S I) (Mj U J)
 have len:(tm (pln p) (pln q)).length=p.length+q.length-1:=by
  have t:=Gw (pln p) (pln q)
  have n:tm (pln p) (pln q)≠ []:=fun z=>by
   have:=Dz (pln p) (pln q) (p.length+q.length-2)
   rw [z,Bv]at this
   omega
  have l:=t.lead n
  have a:¬(tm (pln p) (pln q)).length<=p.length+q.length-2:=fun z=>by
   have:=Ck z
   rw [Dz]at this
   omega
  have b:¬p.length+q.length<=(tm (pln p) (pln q)).length:=fun z=>by
   rw [Dz,Zh _ _ _ M (by rw [Fw,Fw];omega)]at l
   exact l rfl
  omega
 refine Adu (c:=un p*un q) (Gw _ _) (Gw _ _) (Alf (Je S I) (Je U J) fun k=>Dz _ _ k) (fun z=>by rcases mul_eq_zero.mp z with z | z<;>contradiction) (fun k=> ?_) (fun z=>by rw [z,length_nil]at len;omega) (by rw [len,Dz,show p.length+q.length-1-1=p.length+q.length-2 by omega];exact O)
 have Y:∀k,co p k=co ((pln p).map (un p* ·)) k:=fun k=>by rw [Ga,Jl S I]
 have Z:co q=fun k=>un q*co (pln q) k:=funext fun k=>(Jl U J k).symm
 rw [Dz,Dz,Cm (co q) _ _ Y,Gy,Z,Lb,Int.mul_assoc]
theorem Amp {p:List Int} (J:Tr p) {c:Int} (S:c≠0) {r:List Int} (O:Tr r) (h:∀k,co r k=c*co p k):pln r=pln p:=by
 by_cases I:p=[]
 . subst I
   have:r=[]:=O.ext (.inl rfl) fun k=>by rw [h,Bv,Int.mul_zero]
   rw [this]
 . have M:pln p≠ []:=fun z=>by have:=Fw p;rw [z]at this;exact absurd this.symm (by simp;exact I)
   refine Adu (c:=c*un p) O (Kw J) (Je J I) (fun z=>by rcases mul_eq_zero.mp z with z | z;exact S z;exact Tc J I z) (fun k=> ?_) M (by rw [Fw];exact Mj J I)
   rw [h,<-Jl J I,Int.mul_assoc]
noncomputable def Exact (p q:List Int):Prop:=∃v:List Int,∀k,co p k=mu v (co q) k
theorem Ai7:∀(w q:List Int) (j:Nat),q≠ []->co q (q.length-1)≠0->(∀k,j+q.length<=k->mu w (co q) k=0)->co q (q.length-1)∣mu w (co q) (j+(q.length-1)):=by
 intro w q j I S h
 have U:0<q.length:=length_pos_iff.mpr I
 have M:Tr (trim w):=Bq w
 have e:∀k,mu (trim w) (co q) k=mu w (co q) k:=fun k=>congrFun (Cm (co q) _ _ (Bl w)) k
 rw [<-e]
 by_cases n:trim w=[]
 . rw [n];exact dvd_zero _
 . have l:=M.lead n
   have W:0<(trim w).length:=length_pos_iff.mpr n
   have J:=K9 (trim w) q ((trim w).length+q.length-2) n I (by omega)
   have O:co (trim w) ((trim w).length-1)*co q (q.length-1)≠0:=fun z=>by rcases mul_eq_zero.mp z with z | z<;>contradiction
   by_cases h1:j+1<(trim w).length
   . exfalso
     have:=h ((trim w).length+q.length-2) (by omega)
     rw [<-e,J]at this
     exact O this
   . by_cases h2:(trim w).length=j+1
     . rw [show j+(q.length-1)=(trim w).length+q.length-2 by omega,J]
       exact dvd_mul_left _ _
     . rw [Zh _ _ _ n (by omega)]
       exact dvd_zero _
theorem Ahm (q:List Int) (v u:List Int):∃w:List Int,∀k,mu w (co q) k=mu v (co q) k-mu u (co q) k:=by
 refine⟨al v (u.map (-1* ·)),fun k=> ?_⟩
 rw [Qk]
 dsimp only
 rw [Gy]
 dsimp only
 omega
theorem DV.exact_top {p q z rs:List Int}{j:Nat} (h:DV p q 1 z rs (j+1)) (I:q≠ []) (J:co q (q.length-1)≠0) (ex:Exact p q):co q (q.length-1)∣co rs (j+(q.length-1)):=by
 obtain⟨v,hv⟩:=ex
 obtain⟨w,M⟩:=Ahm q v z
 have e:∀k,co rs k=mu w (co q) k:=fun k=>by
  have:=h.eq k
  rw [M,<-hv]
  omega
 rw [e]
 refine Ai7 w q j I J fun k O=> ?_
 rw [<-e]
 exact h.top k (by omega)
theorem Agq {r l:Int} (z:l≠0) (h:l∣r):((l.natAbs:Nat):Int).fdiv ((Int.gcd r l:Nat):Int)=1:=by
 have:Int.gcd r l=l.natAbs:=Nat.gcd_eq_right (natAbs_dvd_natAbs.mpr h)
 rw [this]
 exact Int.fdiv_self (by omega)
theorem Afl {p q u r:List Int}{s:Int} (J:q≠ []) (S:co q (q.length-1)≠0) (h:∀k,s*co p k=mu u (co q) k+co r k) (s1:1<=s) (W:Tr r) (lr:r.length<q.length) (M:Cop s u r) (ex:Exact p q):s=1/\r=[]:=by
 obtain⟨v,hv⟩:=ex
 obtain⟨w,Y⟩:=Ahm q (v.map (s* ·)) u
 have e:∀k,co r k=mu w (co q) k:=fun k=>by
  have:=h k
  rw [Y,Gy]
  dsimp only
  rw [<-hv]
  omega
 have Z:∀k,co w k=0:=by
  have I:∀k,mu (trim w) (co q) k=mu w (co q) k:=fun k=>congrFun (Cm (co q) _ _ (Bl w)) k
  by_cases n:trim w=[]
  . intro k;rw [<-Bl,n,Bv]
  . exfalso
    have lw:0<(trim w).length:=length_pos_iff.mpr n
    have U:=K9 (trim w) q ((trim w).length+q.length-2) n J (by omega)
    rw [I,<-e,Ck (by omega)]at U
    rcases mul_eq_zero.mp U.symm with z | z
    . exact(Bq w).lead n z
    . exact S z
 have O:r=[]:=W.ext (.inl rfl) fun k=>by rw [e,Rt (co q) w Z,Bv]
 refine⟨?_,O⟩
 have us:∀k,co u k=s*co v k:=by
  have a:=fun k=>h k
  have d:∀k,mu (al u (v.map (-s* ·))) (co q) k=0:=fun k=>by
   rw [Qk]
   dsimp only
   rw [Gy]
   dsimp only
   rw [<-hv]
   have:=h k
   rw [O,Bv]at this
   rw [neg_mul]
   omega
  have x0:trim (al u (v.map (-s* ·)))=[]:=by
   by_cases n:trim (al u (v.map (-s* ·)))=[]
   . exact n
   . exfalso
     have I:=congrFun (Cm (co q) _ _ (Bl (al u (v.map (-s* ·))))) ((trim (al u (v.map (-s* ·)))).length+q.length-2)
     have lw:0<(trim (al u (v.map (-s* ·)))).length:=length_pos_iff.mpr n
     have lq:0<q.length:=length_pos_iff.mpr J
     rw [d,K9 _ q _ n J (by omega)]at I
     rcases mul_eq_zero.mp I with z | z
     . exact(Bq _).lead n z
     . exact S z
  intro k
  have:=Bl (al u (v.map (-s* ·))) k
  rw [x0,Bv,Oz,Ga,neg_mul]at this
  omega
 have:=M s (dvd_refl _) (fun k=>by rw [us];exact dvd_mul_right _ _) fun k=>by rw [O,Bv];exact dvd_zero _
 have:=le_of_dvd (by decide) this
 omega
section
variable {C:Type}
noncomputable def La (r:C->Int) (f:List C->Int):List C->Int
 | []=>0
 | c::cs=>r c*f cs-La r (fun x=>f (c::x)) cs
noncomputable def Dt:List (C->Int)->List C->Int
 | [],[]=>1
 | [],_::_=>0
 | r::rows,cs=>La r (Dt rows) cs
theorem Q8 (r:C->Int):∀z,La r (fun _=>0) z=0
 | []=>rfl
 | c::z=>by rw [La,Q8 r z];simp
theorem Abp (r:C->Int):∀(z:List C) (f g:List C->Int),La r (fun x=>f x+g x) z=La r f z+La r g z
 | [],f,g=>rfl
 | c::z,f,g=>by
   rw [La,La,La,Abp r z]
   grind
theorem T7 (r:C->Int) (k:Int):∀(z:List C) (f:List C->Int),La r (fun x=>k*f x) z=k*La r f z
 | [],f=>by simp [La]
 | c::z,f=>by
   rw [La,La,T7 r k z]
   grind
theorem Ag8 (r:C->Int) (z:List C) (f g:List C->Int):La r (fun x=>f x-g x) z=La r f z-La r g z:=by
 have h1:=Abp r z (fun x=>f x-g x) g
 have h2:(fun x=>f x-g x+g x)=f:=by funext x;omega
 rw [h2]at h1
 omega
theorem Abq (r s:C->Int):∀(z:List C) (f:List C->Int),La (fun c=>r c+s c) f z=La r f z+La s f z
 | [],f=>rfl
 | c::z,f=>by
   rw [La,La,La,Abq r s z]
   grind
theorem Abr (r:C->Int) (k:Int):∀(z:List C) (f:List C->Int),La (fun c=>k*r c) f z=k*La r f z
 | [],f=>by simp [La]
 | c::z,f=>by
   rw [La,La,Abr r k z]
   grind
theorem Y0:∀(z:List C) (f:List C->Int),La (fun _=>0) f z=0
 | [],f=>rfl
 | c::z,f=>by rw [La,Y0 z];simp
theorem Abs (r s:C->Int):∀(z:List C) (f:List C->Int),La r (La s f) z= -La s (La r f) z
 | [],f=>rfl
 | c::z,f=>by
   rw [La,La]
   have I:(fun x=>La s f (c::x))=fun x=>s c*f x-La s (fun y=>f (c::y)) x:=rfl
   have J:(fun x=>La r f (c::x))=fun x=>r c*f x-La r (fun y=>f (c::y)) x:=rfl
   rw [I,J,Ag8,Ag8,T7,T7,Abs r s z]
   grind
theorem Xe (r s:C->Int) (rows:List (C->Int)) (z:List C):Dt (r::s::rows) z= -Dt (s::r::rows) z:=Abs r s z (Dt rows)
theorem Ag5 {b:C->Int}:∀ {z:List (C->Int)},b∈z->∀I,Dt (b::z) I=0
 | x::xs,h,I=>by
   rcases mem_cons.mp h with rfl | h
   . have:=Xe b b xs I
     omega
   . rw [Xe]
     show-La x (Dt (b::xs)) I=0
     have e:Dt (b::xs)=fun _=>0:=by funext y;exact Ag5 h y
     rw [e,Q8]
     rfl
theorem Xd {rows:List (C->Int)} (h:∀I,Dt rows I=0):∀(z:List (C->Int)) (I:List C),Dt (z++rows) I=0
 | [],I=>h I
 | p::z,I=>by
   show La p (Dt (z++rows)) I=0
   have e:Dt (z++rows)=fun _=>0:=by funext y;exact Xd h z y
   rw [e,Q8]
theorem Abm (r s:C->Int) (z:List (C->Int)):∀(I:List (C->Int)) (J:List C),Dt (I++(fun c=>r c+s c)::z) J=Dt (I++r::z) J+Dt (I++s::z) J
 | [],J=>Abq r s J _
 | p::I,J=>by
   show La p (Dt (I++(fun c=>r c+s c)::z)) J=La p (Dt (I++r::z)) J+La p (Dt (I++s::z)) J
   rw [<-Abp]
   congr 1
   funext y
   exact Abm r s z I y
theorem Yz (r:C->Int) (k:Int) (z:List (C->Int)):∀(I:List (C->Int)) (J:List C),Dt (I++(fun c=>k*r c)::z) J=k*Dt (I++r::z) J
 | [],J=>Abr r k J _
 | p::I,J=>by
   show La p (Dt (I++(fun c=>k*r c)::z)) J=k*La p (Dt (I++r::z)) J
   rw [<-T7]
   congr 1
   funext y
   exact Yz r k z I y
inductive Sn (B:List (C->Int)):(C->Int)->Prop where
 | zero:Sn B (fun _=>0)
 | add (k:Int) {b v:C->Int} (hb:b∈B) (hv:Sn B v):Sn B (fun c=>k*b c+v c)
theorem Aoc {B:List (C->Int)}{v:C->Int} (s:Sn B v) (z:List (C->Int)) (M:∀b∈B,b∈z) (I:List (C->Int)) (J:List C):Dt (I++v::z) J=0:=by
 induction s with
 | zero=>exact Xd (rows:=(fun _=>0)::z) (fun J=>Y0 J _) I J
 | @add k b v O _ S=>
   rw [Abm (fun c=>k*b c) v z I J,S,Yz,Xd (Ag5 (M b O)) I J]
   simp
inductive Rel (k:Int) (B:List (C->Int)):List (C->Int)->List (C->Int)->Prop where
 | nil:Rel k B [] []
 | cons {a a' v:C->Int}{A A':List (C->Int)} (hv:Sn B v) (h:∀c,k*a c=a' c+v c) (t:Rel k B A A'):Rel k B (a::A) (a'::A')
theorem Ag4 {k:Int}{B:List (C->Int)}{A J:List (C->Int)} (h:Rel k B A J) (I:List C):∀z:List (C->Int),k^A.length*Dt (z++(A++B)) I=Dt (z++(J++B)) I:=by
 induction h with
 | nil=>intro z;simp
 | @cons a M v A J hv h t S=>
   intro z
   have e:(fun c=>k*a c)=fun c=>M c+v c:=funext h
   have U:k*Dt (z++a::(A++B)) I=Dt (z++M::(A++B)) I:=by
    rw [<-Yz,e,Abm,Aoc hv (A++B) (fun b W=>mem_append_right _ W),Int.add_zero]
   have O:=S (z++ [M])
   rw [append_assoc,append_assoc]at O
   show k^(A.length+1)*Dt (z++a::(A++B)) I=Dt (z++M::(J++B)) I
   rw [Int.pow_succ,Int.mul_assoc,U]
   exact O
theorem Ae6 {k:Int}{R:List (C->Int)} (B:List (C->Int)) (I:List C):∀z:List (C->Int),Dt (z++(R.map (fun r c=>k*r c)++B)) I=k^R.length*Dt (z++(R++B)) I:=by
 induction R with
 | nil=>intro z;simp
 | cons r R M=>
   intro z
   show Dt (z++(fun c=>k*r c)::(R.map (fun r c=>k*r c)++B)) I=k^(R.length+1)*Dt (z++r::(R++B)) I
   rw [Yz]
   have J:=M (z++ [r])
   rw [append_assoc,append_assoc]at J
   have O:Dt (z++r::(R.map (fun r c=>k*r c)++B)) I=k^R.length*Dt (z++r::(R++B)) I:=J
   rw [O,Int.pow_succ]
   grind
noncomputable def Sg (e:Int):Prop:=e=1\/e= -1
theorem Sg.mul {a b:Int} (z:Sg a) (I:Sg b):Sg (a*b):=by
 rcases z with rfl | rfl<;>rcases I with rfl | rfl<;>simp [Sg]
theorem Sg.sq {a:Int} (z:Sg a):a*a=1:=by rcases z with rfl | rfl<;>rfl
theorem Abn (a:C->Int) (z:List (C->Int)):∀B:List (C->Int),∃e,Sg e/\∀I,Dt (a::(B++z)) I=e*Dt (B++a::z) I
 | []=>⟨1,.inl rfl,fun I=>by simp⟩
 | b::B=>by
   obtain⟨e,J,h⟩:=Abn a z B
   refine⟨-e,by rcases J with rfl | rfl<;>simp [Sg],fun I=> ?_⟩
   show Dt (a::b::(B++z)) I=_
   rw [Xe]
   show-La b (Dt (a::(B++z))) I= -e*La b (Dt (B++a::z)) I
   have M:Dt (a::(B++z))=fun y=>e*Dt (B++a::z) y:=funext h
   rw [M,T7]
   grind
theorem Um (B:List (C->Int)):∀(A:List (C->Int)),∃e,Sg e/\∀z,Dt (A++B) z=e*Dt (B++A) z
 | []=>⟨1,.inl rfl,fun z=>by simp⟩
 | a::A=>by
   obtain⟨e,J,h⟩:=Um B A
   obtain⟨M,I,h'⟩:=Abn a A B
   refine⟨e*M,J.mul I,fun z=> ?_⟩
   show La a (Dt (A++B)) z=_
   have O:Dt (A++B)=fun y=>e*Dt (B++A) y:=funext h
   rw [O,T7]
   have:=h' z
   show e*Dt (a::(B++A)) z=_
   rw [this]
   grind
theorem Xc {c:C}:∀ {rows:List (C->Int)},(∀r∈rows,r c=0)->∀ {I:List C},c∈I->Dt rows I=0
 | [],_,c'::I,_=>rfl
 | r::rows,h,I,hc=>by
   have U:=h r mem_cons_self
   have W:∀ds:List C,c∈ds->Dt rows ds=0:=fun ds J=>Xc (fun x Y=>h x (mem_cons_of_mem _ Y)) J
   show La r (Dt rows) I=0
   have M:∀(I:List C) (f:List C->Int),c∈I->(∀ds,c∈ds->f ds=0)->La r f I=0:=fun I=>by
    induction I with
    | nil=>intro f h;cases h
    | cons d ds O=>
      intro f h S
      rw [La]
      by_cases J:c∈ds
      . rw [S ds J,O (fun x=>f (d::x)) J (fun e Z=>S _ (mem_cons_of_mem _ Z))]
        simp
      . have:c=d:=by
         rcases mem_cons.mp h with z | z
         . exact z
         . exact absurd z J
        subst this
        rw [U]
        have e:(fun x=>f (c::x))=fun _=>0:=by funext x;exact S _ mem_cons_self
        rw [e,Q8]
        simp
   exact M I (Dt rows) hc W
theorem Akv {c:C}{r:C->Int}{rows:List (C->Int)} (h:∀s∈rows,s c=0) (z:List C):Dt (r::rows) (c::z)=r c*Dt rows z:=by
 show La r (Dt rows) (c::z)=_
 rw [La]
 have e:(fun x=>Dt rows (c::x))=fun _=>0:=by funext x;exact Xc h mem_cons_self
 rw [e,Q8]
 simp
theorem Ag3 (r:C->Int) (c:C):Dt [r] [c]=r c:=by simp [Dt,La]
end
noncomputable def shr (a:Nat) (F:Nat->Nat->Int):Nat × Nat->Int:=fun c=>if a<=c.2 then F c.1 (c.2-a)else 0
noncomputable def blk (F:Nat->Nat->Int):Nat->List (Nat × Nat->Int)
 | 0=>[]
 | a+1=>shr a F::blk F a
theorem O1 (F:Nat->Nat->Int):∀a,(blk F a).length=a
 | 0=>rfl
 | a+1=>by rw [blk,length_cons,O1 F a]
theorem Aij {F:Nat->Nat->Int}{a s:Nat} (h:s<a):shr s F∈blk F a:=by
 induction a with
 | zero=>omega
 | succ a z=>
   rw [blk]
   by_cases e:s=a
   . subst e;exact mem_cons_self
   . exact mem_cons_of_mem _ (z (by omega))
theorem Nb {F:Nat->Nat->Int}{r:Nat × Nat->Int}:∀ {a:Nat},r∈blk F a->∃s,s<a/\r=shr s F
 | 0,h=>by cases h
 | a+1,h=>by
   rcases mem_cons.mp h with rfl | h
   . exact⟨a,by omega,rfl⟩
   . obtain⟨s,h1,h2⟩:=Nb h
     exact⟨s,by omega,h2⟩
noncomputable def dn (lo:Nat):Nat->List (Nat × Nat)
 | 0=>[]
 | b+1=>(0,lo+b)::dn lo b
noncomputable def Dg (F:Nat->Nat->Int) (n:Nat):Prop:=∀i,n<=i->F 0 i=0
theorem peel {G:Nat->Nat->Int}{m t lo b K:Nat}{rest:List (Nat × Nat->Int)}{l:Nat × Nat} (I:Dg G (m+1)) (J:∀r∈rest,∀i,K<=i->r (0,i)=0) (e:lo+b=m+t) (O:K<=m+t):
 ∀u,Dt (blk G (t+u)++rest) (dn lo (b+u)++ [l])=G 0 m^u*Dt (blk G t++rest) (dn lo b++ [l])
 | 0=>by simp
 | u+1=>by
   show Dt (shr (t+u) G::(blk G (t+u)++rest)) ((0,lo+(b+u))::(dn lo (b+u)++ [l]))=_
   rw [Akv]
   . rw [peel I J e O u]
     have S:shr (t+u) G (0,lo+(b+u))=G 0 m:=by
      unfold shr
      rw [if_pos (show t+u<=lo+(b+u)by omega)]
      show G 0 (lo+(b+u)-(t+u))=_
      rw [show lo+(b+u)-(t+u)=m by omega]
     rw [S,Int.pow_succ]
     grind
   . intro s z
     rcases mem_append.mp z with z | z
     . obtain⟨M,h1,rfl⟩:=Nb z
       unfold shr
       rw [if_pos (show M<=lo+(b+u)by omega)]
       exact I _ (by show m+1<=lo+(b+u)-M;omega)
     . exact J s z _ (by omega)
noncomputable def Sr (j:Nat) (F:Nat->Nat->Int) (n:Nat) (G:Nat->Nat->Int) (m:Nat) (l:Nat × Nat):Int:=Dt (blk F (m-j)++blk G (n-j)) (dn (j+1) (n+m-2*j-1)++ [l])
theorem Ana (G:Nat->Nat->Int):∀(q:List Int) (s b:Nat),s+q.length<=b->Sn (blk G b) (shr s fun c=>mu q (G c))
 | [],s,b,_=>by
   have e:(shr s fun c=>mu [] (G c))=fun _=>0:=by
    funext c
    unfold shr
    split<;>rfl
   rw [e]
   exact .zero
 | a::q,s,b,h=>by
   have e:(shr s fun c=>mu (a::q) (G c))=fun c=>a*shr s G c+(shr (s+1) fun c=>mu q (G c)) c:=by
    funext c
    unfold shr
    by_cases h1:s+1<=c.2
    . rw [if_pos (by omega),if_pos (by omega),if_pos h1]
      show a*G c.1 (c.2-s)+sh (mu q (G c.1)) (c.2-s)=_
      rw [show c.2-s=(c.2-(s+1))+1 by omega]
      rfl
    . by_cases h2:s<=c.2
      . rw [if_pos h2,if_pos h2,if_neg h1]
        show a*G c.1 (c.2-s)+sh (mu q (G c.1)) (c.2-s)=_
        rw [show c.2-s=0 by omega]
        rfl
      . rw [if_neg h2,if_neg h2,if_neg h1]
        simp
   rw [e]
   rw [length_cons]at h
   exact .add a (Aij (by omega)) (Ana G q (s+1) b (by omega))
theorem Yn {F G R:Nat->Nat->Int}{L:Int}{q:List Int}{b:Nat} (h:∀c i,L*F c i=R c i+mu q (G c) i):∀a,a+q.length<=b+1->Rel L (blk G b) (blk F a) (blk R a)
 | 0,_=> .nil
 | a+1,hb=>by
   refine .cons (Ana G q a b (by omega)) (fun c=> ?_) (Yn h a (by omega))
   unfold shr
   split
   . exact h _ _
   . simp
theorem Z7 {R:Nat->Nat->Int}{k a:Nat} (z:Dg R k):∀r∈blk R a,∀i,k+a<=i+1->r (0,i)=0:=fun r I i hi=>by
 obtain⟨s,h1,rfl⟩:=Nb I
 unfold shr
 split
 . exact z _ (by show k<=i-s;omega)
 . rfl
section
variable {F G R:Nat->Nat->Int}{n m k:Nat}{L:Int}{q:List Int}
theorem Aj8 (z:Dg G (m+1)) (I:Dg R (k+1)) (h:∀c i,L*F c i=R c i+mu q (G c) i) (W:q.length<=n-m+1) (J:m<=n) (j:Nat) (Y:j<m) (Z:j<=k) (M:k<m):
 ∃e,Sg e/\∀l,L^(m-j)*Sr j F n G m l=e*(G 0 m^(n-k)*Sr j G m R k l):=by
 obtain⟨e,O,S⟩:=Um (blk G (n-j)) (blk R (m-j))
 refine⟨e,O,fun l=> ?_⟩
 unfold Sr
 have h1:=Ag4 (Yn (F:=F) (G:=G) (R:=R) h (m-j) (b:=n-j) (by omega)) (dn (j+1) (n+m-2*j-1)++ [l]) []
 rw [O1,nil_append,nil_append]at h1
 rw [h1,S]
 have h2:=peel (G:=G) (m:=m) (t:=k-j) (lo:=j+1) (b:=m+k-2*j-1) (K:=k+1+(m-j)-1) (rest:=blk R (m-j)) (l:=l) z (fun r U i hi=>Z7 I r U i (by omega)) (by omega) (by omega) (n-k)
 rw [show k-j+(n-k)=n-j by omega,show m+k-2*j-1+(n-k)=n+m-2*j-1 by omega]at h2
 rw [h2]
theorem Aj7 (I:Dg G (m+1)) (J:Dg R m) (h:∀c i,L*F c i=R c i+mu q (G c) i) (W:q.length<=n-m+1) (M:m<=n) (Y:1<=m):
 ∃e,Sg e/\∀l:Nat × Nat,L*Sr (m-1) F n G m l=e*(G 0 m^(n-m+1)*R l.1 l.2):=by
 obtain⟨e,O,z⟩:=Um (blk G (n-(m-1))) (blk R (m-(m-1)))
 refine⟨e,O,fun l=> ?_⟩
 unfold Sr
 have h1:=Ag4 (Yn (F:=F) (G:=G) (R:=R) h (m-(m-1)) (b:=n-(m-1)) (by omega)) (dn (m-1+1) (n+m-2*(m-1)-1)++ [l]) []
 rw [O1,nil_append,nil_append]at h1
 have S:m-(m-1)=1:=by omega
 rw [S]at h1 z ⊢
 rw [Int.pow_succ,Int.pow_zero,Int.one_mul]at h1
 rw [h1,z]
 have h2:=peel (G:=G) (m:=m) (t:=0) (lo:=m-1+1) (b:=0) (K:=m) (rest:=blk R 1) (l:=l) I (fun r U i hi=>Z7 J r U i (by omega)) (by omega) (by omega) (n-m+1)
 rw [show 0+(n-m+1)=n-(m-1)by omega]at h2
 rw [show n+m-2*(m-1)-1=n-(m-1)by omega,h2]
 congr 1
 congr 1
 show Dt [shr 0 R] [l]=_
 rw [Ag3]
 rfl
theorem Anc (z:Dg G (m+1)) (I:m<n) (l:Nat × Nat):Sr m F n G m l=G 0 m^(n-m-1)*G l.1 l.2:=by
 unfold Sr
 rw [sub_self]
 show Dt ([]++blk G (n-m)) _=_
 rw [nil_append]
 have h2:=peel (G:=G) (m:=m) (t:=1) (lo:=m+1) (b:=0) (K:=0) (rest:=[]) (l:=l) z (fun r J=>by cases J) (by omega) (by omega) (n-m-1)
 rw [show 1+(n-m-1)=n-m by omega,append_nil,append_nil]at h2
 rw [show n+m-2*m-1=0+(n-m-1)by omega,h2]
 congr 1
 show Dt [shr 0 G] [l]=_
 rw [Ag3]
 rfl
theorem V6 (T:Nat->Nat->Int) (z:Int):∀a,blk (fun c i=>z*T c i) a=(blk T a).map fun r c=>z*r c
 | 0=>rfl
 | a+1=>by
   rw [blk,blk,map_cons,V6 T z a]
   congr 1
   funext c
   unfold shr
   split<;>simp
theorem Agp (T:Nat->Nat->Int) (z:Int) (j:Nat) (l:Nat × Nat):Sr j G m (fun c i=>z*T c i) k l=z^(m-j)*Sr j G m T k l:=by
 unfold Sr
 rw [V6]
 have h:=Ae6 (k:=z) (R:=blk T (m-j)) [] (dn (j+1) (m+k-2*j-1)++ [l]) (blk G (k-j))
 rw [append_nil,append_nil,O1]at h
 exact h
end
theorem Oc {a:Int} (h:a≠0):∀n:Nat,a^n≠0
 | 0=>by simp
 | n+1=>by
   rw [Int.pow_succ]
   exact mul_ne_zero (Oc h n) h
noncomputable def Chn (F1:Nat->Nat->Int) (n1:Nat) (F2:Nat->Nat->Int) (n2:Nat) (F:Nat->Nat->Int) (n:Nat) (G:Nat->Nat->Int) (m:Nat) (l h:Int):Prop:=
 ∀j,j<=m->j<n->∃e,Sg e/\∀c,h^(n-j-1)*l^(m-j)*Sr j F1 n1 F2 n2 c=e*Sr j F n G m c
theorem Chn.start (F1:Nat->Nat->Int) (n1:Nat) (F2:Nat->Nat->Int) (n2:Nat):Chn F1 n1 F2 n2 F1 n1 F2 n2 1 1:=fun j _ _=>⟨1,.inl rfl,fun c=>by rw [Int.one_pow,Int.one_pow];simp⟩
section
variable {F1 F2 F G R T:Nat->Nat->Int}{n1 n2 n m k:Nat}{l h lg h':Int}{q:List Int}
theorem Chn.rest (ch:Chn F1 n1 F2 n2 F n G m l h) (S:Dg G (m+1)) (U:Dg R m) (W:q.length<=n-m+1) (J:m<=n) (Y:1<=m) (Z:G 0 m≠0)
 (eq:∀c i,G 0 m^(n-m+1)*F c i=R c i+mu q (G c) i):∃e,Sg e/\∀c i,R c i=l*h^(n-m)*(e*Sr (m-1) F1 n1 F2 n2 (c,i)):=by
 obtain⟨e,O,h1⟩:=ch (m-1) (by omega) (by omega)
 obtain⟨z,I,h2⟩:=Aj7 (F:=F) (n:=n) S U eq W J Y
 refine⟨e*z,O.mul I,fun c i=> ?_⟩
 have M:=h1 (c,i)
 have a2:=h2 (c,i)
 rw [show n-(m-1)-1=n-m by omega,show m-(m-1)=1 by omega,Int.pow_succ,Int.pow_zero,Int.one_mul]at M
 have hp:=Oc Z (n-m+1)
 generalize G 0 m^(n-m+1)=L at*
 generalize Sr (m-1) F n G m (c,i)=s at*
 have a3:s=z*R c i:=by
  have:L*s=L*(z*R c i):=by rw [a2];grind
  exact eq_of_mul_eq_mul_left hp this
 rw [a3]at M
 have s1:=O.sq
 have s2:=I.sq
 have:e*z*(h^(n-m)*l*Sr (m-1) F1 n1 F2 n2 (c,i))=R c i:=by
  rw [M]
  have:e*z*(e*(z*R c i))=(e*e)*(z*z)*R c i:=by grind
  rw [this,s1,s2]
  simp
 rw [<-this]
 grind
theorem Chn.height (ch:Chn F1 n1 F2 n2 F n G m l h) (M:Dg G (m+1)) (z:m<n):∃e,Sg e/\h^(n-m-1)*(e*Sr m F1 n1 F2 n2 (0,m))=G 0 m^(n-m):=by
 obtain⟨e,I,h1⟩:=ch m (le_refl _) z
 refine⟨e,I,?_⟩
 have J:=h1 (0,m)
 rw [sub_self,Int.pow_zero,Int.mul_one,Anc M z]at J
 have O:=I.sq
 have S:G 0 m^(n-m)=G 0 m^(n-m-1)*G 0 m:=by
  rw [<-Int.pow_succ,show(n-m-1).succ=n-m by omega]
 rw [S]
 have:h^(n-m-1)*(e*Sr m F1 n1 F2 n2 (0,m))=e*(h^(n-m-1)*Sr m F1 n1 F2 n2 (0,m)):=by grind
 rw [this,J]
 have:e*(e*(G 0 m^(n-m-1)*G 0 m))=(e*e)*(G 0 m^(n-m-1)*G 0 m):=by grind
 rw [this,O]
 simp
theorem Chn.next (ch:Chn F1 n1 F2 n2 F n G m l h) (hG:Dg G (m+1)) (hT:Dg T (k+1)) (hq:q.length<=n-m+1) (O:m<=n) (U:k<m) (hl:G 0 m≠0) (l0:l≠0) (h0:h≠0)
 (eq:∀c i,G 0 m^(n-m+1)*F c i=l*h^(n-m)*T c i+mu q (G c) i) (I:(n=m/\h'=h)\/(m<n/\h^(n-m-1)*h'=G 0 m^(n-m))):Chn F1 n1 F2 n2 G m T k (G 0 m) h':=by
 intro j hj W
 obtain⟨e,he,h1⟩:=ch j (by omega) (by omega)
 obtain⟨e',J,h2⟩:=Aj8 (F:=F) (n:=n) (R:=fun c i=>l*h^(n-m)*T c i) (k:=k) hG (fun i hi=>by show l*h^(n-m)*T 0 i=0;rw [hT i hi];simp) eq hq O j W hj U
 refine⟨e*e',he.mul J,fun c=> ?_⟩
 have a1:=h1 c
 have M:=h2 c
 rw [Agp]at M
 generalize Sr j F1 n1 F2 n2 c=S at*
 generalize Sr j F n G m c=s at*
 generalize Sr j G m T k c=s' at*
 generalize a5:G 0 m=lg at*
 have s1:=he.sq
 have s2:=J.sq
 obtain⟨E,hE⟩:∃E,m-j=E+1:=⟨m-j-1,by omega⟩
 obtain⟨d,hd⟩:∃d,n-m=d:=⟨_,rfl⟩
 have Y:n-j-1=d+E:=by omega
 have Z:n-k+(k-j)=d+E+1:=by omega
 rw [hE,hd]at M
 rw [hE,Y]at a1
 rw [show m-j-1=E by omega]
 rw [hd]at I
 have a0:lg^(n-k)*h^(d*(E+1))*(h'^E*lg^(k-j))=(lg^(d+1))^(E+1)*h^(d+E):=by
  have p1:lg^(n-k)*lg^(k-j)=lg^(d+E+1):=by rw [<-Int.pow_add,Z]
  rcases I with⟨hz,rfl⟩ | ⟨hz,I⟩
  . have d0:d=0:=by omega
    subst d0
    rw [Nat.zero_mul,Int.pow_zero,Int.mul_one,Nat.zero_add,Nat.zero_add,Int.pow_one]
    rw [Nat.zero_add]at p1
    rw [<-p1]
    grind
  . obtain⟨z,a3⟩:∃z,d=z+1:=⟨d-1,by omega⟩
    subst a3
    rw [show z+1-1=z by omega]at I
    have p2:(h^z*h')^E=(lg^(z+1))^E:=by rw [I]
    rw [Int.mul_pow]at p2
    have p3:h^((z+1)*(E+1))=(h^z)^E*h^(z+1+E):=by
     rw [<-pow_mul,<-Int.pow_add]
     congr 1
     rw [add_mul,mul_add]
     omega
    have p4:(lg^(z+1+1))^(E+1)=(lg^(z+1))^E*lg^(z+1+E+1):=by
     rw [<-pow_mul,<-pow_mul,<-Int.pow_add]
     congr 1
     rw [add_mul,mul_add]
     omega
    rw [p3,p4,<-p2,<-p1]
    grind
 have big:lg^(n-k)*h^(d*(E+1))≠0:=mul_ne_zero (Oc hl _) (Oc h0 _)
 have a4:l^(E+1)≠0:=Oc l0 _
 have b1:(l*h^d)^(E+1)=l^(E+1)*h^(d*(E+1)):=by rw [Int.mul_pow,<-pow_mul]
 rw [b1]at M
 refine eq_of_mul_eq_mul_left big ?_
 refine eq_of_mul_eq_mul_left a4 ?_
 have c1:l^(E+1)*(lg^(n-k)*h^(d*(E+1))*(h'^E*lg^(k-j)*S))=(lg^(d+1))^(E+1)*(h^(d+E)*l^(E+1)*S):=by
  have:l^(E+1)*(lg^(n-k)*h^(d*(E+1))*(h'^E*lg^(k-j)*S))=(lg^(n-k)*h^(d*(E+1))*(h'^E*lg^(k-j)))*l^(E+1)*S:=by grind
  rw [this,a0]
  grind
 rw [c1,a1]
 have c2:(lg^(d+1))^(E+1)*(e*s)=e*((lg^(d+1))^(E+1)*s):=by grind
 rw [c2,M]
 grind
end
theorem Ag7 {C:Type}{r:C->Int}{M B:Nat} (I:∀c,(r c).natAbs<=M):∀(z:List C) (f:List C->Int),(∀ds,ds.length+1=z.length->(f ds).natAbs<=B)->(La r f z).natAbs<=z.length*(M*B)
 | [],f,_=>by simp [La]
 | c::z,f,h=>by
   rw [La]
   have h1:(f z).natAbs<=B:=h z (by simp)
   have h2:=Ag7 I z (fun x=>f (c::x)) fun ds J=>h (c::ds) (by simp;omega)
   have O:(r c*f z).natAbs<=M*B:=by rw [natAbs_mul];exact mul_le_mul (I c) h1
   rw [length_cons,succ_mul]
   omega
theorem Ag2 {C:Type}{M L:Nat} (I:1<=L*M):∀(rows:List (C->Int)) (z:List C),(∀r∈rows,∀c,(r c).natAbs<=M)->z.length<=L->(Dt rows z).natAbs<=(L*M)^rows.length
 | [],[],_,_=>by simp [Dt]
 | [],_::_,_,_=>by simp [Dt]
 | r::rows,z,h,hl=>by
   show(La r (Dt rows) z).natAbs<=_
   have h1:=Ag7 (r:=r) (M:=M) (B:=(L*M)^rows.length) (h r mem_cons_self) z (Dt rows) fun ds O=>Ag2 I rows ds (fun s J=>h s (mem_cons_of_mem _ J)) (by omega)
   rw [length_cons,Nat.pow_succ,Nat.mul_comm _ (L*M)]
   refine le_trans h1 ?_
   rw [Nat.mul_assoc]
   exact mul_le_mul_right _ hl
theorem Ahi (lo:Nat):∀b,(dn lo b).length=b
 | 0=>rfl
 | b+1=>by rw [dn,length_cons,Ahi lo b]
theorem Aeo {F:Nat->Nat->Int}{M:Nat} (h:∀c i,(F c i).natAbs<=M) (a:Nat) (c:Nat × Nat):(shr a F c).natAbs<=M:=by
 unfold shr
 split
 . exact h _ _
 . simp
theorem Ah9 {F G:Nat->Nat->Int}{n m j b:Nat} (I:∀c i,(F c i).natAbs<=2^b) (J:∀c i,(G c i).natAbs<=2^b) (U:j<=n) (W:j<=m) (O:n+m-2*j<=64) (c:Nat × Nat):(Sr j F n G m c).natAbs<=2^((b+6)*(n+m-2*j)):=by
 unfold Sr
 have e:(2:Nat)^6*2^b=2^(b+6):=by rw [<-pow_add,Nat.add_comm]
 have S:1<=2^6*2^b:=by rw [e];exact Nat.one_le_two_pow
 have h:=Ag2 (M:=2^b) (L:=2^6) S (blk F (m-j)++blk G (n-j)) (dn (j+1) (n+m-2*j-1)++ [c]) (fun r z c=>by
  rcases mem_append.mp z with z | z
  . obtain⟨s,_,rfl⟩:=Nb z
    exact Aeo I _ _
  . obtain⟨s,_,rfl⟩:=Nb z
    exact Aeo J _ _) (by rw [length_append,Ahi,length_singleton];show _<=64;omega)
 rw [length_append,O1,O1,e,<-Nat.pow_mul]at h
 rw [show m-j+(n-j)=n+m-2*j by omega]at h
 exact h
theorem Aj9 {F G:Nat->Nat->Int}{n m j l:Nat} (I:∀c i,l<=i->F c i=0) (J:∀c i,l<=i->G c i=0) (O:n<l) (S:m<l) (c i:Nat) (hi:2*l<=i):Sr j F n G m (c,i)=0:=by
 unfold Sr
 refine Xc (c:=(c,i)) (fun r z=> ?_) (by simp)
 rcases mem_append.mp z with z | z
 . obtain⟨s,M,rfl⟩:=Nb z
   unfold shr
   split
   . exact I _ _ (by show l<=i-s;omega)
   . rfl
 . obtain⟨s,M,rfl⟩:=Nb z
   unfold shr
   split
   . exact J _ _ (by show l<=i-s;omega)
   . rfl
theorem Aiw (x y:Nat):4*(x*y)<=(x+y)*(x+y):=by
 rcases Nat.le_total x y with h | h
 . obtain⟨d,rfl⟩:=Nat.exists_eq_add_of_le h
   have:(x+(x+d))*(x+(x+d))=4*(x*(x+d))+d*d:=by grind
   omega
 . obtain⟨d,rfl⟩:=Nat.exists_eq_add_of_le h
   have:(y+d+y)*(y+d+y)=4*((y+d)*y)+d*d:=by grind
   omega
theorem Aai {l b x n1 n2 s:Nat} (h1:n1<l) (h2:n2<l) (O:x<=n1) (z:s<=x):2*(s*((b+6)*(n1+n2-2*x)+1))<=l*l*(b+6)+2*l:=by
 by_cases S:n1+n2<=2*x
 . rw [show n1+n2-2*x=0 by omega]
   have:=zero_le (l*l*(b+6))
   omega
 . have I:2*(x*(n1+n2-2*x))<=l*l:=by
    have J:=Aiw (2*x) (n1+n2-2*x)
    have M:2*x+(n1+n2-2*x)=n1+n2:=by omega
    rw [M]at J
    have U:(n1+n2)*(n1+n2)<=(2*l)*(2*l):=mul_le_mul (by omega) (by omega)
    have W:4*(2*x*(n1+n2-2*x))=4*(2*(x*(n1+n2-2*x))):=by rw [Nat.mul_assoc]
    have Y:(2*l)*(2*l)=4*(l*l):=by grind
    omega
   have Z:s*((b+6)*(n1+n2-2*x))<=x*((b+6)*(n1+n2-2*x)):=mul_le_mul_right _ z
   have e3:x*((b+6)*(n1+n2-2*x))=(x*(n1+n2-2*x))*(b+6):=by grind
   have e4:=mul_le_mul_right (b+6) I
   have e5:2*(x*(n1+n2-2*x))*(b+6)=2*(x*(n1+n2-2*x)*(b+6)):=by rw [Nat.mul_assoc]
   rw [mul_add,Nat.mul_one]
   omega
noncomputable def Dv (d f:List Int):Prop:=∃(c:Int) (u:List Int),c≠0/\∀i,c*co f i=mu u (co d) i
theorem Kv (a:Int) (u:List Int) (f:Nat->Int) (i:Nat):mu (u.map (a* ·)) f i=a*mu u f i:=congrFun (Gy f a u) i
theorem N5 {f g:Nat->Int} (h:∀i,f i=g i) (p:List Int) (i:Nat):mu p f i=mu p g i:=by
 have:f=g:=funext h
 rw [this]
theorem Dv.nil (d:List Int):Dv d []:=⟨1,[],by decide,fun i=>by rw [Bv];rfl⟩
theorem Dv.refl (d:List Int):Dv d d:=⟨1,[1],by decide,fun i=>by
 show 1*co d i=1*co d i+sh (mu [] (co d)) i
 have:sh (mu [] (co d)) i=0:=by cases i<;>rfl
 omega⟩
theorem Dv.congr {d f g:List Int} (h:Dv d f) (e:∀i,co f i=co g i):Dv d g:=by
 obtain⟨c,u,z,I⟩:=h
 exact⟨c,u,z,fun i=>by rw [<-e];exact I i⟩
theorem Dv.trans {d f g:List Int} (h1:Dv d f) (h2:Dv f g):Dv d g:=by
 obtain⟨c,u,z,I⟩:=h1
 obtain⟨e,v,J,hv⟩:=h2
 refine⟨c*e,ml v u,mul_ne_zero z J,fun i=> ?_⟩
 rw [Rr]
 have:mu v (fun k=>c*co f k) i=c*mu v (co f) i:=congrFun (Lb v c (co f)) i
 rw [<-N5 I v i,this,<-hv]
 rw [Int.mul_assoc]
theorem Dv.comb {d f g h:List Int} (J:Dv d f) (M:Dv d g) {k:Int} (O:k≠0) {a b:List Int} (e:∀i,k*co h i=mu a (co f) i+mu b (co g) i):Dv d h:=by
 obtain⟨c,u,S,U⟩:=J
 obtain⟨z,v,I,hv⟩:=M
 refine⟨c*z*k,al ((ml a u).map (z* ·)) ((ml b v).map (c* ·)),mul_ne_zero (mul_ne_zero S I) O,fun i=> ?_⟩
 rw [Qk]
 dsimp only
 rw [Kv,Kv,Rr,Rr]
 have W:mu a (mu u (co d)) i=c*mu a (co f) i:=by
  rw [<-N5 U a i]
  exact congrFun (Lb a c (co f)) i
 have Y:mu b (mu v (co d)) i=z*mu b (co g) i:=by
  rw [<-N5 hv b i]
  exact congrFun (Lb b z (co g)) i
 rw [W,Y,Int.mul_assoc,e]
 grind
theorem Dv.zero {f:List Int} (I:Tr f) (h:Dv [] f):f=[]:=by
 obtain⟨c,u,J,M⟩:=h
 refine I.ext (.inl rfl) fun i=> ?_
 have:=M i
 have e:mu u (co []) i=0:=by
  have:mu u (fun _=>0) i=0:=congrFun (Ru u) i
  rw [<-this]
  exact N5 (fun k=>Bv k) u i
 rw [e]at this
 rw [Bv]
 rcases mul_eq_zero.mp this with z | z
 . exact absurd z J
 . exact z
theorem Dv.scale {d f g:List Int} (h:Dv d f) {a b:Int} (z:b≠0) (e:∀i,b*co g i=a*co f i):Dv d g:=by
 obtain⟨c,u,I,J⟩:=h
 refine⟨c*b,u.map (a* ·),mul_ne_zero I z,fun i=> ?_⟩
 rw [Kv,<-J,Int.mul_assoc,e]
 grind
theorem Dv.of_scale {d f g:List Int} (h:Dv d f) {a b:Int} (z:a≠0) (e:∀i,b*co g i=a*co d i):Dv g f:=by
 obtain⟨c,u,I,J⟩:=h
 refine⟨c*a,u.map (b* ·),mul_ne_zero I z,fun i=> ?_⟩
 rw [Kv]
 have M:mu u (fun k=>a*co d k) i=a*mu u (co d) i:=congrFun (Lb u a (co d)) i
 have O:mu u (fun k=>b*co g k) i=b*mu u (co g) i:=congrFun (Lb u b (co g)) i
 rw [<-O,N5 e u i,M,<-J]
 grind
theorem Dv.len {d f:List Int} (U:Tr d) (O:Tr f) (n:f≠ []) (h:Dv d f):d≠ []/\d.length<=f.length:=by
 have I:d≠ []:=fun z=>by rw [z]at h;exact n (h.zero O)
 refine⟨I,?_⟩
 obtain⟨c,u,W,Y⟩:=h
 have J:∀i,co (tm u d) i=c*co f i:=fun i=>by rw [Dz,Y]
 have S:tm u d≠ []:=fun z=>by
  have:=J (f.length-1)
  rw [z,Bv]at this
  rcases mul_eq_zero.mp this.symm with q | q
  . exact W q
  . exact O.lead n q
 have M:trim u≠ []:=fun z=>S (by
  refine(Gw u d).ext (.inl rfl) fun i=> ?_
  rw [Dz,<-congrFun (Cm (co d) _ _ (Bl u)) i,z,Bv]
  rfl)
 have Z:tm u d=tm (trim u) d:=(Gw _ _).ext (Gw _ _) fun i=>by rw [Dz,Dz,congrFun (Cm (co d) _ _ (Bl u)) i]
 have l1:=J4 (Bq u) U M I
 have l2:(tm u d).length<=f.length:=by
  refine le_of_not_lt fun z=> ?_
  have:=(Gw u d).lead S
  rw [J,Ck (by omega)]at this
  simp at this
 have l3:=length_pos_iff.mpr M
 rw [Z]at l2
 omega
structure Gc (p q g:List Int):Prop where
 tr:Tr g
 pl:pln g=g
 one:Dv g p
 two:Dv g q
 all:∀d,Dv d p->Dv d q->Dv d g
theorem Gc.symm {p q g:List Int} (h:Gc p q g):Gc q p g:=⟨h.tr,h.pl,h.two,h.one,fun d a b=>h.all d b a⟩
theorem Adv {g:List Int} (z:Tr g) (n:g≠ []) (e:pln g=g):0<co g (g.length-1):=by
 have:=Mj z n
 rw [e]at this
 exact this
theorem Ab9 {r:List Int} (z:Tr r):Dv (pln r) r/\Dv r (pln r):=by
 by_cases n:r=[]
 . subst n
   exact⟨Dv.nil _,Dv.refl _⟩
 . have h:=Jl z n
   have I:=Tc z n
   exact⟨(Dv.refl (pln r)).scale (a:=un r) (b:=1) (by decide) fun i=>by rw [h];omega,(Dv.refl r).scale (a:=1) (b:=un r) I fun i=>by rw [h];omega⟩
theorem Qu {r:List Int} (z:Tr r):pln (pln r)=pln r:=by
 by_cases n:r=[]
 . subst n;rfl
 . exact(Amp (Kw z) (Tc z n) z fun k=>(Jl z n k).symm).symm
noncomputable def Ow (f g p q:List Int):Prop:=∀d,(Dv d f/\Dv d g)↔(Dv d p/\Dv d q)
theorem Ow.refl (f g:List Int):Ow f g f g:=fun _=>Iff.rfl
theorem Ow.trans {f g p q r s:List Int} (h:Ow f g p q) (k:Ow p q r s):Ow f g r s:=fun d=>(h d).trans (k d)
theorem Aa4 {f g t q:List Int}{L k:Int} (z:L≠0) (I:k≠0) (e:∀i,L*co f i=k*co t i+mu q (co g) i):Ow g t f g:=fun d=>by
 constructor
 . rintro⟨a,b⟩
   refine⟨Dv.comb a b z (a:=q) (b:=[k]) fun i=> ?_,a⟩
   rw [e]
   have:mu [k] (co t) i=k*co t i:=by
    show k*co t i+sh (mu [] (co t)) i=_
    have:sh (mu [] (co t)) i=0:=by cases i<;>rfl
    omega
   rw [this]
   omega
 . rintro⟨a,b⟩
   refine⟨b,Dv.comb a b I (a:=[L]) (b:=q.map (-1* ·)) fun i=> ?_⟩
   rw [Kv]
   have:mu [L] (co f) i=L*co f i:=by
    show L*co f i+sh (mu [] (co f)) i=_
    have:sh (mu [] (co f)) i=0:=by cases i<;>rfl
    omega
   rw [this,e]
   omega
theorem Alh {f p q:List Int} (z:Tr f) (h:Ow f [] p q):Gc p q (pln f):=by
 have⟨a,b⟩:=Ab9 z
 have⟨c,d⟩:=(h (pln f)).mp ⟨a,Dv.nil _⟩
 exact⟨Kw z,Qu z,c,d,fun x I J=>((h x).mpr ⟨I,J⟩).1.trans b⟩
theorem Qs (c:Int) (z:c≠0) (f:List Int):Dv [c] f:=⟨c,f,z,fun i=>by
 have e:mu f (fun i=>c*if i=0 then 1 else 0) i=c*mu f (fun i=>if i=0 then 1 else 0) i:=congrFun (Lb f c _) i
 have:co [c]=fun i=>c*if i=0 then 1 else 0:=by
  funext i
  cases i with
  | zero=>rw [Eb];simp
  | succ i=>rw [Dy,Bv];simp
 rw [this,e,Zi]⟩
theorem Afo {f p q:List Int}{c:Int} (z:c≠0) (h:Ow f [c] p q):Gc p q (pln [c]):=by
 have tc:Tr [c]:= .inr ⟨by simp,by simpa using z⟩
 have⟨a,b⟩:=Ab9 tc
 have u:∀x,Dv (pln [c]) x:=fun x=>a.trans (Qs c z x)
 exact⟨Kw tc,Qu tc,u p,u q,fun x I J=>((h x).mpr ⟨I,J⟩).2.trans b⟩
theorem Adt:∀(d n:Nat) (f:Nat->Nat),(∀i,i<n->f i<d)->(∀i j,i<n->j<n->f i=f j->i=j)->n<=d
 | 0,n,f,h,_=>by
   refine le_of_not_lt fun z=> ?_
   exact absurd (h 0 (by omega)) (Nat.not_lt_zero _)
 | d+1,n,f,h,inj=>by
   by_cases J:∃i,i<n/\f i=d
   . obtain⟨I,M,O⟩:=J
     have:=Adt d (n-1) (fun k=>f (if k<I then k else k+1)) (fun i hi=>by
      have a:=h (if i<I then i else i+1) (by split<;>omega)
      have b:f (if i<I then i else i+1)≠d:=fun z=>by
       have:=inj _ _ (by split<;>omega) M (z.trans O.symm)
       split at this<;>omega
      omega) (fun i j hi S e=>by
      have:=inj _ _ (by split<;>omega) (by split<;>omega) e
      split at this<;>split at this<;>omega)
     omega
   . have:=Adt d n f (fun i hi=>by
      have a:=h i hi
      have b:f i≠d:=fun z=>J ⟨i,hi,z⟩
      omega) inj
     omega
noncomputable def pm (m:Nat):Nat->Nat->Nat->Nat
 | 0,_,_=>1%m
 | k+1,b,e=>if e%2=1 then b*pm m k (b*b%m) (e/2)%m else pm m k (b*b%m) (e/2)%m
theorem Ajr (m:Nat):∀(k b e:Nat),e<2^k->pm m k b e=b^e%m
 | 0,b,e,h=>by
   have:e=0:=by simp at h;exact h
   subst this
   simp [pm]
 | k+1,b,e,h=>by
   have h2:e/2<2^k:=by rw [Nat.pow_succ]at h;omega
   have z:=Ajr m k (b*b%m) (e/2) h2
   have I:(b*b%m)^(e/2)%m=(b*b)^(e/2)%m:=(Nat.pow_mod (b*b) (e/2) m).symm
   have J:(b*b)^(e/2)=b^(2*(e/2)):=by rw [Nat.pow_mul,Nat.pow_succ,Nat.pow_one]
   rw [pm,z,I,J]
   by_cases o:e%2=1
   . rw [if_pos o]
     have M:b^e=b*b^(2*(e/2)):=by
      rw [<-Nat.pow_succ']
      congr 1
      omega
     rw [M]
     rw [Nat.mul_mod b (b^(2*(e/2))%m),Nat.mod_mod,<-Nat.mul_mod]
   . rw [if_neg o,Nat.mod_mod]
     congr 2
     omega
section
variable {d g:Nat}
noncomputable def Lv (d g e:Nat):Prop:=∃k:Int,((g^e:Nat):Int)=1+d*k
theorem Lv.mul {a b:Nat} (z:Lv d g a) (I:Lv d g b):Lv d g (a+b):=by
 obtain⟨x,J⟩:=z
 obtain⟨y,M⟩:=I
 refine⟨x+y+d*x*y,?_⟩
 rw [pow_add,natCast_mul,J,M]
 grind
theorem Lv.many {a:Nat} (z:Lv d g a):∀n,Lv d g (n*a)
 | 0=>⟨0,by simp⟩
 | n+1=>by
   rw [add_mul,Nat.one_mul]
   exact(z.many n).mul z
theorem Lv.diff {a b:Nat} (z:Lv d g a) (I:Lv d g (a+b)):Lv d g b:=by
 obtain⟨x,J⟩:=z
 obtain⟨y,M⟩:=I
 refine⟨y-x*(g^b:Nat),?_⟩
 rw [pow_add,natCast_mul,J]at M
 grind
theorem Lv.gcd {a:Nat}:∀ {b:Nat},Lv d g a->Lv d g b->Lv d g (Nat.gcd a b):=fun {b}=>by
 induction a using Nat.strongRecOn generalizing b with
 | _ a M=>
   intro J I
   by_cases z:a=0
   . subst z;rw [Nat.gcd_zero_left];exact I
   . rw [Nat.gcd_rec]
     have h1:Lv d g (b%a):=by
      have:=div_add_mod b a
      rw [<-this]at I
      refine Lv.diff (a:=a*(b/a)) ?_ I
      rw [Nat.mul_comm]
      exact J.many _
     exact M (b%a) (mod_lt _ (by omega)) h1 J
end
theorem Agl {f:Nat} (h:∀r,r<=f->r∣f->r=1\/r=f) (J:0<f) {r:Nat} (h2:2<=r) (I:r∣f):r=f:=by
 rcases h r (Nat.le_of_dvd J I) I with z | z
 . omega
 . exact z
noncomputable def M61:Nat:=2305843009213693951
set_option maxRecDepth 100000 in
theorem Ai2 {d:Nat} (h:d∣M61) (h1:1<d):d=M61:=by
 have U:0<d:=by omega
 have O:Lv d 37 (M61-1):=by
  have e:pm M61 61 37 (M61-1)=1:=by decide+kernel
  rw [Ajr M61 61 37 (M61-1) (by decide)]at e
  obtain⟨t,M⟩:=h
  refine⟨(t*(37^(M61-1)/M61):Nat),?_⟩
  have q:=div_add_mod (37^(M61-1)) M61
  rw [e]at q
  have Z:((37^(M61-1):Nat):Int)=((M61*(37^(M61-1)/M61)+1:Nat):Int):=by rw [q]
  rw [Z]
  generalize 37^(M61-1)/M61=z
  have S:((M61:Nat):Int)=(d:Int)*t:=by rw [<-natCast_mul,<-M]
  rw [natCast_add,natCast_mul,S,natCast_mul]
  grind
 have W:∀f:Nat,f∣M61-1->Nat.gcd (pm M61 61 37 ((M61-1)/f)+(M61-1)) M61=1->¬Lv d 37 ((M61-1)/f):=fun f hf hg hl=>by
  have lt:(M61-1)/f<2^61:=lt_of_le_of_lt (Nat.div_le_self _ _) (by decide)
  rw [Ajr M61 61 37 _ lt]at hg
  obtain⟨k,hk⟩:=hl
  have hd:d∣37^((M61-1)/f)%M61+(M61-1):=by
   obtain⟨t,M⟩:=h
   have q:=div_add_mod (37^((M61-1)/f)) M61
   generalize 37^((M61-1)/f)=w at*
   have S:((M61:Nat):Int)=(d:Int)*t:=by rw [<-natCast_mul,<-M]
   have m1:1<=M61:=by decide
   have:((d:Nat):Int)∣((w%M61+(M61-1):Nat):Int):=by
    refine⟨k+t-t*((w/M61:Nat):Int),?_⟩
    have Z:(w:Int)=(d:Int)*t*((w/M61:Nat):Int)+((w%M61:Nat):Int):=by
     rw [<-S,<-natCast_mul,<-natCast_add,q]
    have q3:((w%M61+(M61-1):Nat):Int)=((w%M61:Nat):Int)+(M61:Int)-1:=by omega
    rw [q3,S]
    grind
   exact Int.natCast_dvd_natCast.mp this
  have:=Nat.dvd_gcd hd h
  rw [hg]at this
  have:=Nat.le_of_dvd (by decide) this
  omega
 have inj:∀i j,i<j->j<M61-1->37^i%d≠37^j%d:=fun i j a3 hj e=>by
  have l1:Lv d 37 (j-i):=by
   have l2:Lv d 37 (M61-1+(j-i)):=by
    obtain⟨x,hx⟩:=O
    have q1:=div_add_mod (37^i) d
    have Z:=div_add_mod (37^j) d
    rw [e]at q1
    have a0:((37^j:Nat):Int)=((37^i:Nat):Int)+d*(((37^j/d:Nat):Int)-((37^i/d:Nat):Int)):=by
     have a1:((37^i:Nat):Int)=d*((37^i/d:Nat):Int)+((37^j%d:Nat):Int):=by
      rw [<-natCast_mul,<-natCast_add,q1]
     have a2:((37^j:Nat):Int)=d*((37^j/d:Nat):Int)+((37^j%d:Nat):Int):=by
      rw [<-natCast_mul,<-natCast_add,Z]
     rw [a1,a2]
     grind
    have e1:37^(M61-1+(j-i))=37^(M61-1-i)*37^j:=by
     rw [<-pow_add]
     congr 1
     omega
    have e2:37^(M61-1)=37^(M61-1-i)*37^i:=by
     rw [<-pow_add]
     congr 1
     omega
    refine⟨x+((37^(M61-1-i):Nat):Int)*(((37^j/d:Nat):Int)-((37^i/d:Nat):Int)),?_⟩
    rw [e1,natCast_mul,a0]
    rw [e2,natCast_mul]at hx
    grind
   exact O.diff l2
  have l3:=Lv.gcd O l1
  have gd:Nat.gcd (M61-1) (j-i)∣M61-1:=Nat.gcd_dvd_left _ _
  have a4:Nat.gcd (M61-1) (j-i)<=j-i:=Nat.le_of_dvd (by omega) (Nat.gcd_dvd_right _ _)
  obtain⟨t,M⟩:=gd
  generalize Nat.gcd (M61-1) (j-i)=e at*
  have t1:t≠1:=fun z=>by rw [z]at M;omega
  obtain⟨r,r2,rd,J⟩:=Zq t t1
  have rM:r∣M61-1:=by rw [M];exact Nat.dvd_trans rd (Nat.dvd_mul_left _ _)
  have l4:Lv d 37 ((M61-1)/r):=by
   obtain⟨s,hs⟩:=rd
   have:(M61-1)/r=s*e:=by
    rw [M,hs,show e*(r*s)=r*(s*e)by grind]
    exact Nat.mul_div_cancel_left _ (by omega)
   rw [this]
   exact l3.many s
  have fac:((M61-1:Nat):Int)=2*(3*(3*(5*(5*(7*(11*(13*(31*(41*(61*(151*(331*1321)))))))))))):=by decide
  have Y:(r:Int)∣((M61-1:Nat):Int):=Int.natCast_dvd_natCast.mpr rM
  rw [fac]at Y
  have dn:∀ {f:Nat},(r:Int)∣(f:Nat)->r∣f:=fun h=>Int.natCast_dvd_natCast.mp h
  have I:∀ {f:Nat},(r:Int)∣(f:Nat)->(∀r,r<=f->r∣f->r=1\/r=f)->0<f->f∣M61-1->Nat.gcd (pm M61 61 37 ((M61-1)/f)+(M61-1)) M61=1->False:=fun hd hs hf hm hg=>by
   have:=Agl hs hf r2 (dn hd)
   subst this
   exact W _ hm hg l4
  rcases J _ _ Y with z | z
  . exact I (f:=2) z (by decide) (by decide) (by decide) (by decide+kernel)
  rcases J _ _ z with z | z
  . exact I (f:=3) z (by decide) (by decide) (by decide) (by decide+kernel)
  rcases J _ _ z with z | z
  . exact I (f:=3) z (by decide) (by decide) (by decide) (by decide+kernel)
  rcases J _ _ z with z | z
  . exact I (f:=5) z (by decide) (by decide) (by decide) (by decide+kernel)
  rcases J _ _ z with z | z
  . exact I (f:=5) z (by decide) (by decide) (by decide) (by decide+kernel)
  rcases J _ _ z with z | z
  . exact I (f:=7) z (by decide) (by decide) (by decide) (by decide+kernel)
  rcases J _ _ z with z | z
  . exact I (f:=11) z (by decide) (by decide) (by decide) (by decide+kernel)
  rcases J _ _ z with z | z
  . exact I (f:=13) z (by decide) (by decide) (by decide) (by decide+kernel)
  rcases J _ _ z with z | z
  . exact I (f:=31) z (by decide) (by decide) (by decide) (by decide+kernel)
  rcases J _ _ z with z | z
  . exact I (f:=41) z (by decide) (by decide) (by decide) (by decide+kernel)
  rcases J _ _ z with z | z
  . exact I (f:=61) z (by decide) (by decide) (by decide) (by decide+kernel)
  rcases J _ _ z with z | z
  . exact I (f:=151) z (by decide) (by decide) (by decide) (by decide+kernel)
  rcases J _ _ z with z | z
  . exact I (f:=331) z (by decide+kernel) (by decide) (by decide) (by decide+kernel)
  . exact I (f:=1321) z (by decide+kernel) (by decide) (by decide) (by decide+kernel)
 have big:M61-1<=d:=by
  refine Adt d (M61-1) (fun i=>37^i%d) (fun i _=>mod_lt _ U) fun i j hi hj e=> ?_
  rcases Nat.lt_trichotomy i j with z | z | z
  . exact absurd e (inj i j z hj)
  . exact z
  . exact absurd e.symm (inj j i z hi)
 obtain⟨t,M⟩:=h
 have t1:t=1:=by
  have:t<2:=by
   refine Nat.lt_of_not_le fun z=> ?_
   have:=mul_le_mul big z
   rw [<-M]at this
   exact absurd this (by decide)
  have:t≠0:=fun z=>by rw [z,Nat.mul_zero]at M;exact absurd M (by decide)
  omega
 rw [t1]at M
 omega
theorem Ai3 {a:Int} (h:¬(2305843009213693951:Int)∣a):Int.gcd a 2305843009213693951=1:=by
 have h1:Int.gcd a 2305843009213693951∣M61:=by
  have:=Int.gcd_dvd_right a 2305843009213693951
  exact Int.natCast_dvd_natCast.mp this
 by_cases z:Int.gcd a 2305843009213693951=1
 . exact z
 . exfalso
   have p:0<Int.gcd a 2305843009213693951:=Int.gcd_pos_of_ne_zero_right _ (by decide)
   have e:=Ai2 h1 (by omega)
   have:=Int.gcd_dvd_left a 2305843009213693951
   rw [e]at this
   exact h this
theorem Ac4 (c:Int) (j:Nat) (f:Nat->Int) (i:Nat):mu (replicate j 0++ [c]) f i=if j<=i then c*f (i-j)else 0:=by
 rw [Ld,Ub,length_replicate,zero_add]
theorem Ahh {q:List Int} (J:Tr q) (I:q≠ []):∀(n:Nat) (p:List Int),p.length<=n->∃(s:Int) (u r:List Int),s≠0/\(∀k,s*co p k=mu u (co q) k+co r k)/\Tr r/\r.length<q.length
 | 0,p,h=>⟨1,[],[],by decide,fun k=>by rw [Ck (by omega),Bv];rfl,.inl rfl,length_pos_iff.mpr I⟩
 | n+1,p,h=>by
   have hl:=length_pos_iff.mpr I
   by_cases O:p.length<q.length
   . exact⟨1,[],trim p,by decide,fun k=>by rw [Bl,Int.one_mul];show co p k=0+co p k;omega,Bq _,lt_of_le_of_lt ((Bq p).len fun i=>Bl p i) O⟩
   . obtain⟨l,z⟩:∃l,l=co q (q.length-1):=⟨_,rfl⟩
     have l0:l≠0:=by rw [z];exact J.lead I
     obtain⟨c,S⟩:∃c,c=co p (p.length-1):=⟨_,rfl⟩
     obtain⟨j,hj⟩:∃j,j=p.length-q.length:=⟨_,rfl⟩
     have M:∀k,co (al (p.map (l* ·)) ((ml (replicate j 0++ [c]) q).map (-1* ·))) k=l*co p k-(if j<=k then c*co q (k-j)else 0):=fun k=>by
      rw [Oz,Ga,Ga,U3,Ac4]
      omega
     obtain⟨s,u,r,U,W,Y,Z⟩:=Ahh J I n (trim (al (p.map (l* ·)) ((ml (replicate j 0++ [c]) q).map (-1* ·)))) (by
      have h1:=(Bq (al (p.map (l* ·)) ((ml (replicate j 0++ [c]) q).map (-1* ·)))).len (q:=(trim (al (p.map (l* ·)) ((ml (replicate j 0++ [c]) q).map (-1* ·)))).take n) fun k=>by
       rw [Jo]
       split
       . rfl
       . rw [Bl,M,if_pos (by omega)]
         by_cases hk:k=p.length-1
         . rw [hk,<-S,show p.length-1-j=q.length-1 by omega,<-z]
           grind
         . rw [Ck (p:=p) (by omega),Ck (p:=q) (by omega)]
           simp
      rw [length_take]at h1
      omega)
     refine⟨s*l,al u ((replicate j 0++ [c]).map (s* ·)),r,mul_ne_zero U l0,fun k=> ?_,Y,Z⟩
     rw [Qk]
     dsimp only
     rw [Kv,Ac4]
     have:=W k
     rw [Bl,M]at this
     rw [Int.mul_assoc]
     have e2:s*(l*co p k)=s*(l*co p k-(if j<=k then c*co q (k-j)else 0))+s*(if j<=k then c*co q (k-j)else 0):=by rw [Int.mul_sub];omega
     rw [e2,this]
     omega
theorem bez:∀(n:Nat) (t s:List Int),t.length<=n->Tr t->∃(g a b:List Int) (c:Int),c≠0/\Dv g s/\Dv g t/\∀i,c*co g i=mu a (co s) i+mu b (co t) i
 | n,t,s,h,tt=>by
   by_cases z:t=[]
   . subst z
     refine⟨s,[1],[],1,by decide,Dv.refl _,Dv.nil _,fun i=> ?_⟩
     show 1*co s i=1*co s i+sh (mu [] (co s)) i+0
     have:sh (mu [] (co s)) i=0:=by cases i<;>rfl
     omega
   . match n with
     | 0=>exact absurd (List.eq_nil_of_length_eq_zero (by omega)) z
     | n+1=>
       obtain⟨k,u,r,M,I,O,Z⟩:=Ahh tt z s.length s (le_refl _)
       obtain⟨g,a,b,c,S,h1,h2,U⟩:=bez n r t (by omega) O
       refine⟨g,b.map (k* ·),al a ((ml b u).map (-1* ·)),c,S,Dv.comb h1 h2 M (a:=u) (b:=[1]) fun i=> ?_,h1,fun i=> ?_⟩
       . rw [I]
         have:mu [1] (co r) i=co r i:=by
          show 1*co r i+sh (mu [] (co r)) i=_
          have:sh (mu [] (co r)) i=0:=by cases i<;>rfl
          omega
         rw [this]
       . rw [U,Kv,Qk]
         dsimp only
         rw [Kv,Rr]
         have e:mu b (co r) i=mu b (fun j=>k*co s j-mu u (co t) j) i:=N5 (fun j=>by have:=I j;omega) b i
         have J:=congrFun (Qc b (fun j=>k*co s j-mu u (co t) j) (mu u (co t))) i
         have W:(fun j=>k*co s j-mu u (co t) j+mu u (co t) j)=fun j=>k*co s j:=by funext j;omega
         rw [W]at J
         have Y:mu b (fun j=>k*co s j) i=k*mu b (co s) i:=congrFun (Lb b k (co s)) i
         rw [Y]at J
         rw [e]
         omega
theorem Gc.bez {p q g:List Int} (I:Tr q) (h:Gc p q g):∃(a b:List Int) (c:Int),c≠0/\∀i,c*co g i=mu a (co p) i+mu b (co q) i:=by
 obtain⟨z,a,b,c,J,h1,h2,M⟩:=Z.bez q.length q p (le_refl _) I
 obtain⟨e,w,O,S⟩:=h.all z h1 h2
 refine⟨ml w a,ml w b,c*e,mul_ne_zero J O,fun i=> ?_⟩
 rw [Rr,Rr,Int.mul_assoc,S]
 have U:mu w (fun k=>c*co z k) i=c*mu w (co z) i:=congrFun (Lb w c (co z)) i
 rw [<-U,N5 M w i]
 exact congrFun (Qc w (mu a (co p)) (mu b (co q))) i
noncomputable def Dm (t:Int) (d f:List Int):Prop:=∃u:List Int,∀i,t∣co f i-mu u (co d) i
theorem Ai6 (p:List Int) (f g:Nat->Int) (i:Nat):mu p f i-mu p g i=mu p (fun k=>f k-g k) i:=by
 have h1:=congrFun (Qc p (fun k=>f k-g k) g) i
 have h2:(fun k=>f k-g k+g k)=f:=by funext k;omega
 rw [h2]at h1
 omega
theorem Xv {t:Int}{f g:Nat->Int} (h:∀i,t∣f i-g i) (p:List Int) (i:Nat):t∣mu p f i-mu p g i:=by
 rw [Ai6]
 exact Ac3 t p _ i fun j _=>h j
theorem Za {t a b c:Int} (h1:t∣a-b) (h2:t∣b-c):t∣a-c:=by
 have:=dvd_add h1 h2
 rw [show a-b+(b-c)=a-c by omega]at this
 exact this
theorem Uu {t a b:Int} (h:t∣a-b):t∣b-a:=by
 have:=(dvd_neg (a:=t) (b:=a-b)).mpr h
 rw [show-(a-b)=b-a by omega]at this
 exact this
theorem Dm.nil (t:Int) (d:List Int):Dm t d []:=⟨[],fun i=>by
 rw [Bv]
 exact⟨0,by simp [mu]⟩⟩
theorem Dm.comb {t:Int}{d f g h:List Int} (z:Dm t d f) (I:Dm t d g) {a b:List Int} (e:∀i,t∣co h i-(mu a (co f) i+mu b (co g) i)):Dm t d h:=by
 obtain⟨u,J⟩:=z
 obtain⟨v,hv⟩:=I
 refine⟨al (ml a u) (ml b v),fun i=> ?_⟩
 rw [Qk]
 dsimp only
 rw [Rr,Rr]
 have h1:=Xv J a i
 have h2:=Xv hv b i
 have M:=dvd_add h1 h2
 refine Za (e i) ?_
 rw [show mu a (co f) i+mu b (co g) i-(mu a (mu u (co d)) i+mu b (mu v (co d)) i)=mu a (co f) i-mu a (mu u (co d)) i+(mu b (co g) i-mu b (mu v (co d)) i)by omega]
 exact M
theorem Aks (k:Int) (f:Nat->Int) (i:Nat):mu [k] f i=k*f i:=by
 show k*f i+sh (mu [] f) i=_
 have:sh (mu [] f) i=0:=by cases i<;>rfl
 omega
theorem Dm.by {t:Int}{d f g:List Int} (h:Dm t d f) {k:Int} (e:∀i,t∣co g i-k*co f i):Dm t d g:=
 Dm.comb h (Dm.nil t d) (a:=[k]) (b:=[]) fun i=>by
  rw [Aks]
  have:mu [] (co []) i=0:=rfl
  rw [this,Int.add_zero]
  exact e i
theorem Dm.congr {t:Int}{d f g:List Int} (h:Dm t d f) (e:∀i,t∣co g i-co f i):Dm t d g:=h.by (k:=1) fun i=>by rw [Int.one_mul];exact e i
theorem Dm.trans {t:Int}{d f g:List Int} (h1:Dm t d f) (h2:Dm t f g):Dm t d g:=by
 obtain⟨v,hv⟩:=h2
 exact Dm.comb h1 (Dm.nil t d) (a:=v) (b:=[]) fun i=>by
  have:mu [] (co []) i=0:=rfl
  rw [this,Int.add_zero]
  exact hv i
noncomputable def Aig (t:Int) (f g p q:List Int):Prop:=∀d,(Dm t d f/\Dm t d g)↔(Dm t d p/\Dm t d q)
theorem Aa5 {t:Int}{f g r u:List Int} (e:∀i,t∣co f i-(mu u (co g) i+co r i)):Aig t g r f g:=fun d=>by
 constructor
 . rintro⟨a,b⟩
   refine⟨Dm.comb a b (a:=u) (b:=[1]) fun i=> ?_,a⟩
   rw [Aks,Int.one_mul]
   exact e i
 . rintro⟨a,b⟩
   refine⟨b,Dm.comb a b (a:=[1]) (b:=u.map (-1* ·)) fun i=> ?_⟩
   rw [Aks]
   have:mu (u.map (-1* ·)) (co g) i= -1*mu u (co g) i:=congrFun (Gy (co g) (-1) u) i
   rw [this]
   have h:=Uu (e i)
   rw [show co r i-(1*co f i+ -1*mu u (co g) i)=mu u (co g) i+co r i-co f i by omega]
   exact h
noncomputable def Pr (t:Int):Prop:=1<t/\∀a:Int,¬t∣a->Int.gcd a t=1
theorem Pr.or {t:Int} (h:Pr t) {a b:Int} (d:t∣a*b):t∣a\/t∣b:=by
 by_cases z:t∣a
 . exact .inl z
 . have c:Nat.Coprime t.natAbs a.natAbs:=by
    have:=h.2 a z
    rw [Int.gcd_comm]at this
    exact this
   have I:t.natAbs∣a.natAbs*b.natAbs:=by
    rw [<-natAbs_mul]
    exact natAbs_dvd_natAbs.mpr d
   exact .inr (natAbs_dvd_natAbs.mp (c.dvd_of_dvd_mul_left I))
theorem O2 {e p:List Int} (te:Tr e) (ne:e≠ []) (pe:Prim e) (h:Dv e p):Exact p e:=by
 obtain⟨c,u,hc,O⟩:=h
 have J:∀k,c∣co u k:=by
  by_cases S:∀k,co u k=0
  . intro k;rw [S k];exact dvd_zero _
  . have U:trim u≠ []:=fun z=>S fun k=>by rw [<-Bl,z,Bv]
    have W:=Bq u
    have pp:=Je W U
    have Y:=Jl W U
    have pr:Prim (tm (pln (trim u)) e):=Alf pp pe fun k=>Dz _ _ k
    have d1:∀k,c∣un (trim u)*co (tm (pln (trim u)) e) k:=fun k=>by
     refine⟨co p k,?_⟩
     rw [O,Dz]
     have M:mu u (co e) k=mu (trim u) (co e) k:=(congrFun (Cm (co e) _ _ (Bl u)) k).symm
     have I:mu ((pln (trim u)).map (un (trim u)* ·)) (co e) k=un (trim u)*mu (pln (trim u)) (co e) k:=congrFun (Gy (co e) (un (trim u)) _) k
     rw [M,<-I]
     refine congrFun (Cm (co e) _ _ fun i=> ?_) k
     rw [Ga,Y]
    have Z:=K7 d1
    rw [pr.gl]at Z
    intro k
    rw [<-Bl,<-Y k]
    have:c∣un (trim u):=by simpa using Z
    exact dvd_trans this (dvd_mul_right _ _)
 refine⟨u.map (· /c),fun k=> ?_⟩
 have M:mu ((u.map (· /c)).map (c* ·)) (co e) k=c*mu (u.map (· /c)) (co e) k:=congrFun (Gy (co e) c _) k
 have I:mu ((u.map (· /c)).map (c* ·)) (co e) k=mu u (co e) k:=congrFun (Cm (co e) _ _ fun i=>by
  rw [Ga,Ri (f:=(· /c)) (Int.zero_ediv c)]
  exact Int.mul_ediv_cancel' (J i)) k
 rw [M,<-O]at I
 exact(eq_of_mul_eq_mul_left hc I).symm
theorem apart {t:Int} (M:Pr t) {p q:List Int} (tp:Tr p) (np:p≠ []) (hl:¬t∣co p (p.length-1)) (h:∀d,Dm t d p->Dm t d q->Dm t d [1]):Gc p q [1]:=by
 have t1:Tr [1]:= .inr ⟨by simp,by decide⟩
 have p1:pln [1]=[1]:=by decide
 refine⟨t1,p1,Qs 1 (by decide) p,Qs 1 (by decide) q,fun d dp dq=> ?_⟩
 have U:Dv (trim d) d/\Dv d (trim d):=⟨(Dv.refl (trim d)).congr fun i=>Bl d i,(Dv.refl d).congr fun i=>(Bl d i).symm⟩
 have W:=Bq d
 have nd:trim d≠ []:=fun z=>by
  have:=U.1.trans dp
  rw [z]at this
  exact np (this.zero tp)
 have⟨pa,pb⟩:=Ab9 W
 have te:=Kw W
 have I:pln (trim d)≠ []:=fun z=>by
  have:=Fw (trim d)
  rw [z,length_nil]at this
  exact nd (List.eq_nil_of_length_eq_zero this.symm)
 have pe:=Je W nd
 have de:Dv d (pln (trim d)):=U.2.trans pb
 have ed:Dv (pln (trim d)) d:=pa.trans U.1
 obtain⟨w,O⟩:=O2 te I pe (ed.trans dp)
 obtain⟨w',Y⟩:=O2 te I pe (ed.trans dq)
 generalize pln (trim d)=e at*
 have m1:Dm t e p:=⟨w,fun i=>by rw [O,Int.sub_self];exact dvd_zero _⟩
 have m2:Dm t e q:=⟨w',fun i=>by rw [Y,Int.sub_self];exact dvd_zero _⟩
 obtain⟨u,hu⟩:=h e m1 m2
 have le:¬t∣co e (e.length-1):=fun z=>hl (by
  have Z:trim w≠ []:=fun y=>by
   have:=tp.lead np
   rw [O,<-congrFun (Cm (co e) _ _ (Bl w)) _,y]at this
   exact this rfl
  have e1:p=tm (trim w) e:=tp.ext (Gw _ _) fun i=>by rw [O,Dz,congrFun (Cm (co e) _ _ (Bl w)) i]
  have l1:=J4 (Bq w) te Z I
  have lw:=length_pos_iff.mpr Z
  have a0:=length_pos_iff.mpr I
  rw [O,<-congrFun (Cm (co e) _ _ (Bl w)) _,K9 (trim w) e (p.length-1) Z I (by rw [e1];omega)]
  exact dvd_trans z (dvd_mul_left _ _))
 have l1:e.length=1:=by
  have a0:=length_pos_iff.mpr I
  by_cases z:e.length=1
  . exact z
  . exfalso
    have cu:∀i,t∣co (u.map (· %t)) i-co u i:=fun i=>by
     rw [Ri (f:=(· %t)) (zero_emod t)]
     refine⟨-(co u i/t),?_⟩
     have:=mul_ediv_add_emod (co u i) t
     rw [mul_neg]
     omega
    have J:∀i,t∣co [1] i-mu (trim (u.map (· %t))) (co e) i:=fun i=>by
     refine Za (hu i) ?_
     rw [congrFun (Cm (co e) _ _ (Bl (u.map (· %t)))) i,K8 u e,K8 (u.map (· %t)) e]
     exact Xv (fun k=>Uu (cu k)) e i
    by_cases un:trim (u.map (· %t))=[]
    . have:=J 0
      rw [un]at this
      have h1:t∣1:=by simpa [mu,Eb]using this
      have:=le_of_dvd (by decide) h1
      have:=M.1
      omega
    . have lu:=length_pos_iff.mpr un
      have:=J ((trim (u.map (· %t))).length+e.length-2)
      rw [K9 _ e _ un I (by omega),Ck (p:=[1]) (by show 1<=_;omega),Int.zero_sub]at this
      rcases M.or ((dvd_neg).mp this)with S | S
      . have ld:=(Bq (u.map (· %t))).lead un
        rw [Bl,Ri (f:=(· %t)) (zero_emod t)]at ld S
        have r0:=emod_nonneg (co u ((trim (u.map (· %t))).length-1)) (show t≠0 by have:=M.1;omega)
        have r1:=emod_lt_of_pos (co u ((trim (u.map (· %t))).length-1)) (show 0<t by have:=M.1;omega)
        have:=le_of_dvd (by omega) S
        omega
      . exact le S
 match e,l1 with
 | [k],_=>
   have k0:k≠0:=by
    have:=te.lead I
    exact this
   exact de.trans (Qs k k0 [1])
theorem Ahu:Pr 2305843009213693951:=⟨by decide,fun _ h=>Ai3 h⟩
structure MV (m:Int) (p q qs rs:List Int) (j:Nat):Prop where
 eq:∀k,m∣co p k-(mu qs (co q) k+co rs k)
 top:∀k,j+q.length<=k+1->co rs k=0
 low:∀k,k<j->co qs k=0
 rq:∀k,0<=co qs k/\co qs k<m
 rr:∀k,0<=co rs k/\co rs k<m
theorem Xl (n k:Nat):co (replicate n (0:Int)) k=0:=by
 unfold co
 rw [getD_eq_getElem?_getD,getElem?_replicate]
 split<;>rfl
theorem MV.start {m:Int} (J:0<m) {p q rs:List Int} (z:q≠ []) (h:∀k,m∣co p k-co rs k) (I:∀k,0<=co rs k/\co rs k<m):MV m p q (replicate (rs.length+1-q.length) 0) rs (rs.length+1-q.length):=by
 have M:0<q.length:=length_pos_iff.mpr z
 refine⟨fun k=>by rw [Ub,zero_add];exact h k,fun k h=>Ck (by omega),fun k h=>Xl _ _,fun k=> ?_,I⟩
 rw [Xl]
 omega
theorem MV.step {m:Int} (W:0<m) {p q z rs:List Int}{j:Nat} (h:MV m p q z rs (j+1)) (Y:q≠ []) {f:Int} (Z:j<z.length) (f0:0<=f) (f1:f<m) (ef:m∣co rs (j+(q.length-1))-f*co q (q.length-1))
 {J:List Int} (M:∀k,co J k=(co rs k-(if j<=k then f*co q (k-j)else 0))%m):MV m p q (z.set j f) J j:=by
 have hl:0<q.length:=length_pos_iff.mpr Y
 have O:∀k,co (z.set j f) k=if k=j then f else co z k:=fun k=>P0 _ _ _ Z k
 have sp:∀k,co (z.set j f) k=co (al z (replicate j 0++ [f])) k:=fun k=>by
  rw [O,Oz,Gp,length_replicate]
  by_cases I:k=j
  . rw [if_pos I,if_pos I,I,h.low j (by omega)];simp
  . rw [if_neg I,if_neg I,Xl,Int.add_zero]
 have md:∀x:Int,m∣x%m-x:=fun x=>⟨-(x/m),by
  have:=mul_ediv_add_emod x m
  rw [mul_neg]
  omega⟩
 refine⟨fun k=> ?_,fun k I=> ?_,fun k I=> ?_,fun k=> ?_,fun k=> ?_⟩
 . rw [Cm (co q) _ _ sp,Qk]
   dsimp only
   rw [Ld,Ub,length_replicate,M]
   have h1:=h.eq k
   have h2:=md (co rs k-(if j<=k then f*co q (k-j)else 0))
   have U:=Int.dvd_sub h1 h2
   generalize (co rs k-(if j<=k then f*co q (k-j)else 0))%m=y at*
   generalize (if j<=k then f*co q (k-j)else 0)=x at*
   have e:co p k-(mu z (co q) k+co rs k)-(y-(co rs k-x))=co p k-(mu z (co q) k+(0+x)+y):=by omega
   rw [e]at U
   exact U
 . rw [M,if_pos (by omega)]
   by_cases S:k=j+(q.length-1)
   . subst S
     rw [show j+(q.length-1)-j=q.length-1 by omega]
     exact Int.emod_eq_zero_of_dvd ef
   . rw [h.top k (by omega),Ck (show q.length<=k-j by omega)]
     simp
 . rw [O,if_neg (by omega),h.low k (by omega)]
 . rw [O]
   split
   . exact⟨f0,f1⟩
   . exact h.rq k
 . rw [M]
   exact⟨emod_nonneg _ (by omega),emod_lt_of_pos _ W⟩
theorem Afq {m r z l:Int} (h:z*l%m=1) (O:1<m):m∣r-(r*z%m)*l:=by
 have S:=mul_ediv_add_emod (r*z) m
 have I:=mul_ediv_add_emod (z*l) m
 rw [h]at I
 refine⟨(r*z/m)*l-r*(z*l/m),?_⟩
 have J:r*z%m=r*z-m*(r*z/m):=by omega
 rw [J]
 have M:r*z*l=r*(m*(z*l/m)+1):=by rw [I,Int.mul_assoc]
 have:(r*z-m*(r*z/m))*l=r*z*l-m*(r*z/m)*l:=by grind
 rw [this,M]
 grind
theorem abs_eq (i:Int):(if i<0 then-i else i)=((i.natAbs:Nat):Int):=by
 split<;>omega
theorem Ze (x y:Nat):Nat.gcd y (x%y)=Nat.gcd x y:=by
 rw [Nat.gcd_comm y (x%y),<-Nat.gcd_rec,Nat.gcd_comm]
noncomputable def sg (q:Rat):Int:=if q=0 then 0 else if 0<q then 1 else-1
noncomputable def ev:List Int->Rat->Rat
 | [],_=>0
 | a::r,x=>(a:Rat)+x*ev r x
theorem Xo (x:Rat):∀(r:List Int),(∀i,co r i=0)->ev r x=0
 | [],_=>rfl
 | a::r,h0=>by
   have z:a=0:=by have:=h0 0;rwa [Eb]at this
   rw [ev,Xo x r fun i=>by have:=h0 (i+1);rwa [Dy]at this,z]
   simp [Rat.add_zero]
theorem Uv (x:Rat):∀(r s:List Int),(∀i,co r i=co s i)->ev r x=ev s x
 | [],s,h0=>(Xo x s fun i=>by rw [<-h0,Bv]).symm
 | a::r,[],h0=>Xo x (a::r) fun i=>by rw [h0,Bv]
 | a::r,b::s,h0=>by
   have z:a=b:=by have:=h0 0;rwa [Eb,Eb]at this
   subst z
   rw [ev,ev,Uv x r s fun i=>by have:=h0 (i+1);rwa [Dy,Dy]at this]
theorem Ak6 (x:Rat):∀(p q:List Int),ev (al p q) x=ev p x+ev q x
 | [],q=>by simp [al,ev,Rat.zero_add]
 | a::p,[]=>by simp [al,ev,Rat.add_zero]
 | a::p,b::q=>by
   simp only [al,ev]
   rw [Ak6 x p q,Rat.intCast_add]
   grind
theorem Uw (x:Rat) (a:Int):∀q:List Int,ev (q.map (a* ·)) x=a*ev q x
 | []=>by simp [ev]
 | b::q=>by
   simp only [map_cons,ev]
   rw [Uw x a q,Rat.intCast_mul]
   grind
theorem Ak7 (x:Rat):∀(p q:List Int),ev (ml p q) x=ev p x*ev q x
 | [],q=>by simp [ml,ev]
 | a::p,q=>by
   simp only [ml,ev]
   rw [Ak6,Uw,ev,Ak7 x p q]
   simp only [Rat.intCast_zero]
   grind
theorem Ak9 (x:Rat) (p q:List Int):ev (tm p q) x=ev p x*ev q x:=by
 rw [<-Ak7]
 exact Uv x _ _ fun i=>by rw [Dz,U3]
noncomputable def hv:List Int->Int->Int->Int
 | [],_,_=>0
 | w::r,t,b=>hv r t b*t+w*b^r.length
theorem Ali (x:Rat) (t b:Int) (I:x*(b:Rat)=(t:Rat)):∀p:List Int,(hv p t b:Rat)*(b:Rat)=ev p x*(b:Rat)^p.length
 | []=>by simp [hv,ev]
 | w::r=>by
   have z:=Ali x t b I r
   simp only [hv,ev,length_cons]
   rw [Rat.intCast_add,Rat.intCast_mul,Rat.intCast_mul,Rat.intCast_pow,Rat.pow_succ]
   generalize (hv r t b:Rat)=T at*
   generalize (b:Rat)^r.length=B at*
   generalize ev r x=E at*
   have J:T*(b:Rat)*(t:Rat)=E*B*(t:Rat):=by rw [z]
   have M:x*(b:Rat)*E*B=t*E*B:=by rw [I]
   grind
theorem Yl {x:Rat} (h:x≠0):∀n:Nat,x^n≠0
 | 0=>by rw [Rat.pow_zero];decide
 | n+1=>by
   have:=Yl h n
   rw [Rat.pow_succ]
   grind
noncomputable def dD (f:Nat->Int):Nat->Int:=fun i=>((i:Int)+1)*f (i+1)
noncomputable def dr (p:List Int):List Int:=(p.mapIdx fun i a=>(i:Int)*a).drop 1
theorem Ab2 (p:List Int) (i:Nat):co (p.mapIdx fun i a=>(i:Int)*a) i=(i:Int)*co p i:=by
 unfold co
 rw [getD_eq_getElem?_getD,getD_eq_getElem?_getD,getElem?_mapIdx]
 cases p[i]? <;>simp
theorem Ain (p:List Int) (i:Nat):co (p.drop 1) i=co p (i+1):=by
 unfold co
 rw [getD_eq_getElem?_getD,getD_eq_getElem?_getD,getElem?_drop,Nat.add_comm]
theorem Us (p:List Int) (i:Nat):co (dr p) i=((i:Int)+1)*co p (i+1):=by
 rw [dr,Ain,Ab2]
 congr 1
theorem Rk (p:List Int):(dr p).length=p.length-1:=by simp [dr]
theorem Ab8 {p:List Int} (h:Tr p):Tr (dr p):=by
 by_cases I:p.length<=1
 . exact .inl (List.eq_nil_of_length_eq_zero (by rw [Rk];omega))
 . refine .of (.inr ?_)
   rw [Rk,Us,show p.length-1-1+1=p.length-1 by omega]
   have:=h.lead (fun z=>by rw [z]at I;simp at I)
   exact mul_ne_zero (by omega) this
theorem Aly:∀(p:List Int) (f:Nat->Int) (i:Nat),dD (mu p f) i=mu (dr p) f i+mu p (dD f) i
 | [],f,i=>by simp [dD,mu,dr]
 | a::r,f,i=>by
   have e:mu (dr (a::r)) f=mu (al r (0::dr r)) f:=Cm f _ _ fun j=>by
    rw [Us,Dy,Oz]
    cases j with
    | zero=>simp [Eb]
    | succ j=>
      rw [Dy,Us]
      grind
   rw [e,Qk]
   simp only [mu]
   have I:=Aly r f
   cases i with
   | zero=>
     simp only [dD,sh]
     simp
     grind
   | succ i=>
     have z:=I i
     simp only [dD,sh]at z ⊢
     simp only [Int.zero_mul,zero_add,natCast_add,Int.cast_ofNat_Int]
     grind
theorem Aoi (p q:List Int):dr (tm p q)=ta (tm (dr p) q) (tm p (dr q)):=(Ab8 (Gw _ _)).ext (Qp _ _) fun i=>by
 have h:=Aly p (co q) i
 rw [Us,Ma,Dz,Dz,Dz,show co (dr q)=dD (co q)from funext fun j=>Us q j,<-h]
 rfl
noncomputable def ei:List Int->Int->Int
 | [],_=>0
 | a::r,x=>a+x*ei r x
theorem Xn (x:Int):∀r:List Int,(∀i,co r i=0)->ei r x=0
 | [],_=>rfl
 | a::r,h=>by
   have z:a=0:=by have:=h 0;rwa [Eb]at this
   rw [ei,Xn x r fun i=>by have:=h (i+1);rwa [Dy]at this,z]
   simp
theorem Zb (x:Int):∀r s:List Int,(∀i,co r i=co s i)->ei r x=ei s x
 | [],s,h=>by rw [Xn x s fun i=>by rw [<-h,Bv]];rfl
 | a::r,[],h=>by rw [Xn x (a::r) fun i=>by rw [h,Bv]];rfl
 | a::r,b::s,h=>by
   have e:a=b:=by have:=h 0;rwa [Eb,Eb]at this
   rw [ei,ei,e,Zb x r s fun i=>by have:=h (i+1);rwa [Dy,Dy]at this]
theorem Ak4 (x:Int):∀p q:List Int,ei (al p q) x=ei p x+ei q x
 | [],q=>by simp [al,ei]
 | a::p,[]=>by simp [al,ei]
 | a::p,b::q=>by
   rw [al,ei,ei,ei,Ak4 x p q]
   grind
theorem Zc (x a:Int):∀q:List Int,ei (q.map (a* ·)) x=a*ei q x
 | []=>by simp [ei]
 | b::q=>by
   rw [map_cons,ei,ei,Zc x a q]
   grind
theorem Ak5 (x:Int):∀p q:List Int,ei (ml p q) x=ei p x*ei q x
 | [],q=>by simp [ml,ei]
 | a::p,q=>by
   rw [ml,Ak4,Zc,ei,ei,Ak5 x p q]
   grind
theorem Aok {p u q:List Int} (h:∀i,co p i=mu u (co q) i) (x:Int):ei p x=ei u x*ei q x:=by
 rw [<-Ak5]
 exact Zb x _ _ fun i=>by rw [h,U3]
noncomputable def sd (c:Int):List Int->List Int
 | []=>[]
 | [_]=>[]
 | _::b::r=>ei (b::r) c::sd c (b::r)
theorem Ah6 (c:Int):∀p:List Int,(sd c p).length=p.length-1
 | []=>rfl
 | [_]=>rfl
 | _::b::r=>by
   rw [sd,length_cons,Ah6 c (b::r)]
   simp
theorem Am4 (c x:Int):∀p:List Int,ei p x=ei p c+(x-c)*ei (sd c p) x
 | []=>by simp [ei,sd]
 | [a]=>by simp [ei,sd]
 | a::b::r=>by
   have z:=Am4 c x (b::r)
   show a+x*ei (b::r) x=(a+c*ei (b::r) c)+(x-c)*(ei (b::r) c+x*ei (sd c (b::r)) x)
   rw [z]
   generalize ei (b::r) c=A
   generalize ei (sd c (b::r)) x=B
   grind
theorem Am3 (c:Int):∀(p:List Int),co p 0=ei p c-c*co (sd c p) 0/\∀i,co p (i+1)=co (sd c p) i-c*co (sd c p) (i+1)
 | []=>⟨by simp [sd,ei,Bv],fun i=>by simp [sd,Bv]⟩
 | [a]=>⟨by simp [sd,ei,Bv,Eb],fun i=>by simp [sd,Bv,Dy]⟩
 | a::b::r=>by
   obtain⟨z,h1⟩:=Am3 c (b::r)
   rw [sd]
   refine⟨by rw [Eb,Eb,ei];omega,fun i=> ?_⟩
   rw [Dy,Dy]
   cases i with
   | zero=>exact z
   | succ i=>exact h1 i
theorem interp (M:Nat):∀(xs T:List Int) (V:Nat),T.length<=xs.length->xs.Nodup->(∀x∈xs,x.natAbs<=M)->(∀x∈xs,(ei T x).natAbs<=V)->∀i,(co T i).natAbs<=V*(2*M+3)^xs.length
 | [],T,V,hl,_,_,_,i=>by
   have:T=[]:=List.eq_nil_of_length_eq_zero (by simpa using hl)
   rw [this,Bv]
   exact zero_le _
 | c::xs,T,V,hl,hn,hM,hV,i=>by
   rw [nodup_cons]at hn
   have Y:=hM c (by simp)
   have Z:=hV c (by simp)
   have J:=interp M xs (sd c T) (2*V) (by rw [Ah6];rw [length_cons]at hl;omega) hn.2 (fun x I=>hM x (by simp [I])) fun x I=>by
    have e:=Am4 c x T
    have O:x-c≠0:=fun z=>hn.1 (by
     have:x=c:=by omega
     rw [<-this]
     exact I)
    have a0:=hV x (by simp [I])
    have U:((x-c)*ei (sd c T) x).natAbs<=2*V:=by
     have:(x-c)*ei (sd c T) x=ei T x-ei T c:=by omega
     rw [this]
     omega
    rw [natAbs_mul]at U
    exact le_trans (le_mul_of_pos_left _ (natAbs_pos.mpr O)) U
   obtain⟨h0,h1⟩:=Am3 c T
   rw [length_cons,Nat.pow_succ,<-Nat.mul_assoc]
   generalize hB:(2*M+3)^xs.length=B at J ⊢
   have S:1<=B:=by rw [<-hB];exact pow_pos (by omega)
   have W:∀j,(c*co (sd c T) j).natAbs<=M*(2*V*B):=fun j=>by
    rw [natAbs_mul]
    exact mul_le_mul Y (J j)
   have a5:V+M*(2*V*B)+2*V*B<=V*B*(2*M+3):=by
    have a1:V<=V*B:=Nat.le_mul_of_pos_right _ S
    have a2:M*(2*V*B)=2*(M*(V*B)):=by grind
    have a3:V*B*(2*M+3)=2*(M*(V*B))+3*(V*B):=by grind
    have a4:2*V*B=2*(V*B):=by grind
    omega
   cases i with
   | zero=>
     rw [h0]
     have:=W 0
     omega
   | succ i=>
     rw [h1 i]
     have:=W (i+1)
     have:=J i
     omega
theorem Afg {p:List Int}{xs:List Int} (I:xs.Nodup) (h:∀x∈xs,ei p x=0) (J:p.length<=xs.length) (i:Nat):co p i=0:=by
 have:=interp (xs.foldr (fun x m=>max x.natAbs m) 0) xs p 0 J I (fun x z=>by
  clear I h J
  induction xs with
  | nil=>simp at z
  | cons y ys M=>
    rw [List.foldr_cons]
    rcases mem_cons.mp z with rfl | z
    . exact Nat.le_max_left _ _
    . exact le_trans (M z) (Nat.le_max_right _ _)) (fun x z=>by rw [h x z];simp) i
 rw [Nat.zero_mul]at this
 omega
theorem Ak3 {p:List Int}{n M:Nat}{x:Int} (J:x.natAbs<=M) (I:1<=M):(∀i,(co p i).natAbs<=2^n)->(ei p x).natAbs<=p.length*(2^n*M^p.length):=by
 induction p with
 | nil=>intro _;simp [ei]
 | cons a r O=>
   intro h
   have S:=h 0
   rw [Eb]at S
   have U:=O fun i=>by have:=h (i+1);rwa [Dy]at this
   rw [ei,length_cons,Nat.pow_succ]
   generalize Y:2^n=A at*
   generalize W:M^r.length=B at*
   have z:1<=B:=by rw [<-W];exact pow_pos I
   have h1:(a+x*ei r x).natAbs<=A+M*(r.length*(A*B)):=by
    have:(x*ei r x).natAbs<=M*(r.length*(A*B)):=by
     rw [natAbs_mul]
     exact mul_le_mul J U
    have:=Int.natAbs_add_le a (x*ei r x)
    omega
   have e:(r.length+1)*(A*(B*M))=M*(r.length*(A*B))+A*(B*M):=by grind
   have:A*1<=A*(B*M):=mul_le_mul_left _ (Nat.mul_pos z I)
   omega
theorem Acg (f:Int->Bool):∀R:List Int,(R.filter f).length+(R.filter fun x=> !f x).length=R.length
 | []=>rfl
 | a::r=>by
   have:=Acg f r
   cases h:f a<;>simp [filter_cons,h]<;>omega
theorem Adm {p T S:List Int}{n:Nat} (h:∀i,co p i=mu S (co T) i) (np:∃i,co p i≠0) (hp:∀i,(co p i).natAbs<=2^n) (Z:p.length<=13) (lT:T.length<=p.length) (i:Nat):(co T i).natAbs<=2^(n+140):=by
 let R:List Int:=(List.range 26).map fun(k:Nat)=>((k:Nat):Int)
 have hR:R.Nodup:=by decide
 have O:∀x∈R,x.natAbs<=25:=by decide
 let I:=R.filter fun x=>decide (ei p x≠0)
 let M:=R.filter fun x=> !decide (ei p x≠0)
 have a0:I.length+M.length=26:=by
  have e:R.length=26:=by decide
  rw [<-e]
  exact Acg _ R
 have a1:M.length<p.length:=by
  refine Nat.lt_of_not_le fun z=> ?_
  obtain⟨j,hj⟩:=np
  refine hj (Afg (xs:=M) (hR.filter _) (fun x J=> ?_) z j)
  have:=(mem_filter.mp J).2
  simpa using this
 have hV:∀x∈I,(ei T x).natAbs<=13*(2^n*25^13):=fun x J=>by
  have U:=(mem_filter.mp J).1
  have h0:ei p x≠0:=by simpa using(mem_filter.mp J).2
  have e:=Aok h x
  have e1:=congrArg natAbs e
  rw [natAbs_mul]at e1
  have s0:ei S x≠0:=fun z=>h0 (by rw [e,z,Int.zero_mul])
  have h1:(ei T x).natAbs<=(ei p x).natAbs:=by
   rw [e1]
   exact le_mul_of_pos_left _ (natAbs_pos.mpr s0)
  refine le_trans h1 (le_trans (Ak3 (O x U) (by decide) hp) ?_)
  exact mul_le_mul Z (mul_le_mul_left _ (Nat.pow_le_pow_right (by decide) Z))
 have W:=interp 25 (I.take 13) T _ (by rw [length_take];omega) (hR.filter _ |>.sublist (List.take_sublist _ _)) (fun x J=>O x (mem_filter.mp (List.mem_of_mem_take J)).1) (fun x J=>hV x (List.mem_of_mem_take J)) i
 refine le_trans W ?_
 have l8:(I.take 13).length<=13:=by rw [length_take];omega
 have Y:(2*25+3)^(I.take 13).length<=53^13:=Nat.pow_le_pow_right (by decide) l8
 refine le_trans (mul_le_mul_left _ Y) ?_
 have:13*(2^n*25^13)*53^13=2^n*(13*25^13*53^13):=by grind
 rw [this,pow_add]
 exact mul_le_mul_left _ (by decide)
structure QF (p q T B:List Int):Prop where
 tT:Tr T
 tB:Tr B
 nB:B≠ []
 pos:0<co B (B.length-1)
 gl1:gl (T++B)=1
 cop:∀d,Tr d->Dv d T->Dv d B->d.length<=1
 eq:tm T q=tm B p
theorem Aca {d f:List Int} (h:Dv d f):Dv (trim d) f:=h.of_scale (a:=1) (b:=1) (by decide) fun i=>by rw [Bl]
theorem Anf {a b:List Int} (ta:Tr a) (tb:Tr b) (I:a≠ []) (J:b≠ []):tm a b≠ []:=fun z=>by
 have:=J4 ta tb I J
 rw [z,length_nil]at this
 have h1:=length_pos_iff.mpr I
 have h2:=length_pos_iff.mpr J
 omega
structure Pol where
 l:List Int
 tr:Tr l
theorem K1 {a b:Pol} (h:∀i,co a.l i=co b.l i):a=b:=by
 obtain⟨a,ta⟩:=a
 obtain⟨b,tb⟩:=b
 have e:a=b:=ta.ext tb h
 subst e
 rfl
noncomputable def cst (c:Int):Pol:=⟨trim [c],Bq _⟩
noncomputable instance:Add Pol:=⟨fun a b=>⟨ta a.l b.l,Qp _ _⟩⟩
noncomputable instance:Mul Pol:=⟨fun a b=>⟨tm a.l b.l,Gw _ _⟩⟩
noncomputable instance:Neg Pol:=⟨fun a=>⟨trim (a.l.map ((-1)* ·)),Bq _⟩⟩
noncomputable instance:Sub Pol:=⟨fun a b=>a+ -b⟩
noncomputable instance:NatCast Pol:=⟨fun n=>cst n⟩
noncomputable instance:IntCast Pol:=⟨fun n=>cst n⟩
noncomputable instance (n:Nat):OfNat Pol n:=⟨cst n⟩
noncomputable instance:HPow Pol Nat Pol:=⟨fun a n=>⟨pw a.l n,Tw _ _⟩⟩
noncomputable instance:SMul Nat Pol:=⟨fun n a=>cst n*a⟩
noncomputable instance:SMul Int Pol:=⟨fun n a=>cst n*a⟩
theorem Jw (c:Int) (i:Nat):co (cst c).l i=if i=0 then c else 0:=by
 show co (trim [c]) i=_
 rw [Bl]
 cases i with
 | zero=>rfl
 | succ i=>rfl
theorem Jd (a b:Pol) (i:Nat):co (a+b).l i=co a.l i+co b.l i:=Ma _ _ _
theorem Jx (a b:Pol) (i:Nat):co (a*b).l i=mu a.l (co b.l) i:=Dz _ _ _
theorem Y7 (a:Pol) (i:Nat):co (-a).l i= -co a.l i:=by
 show co (trim (a.l.map ((-1)* ·))) i=_
 rw [Bl,Ga]
 omega
theorem Alx (c:Int) (f:Nat->Int) (i:Nat):mu (cst c).l f i=c*f i:=by
 rw [show(cst c).l=trim [c]from rfl,Cm f (trim [c]) [c] (fun i=>Bl _ _)]
 show c*f i+sh (mu [] f) i=_
 have:sh (mu [] f) i=0:=congrFun Pq i
 omega
theorem Gd (c:Int) (a:Pol) (i:Nat):co (cst c*a).l i=c*co a.l i:=by rw [Jx,Alx]
theorem Ob (a b:Pol):a*b=b*a:=K1 fun i=>by rw [Jx,Jx,K8]
theorem Aht (a:Pol):a*1=a:=by
 rw [Ob]
 exact K1 fun i=>by
  show co (cst 1*a).l i=_
  rw [Gd]
  omega
theorem Ahr (a:Pol):0*a=0:=K1 fun i=>by
 show co (cst 0*a).l i=co (cst 0).l i
 rw [Gd,Jw]
 split<;>omega
theorem Ahs (a b c:Pol):a*(b+c)=a*b+a*c:=K1 fun i=>by
 rw [Jd,Jx,Jx,Jx,show co (b+c).l=fun i=>co b.l i+co c.l i from funext fun i=>Jd b c i,Qc]
noncomputable instance polSemi:Lean.Grind.Semiring Pol where
 add_zero a:=K1 fun i=>by
  rw [Jd]
  show _+co (cst 0).l i=_
  rw [Jw]
  split<;>omega
 add_comm a b:=K1 fun i=>by rw [Jd,Jd,Int.add_comm]
 add_assoc a b c:=K1 fun i=>by rw [Jd,Jd,Jd,Jd,Int.add_assoc]
 mul_assoc a b c:=K1 fun i=>congrArg (co · i) (Z1 a.l b.l c.l)
 mul_one:=Aht
 one_mul a:=by rw [Ob,Aht]
 left_distrib:=Ahs
 right_distrib a b c:=by rw [Ob,Ahs,Ob c a,Ob c b]
 zero_mul:=Ahr
 mul_zero a:=by rw [Ob,Ahr]
 pow_zero a:=K1 fun i=>rfl
 pow_succ a n:=by
  rw [Ob]
  exact K1 fun i=>rfl
 ofNat_succ n:=K1 fun i=>by
  rw [Jd]
  show co (cst ((n+1:Nat):Int)).l i=co (cst (n:Nat)).l i+co (cst ((1:Nat):Int)).l i
  rw [Jw,Jw,Jw]
  split<;>omega
noncomputable instance polRing:Lean.Grind.Ring Pol where
 neg_add_cancel a:=K1 fun i=>by
  rw [Jd,Y7]
  show _=co (cst 0).l i
  rw [Jw]
  split<;>omega
 sub_eq_add_neg a b:=rfl
 neg_zsmul c a:=K1 fun i=>by
  show co (cst (-c)*a).l i=co (-(cst c*a)).l i
  rw [Y7,Gd,Gd]
  grind
 intCast_neg c:=K1 fun i=>by
  show co (cst (-c)).l i=co (-cst c).l i
  rw [Y7,Jw,Jw]
  split<;>omega
noncomputable instance polComm:Lean.Grind.CommRing Pol where
 mul_comm:=Ob
theorem Fz (c d:Int):cst (c*d)=cst c*cst d:=K1 fun i=>by
 rw [Gd,Jw,Jw]
 split
 . rfl
 . omega
theorem Al1:(0:Pol).l=[]:=rfl
theorem Et {a:Pol}:a≠0↔a.l≠ []:=by
 constructor
 . intro h z
   exact h (K1 fun i=>by rw [z,Al1])
 . intro h z
   rw [z]at h
   exact h Al1
theorem Wa {c:Int} (h:c≠0):(cst c).l=[c]:=by
 show trim [c]=[c]
 exact Pz (.inr ⟨by simp,by simpa using h⟩)
theorem Ahe {c:Int} (h:c≠0):cst c≠0:=Et.mpr (by rw [Wa h];simp)
theorem Ad0 {a b:Pol} (z:a≠0) (I:b≠0):a*b≠0:=Et.mpr (Anf a.tr b.tr (Et.mp z) (Et.mp I))
theorem J0 {a b c:Pol} (z:c≠0) (h:a*c=b*c):a=b:=by
 have e:(a-b)*c=0:=by grind
 by_cases n:a-b=0
 . grind
 . exact absurd e (Ad0 n z)
theorem Adz {a b:Pol} (z:a≠0) (I:b≠0):(a*b).l.length+1=a.l.length+b.l.length:=J4 a.tr b.tr (Et.mp z) (Et.mp I)
theorem len_pos {a:Pol} (h:a≠0):1<=a.l.length:=length_pos_iff.mpr (Et.mp h)
theorem Uz {a:Pol} (h:a≠0) (l:a.l.length<=1):∃c:Int,c≠0/\a=cst c:=by
 have I:=len_pos h
 obtain⟨c,e⟩:=List.length_eq_one_iff.mp (show a.l.length=1 by omega)
 have z:c≠0:=by
  have:=a.tr.lead (Et.mp h)
  rw [e]at this
  exact this
 exact⟨c,z,K1 fun i=>by rw [Wa z,e]⟩
noncomputable def D (a:Pol):Pol:=⟨dr a.l,Ab8 a.tr⟩
theorem V0 (a b:Pol):D (a*b)=D a*b+a*D b:=K1 fun i=>congrArg (co · i) (Aoi a.l b.l)
theorem Yy (c:Int) (a:Pol):D (cst c*a)=cst c*D a:=K1 fun i=>by
 show co (dr (cst c*a).l) i=co (cst c*D a).l i
 rw [Us,Gd,Gd]
 show _=c*co (dr a.l) i
 rw [Us]
 grind
theorem Aku (a:Pol):∀n:Nat,D (a^(n+1))=cst ((n:Int)+1)*a^n*D a
 | 0=>by
   have e:a^(0+1)=a:=by grind
   have z:cst (((0:Nat):Int)+1)=1:=rfl
   rw [e,z]
   grind
 | n+1=>by
   have e:a^(n+1+1)=a^(n+1)*a:=by grind
   have z:cst (((n+1:Nat):Int)+1)=cst ((n:Int)+1)+1:=K1 fun i=>by
    rw [Jd]
    show _=_+co (cst 1).l i
    rw [Jw,Jw,Jw]
    split<;>omega
   rw [e,V0,Aku a n,z]
   grind
noncomputable def Di (d f:Pol):Prop:=∃(c:Int) (u:Pol),c≠0/\cst c*f=u*d
theorem Qj {d f:Pol}:Di d f↔Dv d.l f.l:=by
 constructor
 . rintro⟨c,u,z,e⟩
   exact⟨c,u.l,z,fun i=>by rw [<-Gd,e,Jx]⟩
 . rintro⟨c,u,z,e⟩
   exact⟨c,⟨trim u,Bq u⟩,z,K1 fun i=>by rw [Gd,e,Jx,Cm _ (trim u) u (fun i=>Bl _ _)]⟩
theorem Di.refl (d:Pol):Di d d:=⟨1,1,by decide,rfl⟩
theorem Di.mul (d u:Pol):Di d (u*d):=⟨1,u,by decide,by rw [show cst 1=(1:Pol)from rfl];grind⟩
theorem Di.trans {d f g:Pol} (h:Di d f) (k:Di f g):Di d g:=Qj.mpr ((Qj.mp h).trans (Qj.mp k))
theorem Di.len {d f:Pol} (n:f≠0) (h:Di d f):d≠0/\d.l.length<=f.l.length:=by
 obtain⟨a,b⟩:=(Qj.mp h).len d.tr f.tr (Et.mp n)
 exact⟨Et.mpr a,b⟩
theorem Di.cst {d:Pol}{c:Int} (z:c≠0) (h:Di d (cst c)):d.l.length<=1:=by
 have:=(h.len (Ahe z)).2
 rw [Wa z]at this
 exact this
noncomputable def Cp (a b:Pol):Prop:=∃(u v:Pol) (c:Int),c≠0/\u*a+v*b=cst c
theorem Cp.di {a b d:Pol} (h:Cp a b) (k:Di d a):Cp d b:=by
 obtain⟨u,v,c,z,e⟩:=h
 obtain⟨m,x,I,f⟩:=k
 refine⟨u*x,cst m*v,m*c,mul_ne_zero I z,?_⟩
 rw [Fz,<-e]
 grind
theorem Cp.cut {a b c:Pol} (h:Cp a b) (k:Di a (b*c)):Di a c:=by
 obtain⟨u,v,m,z,e⟩:=h
 obtain⟨n,x,I,f⟩:=k
 refine⟨m*n,u*c*cst n+v*x,mul_ne_zero z I,?_⟩
 rw [Fz,<-e]
 grind
theorem Cp.const {a b d:Pol} (h:Cp a b) (x:Di d a) (y:Di d b):d.l.length<=1:=by
 obtain⟨u,v,m,z,e⟩:=h
 obtain⟨k,p,I,f⟩:=x
 obtain⟨n,q,J,g⟩:=y
 refine Di.cst (c:=k*n*m) (mul_ne_zero (mul_ne_zero I J) z) ⟨1,u*p*cst n+v*q*cst k,by decide,?_⟩
 rw [Fz,Fz,<-e,show cst 1=(1:Pol)from rfl]
 grind
theorem Ady (a b:Pol):∃(g u v:Pol) (c:Int),c≠0/\Di g a/\Di g b/\cst c*g=u*a+v*b:=by
 obtain⟨g,u,v,c,z,h1,h2,e⟩:=bez b.l.length b.l a.l (le_refl _) b.tr
 refine⟨⟨trim g,Bq g⟩,⟨trim u,Bq u⟩,⟨trim v,Bq v⟩,c,z,Qj.mpr (Aca h1),Qj.mpr (Aca h2),K1 fun i=> ?_⟩
 rw [Gd,Jd,Jx,Jx,Cm _ (trim u) u (fun i=>Bl _ _),Cm _ (trim v) v (fun i=>Bl _ _),<-e]
 show c*co (trim g) i=_
 rw [Bl]
theorem Gc.cp {a b x y g:Pol} (h:Gc a.l b.l g.l) (ng:g≠0) (z:a=x*g) (I:b=y*g):Cp x y:=by
 obtain⟨u,v,c,J,e⟩:=h.bez b.tr
 refine⟨⟨trim u,Bq u⟩,⟨trim v,Bq v⟩,c,J,J0 ng ?_⟩
 have M:cst c*g=⟨trim u,Bq u⟩*a+⟨trim v,Bq v⟩*b:=K1 fun i=>by
  rw [Gd,Jd,Jx,Jx,Cm _ (trim u) u (fun i=>Bl _ _),Cm _ (trim v) v (fun i=>Bl _ _),<-e]
 rw [M,z,I]
 grind
noncomputable def Sqf (f:Pol):Prop:=Cp f (D f)
theorem Sqf.di {d f:Pol} (h:Sqf f) (k:Di d f):Sqf d:=by
 obtain⟨p,q,m,z,e⟩:=h
 obtain⟨c,u,I,g⟩:=k
 have J:=congrArg D g
 rw [Yy,V0]at J
 refine⟨p*u+q*D u,q*u,c*m,mul_ne_zero I z,?_⟩
 rw [Fz,<-e]
 grind
theorem Sqf.parts {f g:Pol} (h:Sqf (f*g)):Cp f g:=by
 obtain⟨p,q,m,z,e⟩:=h
 rw [V0]at e
 exact⟨p*g+q*D g,q*D f,m,z,by rw [<-e];grind⟩
theorem Sqf.sq {d f:Pol} (h:Sqf f) (k:Di (d*d) f):d.l.length<=1:=by
 have s:=(h.di k).parts
 exact s.const (.refl d) (.refl d)
theorem Wt {h:Pol} (z:h≠0):∀n:Nat,h^n≠0
 | 0=>Ahe (c:=1) (by decide)
 | n+1=>by
   rw [show h^(n+1)=h^n*h by grind]
   exact Ad0 (Wt z n) z
theorem Ad5 {h:Pol} (l:2<=h.l.length):∀n:Nat,n+1<=(h^n).l.length
 | 0=>le_refl 1
 | n+1=>by
   have I:h≠0:=Et.mpr fun z=>by rw [z]at l;simp at l
   rw [show h^(n+1)=h^n*h by grind]
   have:=Adz (Wt I n) I
   have:=Ad5 l n
   omega
theorem Ajb {h B:Pol} (z:B≠0) (all:∀n:Nat,Di (h^n) B):h.l.length<=1:=by
 by_cases l:2<=h.l.length
 . have a:=((all B.l.length).len z).2
   have b:=Ad5 l B.l.length
   omega
 . omega
theorem Agn {W G V:Pol} (nW:W≠0) (nG:G≠0) (e:D (W*G)=V*G) (cp:Cp W V):Sqf W:=by
 obtain⟨g,u,v,c,hc,gW,gD,Z⟩:=Ady W (D W)
 have ng:=(gW.len nW).1
 rw [V0]at e
 have cT:Cp g (V-D W):=by
  obtain⟨p,q,k,O,f⟩:=cp.di gW
  obtain⟨m,w,hm,fm⟩:=gD
  refine⟨cst m*p+q*w,cst m*q,m*k,mul_ne_zero hm O,?_⟩
  rw [Fz,<-f]
  grind
 have all:∀n:Nat,Di (g^n) G:=by
  intro n
  induction n with
  | zero=>exact⟨1,G,by decide,by rw [show g^0=1 from rfl,show cst 1=(1:Pol)from rfl];grind⟩
  | succ n ih=>
    obtain⟨x,C,hx,M⟩:=ih
    obtain⟨I,E,S,U⟩:=gW
    obtain⟨J,w,a0,fw⟩:=gD
    have a1:Di g C:=by
     cases n with
     | zero=>
       have a2:cst x*G=C:=by rw [M,show g^0=1 from rfl];grind
       refine cT.cut ⟨I,E*D G*cst x,S,?_⟩
       rw [<-a2]
       grind
     | succ n=>
       have z:=congrArg D M
       rw [Yy,V0,Aku]at z
       have Y:=congrArg D U
       rw [Yy,V0]at Y
       have pg:=Wt ng (n+1)
       have e1:E*(g*D C+cst ((n:Int)+1)*C*D g)=cst I*C*(V-D W):=by
        refine J0 (Wt ng (n+1)) ?_
        have h1:(cst I*W)*(cst x*D G)=cst I*(cst x*G)*(V-D W):=by
         clear z Y U M fw Z pg
         grind
        have p1:g^(n+1)=g^n*g:=by grind
        rw [U,z,M,p1]at h1
        rw [p1]
        clear z Y U M fw Z pg p1 e
        grind
       refine cT.cut ⟨I*J,cst J*E*D C+cst ((n:Int)+1)*C*(cst I*w-cst J*D E),mul_ne_zero S a0,?_⟩
       have e2:cst J*(cst I*D W)=cst I*(cst J*D W):=by grind
       rw [Y,fw]at e2
       rw [Fz,show cst I*cst J*((V-D W)*C)=cst J*(cst I*C*(V-D W))by grind,<-e1]
       clear e1 Y fw z M U Z e pg
       grind
    obtain⟨k,y,O,fk⟩:=a1
    refine⟨k*x,y,mul_ne_zero O hx,?_⟩
    rw [Fz,show g^(n+1)=g^n*g by grind]
    grind
 have lg:=Ajb nG all
 obtain⟨k,O,rfl⟩:=Uz ng lg
 exact⟨u,v,c*k,mul_ne_zero hc O,by rw [Fz,Z]⟩
theorem Amn {a b:Pol} (z:b≠0) (h:pln (a*b).l=(a*b).l) (I:pln b.l=b.l):pln a.l=a.l:=by
 have e:pln (a*b).l=tm (pln a.l) (pln b.l):=Ajo a.tr b.tr
 rw [h,I]at e
 have:a=⟨pln a.l,Kw a.tr⟩:=J0 z (K1 fun i=>congrArg (co · i) e)
 exact(congrArg Pol.l this).symm
theorem Amo {a:Pol} (n:a≠0) (h:pln a.l=a.l) (l:a.l.length<=1):a=1:=by
 obtain⟨c,z,rfl⟩:=Uz n l
 refine K1 fun i=> ?_
 rw [<-h,Wa z]
 have J:0<c:=by
  have:=Adv (cst c).tr (Et.mp n) h
  rw [Wa z]at this
  exact this
 have:pln [c]=[1]:=by
  refine Adu (c:=c) (.inr ⟨by simp,by simpa using z⟩) (.inr ⟨by simp,by decide⟩) (fun e I=> ?_) z (fun k=> ?_) (by simp) (by decide)
  . exact I 0
  . cases k with
    | zero=>simp [Eb]
    | succ k=>simp [Dy,Bv]
 rw [this]
 rfl
theorem Ag1 {B:Pol} (h:D B=0):B.l.length<=1:=by
 have:(dr B.l).length=0:=by
  have:=congrArg (·.l.length) h
  exact this
 rw [Rk]at this
 omega
open PySem L2
local macro_rules | `(tactic| done)=> `(tactic| simp only [Aqd,Anv,Apz,Aqc,Ano,Apm,Vx,Aqa,An1,An2,z_c,Ap8,Ari,Arc,Aqb,Ard,Aps,Ap5,Apq,Ap4,Ae2,Arh,Apu,Apw,Apt,Anp,Anq,Ap7,Apl,Arb,Anj,Ap9,Anw,Ara,Ank,Ap6,Anm,Aq8,Aqe,Ap3,Anl,An0,Akm,Anu,Apx,Ap1,Ap2,Agy,Arf,Agz,Anz,Apn,Aq7,Apo,Anx,Apy,Ap0,Ans,Anr,Ant,Ako,Ann,Apv,Akn,Aq9,cpσ,getElem?_cons_zero,List.getElem?_cons_succ,Option.join_some,set_cons_zero,set_cons_succ,append_nil,decide_eq_true_eq,Bool.not_eq_true',decide_eq_false_iff_not,Bool.not_not,ite_not,Bool.false_eq_true,Bool.true_eq_false,if_false,if_true,if_pos,length_cons,length_nil,Nat.zero_add,Nat.reduceAdd,Am8,Am9,true_and,and_true,L2.start,map_cons,map_nil,Bool.not_true,Bool.not_false,Nat.reduceSub,replicate_succ,List.replicate_zero,cons_append,nil_append])
noncomputable def top (i:Nat):Stmt:=PySem.Challenge.pw_rootcourt_k14_whole_any_paper_let_by.main.body.getD i (.Pass ⟨0,0,0,0⟩)
theorem Cz {N P:List Str}{sc:Scope} (h1:sc.kind= .function:=by rfl) (h2:sc.isCoroutine=false:=by rfl) (z:sc.isGenerator=false:=by rfl) (I:N.Nodup:=by decide+kernel) (J:N.take P.length=P:=by rfl) (M:∀x∈P,sc.names.lookup x=some .local \/sc.names.lookup x=some .cell:=by decide+kernel) (O:∀y∈sc.names,y.2≠ .free:=by decide+kernel):Bc N P sc:=⟨h1,h2,z,I,J,M,O⟩
noncomputable abbrev O7:Stmt:=top 5
theorem Yt:Bc ["thing"] ["thing"] (Av O7):=Cz
noncomputable abbrev R6:Stmt:=top 6
theorem Mq:Bc ["one","other","greater","lesser"] ["one","other"] (Av R6):=Cz
noncomputable abbrev Li:Stmt:=top 7
theorem Ie:Bc ["some","found","number"] ["some"] (Av Li):=Cz
noncomputable abbrev Og:Stmt:=top 9
theorem Aa8:Bc ["thing"] ["thing"] (Av Og):=Cz
noncomputable abbrev Aec:Stmt:=top 10
theorem Yu:Bc ["weights","length"] ["weights"] (Av Aec):=Cz
noncomputable abbrev Vf:Stmt:=top 11
theorem Aee:Bc ["one"] ["one"] (Av Vf):=Cz
noncomputable abbrev Qv:Stmt:=top 12
theorem Hy:Bc ["one","other","weights","place","weight"] ["one","other"] (Av Qv):=Cz
noncomputable abbrev R7:Stmt:=top 13
theorem Aa9:Bc ["one","other"] ["one","other"] (Av R7):=Cz
noncomputable abbrev R8:Stmt:=top 14
theorem Ii:Bc ["one","other","weights","place","weight","further","factor"] ["one","other"] (Av R8):=Cz
noncomputable abbrev Qx:Stmt:=top 15
theorem Aej:Bc ["one","factor"] ["one","factor"] (Av Qx):=Cz
noncomputable abbrev Yp:Stmt:=top 16
theorem Agj:Bc ["one","many"] ["one","many"] (Av Yp):=Cz
noncomputable abbrev Pn:Stmt:=top 17
theorem Gu:Bc ["start","one","many","product","found","square","left"] ["start","one","many","product"] (Av Pn):=Cz
noncomputable abbrev Kh:Stmt:=top 18
theorem Tz:Bc ["number","many"] ["number","many"] (Av Kh):=Cz
noncomputable abbrev Vl:Stmt:=top 19
theorem Aei:Bc ["one","many"] ["one","many"] (Av Vl):=Cz
noncomputable abbrev Oe:Stmt:=top 20
theorem Aa7:Bc ["one"] ["one"] (Av Oe):=Cz
noncomputable abbrev Ke:Stmt:=top 22
theorem Wu:Bc ["one","m"] ["one","m"] (Av Ke):=Cz
noncomputable abbrev Lk:Stmt:=top 23
theorem Fb:Bc ["number","m","greater","lesser","ahead","here","many"] ["number","m"] (Av Lk):=Cz
noncomputable abbrev O8:Stmt:=top 24
theorem Gf:Bc ["one","other","m","inverse","rest","quotient","place","factor","further","weight"] ["one","other","m"] (Av O8):=Cz
noncomputable abbrev Vh:Stmt:=top 25
theorem Aef:Bc ["one","other","m"] ["one","other","m"] (Av Vh):=Cz
noncomputable abbrev Vn:Stmt:=top 26
theorem Wy:Bc ["one","t","told"] ["one","t"] (Av Vn):=Cz
noncomputable abbrev O9:Stmt:=top 27
theorem Kl:Bc ["one","other","t","first","second"] ["one","other","t"] (Av O9):=Cz
noncomputable abbrev R5:Stmt:=top 30
theorem Aa6:Bc ["one"] ["one"] (Av R5):=Cz
noncomputable abbrev Yo:Stmt:=top 31
theorem Agi:Bc ["one"] ["one"] (Av Yo):=Cz
noncomputable abbrev Aed:Stmt:=top 32
theorem Aj4:Bc ["one"] ["one"] (Av Aed):=Cz
noncomputable abbrev Qy:Stmt:=top 33
theorem Ael:Bc ["one","number"] ["one","number"] (Av Qy):=Cz
noncomputable abbrev Vi:Stmt:=top 34
theorem Aeg:Bc ["one","other"] ["one","other"] (Av Vi):=Cz
noncomputable abbrev Lq:Stmt:=top 35
theorem Oi:Bc ["one","other","division"] ["one","other"] (Av Lq):=Cz
noncomputable abbrev Ge:Stmt:=top 36
theorem Ca:Bc ["one","other","scaling","scale","quotient","rest","place","missing","factor","further","weight"] ["one","other","scaling"] (Av Ge):=Cz
noncomputable abbrev Vm:Stmt:=top 37
theorem Aek:Bc ["one","other"] ["one","other"] (Av Vm):=Cz
noncomputable abbrev Js:Stmt:=top 38
theorem Sq:Bc ["one","other"] ["one","other"] (Av Js):=Cz
noncomputable abbrev Jr:Stmt:=top 39
theorem Gg:Bc ["one","other","g","part","a","b"] ["one","other"] (Av Jr):=Cz
noncomputable abbrev Ht:Stmt:=top 40
theorem Es:Bc ["one","other","paper","g","u","v","a","b","c"] ["one","other","paper"] (Av Ht):=Cz
noncomputable abbrev Ml:Stmt:=top 41
theorem Cq:Bc ["first","second","lead","height","steps","known","third"] ["first","second"] (Av Ml):=Cz
noncomputable abbrev Pa:Stmt:=top 42
theorem Gs:Bc ["first","second","known","scale","third","quotient","rest","upper","lower"] ["first","second","known"] (Av Pa):=Cz
noncomputable abbrev Ho:Stmt:=top 43
theorem Dd:Bc ["one","other","quotient","rest","place","top","term"] ["one","other"] (Av Ho):=Cz
noncomputable abbrev Ng:Stmt:=top 45
theorem Qd:Bc ["one","full"] ["one"] (Av Ng):=Cz
noncomputable abbrev Ir:Stmt:=top 46
theorem Qo:Bc ["one"] ["one"] (Av Ir):=Cz
noncomputable abbrev Lj:Stmt:=top 47
theorem Gm:Bc ["one","f","w","a","b","e"] ["one"] (Av Lj):=Cz
noncomputable abbrev Jf:Stmt:=top 48
theorem Ez:Bc ["one","paper","f","u","c","w","a","b","e"] ["one","paper"] (Av Jf):=Cz
noncomputable abbrev Lp:Stmt:=top 49
theorem Vo:Bc ["one","f","c","w"] ["one","f","c","w"] (Av Lp):=Cz
noncomputable abbrev Nh:Stmt:=top 51
theorem Wv:Bc ["_law_script","_law_k"] ["_law_script","_law_k"] (Av Nh):=Cz
noncomputable abbrev R9:Stmt:=top 52
theorem Mr:Bc ["_law_cell","_law_k","_law_left","_law_drawn"] ["_law_cell","_law_k"] (Av R9):=Cz
noncomputable abbrev Sh:Stmt:=top 53
theorem Aba:Bc ["_law_found"] ["_law_found"] (Av Sh):=Cz
noncomputable abbrev Ys:Stmt:=top 54
theorem Q0:Bc ["_law_one","_law_other"] ["_law_one","_law_other"] (Av Ys):=Cz
noncomputable abbrev Kf:Stmt:=top 55
theorem Wx:Bc ["_law_found"] ["_law_found"] (Av Kf):=Cz
noncomputable abbrev Pk:Stmt:=top 56
theorem Nm:Bc ["_law_cell","_law_k","_law_part","_law_some"] ["_law_cell","_law_k"] (Av Pk):=Cz
noncomputable abbrev Yr:Stmt:=top 57
theorem Zw:Bc ["_law_weights","_law_found"] ["_law_weights"] (Av Yr):=Cz
noncomputable abbrev Qw:Stmt:=top 58
theorem Aeh:Bc ["_law_cell","_law_most"] ["_law_cell","_law_most"] (Av Qw):=Cz
noncomputable abbrev Nj:Stmt:=top 59
theorem Jg:Bc ["_law_one","_law_other","_law_found","_law_k","_law_j"] ["_law_one","_law_other"] (Av Nj):=Cz
noncomputable abbrev Vk:Stmt:=top 60
theorem Q5:Bc ["_law_one","_law_other","_law_many","_law_longer","_law_more"] ["_law_one","_law_other"] (Av Vk):=Cz
noncomputable abbrev Ni:Stmt:=top 61
theorem Ww:Bc ["_law_one","_law_other"] ["_law_one","_law_other"] (Av Ni):=Cz
noncomputable abbrev Mp:Stmt:=top 62
theorem Yv:Bc ["_law_one","_law_by"] ["_law_one","_law_by"] (Av Mp):=Cz
noncomputable abbrev Kg:Stmt:=top 63
theorem Dq:Bc ["_law_one","_law_other","_law_paper","_law_cell","_law_more","_law_far","_law_first_one","_law_second_one","_law_part","_law_left","_law_right","_law_by"] ["_law_one","_law_other","_law_paper","_law_cell"] (Av Kg):=Cz
noncomputable abbrev Ib:Stmt:=top 64
theorem Cg:Bc ["_law_paper","_law_cell","_law_drawn","_law_far","_law_much","_law_slope","_law_first_one","_law_second_one","_law_found","_law_left","_law_by","_law_more","_law_last"] ["_law_paper","_law_cell"] (Av Ib):=Cz
noncomputable abbrev Pj:Stmt:=top 65
theorem Er:Bc ["_law_paper","_law_cell","_law_at","_law_far","_law_each","_law_some","_law_new","_law_found","_law_turned_here"] ["_law_paper","_law_cell"] (Av Pj):=Cz
noncomputable abbrev Yq:Stmt:=top 66
theorem Qz:Bc ["_law_cell","_law_many","_law_found","_law_k","_law_some"] ["_law_cell","_law_many"] (Av Yq):=Cz
noncomputable abbrev Sd:Stmt:=top 67
theorem Ij:Bc ["_law_one","_law_point","_law_top","_law_bottom","_law_weight_here"] ["_law_one","_law_point"] (Av Sd):=Cz
noncomputable abbrev Ln:Stmt:=top 68
theorem Ig:Bc ["_law_one","_law_found","_law_weight_here"] ["_law_one"] (Av Ln):=Cz
noncomputable abbrev Hs:Stmt:=top 69
theorem Ei:Bc ["_law_one","_law_other","_law_paper","_law_whole_here","_law_part","_law_left","_law_right","_law_first_one","_law_second_one","_law_by"] ["_law_one","_law_other","_law_paper"] (Av Hs):=Cz
noncomputable abbrev Hx:Stmt:=top 70
theorem Ds:Bc ["_law_one","_law_paper","_law_whole_here","_law_k","_law_slope","_law_found","_law_left","_law_by","_law_more","_law_first_one","_law_second_one","_law_last"] ["_law_one","_law_paper"] (Av Hx):=Cz
noncomputable abbrev Pb:Stmt:=top 71
theorem Nk:Bc ["_law_one","_law_other","_law_paper","_law_drawn","_law_part","_law_each"] ["_law_one","_law_other","_law_paper","_law_drawn"] (Av Pb):=Cz
noncomputable abbrev Vj:Stmt:=top 72
theorem Oh:Bc ["_law_one","_law_paper","_law_drawn","_law_points","_law_found","_law_each","_law_point"] ["_law_one","_law_paper","_law_drawn","_law_points"] (Av Vj):=Cz
noncomputable abbrev Pg:Stmt:=top 73
theorem Fx:Bc ["_law_one","_law_other","_law_told","_law_cell","_law_some","_law_turned_here","_law_part","_law_left","_law_right","_law_first_one","_law_second_one","_law_by"] ["_law_one","_law_other","_law_told","_law_cell"] (Av Pg):=Cz
noncomputable abbrev Ip:Stmt:=top 74
theorem Bm:Bc ["_law_one","_law_told","_law_cell","_law_much","_law_turned_here","_law_some","_law_found","_law_left","_law_by","_law_more","_law_first_one","_law_second_one","_law_last","_law_bare","_law_unit","_law_whole_here","_law_k"] ["_law_one","_law_told","_law_cell"] (Av Ip):=Cz
noncomputable abbrev Ph:Stmt:=top 75
theorem Hq:Bc ["_law_one","_law_other","_law_cell","_law_told","_law_over_one","_law_free_one"] ["_law_one","_law_other","_law_cell"] (Av Ph):=Cz
noncomputable abbrev Hl:Stmt:=top 76
theorem Bj:Bc ["_law_one","_law_other","_law_twice","_law_paper","_law_more","_law_part","_law_left","_law_right","_law_first_one","_law_second_one","_law_by","_law_found","_law_last"] ["_law_one","_law_other"] (Av Hl):=Cz
noncomputable abbrev Vg:Stmt:=top 77
theorem J1:Bc ["_law_script","_law_point","_law_common_one","_law_one","_law_other","_law_drawn","_law_points","_law_found","_law_common_paper","_law_free_one","_law_right"] ["_law_script"] (Av Vg):=Cz
noncomputable def Agm (K:Frag):Sp:=fun vs H Q _=>∃(a:Addr) (ns:List Int),vs=[.ref a]/\SqL K H a (ns.map V.int)/\ns.length<=63/\∀H',Q (.bl true) H'
noncomputable def cell (ns:List Int) (k:Int):Int:=ns.getD k.toNat 0
noncomputable def Lw (K:Frag):Sp:=fun vs H Q _=>∃(a:Addr) (ns:List Int) (k:Int),vs=[.ref a,.int k]/\SqL K H a (ns.map V.int)/\0<=k/\Q (.int (cell ns k)) H
section
variable {P:Program}{w:World}{K:Frag}{mg:Str->Option Value}{base:Heap}
theorem Wi {f:Addr}{fd:FuncData} (F:Df K mg "_law_cell_at" Nh ["_law_script","_law_k"] f fd) (z_len:mg "len"=none)   :Cal P w K mg base 33 "_law_cell_at" ["_law_script","_law_k"] (Lw K):=by
 refine F.cal (F.fn.ok Wv (fun J H Q E h=> ?_) (fun M A outer s H J Q E S h=> ?_))
 . obtain⟨a,ns,k,rfl,_⟩:=h
   rfl
 obtain⟨a,ns,k,rfl,I,O,q⟩:=h
 refine Ax ⟨_,(Ad (Ay (Am Wo (Ae 1) (Ba Az rfl z_len PySem.boot_len (Aa (Ae 0) Ab)) (Bb _)) (Ag (Aj (Aw Ec (Ae 0) (Ae 1) (fun _ _=>rfl)))) Ar)
  (Ag (Aj Ac))),?_⟩
 done
 refine⟨a,_,rfl,.inl I,?_⟩
 rw [length_map]
 split
 . rename_i h
   have z:k.toNat<ns.length:=by omega
   refine Fi I (v:= .int (cell ns k)) ?_ q
   have e:=Bk (xs:=ns.map V.int) (j:=k.toNat) (v:= .int (cell ns k)) (by
    rw [getElem?_map,getElem?_eq_getElem z]
    unfold cell
    rw [getD_eq_getElem?_getD,getElem?_eq_getElem z]
    rfl)
   rw [Int.toNat_of_nonneg O]at e
   exact e
 . rename_i h
   have e:cell ns k=0:=by
    unfold cell
    rw [getD_eq_getElem?_getD,getElem?_eq_none (by omega)]
    rfl
   rw [e]at q
   exact q
theorem Ag9 {x:Int} (h:0<x):0<=Builtin.bitAnd x 2199023255551/\Builtin.bitAnd x 2199023255551<2^41:=by
 rw [bitAnd_pp (by omega) (by decide)]
 have:x.toNat&&& toNat 2199023255551<=toNat 2199023255551:=Nat.and_le_right
 have e:toNat 2199023255551=2199023255551:=rfl
 omega
noncomputable def Ms (_:Frag):Sp:=fun vs H Q _=>∃c k:Int,vs=[.int c,.int k]/\0<=k/\k<1000/\∀n:Int,0<=n->n<2^41->Q (.int n) H
theorem Aav {f:Addr}{fd:FuncData} (F:Df K mg "_law_mixed" R9 ["_law_cell","_law_k"] f fd)    :Cal P w K mg base 33 "_law_mixed" ["_law_cell","_law_k"] (Ms K):=by
 refine F.cal (F.fn.ok Mr (fun S H Q E h=> ?_) (fun U A outer s H S Q E Y h=> ?_))
 . obtain⟨c,k,rfl,_⟩:=h
   rfl
 obtain⟨c,k,rfl,Z,k1,q⟩:=h
 refine Ax ⟨_,(Ad (Ak 2 Mr.nd (Ah Al6 (Ah Cw (Ae 0) Ac) (Ah Cr Ac (Ae 1))))
  (Ad (Ay (Cj (Eo (Am Hj (Ah Dc (Ae 0) Ac) Ac (Bb _)) (Eu (Am R3 (Ae 2) Ac (Bb _))))) (Ag (Aj (Ah Al2 (Ae 2) Ac))) Ar)
  (Ad (Ak 3 Mr.nd (Ah Dc (Ah Cr (Ah Eh (Ah Eh (Ah Dc (Ae 0) Ac) (Ah Cr Ac (Ae 1))) Ac) Ac) Ac))
  (Ad (Ak 3 Mr.nd (Ah Dc (Ah Cr (Ae 3) (Ah Eh (Ah Cw (Ae 3) Ac) Ac)) Ac))
  (Ag (Aj (Ah Dc (Ah Cr (Ae 3) (Ah Eh (Ah Eh (Ah Cw (Ae 3) Ac) Ac) (Ae 1))) Ac))))))),?_⟩
 done
 have z:Sz 10 k:=by unfold Sz;omega
 refine⟨⟨by decide,by decide⟩,(by unfold Sz;decide:Sz 6 (41:Int)).mulOk z (by decide),by omega,?_⟩
 have I:IntMulOk 7919 k:=(by unfold Sz;decide:Sz 13 (7919:Int)).mulOk z (by decide)
 have J:IntMulOk (c%2147483647+7919*k+1) 48271:=(by unfold Sz;omega:Sz 40 (c%2147483647+7919*k+1)).mulOk (by unfold Sz;decide:Sz 16 (48271:Int)) (by decide)
 have d0:=emod_nonneg ((c%2147483647+7919*k+1)*48271) (by decide:(2147483647:Int)≠0)
 have d1:=emod_lt_of_pos ((c%2147483647+7919*k+1)*48271) (by decide:(0:Int)<2147483647)
 generalize (c%2147483647+7919*k+1)*48271%2147483647=d at*
 have M:IntMulOk d (d/1009+69621):=(by unfold Sz;omega:Sz 31 d).mulOk (by unfold Sz;omega:Sz 32 (d/1009+69621)) (by decide)
 have e0:=emod_nonneg (d*(d/1009+69621)) (by decide:(2147483647:Int)≠0)
 have e1:=emod_lt_of_pos (d*(d/1009+69621)) (by decide:(0:Int)<2147483647)
 generalize d*(d/1009+69621)%2147483647=e at*
 have O:IntMulOk e (e/4099+16807+k):=(by unfold Sz;omega:Sz 31 e).mulOk (by unfold Sz;omega:Sz 32 (e/4099+16807+k)) (by decide)
 have W:=emod_nonneg (e*(e/4099+16807+k)) (by decide:(2147483629:Int)≠0)
 have f1:=emod_lt_of_pos (e*(e/4099+16807+k)) (by decide:(0:Int)<2147483629)
 generalize e*(e/4099+16807+k)%2147483629=f at*
 have rest:=q f W (by omega)
 refine⟨by decide,?_⟩
 split
 . split
   . rename_i h
     exact q _ (Ag9 h).1 (Ag9 h).2
   . exact⟨by decide,I,J,by decide,⟨by decide,by decide⟩,M,by decide,⟨by decide,by decide⟩,O,by decide,rest⟩
 . exact⟨by decide,I,J,by decide,⟨by decide,by decide⟩,M,by decide,⟨by decide,by decide⟩,O,by decide,rest⟩
theorem Vu {H:Hp}{Q:VK}{E:XK}{c k:Int} (k0:0<=k) (k1:k<1000) (h:∀n:Int,0<=n->n<2^41->Q (.int n) H):Ms K [.int c,.int k] H Q E:=⟨c,k,rfl,k0,k1,h⟩
noncomputable def Nt (_:Frag):Sp:=fun vs H Q _=>∃c k:Int,vs=[.int c,.int k]/\0<=k/\k<100/\∀n H',Same H H'->Sz 50 n->Q (.int n) H'
theorem Yc {f:Addr}{fd:FuncData} (F:Df K mg "_law_weight" Pk ["_law_cell","_law_k"] f fd)   (I:Cal P w K mg base 33 "_law_mixed" ["_law_cell","_law_k"] (Ms K)):Cal P w K mg base 34 "_law_weight" ["_law_cell","_law_k"] (Nt K):=by
 refine F.cal (F.fn.ok Nm (fun U H Q E h=> ?_) (fun W A outer s H U Q E Y h=> ?_))
 . obtain⟨c,k,rfl,_⟩:=h
   rfl
 obtain⟨c,k,rfl,Z,k1,q⟩:=h
 refine Ax ⟨_,(Ad (Ak 2 Nm.nd (Af I Y (Aa (Ae 0) (Aa (Ae 1) Ab))))
  (Ad (Ak 3 Nm.nd (Cd (Aa (Ah Em (Ah Dc (Ah Cw (Ae 2) Ac) Ac) Ac) (Aa (Ah Em (Ah Dc (Ah Cw (Ae 2) Ac) Ac) Ac) (Aa (Ah Em (Ah Dc (Ah Cw (Ae 2) Ac) Ac) Ac) Ab)))))
  (Ag (Aj (Aw Ec (Ah Zk (Ae 3) (Cd (Aa (Ah Em (Ah Dc (Ah Cr (Ah Cw (Ae 2) Ac) Ac) (Ah Cr Ac (Ah Ahn Ac Ac))) (Ah Cr Ac (Ah Ahn Ac Ac))) Ab))) (Ah Dc (Ae 2) Ac) (fun _ _=>rfl)))))),?_⟩
 done
 refine Vu Z (by omega) fun n n0 n1=> ?_
 done
 refine⟨⟨by decide,by decide⟩,by decide,⟨by decide,by decide⟩,by decide,⟨by decide,by decide⟩,by decide,by decide,fun p hp=> ?_⟩
 have sp:=Same.upd hp (.lst [V.int (n/4%7-3),V.int (n/4%7-3),V.int (n/4%201-100)])
 have O:(0:Int)<4*10^toNat 11:=by decide
 have t1:(4:Int)*10^toNat 11<2^50/\(2:Int)*10^toNat 11<2^50/\(0:Int)<=2*10^toNat 11:=by decide
 have w0:=emod_nonneg (n/4*7451) (Int.ne_of_gt O)
 have w1:=emod_lt_of_pos (n/4*7451) O
 refine⟨⟨by decide,by decide⟩,(by unfold Sz;omega:Sz 41 (n/4)).mulOk (by unfold Sz;decide:Sz 14 (7451:Int)) (by decide),⟨by decide,by decide,by decide⟩,(by unfold Sz;decide:Sz 3 (4:Int)).mulOk (by unfold Sz;decide:Sz 40 ((10:Int)^toNat 11)) (by decide),O,⟨by decide,by decide,by decide⟩,
  (by unfold Sz;decide:Sz 3 (2:Int)).mulOk (by unfold Sz;decide:Sz 40 ((10:Int)^toNat 11)) (by decide),fun p2 J=> ?_⟩
 have ne:p≠p2:=fun z=>by rw [<-z,Ao]at J;cases J
 have lz:Sz 50 (n/4*7451%(4*10^toNat 11)-2*10^toNat 11):=by unfold Sz;omega
 generalize n/4*7451%(4*10^toNat 11)-2*10^toNat 11=M at*
 refine⟨p,p2,_,_,rfl,rfl,(Cu ne).trans Ao,Ao,(show 4<=sizeLine by decide),fun p3 S=>⟨by decide,?_⟩⟩
 have h0:=emod_nonneg n (by decide:(4:Int)≠0)
 have h4:=emod_lt_of_pos n (by decide:(0:Int)<4)
 have m:∃v,atI [V.int (n/4%7-3),V.int (n/4%7-3),V.int (n/4%201-100),V.int M] (n%4)=some (.int v)/\Sz 50 v:=by
  have:n%4=0\/n%4=1\/n%4=2\/n%4=3:=by omega
  rcases this with h | h | h | h<;>rw [h]
  . exact⟨_,rfl,by unfold Sz;omega⟩
  . exact⟨_,rfl,by unfold Sz;omega⟩
  . exact⟨_,rfl,by unfold Sz;omega⟩
  . exact⟨_,rfl,lz⟩
 obtain⟨v,e,vz⟩:=m
 exact Fi (.of Ao) e (q v _ (sp.trans ((Same.upd J _).trans (Same.upd S _))) vz)
theorem Agt {H:Hp}{Q:VK}{E:XK}{c k:Int} (k0:0<=k) (k1:k<100) (h:∀n H',Same H H'->Sz 50 n->Q (.int n) H'):Nt K [.int c,.int k] H Q E:=⟨c,k,rfl,k0,k1,h⟩
theorem Hv (p:List Int):(trim p).length<=p.length:=(Bq p).len fun i=>Bl p i
noncomputable def SqI (K:Frag) (H:Hp) (a:Addr) (ns:List Int):Prop:=SqL K H a (ns.map V.int)\/SqT K H a (ns.map V.int)
theorem Abe (p:List Int):trim (p++ [0])=trim p:=by
 refine Vs (Bq p) fun i=> ?_
 rw [Bl]
 unfold co
 rw [getD_eq_getElem?_getD,getD_eq_getElem?_getD]
 by_cases h:i<p.length
 . rw [getElem?_append_left h]
 . rw [getElem?_append_right (by omega),getElem?_eq_none (l:=p) (by omega)]
   cases h':i-p.length with
   | zero=>rfl
   | succ j=>rfl
noncomputable def Hu (K:Frag):Sp:=fun vs H Q _=>∃(a:Addr) (ns:List Int),vs=[.ref a]/\SqI K H a ns/\ns.length<=1000/\∀z H',Same H H'->SqT K H' z ((trim ns).map V.int)->Q (.ref z) H'
theorem Af1 {f:Addr}{fd:FuncData} (F:Df K mg "_law_cut" Yr ["_law_weights"] f fd) (z_list:mg "list"=none) (I:mg "tuple"=none)   :Cal P w K mg base 33 "_law_cut" ["_law_weights"] (Hu K):=by
 refine F.cal (F.fn.ok Zw (fun vs H Q E h=> ?_) (fun a0 A outer s H vs Q E hr h=> ?_))
 . obtain⟨a,ns,rfl,_⟩:=h
   rfl
 obtain⟨a,ns,rfl,hS,hl,q⟩:=h
 refine Ax ⟨_,(Ad (Ak 1 Zw.nd (Ed Fp rfl z_list boot_list (Aa (Ae 0) Ab)))
  (Ad (Fq PassesOwn.never (Cj (Eo (Am (Adl hr.units) (Ae 1) (Cd Ab) (Bb _)) (Eu (Am Hj (Aw Ec (Ae 1) (Bd Ce Ac) (fun _ _=>rfl)) Ac (Bb _))))) (Ag (Hi (Abv plainAttrs_list PySem.F.slot_list_pop PySem.F.type_list_pop Alw (Ae 1)))))
  (Ag (Aj (Ed Ey rfl I boot_tuple (Aa (Ae 1) Ab)))))),?_⟩
 done
 refine⟨a,_,rfl,hS,fun l hn=> ?_⟩
 refine Ou (fun σ H'=>σ=[some (.ref a),some (.ref l)]/\Same H H'/\∃ms:List Int,H' l=some (.lst (ms.map V.int))/\trim ms=trim ns/\ms.length<=1000)
  (fun σ H'=>match H' l with | some (.lst xs)=>xs.length | _=>0) ⟨rfl,Same.upd hn _,ns,Ao,rfl,hl⟩ ?_
 rintro σ H' ⟨rfl,s1,ms,S,ht,W⟩
 have Y:∀H2:Hp,Same H' H2->trim ms=ms->∃p ys,[V.ref l]=[V.ref p]/\((SqL K H2 p ys/\∀(l:Addr),H2 l=none->Q (V.ref l) (upd H2 l (HO.tup ys)))\/SqT K H2 p ys/\Q (V.ref p) H2):=fun H2 O e=>
  ⟨l,_,rfl,.inl ⟨.of (O _ _ S),fun z U=>q z _ ((s1.trans O).trans (Same.upd U _)) (by rw [<-ht,e];exact .of Ao)⟩⟩
 done
 refine⟨by decide,fun p hp=> ?_⟩
 have a1:l≠p:=fun z=>by
  rw [z,hp]at S
  cases S
 have O:=Same.upd hp (.lst [])
 have J:upd H' p (.lst []) l=some (.lst (ms.map V.int)):=O _ _ S
 refine Afk (ms:=[]) (.of J) (.of Ao) ?_
 done
 by_cases Z:ms=[]
 . rw [if_pos Z]
   exact Y _ O (by rw [Z];rfl)
 . rw [if_neg Z]
   obtain⟨M,d,rfl⟩:∃(i:List Int) (x:Int),ms=i++ [x]:=⟨_,_,(List.dropLast_concat_getLast Z).symm⟩
   have em:(M++ [d]).map V.int=M.map V.int++ [V.int d]:=by rw [map_append];rfl
   rw [em]at S J
   refine Fi (.of J) (Nx _ _) ?_
   done
   by_cases U:d=0
   . rw [if_pos U]
     subst U
     refine Agw ?_
     done
     refine⟨.inl ⟨rfl,_,.of J⟩,l,_,.int 0,rfl,rfl,J,by simp,?_⟩
     dsimp only
     rw [S,Ao,List.dropLast_concat]
     refine⟨⟨fun b o e=> ?_,M,rfl,(Abe M).symm.trans ht,?_⟩,?_⟩
     . rw [Cu (Dk e hn)]
       exact O _ _ (s1 _ _ e)
     . rw [length_append]at W
       exact le_trans (le_add_right _ _) W
     . simp
   . rw [if_neg U]
     exact Y _ O (Pz (.inr ⟨Z,by rw [List.getLast_concat];exact U⟩))
theorem Abi {H:Hp}{Q:VK}{E:XK}{a:Addr}{ns:List Int} (I:SqI K H a ns) (J:ns.length<=1000) (h:∀z H',Same H H'->SqT K H' z ((trim ns).map V.int)->Q (.ref z) H'):Hu K [.ref a] H Q E:=⟨a,ns,rfl,I,J,h⟩
noncomputable def Po (K:Frag) (H:Hp) (v:V) (p:List Int) (l n:Nat):Prop:=(∃a,v= .ref a/\SqT K H a (p.map V.int))/\Tr p/\p.length<=l/\∀i,Sz n (co p i)
theorem Po.mono {K:Frag}{H H':Hp}{v:V}{p:List Int}{l n:Nat} (h:Po K H v p l n) (s:Same H H'):Po K H' v p l n:=by
 obtain⟨⟨a,e,t⟩,r⟩:=h
 exact⟨⟨a,e,s.tup t⟩,r⟩
theorem Sz0 {n:Nat} (h:0<n):Sz n 0:=pow_pos (by decide)
theorem V8 {p:List Int}{n:Nat} (z:0<n) (h:∀x∈p,Sz n x) (i:Nat):Sz n (co p i):=by
 by_cases hi:i<p.length
 . rw [Ef hi]
   exact h _ (getElem_mem hi)
 . rw [Ck (by omega)]
   exact Sz0 z
noncomputable def Iv (K:Frag):Sp:=fun vs H Q _=>∃(c m:Int),vs=[.int c,.int m]/\0<=m/\m<=16/\∀z H' p,Same H H'->Po K H' z p (m.toNat+1) 50->Q z H'
theorem Adf {f:Addr}{fd:FuncData} (F:Df K mg "_law_poly" Qw ["_law_cell","_law_most"] f fd) (J:mg "range"=none)  (M:Cal P w K mg base 33 "_law_cut" ["_law_weights"] (Hu K)) (I:Cal P w K mg base 34 "_law_weight" ["_law_cell","_law_k"] (Nt K)):Cal P w K mg base 35 "_law_poly" ["_law_cell","_law_most"] (Iv K):=by
 refine F.cal (F.fn.ok Aeh (fun Y H Q E h=> ?_) (fun Z A outer s H Y Q E S h=> ?_))
 . obtain⟨c,m,rfl,_⟩:=h
   rfl
 obtain⟨c,m,rfl,m0,m1,q⟩:=h
 refine Ax ⟨_,(Ag (Aj (Af M S (Aa (Ea (ts:=["_law_k"]) (fs:=[(0,"_law_cell")]) rfl (Dl.of (sc:=Av Qw) (N:=["_law_cell","_law_most"]) rfl rfl (by decide+kernel)) (Ew rfl J (Aa (Ah Dc (Ah Dc (Ae 0) Ac) (Ah Eh (Ae 1) Ac)) Ab)) (fun _ _ _=>(Aq 0 (show Nodup (["_law_k","_law_cell"]:List Str)by decide+kernel))) (fun _ _ _=>Dj) (fun _ _ _=>(Af I S (Aa (Ah Cw (Ae 1) Ac) (Aa (Ae 0) Ab))))) Ab)))),?_⟩
 done
 have b0:=emod_nonneg (c%20) (by omega:m+2≠0)
 have b1:=emod_lt_of_pos (c%20) (by omega:0<m+2)
 refine⟨by decide,by omega,by omega,by omega,fun p hp=>Afc (es:=List.range (c%20%(m+2)).toNat) (inj:=fun i=> .int (0+(i:Nat))) (fun _ n=>Sz 50 n) ?_ hp Q7 ?_ ?_⟩
 . rw [length_range]
   exact le_trans (show(c%20%(m+2)).toNat<=100 by omega) (by decide)
 . intro e H2 R he U hR
   have a0:=mem_range.mp he
   done
   exact⟨⟨by decide,by decide⟩,Agt (by omega) (by omega) fun n W O nz=>hR n W O nz⟩
 . intro ns H2 hl hz U h2
   rw [length_range]at hl
   refine Abi (.inl (.of h2)) (by omega) fun z W O hT=>q _ _ (trim ns) ?_ ⟨⟨z,rfl,hT⟩,Bq _,?_,fun i=> ?_⟩
   . exact U.trans O
   . have:=Hv ns
     omega
   . rw [Bl]
     refine V8 (by decide) (fun x hx=> ?_) i
     obtain⟨j,hj,e⟩:=getElem_of_mem hx
     exact hz j j x (by rw [getElem?_range (by omega)]) (by rw [getElem?_eq_getElem hj,e])
theorem Mf {H:Hp}{Q:VK}{E:XK}{c m:Int} (I:0<=m) (J:m<=16) (h:∀z H' p,Same H H'->Po K H' z p (m.toNat+1) 50->Q z H'):Iv K [.int c,.int m] H Q E:=⟨c,m,rfl,I,J,h⟩
noncomputable def Ls (K:Frag):Sp:=fun vs H Q _=>∃(a:Addr) (ns:List Int),vs=[.ref a]/\SqI K H a ns/\ns.length<=1000/\∀z H',Same H H'->SqT K H' z ((trim ns).map V.int)->Q (.ref z) H'
theorem Ajd {f:Addr}{fd:FuncData} (F:Df K mg "poly" Aec ["weights"] f fd) (z_len:mg "len"=none) (J:mg "tuple"=none)   :Cal P w K mg base 33 "poly" ["weights"] (Ls K):=by
 refine F.cal (F.fn.ok Yu (fun vs H Q E h=> ?_) (fun a0 A outer s H vs Q E hr h=> ?_))
 . obtain⟨a,ns,rfl,_⟩:=h
   rfl
 obtain⟨a,ns,rfl,M,hl,q⟩:=h
 refine Ax ⟨_,(Ad (Ak 1 Yu.nd (Ba Az rfl z_len PySem.boot_len (Aa (Ae 0) Ab)))
  (Ad (Fq PassesOwn.never (Cj (Eo (Am R3 (Ae 1) Ac (Bb _)) (Eu (Am Hj (Aw Aln (Ae 0) (Ah Em (Ae 1) Ac) (fun _ _=>rfl)) Ac (Bb _))))) (Ag (Ak 1 Yu.nd (Ah Em (Ae 1) Ac))))
  (Ag (Aj (Ed Ey rfl J boot_tuple (Aa (Du Am6 (Ae 0) Ek (El (Ae 1))) Ab)))))),?_⟩
 done
 refine⟨a,_,rfl,M,?_⟩
 rw [length_map]
 refine Ou (fun σ H'=>H'=H/\∃n:Nat,σ=[some (.ref a),some (.int n)]/\n<=ns.length/\∀i,n<=i->co ns i=0) (fun σ _=>match σ with | [_,some (.int n)]=>n.toNat | _=>0)
  ⟨rfl,_,rfl,le_refl _,fun i h=>Ck h⟩ ?_
 rintro σ H' ⟨rfl,n,rfl,hn,Y⟩
 have O:(n=0\/co ns (n-1)≠0)->Aqs K (V.ref a) none (some (n:Int)) H' (fun x H1=>∃p ys,[x]=[V.ref p]/\((SqL K H1 p ys/\∀(l:Addr),H1 l=none->Q (V.ref l) (upd H1 l (HO.tup ys)))\/SqT K H1 p ys/\Q (V.ref p) H1)):=fun h=>by
  have e:K6 (ns.map V.int) none (some (n:Int))=(trim ns).map V.int:=by
   rw [Aeu Y h]
   unfold K6
   rw [HT.Kd,HT.O6,drop_zero,sub_zero,length_map,min_eq_left hn,List.map_take]
  rcases M with M | M
  . refine⟨a,_,rfl,.inl ⟨M,fun z H2 U I=> ?_⟩⟩
    rw [e]at I
    exact⟨z,_,rfl,.inl ⟨I,fun y hy=>q y _ (U.trans (Same.upd hy _)) (.of Ao)⟩⟩
  . refine⟨a,_,rfl,.inr ⟨M,fun z H2 U I=> ?_⟩⟩
    rw [e]at I
    exact⟨z,_,rfl,.inr ⟨I,q z _ U I⟩⟩
 done
 by_cases Z:(0:Int)<n
 . rw [if_pos Z]
   refine⟨a,_,_,.int (co ns (n-1)),rfl,rfl,M,?_,?_⟩
   . have e:=Bk (xs:=ns.map V.int) (j:=n-1) (v:= .int (co ns (n-1))) (by rw [getElem?_map,getElem?_eq_getElem (by omega),Ef (by omega)];rfl)
     rw [show((n-1:Nat):Int)=(n:Int)-1 by omega]at e
     exact e
   done
   by_cases S:co ns (n-1)=0
   . rw [if_pos S]
     refine Agw ?_
     done
     refine⟨⟨n-1,by rw [show((n-1:Nat):Int)=(n:Int)-1 by omega],by omega,fun i hi=> ?_⟩,by omega⟩
     by_cases W:i=n-1
     . rw [W,S]
     . exact Y i (by omega)
   . rw [if_neg S]
     exact O (.inr S)
 . rw [if_neg Z]
   exact O (.inl (by omega))
noncomputable def Anb:Sp:=fun vs H Q _=>∃a b:Int,vs=[.int a,.int b]/\Q (.int (Int.gcd a b:Int)) H
noncomputable def Pu (_:Frag):Sp:=Anb
theorem Aaq {f:Addr}{fd:FuncData} (F:Df K mg "divisor" R6 ["one","other"] f fd) (z:mg "abs"=none)   :Cal P w K mg base 33 "divisor" ["one","other"] (Pu K):=by
 refine F.cal (F.fn.ok Mq (fun O H Q E h=> ?_) (fun S A outer s H O Q E hr h=> ?_))
 . obtain⟨a,b,rfl,_⟩:=h
   rfl
 obtain⟨a,b,rfl,q⟩:=h
 refine Ax ⟨_,(Ad (Ak 2 Mq.nd (Ba Ny rfl z boot_abs (Aa (Ae 0) Ab)))
  (Ad (Ak 3 Mq.nd (Ba Ny rfl z boot_abs (Aa (Ae 1) Ab)))
  (Ad (Fq PassesOwn.never (Am Lf (Ae 3) Ac (Bb _)) (Ag (Im (i:=2) (j:=3) rfl Mq.nd rfl rfl (by decide) rfl rfl (Aa (Ae 3) (Aa (Ah Dc (Ae 2) (Ae 3)) Ab)) rfl)))
  (Ag (Aj (Ae 2)))))),?_⟩
 repeat (first | done | simp only [abs_eq])
 refine Z5 (fun σ H'=>H'=H/\∃x y:Nat,σ=[some (.int a),some (.int b),some (.int x),some (.int y)]/\Nat.gcd x y=Nat.gcd a.natAbs b.natAbs)
  (fun σ _=>match σ with | [_,_,_,some (.int y)]=>y.toNat | _=>0) ⟨rfl,_,_,rfl,rfl⟩ ?_ ?_
 . rintro σ H' ⟨rfl,x,y,rfl,e⟩
   done
   by_cases M:(y:Int)=0
   . rw [if_pos M]
     have I:y=0:=by omega
     subst I
     rw [Nat.gcd_zero_right]at e
     subst e
     exact q
   . rw [if_neg M]
     refine⟨by omega,⟨y,x%y,by rw [natCast_emod],by rw [Ze];exact e⟩,?_⟩
     show((x:Int)%(y:Int)).toNat<(y:Int).toNat
     rw [<-natCast_emod,toNat_natCast,toNat_natCast]
     exact mod_lt _ (by omega)
 . intro σ H' Q1 Q2 J
   simp only [Ae2,Ap8]
   rintro⟨v,U,W⟩
   exact⟨v,U,by
    obtain⟨Y,k,Z,h3⟩:=W
    exact⟨Y,k,Z,J _ _ h3⟩⟩
noncomputable def Gh (K:Frag):Sp:=fun vs H Q _=>∃(x:V) (p:List Int) (l n:Nat),vs=[x]/\Po K H x p l n/\Q (.int ((p.length:Int)-1)) H
theorem Ac9 {f:Addr}{fd:FuncData} (F:Df K mg "degree" Vf ["one"] f fd) (z_len:mg "len"=none)   :Cal P w K mg base 33 "degree" ["one"] (Gh K):=by
 refine F.cal (F.fn.ok Aee (fun z H Q E h=> ?_) (fun I A outer s H z Q E M h=> ?_))
 . obtain⟨x,p,_,_,rfl,_⟩:=h
   rfl
 obtain⟨x,p,l,n,rfl,⟨⟨a,rfl,J⟩,tp,O,S⟩,k⟩:=h
 refine Ax ⟨_,(Ag (Aj (Ah Em (Ba Az rfl z_len PySem.boot_len (Aa (Ae 0) Ab)) Ac))),?_⟩
 done
 refine⟨a,_,rfl,.inr J,?_⟩
 repeat (first | done | simp only [length_map])
 exact k
theorem Fg {H H1:Hp}{Q:VK}{E:XK}{x:V}{p:List Int}{l n:Nat} (z:Po K H1 x p l n) (I:Same H1 H) (h:Q (.int ((p.length:Int)-1)) H):Gh K [x] H Q E:=⟨x,p,l,n,rfl,z.mono I,h⟩
theorem Aez {H:Hp}{Q:VK}{E:XK}{a:Addr}{ns:List Int} (I:SqL K H a (ns.map V.int)) (J:ns.length<=1000) (h:∀z H',Same H H'->SqT K H' z ((trim ns).map V.int)->Q (.ref z) H'):Ls K [.ref a] H Q E:=⟨a,ns,rfl,by first | exact I | exact .inl I,J,h⟩
noncomputable def Aqv (K:Frag) (c:List Int->List Int->Prop):Sp:=fun vs H Q _=>∃(x y:V) (p q:List Int) (l l' n n':Nat),vs=[x,y]/\Po K H x p l n/\Po K H y q l' n'/\l<=500/\l'<=500/\c p q/\∀z H',Same H H'->Po K H' z (ta p q) (max l l') (max n n'+1)->Q z H'
noncomputable def Abb (K:Frag):Sp:=Aqv K fun p q=>q.length<=p.length
noncomputable def Lr (K:Frag):Sp:=Aqv K fun _ _=>True
theorem Aat {f:Addr}{fd:FuncData} (F:Df K mg "p_plus" Qv ["one","other"] f fd) (z_list:mg "list"=none) (z_enumerate:mg "enumerate"=none) (z_len:mg "len"=none)  (c_poly:Cal P w K mg base 33 "poly" ["weights"] (Ls K)):Cal P w K mg base 34 "p_plus" ["one","other"] (Abb K):=by
 refine F.cal (F.fn.ok Hy (fun vs H Q E h=> ?_) (fun a3 A outer s H vs Q E hr h=> ?_))
 . obtain⟨x,y,p,q,_,_,_,_,rfl,_⟩:=h
   rfl
 obtain⟨x,y,p,q,l,l',n,n',rfl,⟨⟨a,rfl,ha⟩,tp,lp,zp⟩,⟨⟨b,rfl,hb⟩,tq,lq,zq⟩,l5,a4,hc,k⟩:=h
 refine Ax ⟨_,(Ad (Ay (Am Wo (Ba Az rfl z_len PySem.boot_len (Aa (Ae 0) Ab)) (Ba Az rfl z_len PySem.boot_len (Aa (Ae 1) Ab)) (Bb _)) (Ag Rg) Ar)
  (Ad (Ak 2 Hy.nd (Ed Fp rfl z_list boot_list (Aa (Ae 0) Ab)))
  (Ad (Dp PassesOwn.never rfl (J7 rfl z_enumerate (Aa (Ae 1) Ab)) (Dn rfl (Ai (Aq 3 Hy.nd) (Ai (Aq 4 Hy.nd) Ci))) (Ag (Cy (Ah Eh (Aw Ec (Ae 2) (Ae 3) (fun _ _=>rfl)) (Ae 4)) (Hw (Ae 2) (Ae 3) set_list))))
  (Ag (Aj (Af c_poly hr (Aa (Ae 2) Ab))))))),?_⟩
 done
 refine⟨a,_,rfl,.inr ha,b,_,rfl,.inr hb,?_⟩
 repeat (first | done | simp only [length_map])
 have a0:¬((p.length:Nat):Int)<(q.length:Nat):=by omega
 rw [if_neg a0]
 refine⟨a,_,rfl,.inr ha,fun l0 hn=> ?_⟩
 have s0:=Same.upd hn (.lst (p.map V.int))
 try done
 refine⟨⟨_,s0.tup hb⟩,Aah (es:=q) (inj:=V.int) (fun I σ H'=>∃(W Y:Option V) (ms:List Int),σ=[some (.ref a),some (.ref b),some (.ref l0),W,Y]/\Same H H'/\H' l0=some (.lst (ms.map V.int))/\ms.length=p.length/\∀i,co ms i=co p i+co I i)
  ⟨_,_,p,rfl,s0,Ao,rfl,fun i=>by rw [Bv,Int.add_zero]⟩ ?_ ?_ ?_⟩
 . rintro I σ H' ⟨W,Y,ms,rfl,M,_⟩
   exact M.tup hb
 . rintro I e a2 σ H' p1 he ⟨W,Y,ms,rfl,M,hm,O,J⟩ a1
   refine Nz (.of Ao) ?_
   have S:=congrArg List.length he
   rw [length_append,length_cons]at S
   have Z:I.length<ms.length:=by omega
   have s2:=Same.upd a1 (.tup [V.int (I.length:Nat),V.int e])
   have U:=s2 _ _ hm
   try done
   refine Mh (.of U) (Ft Z) ?_
   try done
   refine Wc U (by rw [length_map];exact Z) ?_
   try done
   rw [Jh]
   refine⟨_,_,ms.set I.length (ms[I.length]+e),rfl,?_,Ao,by rw [length_set];exact O,fun i=> ?_⟩
   . intro c o hc
     rw [Cu (Dk hc hn)]
     exact s2 _ _ (M _ _ hc)
   . rw [P0 _ _ _ Z,Gp,J i]
     by_cases hi:i=I.length
     . subst hi
       rw [if_pos rfl,if_pos rfl,<-Ef Z,J,Ck (p:=I) (le_refl _)]
       omega
     . rw [if_neg hi,if_neg hi]
 . rintro σ H' ⟨W,Y,ms,rfl,M,hm,O,J⟩
   try done
   refine Aez (.of hm) (by omega) fun z H2 s2 hz=>k _ _ (M.trans s2) ⟨⟨z,rfl,?_⟩,Qp _ _,?_,fun i=> ?_⟩
   . have e:trim ms=ta p q:=Mw fun i=>by rw [J,Oz]
     rw [<-e]
     exact hz
   . have:=Aes p q
     omega
   . rw [Ma]
     exact(zp i).add (zq i)
theorem Adb {f:Addr}{fd:FuncData} (F:Df K mg "p_plus" Qv ["one","other"] f fd) (z_list:mg "list"=none) (z_enumerate:mg "enumerate"=none) (z_len:mg "len"=none)  (c_poly:Cal P w K mg base 33 "poly" ["weights"] (Ls K)):Cal P w K mg base 35 "p_plus" ["one","other"] (Lr K):=by
 have J:=Aat F (z_len:=z_len) (z_list:=z_list) (z_enumerate:=z_enumerate) (c_poly:=c_poly)
 refine F.cal (F.fn.ok Hy (fun vs H Q E h=> ?_) (fun a3 A outer s H vs Q E hr h=> ?_))
 . obtain⟨x,y,p,q,_,_,_,_,rfl,_⟩:=h
   rfl
 obtain⟨x,y,p,q,l,l',n,n',rfl,⟨⟨a,rfl,ha⟩,tp,lp,zp⟩,⟨⟨b,rfl,Z⟩,tq,lq,zq⟩,l5,a0,hc,k⟩:=h
 refine Ax ⟨_,(Ad (Ay (Am Wo (Ba Az rfl z_len PySem.boot_len (Aa (Ae 0) Ab)) (Ba Az rfl z_len PySem.boot_len (Aa (Ae 1) Ab)) (Bb _)) (Ag (Aj (Af J hr (Aa (Ae 1) (Aa (Ae 0) Ab))))) Ar)
  (Ad (Ak 2 Hy.nd (Ed Fp rfl z_list boot_list (Aa (Ae 0) Ab)))
  (Ad (Dp PassesOwn.never rfl (J7 rfl z_enumerate (Aa (Ae 1) Ab)) (Dn rfl (Ai (Aq 3 Hy.nd) (Ai (Aq 4 Hy.nd) Ci))) (Ag (Cy (Ah Eh (Aw Ec (Ae 2) (Ae 3) (fun _ _=>rfl)) (Ae 4)) (Hw (Ae 2) (Ae 3) set_list))))
  (Ag (Aj (Af c_poly hr (Aa (Ae 2) Ab))))))),?_⟩
 done
 refine⟨a,_,rfl,.inr ha,b,_,rfl,.inr Z,?_⟩
 repeat (first | done | simp only [length_map])
 by_cases O:((p.length:Nat):Int)<(q.length:Nat)
 . rw [if_pos O]
   refine⟨_,_,q,p,l',l,n',n,rfl,⟨⟨b,rfl,Z⟩,tq,lq,zq⟩,⟨⟨a,rfl,ha⟩,tp,lp,zp⟩,a0,l5,by omega,fun z H' s i=>k z H' s ?_⟩
   rw [Akg p q,Nat.max_comm l l',Nat.max_comm n n']
   exact i
 rw [if_neg O]
 refine⟨a,_,rfl,.inr ha,fun l0 hn=> ?_⟩
 have s0:=Same.upd hn (.lst (p.map V.int))
 try done
 refine⟨⟨_,s0.tup Z⟩,Aah (es:=q) (inj:=V.int) (fun I σ H'=>∃(o1 o2:Option V) (ms:List Int),σ=[some (.ref a),some (.ref b),some (.ref l0),o1,o2]/\Same H H'/\H' l0=some (.lst (ms.map V.int))/\ms.length=p.length/\∀i,co ms i=co p i+co I i)
  ⟨_,_,p,rfl,s0,Ao,rfl,fun i=>by rw [Bv,Int.add_zero]⟩ ?_ ?_ ?_⟩
 . rintro I σ H' ⟨o1,o2,ms,rfl,S,_⟩
   exact S.tup Z
 . rintro I e a2 σ H' p1 he ⟨o1,o2,ms,rfl,S,hm,U,M⟩ a1
   refine Nz (.of Ao) ?_
   have W:=congrArg List.length he
   rw [length_append,length_cons]at W
   have hj:I.length<ms.length:=by omega
   have s2:=Same.upd a1 (.tup [V.int (I.length:Nat),V.int e])
   have Y:=s2 _ _ hm
   try done
   refine Mh (.of Y) (Ft hj) ?_
   try done
   refine Wc Y (by rw [length_map];exact hj) ?_
   try done
   rw [Jh]
   refine⟨_,_,ms.set I.length (ms[I.length]+e),rfl,?_,Ao,by rw [length_set];exact U,fun i=> ?_⟩
   . intro c o hc
     rw [Cu (Dk hc hn)]
     exact s2 _ _ (S _ _ hc)
   . rw [P0 _ _ _ hj,Gp,M i]
     by_cases hi:i=I.length
     . subst hi
       rw [if_pos rfl,if_pos rfl,<-Ef hj,M,Ck (p:=I) (le_refl _)]
       omega
     . rw [if_neg hi,if_neg hi]
 . rintro σ H' ⟨o1,o2,ms,rfl,S,hm,U,M⟩
   try done
   refine Aez (.of hm) (by omega) fun z H2 s2 hz=>k _ _ (S.trans s2) ⟨⟨z,rfl,?_⟩,Qp _ _,?_,fun i=> ?_⟩
   . have e:trim ms=ta p q:=Mw fun i=>by rw [M,Oz]
     rw [<-e]
     exact hz
   . have:=Aes p q
     omega
   . rw [Ma]
     exact(zp i).add (zq i)
noncomputable def Iw (K:Frag):Sp:=fun vs H Q _=>∃(x:V) (c:Int) (p:List Int) (l n m:Nat),vs=[x,.int c]/\Po K H x p l n/\Sz m c/\l<=500/\n+m<=100000000/\∀z H',Same H H'->Po K H' z (ng p c) l (n+m)->Q z H'
theorem Adh {f:Addr}{fd:FuncData} (F:Df K mg "scaled" Qx ["one","factor"] f fd) (I:mg "tuple"=none)   :Cal P w K mg base 33 "scaled" ["one","factor"] (Iw K):=by
 refine F.cal (F.fn.ok Aej (fun vs H Q E h=> ?_) (fun a0 A outer s H vs Q E hr h=> ?_))
 . obtain⟨x,c,p,_,_,_,rfl,_⟩:=h
   rfl
 obtain⟨x,c,p,l,n,m,rfl,⟨⟨a,rfl,W⟩,tp,S,Y⟩,Z,l5,hz,k⟩:=h
 refine Ax ⟨_,(Ad (Ay (Am Hj (Ae 1) Ac (Bb _)) (Ag (Aj (Al Ab))) Ar)
  (Ag (Aj (Ed Ey rfl I boot_tuple (Aa (Ea (ts:=["weight"]) (fs:=[(1,"factor")]) rfl (Dl.of (sc:=Av Qx) (N:=["one","factor"]) rfl rfl (by decide+kernel)) (Gb (Ae 0)) (fun _ _ _=>(Aq 0 (show Nodup (["weight","factor"]:List Str)by decide+kernel))) (fun _ _ _=>Dj) (fun _ _ _=>(Ah Cr (Ae 0) (Ae 1)))) Ab))))),?_⟩
 done
 have M:∀i,Sz (n+m) (co (ng p c) i):=fun i=>by
  rw [Jp]
  exact(Y i).mul Z
 by_cases O:c=0
 . rw [if_pos O]
   refine⟨by decide,fun z J=>k _ _ (Same.upd J _) ⟨⟨z,rfl,?_⟩,Bq _,?_,M⟩⟩
   . have e:ng p c=[]:=(Bq _).ext (.inl rfl) fun i=>by
      have:=Jp p c i
      rw [O,Int.mul_zero]at this
      rw [Bv,<-this,O,ng]
     rw [e]
     exact .of Ao
   . have:=Hv (p.map (· *c))
     rw [length_map]at this
     exact le_trans this S
 . rw [if_neg O]
   refine⟨⟨_,W⟩,fun p1 U=>Gx (es:=p) (inj:=V.int) (fun w=> .int (w*c)) (le_trans S (le_trans l5 (by decide))) U (Ov W) ?_ ?_⟩
   . intro e H2 R he s2 hR
     done
     obtain⟨i,hi,ei⟩:=getElem_of_mem he
     have ze:=Y i
     rw [Ef hi,ei]at ze
     exact⟨ze.mulOk Z (by omega),hR _ (Same.refl _)⟩
   . intro H2 s2 h2
     try done
     have e:ng p c=p.map (· *c):=Pz (.of (by
      by_cases hp:p=[]
      . left;rw [hp];rfl
      . right
        have:=tp.lead hp
        rw [length_map,<-Bl,show trim (p.map (· *c))=ng p c from rfl,Jp]
        exact mul_ne_zero this O))
     refine⟨p1,_,rfl,.inl ⟨.of h2,fun z J=>k _ _ (s2.trans (Same.upd J _)) ⟨⟨z,rfl,?_⟩,Bq _,?_,M⟩⟩⟩
     . rw [e,map_map]
       exact .of Ao
     . rw [e,length_map]
       exact S
noncomputable def Py (K:Frag):Sp:=fun vs H Q _=>∃(x y:V) (p q:List Int) (l l' n n':Nat),vs=[x,y]/\Po K H x p l n/\Po K H y q l' n'/\l<=500/\l'<=500/\n'<=90000000/\∀z H',Same H H'->Po K H' z (ta p (ng q (-1))) (max l l') (max n (n'+1)+1)->Q z H'
theorem Aas {f:Addr}{fd:FuncData} (F:Df K mg "p_minus" R7 ["one","other"] f fd)   (I:Cal P w K mg base 35 "p_plus" ["one","other"] (Lr K)) (J:Cal P w K mg base 33 "scaled" ["one","factor"] (Iw K)):Cal P w K mg base 36 "p_minus" ["one","other"] (Py K):=by
 refine F.cal (F.fn.ok Aa9 (fun U H Q E h=> ?_) (fun W A outer s H U Q E O h=> ?_))
 . obtain⟨x,y,p,q,_,_,_,_,rfl,_⟩:=h
   rfl
 obtain⟨x,y,p,q,l,l',n,n',rfl,Y,Z,l5,M,hn,k⟩:=h
 refine Ax ⟨_,(Ag (Aj (Af I O (Aa (Ae 0) (Aa (Af J O (Aa (Ae 1) (Aa (Bd Ce Ac) Ab))) Ab))))),?_⟩
 done
 refine⟨y,-1,q,l',n',1,rfl,Z,by unfold Sz;decide,M,by omega,fun z H1 S hz=> ?_⟩
 try done
 exact⟨x,z,p,ng q (-1),l,l',n,n'+1,rfl,Y.mono S,hz,l5,M,trivial,fun z2 H2 s2 h2=>k z2 H2 (S.trans s2) h2⟩
theorem Afv {q:List Int}{n n':Nat} (I:∀i,Sz n' (co q i)):∀(p:List Int),(∀x∈p,Sz n x)->∀i,Sz (n+n'+p.length) (mu p (co q) i)
 | [],_,i=>by
   have z:0<2^(n+n'+([]:List Int).length):=pow_pos (by decide)
   exact z
 | a::p,h,i=>by
   have J:=Afv I p fun x M=>h x (mem_cons_of_mem _ M)
   have h1:=(h a mem_cons_self).mul (I i)
   have h2:Sz (n+n'+p.length) (sh (mu p (co q)) i):=by
    cases i with
    | zero=>
      have z:0<2^(n+n'+p.length):=pow_pos (by decide)
      exact z
    | succ i=>exact J i
   exact(h1.add h2).mono (by simp only [length_cons];omega)
theorem Po.mem {K:Frag}{H:Hp}{v:V}{p:List Int}{l n:Nat} (h:Po K H v p l n):∀x∈p,Sz n x:=fun x I=>by
 obtain⟨i,hi,ei⟩:=getElem_of_mem I
 have z:=h.2.2.2 i
 rw [Ef hi,ei]at z
 exact z
noncomputable def Gv (K:Frag):Sp:=fun vs H Q _=>∃(x y:V) (p q:List Int) (l l' n n':Nat),vs=[x,y]/\Po K H x p l n/\Po K H y q l' n'/\l<=500/\l'<=500/\n+n'<=100000000/\∀z H',Same H H'->Po K H' z (tm p q) (l+l') (n+n'+l)->Q z H'
theorem Aau {f:Addr}{fd:FuncData} (F:Df K mg "p_times" R8 ["one","other"] f fd) (z_enumerate:mg "enumerate"=none) (S:mg "tuple"=none) (z_len:mg "len"=none)   :Cal P w K mg base 33 "p_times" ["one","other"] (Gv K):=by
 refine F.cal (F.fn.ok Ii (fun vs H Q E h=> ?_) (fun ah A outer s H vs Q E hr h=> ?_))
 . obtain⟨x,y,p,q,_,_,_,_,rfl,_⟩:=h
   rfl
 obtain⟨x,y,p,q,l,l',n,n',rfl,hx,hy,l5,ai,hn,k⟩:=h
 have mx:=hx.mem
 have my:=hy.mem
 obtain⟨⟨a,rfl,ha⟩,tp,lp,zp⟩:=hx
 obtain⟨⟨b,rfl,hb⟩,tq,lq,zq⟩:=hy
 have res:∀(z:Addr) (H':Hp),Same H H'->SqT K H' z ((tm p q).map V.int)->Q (.ref z) H':=fun z H' s U=>by
  refine k _ _ s ⟨⟨z,rfl,U⟩,Gw _ _,?_,fun i=> ?_⟩
  . by_cases h1:p=[]
    . rw [h1,Ja,Jb]
      exact zero_le _
    . by_cases h2:q=[]
      . rw [h2,Jb]
        exact zero_le _
      . have:=J4 tp tq h1 h2
        omega
  . rw [Dz]
    exact(Afv zq p mx i).mono (by omega)
 refine Ax ⟨_,(Ad (Ay (Cj (Bw (Am (Fl hr.units) (Ae 0) (Al Ab) (Bb _)) (Dw (Am (Fl hr.units) (Ae 1) (Al Ab) (Bb _))))) (Ag (Aj (Al Ab))) Ar)
  (Ad (Ak 2 Ii.nd (Ah Uc (Cd (Aa Ac Ab)) (Ah Em (Ah Eh (Ba Az rfl z_len PySem.boot_len (Aa (Ae 0) Ab)) (Ba Az rfl z_len PySem.boot_len (Aa (Ae 1) Ab))) Ac)))
  (Ad (Dp PassesOwn.never rfl (J7 rfl z_enumerate (Aa (Ae 0) Ab)) (Dn rfl (Ai (Aq 3 Ii.nd) (Ai (Aq 4 Ii.nd) Ci))) (Ag (Ay (Am Lf (Ae 4) Ac (Bb _)) (Ag (Dp PassesOwn.never rfl (J7 rfl z_enumerate (Aa (Ae 1) Ab)) (Dn rfl (Ai (Aq 5 Ii.nd) (Ai (Aq 6 Ii.nd) Ci))) (Ag (Cy (Ah Eh (Aw Ec (Ae 2) (Ah Eh (Ae 3) (Ae 5)) (fun _ _=>rfl)) (Ah Cr (Ae 4) (Ae 6))) (Hw (Ae 2) (Ah Eh (Ae 3) (Ae 5)) set_list))))) Ar)))
  (Ag (Aj (Ed Ey rfl S boot_tuple (Aa (Ae 2) Ab))))))),?_⟩
 done
 refine⟨by decide,fun p1 aa=> ?_⟩
 have s1:=Same.upd aa (.tup [])
 refine Bu (ms:=[]) (s1.tup ha) (.of Ao) ?_
 try done
 by_cases h1:p=[]
 . rw [if_pos h1]
   refine⟨by decide,fun z U=>res z _ (s1.trans (Same.upd U _)) ?_⟩
   rw [h1,Ja,Jb]
   exact .of Ao
 rw [if_neg h1]
 refine⟨by decide,fun p2 ab=> ?_⟩
 have s2:=s1.trans (Same.upd ab (.tup []))
 refine Bu (ms:=[]) (s2.tup hb) (.of Ao) ?_
 try done
 by_cases h2:q=[]
 . rw [if_pos h2]
   refine⟨by decide,fun z U=>res z _ (s2.trans (Same.upd U _)) ?_⟩
   rw [h2,Jb]
   exact .of Ao
 rw [if_neg h2]
 intro p3 ac
 have s3:=s2.trans (Same.upd ac (.lst [V.int 0]))
 have q1:=length_pos_iff.mpr h1
 have q2:=length_pos_iff.mpr h2
 have aj:1000<=sizeLine:=by decide
 refine⟨a,_,rfl,.inr (s3.tup ha),b,_,rfl,.inr (s3.tup hb),?_⟩
 simp only [length_map]
 have hN:((p.length:Int)+(q.length:Int)-1).toNat=p.length+q.length-1:=by omega
 refine⟨p3,_,[V.int 0],rfl,rfl,Ao,by omega,by omega,by rw [hN];simp only [length_cons,length_nil];omega,fun l0 hn=> ?_⟩
 rw [hN,Io]
 have ad:H l0=none:=Same.free s3 hn
 have s4:=s3.trans (Same.upd hn (.lst ((replicate (p.length+q.length-1) (0:Int)).map V.int)))
 refine⟨⟨_,s4.tup ha⟩,Aah (es:=p) (inj:=V.int) (fun J σ H'=>∃(o1 o2 Y Z:Option V) (ms:List Int),σ=[some (.ref a),some (.ref b),some (.ref l0),o1,o2,Y,Z]/\Same H H'/\H' l0=some (.lst (ms.map V.int))/\ms.length=p.length+q.length-1/\∀i,co ms i=mu J (co q) i)
  ⟨_,_,_,_,replicate (p.length+q.length-1) 0,rfl,s4,Ao,by rw [length_replicate],fun i=> ?_⟩ ?_ ?_ ?_⟩
 . show _=0
   unfold co
   rw [getD_eq_getElem?_getD,getElem?_replicate]
   split<;>rfl
 . rintro J σ H' ⟨o1,o2,Y,Z,ms,rfl,s5,_⟩
   exact s5.tup ha
 . rintro J e ag σ H' p4 he ⟨o1,o2,Y,Z,ms,rfl,s5,hm,a2,a0⟩ a5
   refine Nz (.of Ao) ?_
   have a6:=congrArg List.length he
   rw [length_append,length_cons]at a6
   have ez:Sz n e:=mx e (by rw [he];simp)
   have s6:=s5.trans (Same.upd a5 (.tup [V.int (J.length:Nat),V.int e]))
   have a7:=Same.upd a5 (.tup [V.int (J.length:Nat),V.int e]) _ _ hm
   try done
   by_cases U:e=0
   . rw [if_pos U]
     exact⟨_,_,_,_,ms,rfl,s6,a7,a2,fun i=>by rw [Ld,a0,U];simp⟩
   . rw [if_neg U]
     refine⟨⟨_,s6.tup hb⟩,Aah (es:=q) (inj:=V.int) (fun I σ H2=>∃(Y Z:Option V) (M:List Int),σ=[some (.ref a),some (.ref b),some (.ref l0),some (.int (J.length:Nat)),some (.int e),Y,Z]/\Same H H2/\H2 l0=some (.lst (M.map V.int))/\M.length=p.length+q.length-1/\
      ∀i,co M i=mu J (co q) i+(if J.length<=i then e*co I (i-J.length)else 0)) ⟨_,_,ms,rfl,s6,a7,a2,fun i=> ?_⟩ ?_ ?_ ?_⟩
     . rw [a0,Bv,Int.mul_zero]
       split<;>simp
     . rintro I σ H2 ⟨Y,Z,M,rfl,s7,_⟩
       exact s7.tup hb
     . rintro I f ae σ H2 p5 a8 ⟨Y,Z,M,rfl,s7,a3,W,O⟩ af
       refine Nz (.of Ao) ?_
       have a4:=congrArg List.length a8
       rw [length_append,length_cons]at a4
       have fz:Sz n' f:=my f (by rw [a8];simp)
       have hj:J.length+I.length<M.length:=by omega
       have s8:=Same.upd af (.tup [V.int (I.length:Nat),V.int f])
       have a9:=s8 _ _ a3
       repeat (first | done | simp only [<-natCast_add])
       refine Mh (.of a9) (Ft hj) ?_
       try done
       refine⟨ez.mulOk fz (by omega),?_⟩
       refine Wc a9 (by rw [length_map];exact hj) ?_
       try done
       rw [Jh]
       refine⟨_,_,M.set (J.length+I.length) (M[J.length+I.length]+e*f),rfl,?_,Ao,by rw [length_set];exact W,fun i=> ?_⟩
       . intro c o hc
         rw [Cu (Dk hc ad)]
         exact s8 _ _ (s7 _ _ hc)
       . rw [P0 _ _ _ hj,Gp,O i]
         by_cases hi:i=J.length+I.length
         . subst hi
           rw [if_pos rfl,<-Ef hj,O,if_pos (by omega),if_pos (by omega),if_pos (by omega),show J.length+I.length-J.length=I.length by omega,Ck (p:=I) (le_refl _)]
           omega
         . rw [if_neg hi]
           by_cases a1:J.length<=i
           . rw [if_pos a1,if_pos a1,if_neg (by omega)]
           . rw [if_neg a1,if_neg a1]
     . rintro σ H2 ⟨Y,Z,M,rfl,s7,a3,W,O⟩
       try done
       exact⟨_,_,_,_,M,rfl,s7,a3,W,fun i=>by rw [Ld,O]⟩
 . rintro σ H' ⟨o1,o2,Y,Z,ms,rfl,s5,hm,a2,a0⟩
   try done
   have e:ms=tm p q:=by
    have tl:=J4 tp tq h1 h2
    refine List.ext_getElem (by omega) fun i g1 g2=> ?_
    rw [<-Ef g1,<-Ef g2,a0,Dz]
   refine⟨l0,_,rfl,.inl ⟨.of hm,fun z U=>res z _ (s5.trans (Same.upd U _)) ?_⟩⟩
   rw [<-e]
   exact .of Ao
theorem An8 {p:List Int}{l n:Nat} (tp:Tr p) (S:p.length<=l) (J:∀i,Sz n (co p i)):∀m,(pw p m).length<=m*l+1/\∀i,Sz (m*(n+l)+1) (co (pw p m) i)
 | 0=>⟨by simp [pw],fun i=>by
   rw [pw]
   refine V8 (by omega) (fun x I=> ?_) i
   have e:x=1:=by simpa using I
   subst e
   unfold Sz
   rw [Nat.zero_mul]
   decide⟩
 | m+1=>by
   obtain⟨h1,h2⟩:=An8 tp S J m
   have U:(m+1)*l=m*l+l:=succ_mul _ _
   have W:(m+1)*(n+l)=m*(n+l)+(n+l):=succ_mul _ _
   refine⟨?_,fun i=> ?_⟩
   . rw [pw]
     by_cases M:p=[]
     . rw [M,Ja,Jb]
       exact zero_le _
     . by_cases O:pw p m=[]
       . rw [O,Jb]
         exact zero_le _
       . have:=J4 tp (Tw p m) M O
         omega
   . rw [pw,Dz]
     exact(Afv h2 p (fun x I=>by
      obtain⟨i,hi,ei⟩:=getElem_of_mem I
      have z:=J i
      rw [Ef hi,ei]at z
      exact z) i).mono (by omega)
noncomputable def S5 (K:Frag):Sp:=fun vs H Q _=>∃(x0 x:V) (m M:Nat) (mi:Int) (p:List Int) (l n:Nat),vs=[x0,x,.int mi,.ref (cA K "p_times")]/\(mi=(m:Nat)\/mi<0/\m=0)/\(∃a,x0= .ref a/\SqT K H a [V.int 1])/\Po K H x p l n/\m<=M/\1<=M/\M*l+1<=500/\M*(n+l)+1<=20000000/\∀z H',Same H H'->Po K H' z (pw p m) (m*l+1) (m*(n+l)+1)->Q z H'
theorem Yd {f:Addr}{fd:FuncData} (F:Df K mg "repeated" Pn ["start","one","many","product"] f fd)  (I:mg "p_times"=some (.ref (cA K "p_times"))) (J:Cal P w K mg base 33 "p_times" ["one","other"] (Gv K)):Cal P w K mg base 34 "repeated" ["start","one","many","product"] (S5 K):=by
 refine F.cal (F.fn.ok Gu (fun vs H Q E h=> ?_) (fun a5 A outer s H vs Q E hr h=> ?_))
 . obtain⟨x0,x,m,M,mi,p,_,_,rfl,_⟩:=h
   rfl
 obtain⟨_,x,m,M,mi,p,l,n,rfl,a0,⟨S,rfl,a1⟩,hx,hm,hM,hl,hn,k⟩:=h
 have a2:=hx
 obtain⟨_,tp,lp,O⟩:=a2
 have bd:=An8 tp lp O
 have sm:∀a,a<=M->a*l+1<=500/\a*(n+l)+1<=20000000:=fun a Z=>by
  have h1:a*l<=M*l:=mul_le_mul_right _ Z
  have h2:a*(n+l)<=M*(n+l):=mul_le_mul_right _ Z
  omega
 have U:∀(H':Hp) (z:V) (a b L N:Nat),Po K H' z (tm (pw p a) (pw p b)) L N->Po K H' z (pw p (a+b)) ((a+b)*l+1) ((a+b)*(n+l)+1):=fun H' z a b L N h=>by
  rw [Ahy]at h
  exact⟨h.1,Tw _ _,bd (a+b)⟩
 refine Ax ⟨_,(Ad (Ak 4 Gu.nd (Ae 0))
  (Ad (Ak 5 Gu.nd (Ae 1))
  (Ad (Ak 6 Gu.nd (Ae 2))
  (Ad (Fq PassesOwn.never (Am R3 (Ae 6) Ac (Bb _)) (Ad (Ay (Am Hj (Ah Dc (Ae 6) Ac) Ac (Bb _)) (Ag (Ak 4 Gu.nd (Y4 J I (hr.mono (by decide)) (Ae 3) (Aa (Ae 4) (Aa (Ae 5) Ab))))) Ar)
  (Ad (Ak 6 Gu.nd (Ah Cw (Ae 6) Ac))
  (Ag (Ay (Am R3 (Ae 6) Ac (Bb _)) (Ag (Ak 5 Gu.nd (Y4 J I (hr.mono (by decide)) (Ae 3) (Aa (Ae 5) (Aa (Ae 5) Ab))))) Ar)))))
  (Ag (Aj (Ae 4))))))),?_⟩
 done
 have s0:=Same.refl H
 have i1:Po K H (.ref S) (pw p 0) (0*l+1) (0*(n+l)+1):=⟨⟨S,rfl,a1⟩,Tw _ _,bd 0⟩
 have i2:Po K H x (pw p 1) (1*l+1) (1*(n+l)+1):=⟨by rw [Amu tp];exact hx.1,Tw _ _,bd 1⟩
 rcases a0 with rfl | ⟨a4,rfl⟩
 case inr=>
  refine Ou (fun σ H'=>σ=[some (.ref S),some x,some (.int mi),some (.ref (cA K "p_times")),some (.ref S),some x,some (.int mi)]/\H'=H) (fun _ _=>0) ⟨rfl,rfl⟩ ?_
  rintro σ H' ⟨rfl,rfl⟩
  done
  rw [if_neg (by omega)]
  exact k _ _ s0 i1
 refine Ou (fun σ H'=>∃(O zs:V) (a b t:Nat),σ=[some (.ref S),some x,some (.int (m:Nat)),some (.ref (cA K "p_times")),some O,some zs,some (.int (t:Nat))]/\Same H H'/\Po K H' O (pw p a) (a*l+1) (a*(n+l)+1)/\Po K H' zs (pw p b) (b*l+1) (b*(n+l)+1)/\a+b*t=m/\b<=M)
  (fun σ _=>match σ with | [_,_,_,_,_,_,some (.int t)]=>t.toNat | _=>0) ⟨_,_,0,1,m,rfl,s0,i1,i2,by omega,hM⟩ ?_
 rintro σ H' ⟨yp,ys,a,b,t,rfl,s1,ia,ib,a3,hb⟩
 done
 by_cases ht:(0:Int)<(t:Nat)
 . rw [if_pos ht]
   refine Agw ?_
   done
   refine⟨by decide,?_⟩
   have d2:((t:Nat):Int)/2=((t/2:Nat):Int):=by omega
   have Z:a<=M:=by omega
   have step:∀(H2:Hp) (z:V) (W:Nat),Same H' H2->Po K H2 z (pw p W) (W*l+1) (W*(n+l)+1)->W+2*b*(t/2)=m->
    Aie (t:Nat) 2/\(if(0:Int)<((t:Nat):Int)/2 then Gv K [ys,ys] H2 (fun w H3=>(∃(O zs:V) (a b u:Nat),[some (.ref S),some x,some (.int (m:Nat)),some (.ref (cA K "p_times")),some z,some w,some (.int (((t:Nat):Int)/2))]=[some (.ref S),some x,some (.int (m:Nat)),some (.ref (cA K "p_times")),some O,some zs,some (.int (u:Nat))]/\Same H H3/\Po K H3 O (pw p a) (a*l+1) (a*(n+l)+1)/\Po K H3 zs (pw p b) (b*l+1) (b*(n+l)+1)/\a+b*u=m/\b<=M)/\(((t:Nat):Int)/2).toNat<((t:Nat):Int).toNat) E0
     else(∃(O zs:V) (a b u:Nat),[some (.ref S),some x,some (.int (m:Nat)),some (.ref (cA K "p_times")),some z,some ys,some (.int (((t:Nat):Int)/2))]=[some (.ref S),some x,some (.int (m:Nat)),some (.ref (cA K "p_times")),some O,some zs,some (.int (u:Nat))]/\Same H H2/\Po K H2 O (pw p a) (a*l+1) (a*(n+l)+1)/\Po K H2 zs (pw p b) (b*l+1) (b*(n+l)+1)/\a+b*u=m/\b<=M)/\(((t:Nat):Int)/2).toNat<((t:Nat):Int).toNat):=fun H2 z W Y iz e=>by
    rw [d2]
    refine⟨⟨by decide,by decide⟩,?_⟩
    by_cases h2:(0:Int)<((t/2:Nat):Int)
    . rw [if_pos h2]
      have a6:2*b<=2*b*(t/2):=Nat.le_mul_of_pos_right _ (by omega)
      have q1:=sm b hb
      refine⟨ys,ys,_,_,_,_,_,_,rfl,ib.mono Y,ib.mono Y,q1.1,q1.1,by omega,fun w H3 s3 iw=>⟨⟨z,w,W,b+b,t/2,rfl,(s1.trans Y).trans s3,iz.mono s3,U _ _ _ _ _ _ iw,?_,by omega⟩,by omega⟩⟩
      rw [<-Nat.two_mul]
      exact e
    . rw [if_neg h2]
      have t0:t/2=0:=by omega
      refine⟨⟨z,ys,W,b,t/2,rfl,s1.trans Y,iz,ib.mono Y,?_,hb⟩,by omega⟩
      rw [t0]at e ⊢
      simpa using e
   have e3:b*t=2*b*(t/2)+b*(t%2):=by
    have e:=div_add_mod t 2
    calc b*t=b*(2*(t/2)+t%2):=by rw [e]
     _=2*b*(t/2)+b*(t%2):=by rw [mul_add,<-Nat.mul_assoc,Nat.mul_comm b 2]
   have q1:=sm a Z
   have q2:=sm b hb
   by_cases ho:((t:Nat):Int)%2=1
   . rw [if_pos ho]
     have o1:t%2=1:=by omega
     refine⟨yp,ys,_,_,_,_,_,_,rfl,ia,ib,q1.1,q2.1,by omega,fun w H2 Y iw=>step H2 w (a+b) Y (U _ _ _ _ _ _ iw) ?_⟩
     rw [o1,Nat.mul_one]at e3
     omega
   . rw [if_neg ho]
     have o1:t%2=0:=by omega
     refine step H' yp a (Same.refl _) ia ?_
     rw [o1,Nat.mul_zero]at e3
     omega
 . rw [if_neg ht]
   have t0:t=0:=by omega
   subst t0
   have e:a=m:=by simpa using a3
   subst e
   exact k _ _ s1 ia
@[irreducible] noncomputable def LIM:Nat:=400000
theorem Ag6:LIM=400000:=by unfold LIM;rfl
@[irreducible] noncomputable def BIG:Nat:=60000000
theorem Yx:BIG=60000000:=by unfold BIG;rfl
theorem Ia {q:List Int} (z:q≠ []):atI (q.map V.int) (-1)=some (.int (co q (q.length-1))):=by
 obtain⟨I,c,rfl⟩:∃(i:List Int) (x:Int),q=i++ [x]:=⟨_,_,(List.dropLast_concat_getLast z).symm⟩
 rw [map_append,length_append,length_singleton,Nat.add_sub_cancel,Gp,if_pos rfl]
 exact Nx _ _
noncomputable def LdR (K:Frag) (bb:Bool) (p q:List Int) (Q:VK) (H:Hp):Prop:=∀(z:Addr) (H':Hp) (s:Int) (c d:V) (u r:List Int),Same H H'->SqT K H' z [.int s,c,d]->Po K H' c u 100 BIG->Po K H' d r 100 BIG->1<=s->Sz BIG s->(bb=false->s=1)->
 (∀k,s*co p k=mu u (co q) k+co r k)->r.length<q.length->Cop s u r->Q (.ref z) H'
noncomputable def Hr (K:Frag):Sp:=fun vs H Q E=>∃(x y:V) (bb:Bool) (p q:List Int) (l l' n n':Nat),vs=[x,y,.bl bb]/\Po K H x p l n/\Po K H y q l' n'/\l<=100/\l'<=100/\n<=400000/\n'<=400000/\(q=[]->∀H',Same H H'->E (.ref (cA K "NoPart")) none H')/\(bb=false->q≠ []->¬Exact p q->∀H',Same H H'->Q .non H')/\(q≠ []->LdR K bb p q Q H)
theorem Ql {f:Addr}{fd:FuncData} (F:Df K mg "long_division" Ge ["one","other","scaling"] f fd) (z_list:mg "list"=none) (a9:mg "range"=none) (an:mg "max"=none) (z_len:mg "len"=none) (ao:mg "abs"=none) (z_enumerate:mg "enumerate"=none) (py:Pyl P base) (a1:Abo K (cA K "NoPart")) (a2:mg "NoPart"=some (.ref (cA K "NoPart"))) (c_poly:Cal P w K mg base 33 "poly" ["weights"] (Ls K)) (a3:Cal P w K mg base 33 "divisor" ["one","other"] (Pu K)) (c_degree:Cal P w K mg base 33 "degree" ["one"] (Gh K)):Vy P w K mg base 34 "long_division" ["one","other","scaling"] (Hr K):=by
 refine F.calE (F.fn.okE Ca (fun vs H Q E h=> ?_) (fun bf A outer s H vs Q E hr h=> ?_))
 . obtain⟨x,y,bb,p,q,_,_,_,_,rfl,_⟩:=h
   rfl
 obtain⟨x,y,bb,p,q,l,l',n,n',rfl,hx,hy,bg,bc,hn,bh,k0,kn,k⟩:=h
 have mx:=hx.mem
 have my:=hy.mem
 obtain⟨⟨a,rfl,ha⟩,tp,lp,zp⟩:=id hx
 obtain⟨⟨b,rfl,hb⟩,tq,lq,zq⟩:=id hy
 refine Ax ⟨_,(Ad (Ay (Am (Fl hr.units) (Ae 1) (Al Ab) (Bb _)) (Ag (J8 a1 a2 (Aa K5 Ab))) Ar)
  (Ad (Ak 3 Ca.nd Ac)
  (Ad (Ak 4 Ca.nd (Ah Uc (Cd (Aa Ac Ab)) (Ba (Rh rfl) rfl an boot_max (Aa (Ah Eh (Ah Em (Ba Az rfl z_len PySem.boot_len (Aa (Ae 0) Ab)) (Ba Az rfl z_len PySem.boot_len (Aa (Ae 1) Ab))) Ac) (Aa Ac Ab)))))
  (Ad (Ak 5 Ca.nd (Ed Fp rfl z_list boot_list (Aa (Ae 0) Ab)))
  (Ad (Ra (Dp PassesOwn.never rfl (Ox rfl a9 (Aa (Ah Em (Ba Az rfl z_len PySem.boot_len (Aa (Ae 4) Ab)) Ac) (Aa (Bd Ce Ac) (Aa (Bd Ce Ac) Ab)))) (Aq 6 Ca.nd) (Ad (Ak 7 Ca.nd (Ah (Mi py (hr.far (by decide)) rfl rfl rfl rfl rfl) (Ba Ny rfl ao boot_abs (Aa (Aw Bx (Ae 1) (Bd Ce Ac) (fun _ _=>rfl)) Ab)) (Af a3 hr (Aa (Aw Ec (Ae 5) (Ah Eh (Ae 6) (Af c_degree hr (Aa (Ae 1) Ab))) (fun _ _=>rfl)) (Aa (Aw Bx (Ae 1) (Bd Ce Ac) (fun _ _=>rfl)) Ab)))))
  (Ad (Ay (Am Lf (Ae 7) Ac (Bb _)) (Ad (Ay (Bt (Bo (Ae 2))) (Ag (Aj K4)) Ar)
  (Ad (Ak 3 Ca.nd (Ah Cr (Ae 3) (Ae 7)))
  (Ad (T8 (ts:=["weight"]) (fs:=[(7,"missing")]) rfl (Dl.of (sc:=Av Ge) (N:=["one","other","scaling","scale","quotient","rest","place","missing","factor","further","weight"]) rfl rfl (by decide+kernel)) (Hg (Ae 4)) (fun _ _ _=>(Aq 0 (show Nodup (["weight","missing"]:List Str)by decide+kernel))) (fun _ _ _=>Dj) (fun _ _ _=>(Ah Cr (Ae 0) (Ae 1))) (Aq 4 Ca.nd))
  (Ag (T8 (ts:=["weight"]) (fs:=[(7,"missing")]) rfl (Dl.of (sc:=Av Ge) (N:=["one","other","scaling","scale","quotient","rest","place","missing","factor","further","weight"]) rfl rfl (by decide+kernel)) (Hg (Ae 5)) (fun _ _ _=>(Aq 0 (show Nodup (["weight","missing"]:List Str)by decide+kernel))) (fun _ _ _=>Dj) (fun _ _ _=>(Ah Cr (Ae 0) (Ae 1))) (Aq 5 Ca.nd)))))) Ar)
  (Ad (Ak 8 Ca.nd (Ah (Mi py (hr.far (by decide)) rfl rfl rfl rfl rfl) (Aw Ec (Ae 5) (Ah Eh (Ae 6) (Af c_degree hr (Aa (Ae 1) Ab))) (fun _ _=>rfl)) (Aw Bx (Ae 1) (Bd Ce Ac) (fun _ _=>rfl))))
  (Ad (Cy (Ae 8) (Hw (Ae 4) (Ae 6) set_list))
  (Ag (Ay (Am Lf (Ae 8) Ac (Bb _)) (Ag (Dp PassesOwn.never rfl (J7 rfl z_enumerate (Aa (Ae 1) Ab)) (Dn rfl (Ai (Aq 9 Ca.nd) (Ai (Aq 10 Ca.nd) Ci))) (Ag (Cy (Ah Em (Aw Ec (Ae 5) (Ah Eh (Ae 6) (Ae 9)) (fun _ _=>rfl)) (Ah Cr (Ae 8) (Ae 10))) (Hw (Ae 5) (Ah Eh (Ae 6) (Ae 9)) set_list))))) Ar))))))))
  (Ag (Aj (Al (Aa (Ae 3) (Aa (Af c_poly hr (Aa (Ae 4) Ab)) (Aa (Af c_poly hr (Aa (Ae 5) Ab)) Ab))))))))))),?_⟩
 refine Bp (fun I H'=>Same H H'/\q≠ []/\I=[some (.ref a),some (.ref b),some (.bl bb),none,none,none,none,none,none,none,none]) (fun N hN=> ?_) ?_
 . done
   refine⟨by decide,fun e0 b3=> ?_⟩
   have se:=Same.upd b3 (.tup [])
   refine Bu (ms:=[]) (se.tup hb) (.of Ao) ?_
   try done
   split
   . rename_i h
     exact k0 h _ se
   . rename_i h
     exact hN _ _ ⟨se,h,rfl⟩
 rintro σ H1 ⟨s1,hq,rfl⟩
 replace k:=k hq
 replace kn:=fun h=>kn h hq
 have bi:0<q.length:=length_pos_iff.mpr hq
 have bj:1000<=sizeLine:=by decide
 obtain⟨L,hL⟩:∃L,L=p.length+1-q.length:=⟨_,rfl⟩
 have l0:co q (q.length-1)≠0:=tq.lead hq
 have eL:(if(0:Int)>(p.length:Int)-(q.length:Int)+1 then(0:Int)else(p.length:Int)-(q.length:Int)+1)=(L:Int):=by
  subst hL
  split<;>omega
 refine Bp (fun I H'=>H'=H1/\I=[some (.ref a),some (.ref b),some (.bl bb),some (.int 1),none,none,none,none,none,none,none]) (fun N hN=> ?_) ?_
 . done
   exact hN _ _ ⟨rfl,rfl⟩
 rintro σ H2 ⟨rfl,rfl⟩
 refine Bp (fun I H'=>Same H H'/\∃O,I=[some (.ref a),some (.ref b),some (.bl bb),some (.int 1),some (.ref O),none,none,none,none,none,none]/\H O=none/\H' O=some (.lst ((replicate L (0:Int)).map V.int))) (fun N hN=> ?_) ?_
 . done
   intro p3 b4
   have s3:=s1.trans (Same.upd b4 (.lst [V.int 0]))
   refine⟨a,_,rfl,.inr (s3.tup ha),b,_,rfl,.inr (s3.tup hb),?_⟩
   repeat (first | done | simp only [length_map,eL])
   refine⟨p3,_,[V.int 0],rfl,rfl,Ao,by omega,by omega,by simp only [toNat_natCast,length_cons,length_nil];omega,fun O J=> ?_⟩
   rw [toNat_natCast,Io]
   exact hN _ _ ⟨s3.trans (Same.upd J _),O,rfl,Same.free s3 J,Ao⟩
 rintro σ H3 ⟨s3,O,rfl,nq,J⟩
 refine Bp (fun I H'=>Same H H'/\∃O S,I=[some (.ref a),some (.ref b),some (.bl bb),some (.int 1),some (.ref O),some (.ref S),none,none,none,none,none]/\H O=none/\H S=none/\O≠S/\H' O=some (.lst ((replicate L (0:Int)).map V.int))/\H' S=some (.lst (p.map V.int))) (fun N hN=> ?_) ?_
 . done
   refine⟨a,_,rfl,.inr (s3.tup ha),fun S M=>hN _ _ ⟨s3.trans (Same.upd M _),O,S,rfl,nq,Same.free s3 M,?_,Same.upd M _ _ _ J,Ao⟩⟩
   exact Dk J M
 clear J nq s3
 rintro σ H4 ⟨s4,O,S,rfl,nq,nr,ne,J,M⟩
 obtain⟨B,hB⟩:∃B:Nat->Nat,B=fun i=>n+(n'+1)*i:=⟨_,rfl⟩
 have B1:∀i,B (i+1)=B i+n'+1:=fun i=>by rw [hB];show n+(n'+1)*(i+1)=n+(n'+1)*i+n'+1;rw [mul_succ];omega
 have Bn:∀i,i<=100->B i<=50000000:=fun i hi=>by
  rw [hB]
  have:(n'+1)*i<=(n'+1)*100:=mul_le_mul_left _ hi
  show n+(n'+1)*i<=50000000
  omega
 have B0:B 0=n:=by rw [hB];rfl
 have au:L<=100:=by omega
 refine Bp (fun I H'=>Same H H'/\∃(Y:Int) (O S:Addr) (W rs:List Int) (o6 o7 o8 o9 U:Option V),I=[some (.ref a),some (.ref b),some (.bl bb),some (.int Y),some (.ref O),some (.ref S),o6,o7,o8,o9,U]/\H' O=some (.lst (W.map V.int))/\H' S=some (.lst (rs.map V.int))/\W.length=L/\rs.length=p.length/\DV p q Y W rs 0/\(bb=false->Y=1)/\Sz (B L+1) Y/\(∀x∈W,Sz (B L+1) x)/\∀x∈rs,Sz (B L+1) x) (fun N hN=> ?_) ?_
 . rw [Agy]
   done
   refine⟨O,_,rfl,.inl (.of J),?_⟩
   try done
   rw [length_map,length_replicate]
   refine⟨by omega,?_⟩
   refine Akr L (fun i=> .int ((L:Int)-1-(i:Nat))) (fun i I H'=>Same H H'/\∃(Y:Int) (O S:Addr) (W rs:List Int) (o6 o7 o8 o9 U:Option V),I=[some (.ref a),some (.ref b),some (.bl bb),some (.int Y),some (.ref O),some (.ref S),o6,o7,o8,o9,U]/\H O=none/\H S=none/\O≠S/\H' O=some (.lst (W.map V.int))/\H' S=some (.lst (rs.map V.int))/\W.length=L/\rs.length=p.length/\DV p q Y W rs (L-i)/\(bb=false->Y=1)/\Sz (B i+1) Y/\(∀x∈W,Sz (B i+1) x)/\∀x∈rs,Sz (B i+1) x) ?_ ?_ ?_ ?_
   . refine⟨s4,1,O,S,_,_,_,_,_,_,_,rfl,nq,nr,ne,J,M,length_replicate,rfl,by rw [hL,sub_zero];exact DV.start p q hq,fun _=>rfl,?_,fun x hx=> ?_,fun x hx=>(mx x hx).mono (by rw [B0];omega)⟩
     . exact(show Sz 1 (1:Int)by unfold Sz;decide).mono (by omega)
     . rw [List.eq_of_mem_replicate hx]
       exact Sz0 (by omega)
   . intro i I H' _
     have e:((L:Int)-1- -1).toNat=L:=by omega
     rw [e]
     exact Td
   . clear J M nq nr ne s4
     rintro i I H5 hi ⟨s5,Y,O,S,W,rs,o6,o7,o8,o9,U,rfl,nq,nr,ne,J,M,ac,ap,dv,b1,zs,a7,a4⟩
     obtain⟨j,hj⟩:∃j:Nat,j+1=L-i:=⟨L-i-1,by omega⟩
     have pj:(L:Int)-1-(i:Nat)=(j:Int):=by omega
     rw [<-hj]at dv
     rw [Vx,pj]
     simp only [set_cons_succ,set_cons_zero]
     obtain⟨d,hd⟩:∃d,d+1=q.length:=⟨q.length-1,by omega⟩
     have aa:q.length-1=d:=by omega
     have ad:j+d<rs.length:=by omega
     have av:j<W.length:=by omega
     rw [aa]at l0
     have ix:(j:Int)+((q.length:Int)-1)=((j+d:Nat):Int):=by omega
     have a0:=Ia hq
     rw [aa]at a0
     have er:rs[j+d]=co rs (j+d):=(Ef ad).symm
     have zl:Sz n' (co q d):=zq d
     have Bi:=Bn i (by omega)
     obtain⟨m,fc,em,ef,m1,b5,cp,b6,b7⟩:=Aoj (co rs (j+d)) (co q d) l0
     have g0:0<Int.gcd (co rs (j+d)) (co q d):=Int.gcd_pos_of_ne_zero_right _ l0
     have gz:Sz n' ((Int.gcd (co rs (j+d)) (co q d):Nat):Int):=zl.of_abs (by
      have:=Nat.le_of_dvd (by omega) (Int.gcd_dvd_natAbs_right (co rs (j+d)) (co q d))
      omega)
     have zr:Sz (B i+1) (co rs (j+d)):=by rw [<-er];exact a4 _ (getElem_mem ad)
     have zm:Sz n' m:=zl.of_abs b6
     have zf:Sz (B i+1) fc:=zr.of_abs b7
     refine Bp (fun I H'=>H'=H5/\I=[some (.ref a),some (.ref b),some (.bl bb),some (.int Y),some (.ref O),some (.ref S),some (.int j),some (.int m),o8,o9,U]) (fun N hN=> ?_) ?_
     . done
       refine En (s5.tup hb) a0 ?_
       repeat (first | done | simp only [abs_eq])
       refine Fg hy s5 ?_
       repeat (first | done | simp only [ix])
       refine Mh (.of M) (Ft ad) ?_
       try done
       refine En (s5.tup hb) a0 ?_
       try done
       rw [er]
       refine⟨_,_,rfl,?_⟩
       try done
       refine⟨by omega,?_⟩
       rw [em]
       exact hN _ _ ⟨rfl,rfl⟩
     rintro I H6 ⟨rfl,rfl⟩
     refine Bp (fun I H'=>Same H H'/\(bb=false->m=1)/\∃O S,I=[some (.ref a),some (.ref b),some (.bl bb),some (.int (Y*m)),some (.ref O),some (.ref S),some (.int j),some (.int m),o8,o9,U]/\H O=none/\H S=none/\O≠S/\H' O=some (.lst ((W.map (· *m)).map V.int))/\H' S=some (.lst ((rs.map (· *m)).map V.int))) (fun N hN=> ?_) ?_
     . done
       split
       . rename_i h1
         have one:∀x:List Int,x.map (· *m)=x:=fun x=>by
          rw [h1]
          simp
         refine hN _ _ ⟨s5,fun _=>h1,O,S,by rw [h1,Int.mul_one],nq,nr,ne,by rw [one];exact J,by rw [one];exact M⟩
       . rename_i h1
         cases bb with
         | false=>
           try done
           refine kn rfl (fun ex=>h1 ?_) _ s5
           have b8:=b1 rfl
           subst b8
           have dd:=dv.exact_top hq (by rw [aa];exact l0) ex
           rw [aa]at dd
           rw [<-em]
           exact Agq l0 dd
         | true=>
           try done
           refine⟨zs.mulOk zm (by omega),⟨_,.of J⟩,fun p1 ae=>Gx (es:=W) (inj:=V.int) (fun x=> .int (x*m)) (by omega) ae (Tf (.of J)) ?_ ?_⟩
           . intro e H7 R he s7 hR
             done
             exact⟨(a7 e he).mulOk zm (by omega),hR _ (Same.refl _)⟩
           intro H7 s7 h7
           try done
           have am:=s7 _ _ M
           refine⟨⟨_,.of am⟩,fun p2 aq=>Gx (es:=rs) (inj:=V.int) (fun x=> .int (x*m)) (by omega) aq (Tf (.of am)) ?_ ?_⟩
           . intro e H8 R he s8 hR
             done
             exact⟨(a4 e he).mulOk zm (by omega),hR _ (Same.refl _)⟩
           intro H8 s8 h8
           try done
           refine hN _ _ ⟨(s5.trans s7).trans s8,(fun h=>nomatch h),p1,p2,rfl,Same.free s5 ae,Same.free (s5.trans s7) aq,Dk h7 aq,by rw [map_map];exact s8 _ _ h7,by rw [map_map];exact h8⟩
     clear J M nq nr ne s5
     rintro I H6 ⟨s5,bm,O,S,rfl,nq,nr,ne,J,M⟩
     have aw:j+d<(rs.map (· *m)).length:=by rw [length_map];exact ad
     refine Bp (fun I H'=>H'=H6/\I=[some (.ref a),some (.ref b),some (.bl bb),some (.int (Y*m)),some (.ref O),some (.ref S),some (.int j),some (.int m),some (.int fc),o9,U]) (fun N hN=> ?_) ?_
     . done
       refine Fg hy s5 ?_
       repeat (first | done | simp only [ix])
       refine Mh (.of M) (Ft aw) ?_
       try done
       refine En (s5.tup hb) a0 ?_
       try done
       rw [List.getElem_map,er]
       refine⟨l0,?_⟩
       rw [ef]
       exact hN _ _ ⟨rfl,rfl⟩
     rintro I H7 ⟨rfl,rfl⟩
     refine Bp (fun I H'=>Same H H'/\I=[some (.ref a),some (.ref b),some (.bl bb),some (.int (Y*m)),some (.ref O),some (.ref S),some (.int j),some (.int m),some (.int fc),o9,U]/\H' O=some (.lst (((W.map (· *m)).set j fc).map V.int))/\H' S=some (.lst ((rs.map (· *m)).map V.int))) (fun N hN=> ?_) ?_
     . done
       refine Wc J (by rw [length_map,length_map];exact av) ?_
       rw [Jh]
       exact hN _ _ ⟨s5.put nq,rfl,Ao,by rw [Cu (Ne.symm ne)];exact M⟩
     clear J M s5
     rintro I H8 ⟨s5,rfl,J,M⟩
     have bn:=B1 i
     have ax:∀(ab:List Int) (o9 U:Option V) (H9:Hp),Same H H9->H9 O=some (.lst (((W.map (· *m)).set j fc).map V.int))->H9 S=some (.lst (ab.map V.int))->ab.length=rs.length->(∀k,co ab k=co rs k*m-(if j<=k then fc*co q (k-j)else 0))->
      Same H H9/\∃(af:Int) (ag ah:Addr) (ai a6:List Int) (u6 u7 u8 u9 a8:Option V),[some (V.ref a),some (.ref b),some (.bl bb),some (.int (Y*m)),some (.ref O),some (.ref S),some (.int j),some (.int m),some (.int fc),o9,U]=[some (.ref a),some (.ref b),some (.bl bb),some (.int af),some (.ref ag),some (.ref ah),u6,u7,u8,u9,a8]/\H ag=none/\H ah=none/\ag≠ah/\H9 ag=some (.lst (ai.map V.int))/\H9 ah=some (.lst (a6.map V.int))/\ai.length=L/\a6.length=p.length/\DV p q af ai a6 (L-(i+1))/\(bb=false->af=1)/\Sz (B (i+1)+1) af/\(∀x∈ai,Sz (B (i+1)+1) x)/\∀x∈a6,Sz (B (i+1)+1) x:=by
      intro ab o9 U H9 s9 h1 h2 bo a5
      refine⟨s9,Y*m,O,S,_,ab,_,_,_,_,_,rfl,nq,nr,ne,h1,h2,by rw [length_set,length_map];exact ac,by omega,?_,fun ay=>by rw [b1 ay,bm ay];rfl,(zs.mul zm).mono (by omega),fun x hx=> ?_,fun x hx=> ?_⟩
      . rw [show L-(i+1)=j by omega]
        exact dv.step hq m1 av (by rw [aa];exact b5) cp a5
      . rcases List.mem_or_eq_of_mem_set hx with hx | hx
        . obtain⟨y,b9,rfl⟩:=List.mem_map.mp hx
          exact((a7 y b9).mul zm).mono (by omega)
        . rw [hx];exact zf.mono (by omega)
      . obtain⟨t,ht,et⟩:=getElem_of_mem hx
        have z:=a5 t
        rw [Ef ht,et]at z
        rw [z]
        have za:Sz (B i+1+n') (co rs t*m):=by
         by_cases h:t<rs.length
         . rw [Ef h];exact(a4 _ (getElem_mem h)).mul zm
         . rw [Ck (by omega),Int.zero_mul];exact Sz0 (by omega)
        have zb:Sz (B i+1+n') (if j<=t then fc*co q (t-j)else 0):=by
         split
         . exact zf.mul (zq _)
         . exact Sz0 (by omega)
        exact(za.sub zb).mono (by omega)
     done
     split
     . rename_i h0
       refine ax (rs.map (· *m)) _ _ _ s5 J M (by rw [length_map]) fun t=> ?_
       rw [Uq,h0]
       split<;>simp
     . refine⟨⟨_,s5.tup hb⟩,Aah (es:=q) (inj:=V.int) (fun Z I H'=>Same H H'/\∃(u9 a8:Option V) (ms:List Int),I=[some (.ref a),some (.ref b),some (.bl bb),some (.int (Y*m)),some (.ref O),some (.ref S),some (.int j),some (.int m),some (.int fc),u9,a8]/\H' O=some (.lst (((W.map (· *m)).set j fc).map V.int))/\H' S=some (.lst (ms.map V.int))/\ms.length=rs.length/\∀t,co ms t=co rs t*m-(if j<=t then fc*co Z (t-j)else 0)) ⟨s5,_,_,rs.map (· *m),rfl,J,M,by rw [length_map],fun t=>by rw [Uq];split<;>simp [Bv]⟩ ?_ ?_ ?_⟩
       . rintro Z I H' ⟨s9,_⟩
         exact s9.tup hb
       . rintro Z e bd I H9 p1 he ⟨s9,u9,a8,ms,rfl,h1,h2,ar,a5⟩ ae
         refine Nz (.of Ao) ?_
         have az:=congrArg List.length he
         rw [length_append,length_cons]at az
         have aj:j+Z.length<ms.length:=by omega
         have as:=Same.upd ae (.tup [V.int (Z.length:Nat),V.int e])
         have ba:=as _ _ h1
         have b0:=as _ _ h2
         have ze:Sz n' e:=my e (by rw [he];simp)
         repeat (first | done | simp only [<-natCast_add])
         refine Mh (.of b0) (Ft aj) ?_
         try done
         refine⟨zf.mulOk ze (by omega),?_⟩
         refine Wc b0 (by rw [length_map];exact aj) ?_
         try done
         rw [Jh]
         refine⟨(s9.trans as).put nr,_,_,ms.set (j+Z.length) (ms[j+Z.length]-fc*e),rfl,by rw [Cu ne];exact ba,Ao,by rw [length_set];exact ar,fun t=> ?_⟩
         rw [P0 _ _ _ aj,Gp,a5 t]
         by_cases ht:t=j+Z.length
         . subst ht
           rw [if_pos rfl,if_pos (by omega),if_pos (by omega),<-Ef aj,a5,if_pos (by omega),show j+Z.length-j=Z.length by omega,Ck (p:=Z) (le_refl _)]
           omega
         . rw [if_neg ht]
           by_cases ak:j<=t
           . rw [if_pos ak,if_pos ak,if_neg (by omega)]
           . rw [if_neg ak,if_neg ak]
       . rintro I H9 ⟨s9,u9,a8,ms,rfl,h1,h2,ar,a5⟩
         exact ax ms u9 a8 H9 s9 h1 h2 ar a5
   . rintro I H5 ⟨s5,Y,O,S,W,rs,o6,o7,o8,o9,U,rfl,nq,nr,ne,J,M,ac,ap,dv,b1,zs,a7,a4⟩
     rw [sub_self]at dv
     exact hN _ _ ⟨s5,Y,O,S,W,rs,o6,o7,o8,o9,U,rfl,J,M,ac,ap,dv,b1,zs,a7,a4⟩
 rintro σ H5 ⟨s5,Y,O,S,W,rs,o6,o7,o8,o9,U,rfl,J,M,ac,ap,dv,b1,zs,a7,a4⟩
 have BL:=Bn L au
 have be:=Yx
 done
 refine⟨O,W,rfl,.inl (.of J),by omega,fun z1 H6 s6 h6=> ?_⟩
 try done
 refine⟨S,rs,rfl,.inl (.of (s6 _ _ M)),by omega,fun z2 H7 s7 h7=> ?_⟩
 try done
 refine⟨by decide,fun z hz=> ?_⟩
 have s8:=Same.upd hz (.tup [V.int Y,V.ref z1,V.ref z2])
 have b2:∀(x:List Int),(∀y∈x,Sz (B L+1) y)->∀t,Sz BIG (co (trim x) t):=fun x hx t=>by
  rw [Bl]
  by_cases h:t<x.length
  . rw [Ef h];exact(hx _ (getElem_mem h)).mono (by omega)
  . rw [Ck (by omega)];exact Sz0 (by omega)
 have t1:=Hv W
 have t2:=Hv rs
 refine k z _ Y (.ref z1) (.ref z2) (trim W) (trim rs) (((s5.trans s6).trans s7).trans s8) (.of Ao) ⟨⟨z1,rfl,s8.tup (s7.tup h6)⟩,Bq _,by omega,b2 W a7⟩ ⟨⟨z2,rfl,s8.tup h7⟩,Bq _,by omega,b2 rs a4⟩ dv.pos (zs.mono (by omega)) b1 (fun t=> ?_) ?_ ?_
 . rw [dv.eq,Cm (co q) (trim W) W fun i=>Bl W i,Bl]
 . have:(trim rs).length<=q.length-1:=by
    have h:=(Bq rs).len (q:=rs.take (q.length-1)) fun t=>by
     rw [Bl,Jo]
     split
     . rfl
     . exact dv.top t (by omega)
    rw [length_take]at h
    omega
   omega
 . intro e h1 h2 h3
   exact dv.cop e h1 (fun t=>by rw [<-Bl];exact h2 t) fun t=>by rw [<-Bl];exact h3 t
theorem Ack:∀(p r:List Int),gl (p++r)=Int.gcd (gl p:Nat) (gl r:Nat)
 | [],r=>by rw [nil_append,gl];simp
 | a::p,r=>by rw [cons_append,gl,Ack p r,gl,Int.gcd_assoc]
theorem Acn (p:List Int) (e:Int):gl (p++ [e])=Int.gcd (gl p:Nat) e:=by
 rw [Ack,gl,gl]
 simp [Int.gcd]
noncomputable def Aqu (K:Frag):Sp:=fun vs H Q _=>∃(a:Addr) (ns:List Int),vs=[.ref a]/\SqT K H a (ns.map V.int)/\Q (.int (gl ns:Nat)) H
noncomputable def Ol (K:Frag):Sp:=Aqu K
theorem U4 {f:Addr}{fd:FuncData} (F:Df K mg "divisor_of" Li ["some"] f fd)   (z:Cal P w K mg base 33 "divisor" ["one","other"] (Pu K)):Cal P w K mg base 34 "divisor_of" ["some"] (Ol K):=by
 refine F.cal (F.fn.ok Ie (fun S H Q E h=> ?_) (fun U A outer s H S Q E W h=> ?_))
 . obtain⟨a,ns,rfl,_⟩:=h
   rfl
 obtain⟨a,ns,rfl,M,q⟩:=h
 refine Ax ⟨_,(Ad (Ak 1 Ie.nd Ac)
  (Ad (Dp PassesOwn.never rfl (Gb (Ae 0)) (Aq 2 Ie.nd) (Ad (Ak 1 Ie.nd (Af z W (Aa (Ae 1) (Aa (Ae 2) Ab))))
  (Ag (Ay (Am Hj (Ae 1) Ac (Bb _)) (Ag (Aj (Ae 1))) Ar))))
  (Ag (Aj (Ae 1))))),?_⟩
 done
 refine⟨⟨_,M⟩,Uy (es:=ns) (inj:=V.int) (fun I σ H'=>H'=H/\∃o,σ=[some (.ref a),some (.int (gl I:Nat)),o]) ⟨rfl,_,rfl⟩ ?_ ?_ ?_⟩
 . rintro I σ H' ⟨rfl,_⟩
   exact Z6 M
 . rintro I e O σ H' Y ⟨rfl,o,rfl⟩
   done
   refine⟨_,_,rfl,?_⟩
   rw [<-Acn]
   done
   split
   . rename_i h1
     have J:gl (I++ [e])=1:=by omega
     have Z:gl ns=gl (I++ [e]):=by
      rw [Y,<-List.singleton_append,<-append_assoc,Ack,J]
      simp
     rw [<-Z]
     exact q
   . exact⟨_,rfl⟩
 . rintro σ H' ⟨rfl,o,rfl⟩
   done
   exact q
noncomputable def Uj (K:Frag):Sp:=Aqu K
theorem Aao {f:Addr}{fd:FuncData} (F:Df K mg "content" R5 ["one"] f fd)   (z:Cal P w K mg base 34 "divisor_of" ["some"] (Ol K)):Cal P w K mg base 35 "content" ["one"] (Uj K):=by
 refine F.cal (F.fn.ok Aa6 (fun I H Q E h=> ?_) (fun J A outer s H I Q E M h=> ?_))
 . obtain⟨a,ns,rfl,_⟩:=h
   rfl
 obtain⟨a,ns,rfl,O,q⟩:=h
 refine Ax ⟨_,(Ag (Aj (Af z M (Aa (Ae 0) Ab)))),?_⟩
 done
 exact⟨a,ns,rfl,O,q⟩
noncomputable def Vr (K:Frag):Sp:=fun vs H Q _=>∃(a:Addr) (p:List Int),vs=[.ref a]/\SqT K H a (p.map V.int)/\∀H',Same H H'->Q (.int (un p)) H'
theorem Aje {f:Addr}{fd:FuncData} (F:Df K mg "unit" Aed ["one"] f fd)   (z:Cal P w K mg base 35 "content" ["one"] (Uj K)):Cal P w K mg base 36 "unit" ["one"] (Vr K):=by
 refine F.cal (F.fn.ok Aj4 (fun W H Q E h=> ?_) (fun Y A outer s H W Q E M h=> ?_))
 . obtain⟨a,p,rfl,_⟩:=h
   rfl
 obtain⟨a,p,rfl,J,k⟩:=h
 refine Ax ⟨_,(Ad (Ay (Cj (Eo (Am (Gz M.units) (Ae 0) (Al Ab) (Bb _)) (Eu (Am Wo (Aw Bx (Ae 0) (Bd Ce Ac) (fun _ _=>rfl)) Ac (Bb _))))) (Ag (Aj (Bd Ce (Af z M (Aa (Ae 0) Ab))))) Ar)
  (Ag (Aj (Af z M (Aa (Ae 0) Ab))))),?_⟩
 done
 refine⟨by decide,fun Z O=> ?_⟩
 have I:=Same.upd O (.tup [])
 refine Bu (ms:=[]) (I.tup J) (.of Ao) ?_
 by_cases S:p=[]
 . subst S
   try done
   exact⟨a,[],rfl,I.tup J,k _ I⟩
 . rw [decide_eq_false S]
   try done
   refine En (I.tup J) (Ia S) ?_
   try done
   split
   . rename_i U
     refine⟨a,p,rfl,I.tup J,?_⟩
     try done
     have:un p= -((gl p:Nat):Int):=if_pos U
     rw [<-this]
     exact k _ I
   . rename_i U
     refine⟨a,p,rfl,I.tup J,?_⟩
     try done
     have:un p=((gl p:Nat):Int):=if_neg U
     rw [<-this]
     exact k _ I
noncomputable def S7 (K:Frag):Sp:=fun vs H Q _=>∃(a:Addr) (p:List Int) (d:Int),vs=[.ref a,.int d]/\SqT K H a (p.map V.int)/\p.length<=1000/\(p≠ []->d≠0/\Sz LIM d)/\∀z H',Same H H'->SqT K H' z ((p.map fun x=>x.fdiv d).map V.int)->Q (.ref z) H'
theorem Adj {f:Addr}{fd:FuncData} (F:Df K mg "shrunk" Qy ["one","number"] f fd) (I:mg "tuple"=none) (py:Pyl P base)  :Cal P w K mg base 33 "shrunk" ["one","number"] (S7 K):=by
 refine F.cal (F.fn.ok Ael (fun S H Q E h=> ?_) (fun U A outer s H S Q E W h=> ?_))
 . obtain⟨a,p,d,rfl,_⟩:=h
   rfl
 obtain⟨a,p,d,rfl,M,Y,Z,k⟩:=h
 refine Ax ⟨_,(Ag (Aj (Ed Ey rfl I boot_tuple (Aa (Ea (ts:=["weight"]) (fs:=[(1,"number")]) rfl (Dl.of (sc:=Av Qy) (N:=["one","number"]) rfl rfl (by decide+kernel)) (Gb (Ae 0)) (fun _ _ _=>(Aq 0 (show Nodup (["weight","number"]:List Str)by decide+kernel))) (fun _ _ _=>Dj) (fun _ _ _=>(Ah (Mi py (W.far (by decide)) rfl rfl rfl rfl rfl) (Ae 0) (Ae 1)))) Ab)))),?_⟩
 done
 refine⟨⟨_,M⟩,fun p1 J=>Gx (es:=p) (inj:=V.int) (fun x=> .int (x.fdiv d)) (le_trans Y (by decide)) J (Ov M) ?_ ?_⟩
 . intro e H2 R he O hR
   have:=Z (List.ne_nil_of_mem he)
   done
   exact⟨this.1,hR _ (Same.refl _)⟩
 intro H2 O h2
 try done
 have em:p.map (fun x=>V.int (x.fdiv d))=(p.map fun x=>x.fdiv d).map V.int:=by rw [map_map];rfl
 rw [em]at h2
 exact⟨p1,_,rfl,.inl ⟨.of h2,fun z hz=>k z _ (O.trans (Same.upd hz _)) (.of Ao)⟩⟩
noncomputable def G6 (K:Frag):Sp:=fun vs H Q _=>∃(x:V) (p:List Int) (l n:Nat),vs=[x]/\Po K H x p l n/\l<=100/\n<=400000/\∀z H',Same H H'->Po K H' z (pln p) l n->Q z H'
theorem Agu {p:List Int}{n:Nat} (I:Tr p) (h:p≠ []) (z:Sz n (co p (p.length-1))):Sz n (un p):=z.of_abs (Nat.le_of_dvd (natAbs_pos.mpr (I.lead h)) (natAbs_dvd_natAbs.mpr (Aid p _)))
theorem Amq {p:List Int}{n:Nat} (I:Tr p) (z:∀i,Sz n (co p i)) (i:Nat):Sz n (co (pln p) i):=by
 by_cases h:p=[]
 . subst h;exact z i
 . refine(z i).of_abs ?_
   have e:=Jl I h i
   by_cases J:co p i=0
   . have:co (pln p) i=0:=by
      rw [J]at e
      exact(mul_eq_zero.mp e).resolve_left (Tc I h)
     rw [this]
     exact zero_le _
   . exact Nat.le_of_dvd (natAbs_pos.mpr J) (natAbs_dvd_natAbs.mpr ⟨un p,by rw [Int.mul_comm];exact e.symm⟩)
theorem Afy {f:Addr}{fd:FuncData} (F:Df K mg "plain" Yo ["one"] f fd)   (I:Cal P w K mg base 33 "shrunk" ["one","number"] (S7 K)) (J:Cal P w K mg base 36 "unit" ["one"] (Vr K)):Cal P w K mg base 37 "plain" ["one"] (G6 K):=by
 refine F.cal (F.fn.ok Agi (fun Y H Q E h=> ?_) (fun Z A outer s H Y Q E M h=> ?_))
 . obtain⟨x,p,_,_,rfl,_⟩:=h
   rfl
 obtain⟨x,p,l,n,rfl,⟨⟨a,rfl,O⟩,tp,lp,S⟩,hl,hn,k⟩:=h
 refine Ax ⟨_,(Ag (Aj (Af I M (Aa (Ae 0) (Aa (Af J M (Aa (Ae 0) Ab)) Ab))))),?_⟩
 done
 refine⟨a,p,rfl,O,fun H1 U=> ?_⟩
 try done
 refine⟨a,p,un p,rfl,U.tup O,by omega,fun W=>⟨Tc tp W,(Agu tp W (S _)).mono (by rw [Ag6];exact hn)⟩,fun z H2 s2 h2=>k _ _ (U.trans s2) ⟨⟨z,rfl,h2⟩,Kw tp,by rw [Fw];exact lp,Amq tp S⟩⟩
theorem Ku {H H1:Hp}{Q:VK}{E:XK}{x:V}{p:List Int}{l n:Nat} (I:Po K H1 x p l n) (J:Same H1 H) (M:l<=100) (O:n<=400000) (h:∀z H',Same H H'->Po K H' z (pln p) l n->Q z H'):G6 K [x] H Q E:=⟨x,p,l,n,rfl,I.mono J,M,O,h⟩
theorem at0 {α:Type} (x:α) (r:List α):atI (x::r) 0=some x:=Bk (j:=0) rfl
theorem at1 {α:Type} (x y:α) (r:List α):atI (x::y::r) 1=some y:=Bk (j:=1) rfl
theorem at2 {α:Type} (x y z:α) (r:List α):atI (x::y::z::r) 2=some z:=Bk (j:=2) rfl
noncomputable def WpR (K:Frag) (p q:List Int) (Q:VK) (H:Hp):Prop:=(¬Exact p q->∀H',Same H H'->Q .non H')/\∀z H' u,Same H H'->Po K H' z u 100 BIG->(∀k,co p k=mu u (co q) k)->Q z H'
noncomputable def Ju (K:Frag):Sp:=fun vs H Q E=>∃(x y:V) (p q:List Int) (l l' n n':Nat),vs=[x,y]/\Po K H x p l n/\Po K H y q l' n'/\l<=100/\l'<=100/\n<=400000/\n'<=400000/\(q=[]->∀H',Same H H'->E (.ref (cA K "NoPart")) none H')/\(q≠ []->WpR K p q Q H)
noncomputable def Kr (K:Frag):Sp:=fun vs H Q _=>∃(x y:V) (p q:List Int) (l l' n n':Nat),vs=[x,y]/\Po K H x p l n/\Po K H y q l' n'/\l<=100/\l'<=100/\n<=400000/\n'<=400000/\q≠ []/\WpR K p q Q H
theorem Rq (K:Frag):∀I H Q E,Kr K I H Q E->Ju K I H Q E0:=by
 rintro I H Q E ⟨x,y,p,q,l,l',n,n',rfl,J,M,h1,h2,O,S,U,k⟩
 exact⟨x,y,p,q,l,l',n,n',rfl,J,M,h1,h2,O,S,fun z=>(U z).elim,fun _=>k⟩
theorem Vb {f:Addr}{fd:FuncData} (F:Df K mg "whole_part" Lq ["one","other"] f fd)   (I:Vy P w K mg base 34 "long_division" ["one","other","scaling"] (Hr K)):Vy P w K mg base 35 "whole_part" ["one","other"] (Ju K):=by
 refine F.calE (F.fn.okE Oi (fun vs H Q E h=> ?_) (fun a3 A outer s H vs Q E hr h=> ?_))
 . obtain⟨x,y,p,q,_,_,_,_,rfl,_⟩:=h
   rfl
 obtain⟨x,y,p,q,l,l',n,n',rfl,hx,hy,h1,h2,h3,h4,k0,k⟩:=h
 refine Ax ⟨_,(Ad (Ak 2 Oi.nd (Ik I (hr.mono (by decide)) (Aa (Ae 0) (Aa (Ae 1) (Aa Br Ab)))))
  (Ad (Ay (Cj (Bw (Am Al4 (Ae 2) K4 (Bb _)) (Dw (Am (Gz hr.units) (Aw Bx (Ae 2) Ac (fun _ _=>rfl)) (Al Ab) (Bb _))))) (Ag (Aj K4)) Ar)
  (Ag (Aj (Aw Bx (Ae 2) Ac (fun _ _=>rfl)))))),?_⟩
 done
 refine⟨x,y,false,p,q,l,l',n,n',rfl,hx,hy,h1,h2,h3,h4,k0,fun _ J Y H1 U=> ?_,fun J z H1 sc c d u r U hz iu ir Z _ one M lr a0=> ?_⟩
 . try done
   exact(k J).1 Y _ U
 . have O:=one rfl
   subst O
   try done
   rw [if_neg (show ¬V.ref z=V.non from nofun)]
   refine En hz (at2 _ _ _ _) ?_
   try done
   refine⟨by decide,fun e0 a1=> ?_⟩
   have S:=Same.upd a1 (.tup [])
   obtain⟨⟨rd,rfl,a2⟩,tr,_⟩:=id (ir.mono S)
   refine Bu (ms:=[]) a2 (.of Ao) ?_
   by_cases W:r=[]
   . rw [decide_eq_true W]
     try done
     refine En (S.tup hz) (at1 _ _ _) ?_
     try done
     exact(k J).2 _ _ u (U.trans S) (iu.mono S) fun t=>by
      have:=M t
      rw [W,Bv]at this
      omega
   . rw [decide_eq_false W]
     try done
     exact(k J).1 (fun ex=>W (Afl J (hy.2.1.lead J) M Z tr lr a0 ex).2) _ (U.trans S)
noncomputable def Ui (K:Frag):Sp:=fun vs H Q E=>∃(x y:V) (p q:List Int) (l l' n n':Nat),vs=[x,y]/\Po K H x p l n/\Po K H y q l' n'/\l<=100/\l'<=100/\n<=400000/\n'<=400000/\(q=[]->∀H',Same H H'->E (.ref (cA K "NoPart")) none H')/\(q≠ []->LdR K true p q Q H)
noncomputable def W3 (K:Frag):Sp:=fun vs H Q _=>∃(x y:V) (p q:List Int) (l l' n n':Nat),vs=[x,y]/\Po K H x p l n/\Po K H y q l' n'/\l<=100/\l'<=100/\n<=400000/\n'<=400000/\q≠ []/\LdR K true p q Q H
theorem Xu (K:Frag):∀I H Q E,W3 K I H Q E->Ui K I H Q E0:=by
 rintro I H Q E ⟨x,y,p,q,l,l',n,n',rfl,J,M,h1,h2,O,S,U,k⟩
 exact⟨x,y,p,q,l,l',n,n',rfl,J,M,h1,h2,O,S,fun z=>(U z).elim,fun _=>k⟩
theorem Adc {f:Addr}{fd:FuncData} (F:Df K mg "parted" Vi ["one","other"] f fd)   (z:Vy P w K mg base 34 "long_division" ["one","other","scaling"] (Hr K)):Vy P w K mg base 35 "parted" ["one","other"] (Ui K):=by
 refine F.calE (F.fn.okE Aeg (fun I H Q E h=> ?_) (fun J A outer s H I Q E M h=> ?_))
 . obtain⟨x,y,p,q,_,_,_,_,rfl,_⟩:=h
   rfl
 obtain⟨x,y,p,q,l,l',n,n',rfl,O,S,h1,h2,U,W,Y,k⟩:=h
 refine Ax ⟨_,(Ag (Aj (Ik z (M.mono (by decide)) (Aa (Ae 0) (Aa (Ae 1) (Aa Br Ab)))))),?_⟩
 done
 exact⟨x,y,true,p,q,l,l',n,n',rfl,O,S,h1,h2,U,W,Y,(fun h=>nomatch h),k⟩
noncomputable def md (p:List Int) (m:Int):List Int:=trim (p.map (· %m))
theorem Aal (p:List Int) (m:Int) (i:Nat):co (md p m) i=co p i%m:=by
 rw [md,Bl]
 by_cases h:i<p.length
 . rw [Ef (by simpa using h),Ef h,List.getElem_map]
 . rw [Ck (by simpa using h),Ck (by omega),zero_emod]
theorem Alv (p:List Int) (m:Int):Tr (md p m):=Bq _
theorem Ahk (p:List Int) (m:Int):(md p m).length<=p.length:=by
 have:=Hv (p.map (· %m))
 rw [length_map]at this
 exact this
theorem Ane {k:Nat}{m:Int} (z:0<m) (I:Sz k m) (x:Int):Sz k (x%m):=by
 have J:=emod_nonneg x (Int.ne_of_gt z)
 have h1:=emod_lt_of_pos x z
 generalize x%m=y at*
 exact I.of_abs (by omega)
noncomputable def Hz (K:Frag):Sp:=fun vs H Q _=>∃(x:V) (m:Int) (p:List Int) (l n k:Nat),vs=[x,.int m]/\Po K H x p l n/\l<=500/\0<m/\Sz k m/\∀z H',Same H H'->Po K H' z (md p m) l k->Q z H'
theorem Wg {f:Addr}{fd:FuncData} (F:Df K mg "by_number" Ke ["one","m"] f fd)   (c_poly:Cal P w K mg base 33 "poly" ["weights"] (Ls K)):Cal P w K mg base 34 "by_number" ["one","m"] (Hz K):=by
 refine F.cal (F.fn.ok Wu (fun U H Q E h=> ?_) (fun W A outer s H U Q E Y h=> ?_))
 . obtain⟨x,m,p,_,_,_,rfl,_⟩:=h
   rfl
 obtain⟨x,m,p,l,n,k,rfl,⟨⟨a,rfl,J⟩,tp,M,zp⟩,Z,O,hk,q⟩:=h
 refine Ax ⟨_,(Ag (Aj (Af c_poly Y (Aa (Ea (ts:=["weight"]) (fs:=[(1,"m")]) rfl (Dl.of (sc:=Av Ke) (N:=["one","m"]) rfl rfl (by decide+kernel)) (Gb (Ae 0)) (fun _ _ _=>(Aq 0 (show Nodup (["weight","m"]:List Str)by decide+kernel))) (fun _ _ _=>Dj) (fun _ _ _=>(Ah Dc (Ae 0) (Ae 1)))) Ab)))),?_⟩
 done
 refine⟨⟨_,J⟩,fun p1 I=>Gx (es:=p) (inj:=V.int) (fun e=> .int (e%m)) (le_trans (le_trans M Z) (by decide)) I (Ov J) ?_ ?_⟩
 . intro e H2 R he S hR
   done
   exact⟨O,hR _ (Same.refl _)⟩
 intro H2 S h2
 try done
 have em:p.map (fun e=>V.int (e%m))=(p.map (· %m)).map V.int:=by rw [map_map];rfl
 rw [em]at h2
 refine Aez (.of h2) (by rw [length_map];omega) fun z H3 s3 h3=>q _ _ (S.trans s3) ⟨⟨z,rfl,h3⟩,Bq _,le_trans (Ahk p m) M,fun i=> ?_⟩
 rw [Aal]
 exact Ane O hk _
theorem S8 {H H1:Hp}{Q:VK}{E:XK}{x:V}{m:Int}{p:List Int}{l n k:Nat} (I:Po K H1 x p l n) (J:Same H1 H) (M:l<=500) (O:0<m) (S:Sz k m) (h:∀z H',Same H H'->Po K H' z (md p m) l k->Q z H'):Hz K [x,.int m] H Q E:=⟨x,m,p,l,n,k,rfl,I.mono J,M,O,S,h⟩
theorem Acj (g l:Int):Int.gcd l (g-g/l*l)=Int.gcd g l:=by
 rw [Int.gcd_sub_mul_right_right,Int.gcd_comm]
noncomputable def Akp (m g l x y:Int):Prop:=∃A B:Nat,((x=(A:Nat)/\y= -((B:Nat):Int))\/(x= -((A:Nat):Int)/\y=(B:Nat)))/\(B:Int)*g+(A:Int)*l=m
theorem Akp.next {m g l x y:Int} (h:Akp m g l x y) (z:0<=g) (I:0<l):Akp m l (g-g/l*l) y (x-g/l*y):=by
 obtain⟨A,B,h,e⟩:=h
 have M:0<=g/l:=Int.ediv_nonneg z (Int.le_of_lt I)
 obtain⟨q,J⟩:∃q:Nat,g/l=q:=⟨(g/l).toNat,by omega⟩
 rw [J]
 refine⟨B,A+q*B,?_,?_⟩
 . rcases h with⟨rfl,rfl⟩ | ⟨rfl,rfl⟩
   . refine .inr ⟨rfl,?_⟩
     push_cast
     rw [mul_neg]
     omega
   . refine .inl ⟨rfl,?_⟩
     push_cast
     omega
 . push_cast
   rw [<-e]
   grind
theorem Akp.here {m g l x y:Int} (h:Akp m g l x y) (I:0<g) (z:0<=l):y.natAbs<=m.natAbs:=by
 obtain⟨A,B,h,e⟩:=h
 have h1:(B:Int)*1<=(B:Int)*g:=Int.mul_le_mul_of_nonneg_left (by omega) (by omega)
 have h2:(0:Int)<=(A:Int)*l:=Int.mul_nonneg (by omega) z
 rcases h with⟨_,rfl⟩ | ⟨_,rfl⟩<;>omega
noncomputable def Jt (K:Frag):Sp:=fun vs H Q E=>∃(a m:Int) (k:Nat),vs=[.int a,.int m]/\1<m/\Sz k m/\k<=8000/\(Int.gcd a m≠1->E (.ref (cA K "NoPart")) none H)/\(Int.gcd a m=1->∀r,0<=r->r<m->r*a%m=1->Q (.int r) H)
noncomputable def Om (K:Frag):Sp:=fun vs H Q _=>∃(a m:Int) (k:Nat),vs=[.int a,.int m]/\1<m/\Sz k m/\k<=8000/\Int.gcd a m=1/\(∀r,0<=r->r<m->r*a%m=1->Q (.int r) H)
theorem Rp (K:Frag):∀z H Q E,Om K z H Q E->Jt K z H Q E0:=by
 rintro z H Q E ⟨a,m,k,rfl,I,J,M,O,c⟩
 exact⟨a,m,k,rfl,I,J,M,fun h=>(h O).elim,fun _=>c⟩
theorem U7 {f:Addr}{fd:FuncData} (F:Df K mg "inverse_by" Lk ["number","m"] f fd)  (z:Abo K (cA K "NoPart")) (I:mg "NoPart"=some (.ref (cA K "NoPart")))  :Vy P w K mg base 33 "inverse_by" ["number","m"] (Jt K):=by
 refine F.calE (F.fn.okE Fb (fun vs H Q E h=> ?_) (fun a0 A outer s H vs Q E hr h=> ?_))
 . obtain⟨a,m,k,rfl,_⟩:=h
   rfl
 obtain⟨a,m,k,rfl,hm,O,h8,kE,kQ⟩:=h
 refine Ax ⟨_,(Ad (Ak 2 Fb.nd (Ae 1))
  (Ad (Ak 3 Fb.nd (Ah Dc (Ae 0) (Ae 1)))
  (Ad (Ak 4 Fb.nd Ac)
  (Ad (Ak 5 Fb.nd Ac)
  (Ad (Ra (Fq PassesOwn.never (Am Lf (Ae 3) Ac (Bb _)) (Ad (Ak 6 Fb.nd (Ah Cw (Ae 2) (Ae 3)))
  (Ad (Im (i:=2) (j:=3) rfl Fb.nd rfl rfl (by decide) rfl rfl (Aa (Ae 3) (Aa (Ah Em (Ae 2) (Ah Cr (Ae 6) (Ae 3))) Ab)) rfl)
  (Ag (Im (i:=4) (j:=5) rfl Fb.nd rfl rfl (by decide) rfl rfl (Aa (Ae 5) (Aa (Ah Em (Ae 4) (Ah Cr (Ae 6) (Ae 5))) Ab)) rfl))))))
  (Ad (Ay (Am Lf (Ae 2) Ac (Bb _)) (Ag (J8 z I (Aa K5 Ab))) Ar)
  (Ag (Aj (Ah Dc (Ae 4) (Ae 1)))))))))),?_⟩
 done
 have m0:=emod_nonneg a (by omega:m≠0)
 have m1:=emod_lt_of_pos a (by omega:0<m)
 refine⟨by omega,?_⟩
 refine Ou (fun σ H'=>H'=H/\∃(g l x y:Int) (o:Option V),σ=[some (.int a),some (.int m),some (.int g),some (.int l),some (.int x),some (.int y),o]/\0<g/\g<=m/\0<=l/\l<=m/\Int.gcd g l=Int.gcd a m/\m∣x*a-g/\m∣y*a-l/\Akp m g l x y)
  (fun σ _=>match σ with | [_,_,_,some (.int l),_,_,_]=>l.toNat | _=>0) ⟨rfl,m,a%m,0,1,_,rfl,by omega,Int.le_refl _,m0,by omega,?_,⟨-1,by omega⟩,⟨a/m,?_⟩,⟨0,1,.inr ⟨rfl,rfl⟩,by simp⟩⟩ ?_
 . have e:a%m=a-a/m*m:=by
    have:=mul_ediv_add_emod a m
    rw [Int.mul_comm]at this
    omega
   rw [e]
   exact Acj a m
 . have:=mul_ediv_add_emod a m
   omega
 rintro σ H' ⟨rfl,g,l,x,y,o,rfl,g0,gm,l0,lm,S,U,W,Y⟩
 done
 by_cases J:l=0
 . rw [if_pos J]
   subst J
   have eg:((Int.gcd a m:Nat):Int)=g:=by
    rw [<-S,Int.gcd_zero_right]
    omega
   try done
   by_cases h1:g=1
   . rw [if_pos h1]
     subst h1
     try done
     refine⟨by omega,kQ (by omega) _ (emod_nonneg _ (by omega)) (emod_lt_of_pos _ (by omega)) ?_⟩
     obtain⟨c,hc⟩:=U
     have e:x%m*a=1+m*(c-x/m*a):=by
      have:=mul_ediv_add_emod x m
      have e2:x%m=x-m*(x/m):=by omega
      rw [e2]
      grind
     rw [e,Int.add_mul_emod_self_left]
     exact Int.emod_eq_of_lt (by decide) hm
   . rw [if_neg h1]
     try done
     exact kE (by omega)
 . rw [if_neg J]
   refine Agw ?_
   try done
   have M:0<l:=by omega
   have q0:0<=g/l:=Int.ediv_nonneg (by omega) l0
   have q1:g/l<=g:=Int.ediv_le_self _ (by omega)
   have Z:Sz k l:=O.of_abs (by omega)
   have zq:Sz k (g/l):=O.of_abs (by omega)
   have zy:Sz k y:=O.of_abs (Y.here g0 l0)
   have e1:g-g/l*l=g%l:=by
    have:=mul_ediv_add_emod g l
    rw [Int.mul_comm]at this
    omega
   have r0:=emod_nonneg g J
   have r1:=emod_lt_of_pos g M
   refine⟨⟨M,Z.log2 J (by omega)⟩,zq.mulOk Z (by omega),zq.mulOk zy (by omega),⟨_,_,_,_,_,rfl,M,lm,by omega,by omega,(Acj g l).trans S,W,?_,Y.next (by omega) M⟩,by omega⟩
   obtain⟨c,hc⟩:=U
   obtain⟨d,hd⟩:=W
   refine⟨c-g/l*d,?_⟩
   have ex:x*a=m*c+g:=by omega
   have ey:y*a=m*d+l:=by omega
   rw [Int.sub_mul,Int.mul_assoc,ex,ey]
   grind
noncomputable def MpR (K:Frag) (m:Int) (p q:List Int) (k:Nat) (Q:VK) (H:Hp):Prop:=∀(z:Addr) (H':Hp) (c d:V) (u r:List Int),Same H H'->SqT K H' z [c,d]->Po K H' c u p.length k->Po K H' d r p.length k->
 (∀i,m∣co p i-(mu u (co q) i+co r i))->r.length<q.length->(∀i,0<=co u i/\co u i<m)->(∀i,0<=co r i/\co r i<m)->Q (.ref z) H'
noncomputable def Qf (K:Frag):Sp:=fun vs H Q E=>∃(x y:V) (m:Int) (p q:List Int) (l l' n n' k:Nat),vs=[x,y,.int m]/\Po K H x p l n/\Po K H y q l' n'/\l<=100/\l'<=100/\n'<=100000/\1<m/\Sz k m/\k<=8000/\(q=[]\/Int.gcd (co q (q.length-1)) m≠1->∀H',Same H H'->E (.ref (cA K "NoPart")) none H')/\(q≠ []->Int.gcd (co q (q.length-1)) m=1->MpR K m p q k Q H)
noncomputable def Ss (K:Frag):Sp:=fun vs H Q _=>∃(x y:V) (m:Int) (p q:List Int) (l l' n n' k:Nat),vs=[x,y,.int m]/\Po K H x p l n/\Po K H y q l' n'/\l<=100/\l'<=100/\n'<=100000/\1<m/\Sz k m/\k<=8000/\q≠ []/\Int.gcd (co q (q.length-1)) m=1/\MpR K m p q k Q H
theorem U0 (K:Frag):∀I H Q E,Ss K I H Q E->Qf K I H Q E0:=by
 rintro I H Q E ⟨x,y,m,p,q,l,l',n,n',k,rfl,J,M,h1,h2,O,S,U,Y,Z,hg,c⟩
 exact⟨x,y,m,p,q,l,l',n,n',k,rfl,J,M,h1,h2,O,S,U,Y,fun z=>by
  rcases z with z | z
  . exact(Z z).elim
  . exact(z hg).elim,fun _ _=>c⟩
theorem Xz {f:Addr}{fd:FuncData} (F:Df K mg "m_parted" O8 ["one","other","m"] f fd) (z_list:mg "list"=none) (a4:mg "range"=none) (ab:mg "max"=none) (z_len:mg "len"=none) (z_enumerate:mg "enumerate"=none) (a0:Abo K (cA K "NoPart")) (a1:mg "NoPart"=some (.ref (cA K "NoPart"))) (S:Vy P w K mg base 33 "inverse_by" ["number","m"] (Jt K)) (Z:Cal P w K mg base 34 "by_number" ["one","m"] (Hz K)) (c_poly:Cal P w K mg base 33 "poly" ["weights"] (Ls K)) (c_degree:Cal P w K mg base 33 "degree" ["one"] (Gh K)):Vy P w K mg base 35 "m_parted" ["one","other","m"] (Qf K):=by
 refine F.calE (F.fn.okE Gf (fun vs H Q E h=> ?_) (fun ax A outer s H vs Q E hr h=> ?_))
 . obtain⟨x,y,m,p,q,_,_,_,_,_,rfl,_⟩:=h
   rfl
 obtain⟨x,y,m,p,q,l,l',n,n',k,rfl,hx,hy,ay,av,az,hm,hk,h8,k0,kq⟩:=h
 have my:=hy.mem
 obtain⟨⟨a,rfl,ha⟩,tp,lp,zp⟩:=id hx
 obtain⟨⟨b,rfl,hb⟩,tq,lq,zq⟩:=id hy
 refine Ax ⟨_,(Ad (Ay (Am (Fl hr.units) (Ae 1) (Al Ab) (Bb _)) (Ag (J8 a0 a1 (Aa K5 Ab))) Ar)
  (Ad (Ak 3 Gf.nd (Ik S (hr.mono (by decide)) (Aa (Aw Bx (Ae 1) (Bd Ce Ac) (fun _ _=>rfl)) (Aa (Ae 2) Ab))))
  (Ad (Ak 4 Gf.nd (Ed Fp rfl z_list boot_list (Aa (Af Z hr (Aa (Ae 0) (Aa (Ae 2) Ab))) Ab)))
  (Ad (Ak 5 Gf.nd (Ah Uc (Cd (Aa Ac Ab)) (Ba (Rh rfl) rfl ab boot_max (Aa (Ah Eh (Ah Em (Ba Az rfl z_len PySem.boot_len (Aa (Ae 4) Ab)) (Ba Az rfl z_len PySem.boot_len (Aa (Ae 1) Ab))) Ac) (Aa Ac Ab)))))
  (Ad (Ra (Dp PassesOwn.never rfl (Ox rfl a4 (Aa (Ah Em (Ba Az rfl z_len PySem.boot_len (Aa (Ae 5) Ab)) Ac) (Aa (Bd Ce Ac) (Aa (Bd Ce Ac) Ab)))) (Aq 6 Gf.nd) (Ad (Ak 7 Gf.nd (Ah Dc (Ah Cr (Aw Ec (Ae 4) (Ah Eh (Ae 6) (Af c_degree hr (Aa (Ae 1) Ab))) (fun _ _=>rfl)) (Ae 3)) (Ae 2)))
  (Ad (Cy (Ae 7) (Hw (Ae 5) (Ae 6) set_list))
  (Ag (Ay (Am Lf (Ae 7) Ac (Bb _)) (Ag (Dp PassesOwn.never rfl (J7 rfl z_enumerate (Aa (Ae 1) Ab)) (Dn rfl (Ai (Aq 8 Gf.nd) (Ai (Aq 9 Gf.nd) Ci))) (Ag (Cy (Ah Dc (Ah Em (Aw Ec (Ae 4) (Ah Eh (Ae 6) (Ae 8)) (fun _ _=>rfl)) (Ah Cr (Ae 7) (Ae 9))) (Ae 2)) (Hw (Ae 4) (Ah Eh (Ae 6) (Ae 8)) set_list))))) Ar))))))
  (Ag (Aj (Al (Aa (Af c_poly hr (Aa (Ae 5) Ab)) (Aa (Af c_poly hr (Aa (Ae 4) Ab)) Ab)))))))))),?_⟩
 refine Bp (fun I H'=>Same H H'/\q≠ []/\I=[some (.ref a),some (.ref b),some (.int m),none,none,none,none,none,none,none]) (fun N hN=> ?_) ?_
 . done
   refine⟨by decide,fun e0 ap=> ?_⟩
   have se:=Same.upd ap (.tup [])
   refine Bu (ms:=[]) (se.tup hb) (.of Ao) ?_
   try done
   split
   . rename_i h
     exact k0 (.inl h) _ se
   . rename_i h
     exact hN _ _ ⟨se,h,rfl⟩
 rintro σ H1 ⟨s1,hq,rfl⟩
 have b0:0<q.length:=length_pos_iff.mpr hq
 have b1:1000<=sizeLine:=by decide
 refine Bp (fun I H'=>H'=H1/\Int.gcd (co q (q.length-1)) m=1/\∃iv:Int,I=[some (.ref a),some (.ref b),some (.int m),some (.int iv),none,none,none,none,none,none]/\0<=iv/\iv<m/\iv*co q (q.length-1)%m=1) (fun N hN=> ?_) ?_
 . done
   refine En (s1.tup hb) (Ia hq) ?_
   try done
   exact⟨_,m,k,rfl,hm,hk,h8,fun hg=>k0 (.inr hg) _ s1,fun hg r r0 r1 hr=>hN _ _ ⟨rfl,hg,r,rfl,r0,r1,hr⟩⟩
 rintro σ H2 ⟨rfl,hg,iv,rfl,b2,b3,ag⟩
 replace kq:=kq hq hg
 refine Bp (fun I H'=>Same H H'/\∃O,I=[some (.ref a),some (.ref b),some (.int m),some (.int iv),some (.ref O),none,none,none,none,none]/\H O=none/\H' O=some (.lst ((md p m).map V.int))) (fun N hN=> ?_) ?_
 . done
   refine S8 hx s1 (by omega) (by omega) hk fun z H3 s3 i3=> ?_
   obtain⟨⟨c,rfl,hc⟩,_⟩:=i3
   try done
   exact⟨c,_,rfl,.inr hc,fun O J=>hN _ _ ⟨(s1.trans s3).trans (Same.upd J _),O,rfl,Same.free (s1.trans s3) J,Ao⟩⟩
 rintro σ H3 ⟨s3,O,rfl,nr,J⟩
 obtain⟨L,hL⟩:∃L,L=(md p m).length+1-q.length:=⟨_,rfl⟩
 have b4:=Ahk p m
 have eL:(if(0:Int)>((md p m).length:Int)-(q.length:Int)+1 then(0:Int)else((md p m).length:Int)-(q.length:Int)+1)=(L:Int):=by
  subst hL
  split<;>omega
 refine Bp (fun I H'=>Same H H'/\∃W,I=[some (.ref a),some (.ref b),some (.int m),some (.int iv),some (.ref O),some (.ref W),none,none,none,none]/\H W=none/\W≠O/\H' W=some (.lst ((replicate L (0:Int)).map V.int))/\H' O=some (.lst ((md p m).map V.int))) (fun N hN=> ?_) ?_
 . done
   intro p3 aq
   have t3:=Same.upd aq (.lst [V.int 0])
   have u3:=s3.trans t3
   refine⟨O,_,rfl,.inl (.of (t3 _ _ J)),b,_,rfl,.inr (u3.tup hb),?_⟩
   repeat (first | done | simp only [length_map,eL])
   refine⟨p3,_,[V.int 0],rfl,rfl,Ao,by omega,by omega,by simp only [toNat_natCast,length_cons,length_nil];omega,fun W M=> ?_⟩
   rw [toNat_natCast,Io]
   have t4:=t3.trans (Same.upd M (.lst ((replicate L (0:Int)).map V.int)))
   exact hN _ _ ⟨s3.trans t4,W,rfl,Same.free u3 M,Ne.symm (Dk (t3 _ _ J) M),Ao,t4 _ _ J⟩
 clear J s3
 rintro σ H4 ⟨s4,W,rfl,nq,ne,M,J⟩
 have a2:0<m:=by omega
 refine Bp (fun I H'=>Same H H'/\∃(Y rs:List Int) (o6 o7 o8 o9:Option V),I=[some (.ref a),some (.ref b),some (.int m),some (.int iv),some (.ref O),some (.ref W),o6,o7,o8,o9]/\H' W=some (.lst (Y.map V.int))/\H' O=some (.lst (rs.map V.int))/\Y.length=L/\rs.length=(md p m).length/\MV m p q Y rs 0) (fun N hN=> ?_) ?_
 . rw [Agy]
   done
   refine⟨W,_,rfl,.inl (.of M),?_⟩
   try done
   rw [length_map,length_replicate]
   refine⟨by omega,?_⟩
   refine Akr L (fun i=> .int ((L:Int)-1-(i:Nat))) (fun i I H'=>Same H H'/\∃(Y rs:List Int) (o6 o7 o8 o9:Option V),I=[some (.ref a),some (.ref b),some (.int m),some (.int iv),some (.ref O),some (.ref W),o6,o7,o8,o9]/\H' W=some (.lst (Y.map V.int))/\H' O=some (.lst (rs.map V.int))/\Y.length=L/\rs.length=(md p m).length/\MV m p q Y rs (L-i)) ?_ ?_ ?_ ?_
   . refine⟨s4,_,_,_,_,_,_,rfl,M,J,length_replicate,rfl,?_⟩
     rw [hL,sub_zero]
     refine MV.start a2 hq (fun t=> ?_) fun t=> ?_
     . rw [Aal]
       exact⟨co p t/m,by have:=mul_ediv_add_emod (co p t) m;omega⟩
     . rw [Aal]
       exact⟨emod_nonneg _ (by omega),emod_lt_of_pos _ a2⟩
   . intro i I H' _
     have e:((L:Int)-1- -1).toNat=L:=by omega
     rw [e]
     exact Td
   . clear M J s4
     rintro i I H5 hi ⟨s5,Y,rs,o6,o7,o8,o9,rfl,M,J,a7,ac,dv⟩
     obtain⟨j,hj⟩:∃j:Nat,j+1=L-i:=⟨L-i-1,by omega⟩
     have pj:(L:Int)-1-(i:Nat)=(j:Int):=by omega
     rw [<-hj]at dv
     rw [Vx,pj]
     simp only [set_cons_succ,set_cons_zero]
     obtain⟨d,hd⟩:∃d,d+1=q.length:=⟨q.length-1,by omega⟩
     have ah:q.length-1=d:=by omega
     have ai:j+d<rs.length:=by omega
     have aj:j<Y.length:=by omega
     have ix:(j:Int)+((q.length:Int)-1)=((j+d:Nat):Int):=by omega
     have er:rs[j+d]=co rs (j+d):=(Ef ai).symm
     rw [ah]at ag
     have zr:Sz k (co rs (j+d)):=hk.of_abs (by have:=dv.rr (j+d);omega)
     have ar:Sz k iv:=hk.of_abs (by omega)
     obtain⟨fc,a8⟩:∃fc,fc=co rs (j+d)*iv%m:=⟨_,rfl⟩
     have f0:0<=fc:=by rw [a8];exact emod_nonneg _ (by omega)
     have f1:fc<m:=by rw [a8];exact emod_lt_of_pos _ a2
     have zf:Sz k fc:=hk.of_abs (by omega)
     have ef:m∣co rs (j+d)-fc*co q d:=by rw [a8];exact Afq ag hm
     refine Bp (fun I H'=>H'=H5/\I=[some (.ref a),some (.ref b),some (.int m),some (.int iv),some (.ref O),some (.ref W),some (.int j),some (.int fc),o8,o9]) (fun N hN=> ?_) ?_
     . done
       refine Fg hy s5 ?_
       repeat (first | done | simp only [ix])
       refine Mh (.of J) (Ft ai) ?_
       try done
       rw [er,<-a8]
       exact⟨zr.mulOk ar (by omega),a2,hN _ _ ⟨rfl,rfl⟩⟩
     rintro I H6 ⟨rfl,rfl⟩
     refine Bp (fun I H'=>Same H H'/\I=[some (.ref a),some (.ref b),some (.int m),some (.int iv),some (.ref O),some (.ref W),some (.int j),some (.int fc),o8,o9]/\H' W=some (.lst ((Y.set j fc).map V.int))/\H' O=some (.lst (rs.map V.int))) (fun N hN=> ?_) ?_
     . done
       refine Wc M (by rw [length_map];exact aj) ?_
       rw [Jh]
       exact hN _ _ ⟨s5.put nq,rfl,Ao,by rw [Cu (Ne.symm ne)];exact J⟩
     clear M J s5
     rintro I H8 ⟨s5,rfl,M,J⟩
     have ak:∀(a5:List Int) (o8 o9:Option V) (H9:Hp),Same H H9->H9 W=some (.lst ((Y.set j fc).map V.int))->H9 O=some (.lst (a5.map V.int))->a5.length=rs.length->(∀k,co a5 k=(co rs k-(if j<=k then fc*co q (k-j)else 0))%m)->
      Same H H9/\∃(ad a6:List Int) (u6 u7 u8 u9:Option V),[some (V.ref a),some (.ref b),some (.int m),some (.int iv),some (.ref O),some (.ref W),some (.int j),some (.int fc),o8,o9]=[some (.ref a),some (.ref b),some (.int m),some (.int iv),some (.ref O),some (.ref W),u6,u7,u8,u9]/\H9 W=some (.lst (ad.map V.int))/\H9 O=some (.lst (a6.map V.int))/\ad.length=L/\a6.length=(md p m).length/\MV m p q ad a6 (L-(i+1)):=by
      intro a5 o8 o9 H9 s9 h1 h2 b5 a3
      refine⟨s9,_,a5,_,_,_,_,rfl,h1,h2,by rw [length_set];exact a7,by omega,?_⟩
      rw [show L-(i+1)=j by omega]
      exact dv.step a2 hq aj f0 f1 (by rw [ah];exact ef) a3
     done
     split
     . rename_i h0
       refine ak rs _ _ _ s5 M J rfl fun t=> ?_
       rw [h0]
       have:=dv.rr t
       rw [show(if j<=t then 0*co q (t-j)else 0)=0 by split<;>simp,Int.sub_zero,Int.emod_eq_of_lt this.1 this.2]
     . refine⟨⟨_,s5.tup hb⟩,Aah (es:=q) (inj:=V.int) (fun U I H'=>Same H H'/\∃(u8 u9:Option V) (ms:List Int),I=[some (.ref a),some (.ref b),some (.int m),some (.int iv),some (.ref O),some (.ref W),some (.int j),some (.int fc),u8,u9]/\H' W=some (.lst ((Y.set j fc).map V.int))/\H' O=some (.lst (ms.map V.int))/\ms.length=rs.length/\∀t,co ms t=(co rs t-(if j<=t then fc*co U (t-j)else 0))%m) ⟨s5,_,_,rs,rfl,M,J,rfl,fun t=> ?_⟩ ?_ ?_ ?_⟩
       . have:=dv.rr t
         rw [Bv,show(if j<=t then fc*0 else 0)=0 by split<;>simp,Int.sub_zero,Int.emod_eq_of_lt this.1 this.2]
       . rintro U I H' ⟨s9,_⟩
         exact s9.tup hb
       . rintro U e aw I H9 p1 he ⟨s9,u8,u9,ms,rfl,h1,h2,ae,a3⟩ as
         refine Nz (.of Ao) ?_
         have am:=congrArg List.length he
         rw [length_append,length_cons]at am
         have a9:j+U.length<ms.length:=by omega
         have af:=Same.upd as (.tup [V.int (U.length:Nat),V.int e])
         have au:=af _ _ h1
         have an:=af _ _ h2
         have ze:Sz n' e:=my e (by rw [he];simp)
         repeat (first | done | simp only [<-natCast_add])
         refine Mh (.of an) (Ft a9) ?_
         try done
         refine⟨zf.mulOk ze (by omega),a2,?_⟩
         refine Wc an (by rw [length_map];exact a9) ?_
         try done
         rw [Jh]
         refine⟨(s9.trans af).put nr,_,_,ms.set (j+U.length) ((ms[j+U.length]-fc*e)%m),rfl,by rw [Cu ne];exact au,Ao,by rw [length_set];exact ae,fun t=> ?_⟩
         rw [P0 _ _ _ a9,Gp,a3 t]
         by_cases ht:t=j+U.length
         . subst ht
           rw [if_pos rfl,if_pos (by omega),if_pos (by omega),<-Ef a9,a3,if_pos (by omega),show j+U.length-j=U.length by omega,Ck (p:=U) (le_refl _),Int.mul_zero,Int.sub_zero,Int.emod_sub_emod]
         . rw [if_neg ht]
           by_cases aa:j<=t
           . rw [if_pos aa,if_pos aa,if_neg (by omega)]
           . rw [if_neg aa,if_neg aa]
       . rintro I H9 ⟨s9,u8,u9,ms,rfl,h1,h2,ae,a3⟩
         exact ak ms u8 u9 H9 s9 h1 h2 ae a3
   . rintro I H5 ⟨s5,Y,rs,o6,o7,o8,o9,rfl,M,J,a7,ac,dv⟩
     rw [sub_self]at dv
     exact hN _ _ ⟨s5,Y,rs,o6,o7,o8,o9,rfl,M,J,a7,ac,dv⟩
 rintro σ H5 ⟨s5,Y,rs,o6,o7,o8,o9,rfl,M,J,a7,ac,dv⟩
 done
 refine⟨W,Y,rfl,.inl (.of M),by omega,fun z1 H6 s6 h6=> ?_⟩
 try done
 refine⟨O,rs,rfl,.inl (.of (s6 _ _ J)),by omega,fun z2 H7 s7 h7=> ?_⟩
 try done
 intro z hz
 have s8:=Same.upd hz (.tup [V.ref z1,V.ref z2])
 have ao:∀(x:List Int),(∀t,0<=co x t/\co x t<m)->∀t,Sz k (co (trim x) t):=fun x hx t=>by
  rw [Bl]
  exact hk.of_abs (by have:=hx t;omega)
 have t1:=Hv Y
 have t2:=Hv rs
 refine kq z _ (.ref z1) (.ref z2) (trim Y) (trim rs) (((s5.trans s6).trans s7).trans s8) (.of Ao) ⟨⟨z1,rfl,s8.tup (s7.tup h6)⟩,Bq _,by omega,ao Y dv.rq⟩ ⟨⟨z2,rfl,s8.tup h7⟩,Bq _,by omega,ao rs dv.rr⟩ (fun t=> ?_) ?_ (fun t=>by rw [Bl];exact dv.rq t) (fun t=>by rw [Bl];exact dv.rr t)
 . rw [Cm (co q) (trim Y) Y fun i=>Bl Y i,Bl]
   exact dv.eq t
 . have:(trim rs).length<=q.length-1:=by
    have h:=(Bq rs).len (q:=rs.take (q.length-1)) fun t=>by
     rw [Bl,Jo]
     split
     . rfl
     . exact dv.top t (by omega)
    rw [length_take]at h
    omega
   omega
noncomputable def W2 (K:Frag):Sp:=fun vs H Q _=>∃(x y:V) (m:Int) (p q:List Int) (l l' n n' k:Nat),vs=[x,y,.int m]/\Po K H x p l n/\Po K H y q l' n'/\l<=100/\l'<=100/\n'<=100000/\1<m/\Sz k m/\k<=8000/\q≠ []/\Int.gcd (co q (q.length-1)) m=1/\∀(d:V) (H':Hp) (u r:List Int),Same H H'->Po K H' d r p.length k->(∀i,m∣co p i-(mu u (co q) i+co r i))->r.length<q.length->(∀i,0<=co r i/\co r i<m)->Q d H'
theorem Ada {f:Addr}{fd:FuncData} (F:Df K mg "m_rest" Vh ["one","other","m"] f fd)   (I:Cal P w K mg base 35 "m_parted" ["one","other","m"] (Ss K)):Cal P w K mg base 36 "m_rest" ["one","other","m"] (W2 K):=by
 refine F.cal (F.fn.ok Aef (fun J H Q E h=> ?_) (fun M A outer s H J Q E O h=> ?_))
 . obtain⟨x,y,m,p,q,_,_,_,_,_,rfl,_⟩:=h
   rfl
 obtain⟨x,y,m,p,q,l,l',n,n',k,rfl,S,U,h1,h2,W,Y,Z,h8,hq,hg,c⟩:=h
 refine Ax ⟨_,(Ag (Aj (Aw Bx (Af I O (Aa (Ae 0) (Aa (Ae 1) (Aa (Ae 2) Ab)))) Ac (fun _ _=>rfl)))),?_⟩
 done
 refine⟨x,y,m,p,q,l,l',n,n',k,rfl,S,U,h1,h2,W,Y,Z,h8,hq,hg,fun z H' a b u r s1 hz iu ir he hl ru rr=> ?_⟩
 exact En hz (at1 _ _ _) (c b H' u r s1 ir he hl rr)
theorem Aci {t x:Int} (I:Pr t) (J:0<=x) (h1:x<t) (M:x≠0):Int.gcd x t=1:=I.2 x fun z=>by
 have:=le_of_dvd (by omega) z
 omega
theorem Ab7 (t:Int) (p:List Int) (d:List Int):Dm t d (md p t)↔Dm t d p:=by
 have e:∀i,t∣co (md p t) i-co p i:=fun i=>by
  rw [Aal]
  exact⟨-(co p i/t),by have:=mul_ediv_add_emod (co p i) t;rw [mul_neg];omega⟩
 exact⟨fun h=>h.congr fun i=>Uu (e i),fun h=>h.congr e⟩
theorem Ac0 {t:Int} (z:0<t) (p:List Int) (i:Nat):0<=co (md p t) i/\co (md p t) i<t:=by
 rw [Aal]
 exact⟨emod_nonneg _ (by omega),emod_lt_of_pos _ z⟩
structure Sgl (t:Int) (p g:List Int):Prop where
 tr:Tr g
 rng:∀i,0<=co g i/\co g i<t
 dm:∀d,Dm t d g↔Dm t d p
 len:g.length=(md p t).length
 one:g≠ []->co g (g.length-1)=1
theorem Aj6 {t:Int} (I:0<t) {p:List Int} (h:md p t=[]):Sgl t p []:=⟨.inl rfl,fun i=>by rw [Bv];omega,fun d=>by rw [<-Ab7 t p d,h],by rw [h],fun z=>(z rfl).elim⟩
theorem Am5 {t k:Int} (O:Pr t) {p:List Int} (h:md p t≠ []) (J:k*co (md p t) ((md p t).length-1)%t=1):Sgl t p (md (ng (md p t) k) t):=by
 have S:0<t:=by have:=O.1;omega
 have c:∀i,co (md (ng (md p t) k) t) i=co (md p t) i*k%t:=fun i=>by rw [Aal,Jp]
 have Z:=length_pos_iff.mpr h
 have top:co (md (ng (md p t) k) t) ((md p t).length-1)=1:=by rw [c,Int.mul_comm];exact J
 have len:(md (ng (md p t) k) t).length=(md p t).length:=by
  refine le_antisymm ?_ ?_
  . refine le_of_not_lt fun z=> ?_
    have U:md (ng (md p t) k) t≠ []:=fun y=>by rw [y]at z;exact absurd z (by simp)
    have:=(Alv (ng (md p t) k) t).lead U
    rw [c,Ck (by omega)]at this
    simp at this
  . refine le_of_not_lt fun z=> ?_
    rw [Ck (by omega)]at top
    cases top
 refine⟨Alv _ _,Ac0 S _,fun d=> ?_,len,fun _=>by rw [len];exact top⟩
 constructor
 . intro I
   rw [<-Ab7 t p d]
   refine I.by (k:=co (md p t) ((md p t).length-1)) fun i=> ?_
   rw [c]
   have e1:=mul_ediv_add_emod (co (md p t) i*k) t
   have M:=mul_ediv_add_emod (k*co (md p t) ((md p t).length-1)) t
   rw [J]at M
   generalize co (md p t) ((md p t).length-1)=l at*
   generalize co (md p t) i=x at*
   refine⟨l*(x*k/t)-x*(k*l/t),?_⟩
   have W:x*k%t=x*k-t*(x*k/t):=by omega
   rw [W]
   have Y:l*(x*k)=x*(t*(k*l/t)+1):=by rw [M];grind
   have:l*(x*k-t*(x*k/t))=l*(x*k)-t*(l*(x*k/t)):=by grind
   rw [this,Y]
   grind
 . intro I
   rw [<-Ab7 t p d]at I
   refine I.by (k:=k) fun i=> ?_
   rw [c,Int.mul_comm]
   exact⟨-(k*co (md p t) i/t),by have:=mul_ediv_add_emod (k*co (md p t) i) t;rw [mul_neg];omega⟩
noncomputable def W6 (K:Frag):Sp:=fun vs H Q _=>∃(x:V) (t:Int) (p:List Int) (l n k:Nat),vs=[x,.int t]/\Po K H x p l n/\l<=100/\Pr t/\Sz k t/\k<=8000/\∀(d:V) (H':Hp) (g:List Int),Same H H'->Po K H' d g l k->Sgl t p g->Q d H'
theorem Adk {f:Addr}{fd:FuncData} (F:Df K mg "single" Vn ["one","t"] f fd)   (I:Cal P w K mg base 34 "by_number" ["one","m"] (Hz K)) (M:Cal P w K mg base 33 "scaled" ["one","factor"] (Iw K)) (J:Cal P w K mg base 33 "inverse_by" ["number","m"] (Om K)):Cal P w K mg base 35 "single" ["one","t"] (W6 K):=by
 refine F.cal (F.fn.ok Wy (fun vs H Q E h=> ?_) (fun a3 A outer s H vs Q E O h=> ?_))
 . obtain⟨x,t,p,_,_,_,rfl,_⟩:=h
   rfl
 obtain⟨x,t,p,l,n,k,rfl,hx,hl,W,S,h8,c⟩:=h
 have Y:0<t:=by have:=W.1;omega
 refine Ax ⟨_,(Ad (Ak 2 Wy.nd (Af I O (Aa (Ae 0) (Aa (Ae 1) Ab))))
  (Ad (Ay (Am (Fl O.units) (Ae 2) (Al Ab) (Bb _)) (Ag (Aj (Al Ab))) Ar)
  (Ag (Aj (Af I O (Aa (Af M O (Aa (Ae 2) (Aa (Af J O (Aa (Aw Bx (Ae 2) (Bd Ce Ac) (fun _ _=>rfl)) (Aa (Ae 1) Ab))) Ab))) (Aa (Ae 1) Ab))))))),?_⟩
 done
 refine S8 hx (Same.refl _) (by omega) Y S fun z H1 s1 i1=> ?_
 try done
 refine⟨by decide,fun e0 Z=> ?_⟩
 have U:=Same.upd Z (.tup [])
 obtain⟨⟨a,rfl,ha⟩,a0,lm,zm⟩:=id i1
 refine Bu (ms:=[]) (U.tup ha) (.of Ao) ?_
 try done
 split
 . rename_i h
   refine⟨by decide,fun e1 a1=> ?_⟩
   exact c _ _ [] ((s1.trans U).trans (Same.upd a1 _)) ⟨⟨e1,rfl,.of Ao⟩,.inl rfl,zero_le _,fun i=>by rw [Bv];exact S.of_abs (by simp)⟩ (Aj6 Y h)
 . rename_i h
   refine En (U.tup ha) (Ia h) ?_
   try done
   have r:=Ac0 Y p ((md p t).length-1)
   refine⟨_,t,k,rfl,W.1,S,h8,Aci W r.1 r.2 (a0.lead h),fun iv a4 a5 a2=> ?_⟩
   try done
   refine⟨_,iv,_,l,k,k,rfl,i1.mono U,S.of_abs (by omega),by omega,by omega,fun w H2 s2 i2=> ?_⟩
   try done
   exact S8 i2 (Same.refl _) (by omega) Y S fun v H3 s3 i3=>c v H3 _ (((s1.trans U).trans s2).trans s3) i3 (Am5 W h a2)
noncomputable def Sv (K:Frag):Sp:=fun vs H Q _=>∃(x y:V) (t:Int) (p q:List Int) (l l' n n' k:Nat),vs=[x,y,.int t]/\Po K H x p l n/\Po K H y q l' n'/\l<=100/\l'<=100/\Pr t/\Sz k t/\k<=8000/\∀(d:V) (H':Hp) (f g:List Int),Same H H'->Po K H' d g (max l l') k->Sgl t f g->Aig t f [] p q->Q d H'
theorem X3 {f:Addr}{fd:FuncData} (F:Df K mg "m_shared" O9 ["one","other","t"] f fd)   (z:Cal P w K mg base 34 "by_number" ["one","m"] (Hz K)) (I:Cal P w K mg base 35 "single" ["one","t"] (W6 K)) (J:Cal P w K mg base 36 "m_rest" ["one","other","m"] (W2 K)):Cal P w K mg base 37 "m_shared" ["one","other","t"] (Sv K):=by
 refine F.cal (F.fn.ok Kl (fun vs H Q E h=> ?_) (fun a1 A outer s H vs Q E O h=> ?_))
 . obtain⟨x,y,t,p,q,_,_,_,_,_,rfl,_⟩:=h
   rfl
 obtain⟨x,y,t,p,q,l,l',n,n',k,rfl,hx,hy,hl,a2,Y,Z,h8,c⟩:=h
 have t0:0<t:=by have:=Y.1;omega
 refine Ax ⟨_,(Ad (Ak 3 Kl.nd (Af z O (Aa (Ae 0) (Aa (Ae 2) Ab))))
  (Ad (Ak 4 Kl.nd (Af z O (Aa (Ae 1) (Aa (Ae 2) Ab))))
  (Ad (Fq PassesOwn.never (Am (Gz O.units) (Ae 4) (Al Ab) (Bb _)) (Ag (Im (i:=3) (j:=4) rfl Kl.nd rfl rfl (by decide) rfl rfl (Aa (Ae 4) (Aa (Af J O (Aa (Ae 3) (Aa (Ae 4) (Aa (Ae 2) Ab)))) Ab)) rfl)))
  (Ag (Aj (Af I O (Aa (Ae 3) (Aa (Ae 2) Ab)))))))),?_⟩
 done
 refine S8 hx (Same.refl _) (by omega) t0 Z fun z1 H1 s1 i1=> ?_
 try done
 refine S8 hy s1 (by omega) t0 Z fun z2 H2 s2 i2=> ?_
 try done
 refine Ae0 (fun m σ H'=>Same H H'/\∃(v w:V) (f g:List Int),σ=[some x,some y,some (.int t),some v,some w]/\m=g.length/\Po K H' v f (max l l') k/\Po K H' w g (max l l') k/\(∀i,0<=co g i/\co g i<t)/\Aig t f g p q) _
  ⟨s1.trans s2,z1,z2,_,_,rfl,rfl,⟨(i1.mono s2).1,i1.2.1,le_trans i1.2.2.1 (Nat.le_max_left ..),i1.2.2.2⟩,⟨i2.1,i2.2.1,le_trans i2.2.2.1 (Nat.le_max_right ..),i2.2.2.2⟩,Ac0 t0 q,fun d=>by rw [Ab7,Ab7]⟩ ?_
 rintro m σ H' ⟨s3,v,w,f,g,rfl,rfl,iv,iw,rg,sm⟩
 done
 refine⟨by decide,fun e0 a0=> ?_⟩
 have M:=Same.upd a0 (.tup [])
 obtain⟨⟨b,rfl,hb⟩,tg,lg,zg⟩:=id iw
 refine Bu (ms:=[]) (M.tup hb) (.of Ao) ?_
 try done
 by_cases S:g=[]
 . rw [if_pos S]
   subst S
   try done
   exact⟨v,t,f,max l l',k,k,rfl,iv.mono M,by omega,Y,Z,h8,fun d H4 g s4 U hs=>c d H4 f g ((s3.trans M).trans s4) U hs sm⟩
 . rw [if_neg S]
   refine Ani ?_
   try done
   have r:=rg (g.length-1)
   refine⟨v,.ref b,t,f,g,_,_,_,_,k,rfl,iv.mono M,iw.mono M,by omega,by omega,by omega,Y.1,Z,h8,S,Aci Y r.1 r.2 (tg.lead S),fun d H4 u r s4 U he W rr=> ?_⟩
   try done
   refine⟨r.length,W,(s3.trans M).trans s4,.ref b,d,g,r,rfl,rfl,iw.mono (M.trans s4),⟨U.1,U.2.1,le_trans (le_of_lt W) lg,U.2.2.2⟩,rr,fun e=>(Aa5 he e).trans (sm e)⟩
noncomputable def Lz (K:Frag):Sp:=fun vs H Q _=>∃(x y:V) (p q:List Int) (l l' n n':Nat),vs=[x,y]/\Po K H x p l n/\Po K H y q l' n'/\l<=100/\l'<=100/\∀(b:Bool) (H':Hp),Same H H'->(b=true->Gc p q [1])->Q (.bl b) H'
theorem Rz {f:Addr}{fd:FuncData} (F:Df K mg "surely_apart" Js ["one","other"] f fd)  (I:∃u,mg "PRIME"=some u/\RelV (V.int 2305843009213693951) u) (c_degree:Cal P w K mg base 33 "degree" ["one"] (Gh K)) (J:Cal P w K mg base 37 "m_shared" ["one","other","t"] (Sv K)):Cal P w K mg base 38 "surely_apart" ["one","other"] (Lz K):=by
 refine F.cal (F.fn.ok Sq (fun vs H Q E h=> ?_) (fun a1 A outer s H vs Q E O h=> ?_))
 . obtain⟨x,y,p,q,_,_,_,_,rfl,_⟩:=h
   rfl
 obtain⟨x,y,p,q,l,l',n,n',rfl,hx,hy,hl,U,c⟩:=h
 obtain⟨⟨a,rfl,ha⟩,tp,lp,zp⟩:=id hx
 obtain⟨⟨b,rfl,hb⟩,tq,lq,zq⟩:=id hy
 refine Ax ⟨_,(Ad (Ay (Cj (Bw (Am (Fl O.units) (Ae 0) (Al Ab) (Bb _)) (Bw (Am (Fl O.units) (Ae 1) (Al Ab) (Bb _)) (Dw (Am Hj (Ah Dc (Aw Bx (Ae 0) (Bd Ce Ac) (fun _ _=>rfl)) (Rf (v:= .int 2305843009213693951) rfl I)) Ac (Bb _)))))) (Ag (Aj Br)) Ar)
  (Ag (Aj (Cv Hj (Af c_degree O (Aa (Af J O (Aa (Ae 0) (Aa (Ae 1) (Aa (Rf (v:= .int 2305843009213693951) rfl I) Ab)))) Ab)) Ac (Bb _))))),?_⟩
 done
 refine⟨by decide,fun e0 W=> ?_⟩
 have s0:=Same.upd W (.tup [])
 refine Bu (ms:=[]) (s0.tup ha) (.of Ao) ?_
 try done
 by_cases S:p=[]
 . rw [if_pos S]
   exact c false _ s0 fun h=>nomatch h
 rw [if_neg S]
 refine⟨by decide,fun e1 Y=> ?_⟩
 have M:=s0.trans (Same.upd Y (.tup []))
 refine Bu (ms:=[]) (M.tup hb) (.of Ao) ?_
 try done
 by_cases hq:q=[]
 . rw [if_pos hq]
   exact c false _ M fun h=>nomatch h
 rw [if_neg hq]
 refine En (M.tup ha) (Ia S) ?_
 try done
 refine⟨by decide,?_⟩
 by_cases Z:co p (p.length-1)%2305843009213693951=0
 . rw [if_pos Z]
   exact c false _ M fun h=>nomatch h
 rw [if_neg Z]
 refine⟨_,_,_,p,q,l,l',n,n',61,rfl,hx.mono M,hy.mono M,hl,U,Ahu,by unfold Sz;decide,by decide,fun d H4 f g s4 i4 hs sm=> ?_⟩
 try done
 refine Fg i4 (Same.refl _) ?_
 try done
 refine c _ _ (M.trans s4) fun hd=> ?_
 have a0:g.length=1:=by
  have:=of_decide_eq_true hd
  omega
 have g1:g=[1]:=by
  match g,a0 with
  | [k],_=>
    have:=hs.one (by simp)
    have e:k=1:=this
    rw [e]
 refine apart Ahu tp S (fun z=>Z (Int.emod_eq_zero_of_dvd z)) fun e h1 h2=> ?_
 rw [<-g1,hs.dm]
 exact((sm e).mpr ⟨h1,h2⟩).1
noncomputable def Oo (K:Frag):Sp:=fun vs H Q _=>∃(x:V) (m M:Nat) (mi:Int) (p:List Int) (l n:Nat),vs=[x,.int mi]/\(mi=(m:Nat)\/mi<0/\m=0)/\Po K H x p l n/\m<=M/\1<=M/\M*l+1<=500/\M*(n+l)+1<=20000000/\∀z H',Same H H'->Po K H' z (pw p m) (m*l+1) (m*(n+l)+1)->Q z H'
theorem Afz {f:Addr}{fd:FuncData} (F:Df K mg "power" Yp ["one","many"] f fd)  (I:mg "p_times"=some (.ref (cA K "p_times"))) (J:Cal P w K mg base 34 "repeated" ["start","one","many","product"] (S5 K)):Cal P w K mg base 35 "power" ["one","many"] (Oo K):=by
 refine F.cal (F.fn.ok Agj (fun U H Q E h=> ?_) (fun W A outer s H U Q E Y h=> ?_))
 . obtain⟨x,m,M,Z,p,_,_,rfl,_⟩:=h
   rfl
 obtain⟨x,m,M,Z,p,l,n,rfl,O,hx,hm,hM,hl,hn,k⟩:=h
 refine Ax ⟨_,(Ag (Aj (Af J Y (Aa (Al (Aa Ac Ab)) (Aa (Ae 0) (Aa (Ae 1) (Aa (Z9 (v:= .ref (cA K "p_times")) rfl I rfl) Ab))))))),?_⟩
 done
 intro p0 S
 have s0:=Same.upd S (.tup [V.int 1])
 refine⟨_,x,m,M,_,p,l,n,rfl,O,⟨p0,rfl,.of Ao⟩,hx.mono s0,hm,hM,hl,hn,fun z H' s1 i1=>k _ _ (s0.trans s1) i1⟩
theorem Ah1 (b:Int) (z:b≠0):∀m:Nat,pw [b] m=[b^m]
 | 0=>by rw [pw,Int.pow_zero]
 | m+1=>by
   rw [pw,Ah1 b z m]
   refine(Gw _ _).ext (.inr ⟨by simp,by simp;exact Int.pow_ne_zero z⟩) fun i=> ?_
   rw [Dz]
   cases i with
   | zero=>simp [mu,sh,Eb,Int.pow_succ];exact Int.mul_comm _ _
   | succ i=>cases i<;>simp [mu,sh,Dy,Bv]
noncomputable def Gn (K:Frag):Sp:=fun vs H Q _=>∃(b mi:Int) (m n:Nat),vs=[.int b,.int mi]/\(mi=(m:Nat)\/mi<0/\m=0)/\b≠0/\Sz n b/\n<=400000/\m<=40/\∀H',Same H H'->Q (.int (b^m)) H'
theorem Tt {f:Addr}{fd:FuncData} (F:Df K mg "whole_power" Kh ["number","many"] f fd)   (I:Cal P w K mg base 35 "power" ["one","many"] (Oo K)):Cal P w K mg base 36 "whole_power" ["number","many"] (Gn K):=by
 refine F.cal (F.fn.ok Tz (fun W H Q E h=> ?_) (fun Y A outer s H W Q E Z h=> ?_))
 . obtain⟨b,mi,m,n,rfl,_⟩:=h
   rfl
 obtain⟨b,mi,m,n,rfl,J,S,zb,hn,hm,k⟩:=h
 refine Ax ⟨_,(Ag (Aj (Aw Bx (Af I Z (Aa (Al (Aa (Ae 0) Ab)) (Aa (Ae 1) Ab))) Ac (fun _ _=>rfl)))),?_⟩
 done
 intro M O
 have i0:Po K (upd H M (.tup [V.int b])) (.ref M) [b] 1 (n+1):=⟨⟨M,rfl,.of Ao⟩,.inr ⟨by simp,by simpa using S⟩,le_refl _,fun i=>V8 (by omega) (fun x hx=>by
  have e:x=b:=by simpa using hx
  rw [e];exact zb.mono (by omega)) i⟩
 refine⟨_,m,40,_,_,_,_,rfl,J,i0,hm,by decide,by decide,by omega,fun z H' s' i=> ?_⟩
 obtain⟨⟨c,rfl,U⟩,_⟩:=i
 rw [Ah1 b S]at U
 exact En U (at0 _ _) (k _ ((Same.upd O _).trans s'))
theorem Z2 {H:Hp}{Q:VK}{E:XK}{b:Int}{m n:Nat}{z:Int} (e:z=(m:Nat)) (I:b≠0) (J:Sz n b) (M:n<=400000) (O:m<=40) (h:∀H',Same H H'->Q (.int (b^m)) H'):Gn K [.int b,.int z] H Q E:=⟨b,z,m,n,rfl,.inl e,I,J,M,O,h⟩
theorem Ud {n:Nat}{b:Int} (h:Sz n b):∀m:Nat,Sz (n*m+1) (b^m)
 | 0=>by
   rw [Int.pow_zero,Nat.mul_zero]
   unfold Sz
   decide
 | m+1=>by
   rw [Int.pow_succ,mul_succ]
   exact((Ud h m).mul h).mono (by omega)
noncomputable def rs (p:List Int) (m:Nat):List Int:=if p=[]then []else replicate m 0++p
noncomputable def W5 (K:Frag):Sp:=fun vs H Q _=>∃(x:V) (m:Nat) (p:List Int) (l n:Nat),vs=[x,.int (m:Nat)]/\Po K H x p l n/\m<=100/\l<=400/\∀z H',Same H H'->SqT K H' z ((rs p m).map V.int)->Q (.ref z) H'
theorem Adg {f:Addr}{fd:FuncData} (F:Df K mg "raised" Vl ["one","many"] f fd)    :Cal P w K mg base 33 "raised" ["one","many"] (W5 K):=by
 refine F.cal (F.fn.ok Aei (fun Y H Q E h=> ?_) (fun Z A outer s H Y Q E hr h=> ?_))
 . obtain⟨x,m,p,_,_,rfl,_⟩:=h
   rfl
 obtain⟨x,m,p,l,n,rfl,⟨⟨a,rfl,S⟩,tp,lp,zp⟩,hm,hl,k⟩:=h
 have a0:1000<=sizeLine:=by decide
 refine Ax ⟨_,(Ad (Ay (Am (Fl hr.units) (Ae 0) (Al Ab) (Bb _)) (Ag (Aj (Al Ab))) Ar)
  (Ag (Aj (Ah Jq (Ah Ajg (Al (Aa Ac Ab)) (Ae 1)) (Ae 0))))),?_⟩
 done
 refine⟨by decide,fun p1 J=> ?_⟩
 have M:=Same.upd J (.tup [])
 refine Bu (ms:=[]) (M.tup S) (.of Ao) ?_
 try done
 by_cases h1:p=[]
 . rw [if_pos h1]
   refine⟨by decide,fun z I=>k z _ (M.trans (Same.upd I _)) ?_⟩
   rw [rs,if_pos h1]
   exact .of Ao
 rw [if_neg h1]
 intro p2 O
 have U:=M.trans (Same.upd O (.tup [V.int 0]))
 refine⟨p2,m,[V.int 0],rfl,rfl,.of Ao,by simp,by omega,by simp only [length_cons,length_nil];omega,fun z H2 W I=> ?_⟩
 rw [Io]at I
 refine⟨z,a,_,_,rfl,rfl,I,(U.trans W).tup S,by rw [length_map,length_map,length_replicate];omega,fun z2 H3 s4 h4=>k z2 _ ((U.trans W).trans s4) ?_⟩
 rw [rs,if_neg h1,map_append]
 exact h4
theorem Xk (j:Nat) (p:List Int) (i:Nat):co (replicate j 0++p) i=if j<=i then co p (i-j)else 0:=by
 unfold co
 rw [getD_eq_getElem?_getD,getD_eq_getElem?_getD]
 by_cases h:j<=i
 . rw [if_pos h,getElem?_append_right (by rw [length_replicate];exact h),length_replicate]
 . rw [if_neg h,getElem?_append_left (by rw [length_replicate];omega),getElem?_replicate]
   split<;>rfl
theorem Aj0 (p:List Int) (m i:Nat):co (rs p m) i=if m<=i then co p (i-m)else 0:=by
 unfold rs
 split
 . rename_i h
   rw [h,Bv,Bv]
   split<;>rfl
 . exact Xk m p i
theorem Ao2 {p:List Int} (h:Tr p) (m:Nat):Tr (rs p m):=by
 unfold rs
 split
 . exact .inl rfl
 . rename_i n
   refine Tr.of (.inr ?_)
   rw [Xk,length_append,length_replicate,if_pos (by have:=length_pos_iff.mpr n;omega)]
   have:=h.lead n
   rw [show m+p.length-1-m=p.length-1 by omega]
   exact this
theorem Am0 (p:List Int) (m:Nat):(rs p m).length<=m+p.length:=by
 unfold rs
 split
 . simp
 . rw [length_append,length_replicate]
   exact le_refl _
theorem Ahb (c:Int) (i:Nat):co [c] i=if i=0 then c else 0:=by
 cases i with
 | zero=>rw [Eb];rfl
 | succ i=>rw [Dy,Bv];rfl
theorem Ac5 (c:Int) (j:Nat) (q:List Int) (i:Nat):mu (rs (trim [c]) j) (co q) i=if j<=i then c*co q (i-j)else 0:=by
 have e:∀k,co (rs (trim [c]) j) k=co (replicate j 0++ [c]) k:=fun k=>by
  rw [Aj0,Xk]
  split
  . rw [Bl]
  . rfl
 rw [congrFun (Cm (co q) _ _ e) i,Ld,Ub,length_replicate,zero_add]
noncomputable def SdR (K:Frag) (p q:List Int) (l:Nat) (Q:VK) (H:Hp):Prop:=∀(z:Addr) (H':Hp) (c d:V) (u r:List Int),Same H H'->SqT K H' z [c,d]->Po K H' c u l BIG->Po K H' d r l BIG->
 (∀k,co q (q.length-1)^(p.length-q.length+1)*co p k=mu u (co q) k+co r k)->r.length<q.length->u.length<=p.length-q.length+1->Q (.ref z) H'
noncomputable def Jk (K:Frag):Sp:=fun vs H Q _=>∃(x y:V) (p q:List Int) (l n:Nat),vs=[x,y]/\Po K H x p l n/\Po K H y q l n/\l<=60/\n<=400000/\q≠ []/\q.length<=p.length/\SdR K p q l Q H
theorem N7 {f:Addr}{fd:FuncData} (F:Df K mg "scaled_division" Ho ["one","other"] f fd) (a0:mg "range"=none) (z_len:mg "len"=none)  (W:Cal P w K mg base 33 "raised" ["one","many"] (W5 K)) (Y:Cal P w K mg base 35 "p_plus" ["one","other"] (Lr K)) (S:Cal P w K mg base 36 "p_minus" ["one","other"] (Py K)) (c_degree:Cal P w K mg base 33 "degree" ["one"] (Gh K)) (c_poly:Cal P w K mg base 33 "poly" ["weights"] (Ls K)) (M:Cal P w K mg base 33 "scaled" ["one","factor"] (Iw K)) (U:Cal P w K mg base 33 "p_times" ["one","other"] (Gv K)):Cal P w K mg base 37 "scaled_division" ["one","other"] (Jk K):=by
 refine F.cal (F.fn.ok Dd (fun vs H Q E h=> ?_) (fun ad A outer s H vs Q E hr h=> ?_))
 . obtain⟨x,y,p,q,_,_,rfl,_⟩:=h
   rfl
 obtain⟨x,y,p,q,l,n,rfl,hx,hy,hl,hn,hq,ae,k⟩:=h
 obtain⟨⟨a,rfl,ha⟩,tp,lp,zp⟩:=id hx
 obtain⟨⟨b,rfl,hb⟩,tq,lq,zq⟩:=id hy
 have af:0<q.length:=length_pos_iff.mpr hq
 have ac:=Yx
 obtain⟨L,hL⟩:∃L,L=p.length-q.length+1:=⟨_,rfl⟩
 obtain⟨O,a1⟩:∃O,O=co q (q.length-1):=⟨_,rfl⟩
 obtain⟨B,hB⟩:∃B:Nat->Nat,B=fun i=>n+(n+l+4)*i:=⟨_,rfl⟩
 have B1:∀i,B (i+1)=B i+n+l+4:=fun i=>by rw [hB];show n+(n+l+4)*(i+1)=n+(n+l+4)*i+n+l+4;rw [mul_succ];omega
 have Bn:∀i,i<=60->B i<=56000000:=fun i hi=>by
  rw [hB]
  have:(n+l+4)*i<=(n+l+4)*60:=mul_le_mul_left _ hi
  show n+(n+l+4)*i<=56000000
  omega
 have B0:B 0=n:=by rw [hB];rfl
 refine Ax ⟨_,(Ad (Ak 2 Dd.nd (Al Ab))
  (Ad (Ak 3 Dd.nd (Ae 0))
  (Ad (Dp PassesOwn.never rfl (Ox rfl a0 (Aa (Ah Em (Af c_degree hr (Aa (Ae 0) Ab)) (Af c_degree hr (Aa (Ae 1) Ab))) (Aa (Bd Ce Ac) (Aa (Bd Ce Ac) Ab)))) (Aq 4 Dd.nd) (Ad (Ak 5 Dd.nd (M8 (Am Wo (Ah Eh (Ae 4) (Af c_degree hr (Aa (Ae 1) Ab))) (Ba Az rfl z_len PySem.boot_len (Aa (Ae 3) Ab)) (Bb _)) (Aw Bx (Ae 3) (Ah Eh (Ae 4) (Af c_degree hr (Aa (Ae 1) Ab))) (fun _ _=>rfl)) Ac))
  (Ad (Ak 6 Dd.nd (Af W hr (Aa (Af c_poly hr (Aa (Al (Aa (Ae 5) Ab)) Ab)) (Aa (Ae 4) Ab))))
  (Ad (Ak 2 Dd.nd (Af Y hr (Aa (Af M hr (Aa (Ae 2) (Aa (Aw Bx (Ae 1) (Bd Ce Ac) (fun _ _=>rfl)) Ab))) (Aa (Ae 6) Ab))))
  (Ag (Ak 3 Dd.nd (Af S hr (Aa (Af M hr (Aa (Ae 3) (Aa (Aw Bx (Ae 1) (Bd Ce Ac) (fun _ _=>rfl)) Ab))) (Aa (Af U hr (Aa (Ae 6) (Aa (Ae 1) Ab))) Ab)))))))))
  (Ag (Aj (Al (Aa (Ae 2) (Aa (Ae 3) Ab)))))))),?_⟩
 refine Bp (fun J H'=>Same H H'/\∃e0,J=[some (.ref a),some (.ref b),some (.ref e0),none,none,none,none]/\H' e0=some (.tup [])) (fun N Z=> ?_) ?_
 . done
   refine⟨by decide,fun e0 a9=>Z _ _ ⟨Same.upd a9 _,e0,rfl,Ao⟩⟩
 rintro σ H1 ⟨s1,e0,rfl,g0⟩
 refine Bp (fun J H'=>H'=H1/\J=[some (.ref a),some (.ref b),some (.ref e0),some (.ref a),none,none,none]) (fun N Z=> ?_) ?_
 . done
   exact Z _ _ ⟨rfl,rfl⟩
 rintro σ H2 ⟨rfl,rfl⟩
 refine Bp (fun J H'=>Same H H'/\∃(c d:V) (u r:List Int) (o4 o5 o6:Option V),J=[some (.ref a),some (.ref b),some c,some d,o4,o5,o6]/\Po K H' c u l (B L)/\Po K H' d r l (B L)/\(∀k,O^L*co p k=mu u (co q) k+co r k)/\(∀k,p.length-L<=k->co r k=0)/\∀k,L<=k->co u k=0) (fun N Z=> ?_) ?_
 . rw [Agy]
   done
   refine Fg hx s1 ?_
   try done
   refine Fg hy s1 ?_
   try done
   refine⟨by omega,?_⟩
   have en:((p.length:Int)-1-((q.length:Int)-1)- -1).toNat=L:=by omega
   refine Akr L (fun i=> .int ((p.length:Int)-1-((q.length:Int)-1)-(i:Nat))) (fun i J H'=>Same H H'/\∃(c d:V) (u r:List Int) (o4 o5 o6:Option V),J=[some (.ref a),some (.ref b),some c,some d,o4,o5,o6]/\Po K H' c u l (B i)/\Po K H' d r l (B i)/\(∀k,O^i*co p k=mu u (co q) k+co r k)/\(∀k,p.length-i<=k->co r k=0)/\∀k,L<=k->co u k=0) ?_ ?_ ?_ ?_
   . refine⟨s1,_,_,[],p,_,_,_,rfl,⟨⟨e0,rfl,.of g0⟩,.inl rfl,zero_le _,fun i=>by rw [Bv,B0];exact(zp p.length).of_abs (by simp)⟩,by rw [B0];exact hx.mono s1,fun t=> ?_,fun t ht=>Ck (by omega),fun t _=>Bv t⟩
     rw [Int.pow_zero,Int.one_mul]
     show _=0+co p t
     omega
   . intro i J H' _
     rw [en]
     exact Td
   . rintro i J H5 hi ⟨s5,c,d,u,r,o4,o5,o6,rfl,ic,ir,he,a2,a3⟩
     obtain⟨j,hj⟩:∃j:Nat,j+1=L-i:=⟨L-i-1,by omega⟩
     have pj:(p.length:Int)-1-((q.length:Int)-1)-(i:Nat)=(j:Int):=by omega
     rw [Vx,pj]
     simp only [set_cons_succ,set_cons_zero]
     have ix:(j:Int)+((q.length:Int)-1)=((j+(q.length-1):Nat):Int):=by omega
     obtain⟨e,a6⟩:∃e,e=j+(q.length-1):=⟨_,rfl⟩
     rw [<-a6]at ix
     obtain⟨I,a4⟩:∃t,t=co r e:=⟨_,rfl⟩
     have Bi:=Bn i (by omega)
     have Bs:=B1 i
     have zt:Sz (B i) I:=by rw [a4];exact ir.2.2.2 e
     have zl:Sz n O:=by rw [a1];exact zq _
     refine Bp (fun J H'=>H'=H5/\J=[some (.ref a),some (.ref b),some c,some d,some (.int j),some (.int I),o6]) (fun N Z=> ?_) ?_
     . done
       refine Fg hy s5 ?_
       repeat (first | done | simp only [ix])
       obtain⟨⟨dr,rfl,a7⟩,_,lr,_⟩:=id ir
       refine⟨dr,_,rfl,.inr a7,?_⟩
       try done
       rw [length_map]
       split
       . rename_i h
         have h':e<r.length:=by omega
         refine Fg hy s5 ?_
         repeat (first | done | simp only [ix])
         refine En a7 (v:= .int I) (by rw [a4,Ef h'];exact Bk (Ft h')) ?_
         try done
         exact Z _ _ ⟨rfl,rfl⟩
       . rename_i h
         have:I=0:=by rw [a4];exact Ck (by omega)
         rw [this]at Z
         exact Z _ _ ⟨rfl,rfl⟩
     rintro J H6 ⟨rfl,rfl⟩
     refine Bp (fun J H'=>Same H6 H'/\∃tv:V,J=[some (.ref a),some (.ref b),some c,some d,some (.int j),some (.int I),some tv]/\Po K H' tv (rs (trim [I]) j) l (B i)) (fun N Z=> ?_) ?_
     . done
       intro p1 aa
       have s6:=Same.upd aa (.tup [V.int I])
       refine⟨p1,[I],rfl,.inr (.of Ao),by simp,fun z H7 s7 h7=> ?_⟩
       try done
       have it:Po K H7 (.ref z) (trim [I]) 1 (B i):=⟨⟨z,rfl,h7⟩,Bq _,le_trans (Hv _) (by simp),fun t=>by
        rw [Bl,Ahb]
        split
        . exact zt
        . exact zt.of_abs (by simp)⟩
       refine⟨_,j,_,1,B i,rfl,it,by omega,by decide,fun z2 H8 s8 h8=>Z _ _ ⟨(s6.trans s7).trans s8,_,rfl,⟨⟨z2,rfl,h8⟩,Ao2 (Bq _) j,?_,fun t=> ?_⟩⟩⟩
       . have h1:=Am0 (trim [I]) j
         have h2:=it.2.2.1
         omega
       . rw [Aj0]
         split
         . exact it.2.2.2 _
         . exact zt.of_abs (by simp)
     rintro J H7 ⟨s7,tv,rfl,it⟩
     have a5:=s5.trans s7
     refine Bp (fun J H'=>Same H7 H'/\∃cv:V,J=[some (.ref a),some (.ref b),some cv,some d,some (.int j),some (.int I),some tv]/\Po K H' cv (ta (ng u O) (rs (trim [I]) j)) l (B (i+1))) (fun N Z=> ?_) ?_
     . done
       refine En (a5.tup hb) (Ia hq) ?_
       rw [<-a1]
       try done
       refine⟨c,O,u,l,B i,n,rfl,ic.mono s7,zl,by omega,by omega,fun z H8 s8 i8=> ?_⟩
       try done
       refine⟨z,tv,_,_,l,l,B i+n,B i,rfl,i8,it.mono s8,by omega,by omega,trivial,fun w H9 s9 i9=>Z _ _ ⟨s8.trans s9,w,rfl,⟨i9.1,i9.2.1,le_trans i9.2.2.1 (by omega),fun t=>(i9.2.2.2 t).mono (by omega)⟩⟩⟩
     rintro J H8 ⟨s8,cv,rfl,ab⟩
     done
     refine En ((a5.trans s8).tup hb) (Ia hq) ?_
     rw [<-a1]
     try done
     refine⟨d,O,r,l,B i,n,rfl,ir.mono (s7.trans s8),zl,by omega,by omega,fun z H9 s9 i9=> ?_⟩
     try done
     refine⟨tv,.ref b,_,q,l,l,B i,n,rfl,it.mono (s8.trans s9),hy.mono ((a5.trans s8).trans s9),by omega,by omega,by omega,fun w Ha sa ia=> ?_⟩
     try done
     refine⟨z,w,_,_,l,l+l,B i+n,B i+n+l,rfl,i9.mono sa,ia,by omega,by omega,by omega,fun v Hb sb ib=> ?_⟩
     try done
     have a8:∀t,co (ta (ng r O) (ng (tm (rs (trim [I]) j) q) (-1))) t=co r t*O-(if j<=t then I*co q (t-j)else 0):=fun t=>by
      rw [Ma,Jp,Jp,Dz,Ac5]
      omega
     have r0:∀t,p.length-(i+1)<=t->co (ta (ng r O) (ng (tm (rs (trim [I]) j) q) (-1))) t=0:=fun t ht=>by
      rw [a8,if_pos (by omega)]
      by_cases h:t=e
      . rw [h,<-a4,a6,show j+(q.length-1)-j=q.length-1 by omega,a1]
        omega
      . rw [a2 t (by omega),Ck (p:=q) (by omega)]
        simp
     refine⟨((((a5.trans s8).trans s9).trans sa).trans sb),cv,v,_,_,_,_,_,rfl,ab.mono ((s9.trans sa).trans sb),⟨ib.1,ib.2.1,?_,fun t=>(ib.2.2.2 t).mono (by omega)⟩,fun t=> ?_,r0,fun t ht=> ?_⟩
     . refine le_trans (ib.2.1.len (q:=(ta (ng r O) (ng (tm (rs (trim [I]) j) q) (-1))).take l) fun t=> ?_) (List.length_take_le _ _)
       rw [Jo]
       split
       . rfl
       . exact r0 t (by omega)
     . rw [a8,<-Dz,Int.pow_succ]
       have e1:co (tm (ta (ng u O) (rs (trim [I]) j)) q) t=mu u (co q) t*O+(if j<=t then I*co q (t-j)else 0):=by
        rw [Ja,Apk,Ma,Ja q (rs (trim [I]) j),Dz (rs (trim [I]) j),Ac5,Dz,K8]
        congr 1
        have e2:mu (ng u O) (co q) t=mu (u.map (O* ·)) (co q) t:=congrFun (Cm (co q) _ _ fun k=>by rw [Jp,Ga,Int.mul_comm]) t
        rw [e2,Kv,Int.mul_comm]
       rw [e1]
       have:=he t
       have e3:O^i*O*co p t=(O^i*co p t)*O:=by grind
       rw [e3,this]
       grind
     . rw [Ma,Jp,a3 t ht,Aj0]
       split
       . rw [Bl,Ahb,if_neg (by omega)]
         simp
       . simp
   . rintro J H5 ⟨s5,c,d,u,r,o4,o5,o6,rfl,ic,ir,he,a2,a3⟩
     exact Z _ _ ⟨s5,c,d,u,r,o4,o5,o6,rfl,ic,ir,he,a2,a3⟩
 rintro σ H5 ⟨s5,c,d,u,r,o4,o5,o6,rfl,ic,ir,he,a2,a3⟩
 have BL:=Bn L (by omega)
 done
 intro z hz
 have s6:=Same.upd hz (.tup [c,d])
 have big:∀ {v:V}{f:List Int},Po K H5 v f l (B L)->Po K (upd H5 z (.tup [c,d])) v f l BIG:=fun h=>⟨(h.mono s6).1,h.2.1,h.2.2.1,fun t=>(h.2.2.2 t).mono (by omega)⟩
 refine k z _ c d u r (s5.trans s6) (.of Ao) (big ic) (big ir) (by rw [<-a1,<-hL];exact he) ?_ ?_
 . have h:=ir.2.1.len (q:=r.take (q.length-1)) fun t=>by
    rw [Jo]
    split
    . rfl
    . exact a2 t (by omega)
   rw [length_take]at h
   omega
 . have h:=ic.2.1.len (q:=u.take L) fun t=>by
    rw [Jo]
    split
    . rfl
    . exact a3 t (by omega)
   rw [length_take]at h
   omega
noncomputable def RwV (K:Frag) (H:Hp) (vs:List V) (fs:List (List Int)) (l n:Nat):Prop:=vs.length=fs.length/\∀c,c<fs.length->Po K H (vs.getD c .non) (fs.getD c []) l n
noncomputable def Rw (K:Frag) (H:Hp) (x:V) (fs:List (List Int)) (l n:Nat):Prop:=∃a vs,x= .ref a/\SqT K H a vs/\RwV K H vs fs l n
theorem RwV.mono {H H':Hp}{z:List V}{fs:List (List Int)}{l n:Nat} (h:RwV K H z fs l n) (s:Same H H'):RwV K H' z fs l n:=⟨h.1,fun c I=>(h.2 c I).mono s⟩
theorem Rw.mono {H H':Hp}{x:V}{fs:List (List Int)}{l n:Nat} (h:Rw K H x fs l n) (s:Same H H'):Rw K H' x fs l n:=by
 obtain⟨a,z,e,t,r⟩:=h
 exact⟨a,z,e,s.tup t,r.mono s⟩
theorem getD_at {z:List V}{j:Nat} (h:j<z.length):atI z ((j:Nat):Int)=some (z.getD j .non):=Bk (by rw [getD_eq_getElem?_getD,getElem?_eq_getElem h];rfl)
noncomputable def NrR (K:Frag) (fs gs:List (List Int)) (β:Int) (l:Nat) (Q:VK) (H:Hp):Prop:=∀(z:V) (H':Hp) (ts:List (List Int)) (u r:List Int),Same H H'->Rw K H' z ts (2*l) (2*BIG)->ts.length=fs.length->
 (∀k,co (gs.getD 0 []) ((gs.getD 0 []).length-1)^((fs.getD 0 []).length-(gs.getD 0 []).length+1)*co (fs.getD 0 []) k=mu u (co (gs.getD 0 [])) k+co r k)->r.length<(gs.getD 0 []).length->u.length<=(fs.getD 0 []).length-(gs.getD 0 []).length+1->
 (∀c,c<fs.length->∀i,co (gs.getD 0 []) ((gs.getD 0 []).length-1)^((fs.getD 0 []).length-(gs.getD 0 []).length+1)*co (fs.getD c []) i=β*co (ts.getD c []) i+mu u (co (gs.getD c [])) i)->Q z H'
noncomputable def NrE (fs gs:List (List Int)) (β:Int):Prop:=∀(u r:List Int),(∀k,co (gs.getD 0 []) ((gs.getD 0 []).length-1)^((fs.getD 0 []).length-(gs.getD 0 []).length+1)*co (fs.getD 0 []) k=mu u (co (gs.getD 0 [])) k+co r k)->r.length<(gs.getD 0 []).length->u.length<=(fs.getD 0 []).length-(gs.getD 0 []).length+1->
 ∀c,c<fs.length->∀i,β∣co (gs.getD 0 []) ((gs.getD 0 []).length-1)^((fs.getD 0 []).length-(gs.getD 0 []).length+1)*co (fs.getD c []) i-mu u (co (gs.getD c [])) i
noncomputable def Nq (K:Frag):Sp:=fun vs H Q _=>∃(x y:V) (β:Int) (fs gs:List (List Int)) (l n:Nat),vs=[x,y,.int β]/\Rw K H x fs l n/\Rw K H y gs l n/\gs.length=fs.length/\1<=fs.length/\fs.length<=3/\l<=60/\n<=400000/\gs.getD 0 []≠ []/\(gs.getD 0 []).length<=(fs.getD 0 []).length/\(fs.getD 0 []).length<=(gs.getD 0 []).length+38/\β≠0/\Sz LIM β/\NrE fs gs β/\NrR K fs gs β l Q H
theorem Ux {d:Int} (p:List Int) (i:Nat):co (p.map fun x=>x.fdiv d) i=(co p i).fdiv d:=Ri (f:=fun x=>x.fdiv d) (Int.zero_fdiv d) p i
theorem Xp {x d:Int} (z:d≠0) (h:d∣x):d*x.fdiv d=x:=by
 obtain⟨k,rfl⟩:=h
 rw [Int.mul_fdiv_cancel_left _ z]
theorem Acf {p:List Int}{d:Int} (I:d≠0) (tp:Tr p) (h:∀i,d∣co p i):Tr (p.map fun x=>x.fdiv d):=by
 by_cases n:p=[]
 . subst n;exact .inl rfl
 . refine Tr.of (.inr ?_)
   rw [length_map,Ux]
   intro z
   have:=Xp I (h (p.length-1))
   rw [z,Int.mul_zero]at this
   exact tp.lead n this.symm
theorem Ace {n:Nat}{x d:Int} (I:d≠0) (h:d∣x) (z:Sz n x):Sz n (x.fdiv d):=z.of_abs (by
 have:=congrArg natAbs (Xp I h)
 rw [natAbs_mul]at this
 have J:=natAbs_pos.mpr I
 have:=le_mul_of_pos_left (x.fdiv d).natAbs J
 omega)
local macro_rules | `(tactic| omega) => `(tactic| omega (config := {}))
theorem X4 {f:Addr}{fd:FuncData} (F:Df K mg "next_row" Pa ["first","second","known"] f fd) (a8:mg "zip"=none) (a3:mg "tuple"=none)  (c_whole_power:Cal P w K mg base 36 "whole_power" ["number","many"] (Gn K)) (I:Cal P w K mg base 37 "scaled_division" ["one","other"] (Jk K)) (O:Cal P w K mg base 33 "shrunk" ["one","number"] (S7 K)) (c_degree:Cal P w K mg base 33 "degree" ["one"] (Gh K)) (S:Cal P w K mg base 36 "p_minus" ["one","other"] (Py K)) (a1:Cal P w K mg base 33 "scaled" ["one","factor"] (Iw K)) (U:Cal P w K mg base 33 "p_times" ["one","other"] (Gv K)):Cal P w K mg base 38 "next_row" ["first","second","known"] (Nq K):=by
 refine F.cal (F.fn.ok Gs (fun vs H Q E h=> ?_) (fun ay A outer s H vs Q E hr h=> ?_))
 . obtain⟨x,y,W,fs,M,_,_,rfl,_⟩:=h
   rfl
 obtain⟨x,y,W,fs,M,l,n,rfl,⟨a,vs,rfl,ha,az,hv⟩,⟨b,ws,rfl,hb,b1,hw⟩,b2,b3,b4,hl,hn,a4,ah,aw,Y,aa,ex,k⟩:=h
 have ax:=Yx
 have p0:=hv 0 (by omega)
 have q0:=hw 0 (by omega)
 have b5:=a4
 have b6:0<(M.getD 0 []).length:=length_pos_iff.mpr a4
 obtain⟨L,hL⟩:∃L,L=co (M.getD 0 []) ((M.getD 0 []).length-1)^((fs.getD 0 []).length-(M.getD 0 []).length+1):=⟨_,rfl⟩
 have ai:co (M.getD 0 []) ((M.getD 0 []).length-1)≠0:=q0.2.1.lead a4
 obtain⟨⟨b0,aj,ak⟩,_⟩:=id q0
 obtain⟨⟨a0,b7,b8⟩,_⟩:=id p0
 have ab:atI vs 0=some (vs.getD 0 .non):=getD_at (j:=0) (by omega)
 have a9:atI ws 0=some (ws.getD 0 .non):=getD_at (j:=0) (by omega)
 have LS:Sz (n*((fs.getD 0 []).length-(M.getD 0 []).length+1)+1) L:=by rw [hL];exact Ud (q0.2.2.2 _) _
 have hN:n*((fs.getD 0 []).length-(M.getD 0 []).length+1)<=400000*39:=mul_le_mul hn (by omega)
 refine Ax ⟨_,(Ad (Ak 3 Gs.nd (Af c_whole_power hr (Aa (Aw Bx (Aw Bx (Ae 1) Ac (fun _ _=>rfl)) (Bd Ce Ac) (fun _ _=>rfl)) (Aa (Ah Eh (Ah Em (Af c_degree hr (Aa (Aw Bx (Ae 0) Ac (fun _ _=>rfl)) Ab)) (Af c_degree hr (Aa (Aw Bx (Ae 1) Ac (fun _ _=>rfl)) Ab))) Ac) Ab))))
  (Ad (Cy (Af I hr (Aa (Aw Bx (Ae 0) Ac (fun _ _=>rfl)) (Aa (Aw Bx (Ae 1) Ac (fun _ _=>rfl)) Ab))) (Dn rfl (Ai (Aq 5 Gs.nd) (Ai (Aq 6 Gs.nd) Ci))))
  (Ad (Ak 4 Gs.nd (Cd (Aa (Af O hr (Aa (Ae 6) (Aa (Ae 2) Ab))) Ab)))
  (Ad (Dp PassesOwn.never rfl (Aab true true rfl a8 (Aa (Du Iu (Ae 0) (El Ac) Ek) (Aa (Du Iu (Ae 1) (El Ac) Ek) Ab))) (Dn rfl (Ai (Aq 7 Gs.nd) (Ai (Aq 8 Gs.nd) Ci))) (Ag (Hi (Nu plainAttrs_list PySem.F.slot_list_append PySem.F.type_list_append Jz (Ae 4) (Aa (Af O hr (Aa (Af S hr (Aa (Af a1 hr (Aa (Ae 7) (Aa (Ae 3) Ab))) (Aa (Af U hr (Aa (Ae 5) (Aa (Ae 8) Ab))) Ab))) (Aa (Ae 2) Ab))) Ab)))))
  (Ag (Aj (Ed Ey rfl a3 boot_tuple (Aa (Ae 4) Ab)))))))),?_⟩
 refine Bp (fun J H'=>Same H H'/\J=[some (.ref a),some (.ref b),some (.int W),some (.int L),none,none,none,none,none]) (fun N hN=> ?_) ?_
 . done
   refine En hb a9 ?_
   rw [aj]
   refine En ak (Ia a4) ?_
   try done
   refine En ha ab ?_
   refine Fg p0 (Same.refl _) ?_
   try done
   refine En hb a9 ?_
   refine Fg q0 (Same.refl _) ?_
   try done
   refine Z2 (m:=(fs.getD 0 []).length-(M.getD 0 []).length+1) (by omega) ai (q0.2.2.2 _) (by omega) (by omega) fun H' s'=> ?_
   rw [<-hL]
   exact hN _ _ ⟨s',rfl⟩
 rintro σ H1 ⟨s1,rfl⟩
 refine Bp (fun J H'=>Same H H'/\∃(c d:V) (u r:List Int),J=[some (.ref a),some (.ref b),some (.int W),some (.int L),none,some c,some d,none,none]/\Po K H' c u l BIG/\Po K H' d r l BIG/\(∀k,L*co (fs.getD 0 []) k=mu u (co (M.getD 0 [])) k+co r k)/\r.length<(M.getD 0 []).length/\u.length<=(fs.getD 0 []).length-(M.getD 0 []).length+1) (fun N hN=> ?_) ?_
 . done
   refine En (s1.tup ha) ab (En (s1.tup hb) a9 ?_)
   refine⟨_,_,fs.getD 0 [],M.getD 0 [],l,n,rfl,p0.mono s1,q0.mono s1,hl,by omega,a4,ah,fun z H2 c d u r s2 hz ic id he a6 a7=> ?_⟩
   refine Nz hz ?_
   exact hN _ _ ⟨s1.trans s2,c,d,u,r,rfl,ic,id,by rw [hL];exact he,a6,a7⟩
 rintro σ H2 ⟨s2,c,d,u,r,rfl,ic,ir,he,a6,a7⟩
 rw [hL]at he
 have ex':=ex u r he a6 a7
 rw [<-hL]at ex' he
 obtain⟨T,hT⟩:∃T:Nat->List Int,T=fun c=>(trim (al ((fs.getD c []).map (L* ·)) ((ml u (M.getD c [])).map (-1* ·)))).map fun x=>x.fdiv W:=⟨_,rfl⟩
 have R0:∀c i,co (trim (al ((fs.getD c []).map (L* ·)) ((ml u (M.getD c [])).map (-1* ·)))) i=L*co (fs.getD c []) i-mu u (co (M.getD c [])) i:=fun c i=>by
  rw [Bl,Oz,Ga,Ga,U3]
  omega
 have am:∀c,c<fs.length->∀i,W*co (T c) i=L*co (fs.getD c []) i-mu u (co (M.getD c [])) i:=fun c hc i=>by
  rw [hT]
  show W*co (List.map _ _) i=_
  rw [Ux,R0]
  exact Xp Y (ex' c hc i)
 refine Bp (fun J H'=>Same H H'/\∃(Z:Addr) (z0:V),J=[some (.ref a),some (.ref b),some (.int W),some (.int L),some (.ref Z),some c,some d,none,none]/\H Z=none/\Po K H' c u l BIG/\H' Z=some (.lst [z0])/\Po K H' z0 (T 0) (2*l) (2*BIG)) (fun N hN=> ?_) ?_
 . done
   obtain⟨⟨dr,rfl,an⟩,tr,lr,zr⟩:=id ir
   have er:r=trim (al ((fs.getD 0 []).map (L* ·)) ((ml u (M.getD 0 [])).map (-1* ·))):=tr.ext (Bq _) fun i=>by rw [R0,he];omega
   have dv:∀i,W∣co r i:=fun i=>by rw [er,R0];exact ex' 0 (by omega) i
   refine⟨dr,r,W,rfl,an,by omega,fun _=>⟨Y,aa⟩,fun z H3 s3 h3=> ?_⟩
   try done
   intro Z ac
   have st:=Same.upd ac (.lst [V.ref z])
   have eT:T 0=r.map fun x=>x.fdiv W:=by rw [hT,er]
   refine hN _ _ ⟨(s2.trans s3).trans st,Z,_,rfl,Same.free (s2.trans s3) ac,ic.mono (s3.trans st),Ao,⟨⟨z,rfl,by rw [eT];exact st.tup h3⟩,by rw [eT];exact Acf Y tr dv,by rw [eT,length_map];omega,fun i=> ?_⟩⟩
   rw [eT,Ux]
   exact(Ace Y (dv i) (zr i)).mono (by omega)
 rintro σ H3 ⟨s3,Z,z0,rfl,ao,ap,g3,i0⟩
 refine Bp (fun J H'=>Same H H'/\∃(zs:List V) (o7 o8:Option V),J=[some (.ref a),some (.ref b),some (.int W),some (.int L),some (.ref Z),some c,some d,o7,o8]/\H' Z=some (.lst zs)/\zs.length=fs.length/\∀j,j<fs.length->Po K H' (zs.getD j .non) (T j) (2*l) (2*BIG)) (fun N hN=> ?_) ?_
 . done
   have ad:K6 vs (some 1) none=vs.drop 1:=by
    unfold K6
    rw [show(1:Int)=((1:Nat):Int)from rfl,HT.Kd,HT.O6,min_eq_left (by omega),take_of_length_le (by simp)]
   have ae:K6 ws (some 1) none=ws.drop 1:=by
    unfold K6
    rw [show(1:Int)=((1:Nat):Int)from rfl,HT.Kd,HT.O6,min_eq_left (by omega),take_of_length_le (by simp)]
   refine⟨a,vs,rfl,s3.tup ha,fun ca H4 s4 h4=> ?_⟩
   try done
   refine⟨b,ws,rfl,(s3.trans s4).tup hb,fun cb H5 s5 h5=> ?_⟩
   rw [ad]at h4
   rw [ae]at h5
   try done
   refine⟨ca,cb,rfl,⟨_,s5.tup h4⟩,⟨_,h5⟩,?_⟩
   refine Aiu (xs:=vs.drop 1) (ys:=ws.drop 1) (fs.length-1) (by rw [length_drop,length_drop];omega) (fun i J H'=>Same H H'/\SqT K H' ca (vs.drop 1)/\SqT K H' cb (ws.drop 1)/\Po K H' c u l BIG/\∃(zs:List V) (o7 o8:Option V),J=[some (.ref a),some (.ref b),some (.int W),some (.int L),some (.ref Z),some c,some d,o7,o8]/\H' Z=some (.lst zs)/\zs.length=i+1/\∀j,j<i+1->Po K H' (zs.getD j .non) (T j) (2*l) (2*BIG)) ?_ ?_ ?_ ?_
   . refine⟨(s3.trans s4).trans s5,s5.tup h4,h5,ap.mono (s4.trans s5),[z0],_,_,rfl,(s4.trans s5) _ _ g3,rfl,fun j hj=> ?_⟩
     have:j=0:=by omega
     subst this
     exact i0.mono (s4.trans s5)
   . rintro i J H' ⟨_,x1,x2,_⟩
     exact⟨x1,x2⟩
   . rintro i J H6 p6 hi ⟨s6,x1,x2,af,zs,o7,o8,rfl,g6,a2,hz⟩ aq
     refine Nz (.of Ao) ?_
     have s7:=Same.upd aq (.tup [(vs.drop 1).getD i .non,(ws.drop 1).getD i .non])
     have ev:(vs.drop 1).getD i .non=vs.getD (i+1) .non:=by
      rw [getD_eq_getElem?_getD,getD_eq_getElem?_getD,getElem?_drop,Nat.add_comm]
     have ew:(ws.drop 1).getD i .non=ws.getD (i+1) .non:=by
      rw [getD_eq_getElem?_getD,getD_eq_getElem?_getD,getElem?_drop,Nat.add_comm]
     rw [ev,ew]at s7 ⊢
     generalize upd H6 p6 (.tup [vs.getD (i+1) .non,ws.getD (i+1) .non])=H7 at*
     have iu:=(hv (i+1) (by omega)).mono (s6.trans s7)
     have iw:=(hw (i+1) (by omega)).mono (s6.trans s7)
     have g7:=s7 _ _ g6
     try done
     refine⟨.inl ⟨rfl,_,.of g7⟩,?_⟩
     refine⟨_,L,fs.getD (i+1) [],l,n,_,rfl,iu,LS,by omega,by omega,fun w1 H8 s8 i8=> ?_⟩
     try done
     refine⟨c,_,u,M.getD (i+1) [],l,l,BIG,n,rfl,af.mono (s7.trans s8),iw.mono s8,by omega,by omega,by omega,fun w2 H9 s9 i9=> ?_⟩
     try done
     refine⟨w1,w2,_,_,_,_,_,_,rfl,i8.mono s9,i9,by omega,by omega,by omega,fun w3 Ha sa ia=> ?_⟩
     try done
     have er:ta (ng (fs.getD (i+1) []) L) (ng (tm u (M.getD (i+1) [])) (-1))=trim (al ((fs.getD (i+1) []).map (L* ·)) ((ml u (M.getD (i+1) [])).map (-1* ·))):=(Qp _ _).ext (Bq _) fun t=>by
      rw [R0,Ma,Jp,Jp,Dz]
      grind
     obtain⟨⟨wr,rfl,ar⟩,tr,lr,zr⟩:=id ia
     have dv:∀t,W∣co (ta (ng (fs.getD (i+1) []) L) (ng (tm u (M.getD (i+1) [])) (-1))) t:=fun t=>by rw [er,R0];exact ex' (i+1) (by omega) t
     refine⟨wr,_,W,rfl,ar,by omega,fun _=>⟨Y,aa⟩,fun z Hb sb as=> ?_⟩
     have t7:=((s8.trans s9).trans sa).trans sb
     have gb:=t7 _ _ g7
     try done
     refine⟨Z,_,_,rfl,rfl,gb,by rw [a2];exact lt_of_lt_of_le (show i+1<1000 by omega) (by decide),?_⟩
     have nT:=((s6.trans s7).trans t7)
     have ag:Same H (upd Hb Z (.lst (zs++ [V.ref z]))):=nT.put ao
     have a5:∀ {v:V}{f:List Int}{x y:Nat},Po K Hb v f x y->Po K (upd Hb Z (.lst (zs++ [V.ref z]))) v f x y:=fun h=>⟨by
      obtain⟨q,e,t⟩:=h.1
      exact⟨q,e,Vt t gb⟩,h.2⟩
     have eT:T (i+1)=(ta (ng (fs.getD (i+1) []) L) (ng (tm u (M.getD (i+1) [])) (-1))).map fun x=>x.fdiv W:=by rw [hT,er]
     refine⟨ag,Vt ((s7.trans t7).tup x1) gb,Vt ((s7.trans t7).tup x2) gb,a5 (af.mono (s7.trans t7)),zs++ [V.ref z],_,_,rfl,Ao,by rw [length_append,a2];rfl,fun j hj=> ?_⟩
     by_cases au:j=i+1
     . subst au
       have e1:(zs++ [V.ref z]).getD (i+1) .non=V.ref z:=by
        rw [getD_eq_getElem?_getD,getElem?_append_right (by omega),a2,sub_self]
        rfl
       rw [e1]
       refine a5 ⟨⟨z,rfl,by rw [eT];exact as⟩,by rw [eT];exact Acf Y tr dv,by rw [eT,length_map];omega,fun t=> ?_⟩
       rw [eT,Ux]
       exact(Ace Y (dv t) (zr t)).mono (by omega)
     . have e1:(zs++ [V.ref z]).getD j .non=zs.getD j .non:=by
        rw [getD_eq_getElem?_getD,getElem?_append_left (by omega),<-getD_eq_getElem?_getD]
       rw [e1]
       exact a5 ((hz j (by omega)).mono (s7.trans t7))
   . rintro J H6 ⟨s6,_,_,_,zs,o7,o8,rfl,g6,a2,hz⟩
     exact hN _ _ ⟨s6,zs,o7,o8,rfl,g6,by omega,fun j hj=>hz j (by omega)⟩
 rintro σ H4 ⟨s4,zs,o7,o8,rfl,g4,a2,hz⟩
 done
 refine⟨Z,zs,rfl,.inl ⟨.of g4,fun z av=> ?_⟩⟩
 have s5:=Same.upd av (.tup zs)
 refine k _ _ ((List.range fs.length).map T) u r (s4.trans s5) ⟨z,zs,rfl,.of Ao,by rw [length_map,length_range];exact a2,fun j hj=> ?_⟩ (by rw [length_map,length_range]) (by rw [<-hL];exact he) a6 a7 fun j hj i=> ?_
 . rw [length_map,length_range]at hj
   have e:((List.range fs.length).map T).getD j []=T j:=by
    rw [getD_eq_getElem?_getD,getElem?_map,getElem?_range hj]
    rfl
   rw [e]
   exact(hz j hj).mono s5
 . have e:((List.range fs.length).map T).getD j []=T j:=by
    rw [getD_eq_getElem?_getD,getElem?_map,getElem?_range hj]
    rfl
   rw [e,<-hL,am j hj i]
   omega
noncomputable def Nf (fs:List (List Int)):Nat->Nat->Int:=fun c i=>co (fs.getD c []) i
noncomputable def Keeps (s:Nat) (B:List (List Int)->Prop):Prop:=∀(f g t:List (List Int)) (u:List Int) (L β:Int),β≠0->f.length=s->g.length=s->t.length=s->B f->B g->(∀c,c<s->∀i,L*co (f.getD c []) i=β*co (t.getD c []) i+mu u (co (g.getD c [])) i)->B t
noncomputable def LrR (K:Frag) (p q:List Int) (s l b:Nat) (B:List (List Int)->Prop) (Q:VK) (H:Hp):Prop:=∀(z:V) (H':Hp) (hs:List (List Int)),Same H H'->Rw K H' z hs (2*l) ((b+6)*(2*l)+1)->hs.length=s->Gc p q (pln (hs.getD 0 []))->B hs->Q z H'
noncomputable def Ao7 (K:Frag) (cnd:Nat->Nat->Prop):Sp:=fun vs H Q _=>∃(x y:V) (fs gs:List (List Int)) (l b:Nat) (B:List (List Int)->Prop),vs=[x,y]/\Rw K H x fs l b/\Rw K H y gs l b/\gs.length=fs.length/\1<=fs.length/\fs.length<=3/\l<=30/\1<=l/\1<=b/\(4*l+l*l)*(b+6)+4*l+10<=750000/\B fs/\B gs/\Keeps fs.length B/\cnd (fs.getD 0 []).length (gs.getD 0 []).length/\LrR K (fs.getD 0 []) (gs.getD 0 []) fs.length l b B Q H
noncomputable def W0 (K:Frag):Sp:=Ao7 K fun x y=>y<=x
noncomputable def Np (K:Frag):Sp:=Ao7 K fun _ _=>True
local macro_rules | `(tactic| omega) => `(tactic| lia)
theorem RwV.weak {H:Hp}{I:List V}{fs:List (List Int)}{l n J n2:Nat} (h:RwV K H I fs l n) (h1:l<=J) (h2:n<=n2):RwV K H I fs J n2:=⟨h.1,fun c z=>⟨(h.2 c z).1,(h.2 c z).2.1,le_trans (h.2 c z).2.2.1 h1,fun i=>((h.2 c z).2.2.2 i).mono h2⟩⟩
theorem Rw.weak {H:Hp}{x:V}{fs:List (List Int)}{l n z n2:Nat} (h:Rw K H x fs l n) (h1:l<=z) (h2:n<=n2):Rw K H x fs z n2:=by
 obtain⟨a,I,e,t,r⟩:=h
 exact⟨a,I,e,t,r.weak h1 h2⟩
theorem Rw.abs {H:Hp}{x:V}{fs:List (List Int)}{l n:Nat} (h:Rw K H x fs l n) (c i:Nat):(Nf fs c i).natAbs<=2^n:=by
 obtain⟨a,I,e,t,r⟩:=h
 unfold Nf
 by_cases z:c<fs.length
 . exact le_of_lt ((r.2 c z).2.2.2 i)
 . rw [getD_eq_getElem?_getD,getElem?_eq_none (by omega)]
   show(co [] i).natAbs<=_
   rw [Bv]
   simp
theorem Rw.top {H:Hp}{x:V}{fs:List (List Int)}{l n:Nat} (h:Rw K H x fs l n) (c i:Nat) (hi:l<=i):Nf fs c i=0:=by
 obtain⟨a,I,e,t,r⟩:=h
 unfold Nf
 by_cases z:c<fs.length
 . exact Ck (le_trans (r.2 c z).2.2.1 hi)
 . rw [getD_eq_getElem?_getD,getElem?_eq_none (by omega)]
   exact Bv i
theorem Rw.first {H:Hp}{x:V}{fs:List (List Int)}{l n:Nat} (h:Rw K H x fs l n) (h1:1<=fs.length):∃a z,x= .ref a/\SqT K H a z/\atI z 0=some (z.getD 0 .non)/\Po K H (z.getD 0 .non) (fs.getD 0 []) l n:=by
 obtain⟨a,z,e,t,r⟩:=h
 exact⟨a,z,e,t,getD_at (j:=0) (by have:=r.1;omega),r.2 0 (by omega)⟩
theorem Ve (fs:List (List Int)) {n:Nat} (h:(fs.getD 0 []).length<=n):Dg (Nf fs) n:=fun i hi=>Ck (by omega)
theorem Xw (u:List Int) (i:Nat):mu u (co []) i=0:=by
 have:mu u (fun _=>0) i=0:=congrFun (Ru u) i
 rw [<-this]
 exact N5 (fun k=>Bv k) u i
theorem Vd {fs:List (List Int)}{c:Nat} (h:fs.length<=c):fs.getD c []=[]:=by
 rw [getD_eq_getElem?_getD,getElem?_eq_none h]
 rfl
theorem Amz {f g t:List (List Int)}{u:List Int}{L z:Int}{s:Nat} (J:f.length=s) (M:g.length=s) (O:t.length=s) (h:∀c,c<s->∀i,L*co (f.getD c []) i=z*co (t.getD c []) i+mu u (co (g.getD c [])) i) (c i:Nat):L*Nf f c i=z*Nf t c i+mu u (Nf g c) i:=by
 by_cases I:c<s
 . exact h c I i
 . unfold Nf
   rw [Vd (fs:=f) (by omega),Vd (fs:=t) (by omega),Vd (fs:=g) (by omega),Bv,Xw]
   simp
theorem V7 {F1 F2:Nat->Nat->Int}{n1 n2:Nat}{f g:List (List Int)}{l h:Int}{s:Nat} (S:f.length=s) (U:g.length=s) (ch:Chn F1 n1 F2 n2 (Nf f) ((f.getD 0 []).length-1) (Nf g) ((g.getD 0 []).length-1) l h) (tg:Tr (g.getD 0 [])) (I:2<=(g.getD 0 []).length) (M:(g.getD 0 []).length<=(f.getD 0 []).length) {u r:List Int}
 (O:∀k,co (g.getD 0 []) ((g.getD 0 []).length-1)^((f.getD 0 []).length-(g.getD 0 []).length+1)*co (f.getD 0 []) k=mu u (co (g.getD 0 [])) k+co r k) (W:r.length<(g.getD 0 []).length) (Y:u.length<=(f.getD 0 []).length-(g.getD 0 []).length+1):
 ∃e,Sg e/\∀c i,co (g.getD 0 []) ((g.getD 0 []).length-1)^((f.getD 0 []).length-(g.getD 0 []).length+1)*Nf f c i-mu u (Nf g c) i=l*h^((f.getD 0 []).length-(g.getD 0 []).length)*(e*Sr ((g.getD 0 []).length-1-1) F1 n1 F2 n2 (c,i)):=by
 have ng:g.getD 0 []≠ []:=fun z=>by rw [z]at I;exact absurd I (by decide)
 have J:(f.getD 0 []).length-1-((g.getD 0 []).length-1)=(f.getD 0 []).length-(g.getD 0 []).length:=by omega
 have z:=ch.rest (R:=fun c i=>co (g.getD 0 []) ((g.getD 0 []).length-1)^((f.getD 0 []).length-(g.getD 0 []).length+1)*Nf f c i-mu u (Nf g c) i) (q:=u) (Ve g (by omega)) (fun i hi=>by
  show _*co (f.getD 0 []) i-mu u (co (g.getD 0 [])) i=0
  rw [O,Ck (p:=r) (by omega)]
  omega) (by omega) (by omega) (by omega) (tg.lead ng) (fun c i=>by
  rw [J]
  show co (g.getD 0 []) ((g.getD 0 []).length-1)^_*_=_
  omega)
 rw [J]at z
 exact z
theorem Wb {f:Addr}{fd:FuncData} (F:Df K mg "last_row" Ml ["first","second"] f fd)  (py:Pyl P base) (c_degree:Cal P w K mg base 33 "degree" ["one"] (Gh K)) (c_next_row:Cal P w K mg base 38 "next_row" ["first","second","known"] (Nq K)) (c_whole_power:Cal P w K mg base 36 "whole_power" ["number","many"] (Gn K)):Ti P w K mg base CX0 39 f fd ["first","second"] (W0 K):=by
 refine F.fn.ok Cq (fun vs H Q E h=> ?_) (fun bj A outer s H vs Q E hr h=> ?_)
 . obtain⟨x,y,fs,S,_,_,_,rfl,_⟩:=h
   rfl
 obtain⟨x,y,fs,S,l,b,B,rfl,hx,hy,ar,bl,bm,bd,bn,bo,as,bf,bg,Kp,ai,k⟩:=h
 obtain⟨ax,vx,ex,tx,au,a8⟩:=hx.first (by omega)
 obtain⟨ay,vy,ey,ty,b1,a1⟩:=hy.first (by omega)
 refine Ax ⟨_,(Ad (Ay (Am Wo (Af c_degree hr (Aa (Aw Bx (Ae 0) Ac (fun _ _=>rfl)) Ab)) (Af c_degree hr (Aa (Aw Bx (Ae 1) Ac (fun _ _=>rfl)) Ab)) (Bb _)) (Ag Rg) Ar)
  (Ad (Ak 2 Cq.nd Ac)
  (Ad (Ak 3 Cq.nd Ac)
  (Ad (Fq PassesOwn.never (Am R3 (Af c_degree hr (Aa (Aw Bx (Ae 1) Ac (fun _ _=>rfl)) Ab)) Ac (Bb _)) (Ad (Ak 4 Cq.nd (Ah Em (Af c_degree hr (Aa (Aw Bx (Ae 0) Ac (fun _ _=>rfl)) Ab)) (Af c_degree hr (Aa (Aw Bx (Ae 1) Ac (fun _ _=>rfl)) Ab))))
  (Ad (Ak 5 Cq.nd (Ah Cr (Ae 2) (Af c_whole_power hr (Aa (Ae 3) (Aa (Ae 4) Ab)))))
  (Ad (Ak 6 Cq.nd (Af c_next_row hr (Aa (Ae 0) (Aa (Ae 1) (Aa (Ae 5) Ab)))))
  (Ad (Ak 2 Cq.nd (Aw Bx (Aw Bx (Ae 1) Ac (fun _ _=>rfl)) (Bd Ce Ac) (fun _ _=>rfl)))
  (Ad (Ay (Am R3 (Ae 4) Ac (Bb _)) (Ag (Ak 3 Cq.nd (Ah (Mi py (hr.far (by decide)) rfl rfl rfl rfl rfl) (Af c_whole_power hr (Aa (Ae 2) (Aa (Ae 4) Ab))) (Af c_whole_power hr (Aa (Ae 3) (Aa (Ah Em (Ae 4) Ac) Ab)))))) Ar)
  (Ag (Im (i:=0) (j:=1) rfl Cq.nd rfl rfl (by decide) rfl rfl (Aa (Ae 1) (Aa (Ae 6) Ab)) rfl))))))))
  (Ag (Aj (M8 (Am (Fl hr.units) (Aw Bx (Ae 1) Ac (fun _ _=>rfl)) (Al Ab) (Bb _)) (Ae 0) (Ae 1)))))))),?_⟩
 refine Bp (fun I H'=>Same H H'/\I=[some x,some y,none,none,none,none,none]) (fun N hN=> ?_) ?_
 . done
   rw [ex,ey]at hN ⊢
   refine En tx au (Fg a8 (Same.refl _) ?_)
   try done
   refine En ty b1 (Fg a1 (Same.refl _) ?_)
   try done
   rw [if_neg (by have:(S.getD 0 []).length<=(fs.getD 0 []).length:=ai;omega)]
   exact hN _ _ ⟨Same.refl _,rfl⟩
 rintro σ H1 ⟨s1,rfl⟩
 clear ex ey tx ty
 obtain⟨N,hN⟩:∃N,N=(b+6)*(2*l)+1:=⟨_,rfl⟩
 have b2:N<=400000:=by
  have:(4*l)*(b+6)<=(4*l+l*l)*(b+6):=mul_le_mul_right _ (le_add_right _ _)
  have e:(4*l)*(b+6)=2*((b+6)*(2*l)):=by grind
  omega
 have kb:∀x st:Nat,x<=(fs.getD 0 []).length-1->st<=x->N+st*((b+6)*((fs.getD 0 []).length-1+((S.getD 0 []).length-1)-2*x)+1)+3<=400000:=fun x st hx b3=>by
  have lf:=(a8.2.2.1)
  have lg:=(a1.2.2.1)
  have z:=Aai (l:=l) (b:=b) (n1:=(fs.getD 0 []).length-1) (n2:=(S.getD 0 []).length-1) (x:=x) (s:=st) (by omega) (by omega) hx b3
  have e:(4*l+l*l)*(b+6)=2*((b+6)*(2*l))+l*l*(b+6):=by grind
  omega
 have LB:b<=N:=by
  have:(b+6)*1<=(b+6)*(2*l):=mul_le_mul_left _ (by omega)
  omega
 refine Bp (fun I H'=>H1=H'/\I=[some x,some y,some (.int 1),none,none,none,none]) (fun N hN=> ?_) ?_
 . done
   exact hN _ _ ⟨rfl,rfl⟩
 rintro σ H2 ⟨rfl,rfl⟩
 refine Bp (fun I H'=>H1=H'/\I=[some x,some y,some (.int 1),some (.int 1),none,none,none]) (fun N hN=> ?_) ?_
 . done
   exact hN _ _ ⟨rfl,rfl⟩
 rintro σ H2 ⟨rfl,rfl⟩
 refine Bp (fun I H'=>Same H1 H'/\∃(v w:V) (f g:List (List Int)) (o2 o3 o4 o5 o6:Option V),I=[some v,some w,o2,o3,o4,o5,o6]/\Rw K H' v f (2*l) N/\Rw K H' w g (2*l) N/\f.length=fs.length/\g.length=fs.length/\(g.getD 0 []).length<2/\Ow (f.getD 0 []) (g.getD 0 []) (fs.getD 0 []) (S.getD 0 [])/\B f/\B g) (fun M hM=> ?_) ?_
 . done
   refine Ae0 (fun m I H'=>Same H1 H'/\∃(v w:V) (f g:List (List Int)) (ld W:Int) (o4 o5 o6:Option V),I=[some v,some w,some (.int ld),some (.int W),o4,o5,o6]/\m=(g.getD 0 []).length/\Rw K H' v f (2*l) N/\Rw K H' w g (2*l) N/\f.length=fs.length/\g.length=fs.length/\(g.getD 0 []).length<=(f.getD 0 []).length/\(f.getD 0 []).length<=(fs.getD 0 []).length/\(g.getD 0 []).length<=(S.getD 0 []).length/\ld≠0/\Sz N ld/\W≠0/\Sz ((b+6)*((fs.getD 0 []).length-1+((S.getD 0 []).length-1)-2*((f.getD 0 []).length-1))+1) W/\
    (g.getD 0 []≠ []->Chn (Nf fs) ((fs.getD 0 []).length-1) (Nf S) ((S.getD 0 []).length-1) (Nf f) ((f.getD 0 []).length-1) (Nf g) ((g.getD 0 []).length-1) ld W)/\Ow (f.getD 0 []) (g.getD 0 []) (fs.getD 0 []) (S.getD 0 [])/\B f/\B g) _
    ⟨Same.refl _,x,y,fs,S,1,1,_,_,_,rfl,rfl,(hx.mono s1).weak (by omega) LB,(hy.mono s1).weak (by omega) LB,rfl,ar,ai,le_refl _,le_refl _,by decide,(show Sz 1 (1:Int)by unfold Sz;decide).mono (by omega),by decide,(show Sz 1 (1:Int)by unfold Sz;decide).mono (by omega),fun _=>Chn.start _ _ _ _,Ow.refl _ _,bf,bg⟩ ?_
   rintro m I H3 ⟨s3,v,w,f,g,ld,W,o4,o5,o6,rfl,rfl,iv,iw,lf,lg,aa,bp,be,aj,ak,a2,a3,ch,sm,Bf,Bg⟩
   obtain⟨av,vv,rfl,tv,am,ac⟩:=iv.first (by omega)
   obtain⟨aw,vw,rfl,tw,a4,Y⟩:=iw.first (by omega)
   done
   refine En tw a4 (Fg Y (Same.refl _) ?_)
   try done
   by_cases ad:(0:Int)<((g.getD 0 []).length:Int)-1
   case neg=>
    rw [if_neg ad]
    exact hM _ _ ⟨s3,_,_,f,g,_,_,_,_,_,rfl,iv,iw,lf,lg,by omega,sm,Bf,Bg⟩
   rw [if_pos ad]
   have g2:2<=(g.getD 0 []).length:=by omega
   have gn:g.getD 0 []≠ []:=fun z=>by rw [z]at g2;exact absurd g2 (by decide)
   replace ch:=ch gn
   obtain⟨J,ae⟩:∃J,J=(f.getD 0 []).length-(g.getD 0 []).length:=⟨_,rfl⟩
   obtain⟨U,O⟩:∃x,x=co (g.getD 0 []) ((g.getD 0 []).length-1):=⟨_,rfl⟩
   have a5:U≠0:=by rw [O];exact Y.2.1.lead gn
   have bq:=a8.2.2.1
   have bits:=kb ((f.getD 0 []).length-1) J (by omega) (by omega)
   have pz:=Ud a3 J
   have bz:Sz LIM (ld*W^J):=(ak.mul pz).mono (by
    rw [Ag6]
    rw [Nat.mul_comm _ J]
    omega)
   have a6:ld*W^J≠0:=mul_ne_zero aj (Oc a2 _)
   have br:(b+6)*((fs.getD 0 []).length-1+((S.getD 0 []).length-1)-2*((f.getD 0 []).length-1))<=(b+6)*(2*l):=mul_le_mul_left _ (by have:=a1.2.2.1;omega)
   refine Ani ?_
   refine Bp (fun I H'=>H'=H3/\I=[some (.ref av),some (.ref aw),some (.int ld),some (.int W),some (.int (J:Nat)),o5,o6]) (fun N hN=> ?_) ?_
   . done
     refine En tv am (Fg ac (Same.refl _) ?_)
     try done
     refine En tw a4 (Fg Y (Same.refl _) ?_)
     try done
     have e:((f.getD 0 []).length:Int)-1-(((g.getD 0 []).length:Int)-1)=(J:Nat):=by omega
     rw [e]
     exact hN _ _ ⟨rfl,rfl⟩
   rintro I H4 ⟨rfl,rfl⟩
   refine Bp (fun I H'=>Same H4 H'/\I=[some (.ref av),some (.ref aw),some (.int ld),some (.int W),some (.int (J:Nat)),some (.int (ld*W^J)),o6]) (fun M' Z=> ?_) ?_
   . done
     refine Z2 rfl a2 a3 (by omega) (by omega) fun H' s'=> ?_
     try done
     exact⟨ak.mulOk pz (by rw [Nat.mul_comm _ J];omega),Z _ _ ⟨s',rfl⟩⟩
   rintro I H5 ⟨s5,rfl⟩
   refine Bp (fun I H'=>Same H4 H'/\∃(t:V) (ts:List (List Int)) (u r:List Int) (e:Int),I=[some (.ref av),some (.ref aw),some (.int ld),some (.int W),some (.int (J:Nat)),some (.int (ld*W^J)),some t]/\Rw K H' t ts (2*l) N/\ts.length=fs.length/\(ts.getD 0 []).length<(g.getD 0 []).length/\u.length<=J+1/\(∀c,c<fs.length->∀i,U^(J+1)*co (f.getD c []) i=ld*W^J*co (ts.getD c []) i+mu u (co (g.getD c [])) i)) (fun M' Z=> ?_) ?_
   . done
     refine⟨_,_,_,f,g,2*l,N,rfl,iv.mono s5,iw.mono s5,by omega,by omega,by omega,by omega,b2,gn,aa,by omega,a6,bz,fun u r he hr hu c hc i=> ?_,fun z H6 ts u r s6 iz lz he hr hu a0=> ?_⟩
     . obtain⟨e,_,a9⟩:=V7 lf lg ch Y.2.1 g2 aa he hr hu
       have:=a9 c i
       unfold Nf at this
       rw [this,<-ae]
       exact⟨_,rfl⟩
     . obtain⟨e,b4,a9⟩:=V7 lf lg ch Y.2.1 g2 aa he hr hu
       rw [<-ae,<-O]at a9 a0
       have Tv:∀c,c<fs.length->∀i,co (ts.getD c []) i=e*Sr ((g.getD 0 []).length-1-1) (Nf fs) ((fs.getD 0 []).length-1) (Nf S) ((S.getD 0 []).length-1) (c,i):=fun c hc i=>by
        have h1:U^(J+1)*co (f.getD c []) i-mu u (co (g.getD c [])) i=_:=a9 c i
        have h2:=a0 c (by omega) i
        refine eq_of_mul_eq_mul_left a6 (Eq.trans ?_ h1)
        omega
       have ab:∀c i,(Sr ((g.getD 0 []).length-1-1) (Nf fs) ((fs.getD 0 []).length-1) (Nf S) ((S.getD 0 []).length-1) (c,i)).natAbs<=2^((b+6)*(2*l)):=fun c i=>by
        have bh:=a1.2.2.1
        refine le_trans (Ah9 hx.abs hy.abs (by omega) (by omega) (by omega) (c,i)) (Nat.pow_le_pow_right (by decide) (mul_le_mul_left _ (by omega)))
       obtain⟨az,vz,rfl,tz,b5,an⟩:=iz
       refine Z _ _ ⟨s5.trans s6,_,ts,u,r,e,rfl,⟨az,vz,rfl,tz,b5,fun c hc=> ?_⟩,by omega,?_,by omega,fun c hc i=>a0 c (by omega) i⟩
       . have hp:=an c hc
         refine⟨hp.1,hp.2.1,?_,fun i=> ?_⟩
         . have h:=hp.2.1.len (q:=(ts.getD c []).take (2*l)) fun i=>by
            rw [Jo]
            split
            . rfl
            . rw [Tv c (by omega),Aj9 (l:=l) hx.top hy.top (by have:=a8.2.2.1;omega) (by have:=a1.2.2.1;omega) c i (by omega),Int.mul_zero]
           rw [length_take]at h
           omega
         . rw [Tv c (by omega)]
           unfold Sz
           rw [natAbs_mul]
           have:e.natAbs=1:=by rcases b4 with rfl | rfl<;>rfl
           rw [this,Nat.one_mul,hN]
           exact lt_of_le_of_lt (ab c i) (pow_lt_pow_right (by decide) (by omega))
       . have hp:=(an 0 (by omega)).2.1
         have h:=hp.len (q:=(ts.getD 0 []).take r.length) fun i=>by
          rw [Jo]
          split
          . rfl
          . have h1:=a0 0 (by omega) i
            have h2:=he i
            rw [<-ae,<-O,Ck (p:=r) (by omega)]at h2
            have:ld*W^J*co (ts.getD 0 []) i=0:=by omega
            rcases mul_eq_zero.mp this with z | z
            . exact absurd z a6
            . exact z
         rw [length_take]at h
         omega
   rintro I H6 ⟨s6,t,ts,u,r,e,rfl,it,lt,b6,hu,a0⟩
   refine Bp (fun I H'=>H'=H6/\I=[some (.ref av),some (.ref aw),some (.int U),some (.int W),some (.int (J:Nat)),some (.int (ld*W^J)),some t]) (fun M' Z=> ?_) ?_
   . done
     obtain⟨⟨b0,af,ag⟩,_⟩:=id Y
     refine En (s6.tup tw) a4 ?_
     rw [af]
     refine En (s6.tup ag) (Ia gn) ?_
     try done
     rw [<-O]
     exact Z _ _ ⟨rfl,rfl⟩
   rintro I H7 ⟨rfl,rfl⟩
   have ao:Sz N U:=by rw [O];exact Y.2.2.2 _
   refine Bp (fun I H'=>Same H7 H'/\∃h':Int,I=[some (.ref av),some (.ref aw),some (.int U),some (.int h'),some (.int (J:Nat)),some (.int (ld*W^J)),some t]/\h'≠0/\Sz ((b+6)*((fs.getD 0 []).length-1+((S.getD 0 []).length-1)-2*((g.getD 0 []).length-1))+1) h'/\(((f.getD 0 []).length-1=(g.getD 0 []).length-1/\h'=W)\/((g.getD 0 []).length-1<(f.getD 0 []).length-1/\W^((f.getD 0 []).length-1-((g.getD 0 []).length-1)-1)*h'=U^((f.getD 0 []).length-1-((g.getD 0 []).length-1))))) (fun M' Z=> ?_) ?_
   . done
     by_cases ap:(0:Int)<(J:Nat)
     . rw [if_pos ap]
       obtain⟨e2,b7,hh⟩:=ch.height (Ve g (by omega)) (by omega)
       have bi:=a1.2.2.1
       have b8:Sz ((b+6)*((fs.getD 0 []).length-1+((S.getD 0 []).length-1)-2*((g.getD 0 []).length-1))+1) (e2*Sr ((g.getD 0 []).length-1) (Nf fs) ((fs.getD 0 []).length-1) (Nf S) ((S.getD 0 []).length-1) (0,(g.getD 0 []).length-1)):=by
        unfold Sz
        rw [natAbs_mul]
        have:e2.natAbs=1:=by rcases b7 with rfl | rfl<;>rfl
        rw [this,Nat.one_mul]
        exact lt_of_le_of_lt (Ah9 hx.abs hy.abs (by omega) (by omega) (by omega) _) (pow_lt_pow_right (by decide) (by omega))
       generalize e2*Sr ((g.getD 0 []).length-1) (Nf fs) ((fs.getD 0 []).length-1) (Nf S) ((S.getD 0 []).length-1) (0,(g.getD 0 []).length-1)=h' at*
       have a7:W^((f.getD 0 []).length-1-((g.getD 0 []).length-1)-1)*h'=U^((f.getD 0 []).length-1-((g.getD 0 []).length-1)):=by rw [O];exact hh
       have ed:(f.getD 0 []).length-1-((g.getD 0 []).length-1)=J:=by omega
       have ah:h'≠0:=fun z=>by
        rw [z,Int.mul_zero]at a7
        exact Oc a5 _ a7.symm
       have bt:=Ud a3 (J-1)
       have aq:=Oc a2 (J-1)
       have pb:(J-1)*((b+6)*((fs.getD 0 []).length-1+((S.getD 0 []).length-1)-2*((f.getD 0 []).length-1))+1)<=J*((b+6)*((fs.getD 0 []).length-1+((S.getD 0 []).length-1)-2*((f.getD 0 []).length-1))+1):=mul_le_mul_right _ (by omega)
       refine Z2 rfl a5 ao (by omega) (by omega) fun Ha sa=> ?_
       try done
       refine Z2 (m:=J-1) (by omega) a2 a3 (by omega) (by omega) fun Hb sb=> ?_
       try done
       refine⟨aq,?_⟩
       have ef:(U^J).fdiv (W^(J-1))=h':=by
        rw [ed]at a7
        rw [<-a7,Int.mul_fdiv_cancel_left _ aq]
       rw [ef]
       exact Z _ _ ⟨sa.trans sb,h',rfl,ah,b8,.inr ⟨by omega,a7⟩⟩
     . rw [if_neg ap]
       have el:(f.getD 0 []).length=(g.getD 0 []).length:=by omega
       refine Z _ _ ⟨Same.refl _,W,rfl,a2,?_,.inl ⟨by omega,rfl⟩⟩
       rw [<-el]
       exact a3
   rintro I H8 ⟨s8,h',rfl,ah,b9,hh⟩
   done
   refine⟨(ts.getD 0 []).length,b6,s3.trans (s6.trans s8),.ref aw,t,g,ts,U,h',_,_,_,rfl,rfl,iw.mono (s6.trans s8),it.mono s8,lg,lt,by omega,by omega,by omega,a5,ao,ah,b9,fun tn=> ?_,?_,Bg,?_⟩
   . have:=ch.next (T:=Nf ts) (k:=(ts.getD 0 []).length-1) (q:=u) (h':=h') (Ve g (by omega)) (Ve ts (by omega)) (by omega) (by omega) (by have:=length_pos_iff.mpr tn;omega) (by show co (g.getD 0 []) _≠0;rw [<-O];exact a5) aj a2 (fun c i=> ?_) (by
      rcases hh with z | z
      . exact .inl z
      . exact .inr ⟨z.1,by show _=co (g.getD 0 []) _^_;rw [<-O];exact z.2⟩)
     . show Chn _ _ _ _ (Nf g) _ (Nf ts) _ U h'
       rw [O]
       exact this
     . have ed:(f.getD 0 []).length-1-((g.getD 0 []).length-1)=J:=by omega
       rw [ed]
       show co (g.getD 0 []) _^_*_=_
       rw [<-O]
       exact Amz lf lg lt a0 c i
   . refine Ow.trans (Aa4 (Oc a5 (J+1)) a6 (a0 0 (by omega))) sm
   . exact Kp f g ts u _ _ a6 lf lg lt Bf Bg a0
 rintro σ H3 ⟨s3,v,w,f,g,o2,o3,o4,o5,o6,rfl,iv,iw,lf,lg,ad,sm,Bf,Bg⟩
 obtain⟨av,vv,rfl,tv,am,ac⟩:=iv.first (by omega)
 obtain⟨aw,vw,rfl,tw,a4,Y⟩:=iw.first (by omega)
 rw [hN]at iv iw
 done
 refine En tw a4 ?_
 try done
 refine⟨by decide,fun e0 ba=> ?_⟩
 have se:=Same.upd ba (.tup [])
 obtain⟨⟨b0,af,ag⟩,bb,_,_⟩:=id Y
 rw [af]
 refine Bu (ms:=[]) (se.tup ag) (.of Ao) ?_
 try done
 by_cases hg:g.getD 0 []=[]
 . rw [if_pos hg]
   rw [hg]at sm
   exact k _ _ f ((s1.trans s3).trans se) (iv.mono se) lf (Alh ac.2.1 sm) Bf
 . rw [if_neg hg]
   have bc:(g.getD 0 []).length=1:=by
    have:=length_pos_iff.mpr hg
    omega
   obtain⟨c,hc⟩:∃c,g.getD 0 []=[c]:=by
    match hm:g.getD 0 [],bc with
    | [c],_=>exact⟨c,rfl⟩
   have c0:c≠0:=by
    have:=bb.lead hg
    rw [hc]at this
    exact this
   rw [hc]at sm
   exact k _ _ g ((s1.trans s3).trans se) (iw.mono se) lg (by rw [hc];exact Afo c0 sm) Bg
theorem Aiv {k:Nat}{f:Addr}{fd:FuncData}{ps:List Str}{I s2 J:Sp} (a:Ti P w K mg base CX0 k f fd ps I) (b:Ti P w K mg base CX0 k f fd ps s2) (h:∀z H Q E,J z H Q E->I z H Q E\/s2 z H Q E):Ti P w K mg base CX0 k f fd ps J:=
 ⟨fun z H Q E q=>(h _ _ _ _ q).elim (a.len z H Q E) (b.len z H Q E),fun A outer s H args M z Q E O S U hv W=>(h _ _ _ _ W).elim (a.run A outer s H args M z Q E O S U hv) (b.run A outer s H args M z Q E O S U hv)⟩
theorem Xy {f:Addr}{fd:FuncData} (F:Df K mg "last_row" Ml ["first","second"] f fd)  (py:Pyl P base) (c_degree:Cal P w K mg base 33 "degree" ["one"] (Gh K)) (c_next_row:Cal P w K mg base 38 "next_row" ["first","second","known"] (Nq K)) (c_whole_power:Cal P w K mg base 36 "whole_power" ["number","many"] (Gn K)):Cal P w K mg base 40 "last_row" ["first","second"] (Np K):=by
 have fo:=Wb (P:=P) (w:=w) (base:=base) F (py:=py) (c_degree:=c_degree) (c_whole_power:=c_whole_power) (c_next_row:=c_next_row)
 have J:=F.cal fo
 refine F.cal (Aiv (s2:=Ao7 K fun x y=>x<y) (fo.mono (by decide)) (F.fn.ok Cq (fun vs H Q E h=> ?_) (fun a5 A outer s H vs Q E O h=> ?_)) fun vs H Q E h=> ?_)
 . obtain⟨x,y,fs,gs,_,_,_,rfl,_⟩:=h
   rfl
 . obtain⟨x,y,fs,gs,l,b,B,rfl,hx,hy,S,Y,Z,M,U,W,I,bf,bg,Kp,a0,k⟩:=h
   obtain⟨ax,vx,ex,tx,a1,a2⟩:=hx.first (by omega)
   obtain⟨ay,vy,ey,ty,a3,a4⟩:=hy.first (by omega)
   refine Ax ⟨_,(Ad (Ay (Am Wo (Af c_degree O (Aa (Aw Bx (Ae 0) Ac (fun _ _=>rfl)) Ab)) (Af c_degree O (Aa (Aw Bx (Ae 1) Ac (fun _ _=>rfl)) Ab)) (Bb _)) (Ag (Aj (Af J O (Aa (Ae 1) (Aa (Ae 0) Ab))))) Ar)
    (Ad (Ak 2 Cq.nd Ac)
    (Ad (Ak 3 Cq.nd Ac)
    (Ad (Fq PassesOwn.never (Am R3 (Af c_degree O (Aa (Aw Bx (Ae 1) Ac (fun _ _=>rfl)) Ab)) Ac (Bb _)) (Ad (Ak 4 Cq.nd (Ah Em (Af c_degree O (Aa (Aw Bx (Ae 0) Ac (fun _ _=>rfl)) Ab)) (Af c_degree O (Aa (Aw Bx (Ae 1) Ac (fun _ _=>rfl)) Ab))))
    (Ad (Ak 5 Cq.nd (Ah Cr (Ae 2) (Af c_whole_power O (Aa (Ae 3) (Aa (Ae 4) Ab)))))
    (Ad (Ak 6 Cq.nd (Af c_next_row O (Aa (Ae 0) (Aa (Ae 1) (Aa (Ae 5) Ab)))))
    (Ad (Ak 2 Cq.nd (Aw Bx (Aw Bx (Ae 1) Ac (fun _ _=>rfl)) (Bd Ce Ac) (fun _ _=>rfl)))
    (Ad (Ay (Am R3 (Ae 4) Ac (Bb _)) (Ag (Ak 3 Cq.nd (Ah (Mi py (O.far (by decide)) rfl rfl rfl rfl rfl) (Af c_whole_power O (Aa (Ae 2) (Aa (Ae 4) Ab))) (Af c_whole_power O (Aa (Ae 3) (Aa (Ah Em (Ae 4) Ac) Ab)))))) Ar)
    (Ag (Im (i:=0) (j:=1) rfl Cq.nd rfl rfl (by decide) rfl rfl (Aa (Ae 1) (Aa (Ae 6) Ab)) rfl))))))))
    (Ag (Aj (M8 (Am (Fl O.units) (Aw Bx (Ae 1) Ac (fun _ _=>rfl)) (Al Ab) (Bb _)) (Ae 0) (Ae 1)))))))),?_⟩
   done
   rw [ex,ey]
   refine En tx a1 (Fg a2 (Same.refl _) ?_)
   try done
   refine En ty a3 (Fg a4 (Same.refl _) ?_)
   try done
   rw [if_pos (by omega),<-ex,<-ey]
   exact⟨y,x,gs,fs,l,b,B,rfl,hy,hx,by omega,by omega,by omega,M,U,W,I,bg,bf,by rw [S];exact Kp,by show(fs.getD 0 []).length<=_;omega,fun z H' hs s' iz lz gc Bh=>k z H' hs s' iz (by omega) gc.symm Bh⟩
 . obtain⟨x,y,fs,gs,l,b,B,e,hx,hy,S,Y,Z,M,U,W,I,bf,bg,Kp,_,k⟩:=h
   by_cases a0:(gs.getD 0 []).length<=(fs.getD 0 []).length
   . exact .inl ⟨x,y,fs,gs,l,b,B,e,hx,hy,S,Y,Z,M,U,W,I,bf,bg,Kp,a0,k⟩
   . exact .inr ⟨x,y,fs,gs,l,b,B,e,hx,hy,S,Y,Z,M,U,W,I,bf,bg,Kp,by omega,k⟩
theorem Ah5 {H:Hp}{a:Addr}{v:V}{p:List Int}{l n:Nat} (h:SqT K H a [v]) (z:Po K H v p l n):Rw K H (.ref a) [p] l n:=⟨a,[v],rfl,h,rfl,fun c I=>by
 have:c=0:=by simpa using I
 subst this
 exact z⟩
noncomputable def Few (l b:Nat):Prop:=l<=30/\1<=l/\1<=b/\(4*l+l*l)*(b+6)+4*l+10<=750000
theorem Few.bits {l b:Nat} (h:Few l b):(b+6)*(2*l)+1<=400000:=by
 obtain⟨_,_,_,h⟩:=h
 have:(4*l)*(b+6)<=(4*l+l*l)*(b+6):=mul_le_mul_right _ (le_add_right _ _)
 have e:(4*l)*(b+6)=2*((b+6)*(2*l)):=by grind
 omega
noncomputable def S6 (K:Frag):Sp:=fun vs H Q _=>∃(x y:V) (p q:List Int) (l b:Nat),vs=[x,y]/\Po K H x p l b/\Po K H y q l b/\Few l b/\∀z H' g,Same H H'->Po K H' z g (2*l) ((b+6)*(2*l)+1)->Gc p q g->Q z H'
theorem Adi {f:Addr}{fd:FuncData} (F:Df K mg "shared" Vm ["one","other"] f fd)   (I:Cal P w K mg base 38 "surely_apart" ["one","other"] (Lz K)) (M:Cal P w K mg base 37 "plain" ["one"] (G6 K)) (J:Cal P w K mg base 40 "last_row" ["first","second"] (Np K)):Cal P w K mg base 41 "shared" ["one","other"] (S6 K):=by
 refine F.cal (F.fn.ok Aek (fun vs H Q E h=> ?_) (fun a4 A outer s H vs Q E hr h=> ?_))
 . obtain⟨x,y,p,q,_,_,rfl,_⟩:=h
   rfl
 obtain⟨x,y,p,q,l,b,rfl,hx,hy,O,k⟩:=h
 have fb:=O.bits
 obtain⟨f1,f2,f3,f4⟩:=O
 refine Ax ⟨_,(Ad (Ay (Bo (Af I hr (Aa (Ae 0) (Aa (Ae 1) Ab)))) (Ag (Aj (Al (Aa Ac Ab)))) Ar)
  (Ag (Aj (Af M hr (Aa (Aw Bx (Af J hr (Aa (Al (Aa (Ae 0) Ab)) (Aa (Al (Aa (Ae 1) Ab)) Ab))) Ac (fun _ _=>rfl)) Ab))))),?_⟩
 done
 refine⟨x,y,p,q,l,l,b,b,rfl,hx,hy,by omega,by omega,fun bb H1 s1 hb=> ?_⟩
 try done
 split
 . rename_i h
   intro z hz
   have sz:=Same.upd hz (.tup [V.int 1])
   refine k _ _ [1] (s1.trans sz) ⟨⟨z,rfl,.of Ao⟩,.inr ⟨by simp,by decide⟩,by simp;omega,fun i=>V8 (by omega) (fun x hx=>by
    have:x=1:=by simpa using hx
    subst this
    exact(show Sz 1 (1:Int)by unfold Sz;decide).mono (by omega)) i⟩ (hb h)
 . (intro q1 S;generalize U:upd _ q1 _=a5;obtain⟨a0,a1⟩:=nw S U;clear U S)
   (intro q2 W;generalize Y:upd _ q2 _=a6;obtain⟨Z,a2⟩:=nw W Y;clear Y W)
   have s2:=(s1.trans a0).trans Z
   refine⟨_,_,[p],[q],l,b,fun _=>True,rfl,Ah5 (.of (Z _ _ a1)) (hx.mono s2),Ah5 (.of a2) (hy.mono s2),rfl,le_refl 1,show 1<=3 by decide,f1,f2,f3,f4,trivial,trivial,fun _ _ _ _ _ _ _ _ _ _ _ _ _=>trivial,trivial,fun z H' hs s' iz lz gc _=> ?_⟩
   obtain⟨az,vz,rfl,tz,a3,pz⟩:=iz.first (by rw [lz];exact le_refl 1)
   refine En tz a3 ?_
   try done
   exact Ku pz (Same.refl _) (by omega) fb fun w H2 s3 iw=>k w H2 _ ((s2.trans s').trans s3) iw gc
theorem Ags {H H1 H2:Hp}{Q:VK}{E:XK}{x y:V}{p q:List Int}{l b:Nat} (I:Po K H1 x p l b) (J:Same H1 H) (M:Po K H2 y q l b) (s2:Same H2 H) (f:Few l b) (h:∀z H' g,Same H H'->Po K H' z g (2*l) ((b+6)*(2*l)+1)->Gc p q g->Q z H'):S6 K [x,y] H Q E:=⟨x,y,p,q,l,b,rfl,I.mono J,M.mono s2,f,h⟩
theorem Aqm (xs:List V):K6 xs (some 1) none=xs.drop 1:=by
 unfold K6
 rw [HT.Kd,show(some (1:Int))=some ((1:Nat):Int)from rfl,HT.O6]
 cases xs with
 | nil=>rfl
 | cons x r=>
   rw [min_eq_left (by simp),take_of_length_le (by simp)]
noncomputable def J3 (K:Frag):Sp:=fun vs H Q _=>∃(x:V) (p:List Int) (l n:Nat),vs=[x]/\Po K H x p l n/\l<=200/\n<=100000/\∀z H',Same H H'->Po K H' z (dr p) l (n+8)->Q z H'
theorem Aap {f:Addr}{fd:FuncData} (F:Df K mg "derived" Oe ["one"] f fd) (z:mg "tuple"=none) (z_enumerate:mg "enumerate"=none)   :Cal P w K mg base 33 "derived" ["one"] (J3 K):=by
 refine F.cal (F.fn.ok Aa7 (fun Y H Q E h=> ?_) (fun Z A outer s H Y Q E hr h=> ?_))
 . obtain⟨x,p,_,_,rfl,_⟩:=h
   rfl
 obtain⟨x,p,l,n,rfl,O,hl,hn,k⟩:=h
 obtain⟨⟨a,rfl,S⟩,tp,lp,zp⟩:=id O
 refine Ax ⟨_,(Ag (Aj (Ed Ey rfl z boot_tuple (Aa (Du Vp (Ea (ts:=["place","weight"]) (fs:=[]) rfl (Dl.of (sc:=Av Oe) (N:=["one"]) rfl rfl (by decide+kernel)) (J7 rfl z_enumerate (Aa (Ae 0) Ab)) (fun _ _ _=>(Aaa K 2 rfl rfl (Ai (Aq 0 (show Nodup (["place","weight"]:List Str)by decide+kernel)) (Ai (Aq 1 (show Nodup (["place","weight"]:List Str)by decide+kernel)) Ci)))) (fun _ _ _=>Dj) (fun _ _ _=>(Ah Cr (Ae 0) (Ae 1)))) (El Ac) Ek) Ab)))),?_⟩
 done
 refine⟨⟨_,S⟩,fun p1 J=>Akz (es:=p) (inj:=V.int) (fun i e=> .int ((i:Int)*e)) (le_trans lp (le_trans hl (by decide))) J S ?_ ?_⟩
 . intro i e b H2 R U W hb hR
   have hi:i<p.length:=(List.getElem?_eq_some_iff.mp U).1
   have ze:Sz n e:=O.mem e (List.mem_of_getElem? U)
   refine Nz (.of Ao) ?_
   done
   exact⟨(show Sz 8 ((i:Nat):Int)by unfold Sz;omega).mulOk ze (by omega),hR _ (Same.upd hb _)⟩
 intro H2 W h2
 have em:(p.mapIdx fun i e=>V.int ((i:Int)*e))=(p.mapIdx fun i e=>(i:Int)*e).map V.int:=by
  apply List.ext_getElem?
  intro i
  rw [getElem?_map,getElem?_mapIdx,getElem?_mapIdx]
  cases p[i]? <;>rfl
 rw [em]at h2
 have ec:K6 ((p.mapIdx fun i e=>(i:Int)*e).map V.int) (some 1) none=(dr p).map V.int:=by
  rw [Aqm,dr,map_drop]
 refine⟨p1,_,rfl,.of h2,fun p2 M=>⟨p2,_,rfl,.inl ⟨.of Ao,fun p3 I=> ?_⟩⟩⟩
 rw [ec]at I ⊢
 refine k _ _ ((W.trans (Same.upd M _)).trans (Same.upd I _)) ⟨⟨p3,rfl,.of Ao⟩,Ab8 tp,by rw [Rk];omega,fun i=> ?_⟩
 rw [Us]
 by_cases hi:i+1<p.length
 . exact((show Sz 8 ((i:Nat)+1:Int)by unfold Sz;omega).mul (zp (i+1))).mono (by omega)
 . rw [Ck (by omega),Int.mul_zero]
   exact Sz0 (by omega)
theorem S9 {H H1:Hp}{Q:VK}{E:XK}{x:V}{p:List Int}{l n:Nat} (I:Po K H1 x p l n) (J:Same H1 H) (M:l<=200) (O:n<=100000) (h:∀z H',Same H H'->Po K H' z (dr p) l (n+8)->Q z H'):J3 K [x] H Q E:=⟨x,p,l,n,rfl,I.mono J,M,O,h⟩
theorem Po.weak {H:Hp}{p:List Int}{v:V}{l n z n2:Nat} (h:Po K H v p l n) (h1:l<=z) (h2:n<=n2):Po K H v p z n2:=⟨h.1,h.2.1,le_trans h.2.2.1 h1,fun i=>(h.2.2.2 i).mono h2⟩
theorem Ut {p q:List Int} (z:Tr q) (I:q≠ []) (J:pln q=q) (dv:Dv q p):Exact p q:=O2 z I (by have:=Je z I;rwa [J]at this) dv
theorem Agx {H:Hp}{Q:VK}{p q:List Int}{l n:Nat} (tp:Tr p) (lp:p.length<=l) (Z:l<=13) (zp:∀i,Sz n (co p i)) (O:Tr q) (J:q≠ []) (pq:pln q=q) (dv:Dv q p) (k:∀z H' u,Same H H'->Po K H' z u l (n+141)->tm u q=p->Q z H'):WpR K p q Q H:=by
 refine⟨fun h=>absurd (Ut O J pq dv) h,fun z H' u s U e=> ?_⟩
 have I:tm u q=p:=(Gw _ _).ext tp fun i=>by rw [Dz,e]
 refine k z H' u s ?_ I
 obtain⟨M,lu,zu⟩:=U.2
 by_cases W:p=[]
 . have u0:u=[]:=Classical.byContradiction fun Y=>by
    rw [W]at I
    exact Anf M O Y J I
   subst u0
   exact⟨U.1,M,zero_le _,fun i=>by rw [Bv];exact Sz0 (by omega)⟩
 . have Y:u≠ []:=fun z=>W (by rw [<-I,z];rfl)
   have ul:=J4 M O Y J
   rw [I]at ul
   have q1:=length_pos_iff.mpr J
   refine⟨U.1,M,by omega,fun i=> ?_⟩
   have:=Adm (p:=p) (T:=u) (S:=q) (n:=n) (fun i=>by rw [e,K8]) ⟨p.length-1,tp.lead W⟩ (fun i=>le_of_lt (zp i)) (by omega) (by omega) i
   refine lt_of_le_of_lt this ?_
   exact pow_lt_pow_right (by decide) (by omega)
theorem Ahl {f g t u:List Int}{L z:Int} (h:∀i,L*co f i=z*co t i+mu u (co g) i) (x:Nat->Int) (i:Nat):L*mu f x i=z*mu t x i+mu u (mu g x) i:=by
 rw [<-Kv L f x i,<-Kv z t x i,<-Rr]
 have e:mu (f.map (L* ·)) x i=mu (al (t.map (z* ·)) (ml u g)) x i:=congrFun (Cm x _ _ fun k=>by rw [Ga,Oz,Ga,U3,h]) i
 rw [e,Qk]
noncomputable def Made (p q:List Int) (f:List (List Int)):Prop:=∀i,co (f.getD 0 []) i=mu (f.getD 1 []) (co p) i+mu (f.getD 2 []) (co q) i
theorem Aaj (p q:List Int):Keeps 3 (Made p q):=by
 intro f g t u L O z _ _ _ I J h i
 have S:=h 0 (by decide) i
 have h1:=Ahl (h 1 (by decide)) (co p) i
 have h2:=Ahl (h 2 (by decide)) (co q) i
 have e:mu u (co (g.getD 0 [])) i=mu u (mu (g.getD 1 []) (co p)) i+mu u (mu (g.getD 2 []) (co q)) i:=by
  rw [N5 J u i]
  exact congrFun (Qc u (mu (g.getD 1 []) (co p)) (mu (g.getD 2 []) (co q))) i
 refine eq_of_mul_eq_mul_left z ?_
 have M:=I i
 have U:L*co (f.getD 0 []) i=L*mu (f.getD 1 []) (co p) i+L*mu (f.getD 2 []) (co q) i:=by rw [M,Int.mul_add]
 rw [Int.mul_add]
 omega
theorem Aqn (p:List Int) (i:Nat):mu [1] (co p) i=co p i:=by rw [Aks];omega
theorem Afr (p q:List Int):Made p q [p,[1],[]]:=fun i=>by
 show co p i=mu [1] (co p) i+mu [] (co q) i
 rw [Aqn]
 show co p i=co p i+0
 omega
theorem Afs (p q:List Int):Made p q [q,[],[1]]:=fun i=>by
 show co q i=mu [] (co p) i+mu [1] (co q) i
 rw [Aqn]
 show co q i=0+co q i
 omega
theorem Zv {H:Hp}{a:Addr}{z I J:V}{M O S:List Int}{l n:Nat} (h:SqT K H a [z,I,J]) (U:Po K H z M l n) (h1:Po K H I O l n) (h2:Po K H J S l n):Rw K H (.ref a) [M,O,S] l n:=⟨a,[z,I,J],rfl,h,rfl,fun c W=>by
 have:c=0\/c=1\/c=2:=by
  have:c<3:=W
  omega
 rcases this with rfl | rfl | rfl
 . exact U
 . exact h1
 . exact h2⟩
theorem Lg {H:Hp}{z:Addr}{l n:Nat} (h:H z=some (.tup [])) (I:1<=n):Po K H (.ref z) [] l n:=⟨⟨z,rfl,.of h⟩,.inl rfl,zero_le _,fun i=>by rw [Bv];exact(show Sz 1 (0:Int)by unfold Sz;decide).mono I⟩
theorem Oa {H:Hp}{z:Addr}{l n:Nat} (h:H z=some (.tup [V.int 1])) (I:1<=l) (J:1<=n):Po K H (.ref z) [1] l n:=⟨⟨z,rfl,.of h⟩,.inr ⟨by simp,by decide⟩,by simpa using I,fun i=>V8 (by omega) (fun x M=>by
 have:x=1:=by simpa using M
 subst this
 exact(show Sz 1 (1:Int)by unfold Sz;decide).mono J) i⟩
theorem Ahq {p:List Int} (h:p≠ []):pln p≠ []:=fun z=>by
 have:=Fw p
 rw [z,length_nil]at this
 exact h (List.eq_nil_of_length_eq_zero this.symm)
structure Pap (p q g u v a b:List Int) (c:Int):Prop where
 gc:Gc p q g
 one:∀i,co p i=mu u (co g) i
 two:∀i,co q i=mu v (co g) i
 cn:c≠0
 sum:∀i,mu a (co p) i+mu b (co q) i=c*co g i
noncomputable def Gi (K:Frag):Sp:=fun vs H Q _=>∃(x y:V) (p q:List Int) (l n:Nat),vs=[x,y]/\Po K H x p l n/\Po K H y q l n/\l<=13/\Few l n/\∀(z:Addr) (H':Hp) (vg vu vv va vb:V) (c:Int) (g u v a b:List Int),Same H H'->SqT K H' z [vg,vu,vv,va,vb,.int c]->Po K H' vg g (2*l) ((n+6)*(2*l)+1)->Po K H' vu u l (n+141)->Po K H' vv v l (n+141)->Po K H' va a (2*l) ((n+6)*(2*l)+1)->Po K H' vb b (2*l) ((n+6)*(2*l)+1)->Sz ((n+6)*(2*l)+1) c->Pap p q g u v a b c->Q (.ref z) H'
theorem Rx {f:Addr}{fd:FuncData} (F:Df K mg "shared_paper" Jr ["one","other"] f fd)   (J:Cal P w K mg base 40 "last_row" ["first","second"] (Np K)) (M:Cal P w K mg base 37 "plain" ["one"] (G6 K)) (I:Cal P w K mg base 35 "whole_part" ["one","other"] (Kr K)) (a2:Cal P w K mg base 36 "unit" ["one"] (Vr K)):Cal P w K mg base 41 "shared_paper" ["one","other"] (Gi K):=by
 refine F.cal (F.fn.ok Gg (fun vs H Q E h=> ?_) (fun av A outer s H vs Q E hr h=> ?_))
 . obtain⟨x,y,p,q,_,_,rfl,_⟩:=h
   rfl
 obtain⟨x,y,p,q,l,n,rfl,hx,hy,a9,aa,k⟩:=h
 have fb:=aa.bits
 obtain⟨f1,f2,f3,f4⟩:=aa
 have aw:n<=(n+6)*(2*l):=by
  have:(n+6)*1<=(n+6)*(2*l):=mul_le_mul_left _ (by omega)
  omega
 refine Ax ⟨_,(Ad (Cy (Af J hr (Aa (Al (Aa (Ae 0) (Aa (Al (Aa Ac Ab)) (Aa (Al Ab) Ab)))) (Aa (Al (Aa (Ae 1) (Aa (Al Ab) (Aa (Al (Aa Ac Ab)) Ab)))) Ab))) (Dn rfl (Ai (Aq 3 Gg.nd) (Ai (Aq 4 Gg.nd) (Ai (Aq 5 Gg.nd) Ci)))))
  (Ad (Ay (Am (Fl hr.units) (Ae 3) (Al Ab) (Bb _)) (Ag (Aj (Al (Aa (Al Ab) (Aa (Al Ab) (Aa (Al Ab) (Aa (Ae 4) (Aa (Ae 5) (Aa Ac Ab))))))))) Ar)
  (Ad (Ak 2 Gg.nd (Af M hr (Aa (Ae 3) Ab)))
  (Ag (Aj (Al (Aa (Ae 2) (Aa (Af I hr (Aa (Ae 0) (Aa (Ae 2) Ab))) (Aa (Af I hr (Aa (Ae 1) (Aa (Ae 2) Ab))) (Aa (Ae 4) (Aa (Ae 5) (Aa (Af a2 hr (Aa (Ae 3) Ab)) Ab)))))))))))),?_⟩
 refine Bp (fun ak H'=>Same H H'/\∃(vh va vb:V) (h a b:List Int),ak=[some x,some y,none,some vh,some va,some vb]/\Po K H' vh h (2*l) ((n+6)*(2*l)+1)/\Po K H' va a (2*l) ((n+6)*(2*l)+1)/\Po K H' vb b (2*l) ((n+6)*(2*l)+1)/\Gc p q (pln h)/\∀i,co h i=mu a (co p) i+mu b (co q) i) (fun N hN=> ?_) ?_
 . done
   (intro q1 O;generalize S:upd _ q1 _=am;obtain⟨a4,a5⟩:=nw O S;clear S O)
   refine⟨by decide,?_⟩
   (intro q2 U;generalize W:upd _ q2 _=an;obtain⟨Y,a6⟩:=nw U W;clear W U)
   refine⟨by decide,?_⟩
   (intro q3 Z;generalize a0:upd _ q3 _=ao;obtain⟨a1,a7⟩:=nw Z a0;clear a0 Z)
   refine⟨by decide,?_⟩
   (intro q4 ab;generalize ac:upd _ q4 _=ax;obtain⟨ad,ap⟩:=nw ab ac;clear ac ab)
   (intro q5 ae;generalize af:upd _ q5 _=ay;obtain⟨a8,aq⟩:=nw ae af;clear af ae)
   refine⟨by decide,?_⟩
   (intro q6 ag;generalize ah:upd _ q6 _=b0;obtain⟨a3,ar⟩:=nw ag ah;clear ah ag)
   have t2:=((a1.trans ad).trans a8).trans a3
   have tt:=(a4.trans Y).trans t2
   refine⟨_,_,[p,[1],[]],[q,[],[1]],l,n,Made p q,rfl,Zv (.of (((ad.trans a8).trans a3) _ _ a7)) (hx.mono tt) (Oa ((Y.trans t2) _ _ a5) f2 f3) (Lg (t2 _ _ a6) f3),Zv (.of ar) (hy.mono tt) (Lg ((a8.trans a3) _ _ ap) f3) (Oa (a3 _ _ aq) f2 f3),rfl,show 1<=3 by decide,le_refl 3,f1,f2,f3,f4,Afr p q,Afs p q,Aaj p q,trivial,fun z H' hs s' iz lz gc mk=> ?_⟩
   obtain⟨az,vz,rfl,tz,lv,pz⟩:=iz
   match hs,lz with
   | [h,a,b],_=>
     match vz,lv with
     | [vh,va,vb],_=>
       refine⟨az,_,rfl,tz,rfl,vh,_,rfl,va,_,rfl,vb,_,rfl,rfl,?_⟩
       exact hN _ _ ⟨tt.trans s',vh,va,vb,h,a,b,rfl,pz 0 (by simp),pz 1 (by simp),pz 2 (by simp),gc,mk⟩
 rintro σ H1 ⟨s1,vh,va,vb,h,a,b,rfl,ih,ia,ib,gc,mk⟩
 done
 refine⟨by decide,fun e0 as=> ?_⟩
 have se:=Same.upd as (.tup [])
 obtain⟨⟨dh,rfl,ai⟩,th,lh,zh⟩:=id ih
 refine Bu (ms:=[]) (se.tup ai) (.of Ao) ?_
 try done
 by_cases h0:h=[]
 . rw [if_pos h0]
   subst h0
   have hp:p=[]:=Dv.zero hx.2.1 gc.one
   have hq:q=[]:=Dv.zero hy.2.1 gc.two
   subst hp hq
   refine⟨by decide,?_⟩
   (intro q1 O;generalize S:upd _ q1 _=am;obtain⟨a4,a5⟩:=nw O S;clear S O)
   refine⟨by decide,?_⟩
   (intro q2 U;generalize W:upd _ q2 _=an;obtain⟨Y,a6⟩:=nw U W;clear W U)
   refine⟨by decide,?_⟩
   (intro q3 Z;generalize a0:upd _ q3 _=ao;obtain⟨a1,a7⟩:=nw Z a0;clear a0 Z)
   refine⟨by decide,fun z hz=> ?_⟩
   have sz:=Same.upd hz (.tup [V.ref q1,V.ref q2,V.ref q3,va,vb,V.int 1])
   have st:=(((se.trans a4).trans Y).trans a1).trans sz
   refine k z _ (.ref q1) (.ref q2) (.ref q3) va vb 1 [] [] [] a b (s1.trans st) (.of Ao) (Lg (((Y.trans a1).trans sz) _ _ a5) (by omega)) (Lg ((a1.trans sz) _ _ a6) (by omega)) (Lg (sz _ _ a7) (by omega)) (ia.mono st) (ib.mono st) ((show Sz 1 (1:Int)by unfold Sz;decide).mono (by omega)) ⟨gc,fun i=>by rw [Bv];rfl,fun i=>by rw [Bv];rfl,by decide,fun i=>by rw [Xw,Xw,Bv];rfl⟩
 rw [if_neg h0]
 refine Ku ih se (by omega) fb fun vg H2 s2 ig=> ?_
 try done
 have gn:=Ahq h0
 have tg:=Kw th
 have aj:=(s1.trans se).trans s2
 refine⟨x,vg,p,pln h,l,2*l,n,_,rfl,hx.mono aj,ig,by omega,by omega,by omega,fb,gn,Agx hx.2.1 hx.2.2.1 a9 hx.2.2.2 tg gn gc.pl gc.one fun vu H3 u s3 iu hu=> ?_⟩
 try done
 have au:=aj.trans s3
 refine⟨y,vg,q,pln h,l,2*l,n,_,rfl,hy.mono au,ig.mono s3,by omega,by omega,by omega,fb,gn,Agx hy.2.1 hy.2.2.1 a9 hy.2.2.2 tg gn gc.pl gc.two fun vv H4 v s4 iv hv=> ?_⟩
 try done
 have t4:=((se.trans s2).trans s3).trans s4
 refine⟨dh,h,rfl,t4.tup ai,fun H5 s5=> ?_⟩
 try done
 refine⟨by decide,fun z hz=> ?_⟩
 have sz:=Same.upd hz (.tup [vg,vu,vv,va,vb,V.int (un h)])
 have st:=(t4.trans s5).trans sz
 refine k z _ vg vu vv va vb (un h) (pln h) u v a b (s1.trans st) (.of Ao) (ig.mono (((s3.trans s4).trans s5).trans sz)) (iu.mono ((s4.trans s5).trans sz)) (iv.mono (s5.trans sz)) (ia.mono st) (ib.mono st) (Agu th h0 (zh _)) ⟨gc,fun i=>by rw [<-hu,Dz],fun i=>by rw [<-hv,Dz],Tc th h0,fun i=> ?_⟩
 rw [<-mk,Jl th h0]
noncomputable def J2 (K:Frag):Sp:=fun vs H Q E=>∃(x:V) (p:List Int) (l n:Nat),vs=[x]/\Po K H x p l n/\(p≠ []->∀H',Same H H'->Q .non H')/\(p=[]->∀H',Same H H'->E (.ref (cA K "NoFree")) none H')
theorem Qn {f:Addr}{fd:FuncData} (F:Df K mg "refuse_nought" Ir ["one"] f fd)  (z:Abo K (cA K "NoFree")) (I:mg "NoFree"=some (.ref (cA K "NoFree")))  :Vy P w K mg base 33 "refuse_nought" ["one"] (J2 K):=by
 refine F.calE (F.fn.okE Qo (fun S H Q E h=> ?_) (fun U A outer s H S Q E W h=> ?_))
 . obtain⟨x,p,_,_,rfl,_⟩:=h
   rfl
 obtain⟨x,p,l,n,rfl,Y,k,Z⟩:=h
 obtain⟨⟨a,rfl,ha⟩,tp,lp,zp⟩:=id Y
 refine Ax ⟨_,(Ag (Ay (Am (Fl W.units) (Ae 0) (Al Ab) (Bb _)) (Ag (J8 z I (Aa K5 Ab))) Ar)),?_⟩
 done
 refine⟨by decide,fun e0 M=> ?_⟩
 have O:=Same.upd M (.tup [])
 refine Bu (ms:=[]) (O.tup ha) (.of Ao) ?_
 try done
 by_cases J:p=[]
 . rw [if_pos J]
   exact Z J _ O
 . rw [if_neg J]
   exact k J _ O
structure Fre (A W G:Pol):Prop where
 nA:A≠0
 pA:pln A.l=A.l
 gc:Gc A.l (D A).l G.l
 eA:A=W*G
theorem Fre.sq {A W G:Pol} (h:Fre A W G):∃V,D A=V*G/\Sqf W:=by
 have I:G≠0:=fun z=>h.nA (by rw [h.eA,z];grind)
 have M:W≠0:=fun z=>h.nA (by rw [h.eA,z];grind)
 obtain⟨v,hv⟩:=Ut G.tr (Et.mp I) h.gc.pl h.gc.two
 have J:D A=⟨trim v,Bq v⟩*G:=K1 fun i=>by rw [Jx,hv,Cm _ (trim v) v (fun i=>Bl _ _)]
 refine⟨_,J,Agn M I ?_ (h.gc.cp I h.eA J)⟩
 rw [<-h.eA]
 exact J
noncomputable abbrev mk (p:List Int) (h:Tr p):Pol:=⟨p,h⟩
noncomputable def plP (p:Pol):Pol:=⟨pln p.l,Kw p.tr⟩
theorem Amm {p:Pol} (h:p≠0):plP p≠0:=Et.mpr fun z=>by
 have:=Fw p.l
 rw [show pln p.l=[]from z]at this
 exact Et.mp h (List.length_eq_zero_iff.mp this.symm)
noncomputable def Oj (K:Frag):Sp:=fun vs H Q E=>∃(x:V) (p:Pol) (l n:Nat),vs=[x]/\Po K H x p.l l n/\l<=13/\n<=100000/\Few l (n+8)/\(p≠0->∀z H' W G,Same H H'->Po K H' z W.l l (n+141)->Fre (plP p) W G->Q z H')/\(p=0->∀H',Same H H'->E (.ref (cA K "NoFree")) none H')
noncomputable def Qg (K:Frag):Sp:=fun vs H Q _=>∃(x:V) (p:Pol) (l n:Nat),vs=[x]/\Po K H x p.l l n/\l<=13/\n<=100000/\Few l (n+8)/\p≠0/\∀z H' W G,Same H H'->Po K H' z W.l l (n+141)->Fre (plP p) W G->Q z H'
theorem Tn (K:Frag):∀I H Q E,Qg K I H Q E->Oj K I H Q E0:=by
 rintro I H Q E ⟨x,p,l,n,rfl,O,J,n1,M,S,k⟩
 exact⟨x,p,l,n,rfl,O,J,n1,M,fun _=>k,fun z=>(S z).elim⟩
theorem Few.n {l b:Nat} (h:Few l b):b<=400000/\1<=l:=by
 obtain⟨_,h1,_,h⟩:=h
 refine⟨?_,h1⟩
 have:1*(b+6)<=(4*l+l*l)*(b+6):=mul_le_mul_right _ (by omega)
 have e:=le_trans this (show(4*l+l*l)*(b+6)<=750000 by omega)
 have z:4*(b+6)<=(4*l+l*l)*(b+6):=mul_le_mul_right _ (by omega)
 omega
theorem Wh {f:Addr}{fd:FuncData} (F:Df K mg "free_part" Ng ["one"] f fd)   (I:Vy P w K mg base 33 "refuse_nought" ["one"] (J2 K)) (S:Cal P w K mg base 37 "plain" ["one"] (G6 K)) (J:Vy P w K mg base 35 "whole_part" ["one","other"] (Ju K)) (O:Cal P w K mg base 41 "shared" ["one","other"] (S6 K)) (M:Cal P w K mg base 33 "derived" ["one"] (J3 K)):Vy P w K mg base 42 "free_part" ["one"] (Oj K):=by
 refine F.calE (F.fn.okE Qd (fun vs H Q E h=> ?_) (fun a1 A outer s H vs Q E W h=> ?_))
 . obtain⟨x,p,_,_,rfl,_⟩:=h
   rfl
 obtain⟨x,p,l,n,rfl,hx,a0,n1,U,k,kx⟩:=h
 refine Ax ⟨_,(Ad (Hi (Ik I (W.mono (by decide)) (Aa (Ae 0) Ab)))
  (Ad (Ak 1 Qd.nd (Af S W (Aa (Ae 0) Ab)))
  (Ag (Aj (Ik J (W.mono (by decide)) (Aa (Ae 1) (Aa (Af O W (Aa (Ae 1) (Aa (Af M W (Aa (Ae 1) Ab)) Ab))) Ab))))))),?_⟩
 done
 refine⟨x,p.l,l,n,rfl,hx,fun h0 H1 Y=> ?_,fun h0 H1 Y=>kx (Classical.byContradiction fun z=>Et.mp z h0) _ Y⟩
 try done
 have np:=Et.mpr h0
 obtain⟨fn,f1⟩:=U.n
 refine Ku hx Y (by omega) (by omega) fun y H2 s2 Z=> ?_
 try done
 refine S9 Z (Same.refl _) (by omega) (by omega) fun y3 H3 s3 i3=> ?_
 try done
 refine Ags (Z.mono s3 |>.weak (le_refl _) (le_add_right _ _)) (Same.refl _) i3 (Same.refl _) U fun y4 H4 g s4 i4 gc=> ?_
 try done
 have nA:=Amm np
 have ng:g≠ []:=(gc.one.len gc.tr (Kw p.tr) (Et.mp nA)).1
 have b4:=U.bits
 obtain⟨_,tA,lA,zA⟩:=id Z
 refine⟨y,y4,_,g,l,2*l,n,(n+8+6)*(2*l)+1,rfl,Z.mono (s3.trans s4),i4,by omega,by omega,by omega,by omega,fun z=>absurd z ng,fun _=> ?_⟩
 refine Agx tA lA a0 zA gc.tr ng gc.pl gc.one fun z H5 u s5 i5 e5=> ?_
 have tu:=i5.2.1
 exact k np z H5 ⟨u,tu⟩ ⟨g,gc.tr⟩ ((Y.trans s2).trans ((s3.trans s4).trans s5)) i5 ⟨nA,Qu p.tr,gc,K1 fun i=>by show co (pln p.l) i=co (tm u g) i;rw [e5]⟩
theorem Ro {T U:String}{b:Bool} (h:(if(Value.type T==Value.type U)=true then some true else if PySem.W.kitMeta U=true then subIn [] (.type T) (.type U)else none)=some b):kitOne K (.type T) (.type U)=some b:=h
inductive TyA (K:Frag) (H:Hp):V->Value->Prop where
 | of {v:V}{t:Value} (h:Xg K H v t):TyA K H v t
 | tup {a:Addr}{xs:List V} (h:SqT K H a xs):TyA K H (.ref a) (.type "tuple")
theorem Gk {X:Cx}:Jm X (.builtin "isinstance") (fun xs H Q=>∃x t T b,xs=[x,.ty T]/\TyA X.K H x t/\kitOne X.K t (.type T)=some b/\Q (.bl b) H):=by
 intro pins s σ H xs J Q I r h
 obtain⟨x,t,T,b,rfl,z,M,q⟩:=h
 cases z with
 | of z=>exact Y5 pins s σ H _ J Q I r ⟨x,t,T,b,rfl,z,M,q⟩
 | tup O=>exact Afb pins s σ H _ J Q I r ⟨_,_,T,b,rfl,O,M,q⟩
inductive Tg (K:Frag) (H:Hp) (L N:Nat):V->Option (List Int)->Option Int->Prop where
 | nums {a:Addr}{ns:List Int} (h:SqT K H a (ns.map V.int)) (l:ns.length<=L) (z:∀i,Sz N (co ns i)):Tg K H L N (.ref a) (some ns) none
 | int (i:Int) (z:Sz N i):Tg K H L N (.int i) none (some i)
 | bl (b:Bool):Tg K H L N (.bl b) none none
 | non:Tg K H L N .non none none
 | str (x:Str):Tg K H L N (.str x) none none
 | lst {a:Addr}{xs:List V} (e:H a=some (.lst xs)):Tg K H L N (.ref a) none none
theorem Tg.mono {H H':Hp}{L N:Nat}{v:V}{d:Option (List Int)}{i:Option Int} (h:Tg K H L N v d i) (s:Same H H'):Tg K H' L N v d i:=by
 cases h with
 | nums h l z=>exact .nums (s.tup h) l z
 | int i z=>exact .int i z
 | bl b=>exact .bl b
 | non=>exact .non
 | str x=>exact .str x
 | lst e=>exact .lst (s _ _ e)
theorem Tg.weak {H:Hp}{L N I J:Nat}{v:V}{d:Option (List Int)}{i:Option Int} (h:Tg K H L N v d i) (M:L<=I) (n1:N<=J):Tg K H I J v d i:=by
 cases h with
 | nums h l z=>exact .nums h (le_trans l M) fun i=>(z i).mono n1
 | int i z=>exact .int i (z.mono n1)
 | bl b=>exact .bl b
 | non=>exact .non
 | str x=>exact .str x
 | lst e=>exact .lst e
theorem Po.tg {H:Hp}{L N:Nat}{v:V}{p:List Int} (h:Po K H v p L N):Tg K H L N v (some p) none:=by
 obtain⟨⟨a,rfl,I⟩,_,l,z⟩:=h
 exact .nums I l z
theorem Tg.po {H:Hp}{L N:Nat}{v:V}{p:List Int}{i:Option Int} (h:Tg K H L N v (some p) i) (t:Tr p):Po K H v p L N:=by
 cases h with
 | nums h l z=>exact⟨⟨_,rfl,h⟩,t,l,z⟩
theorem Tg.ty {H:Hp}{L N:Nat}{v:V}{d:Option (List Int)}{i:Option Int} (h:Tg K H L N v d i):∃(T:String) (z I J:Bool),TyA K H v (.type T)/\kitOne K (.type T) (.type "int")=some z/\kitOne K (.type T) (.type "bool")=some I/\kitOne K (.type T) (.type "tuple")=some J/\(z&& !I)=i.isSome/\J=d.isSome:=by
 cases h with
 | nums h=>exact⟨"tuple",false,false,true,.tup h,Ro (by decide+kernel),Ro (by decide+kernel),Ro (by decide+kernel),rfl,rfl⟩
 | int i=>exact⟨"int",true,false,false,.of (.int i),Ro (by decide+kernel),Ro (by decide+kernel),Ro (by decide+kernel),rfl,rfl⟩
 | bl b=>exact⟨"bool",true,true,false,.of (.bl b),Ro (by decide+kernel),Ro (by decide+kernel),Ro (by decide+kernel),rfl,rfl⟩
 | non=>exact⟨"NoneType",false,false,false,.of .non,Ro (by decide+kernel),Ro (by decide+kernel),Ro (by decide+kernel),rfl,rfl⟩
 | str x=>exact⟨"str",false,false,false,.of (.str x),Ro (by decide+kernel),Ro (by decide+kernel),Ro (by decide+kernel),rfl,rfl⟩
 | lst e=>exact⟨"list",false,false,false,.of (.lst e),Ro (by decide+kernel),Ro (by decide+kernel),Ro (by decide+kernel),rfl,rfl⟩
noncomputable def Ao8 (K:Frag):Sp:=fun vs H Q _=>∃(L N:Nat) (v:V) (d:Option (List Int)) (i:Option Int),vs=[v]/\Tg K H L N v d i/\Q (.bl i.isSome) H
noncomputable def Ko (K:Frag):Sp:=Ao8 K
noncomputable def Mu (K:Frag):Sp:=Ao8 K
theorem Anh {H:Hp}{Q:VK}{L N:Nat}{v:V}{d:Option (List Int)}{i:Option Int} (hv:Tg K H L N v d i) (k:Q (.bl i.isSome) H):∃x t T b,[v,V.ty "int"]=[x,V.ty T]/\TyA K H x t/\kitOne K t (.type T)=some b/\if b=true then ∃x t T b,[v,V.ty "bool"]=[x,V.ty T]/\TyA K H x t/\kitOne K t (.type T)=some b/\Q (.bl !b) H else Q (.bl false) H:=by
 obtain⟨T,z,J,M,I,h1,h2,_,e,_⟩:=hv.ty
 refine⟨v,_,_,z,rfl,I,h1,?_⟩
 rw [<-e]at k
 cases z with
 | false=>exact k
 | true=>exact⟨v,_,_,J,rfl,I,h2,k⟩
theorem Xx {f:Addr}{fd:FuncData} (F:Df K mg "is_whole" O7 ["thing"] f fd) (z:mg "isinstance"=none) (J:mg "int"=none) (I:mg "bool"=none)   :Cal P w K mg base 33 "is_whole" ["thing"] (Ko K):=by
 refine F.cal (F.fn.ok Yt (fun M H Q E h=> ?_) (fun O A outer s H M Q E S h=> ?_))
 . obtain⟨L,N,v,d,i,rfl,_⟩:=h
   rfl
 obtain⟨L,N,v,d,i,rfl,hv,k⟩:=h
 refine Ax ⟨_,(Ag (Aj (Rb (Ba Gk rfl z boot_isinstance (Aa (Ae 0) (Aa (Ej (v:= .ty "int") rfl J boot_int rfl) Ab))) (Il (Nv (Ba Gk rfl z boot_isinstance (Aa (Ae 0) (Aa (Ej (v:= .ty "bool") rfl I boot_bool rfl) Ab)))))))),?_⟩
 done
 exact Anh hv k
theorem Aax {f:Addr}{fd:FuncData} (F:Df K mg "_law_whole" Sh ["_law_found"] f fd) (z:mg "isinstance"=none) (J:mg "int"=none) (I:mg "bool"=none)   :Cal P w K mg base 33 "_law_whole" ["_law_found"] (Mu K):=by
 refine F.cal (F.fn.ok Aba (fun M H Q E h=> ?_) (fun O A outer s H M Q E S h=> ?_))
 . obtain⟨L,N,v,d,i,rfl,_⟩:=h
   rfl
 obtain⟨L,N,v,d,i,rfl,hv,k⟩:=h
 refine Ax ⟨_,(Ag (Aj (Rb (Ba Gk rfl z boot_isinstance (Aa (Ae 0) (Aa (Ej (v:= .ty "int") rfl J boot_int rfl) Ab))) (Il (Nv (Ba Gk rfl z boot_isinstance (Aa (Ae 0) (Aa (Ej (v:= .ty "bool") rfl I boot_bool rfl) Ab)))))))),?_⟩
 done
 exact Anh hv k
noncomputable def plB:Option (List Int)->Bool
 | none=>false
 | some ns=>decide (trim ns=ns)
noncomputable def Aqx (K:Frag):Sp:=fun vs H Q _=>∃(L N:Nat) (v:V) (d:Option (List Int)) (i:Option Int),vs=[v]/\Tg K H L N v d i/\L<=1000/\∀H',Same H H'->Q (.bl (plB d)) H'
noncomputable def Px (K:Frag):Sp:=Aqx K
noncomputable def Ly (K:Frag):Sp:=Aqx K
theorem Acx {I:List Int}{d:Int}:(trim (I++ [d])=I++ [d])=(d≠0):=by
 refine propext ⟨fun h J=> ?_,fun h=>Pz (.inr ⟨by simp,by rw [List.getLast_concat];exact h⟩)⟩
 have:=Bq (I++ [d])
 rw [h]at this
 have z:=this.lead (by simp)
 rw [length_append,length_singleton,Nat.add_sub_cancel,Gp,if_pos rfl]at z
 exact z J
theorem Aga {z:List Int}{d:Int}:plB (some (z++ [d]))= !decide (d=0):=by
 show decide (trim (z++ [d])=z++ [d])=_
 by_cases I:d=0<;>simp [Acx,I]
theorem Nx {α:Type} (xs:List α) (x:α):atI (xs++ [x]) (-1)=some x:=by
 unfold atI ixN
 simp
 rw [if_pos (by omega)]
 simp
 rw [show(-1+((xs.length:Int)+1)).toNat=xs.length by omega]
 simp
theorem Acr {H:Hp}{Q:VK}{a:Addr}{ns:List Int} (h:SqT K H a (ns.map V.int)) (J:ns≠ []) (k:Q (.bl (plB (some ns))) H):Amw K (.ref a) (.int (-1)) H fun x H1=>rNe x (.int 0) H1 Q:=by
 obtain⟨z,d,rfl⟩:∃(i:List Int) (x:Int),ns=i++ [x]:=⟨_,_,(List.dropLast_concat_getLast J).symm⟩
 have I:(z++ [d]).map V.int=z.map V.int++ [V.int d]:=by rw [map_append];rfl
 refine En h (v:= .int d) (by rw [I];exact Nx _ _) ⟨rfl,?_⟩
 rw [Aga]at k
 rw [Xm]
 exact k
theorem Alk {H:Hp}{Q:VK}{L N:Nat}{v:V}{d:Option (List Int)}{i:Option Int}{sp:Sp}{R:Addr->VK} (hv:Tg K H L N v d i) (O:L<=1000) (I:∀(n:Int) (H':Hp) (S:VK),S (.bl true) H'->sp [.int n] H' S E0) (k:∀H',Same H H'->Q (.bl (plB d)) H') (U:∀a ns p H',d=some ns->v= .ref a->SqT K H a (ns.map V.int)->Same H H'->H' p=some (.lst ((ns.map fun _=>true).map V.bl))->R a (.ref p) H'):
 ∃x t T b,[v,V.ty "tuple"]=[x,V.ty T]/\TyA K H x t/\kitOne K t (.type T)=some b/\if b=false then Q (.bl false) H else ∃a,v= .ref a/\(∃xs,SqT K H a xs)/\∀p,H p=none->cIn (Itt K a) [none] (O4 0) T5 (T4 sp [] E0 (Aeq (Abk 0) Aoa)) (R a) H p:=by
 obtain⟨T,bi,bb,Y,Z,_,_,h3,_,e⟩:=hv.ty
 refine⟨v,_,_,Y,rfl,Z,h3,?_⟩
 cases d with
 | none=>
   rw [e]
   exact k _ (Same.refl _)
 | some ns=>
   rw [e,if_neg (by intro z;cases z)]
   cases hv with
   | @nums a _ h hl hz=>
     refine⟨a,rfl,⟨_,h⟩,fun p1 J=>Gx (es:=ns) (inj:=V.int) (fun _=> .bl true) (le_trans hl (le_trans O (by decide))) J (Ov h) ?_ ?_⟩
     . intro e H2 R he M hR
       done
       exact I e _ _ (hR _ (Same.refl _))
     intro H2 M h2
     have em:ns.map (fun _=>V.bl true)=(ns.map fun _=>true).map V.bl:=by rw [map_map];rfl
     rw [em]at h2
     exact U a ns p1 H2 rfl rfl h M h2
theorem Zy {K:Frag} (n:Int) (H:Hp) (S:VK) (E:XK) (h:S (.bl true) H):Ao8 K [.int n] H S E:=⟨0,n.natAbs,_,none,some n,rfl,.int n Nat.lt_two_pow_self,h⟩
theorem Aar {f:Addr}{fd:FuncData} (F:Df K mg "is_poly" Og ["thing"] f fd) (z:mg "isinstance"=none) (J:mg "tuple"=none) (M:mg "all"=none) (z_len:mg "len"=none)  (I:Cal P w K mg base 33 "is_whole" ["thing"] (Ko K)):Cal P w K mg base 34 "is_poly" ["thing"] (Px K):=by
 refine F.cal (F.fn.ok Aa8 (fun W H Q E h=> ?_) (fun Y A outer s H W Q E Z h=> ?_))
 . obtain⟨L,N,v,d,i,rfl,_⟩:=h
   rfl
 obtain⟨L,N,v,d,i,rfl,hv,l1,k⟩:=h
 refine Ax ⟨_,(Ad (Ay (Cj (Bw (Bt (Bo (Ba Gk rfl z boot_isinstance (Aa (Ae 0) (Aa (Ej (v:= .ty "tuple") rfl J boot_tuple rfl) Ab))))) (Dw (Bt (Bo (Ba (J9 rfl) rfl M boot_all (Aa (Ea (ts:=["weight"]) (fs:=[]) rfl (Dl.of (sc:=Av Og) (N:=["thing"]) rfl rfl (by decide+kernel)) (Gb (Ae 0)) (fun _ _ _=>(Aq 0 (show Nodup (["weight"]:List Str)by decide+kernel))) (fun _ _ _=>Dj) (fun _ _ _=>(Af I Z (Aa (Ae 0) Ab)))) Ab))))))) (Ag (Aj Br)) Ar)
  (Ag (Aj (Qq (Cv Hj (Ba Az rfl z_len PySem.boot_len (Aa (Ae 0) Ab)) Ac (Bb _)) (Il (Cv Lf (Aw Bx (Ae 0) (Bd Ce Ac) (fun _ _=>rfl)) Ac (Bb _))))))),?_⟩
 done
 refine Alk hv l1 (fun n H' S h=>Zy n H' S _ h) k fun a ns p H2 ed ev h O h2=> ?_
 have ea:(ns.map fun _=>true).all id=true:=by simp
 rw [ed]at k
 subst ev
 refine⟨p,_,rfl,.of h2,?_⟩
 rw [ea,if_neg (by decide)]
 refine⟨a,_,rfl,.inr (O.tup h),?_⟩
 rw [length_map]
 by_cases U:ns=[]
 . subst U
   exact k _ O
 . rw [if_neg (by have:=length_pos_iff.mpr U;omega)]
   exact Acr (O.tup h) U (k _ O)
theorem Wm {f:Addr}{fd:FuncData} (F:Df K mg "_law_is_poly" Kf ["_law_found"] f fd) (z:mg "isinstance"=none) (J:mg "tuple"=none) (M:mg "all"=none)  (I:Cal P w K mg base 33 "_law_whole" ["_law_found"] (Mu K)):Cal P w K mg base 34 "_law_is_poly" ["_law_found"] (Ly K):=by
 refine F.cal (F.fn.ok Wx (fun Y H Q E h=> ?_) (fun Z A outer s H Y Q E W h=> ?_))
 . obtain⟨L,N,v,d,i,rfl,_⟩:=h
   rfl
 obtain⟨L,N,v,d,i,rfl,hv,l1,k⟩:=h
 refine Ax ⟨_,(Ad (Ay (Cj (Bw (Bt (Bo (Ba Gk rfl z boot_isinstance (Aa (Ae 0) (Aa (Ej (v:= .ty "tuple") rfl J boot_tuple rfl) Ab))))) (Dw (Bt (Bo (Ba (J9 rfl) rfl M boot_all (Aa (Ea (ts:=["_law_weight_here"]) (fs:=[]) rfl (Dl.of (sc:=Av Kf) (N:=["_law_found"]) rfl rfl (by decide+kernel)) (Gb (Ae 0)) (fun _ _ _=>(Aq 0 (show Nodup (["_law_weight_here"]:List Str)by decide+kernel))) (fun _ _ _=>Dj) (fun _ _ _=>(Af I W (Aa (Ae 0) Ab)))) Ab))))))) (Ag (Aj Br)) Ar)
  (Ag (Aj (Qq (Cv (Fl W.units) (Ae 0) (Al Ab) (Bb _)) (Il (Cv Lf (Aw Bx (Ae 0) (Bd Ce Ac) (fun _ _=>rfl)) Ac (Bb _))))))),?_⟩
 done
 refine Alk hv l1 (fun n H' S h=>Zy n H' S _ h) k fun a ns p H2 ed ev h s2 h2=> ?_
 have ea:(ns.map fun _=>true).all id=true:=by simp
 rw [ed]at k
 subst ev
 refine⟨p,_,rfl,.of h2,?_⟩
 rw [ea,if_neg (by decide)]
 refine⟨by decide,fun q hq=> ?_⟩
 have O:=s2.trans (Same.upd hq (.tup []))
 refine Bu (ms:=[]) (O.tup h) (.of Ao) ?_
 refine⟨_,rfl,?_⟩
 by_cases U:ns=[]
 . subst U
   exact k _ O
 . rw [decide_eq_false U,if_neg (by decide)]
   exact Acr (O.tup h) U (k _ O)
noncomputable abbrev T3:=V × Option (List Int) × Option Int
inductive Ppr (K:Frag) (H:Hp) (m:Nat) (N:Nat->Nat):V->Option (List T3)->Prop where
 | tup {a:Addr}{ts:List T3} (h:SqT K H a (ts.map (·.1))) (l:ts.length=m) (al:∀i t,ts[i]? =some t->Tg K H 100 (N i) t.1 t.2.1 t.2.2):Ppr K H m N (.ref a) (some ts)
 | len {a:Addr}{xs:List V} (h:SqT K H a xs) (l:xs.length≠m):Ppr K H m N (.ref a) none
 | lst {a:Addr}{xs:List V} (e:H a=some (.lst xs)):Ppr K H m N (.ref a) none
 | non:Ppr K H m N .non none
theorem Ppr.mono {H H':Hp}{m:Nat}{N:Nat->Nat}{v:V}{d:Option (List T3)} (h:Ppr K H m N v d) (s:Same H H'):Ppr K H' m N v d:=by
 cases h with
 | tup h l al=>exact .tup (s.tup h) l fun i t e=>(al i t e).mono s
 | len h l=>exact .len (s.tup h) l
 | lst e=>exact .lst (s _ _ e)
 | non=>exact .non
noncomputable def Jv (p q g u v a b:List Int) (c:Int):Prop:=c≠0/\pln g=g/\tm u g=p/\tm v g=q/\ta (tm a p) (tm b q)=ng g c
noncomputable instance {p q g u v a b:List Int}{c:Int}:Decidable (Jv p q g u v a b c):=by unfold Jv;infer_instance
noncomputable def l0 (d:Option (List Int)):List Int:=d.getD []
theorem Tg.pol {H:Hp}{L N:Nat}{v:V}{d:Option (List Int)}{i:Option Int} (h:Tg K H L N v d i) (e:plB d=true):Po K H v (l0 d) L N:=by
 cases d with
 | none=>cases e
 | some ns=>
   have e:trim ns=ns:=of_decide_eq_true e
   exact h.po (e▸Bq ns)
theorem Tg.isInt {H:Hp}{L N:Nat}{v:V}{d:Option (List Int)}{i:Int} (h:Tg K H L N v d (some i)):v= .int i/\Sz N i:=by
 cases h with
 | int i z=>exact⟨rfl,z⟩
theorem Agb {H:Hp}{Q:VK}{m:Nat}{N:Nat->Nat}{v:V}{d:Option (List T3)}{X:Prop} (hv:Ppr K H m N v d) (z:d=none->Q (.bl false) H) (I:∀a ts,d=some ts->v= .ref a->ts.length=m->SqT K H a (ts.map (·.1))->(∀i t,ts[i]? =some t->Tg K H 100 (N i) t.1 t.2.1 t.2.2)->X):
 ∃x t T b,[v,V.ty "tuple"]=[x,V.ty T]/\TyA K H x t/\kitOne K t (.type T)=some b/\if b=false then Q (.bl false) H else ∃p ys,[v]=[V.ref p]/\(SqL K H p ys\/SqT K H p ys)/\if((ys.length:Nat):Int)=(m:Nat)then X else Q (.bl false) H:=by
 cases hv with
 | tup h l al=>
   refine⟨_,_,"tuple",true,rfl,.tup h,Ro (by decide+kernel),?_⟩
   rw [if_neg (by decide)]
   refine⟨_,_,rfl,.inr h,?_⟩
   rw [if_pos (by rw [length_map,l])]
   exact I _ _ rfl rfl l h al
 | len h l=>
   refine⟨_,_,"tuple",true,rfl,.tup h,Ro (by decide+kernel),?_⟩
   rw [if_neg (by decide)]
   refine⟨_,_,rfl,.inr h,?_⟩
   rw [if_neg (by omega)]
   exact z rfl
 | lst e=>exact⟨_,_,"tuple",false,rfl,.of (.lst e),Ro (by decide+kernel),z rfl⟩
 | non=>exact⟨_,_,"tuple",false,rfl,.of .non,Ro (by decide+kernel),z rfl⟩
noncomputable def srB (p q:List Int):Option (List T3)->Bool
 | some [g,u,v,a,b,c]=>[plB g.2.1,plB u.2.1,plB v.2.1,plB a.2.1,plB b.2.1].all id&&c.2.2.isSome&&decide (Jv p q (l0 g.2.1) (l0 u.2.1) (l0 v.2.1) (l0 a.2.1) (l0 b.2.1) (c.2.2.getD 0))
 | _=>false
theorem Qh (p q:List Int) (g u v a b c:T3):srB p q (some [g,u,v,a,b,c])=([plB g.2.1,plB u.2.1,plB v.2.1,plB a.2.1,plB b.2.1].all id&&c.2.2.isSome&&decide (Jv p q (l0 g.2.1) (l0 u.2.1) (l0 v.2.1) (l0 a.2.1) (l0 b.2.1) (c.2.2.getD 0))):=rfl
theorem six {α:Type}{ts:List α} (h:ts.length=6):∃g u v a b c,ts=[g,u,v,a,b,c]:=by
 match ts,h with
 | [g,u,v,a,b,c],_=>exact⟨g,u,v,a,b,c,rfl⟩
noncomputable def Aqw (K:Frag):Sp:=fun vs H Q _=>∃(x y v:V) (p q:List Int) (ts:Option (List T3)) (N:Nat->Nat) (n:Nat),vs=[x,y,v]/\Po K H x p 20 n/\Po K H y q 20 n/\Ppr K H 6 N v ts/\n<=10000/\N 0<=400000/\(∀i,N i<=20000000)/\∀H',Same H H'->Q (.bl (srB p q ts)) H'
noncomputable def Iz (K:Frag):Sp:=Aqw K
theorem Ry {f:Addr}{fd:FuncData} (F:Df K mg "shared_right" Ht ["one","other","paper"] f fd) (J:mg "isinstance"=none) (Z:mg "tuple"=none) (z_len:mg "len"=none) (a4:mg "all"=none)  (S:Cal P w K mg base 35 "p_plus" ["one","other"] (Lr K)) (U:Cal P w K mg base 33 "scaled" ["one","factor"] (Iw K)) (M:Cal P w K mg base 33 "is_whole" ["thing"] (Ko K)) (a0:Cal P w K mg base 37 "plain" ["one"] (G6 K)) (I:Cal P w K mg base 33 "p_times" ["one","other"] (Gv K)) (O:Cal P w K mg base 34 "is_poly" ["thing"] (Px K)):Cal P w K mg base 38 "shared_right" ["one","other","paper"] (Iz K):=by
 refine F.cal (F.fn.ok Es (fun vs H Q E h=> ?_) (fun ap A outer s H vs Q E W h=> ?_))
 . obtain⟨x,y,z,_,_,_,_,_,rfl,_⟩:=h
   rfl
 obtain⟨x,y,v,p,q,ts,N,n,rfl,hx,hy,hv,b1,b2,b3,k⟩:=h
 refine Ax ⟨_,(Ad (Ay (Cj (Bw (Bt (Bo (Ba Gk rfl J boot_isinstance (Aa (Ae 2) (Aa (Ej (v:= .ty "tuple") rfl Z boot_tuple rfl) Ab))))) (Dw (Am Lf (Ba Az rfl z_len PySem.boot_len (Aa (Ae 2) Ab)) Ac (Bb _))))) (Ag (Aj Br)) Ar)
  (Ad (Cy (Ae 2) (Dn rfl (Ai (Aq 3 Es.nd) (Ai (Aq 4 Es.nd) (Ai (Aq 5 Es.nd) (Ai (Aq 6 Es.nd) (Ai (Aq 7 Es.nd) (Ai (Aq 8 Es.nd) Ci))))))))
  (Ad (Ay (Cj (Bw (Bt (Bo (Ba (J9 rfl) rfl a4 boot_all (Aa (Ea (ts:=["thing"]) (fs:=[]) rfl (Dl.of (sc:=Av Ht) (N:=["one","other","paper","g","u","v","a","b","c"]) rfl rfl (by decide+kernel)) (Gb (Al (Aa (Ae 3) (Aa (Ae 4) (Aa (Ae 5) (Aa (Ae 6) (Aa (Ae 7) Ab))))))) (fun _ _ _=>(Aq 0 (show Nodup (["thing"]:List Str)by decide+kernel))) (fun _ _ _=>Dj) (fun _ _ _=>(Af O W (Aa (Ae 0) Ab)))) Ab)))) (Bw (Bt (Bo (Af M W (Aa (Ae 8) Ab)))) (Dw (Am Hj (Ae 8) Ac (Bb _)))))) (Ag (Aj Br)) Ar)
  (Ad (Ay (Cj (Bw (Am (Gz W.units) (Af a0 W (Aa (Ae 3) Ab)) (Ae 3) (Bb _)) (Bw (Am (Gz W.units) (Af I W (Aa (Ae 4) (Aa (Ae 3) Ab))) (Ae 0) (Bb _)) (Dw (Am (Gz W.units) (Af I W (Aa (Ae 5) (Aa (Ae 3) Ab))) (Ae 1) (Bb _)))))) (Ag (Aj Br)) Ar)
  (Ag (Aj (Cv (Fl W.units) (Af S W (Aa (Af I W (Aa (Ae 6) (Aa (Ae 0) Ab))) (Aa (Af I W (Aa (Ae 7) (Aa (Ae 1) Ab))) Ab))) (Af U W (Aa (Ae 3) (Aa (Ae 8) Ab))) (Bb _)))))))),?_⟩
 done
 refine Agb (m:=6) hv (fun e=>by rw [e]at k;exact k _ (Same.refl _)) fun z aq e ev l6 hz al=> ?_
 subst e ev
 obtain⟨g,u,v,a,b,c,rfl⟩:=six l6
 have no:∀(H':Hp),Same H H'->srB p q (some [g,u,v,a,b,c])=false->Q (.bl false) H':=fun H' s h=>by
  have:=k H' s
  rw [h]at this
  exact this
 have tg:=al 0 g rfl
 have tu:=al 1 u rfl
 have tv:=al 2 v rfl
 have a6:=al 3 a rfl
 have tb:=al 4 b rfl
 have tc:=al 5 c rfl
 try done
 refine⟨z,_,rfl,hz,rfl,g.1,_,rfl,u.1,_,rfl,v.1,_,rfl,a.1,_,rfl,b.1,_,rfl,c.1,_,rfl,rfl,?_⟩
 try done
 refine⟨by decide,?_⟩
 (intro q1 a7;generalize a8:upd _ q1 _=ar;obtain⟨a9,aa⟩:=nw a7 a8;clear a8 a7)
 refine⟨⟨_,.of aa⟩,fun q2 ac=>Gx (es:=[g,u,v,a,b]) (inj:=fun t=>t.1) (fun t=> .bl (plB t.2.1)) (show 5<=sizeLine by decide) ac (Ov (.of aa)) ?_ ?_⟩
 . intro e G R he sg hR
   done
   have sG:=a9.trans sg
   have ht:∃j,Tg K G 100 (N j) e.1 e.2.1 e.2.2:=by
    simp only [mem_cons,not_mem_nil,or_false]at he
    rcases he with rfl | rfl | rfl | rfl | rfl
    . exact⟨_,tg.mono sG⟩
    . exact⟨_,tu.mono sG⟩
    . exact⟨_,tv.mono sG⟩
    . exact⟨_,a6.mono sG⟩
    . exact⟨_,tb.mono sG⟩
   obtain⟨j,ht⟩:=ht
   exact⟨_,_,_,_,_,rfl,ht,by decide,fun H' s'=>hR _ s'⟩
 intro H3 s3 g3
 try done
 refine⟨q2,[plB g.2.1,plB u.2.1,plB v.2.1,plB a.2.1,plB b.2.1],rfl,.of g3,?_⟩
 have Y:=a9.trans s3
 try done
 by_cases hb:[plB g.2.1,plB u.2.1,plB v.2.1,plB a.2.1,plB b.2.1].all id=true
 case neg=>
  rw [if_pos (eq_false_iff.mpr hb)]
  exact no _ Y (by rw [Qh,eq_false_iff.mpr hb,Bool.false_and,Bool.false_and])
 rw [if_neg (by rw [hb];decide)]
 refine⟨_,_,_,_,_,rfl,tc.mono Y,_,rfl,?_⟩
 rcases c with⟨cv,cd,_ | c⟩
 . exact no _ Y (by rw [Qh,hb];rfl)
 change Tg K H 100 (N 5) cv cd (some c)at tc
 obtain⟨rfl,zc⟩:=tc.isInt
 have es:srB p q (some [g,u,v,a,b,(.int c,cd,some c)])=decide (Jv p q (l0 g.2.1) (l0 u.2.1) (l0 v.2.1) (l0 a.2.1) (l0 b.2.1) c):=by rw [Qh,hb];rfl
 rw [es]at k no
 replace no:∀(H':Hp),Same H H'->¬Jv p q (l0 g.2.1) (l0 u.2.1) (l0 v.2.1) (l0 a.2.1) (l0 b.2.1) c->Q (.bl false) H':=fun H' s h=>no H' s (decide_eq_false h)
 simp only [all_cons,all_nil,id_eq,and_eq_true,and_true]at hb
 obtain⟨pg,pu,pv,pa,pb⟩:=hb
 have ig:=tg.pol pg
 have iu:=tu.pol pu
 have iv:=tv.pol pv
 have ia:=a6.pol pa
 have ib:=tb.pol pb
 have n1:=b3 1
 have n2:=b3 2
 have n3:=b3 3
 have n4:=b3 4
 have n5:=b3 5
 rw [if_neg (by intro z;cases z)]
 try done
 by_cases hc:c=0
 . rw [if_pos hc]
   exact no _ Y fun z=>z.1 hc
 rw [if_neg hc]
 refine Ku ig Y (by decide) (by omega) fun wg H4 s4 ad=> ?_
 have a1:=Y.trans s4
 generalize g.1=vg at*
 generalize l0 g.2.1=g at*
 obtain⟨⟨dg,rfl,ae⟩,_⟩:=id ig
 obtain⟨⟨dw,rfl,af⟩,_⟩:=id ad
 refine Bu af (a1.tup ae) ?_
 by_cases h1:pln g=g
 case neg=>
  rw [decide_eq_false h1]
  try done
  exact no _ a1 fun z=>h1 z.2.1
 rw [decide_eq_true h1]
 try done
 refine⟨_,_,_,_,_,_,_,_,rfl,iu.mono a1,ig.mono a1,by decide,by decide,by omega,fun w1 H5 s5 i5=> ?_⟩
 have a2:=a1.trans s5
 obtain⟨⟨d5,rfl,ag⟩,_⟩:=id i5
 obtain⟨⟨dx,rfl,ah⟩,_⟩:=id hx
 refine Bu ag (a2.tup ah) ?_
 by_cases h2:tm (l0 u.2.1) g=p
 case neg=>
  rw [decide_eq_false h2]
  try done
  exact no _ a2 fun z=>h2 z.2.2.1
 rw [decide_eq_true h2]
 try done
 refine⟨_,_,_,_,_,_,_,_,rfl,iv.mono a2,ig.mono a2,by decide,by decide,by omega,fun w2 H6 s6 i6=> ?_⟩
 have a3:=a2.trans s6
 obtain⟨⟨d6,rfl,ai⟩,_⟩:=id i6
 obtain⟨⟨dy,rfl,aj⟩,_⟩:=id hy
 refine Bu ai (a3.tup aj) ?_
 by_cases h3:tm (l0 v.2.1) g=q
 case neg=>
  rw [decide_eq_false h3]
  try done
  exact no _ a3 fun z=>h3 z.2.2.2.1
 rw [decide_eq_true h3]
 try done
 refine⟨_,_,_,_,_,_,_,_,rfl,ia.mono a3,hx.mono a3,by decide,by decide,by omega,fun w3 H7 s7 i7=> ?_⟩
 try done
 have a5:=a3.trans s7
 refine⟨_,_,_,_,_,_,_,_,rfl,ib.mono a5,hy.mono a5,by decide,by decide,by omega,fun w4 H8 s8 i8=> ?_⟩
 try done
 have ak:=a5.trans s8
 refine⟨w3,w4,_,_,_,_,_,_,rfl,i7.mono s8,i8,by omega,by omega,trivial,fun w5 H9 s9 i9=> ?_⟩
 try done
 have ab:=ak.trans s9
 refine⟨_,c,_,_,_,_,rfl,ig.mono ab,zc,by decide,by omega,fun w6 Ha sa am=> ?_⟩
 obtain⟨⟨d9,rfl,an⟩,_⟩:=id i9
 obtain⟨⟨da,rfl,ao⟩,_⟩:=id am
 refine Bu (sa.tup an) ao ?_
 rw [decide_eq_decide.mpr (show _↔Jv p q g (l0 u.2.1) (l0 v.2.1) (l0 a.2.1) (l0 b.2.1) c from⟨fun h=>⟨hc,h1,h2,h3,h⟩,fun h=>h.2.2.2.2⟩)]
 exact k _ (ab.trans sa)
theorem Ai5 (a b:Nat):(if((b:Nat):Int)>(a:Nat)then((b:Nat):Int)else((a:Nat):Int))=((max a b:Nat):Int):=by
 split<;>omega
noncomputable def Fe (K:Frag):Sp:=fun vs H Q _=>∃(x y:V) (p q:List Int) (l l' n n':Nat),vs=[x,y]/\Po K H x p l n/\Po K H y q l' n'/\l<=400/\l'<=400/\n+n'<=100000000/\∀z H',Same H H'->Po K H' z (tm p q) (l+l') (n+n'+l)->Q z H'
theorem Wn {f:Addr}{fd:FuncData} (F:Df K mg "_law_product" Nj ["_law_one","_law_other"] f fd) (O:mg "range"=none) (z_len:mg "len"=none)  (U:Cal P w K mg base 33 "_law_cut" ["_law_weights"] (Hu K)):Cal P w K mg base 34 "_law_product" ["_law_one","_law_other"] (Fe K):=by
 refine F.cal (F.fn.ok Jg (fun vs H Q E h=> ?_) (fun af A outer s H vs Q E hr h=> ?_))
 . obtain⟨x,y,p,q,_,_,_,_,rfl,_⟩:=h
   rfl
 obtain⟨x,y,p,q,l,l',n,n',rfl,hx,hy,l5,ag,hn,k⟩:=h
 have mx:=hx.mem
 have my:=hy.mem
 obtain⟨⟨a,rfl,ha⟩,tp,lp,zp⟩:=hx
 obtain⟨⟨b,rfl,hb⟩,tq,lq,zq⟩:=hy
 have res:∀(z:Addr) (H':Hp),Same H H'->SqT K H' z ((tm p q).map V.int)->Q (.ref z) H':=fun z H' s hz=>by
  refine k _ _ s ⟨⟨z,rfl,hz⟩,Gw _ _,?_,fun i=> ?_⟩
  . by_cases h1:p=[]
    . rw [h1,Ja,Jb]
      exact zero_le _
    . by_cases h2:q=[]
      . rw [h2,Jb]
        exact zero_le _
      . have:=J4 tp tq h1 h2
        omega
  . rw [Dz]
    exact(Afv zq p mx i).mono (by omega)
 refine Ax ⟨_,(Ad (Ak 2 Jg.nd (Ah Uc (Cd (Aa Ac Ab)) (Ah Eh (Ba Az rfl z_len PySem.boot_len (Aa (Ae 0) Ab)) (Ba Az rfl z_len PySem.boot_len (Aa (Ae 1) Ab)))))
  (Ad (Dp PassesOwn.never rfl (Ew rfl O (Aa (Ba Az rfl z_len PySem.boot_len (Aa (Ae 0) Ab)) Ab)) (Aq 3 Jg.nd) (Ag (Dp PassesOwn.never rfl (Ew rfl O (Aa (Ba Az rfl z_len PySem.boot_len (Aa (Ae 1) Ab)) Ab)) (Aq 4 Jg.nd) (Ag (Cy (Ah Eh (Aw Ec (Ae 2) (Ah Eh (Ae 3) (Ae 4)) (fun _ _=>rfl)) (Ah Cr (Aw Bx (Ae 0) (Ae 3) (fun _ _=>rfl)) (Aw Bx (Ae 1) (Ae 4) (fun _ _=>rfl)))) (Hw (Ae 2) (Ah Eh (Ae 3) (Ae 4)) set_list))))))
  (Ag (Aj (Af U hr (Aa (Ae 2) Ab)))))),?_⟩
 done
 intro p3 aa
 have s3:=Same.upd aa (.lst [V.int 0])
 have ah:1000<=sizeLine:=by decide
 refine⟨a,_,rfl,.inr (s3.tup ha),b,_,rfl,.inr (s3.tup hb),?_⟩
 simp only [length_map]
 have hN:((p.length:Int)+(q.length:Int)).toNat=p.length+q.length:=by omega
 refine⟨p3,_,[V.int 0],rfl,rfl,Ao,by omega,by omega,by rw [hN];simp only [length_cons,length_nil];omega,fun l0 a4=> ?_⟩
 rw [hN,Io]
 have ab:H l0=none:=Same.free s3 a4
 have s4:=s3.trans (Same.upd a4 (.lst ((replicate (p.length+q.length) (0:Int)).map V.int)))
 refine⟨a,_,rfl,.inr (s4.tup ha),?_⟩
 repeat (first | done | simp only [length_map,toNat_natCast])
 refine⟨by omega,by omega,Uy (es:=List.range p.length) (inj:=fun i=> .int (0+(i:Nat))) (fun J σ H'=>∃(o1 o2:Option V) (ms:List Int),σ=[some (.ref a),some (.ref b),some (.ref l0),o1,o2]/\J=List.range J.length/\Same H H'/\H' l0=some (.lst (ms.map V.int))/\ms.length=p.length+q.length/\∀i,co ms i=mu (p.take J.length) (co q) i)
  ⟨_,_,replicate (p.length+q.length) 0,rfl,rfl,s4,Ao,by rw [length_replicate],fun i=> ?_⟩ ?_ ?_ ?_⟩
 . show _=0
   unfold co
   rw [getD_eq_getElem?_getD,getElem?_replicate]
   split<;>rfl
 . rintro J σ H' _
   exact J5
 . rintro J e ae σ H' he ⟨o1,o2,ms,rfl,a5,s5,hm,a6,a0⟩
   have a7:=congrArg List.length he
   rw [length_range,length_append,length_cons]at a7
   have ee:e=J.length:=by
    have:=congrArg (fun l=>l[J.length]?) he
    simp only [getElem?_append_right (le_refl _),sub_self,getElem?_cons_zero]at this
    rw [getElem?_range (by omega)]at this
    exact(Option.some.inj this).symm
   subst ee
   have ac:J++ [J.length]=List.range (J++ [J.length]).length:=by
    rw [length_append,length_singleton,List.range_succ,<-a5]
   have hk:J.length<p.length:=by omega
   have ez:Sz n p[J.length]:=mx _ (getElem_mem hk)
   try done
   refine⟨b,_,rfl,.inr (s5.tup hb),?_⟩
   repeat (first | done | simp only [length_map,toNat_natCast,zero_add])
   refine⟨by omega,by omega,Uy (es:=List.range q.length) (inj:=fun i=> .int (0+(i:Nat))) (fun I σ H2=>∃(o2:Option V) (M:List Int),σ=[some (.ref a),some (.ref b),some (.ref l0),some (.int (J.length:Nat)),o2]/\I=List.range I.length/\Same H H2/\H2 l0=some (.lst (M.map V.int))/\M.length=p.length+q.length/\
    ∀i,co M i=mu (p.take J.length) (co q) i+(if J.length<=i then p[J.length]*co (q.take I.length) (i-J.length)else 0)) ⟨_,ms,rfl,rfl,s5,hm,a6,fun i=> ?_⟩ ?_ ?_ ?_⟩
   . rw [a0,length_nil,List.take_zero,Bv,Int.mul_zero]
     split<;>simp
   . rintro I σ H2 _
     exact J5
   . rintro I f ad σ H2 a8 ⟨o2,M,rfl,a1,s7,Y,W,S⟩
     have a2:=congrArg List.length a8
     rw [length_range,length_append,length_cons]at a2
     have ff:f=I.length:=by
      have:=congrArg (fun l=>l[I.length]?) a8
      simp only [getElem?_append_right (le_refl _),sub_self,getElem?_cons_zero]at this
      rw [getElem?_range (by omega)]at this
      exact(Option.some.inj this).symm
     subst ff
     have a9:I++ [I.length]=List.range (I++ [I.length]).length:=by
      rw [length_append,length_singleton,List.range_succ,<-a1]
     have a3:I.length<q.length:=by omega
     have fz:Sz n' q[I.length]:=my _ (getElem_mem a3)
     have hj:J.length+I.length<M.length:=by omega
     repeat (first | done | simp only [zero_add,<-natCast_add])
     refine Mh (.of Y) (Ft hj) (En (s7.tup ha) (Bk (Ft hk)) (En (s7.tup hb) (Bk (Ft a3)) ?_))
     try done
     refine⟨ez.mulOk fz (by omega),Wc Y (by rw [length_map];exact hj) ?_⟩
     rw [Jh]
     refine⟨_,M.set (J.length+I.length) (M[J.length+I.length]+p[J.length]*q[I.length]),rfl,a9,?_,Ao,by rw [length_set];exact W,fun i=> ?_⟩
     . intro c o hc
       rw [Cu (Dk hc ab)]
       exact s7 _ _ hc
     . rw [P0 _ _ _ hj,S i,length_append,length_singleton]
       have tk:q.take (I.length+1)=q.take I.length++ [q[I.length]]:=by rw [take_succ,getElem?_eq_getElem a3];rfl
       have tl:(q.take I.length).length=I.length:=by rw [length_take];omega
       rw [tk,Gp,tl]
       by_cases hi:i=J.length+I.length
       . subst hi
         rw [if_pos rfl,<-Ef hj,S,if_pos (by omega),if_pos (by omega),if_pos (by omega),show J.length+I.length-J.length=I.length by omega,Ck (p:=q.take I.length) (by omega)]
         omega
       . rw [if_neg hi]
         by_cases Z:J.length<=i
         . rw [if_pos Z,if_pos Z,if_neg (by omega)]
         . rw [if_neg Z,if_neg Z]
   . rintro σ H2 ⟨o2,M,rfl,_,s7,Y,W,S⟩
     try done
     refine⟨_,_,M,rfl,ac,s7,Y,W,fun i=> ?_⟩
     have tk:p.take (J.length+1)=p.take J.length++ [p[J.length]]:=by rw [take_succ,getElem?_eq_getElem hk];rfl
     have tl:(p.take J.length).length=J.length:=by rw [length_take];omega
     rw [length_append,length_singleton,tk,Ld,S,tl,length_range,take_length]
 . rintro σ H' ⟨o1,o2,ms,rfl,_,s5,hm,a6,a0⟩
   try done
   refine Abi (.inl (.of hm)) (by omega) fun z H2 s2 hz=>res z H2 (s5.trans s2) ?_
   have e:trim ms=tm p q:=Mw fun i=>by rw [a0,length_range,take_length,U3]
   rw [<-e]
   exact hz
noncomputable def Mt (K:Frag):Sp:=fun vs H Q _=>∃(x y:V) (p q:List Int) (l l' n n':Nat),vs=[x,y]/\Po K H x p l n/\Po K H y q l' n'/\l<=400/\l'<=400/\∀z H',Same H H'->Po K H' z (ta p q) (max l l') (max n n'+1)->Q z H'
theorem Ahc (p:List Int) (k i:Nat):co (p++replicate k 0) i=co p i:=by
 unfold co
 rw [getD_eq_getElem?_getD,getD_eq_getElem?_getD]
 by_cases h:i<p.length
 . rw [getElem?_append_left h]
 . rw [getElem?_append_right (by omega),getElem?_eq_none (l:=p) (by omega),getElem?_replicate]
   split<;>rfl
theorem Af3 {f:Addr}{fd:FuncData} (F:Df K mg "_law_sum" Vk ["_law_one","_law_other"] f fd) (M:mg "max"=none) (z_len:mg "len"=none) (z_list:mg "list"=none) (I:mg "range"=none)  (J:Cal P w K mg base 33 "_law_cut" ["_law_weights"] (Hu K)):Cal P w K mg base 34 "_law_sum" ["_law_one","_law_other"] (Mt K):=by
 refine F.cal (F.fn.ok Q5 (fun vs H Q E h=> ?_) (fun a6 A outer s H vs Q E hr h=> ?_))
 . obtain⟨x,y,p,q,_,_,_,_,rfl,_⟩:=h
   rfl
 obtain⟨x,y,p,q,l,l',n,n',rfl,⟨⟨a,rfl,Z⟩,tp,lp,zp⟩,⟨⟨b,rfl,hb⟩,tq,lq,zq⟩,l5,a7,k⟩:=h
 have a8:1000<=sizeLine:=by decide
 refine Ax ⟨_,(Ad (Ak 2 Q5.nd (Ba (Rh rfl) rfl M boot_max (Aa (Ba Az rfl z_len PySem.boot_len (Aa (Ae 0) Ab)) (Aa (Ba Az rfl z_len PySem.boot_len (Aa (Ae 1) Ab)) Ab))))
  (Ad (Ak 3 Q5.nd (Ah Zk (Ed Fp rfl z_list boot_list (Aa (Ae 0) Ab)) (Ah Uc (Cd (Aa Ac Ab)) (Ah Em (Ae 2) (Ba Az rfl z_len PySem.boot_len (Aa (Ae 0) Ab))))))
  (Ad (Ak 4 Q5.nd (Ah Zk (Ed Fp rfl z_list boot_list (Aa (Ae 1) Ab)) (Ah Uc (Cd (Aa Ac Ab)) (Ah Em (Ae 2) (Ba Az rfl z_len PySem.boot_len (Aa (Ae 1) Ab))))))
  (Ag (Aj (Af J hr (Aa (Ea (ts:=["_law_k"]) (fs:=[(3,"_law_longer"),(4,"_law_more")]) rfl (Dl.of (sc:=Av Vk) (N:=["_law_one","_law_other","_law_many","_law_longer","_law_more"]) rfl rfl (by decide+kernel)) (Ew rfl I (Aa (Ae 2) Ab)) (fun _ _ _=>(Aq 0 (show Nodup (["_law_k","_law_longer","_law_more"]:List Str)by decide+kernel))) (fun _ _ _=>Dj) (fun _ _ _=>(Ah Eh (Aw (Zg K) (Ae 1) (Ae 0) (fun _ _=>rfl)) (Aw (Zg K) (Ae 2) (Ae 0) (fun _ _=>rfl))))) Ab))))))),?_⟩
 done
 refine⟨a,_,rfl,.inr Z,b,_,rfl,.inr hb,?_⟩
 repeat (first | done | simp only [length_map,Ai5])
 refine⟨a,_,rfl,.inr Z,fun l1 a0 p1 O=> ?_⟩
 have s1:=Same.upd a0 (.lst (p.map V.int))
 have s2:=s1.trans (Same.upd O (.lst [V.int 0]))
 refine⟨a,_,rfl,.inr (s2.tup Z),?_⟩
 have e1:(((max p.length q.length:Nat):Int)-((p.map V.int).length:Nat)).toNat=max p.length q.length-p.length:=by rw [length_map];omega
 refine⟨p1,_,[V.int 0],rfl,rfl,Ao,by rw [length_map];omega,by rw [length_map];omega,by rw [e1];simp only [length_cons,length_nil];omega,fun l2 S=> ?_⟩
 rw [e1,Io]
 have n1:l1≠p1:=fun z=>by rw [<-z,Ao]at O;cases O
 have n2:l1≠l2:=fun z=>by rw [<-z,Cu n1,Ao]at S;cases S
 have s3:=s2.trans (Same.upd S (.lst ((replicate (max p.length q.length-p.length) (0:Int)).map V.int)))
 refine⟨l1,l2,_,_,rfl,rfl,(Cu n2).trans ((Cu n1).trans Ao),Ao,by rw [length_map,length_map,length_replicate];omega,fun l3 a1=> ?_⟩
 rw [<-map_append]
 have s4:=s3.trans (Same.upd a1 (.lst ((p++replicate (max p.length q.length-p.length) 0).map V.int)))
 try done
 refine⟨b,_,rfl,.inr (s4.tup hb),fun l4 a2 p2 U=> ?_⟩
 have s5:=Same.upd a2 (.lst (q.map V.int))
 have s6:=s5.trans (Same.upd U (.lst [V.int 0]))
 refine⟨b,_,rfl,.inr ((s4.trans s6).tup hb),?_⟩
 have e2:(((max p.length q.length:Nat):Int)-((q.map V.int).length:Nat)).toNat=max p.length q.length-q.length:=by rw [length_map];omega
 refine⟨p2,_,[V.int 0],rfl,rfl,Ao,by rw [length_map];omega,by rw [length_map];omega,by rw [e2];simp only [length_cons,length_nil];omega,fun l5 W=> ?_⟩
 rw [e2,Io]
 have n4:l4≠p2:=fun z=>by rw [<-z,Ao]at U;cases U
 have n5:l4≠l5:=fun z=>by rw [<-z,Cu n4,Ao]at W;cases W
 have s7:=s6.trans (Same.upd W (.lst ((replicate (max p.length q.length-q.length) (0:Int)).map V.int)))
 refine⟨l4,l5,_,_,rfl,rfl,(Cu n5).trans ((Cu n4).trans Ao),Ao,by rw [length_map,length_map,length_replicate];omega,fun l6 a3=> ?_⟩
 rw [<-map_append]
 have s8:=s7.trans (Same.upd a3 (.lst ((q++replicate (max p.length q.length-q.length) 0).map V.int)))
 have g3:=s8 l3 _ Ao
 repeat (first | done | simp only [toNat_natCast])
 refine⟨by omega,by omega,fun l7 a4=>Gx (es:=List.range (max p.length q.length)) (inj:=fun i=> .int (0+(i:Nat))) (fun i=> .int (co p i+co q i)) (by rw [length_range];omega) a4 Q7 ?_ ?_⟩
 . intro e H2 R he Y hR
   have a9:=mem_range.mp he
   have q1:e<(p++replicate (max p.length q.length-p.length) 0).length:=by rw [length_append,length_replicate];omega
   have q2:e<(q++replicate (max p.length q.length-q.length) 0).length:=by rw [length_append,length_replicate];omega
   repeat (first | done | simp only [zero_add])
   refine Mh (.of (Y _ _ g3)) (Ft q1) (Mh (.of (Y _ _ Ao)) (Ft q2) ?_)
   try done
   rw [<-Ef q1,<-Ef q2,Ahc,Ahc]
   exact hR _ (Same.refl _)
 . intro H2 Y h9
   have em:(List.range (max p.length q.length)).map (fun i=>V.int (co p i+co q i))=((List.range (max p.length q.length)).map fun i=>co p i+co q i).map V.int:=by rw [map_map];rfl
   rw [em]at h9
   refine Abi (.inl (.of h9)) (by rw [length_map,length_range];omega) fun z H3 a5 hz=>k _ _ (((s4.trans s8).trans Y).trans a5) ⟨⟨z,rfl,?_⟩,Qp _ _,?_,fun i=> ?_⟩
   . have e:trim ((List.range (max p.length q.length)).map fun i=>co p i+co q i)=ta p q:=Mw fun i=>by
      rw [Oz]
      by_cases hi:i<max p.length q.length
      . rw [Ef (by rw [length_map,length_range];exact hi)]
        simp
      . rw [Ck (by rw [length_map,length_range];omega),Ck (p:=p) (by omega),Ck (p:=q) (by omega)]
        rfl
     rw [<-e]
     exact hz
   . have:=Aes p q
     omega
   . rw [Ma]
     exact(zp i).add (zq i)
noncomputable def Z0 (_:Frag):Sp:=Anb
theorem Af2 {f:Addr}{fd:FuncData} (F:Df K mg "_law_gcd" Ys ["_law_one","_law_other"] f fd) (z:mg "abs"=none)   :Cal P w K mg base 33 "_law_gcd" ["_law_one","_law_other"] (Z0 K):=by
 refine F.cal (F.fn.ok Q0 (fun O H Q E h=> ?_) (fun S A outer s H O Q E hr h=> ?_))
 . obtain⟨a,b,rfl,_⟩:=h
   rfl
 obtain⟨a,b,rfl,q⟩:=h
 refine Ax ⟨_,(Ad (Ak 0 Q0.nd (Ba Ny rfl z boot_abs (Aa (Ae 0) Ab)))
  (Ad (Ak 1 Q0.nd (Ba Ny rfl z boot_abs (Aa (Ae 1) Ab)))
  (Ad (Fq PassesOwn.never (Am Lf (Ae 1) Ac (Bb _)) (Ag (Im (i:=0) (j:=1) rfl Q0.nd rfl rfl (by decide) rfl rfl (Aa (Ae 1) (Aa (Ah Dc (Ae 0) (Ae 1)) Ab)) rfl)))
  (Ag (Aj (Ae 0)))))),?_⟩
 repeat (first | done | simp only [abs_eq])
 refine Z5 (fun σ H'=>H'=H/\∃x y:Nat,σ=[some (.int x),some (.int y)]/\Nat.gcd x y=Nat.gcd a.natAbs b.natAbs)
  (fun σ _=>match σ with | [_,some (.int y)]=>y.toNat | _=>0) ⟨rfl,_,_,rfl,rfl⟩ ?_ ?_
 . rintro σ H' ⟨rfl,x,y,rfl,e⟩
   done
   by_cases M:(y:Int)=0
   . rw [if_pos M]
     have I:y=0:=by omega
     subst I
     rw [Nat.gcd_zero_right]at e
     subst e
     exact q
   . rw [if_neg M]
     refine⟨by omega,⟨y,x%y,by rw [natCast_emod],by rw [Ze];exact e⟩,?_⟩
     show((x:Int)%(y:Int)).toNat<(y:Int).toNat
     rw [<-natCast_emod,toNat_natCast,toNat_natCast]
     exact mod_lt _ (by omega)
 . intro σ H' Q1 Q2 J
   simp only [Ae2,Ap8]
   rintro⟨v,U,W⟩
   exact⟨v,U,by
    obtain⟨Y,k,Z,h3⟩:=W
    exact⟨Y,k,Z,J _ _ h3⟩⟩
theorem Ak0 {p:List Int}{n:Nat} (z:∀i,Sz n (co p i)) {e:Int} (I:e∈p):Sz n e:=by
 obtain⟨j,J,rfl⟩:=getElem_of_mem I
 have:=z j
 rw [Ef J]at this
 exact this
noncomputable def Fj (K:Frag):Sp:=fun vs H Q _=>∃(x:V) (c:Int) (p:List Int) (l n m:Nat),vs=[x,.int c]/\Tg K H l n x (some p) none/\Sz m c/\l<=400/\n+m<=100000000/\∀z H',Same H H'->Po K H' z (ng p c) l (n+m)->Q z H'
theorem X8 {f:Addr}{fd:FuncData} (F:Df K mg "_law_scaled" Mp ["_law_one","_law_by"] f fd)   (I:Cal P w K mg base 33 "_law_cut" ["_law_weights"] (Hu K)):Cal P w K mg base 34 "_law_scaled" ["_law_one","_law_by"] (Fj K):=by
 refine F.cal (F.fn.ok Yv (fun Y H Q E h=> ?_) (fun Z A outer s H Y Q E hr h=> ?_))
 . obtain⟨x,c,p,_,_,_,rfl,_⟩:=h
   rfl
 obtain⟨x,c,p,l,n,m,rfl,hx,M,hl,hm,k⟩:=h
 cases hx with
 | @nums a _ O S U=>
 refine Ax ⟨_,(Ag (Aj (Af I hr (Aa (Ea (ts:=["_law_weight_here"]) (fs:=[(1,"_law_by")]) rfl (Dl.of (sc:=Av Mp) (N:=["_law_one","_law_by"]) rfl rfl (by decide+kernel)) (Gb (Ae 0)) (fun _ _ _=>(Aq 0 (show Nodup (["_law_weight_here","_law_by"]:List Str)by decide+kernel))) (fun _ _ _=>Dj) (fun _ _ _=>(Ah Cr (Ae 1) (Ae 0)))) Ab)))),?_⟩
 done
 refine⟨⟨_,O⟩,fun p1 J=>Gx (es:=p) (inj:=V.int) (fun x=> .int (x*c)) (le_trans S (le_trans hl (by decide))) J (Ov O) ?_ ?_⟩
 . intro e H2 R he W hR
   done
   refine⟨M.mulOk (Ak0 U he) (by omega),?_⟩
   rw [Int.mul_comm]
   exact hR _ (Same.refl _)
 intro H2 W h2
 have em:p.map (fun x=>V.int (x*c))=(p.map (· *c)).map V.int:=by rw [map_map];rfl
 rw [em]at h2
 refine Abi (.inl (.of h2)) (by rw [length_map];omega) fun z H3 s3 hz=>k _ _ (W.trans s3) ⟨⟨z,rfl,hz⟩,Bq _,le_trans (Hv _) (by rw [length_map];exact S),fun i=> ?_⟩
 rw [Jp]
 exact(U i).mul M
theorem Vc {p:List Int} (tp:Tr p) (n:p≠ []):pln p=p↔gl p=1/\0<co p (p.length-1):=by
 constructor
 . intro e
   have h:=(Je tp n).gl
   rw [e]at h
   exact⟨h,Adv tp n e⟩
 . rintro⟨h1,h2⟩
   have e:un p=1:=by
    unfold un
    rw [if_neg (by omega),h1]
    rfl
   unfold pln
   rw [e]
   simp
noncomputable def Kq (K:Frag):Sp:=fun vs H Q _=>∃(a:Addr) (p:List Int),vs=[.ref a]/\SqT K H a (p.map V.int)/\Tr p/\∀H',Same H H'->Q (.bl (decide (pln p=p))) H'
theorem U9 {f:Addr}{fd:FuncData} (F:Df K mg "_law_is_plain" Ln ["_law_one"] f fd)   (z:Cal P w K mg base 33 "_law_gcd" ["_law_one","_law_other"] (Z0 K)):Cal P w K mg base 34 "_law_is_plain" ["_law_one"] (Kq K):=by
 refine F.cal (F.fn.ok Ig (fun Z H Q E h=> ?_) (fun a0 A outer s H Z Q E S h=> ?_))
 . obtain⟨a,p,rfl,_⟩:=h
   rfl
 obtain⟨a,p,rfl,O,tp,k⟩:=h
 refine Ax ⟨_,(Ad (Ak 1 Ig.nd Ac)
  (Ad (Dp PassesOwn.never rfl (Gb (Ae 0)) (Aq 2 Ig.nd) (Ag (Ak 1 Ig.nd (Af z S (Aa (Ae 1) (Aa (Ae 2) Ab))))))
  (Ag (Aj (Qq (Cv (Fl S.units) (Ae 0) (Al Ab) (Bb _)) (Il (Rb (Cv Hj (Ae 1) Ac (Bb _)) (Il (Cv R3 (Aw Bx (Ae 0) (Bd Ce Ac) (fun _ _=>rfl)) Ac (Bb _)))))))))),?_⟩
 done
 refine⟨⟨_,O⟩,Uy (es:=p) (inj:=V.int) (fun J I H'=>H'=H/\∃o3:Option V,I=[some (.ref a),some (.int (gl J:Nat)),o3]) ⟨rfl,_,rfl⟩ ?_ ?_ ?_⟩
 . rintro J I H' ⟨rfl,_⟩
   exact Z6 O
 . rintro J e U I H' he ⟨rfl,o,rfl⟩
   done
   refine⟨_,_,rfl,?_⟩
   rw [<-Acn]
   try done
   exact⟨_,rfl⟩
 . rintro I H' ⟨rfl,o,rfl⟩
   done
   refine⟨by decide,?_⟩
   (intro q W;generalize Y:upd _ q _=Gq;obtain⟨sq,gq⟩:=nw W Y;clear Y W)
   refine Bu (ms:=[]) (sq.tup O) (.of gq) ?_
   refine⟨_,rfl,?_⟩
   by_cases M:p=[]
   . subst M
     exact k _ sq
   rw [decide_eq_false M,if_neg (by decide)]
   by_cases h1:((gl p:Nat):Int)=1
   . rw [if_pos h1]
     refine En (sq.tup O) (Ia M) ?_
     try done
     rw [show decide (0<co p (p.length-1))=decide (pln p=p)from decide_eq_decide.mpr ⟨fun h=>(Vc tp M).mpr ⟨by omega,h⟩,fun h=>((Vc tp M).mp h).2⟩]
     exact k _ sq
   . rw [if_neg h1]
     rw [decide_eq_false (fun h=>h1 (by have:=((Vc tp M).mp h).1;omega))]at k
     exact k _ sq
section
variable {H H1 H2:Hp}{Q:VK}{E:XK}{x y:V}{p q:List Int}{l l' n n' m:Nat}{c:Int}{f:Bool->Bool}
theorem Fy (I:Po K H1 x p l n) (J:Same H1 H) (M:Po K H2 y q l' n') (s2:Same H2 H) (h1:l<=400) (h2:l'<=400) (O:n+n'<=100000000) (h:∀z H',Same H H'->Po K H' z (tm p q) (l+l') (n+n'+l)->Q z H'):Fe K [x,y] H Q E:=⟨x,y,p,q,l,l',n,n',rfl,I.mono J,M.mono s2,h1,h2,O,h⟩
theorem Ul (I:Po K H1 x p l n) (J:Same H1 H) (M:Po K H2 y q l' n') (s2:Same H2 H) (h1:l<=400) (h2:l'<=400) (h:∀z H',Same H H'->Po K H' z (ta p q) (max l l') (max n n'+1)->Q z H'):Mt K [x,y] H Q E:=⟨x,y,p,q,l,l',n,n',rfl,I.mono J,M.mono s2,h1,h2,h⟩
theorem Gj (I:Po K H1 x p l n) (J:Same H1 H) (M:Sz m c) (h1:l<=400) (O:n+m<=100000000) (h:∀z H',Same H H'->Po K H' z (ng p c) l (n+m)->Q z H'):Fj K [x,.int c] H Q E:=⟨x,c,p,l,n,m,rfl,(I.mono J).tg,M,h1,O,h⟩
theorem T6 (z:Po K H1 x p l n) (I:Same H1 H) (J:Po K H2 y q l' n') (s2:Same H2 H) (h:Q (.bl (f (decide (p=q)))) H):An9 K f x y H Q:=by
 obtain⟨⟨a,rfl,M⟩,_⟩:=z
 obtain⟨⟨b,rfl,O⟩,_⟩:=J
 exact Bu (I.tup M) (s2.tup O) h
end
noncomputable def Lx (K:Frag):Sp:=Aqw K
theorem Rv {f:Addr}{fd:FuncData} (F:Df K mg "_law_common_due" Hs ["_law_one","_law_other","_law_paper"] f fd) (J:mg "isinstance"=none) (Z:mg "tuple"=none) (z_len:mg "len"=none) (a4:mg "all"=none)  (a0:Cal P w K mg base 34 "_law_sum" ["_law_one","_law_other"] (Mt K)) (I:Cal P w K mg base 34 "_law_product" ["_law_one","_law_other"] (Fe K)) (S:Cal P w K mg base 34 "_law_scaled" ["_law_one","_law_by"] (Fj K)) (U:Cal P w K mg base 33 "_law_whole" ["_law_found"] (Mu K)) (M:Cal P w K mg base 34 "_law_is_plain" ["_law_one"] (Kq K)) (O:Cal P w K mg base 34 "_law_is_poly" ["_law_found"] (Ly K)):Cal P w K mg base 35 "_law_common_due" ["_law_one","_law_other","_law_paper"] (Lx K):=by
 refine F.cal (F.fn.ok Ei (fun vs H Q E h=> ?_) (fun ad A outer s H vs Q E Y h=> ?_))
 . obtain⟨x,y,z,_,_,_,_,_,rfl,_⟩:=h
   rfl
 obtain⟨x,y,v,p,q,ts,N,n,rfl,hx,hy,hv,b1,b2,b3,k⟩:=h
 refine Ax ⟨_,(Ad (Ay (Cj (Bw (Bt (Bo (Ba Gk rfl J boot_isinstance (Aa (Ae 2) (Aa (Ej (v:= .ty "tuple") rfl Z boot_tuple rfl) Ab))))) (Bw (Am Lf (Ba Az rfl z_len PySem.boot_len (Aa (Ae 2) Ab)) Ac (Bb _)) (Dw (Bt (Bo (Ba (J9 rfl) rfl a4 boot_all (Aa (Ea (ts:=["_law_each"]) (fs:=[]) rfl (Dl.of (sc:=Av Hs) (N:=["_law_one","_law_other","_law_paper","_law_whole_here","_law_part","_law_left","_law_right","_law_first_one","_law_second_one","_law_by"]) rfl rfl (by decide+kernel)) (Gb (Du Iu (Ae 2) Ek (El Ac))) (fun _ _ _=>(Aq 0 (show Nodup (["_law_each"]:List Str)by decide+kernel))) (fun _ _ _=>Dj) (fun _ _ _=>(Af O Y (Aa (Ae 0) Ab)))) Ab)))))))) (Ag (Aj Br)) Ar)
  (Ad (Cy (Ae 2) (Dn rfl (Ai (Aq 4 Ei.nd) (Ai (Aq 5 Ei.nd) (Ai (Aq 6 Ei.nd) (Ai (Aq 7 Ei.nd) (Ai (Aq 8 Ei.nd) (Ai (Aq 9 Ei.nd) Ci))))))))
  (Ad (Ay (Cj (Bw (Bt (Bo (Af U Y (Aa (Ae 9) Ab)))) (Bw (Am Hj (Ae 9) Ac (Bb _)) (Dw (Bt (Bo (Af M Y (Aa (Ae 4) Ab)))))))) (Ag (Aj Br)) Ar)
  (Ad (Ay (Cj (Bw (Am (Gz Y.units) (Af I Y (Aa (Ae 5) (Aa (Ae 4) Ab))) (Ae 0) (Bb _)) (Dw (Am (Gz Y.units) (Af I Y (Aa (Ae 6) (Aa (Ae 4) Ab))) (Ae 1) (Bb _))))) (Ag (Aj Br)) Ar)
  (Ad (Ak 3 Ei.nd (Af a0 Y (Aa (Af I Y (Aa (Ae 7) (Aa (Ae 0) Ab))) (Aa (Af I Y (Aa (Ae 8) (Aa (Ae 1) Ab))) Ab))))
  (Ag (Aj (Cv (Fl Y.units) (Ae 3) (Af S Y (Aa (Ae 4) (Aa (Ae 9) Ab))) (Bb _))))))))),?_⟩
 done
 refine Agb (m:=6) hv (fun e=>by rw [e]at k;exact k _ (Same.refl _)) fun z ae e ev l6 hz al=> ?_
 subst e ev
 obtain⟨g,u,v,a,b,c,rfl⟩:=six l6
 have no:∀(H':Hp),Same H H'->srB p q (some [g,u,v,a,b,c])=false->Q (.bl false) H':=fun H' s h=>by
  have:=k H' s
  rw [h]at this
  exact this
 have tg:=al 0 g rfl
 have tu:=al 1 u rfl
 have tv:=al 2 v rfl
 have a6:=al 3 a rfl
 have tb:=al 4 b rfl
 have tc:=al 5 c rfl
 refine⟨z,_,rfl,hz,fun t5 H2 s2 h5=> ?_⟩
 have ec:K6 [g.1,u.1,v.1,a.1,b.1,c.1] none (some 5)=[g.1,u.1,v.1,a.1,b.1]:=rfl
 change SqT K H2 t5 (K6 [g.1,u.1,v.1,a.1,b.1,c.1] none (some 5))at h5
 rw [ec]at h5
 try done
 refine⟨⟨_,h5⟩,fun q2 a8=>Gx (es:=[g,u,v,a,b]) (inj:=fun t=>t.1) (fun t=> .bl (plB t.2.1)) (show 5<=sizeLine by decide) a8 (Ov h5) ?_ ?_⟩
 . intro e G R he sg hR
   done
   have sG:=s2.trans sg
   have ht:∃j,Tg K G 100 (N j) e.1 e.2.1 e.2.2:=by
    simp only [mem_cons,not_mem_nil,or_false]at he
    rcases he with rfl | rfl | rfl | rfl | rfl
    . exact⟨_,tg.mono sG⟩
    . exact⟨_,tu.mono sG⟩
    . exact⟨_,tv.mono sG⟩
    . exact⟨_,a6.mono sG⟩
    . exact⟨_,tb.mono sG⟩
   obtain⟨j,ht⟩:=ht
   exact⟨_,_,_,_,_,rfl,ht,by decide,fun H' s'=>hR _ s'⟩
 intro H3 s3 g3
 try done
 refine⟨q2,[plB g.2.1,plB u.2.1,plB v.2.1,plB a.2.1,plB b.2.1],rfl,.of g3,?_⟩
 have W:=s2.trans s3
 try done
 by_cases hb:[plB g.2.1,plB u.2.1,plB v.2.1,plB a.2.1,plB b.2.1].all id=true
 case neg=>
  rw [if_pos (eq_false_iff.mpr hb)]
  exact no _ W (by rw [Qh,eq_false_iff.mpr hb,Bool.false_and,Bool.false_and])
 rw [if_neg (by rw [hb];decide)]
 try done
 refine⟨z,_,rfl,W.tup hz,rfl,g.1,_,rfl,u.1,_,rfl,v.1,_,rfl,a.1,_,rfl,b.1,_,rfl,c.1,_,rfl,rfl,?_⟩
 try done
 refine⟨_,_,_,_,_,rfl,tc.mono W,_,rfl,?_⟩
 rcases c with⟨cv,cd,_ | c⟩
 . exact no _ W (by rw [Qh,hb];rfl)
 change Tg K H 100 (N 5) cv cd (some c)at tc
 obtain⟨rfl,zc⟩:=tc.isInt
 have es:srB p q (some [g,u,v,a,b,(.int c,cd,some c)])=decide (Jv p q (l0 g.2.1) (l0 u.2.1) (l0 v.2.1) (l0 a.2.1) (l0 b.2.1) c):=by rw [Qh,hb];rfl
 rw [es]at k no
 replace no:∀(H':Hp),Same H H'->¬Jv p q (l0 g.2.1) (l0 u.2.1) (l0 v.2.1) (l0 a.2.1) (l0 b.2.1) c->Q (.bl false) H':=fun H' s h=>no H' s (decide_eq_false h)
 simp only [all_cons,all_nil,id_eq,and_eq_true,and_true]at hb
 obtain⟨pg,pu,pv,pa,pb⟩:=hb
 have ig:=tg.pol pg
 have iu:=tu.pol pu
 have iv:=tv.pol pv
 have ia:=a6.pol pa
 have ib:=tb.pol pb
 have n1:=b3 1
 have n2:=b3 2
 have n3:=b3 3
 have n4:=b3 4
 have n5:=b3 5
 rw [if_neg (by intro z;cases z)]
 try done
 by_cases hc:c=0
 . rw [if_pos hc]
   exact no _ W fun z=>z.1 hc
 rw [if_neg hc]
 generalize g.1=vg at*
 generalize l0 g.2.1=g at*
 obtain⟨⟨dg,rfl,a9⟩,aa,_⟩:=id ig
 refine⟨dg,g,rfl,W.tup a9,aa,fun H4 s4=>⟨_,rfl,?_⟩⟩
 have a3:=W.trans s4
 by_cases h1:pln g=g
 case neg=>
  rw [decide_eq_false h1]
  exact no _ a3 fun z=>h1 z.2.1
 rw [decide_eq_true h1]
 try done
 refine Fy iu a3 ig a3 (by decide) (by decide) (by omega) fun w1 H5 s5 i5=> ?_
 have a1:=a3.trans s5
 refine T6 i5 (Same.refl _) hx a1 ⟨_,rfl,?_⟩
 by_cases h2:tm (l0 u.2.1) g=p
 case neg=>
  rw [decide_eq_false h2]
  exact no _ a1 fun z=>h2 z.2.2.1
 rw [decide_eq_true h2]
 try done
 refine Fy iv a1 ig a1 (by decide) (by decide) (by omega) fun w2 H6 s6 i6=> ?_
 have a2:=a1.trans s6
 refine T6 i6 (Same.refl _) hy a2 ⟨_,rfl,?_⟩
 by_cases h3:tm (l0 v.2.1) g=q
 case neg=>
  rw [decide_eq_false h3]
  exact no _ a2 fun z=>h3 z.2.2.2.1
 rw [decide_eq_true h3]
 try done
 refine Fy ia a2 hx a2 (by decide) (by decide) (by omega) fun w3 H7 s7 i7=> ?_
 try done
 have a5:=a2.trans s7
 refine Fy ib a5 hy a5 (by decide) (by decide) (by omega) fun w4 H8 s8 i8=> ?_
 try done
 have ab:=a5.trans s8
 refine Ul i7 s8 i8 (Same.refl _) (by decide) (by decide) fun w5 H9 s9 i9=> ?_
 try done
 have a7:=ab.trans s9
 refine Gj ig a7 zc (by decide) (by omega) fun w6 Ha sa ac=> ?_
 refine T6 i9 sa ac (Same.refl _) ?_
 rw [decide_eq_decide.mpr (show _↔Jv p q g (l0 u.2.1) (l0 v.2.1) (l0 a.2.1) (l0 b.2.1) c from⟨fun h=>⟨hc,h1,h2,h3,h⟩,fun h=>h.2.2.2.2⟩)]
 exact k _ (a7.trans sa)
noncomputable def G8 (p f u w a b:List Int) (c e:Int):Prop:=c≠0/\e≠0/\pln f=f/\tm u f=p/\ng (pw f (p.length-1)) c=tm w p/\ta (tm a f) (tm b (dr f))=[e]
noncomputable instance {p f u w a b:List Int}{c e:Int}:Decidable (G8 p f u w a b c e):=by unfold G8;infer_instance
noncomputable def frB (p:List Int):Option (List T3)->Bool
 | some [f,u,c,w,a,b,e]=>(!decide (p=[]))&&([plB f.2.1,plB u.2.1,plB w.2.1,plB a.2.1,plB b.2.1].all id&&(c.2.2.isSome&&(e.2.2.isSome&&decide (G8 p (l0 f.2.1) (l0 u.2.1) (l0 w.2.1) (l0 a.2.1) (l0 b.2.1) (c.2.2.getD 0) (e.2.2.getD 0)))))
 | _=>false
theorem Zd (p:List Int) (f u c w a b e:T3):frB p (some [f,u,c,w,a,b,e])=((!decide (p=[]))&&([plB f.2.1,plB u.2.1,plB w.2.1,plB a.2.1,plB b.2.1].all id&&(c.2.2.isSome&&(e.2.2.isSome&&decide (G8 p (l0 f.2.1) (l0 u.2.1) (l0 w.2.1) (l0 a.2.1) (l0 b.2.1) (c.2.2.getD 0) (e.2.2.getD 0)))))):=rfl
theorem Ach (d:Option (List T3)):frB [] d=false:=by
 unfold frB
 split<;>rfl
theorem seven {α:Type}{ts:List α} (h:ts.length=7):∃f u c w a b e,ts=[f,u,c,w,a,b,e]:=by
 match ts,h with
 | [f,u,c,w,a,b,e],_=>exact⟨f,u,c,w,a,b,e,rfl⟩
theorem Ah0 {f:Pol} (z:f≠0):∀k:Nat,(f^k).l.length=(f.l.length-1)*k+1
 | 0=>rfl
 | k+1=>by
   have:=Adz (Wt z k) z
   rw [show f^k*f=f^(k+1)by grind,Ah0 z k]at this
   have I:=len_pos z
   rw [mul_succ]
   omega
theorem Ahz {p f w:List Int}{c:Int} (tp:Tr p) (M:Tr f) (O:Tr w) (S:p≠ []) (U:f≠ []) (W:c≠0) (e:ng (pw f (p.length-1)) c=tm w p):(f.length-1)*(p.length-1)+2=w.length+p.length/\w≠ []:=by
 have Y:(⟨f,M⟩:Pol)≠0:=Et.mpr U
 have I:(pw f (p.length-1)).length=(f.length-1)*(p.length-1)+1:=Ah0 Y _
 have n1:pw f (p.length-1)≠ []:=fun z=>by rw [z]at I;simp at I
 have J:(ng (pw f (p.length-1)) c).length=(pw f (p.length-1)).length:=by
  have:=J4 (Tw f (p.length-1)) (.inr ⟨by simp,by simpa using W⟩:Tr [c]) n1 (by simp)
  have e:ng (pw f (p.length-1)) c=tm (pw f (p.length-1)) [c]:=(Bq _).ext (Gw _ _) fun i=>by
   rw [<-ng,Jp,Dz,K8,Aks,Int.mul_comm]
  rw [e]
  simpa using this
 have nw:w≠ []:=fun z=>by
  rw [z,show tm [] p=[]from rfl]at e
  rw [e]at J
  simp at J
  omega
 have Z:=J4 O tp nw S
 rw [<-e]at Z
 exact⟨by omega,nw⟩
noncomputable def Ot (K:Frag):Sp:=fun vs H Q _=>∃(x y t:V) (c:Int) (p f w:List Int) (n N m M:Nat),vs=[x,y,.int c,t]/\Po K H x p 13 n/\Po K H y f 13 N/\Po K H t w 100 M/\Sz m c/\n<=10000/\N<=100000/\M<=80000000/\m<=20000000/\p≠ []/\f≠ []/\c≠0/\∀H',Same H H'->Q (.bl (decide (ng (pw f (p.length-1)) c=tm w p))) H'
theorem Va {f:Addr}{fd:FuncData} (F:Df K mg "same_roots" Lp ["one","f","c","w"] f fd)   (J:Cal P w K mg base 33 "scaled" ["one","factor"] (Iw K)) (I:Cal P w K mg base 33 "p_times" ["one","other"] (Gv K)) (c_degree:Cal P w K mg base 33 "degree" ["one"] (Gh K)) (O:Cal P w K mg base 35 "power" ["one","many"] (Oo K)):Cal P w K mg base 36 "same_roots" ["one","f","c","w"] (Ot K):=by
 refine F.cal (F.fn.ok Vo (fun vs H Q E h=> ?_) (fun a0 A outer s H vs Q E S h=> ?_))
 . obtain⟨x,y,t,c,_,_,_,_,_,_,_,rfl,_⟩:=h
   rfl
 obtain⟨x,y,t,c,p,f,w,n,N,m,M,rfl,U,W,Y,hc,b1,b2,b3,b4,np,nf,nc,k⟩:=h
 have tp:=U.2.1
 have tf:=W.2.1
 have tw:=Y.2.1
 have lp:=U.2.2.1
 have lf:=W.2.2.1
 have lw:=Y.2.2.1
 have p1:=length_pos_iff.mpr np
 have f1:=length_pos_iff.mpr nf
 refine Ax ⟨_,(Ad (Ay (Am Lf (Ah Cr (Af c_degree S (Aa (Ae 1) Ab)) (Af c_degree S (Aa (Ae 0) Ab))) (Ah Eh (Af c_degree S (Aa (Ae 3) Ab)) (Af c_degree S (Aa (Ae 0) Ab))) (Bb _)) (Ag (Aj Br)) Ar)
  (Ag (Aj (Cv (Fl S.units) (Af J S (Aa (Af O S (Aa (Ae 1) (Aa (Af c_degree S (Aa (Ae 0) Ab)) Ab))) (Aa (Ae 2) Ab))) (Af I S (Aa (Ae 3) (Aa (Ae 0) Ab))) (Bb _))))),?_⟩
 done
 refine⟨y,f,_,_,rfl,W,x,p,_,_,rfl,U,?_⟩
 try done
 refine⟨(show Sz 8 ((f.length:Int)-1)by unfold Sz;omega).mulOk (show Sz 8 ((p.length:Int)-1)by unfold Sz;omega) (by decide),t,w,_,_,rfl,Y,x,p,_,_,rfl,U,?_⟩
 try done
 have ef:((f.length:Int)-1)*((p.length:Int)-1)=(((f.length-1)*(p.length-1):Nat):Int):=by
  rw [natCast_mul,show((f.length-1:Nat):Int)=(f.length:Int)-1 by omega,show((p.length-1:Nat):Int)=(p.length:Int)-1 by omega]
 rw [ef]
 split
 case isFalse hd=>
  rw [decide_eq_false fun z=>hd (by have:=(Ahz tp tf tw np nf nc z).1;omega)]at k
  exact k _ (Same.refl _)
 refine⟨x,p,_,_,rfl,U,?_⟩
 refine⟨y,p.length-1,12,_,f,13,N,rfl,.inl (by omega),W,by omega,by decide,by decide,by omega,fun z1 H1 Z i1=> ?_⟩
 try done
 have m1:(p.length-1)*13<=12*13:=mul_le_mul_right _ (by omega)
 have m2:(p.length-1)*(N+13)<=12*(N+13):=mul_le_mul_right _ (by omega)
 refine⟨_,c,_,_,_,m,rfl,i1,hc,by omega,by omega,fun z2 H2 s2 i2=> ?_⟩
 try done
 refine⟨_,_,_,_,_,_,_,_,rfl,Y.mono (Z.trans s2),U.mono (Z.trans s2),by decide,by decide,by omega,fun z3 H3 s3 i3=> ?_⟩
 exact T6 i2 s3 i3 (Same.refl _) (k _ ((Z.trans s2).trans s3))
noncomputable def Aqt (K:Frag):Sp:=fun vs H Q _=>∃(x v:V) (p:List Int) (ts:Option (List T3)) (N:Nat->Nat) (n:Nat),vs=[x,v]/\Po K H x p 13 n/\Ppr K H 7 N v ts/\n<=10000/\N 0<=90000/\(∀i,N i<=80000000)/\N 2<=20000000/\∀H',Same H H'->Q (.bl (frB p ts)) H'
theorem Aet {u f p:List Int} (O:Tr u) (S:Tr f) (I:p≠ []) (e:tm u f=p):f.length<=p.length/\f≠ []:=by
 have J:u≠ []:=fun z=>I (by rw [<-e,z];rfl)
 have M:f≠ []:=fun z=>I (by rw [<-e,z,Jb])
 have:=J4 O S J M
 have U:=length_pos_iff.mpr J
 rw [e]at this
 exact⟨by omega,M⟩
noncomputable def Km (K:Frag):Sp:=Aqt K
theorem U6 {f:Addr}{fd:FuncData} (F:Df K mg "free_right" Jf ["one","paper"] f fd) (a7:mg "all"=none) (O:mg "isinstance"=none) (a1:mg "tuple"=none) (z_len:mg "len"=none)  (Z:Cal P w K mg base 35 "p_plus" ["one","other"] (Lr K)) (J:Cal P w K mg base 33 "is_whole" ["thing"] (Ko K)) (a2:Cal P w K mg base 37 "plain" ["one"] (G6 K)) (I:Cal P w K mg base 33 "p_times" ["one","other"] (Gv K)) (S:Cal P w K mg base 36 "same_roots" ["one","f","c","w"] (Ot K)) (U:Cal P w K mg base 34 "is_poly" ["thing"] (Px K)) (W:Cal P w K mg base 33 "derived" ["one"] (J3 K)):Cal P w K mg base 38 "free_right" ["one","paper"] (Km K):=by
 refine F.cal (F.fn.ok Ez (fun vs H Q E h=> ?_) (fun av A outer s H vs Q E Y h=> ?_))
 . obtain⟨x,v,_,_,_,_,rfl,_⟩:=h
   rfl
 obtain⟨x,v,p,ts,N,n,rfl,hx,hv,b1,b2,b3,b4,k⟩:=h
 refine Ax ⟨_,(Ad (Ay (Cj (Bw (Am (Fl Y.units) (Ae 0) (Al Ab) (Bb _)) (Bw (Bt (Bo (Ba Gk rfl O boot_isinstance (Aa (Ae 1) (Aa (Ej (v:= .ty "tuple") rfl a1 boot_tuple rfl) Ab))))) (Dw (Am Lf (Ba Az rfl z_len PySem.boot_len (Aa (Ae 1) Ab)) Ac (Bb _)))))) (Ag (Aj Br)) Ar)
  (Ad (Cy (Ae 1) (Dn rfl (Ai (Aq 2 Ez.nd) (Ai (Aq 3 Ez.nd) (Ai (Aq 4 Ez.nd) (Ai (Aq 5 Ez.nd) (Ai (Aq 6 Ez.nd) (Ai (Aq 7 Ez.nd) (Ai (Aq 8 Ez.nd) Ci)))))))))
  (Ad (Ay (Bt (Bo (Ba (J9 rfl) rfl a7 boot_all (Aa (Ea (ts:=["thing"]) (fs:=[]) rfl (Dl.of (sc:=Av Jf) (N:=["one","paper","f","u","c","w","a","b","e"]) rfl rfl (by decide+kernel)) (Gb (Al (Aa (Ae 2) (Aa (Ae 3) (Aa (Ae 5) (Aa (Ae 6) (Aa (Ae 7) Ab))))))) (fun _ _ _=>(Aq 0 (show Nodup (["thing"]:List Str)by decide+kernel))) (fun _ _ _=>Dj) (fun _ _ _=>(Af U Y (Aa (Ae 0) Ab)))) Ab)))) (Ag (Aj Br)) Ar)
  (Ad (Ay (Cj (Bw (Bt (Bo (Af J Y (Aa (Ae 4) Ab)))) (Bw (Am Hj (Ae 4) Ac (Bb _)) (Bw (Bt (Bo (Af J Y (Aa (Ae 8) Ab)))) (Dw (Am Hj (Ae 8) Ac (Bb _))))))) (Ag (Aj Br)) Ar)
  (Ad (Ay (Cj (Bw (Am (Gz Y.units) (Af a2 Y (Aa (Ae 2) Ab)) (Ae 2) (Bb _)) (Bw (Am (Gz Y.units) (Af I Y (Aa (Ae 3) (Aa (Ae 2) Ab))) (Ae 0) (Bb _)) (Dw (Bt (Bo (Af S Y (Aa (Ae 0) (Aa (Ae 2) (Aa (Ae 4) (Aa (Ae 5) Ab))))))))))) (Ag (Aj Br)) Ar)
  (Ag (Aj (Cv (Fl Y.units) (Af Z Y (Aa (Af I Y (Aa (Ae 6) (Aa (Ae 2) Ab))) (Aa (Af I Y (Aa (Ae 7) (Aa (Af W Y (Aa (Ae 2) Ab)) Ab))) Ab))) (Al (Aa (Ae 8) Ab)) (Bb _))))))))),?_⟩
 done
 refine⟨by decide,?_⟩
 (intro q0 a9;generalize aa:upd _ q0 _=aw;obtain⟨M,am⟩:=nw a9 aa;clear aa a9)
 obtain⟨⟨dx,rfl,an⟩,tp,lp,zp⟩:=id hx
 refine Bu (ms:=[]) (M.tup an) (.of am) ⟨_,rfl,?_⟩
 by_cases np:p=[]
 . subst np
   rw [Ach]at k
   exact k _ M
 rw [decide_eq_false np,if_neg (by decide)]
 refine Agb (m:=7) (hv.mono M) (fun e=>by rw [e]at k;exact k _ M) fun z ax e ev l7 hz al=> ?_
 subst e ev
 obtain⟨f,u,c,w,a,b,e,rfl⟩:=seven l7
 rw [Zd,decide_eq_false np,Bool.not_false,Bool.true_and]at k
 have no:∀(H':Hp),Same H H'->([plB f.2.1,plB u.2.1,plB w.2.1,plB a.2.1,plB b.2.1].all id&&(c.2.2.isSome&&(e.2.2.isSome&&decide (G8 p (l0 f.2.1) (l0 u.2.1) (l0 w.2.1) (l0 a.2.1) (l0 b.2.1) (c.2.2.getD 0) (e.2.2.getD 0)))))=false->Q (.bl false) H':=fun H' s h=>by
  have:=k H' s
  rw [h]at this
  exact this
 have tf:=al 0 f rfl
 have tu:=al 1 u rfl
 have tc:=al 2 c rfl
 have tw:=al 3 w rfl
 have ab:=al 4 a rfl
 have tb:=al 5 b rfl
 have te:=al 6 e rfl
 try done
 refine⟨z,_,rfl,hz,rfl,f.1,_,rfl,u.1,_,rfl,c.1,_,rfl,w.1,_,rfl,a.1,_,rfl,b.1,_,rfl,e.1,_,rfl,rfl,?_⟩
 try done
 refine⟨by decide,?_⟩
 (intro q1 ac;generalize ad:upd _ q1 _=ay;obtain⟨ae,af⟩:=nw ac ad;clear ad ac)
 refine⟨⟨_,.of af⟩,fun q2 ao=>Gx (es:=[f,u,w,a,b]) (inj:=fun t=>t.1) (fun t=> .bl (plB t.2.1)) (show 5<=sizeLine by decide) ao (Ov (.of af)) ?_ ?_⟩
 . intro r G R he sg hR
   done
   have sG:=ae.trans sg
   have ht:∃j,Tg K G 100 (N j) r.1 r.2.1 r.2.2:=by
    simp only [mem_cons,not_mem_nil,or_false]at he
    rcases he with rfl | rfl | rfl | rfl | rfl
    . exact⟨_,tf.mono sG⟩
    . exact⟨_,tu.mono sG⟩
    . exact⟨_,tw.mono sG⟩
    . exact⟨_,ab.mono sG⟩
    . exact⟨_,tb.mono sG⟩
   obtain⟨j,ht⟩:=ht
   exact⟨_,_,_,_,_,rfl,ht,by decide,fun H' s'=>hR _ s'⟩
 intro H3 s3 g3
 try done
 refine⟨q2,[plB f.2.1,plB u.2.1,plB w.2.1,plB a.2.1,plB b.2.1],rfl,.of g3,?_⟩
 have a3:=ae.trans s3
 have a4:=M.trans a3
 try done
 by_cases hb:[plB f.2.1,plB u.2.1,plB w.2.1,plB a.2.1,plB b.2.1].all id=true
 case neg=>
  rw [if_pos (eq_false_iff.mpr hb)]
  exact no _ a4 (by rw [eq_false_iff.mpr hb,Bool.false_and])
 rw [if_neg (by rw [hb];decide)]
 rw [hb,Bool.true_and]at k no
 refine⟨_,_,_,_,_,rfl,tc.mono a3,_,rfl,?_⟩
 rcases c with⟨cv,cd,_ | c⟩
 . exact no _ a4 rfl
 change Tg K _ 100 (N 2) cv cd (some c)at tc
 obtain⟨rfl,zc⟩:=tc.isInt
 rw [if_neg (by intro z;cases z)]
 try done
 by_cases hc:c=0
 . rw [if_pos hc]
   exact no _ a4 (by
    rw [decide_eq_false (fun z=>z.1 hc),Bool.and_false]
    rfl)
 rw [if_neg hc]
 refine⟨_,_,_,_,_,rfl,te.mono a3,_,rfl,?_⟩
 rcases e with⟨ev,ed,_ | e⟩
 . exact no _ a4 rfl
 change Tg K _ 100 (N 6) ev ed (some e)at te
 obtain⟨rfl,ze⟩:=te.isInt
 rw [if_neg (by intro z;cases z)]
 change ∀H',Same H H'->Q (.bl (decide (G8 p (l0 f.2.1) (l0 u.2.1) (l0 w.2.1) (l0 a.2.1) (l0 b.2.1) c e))) H' at k
 replace no:∀(H':Hp),Same H H'->¬G8 p (l0 f.2.1) (l0 u.2.1) (l0 w.2.1) (l0 a.2.1) (l0 b.2.1) c e->Q (.bl false) H':=fun H' s h=>no H' s (decide_eq_false h)
 try done
 by_cases he:e=0
 . rw [if_pos he]
   exact no _ a4 fun z=>z.2.1 he
 rw [if_neg he]
 simp only [all_cons,all_nil,id_eq,and_eq_true,and_true]at hb
 obtain⟨pf,pu,ap,pa,pb⟩:=hb
 have jf:=tf.pol pf
 have iu:=tu.pol pu
 have iw:=tw.pol ap
 have ia:=ab.pol pa
 have ib:=tb.pol pb
 have n1:=b3 1
 have n3:=b3 3
 have n4:=b3 4
 have n5:=b3 5
 generalize f.1=vf at*
 generalize l0 f.2.1=f at*
 refine Ku jf a3 (by decide) (by omega) fun wg H4 s4 aq=> ?_
 have a5:=a3.trans s4
 refine T6 aq (Same.refl _) jf a5 ⟨_,rfl,?_⟩
 by_cases h1:pln f=f
 case neg=>
  rw [decide_eq_false h1]
  exact no _ (M.trans a5) fun z=>h1 z.2.2.1
 rw [decide_eq_true h1]
 try done
 refine⟨_,_,_,_,_,_,_,_,rfl,iu.mono a5,jf.mono a5,by decide,by decide,by omega,fun w1 H5 s5 i5=> ?_⟩
 have a0:=a5.trans s5
 refine T6 i5 (Same.refl _) hx (M.trans a0) ⟨_,rfl,?_⟩
 by_cases h2:tm (l0 u.2.1) f=p
 case neg=>
  rw [decide_eq_false h2]
  exact no _ (M.trans a0) fun z=>h2 z.2.2.2.1
 rw [decide_eq_true h2]
 try done
 obtain⟨fp,nf⟩:=Aet iu.2.1 jf.2.1 np h2
 have a8:Po K _ vf f 13 (N 0):=⟨jf.1,jf.2.1,by omega,jf.2.2.2⟩
 refine⟨_,_,_,c,p,f,_,_,_,_,_,rfl,hx.mono (M.trans a0),a8.mono a0,iw.mono a0,zc,b1,by omega,n3,b4,np,nf,hc,fun H6 s6=>⟨_,rfl,?_⟩⟩
 have a6:=a0.trans s6
 by_cases h3:ng (pw f (p.length-1)) c=tm (l0 w.2.1) p
 case neg=>
  rw [decide_eq_false h3]
  exact no _ (M.trans a6) fun z=>h3 z.2.2.2.2.1
 rw [decide_eq_true h3]
 try done
 refine⟨_,_,_,_,_,_,_,_,rfl,ia.mono a6,a8.mono a6,by decide,by decide,by omega,fun w3 H7 s7 i7=> ?_⟩
 try done
 have ag:=a6.trans s7
 refine S9 a8 ag (by decide) (by omega) fun w4 H8 s8 i8=> ?_
 try done
 have ah:=ag.trans s8
 refine⟨_,_,_,_,_,_,_,_,rfl,ib.mono ah,i8,by decide,by decide,by omega,fun w5 H9 s9 i9=> ?_⟩
 try done
 refine⟨w3,w5,_,_,_,_,_,_,rfl,i7.mono (s8.trans s9),i9,by decide,by decide,trivial,fun w6 Ha sa ar=> ?_⟩
 try done
 (intro q9 ai;generalize aj:upd _ q9 _=az;obtain⟨ak,as⟩:=nw ai aj;clear aj ai)
 obtain⟨⟨d6,rfl,au⟩,_⟩:=id ar
 refine Bu (ms:=[e]) (ak.tup au) (.of as) ?_
 rw [decide_eq_decide.mpr (show _↔G8 p f (l0 u.2.1) (l0 w.2.1) (l0 a.2.1) (l0 b.2.1) c e from⟨fun h=>⟨hc,he,h1,h2,h3,h⟩,fun h=>h.2.2.2.2.2⟩)]
 exact k _ (M.trans (((ah.trans s9).trans sa).trans ak))
theorem Zx {H:Hp}{Q:VK}{E:XK}{I:Addr}{f:List Int}{n:Nat} (h:Po K H (.ref I) f 13 n) (hn:n<=100000) (k:∀z H',Same H H'->Po K H' z (dr f) 13 (n+8)->Q z H'):∃p ys,[V.ref I]=[V.ref p]/\(SqL K H p ys\/SqT K H p ys)/\ -2^62<=(ys.length:Int)/\(ys.length:Int)<2^62/\∀p,H p=none->cIn (Itr 0 (ys.length:Int).toNat) [none,some (V.ref I)] (O4 0) T5 (tOp (rI IntMulOk fun i j=>V.int (i*j)) (Abk 0) (tOp (Amw K) (Abk 1) (Abk 0))) (fun x H1=>Aqr K x (some 1) none H1 fun x H1=>Hu K [x] H1 Q E) H p:=by
 obtain⟨⟨_,e,S⟩,U,Z,W⟩:=id h
 cases e
 refine⟨I,_,rfl,.inr S,by rw [length_map];omega,by rw [length_map];omega,fun p1 J=> ?_⟩
 rw [length_map,toNat_natCast]
 refine Gx (es:=List.range f.length) (inj:=fun i=> .int (0+(i:Nat))) (fun i=> .int ((i:Int)*co f i)) (by rw [length_range];exact le_trans Z (by decide)) J Q7 ?_ ?_
 . intro i H2 R hi M hR
   have hi:=mem_range.mp hi
   repeat (first | done | simp only [zero_add])
   refine En (M.tup S) (Bk (j:=i) (Ft hi)) ?_
   try done
   rw [<-Ef hi]
   exact⟨(show Sz 8 ((i:Nat):Int)by unfold Sz;omega).mulOk (W i) (by omega),hR _ (Same.refl _)⟩
 intro H2 M h2
 have em:(List.range f.length).map (fun i:Nat=>V.int ((i:Int)*co f i))=(f.mapIdx fun i e=>(i:Int)*e).map V.int:=by
  apply List.ext_getElem?
  intro i
  rw [getElem?_map,getElem?_map,getElem?_mapIdx]
  by_cases hi:i<f.length
  . rw [getElem?_range hi,getElem?_eq_getElem hi]
    simp [Ef hi]
  . rw [getElem?_eq_none (by rw [length_range];omega),getElem?_eq_none (by omega)]
    rfl
 rw [em]at h2
 have ec:K6 ((f.mapIdx fun i e=>(i:Int)*e).map V.int) (some 1) none=(dr f).map V.int:=by
  rw [Aqm,dr,map_drop]
 refine⟨p1,_,rfl,.of h2,fun p2 O=> ?_⟩
 rw [ec]
 refine Abi (.inl (.of Ao)) (by rw [Rk];omega) fun z H3 s3 Y=>k _ _ ((M.trans (Same.upd O _)).trans s3) ⟨⟨z,rfl,?_⟩,Ab8 U,by rw [Rk];omega,fun i=> ?_⟩
 . rw [Pz (Ab8 U)]at Y
   exact Y
 rw [Us]
 by_cases hi:i+1<f.length
 . exact((show Sz 8 ((i:Nat)+1:Int)by unfold Sz;omega).mul (W (i+1))).mono (by omega)
 . rw [Ck (by omega),Int.mul_zero]
   exact Sz0 (by omega)
noncomputable def Oq (K:Frag):Sp:=Aqt K
theorem U8 {f:Addr}{fd:FuncData} (F:Df K mg "_law_free_due" Hx ["_law_one","_law_paper"] f fd) (W:mg "range"=none) (aa:mg "all"=none) (O:mg "isinstance"=none) (a1:mg "tuple"=none) (z_len:mg "len"=none)  (a2:Cal P w K mg base 33 "_law_cut" ["_law_weights"] (Hu K)) (I:Cal P w K mg base 34 "_law_product" ["_law_one","_law_other"] (Fe K)) (Y:Cal P w K mg base 34 "_law_scaled" ["_law_one","_law_by"] (Fj K)) (a3:Cal P w K mg base 34 "_law_sum" ["_law_one","_law_other"] (Mt K)) (M:Cal P w K mg base 33 "_law_whole" ["_law_found"] (Mu K)) (S:Cal P w K mg base 34 "_law_is_plain" ["_law_one"] (Kq K)) (U:Cal P w K mg base 34 "_law_is_poly" ["_law_found"] (Ly K)):Cal P w K mg base 35 "_law_free_due" ["_law_one","_law_paper"] (Oq K):=by
 refine F.cal (F.fn.ok Ds (fun vs H Q E h=> ?_) (fun b7 A outer s H vs Q E Z h=> ?_))
 . obtain⟨x,v,_,_,_,_,rfl,_⟩:=h
   rfl
 obtain⟨x,v,p,ts,N,n,rfl,hx,hv,b1,b2,b3,b4,k⟩:=h
 refine Ax ⟨_,(Ad (Ay (Cj (Bw (Am (Fl Z.units) (Ae 0) (Al Ab) (Bb _)) (Bw (Bt (Bo (Ba Gk rfl O boot_isinstance (Aa (Ae 1) (Aa (Ej (v:= .ty "tuple") rfl a1 boot_tuple rfl) Ab))))) (Dw (Am Lf (Ba Az rfl z_len PySem.boot_len (Aa (Ae 1) Ab)) Ac (Bb _)))))) (Ag (Aj Br)) Ar)
  (Ad (Cy (Ae 1) (Dn rfl (Ai (Aq 5 Ds.nd) (Ai (Aq 6 Ds.nd) (Ai (Aq 7 Ds.nd) (Ai (Aq 8 Ds.nd) (Ai (Aq 9 Ds.nd) (Ai (Aq 10 Ds.nd) (Ai (Aq 11 Ds.nd) Ci)))))))))
  (Ad (Ay (Bt (Bo (Ba (J9 rfl) rfl aa boot_all (Aa (Ea (ts:=["_law_each"]) (fs:=[]) rfl (Dl.of (sc:=Av Hx) (N:=["_law_one","_law_paper","_law_whole_here","_law_k","_law_slope","_law_found","_law_left","_law_by","_law_more","_law_first_one","_law_second_one","_law_last"]) rfl rfl (by decide+kernel)) (Hg (Cd (Aa (Ae 5) (Aa (Ae 6) (Aa (Ae 8) (Aa (Ae 9) (Aa (Ae 10) Ab))))))) (fun _ _ _=>(Aq 0 (show Nodup (["_law_each"]:List Str)by decide+kernel))) (fun _ _ _=>Dj) (fun _ _ _=>(Af U Z (Aa (Ae 0) Ab)))) Ab)))) (Ag (Aj Br)) Ar)
  (Ad (Ay (Cj (Bw (Bt (Bo (Af M Z (Aa (Ae 7) Ab)))) (Bw (Bt (Bo (Af M Z (Aa (Ae 11) Ab)))) (Bw (Am Hj (Ae 7) Ac (Bb _)) (Bw (Am Hj (Ae 11) Ac (Bb _)) (Dw (Bt (Bo (Af S Z (Aa (Ae 5) Ab)))))))))) (Ag (Aj Br)) Ar)
  (Ad (Ay (Am (Gz Z.units) (Af I Z (Aa (Ae 6) (Aa (Ae 5) Ab))) (Ae 0) (Bb _)) (Ag (Aj Br)) Ar)
  (Ad (Ak 2 Ds.nd (Al (Aa Ac Ab)))
  (Ad (Dp PassesOwn.never rfl (Ew rfl W (Aa (Ah Em (Ba Az rfl z_len PySem.boot_len (Aa (Ae 0) Ab)) Ac) Ab)) (Aq 3 Ds.nd) (Ag (Ak 2 Ds.nd (Af I Z (Aa (Ae 2) (Aa (Ae 5) Ab))))))
  (Ad (Ak 4 Ds.nd (Af a2 Z (Aa (Du Vp (Ea (ts:=["_law_k"]) (fs:=[(5,"_law_found")]) rfl (Dl.of (sc:=Av Hx) (N:=["_law_one","_law_paper","_law_whole_here","_law_k","_law_slope","_law_found","_law_left","_law_by","_law_more","_law_first_one","_law_second_one","_law_last"]) rfl rfl (by decide+kernel)) (Ew rfl W (Aa (Ba Az rfl z_len PySem.boot_len (Aa (Ae 5) Ab)) Ab)) (fun _ _ _=>(Aq 0 (show Nodup (["_law_k","_law_found"]:List Str)by decide+kernel))) (fun _ _ _=>Dj) (fun _ _ _=>(Ah Cr (Ae 0) (Aw (Acw K) (Ae 1) (Ae 0) (fun _ _=>rfl))))) (El Ac) Ek) Ab)))
  (Ad (Ay (Am (Gz Z.units) (Af Y Z (Aa (Ae 2) (Aa (Ae 7) Ab))) (Af I Z (Aa (Ae 0) (Aa (Ae 8) Ab))) (Bb _)) (Ag (Aj Br)) Ar)
  (Ag (Aj (Cv (Fl Z.units) (Af a3 Z (Aa (Af I Z (Aa (Ae 9) (Aa (Ae 5) Ab))) (Aa (Af I Z (Aa (Ae 10) (Aa (Ae 4) Ab))) Ab))) (Al (Aa (Ae 11) Ab)) (Bb _))))))))))))),?_⟩
 done
 refine⟨by decide,?_⟩
 (intro q0 ac;generalize ad:upd _ q0 _=b8;obtain⟨J,aq⟩:=nw ac ad;clear ad ac)
 obtain⟨⟨dx,rfl,ae⟩,tp,lp,zp⟩:=id hx
 refine Bu (ms:=[]) (J.tup ae) (.of aq) ⟨_,rfl,?_⟩
 by_cases np:p=[]
 . subst np
   rw [Ach]at k
   exact k _ J
 rw [decide_eq_false np,if_neg (by decide)]
 refine Agb (m:=7) (hv.mono J) (fun e=>by rw [e]at k;exact k _ J) fun z b9 e ev l7 hz al=> ?_
 subst e ev
 obtain⟨f,u,c,w,a,b,e,rfl⟩:=seven l7
 rw [Zd,decide_eq_false np,Bool.not_false,Bool.true_and]at k
 have no:∀(H':Hp),Same H H'->([plB f.2.1,plB u.2.1,plB w.2.1,plB a.2.1,plB b.2.1].all id&&(c.2.2.isSome&&(e.2.2.isSome&&decide (G8 p (l0 f.2.1) (l0 u.2.1) (l0 w.2.1) (l0 a.2.1) (l0 b.2.1) (c.2.2.getD 0) (e.2.2.getD 0)))))=false->Q (.bl false) H':=fun H' s h=>by
  have:=k H' s
  rw [h]at this
  exact this
 have tf:=al 0 f rfl
 have tu:=al 1 u rfl
 have tc:=al 2 c rfl
 have tw:=al 3 w rfl
 have af:=al 4 a rfl
 have tb:=al 5 b rfl
 have te:=al 6 e rfl
 try done
 refine⟨z,_,rfl,hz,rfl,f.1,_,rfl,u.1,_,rfl,c.1,_,rfl,w.1,_,rfl,a.1,_,rfl,b.1,_,rfl,e.1,_,rfl,rfl,?_⟩
 try done
 refine⟨by decide,?_⟩
 (intro q1 ag;generalize ah:upd _ q1 _=ba;obtain⟨ai,aj⟩:=nw ag ah;clear ah ag)
 refine⟨⟨_,.of aj⟩,fun q2 ar=>Gx (es:=[f,u,w,a,b]) (inj:=fun t=>t.1) (fun t=> .bl (plB t.2.1)) (show 5<=sizeLine by decide) ar (Tf (.of aj)) ?_ ?_⟩
 . intro r G R he sg hR
   done
   have sG:=ai.trans sg
   have ht:∃j,Tg K G 100 (N j) r.1 r.2.1 r.2.2:=by
    simp only [mem_cons,not_mem_nil,or_false]at he
    rcases he with rfl | rfl | rfl | rfl | rfl
    . exact⟨_,tf.mono sG⟩
    . exact⟨_,tu.mono sG⟩
    . exact⟨_,tw.mono sG⟩
    . exact⟨_,af.mono sG⟩
    . exact⟨_,tb.mono sG⟩
   obtain⟨j,ht⟩:=ht
   exact⟨_,_,_,_,_,rfl,ht,by decide,fun H' s'=>hR _ s'⟩
 intro H3 s3 g3
 try done
 refine⟨q2,[plB f.2.1,plB u.2.1,plB w.2.1,plB a.2.1,plB b.2.1],rfl,.of g3,?_⟩
 have a4:=ai.trans s3
 have a5:=J.trans a4
 try done
 by_cases hb:[plB f.2.1,plB u.2.1,plB w.2.1,plB a.2.1,plB b.2.1].all id=true
 case neg=>
  rw [if_pos (eq_false_iff.mpr hb)]
  exact no _ a5 (by rw [eq_false_iff.mpr hb,Bool.false_and])
 rw [if_neg (by rw [hb];decide)]
 rw [hb,Bool.true_and]at k no
 refine⟨_,_,_,_,_,rfl,tc.mono a4,_,rfl,?_⟩
 rcases c with⟨cv,cd,_ | c⟩
 . exact no _ a5 rfl
 change Tg K _ 100 (N 2) cv cd (some c)at tc
 obtain⟨rfl,zc⟩:=tc.isInt
 rw [if_neg (by intro z;cases z)]
 refine⟨_,_,_,_,_,rfl,te.mono a4,_,rfl,?_⟩
 rcases e with⟨ev,ed,_ | e⟩
 . exact no _ a5 rfl
 change Tg K _ 100 (N 6) ev ed (some e)at te
 obtain⟨rfl,ze⟩:=te.isInt
 rw [if_neg (by intro z;cases z)]
 change ∀H',Same H H'->Q (.bl (decide (G8 p (l0 f.2.1) (l0 u.2.1) (l0 w.2.1) (l0 a.2.1) (l0 b.2.1) c e))) H' at k
 replace no:∀(H':Hp),Same H H'->¬G8 p (l0 f.2.1) (l0 u.2.1) (l0 w.2.1) (l0 a.2.1) (l0 b.2.1) c e->Q (.bl false) H':=fun H' s h=>no H' s (decide_eq_false h)
 try done
 by_cases hc:c=0
 . rw [if_pos hc]
   exact no _ a5 fun z=>z.1 hc
 rw [if_neg hc]
 by_cases he:e=0
 . rw [if_pos he]
   exact no _ a5 fun z=>z.2.1 he
 rw [if_neg he]
 simp only [all_cons,all_nil,id_eq,and_eq_true,and_true]at hb
 obtain⟨pf,pu,as,pa,pb⟩:=hb
 have jf:=tf.pol pf
 have iu:=tu.pol pu
 have iw:=tw.pol as
 have ia:=af.pol pa
 have ib:=tb.pol pb
 have n1:=b3 1
 have n3:=b3 3
 have n4:=b3 4
 have n5:=b3 5
 generalize f.1=vf at*
 generalize l0 f.2.1=f at*
 obtain⟨⟨df,rfl,au⟩,av,_⟩:=id jf
 refine⟨df,f,rfl,a4.tup au,av,fun H4 s4=>⟨_,rfl,?_⟩⟩
 have a7:=a4.trans s4
 by_cases h1:pln f=f
 case neg=>
  rw [decide_eq_false h1]
  exact no _ (J.trans a7) fun z=>h1 z.2.2.1
 rw [decide_eq_true h1]
 try done
 refine Fy iu a7 jf a7 (by decide) (by decide) (by omega) fun w1 H5 s5 i5=> ?_
 have a6:=a7.trans s5
 refine T6 i5 (Same.refl _) hx (J.trans a6) ⟨_,rfl,?_⟩
 by_cases h2:tm (l0 u.2.1) f=p
 case neg=>
  rw [decide_eq_false h2]
  exact no _ (J.trans a6) fun z=>h2 z.2.2.2.1
 rw [decide_eq_true h2]
 try done
 obtain⟨fp,nf⟩:=Aet iu.2.1 jf.2.1 np h2
 have a0:Po K _ (.ref df) f 13 (N 0):=⟨jf.1,jf.2.1,by omega,jf.2.2.2⟩
 intro q3 aw
 have p1:=length_pos_iff.mpr np
 have s6:=Same.upd aw (.tup [V.int 1])
 refine⟨dx,_,rfl,.inr ((J.trans (a6.trans s6)).tup ae),?_⟩
 rw [length_map]
 refine⟨by omega,by omega,?_⟩
 have em:((p.length:Int)-1).toNat=p.length-1:=by omega
 rw [em]
 refine Akr (p.length-1) (fun i=> .int (0+(i:Nat))) (fun i a8 H'=>∃(v:V) (o3:Option V),a8=[some (.ref dx),some (.ref z),some v,o3,none,some (.ref df),some u.1,some (.int c),some w.1,some a.1,some b.1,some (.int e)]/\Same H5 H'/\Po K H' v (pw f i) (i*13+1) (i*(N 0+13)+1)) ⟨_,_,rfl,s6,Oa Ao (by omega) (by omega)⟩ ?_ ?_ ?_
 . rintro i a8 H' _
   exact J5
 . rintro i a8 H6 hi ⟨v,o3,rfl,t6,iv⟩
   done
   have:i*(N 0+13)<=12*(N 0+13):=mul_le_mul_right _ (by omega)
   refine Fy iv (Same.refl _) a0 (a6.trans t6) (by omega) (by decide) (by omega) fun v2 H7 s7 i7=> ?_
   try done
   rw [show tm (pw f i) f=pw f (i+1)by rw [Ja];rfl]at i7
   obtain⟨l7,z7⟩:=An8 a0.2.1 a0.2.2.1 a0.2.2.2 (i+1)
   exact⟨v2,_,rfl,t6.trans s7,i7.1,Tw _ _,l7,z7⟩
 rintro a8 H6 ⟨v,o3,rfl,t6,iv⟩
 have ak:=a6.trans t6
 done
 refine Zx (a0.mono ak) (by omega) fun v4 H7 s7 i7=> ?_
 try done
 have ax:=ak.trans s7
 have m1:(p.length-1)*13<=12*13:=mul_le_mul_right _ (by omega)
 have m2:(p.length-1)*(N 0+13)<=12*(N 0+13):=mul_le_mul_right _ (by omega)
 refine Gj iv s7 zc (by omega) (by omega) fun v5 H8 s8 i8=> ?_
 try done
 have ab:=ax.trans s8
 refine Fy hx (J.trans ab) iw ab (by decide) (by decide) (by omega) fun v6 H9 s9 i9=> ?_
 have a9:=ab.trans s9
 refine T6 i8 s9 i9 (Same.refl _) ⟨_,rfl,?_⟩
 rw [Ja p]
 by_cases h3:ng (pw f (p.length-1)) c=tm (l0 w.2.1) p
 case neg=>
  rw [decide_eq_false h3]
  exact no _ (J.trans a9) fun z=>h3 z.2.2.2.2.1
 rw [decide_eq_true h3]
 try done
 refine Fy ia a9 a0 a9 (by decide) (by decide) (by omega) fun v7 Ha sa ay=> ?_
 try done
 have am:=a9.trans sa
 refine Fy ib am i7 ((s8.trans s9).trans sa) (by decide) (by decide) (by omega) fun v8 Hb sb az=> ?_
 try done
 have b0:=am.trans sb
 refine Ul ay sb az (Same.refl _) (by decide) (by decide) fun v9 Hc sc ic=> ?_
 try done
 (intro q9 an;generalize ao:upd _ q9 _=bb;obtain⟨ap,b5⟩:=nw an ao;clear ao an)
 obtain⟨⟨d6,rfl,b6⟩,_⟩:=id ic
 refine Bu (ms:=[e]) (ap.tup b6) (.of b5) ?_
 rw [decide_eq_decide.mpr (show _↔G8 p f (l0 u.2.1) (l0 w.2.1) (l0 a.2.1) (l0 b.2.1) c e from⟨fun h=>⟨hc,he,h1,h2,h3,h⟩,fun h=>h.2.2.2.2.2⟩)]
 exact k _ (J.trans ((b0.trans sc).trans ap))
theorem Ab5 {a b c d:Pol} (h:Di a b) (k:Di c d):Di (a*c) (b*d):=by
 obtain⟨m,u,z,e⟩:=h
 obtain⟨n,v,I,f⟩:=k
 refine⟨m*n,u*v,mul_ne_zero z I,?_⟩
 rw [Fz]
 have:cst m*cst n*(b*d)=(cst m*b)*(cst n*d):=by grind
 rw [this,e,f]
 grind
theorem Y9 {c:Int} (z:c≠0) (f:Pol):Di (cst c) f:=⟨c,f,z,by grind⟩
theorem Ab6 (W:Pol) {m n:Nat} (h:m<=n):Di (W^m) (W^n):=by
 obtain⟨k,rfl⟩:=Nat.le.dest h
 have:=Di.mul (W^m) (W^k)
 rw [show W^k*W^m=W^(m+k)by grind]at this
 exact this
theorem Alu (G:Pol):(D G).l.length=G.l.length-1:=Rk G.l
theorem div_pow (W:Pol):∀(n:Nat) (G:Pol),G.l.length<=n->G≠0->Di G (W*D G)->Di G (W^(G.l.length-1)):=by
 intro n
 induction n with
 | zero=>intro G l O _;have:=len_pos O;omega
 | succ n ih=>
   intro G l O h
   by_cases l1:G.l.length<=1
   . obtain⟨c,Y,rfl⟩:=Uz O l1
     exact Y9 Y _
   have nD:D G≠0:=fun z=>l1 (Ag1 z)
   obtain⟨H,u,v,c,Y,d1,d2,eb⟩:=Ady G (D G)
   have U:=(d1.len O).1
   have lH:=(d2.len nD).2
   rw [Alu]at lH
   obtain⟨J,I,h1,e1⟩:=d1
   obtain⟨M,T1,h2,e2⟩:=d2
   have cp:Cp I T1:=by
    refine⟨cst M*u,cst J*v,c*J*M,mul_ne_zero (mul_ne_zero Y h1) h2,J0 U ?_⟩
    rw [Fz,Fz]
    grind
   obtain⟨c3,T,h3,e3⟩:=h
   have g1:Di I W:=by
    refine cp.cut ⟨c3*J,cst M*T,mul_ne_zero h3 h1,J0 U ?_⟩
    rw [Fz]
    grind
   have e4:cst J*D G=D I*H+I*D H:=by rw [<-Yy,e1,V0]
   have g2:Di H (I*D H):=by
    refine⟨M,cst J*T1-cst M*D I,h2,?_⟩
    grind
   obtain⟨d,S,hd,eS⟩:=g1
   have g3:Di H (W*D H):=by
    obtain⟨m,Z,hm,eZ⟩:=g2
    refine⟨d*m,S*Z,mul_ne_zero hd hm,?_⟩
    rw [Fz]
    grind
   have r:=ih H (by omega) U g3
   have hp:=len_pos U
   have q:Di (I*H) (W*W^(H.l.length-1)):=Ab5 ⟨d,S,hd,eS⟩ r
   rw [show W*W^(H.l.length-1)=W^(H.l.length-1+1)by grind]at q
   have q0:Di G (I*H):=⟨1,cst J,by decide,by rw [show cst 1=(1:Pol)from rfl];grind⟩
   exact(q0.trans q).trans (Ab6 W (by omega))
theorem Fre.pow {A W G:Pol} (h:Fre A W G):Di A (W^(A.l.length-1)):=by
 obtain⟨J,pA,gc,I⟩:=h
 have O:G≠0:=fun z=>J (by rw [I,z];grind)
 have nW:W≠0:=fun z=>J (by rw [I,z];grind)
 by_cases S:A.l.length<=1
 . obtain⟨c,M,e⟩:=Uz J S
   rw [e]
   exact Y9 M _
 have Y:D A≠0:=fun z=>S (Ag1 z)
 have U:Di G (D A):=Qj.mpr gc.two
 have Z:=(U.len Y).2
 rw [Alu]at Z
 have gp:=len_pos O
 have g:Di G (W*D G):=by
  obtain⟨c,V,M,e⟩:=U
  refine⟨c,V-cst c*D W,M,?_⟩
  rw [I,V0]at e
  grind
 have:=Ab5 (Di.refl W) (div_pow W _ G (le_refl _) O g)
 rw [<-I,show W*W^(G.l.length-1)=W^(G.l.length-1+1)by grind]at this
 exact this.trans (Ab6 W (by omega))
theorem Ald {p W G:Pol}{w u g Y Z a b:List Int}{e:Int} (O:p≠0) (h:Fre (plP p) W G) (S:Tr w) (ew:tm w (pln p.l)=pw W.l (p.l.length-1)) (eu:tm u W.l=p.l) (I:Pap W.l (dr W.l) g Y Z a b e):G8 p.l W.l u w a b (un p.l) e:=by
 have U:=h.nA
 have J:=h.eA
 have nG:G≠0:=fun z=>U (by rw [J,z];grind)
 have nW:W≠0:=fun z=>U (by rw [J,z];grind)
 have pW:pln W.l=W.l:=Amn nG (by rw [<-J];exact h.pA) h.gc.pl
 refine⟨Tc p.tr (Et.mp O),I.cn,pW,eu,?_,?_⟩
 . have M:p=cst (un p.l)*plP p:=K1 fun i=>by
    rw [Gd]
    exact(Jl p.tr (Et.mp O) i).symm
   have e1:(⟨w,S⟩:Pol)*plP p=W^(p.l.length-1):=K1 fun i=>congrArg (co · i) ew
   have e2:(⟨w,S⟩:Pol)*p=cst (un p.l)*W^(p.l.length-1):=by
    rw [<-e1]
    generalize un p.l=c at M
    generalize plP p=A at M
    rw [M]
    grind
   refine(Bq _).ext (Gw _ _) fun i=> ?_
   have:=congrArg (fun x:Pol=>co x.l i) e2
   show co (ng _ _) i=_
   rw [Jp,Int.mul_comm]
   rw [Gd]at this
   exact this.symm
 . obtain⟨V,eV,sq⟩:=h.sq
   have n1:g≠ []:=(I.gc.one.len I.gc.tr W.tr (Et.mp nW)).1
   have l1:g.length<=1:=Cp.const (d:=⟨g,I.gc.tr⟩) sq (Qj.mpr I.gc.one) (Qj.mpr I.gc.two)
   have g1:(⟨g,I.gc.tr⟩:Pol)=1:=Amo (Et.mpr n1) I.gc.pl l1
   have g2:g=[1]:=congrArg Pol.l g1
   have ce:=I.cn
   refine(Qp _ _).ext (.inr ⟨by simp,by simpa using ce⟩) fun i=> ?_
   rw [Ma,Dz,Dz,I.sum,g2]
   cases i with
   | zero=>exact Int.mul_one e
   | succ i=>rw [Ck (p:=[1]) (by simp),Ck (p:=[e]) (by simp),Int.mul_zero]
theorem Alc {p W G:Pol} (z:p≠0) (h:Fre (plP p) W G):Dv W.l p.l:=by
 have I:Di W (plP p):=by
  rw [h.eA,Ob]
  exact Di.mul W G
 have J:Di (plP p) p:=⟨1,cst (un p.l),by decide,K1 fun i=>by
  rw [Gd,Gd,Int.one_mul]
  exact(Jl p.tr (Et.mp z) i).symm⟩
 exact Qj.mp (I.trans J)
noncomputable def Ih (K:Frag):Sp:=fun vs H Q _=>∃(x:V) (p:Pol) (n:Nat),vs=[x]/\Po K H x p.l 10 n/\p≠0/\n<=1000/\∀(z:Addr) (H':Hp) (vf vu vw va vb:V) (c e:Int) (f u w a b:List Int),Same H H'->SqT K H' z [vf,vu,.int c,vw,va,vb,.int e]->Po K H' vf f 10 (n+141)->Po K H' vu u 10 (n+141)->Sz n c->Po K H' vw w 100 BIG->Po K H' va a 20 40000->Po K H' vb b 20 40000->Sz 40000 e->G8 p.l f u w a b c e->Q (.ref z) H'
theorem Ait {n:Nat} (h:n<=1200) (h1:1<=n):Few 10 n:=⟨by decide,by decide,h1,by omega⟩
theorem U5 {f:Addr}{fd:FuncData} (F:Df K mg "free_paper" Lj ["one"] f fd)   (M:Cal P w K mg base 42 "free_part" ["one"] (Qg K)) (I:Cal P w K mg base 35 "whole_part" ["one","other"] (Kr K)) (S:Cal P w K mg base 35 "power" ["one","many"] (Oo K)) (U:Cal P w K mg base 37 "plain" ["one"] (G6 K)) (J:Cal P w K mg base 41 "shared_paper" ["one","other"] (Gi K)) (Y:Cal P w K mg base 36 "unit" ["one"] (Vr K)) (c_degree:Cal P w K mg base 33 "degree" ["one"] (Gh K)) (O:Cal P w K mg base 33 "derived" ["one"] (J3 K)):Cal P w K mg base 43 "free_paper" ["one"] (Ih K):=by
 refine F.cal (F.fn.ok Gm (fun vs H Q E h=> ?_) (fun ab A outer s H vs Q E Z h=> ?_))
 . obtain⟨x,p,_,rfl,_⟩:=h
   rfl
 obtain⟨x,p,n,rfl,hx,np,hn,k⟩:=h
 refine Ax ⟨_,(Ad (Ak 1 Gm.nd (Af M Z (Aa (Ae 0) Ab)))
  (Ad (Ak 2 Gm.nd (Af I Z (Aa (Af S Z (Aa (Ae 1) (Aa (Af c_degree Z (Aa (Ae 0) Ab)) Ab))) (Aa (Af U Z (Aa (Ae 0) Ab)) Ab))))
  (Ad (Cy (Du Iu (Af J Z (Aa (Ae 1) (Aa (Af O Z (Aa (Ae 1) Ab)) Ab))) (El Ac) Ek) (Dn rfl (Ai (Aq 3 Gm.nd) (Ai (Aq 4 Gm.nd) (Ai (Aq 5 Gm.nd) Ci)))))
  (Ag (Aj (Al (Aa (Ae 1) (Aa (Af I Z (Aa (Ae 0) (Aa (Ae 1) Ab))) (Aa (Af Y Z (Aa (Ae 0) Ab)) (Aa (Ae 2) (Aa (Ae 3) (Aa (Ae 4) (Aa (Ae 5) Ab))))))))))))),?_⟩
 done
 refine⟨x,p,10,n,rfl,hx,by decide,by omega,Ait (by omega) (by omega),np,fun vf H1 W G s1 jf fr=> ?_⟩
 try done
 have p1:=len_pos np
 have lp:=hx.2.2.1
 refine⟨x,p.l,_,_,rfl,hx.mono s1,?_⟩
 try done
 refine⟨vf,p.l.length-1,9,_,W.l,10,n+141,rfl,.inl (by omega),jf,by omega,by decide,by decide,by omega,fun v2 H2 s2 i2=> ?_⟩
 try done
 have m1:(p.l.length-1)*10<=9*10:=mul_le_mul_right _ (by omega)
 have m2:(p.l.length-1)*(n+141+10)<=9*(n+141+10):=mul_le_mul_right _ (by omega)
 refine Ku hx (s1.trans s2) (by decide) (by omega) fun v3 H3 s3 i3=> ?_
 try done
 have nA:=fr.nA
 have nW:W≠0:=fun z=>nA (by rw [fr.eA,z];grind)
 have nG:G≠0:=fun z=>nA (by rw [fr.eA,z];grind)
 have pW:pln W.l=W.l:=Amn nG (by rw [<-fr.eA];exact fr.pA) fr.gc.pl
 have a2:=Qj.mp fr.pow
 rw [show(plP p).l.length=p.l.length from Fw _]at a2
 have ex:Exact (pw W.l (p.l.length-1)) (pln p.l):=Ut (Kw p.tr) (Et.mp nA) (Qu p.tr) a2
 refine⟨_,_,_,_,_,_,_,_,rfl,i2.mono s3,i3,by omega,by decide,by omega,by omega,Et.mp nA,fun z=>absurd ex z,fun v4 H4 w s4 i4 ew=> ?_⟩
 have a5:tm w (pln p.l)=pw W.l (p.l.length-1):=(Gw _ _).ext (Tw _ _) fun i=>by rw [Dz,ew]
 try done
 have a3:=(s2.trans s3).trans s4
 refine S9 jf a3 (by decide) (by omega) fun v5 H5 s5 i5=> ?_
 try done
 have a4:=a3.trans s5
 refine⟨_,_,_,_,10,n+141+8,rfl,(jf.mono a4).weak (le_refl _) (by omega),i5,by decide,Ait (by omega) (by omega),fun z6 H6 vg a6 a7 va vb e g u' v' a b s6 a8 ig ac ad ia ib ze a9=> ?_⟩
 try done
 refine⟨z6,_,rfl,a8,fun z7 H7 s7 h7=> ?_⟩
 have ec:K6 [vg,a6,a7,va,vb,V.int e] (some 3) none=[va,vb,V.int e]:=rfl
 rw [ec]at h7
 try done
 refine⟨z7,_,rfl,h7,rfl,va,_,rfl,vb,_,rfl,_,_,rfl,rfl,?_⟩
 try done
 have a0:=(a4.trans s6).trans s7
 refine⟨x,vf,p.l,W.l,10,10,n,_,rfl,hx.mono (s1.trans a0),jf.mono a0,by decide,by decide,by omega,by omega,Et.mp nW,Agx p.tr hx.2.2.1 (by decide) hx.2.2.2 W.tr (Et.mp nW) pW (Alc np fr) fun vu H8 u s8 iu eu=> ?_⟩
 have a1:=a0.trans s8
 obtain⟨⟨dx,rfl,aa⟩,_,_,zp⟩:=id hx
 refine⟨dx,p.l,rfl,(s1.trans a1).tup aa,fun H9 s9=> ?_⟩
 try done
 refine⟨by decide,fun z hz=> ?_⟩
 have sz:=Same.upd hz (.tup [vf,vu,V.int (un p.l),v4,va,vb,V.int e])
 have t5:=(s7.trans s8).trans (s9.trans sz)
 exact k z _ vf vu v4 va vb (un p.l) e W.l u w a b (s1.trans (a1.trans (s9.trans sz))) (.of Ao) (jf.mono (a1.trans (s9.trans sz))) (iu.mono (s9.trans sz)) (Agu p.tr (Et.mp np) (zp _)) (i4.mono ((s5.trans s6).trans t5)) ((ia.mono t5).weak (by decide) (by omega)) ((ib.mono t5).weak (by decide) (by omega)) (ze.mono (by omega)) (Ald np fr i4.2.1 a5 eu a9)
theorem Ais {p q u r:List Int}{s:Int} (M:1<=s) (h:∀k,s*co p k=mu u (co q) k+co r k) (z:Tr r) (I:Tr q) (O:r.length<q.length):r=[]↔Dv q p:=by
 constructor
 . rintro rfl
   exact⟨s,u,by omega,fun i=>by rw [h,Bv,Int.add_zero]⟩
 . intro J
   by_cases n:r=[]
   . exact n
   . exfalso
     have:Dv q r:=Dv.comb J (Dv.refl q) (k:=1) (by decide) (a:=[s]) (b:=u.map (-1* ·)) fun i=>by
      rw [Aks,Kv]
      have:=h i
      omega
     have:=(this.len I z n).2
     omega
theorem Aaf {f:List Int} (z:Tr f):f=[]↔Dv [] f:=⟨fun h=>by rw [h];exact Dv.refl _,fun h=>h.zero z⟩
noncomputable def Ji (K:Frag):Sp:=fun vs H Q _=>∃(x y:V) (d f:List Int) (l n:Nat),vs=[x,y]/\Po K H x d l n/\Po K H y f l n/\l<=100/\n<=400000/\∀(b:Bool) H',Same H H'->(b=true↔Dv d f)->Q (.bl b) H'
theorem Wj {f:Addr}{fd:FuncData} (F:Df K mg "_law_divides" Ni ["_law_one","_law_other"] f fd)   (I:Cal P w K mg base 35 "parted" ["one","other"] (W3 K)):Cal P w K mg base 36 "_law_divides" ["_law_one","_law_other"] (Ji K):=by
 refine F.cal (F.fn.ok Ww (fun vs H Q E h=> ?_) (fun a1 A outer s H vs Q E M h=> ?_))
 . obtain⟨x,y,d,f,_,_,rfl,_⟩:=h
   rfl
 obtain⟨x,y,d,f,l,n,rfl,hx,hy,hl,hn,k⟩:=h
 obtain⟨⟨a,rfl,ha⟩,td,_⟩:=id hx
 obtain⟨⟨b,rfl,hb⟩,tf,_⟩:=id hy
 refine Ax ⟨_,(Ad (Ay (Am (Fl M.units) (Ae 0) (Al Ab) (Bb _)) (Ag (Aj (Cv (Fl M.units) (Ae 1) (Al Ab) (Bb _)))) Ar)
  (Ag (Aj (Cv (Fl M.units) (Aw Bx (Af I M (Aa (Ae 1) (Aa (Ae 0) Ab))) Ac (fun _ _=>rfl)) (Al Ab) (Bb _))))),?_⟩
 done
 refine⟨by decide,fun e0 U=> ?_⟩
 have s0:=Same.upd U (.tup [])
 refine Bu (ms:=[]) (s0.tup ha) (.of Ao) ?_
 try done
 by_cases O:d=[]
 . rw [if_pos O]
   subst O
   refine⟨by decide,fun e1 J=> ?_⟩
   have S:=s0.trans (Same.upd J (.tup []))
   refine Bu (ms:=[]) (S.tup hb) (.of Ao) ?_
   exact k _ _ S (by rw [decide_eq_true_eq];exact Aaf tf)
 . rw [if_neg O]
   refine⟨_,_,f,d,l,l,n,n,rfl,hy.mono s0,hx.mono s0,hl,hl,by omega,by omega,O,fun z H1 sc c e u r S hz iu ir W a2 bb Y Z a3=> ?_⟩
   refine En hz (Bk (j:=2) rfl) ?_
   try done
   refine⟨by decide,fun e1 J=> ?_⟩
   have s2:=Same.upd J (.tup [])
   obtain⟨⟨dr,rfl,a0⟩,tr,_⟩:=id ir
   refine Bu (ms:=[]) (s2.tup a0) (.of Ao) ?_
   exact k _ _ ((s0.trans S).trans s2) (by rw [decide_eq_true_eq];exact Ais W Y tr td Z)
theorem W9 {H H1 H2:Hp}{Q:VK}{E:XK}{x y:V}{d f:List Int}{l l' n n':Nat} (z:Po K H1 x d l n) (I:Same H1 H) (J:Po K H2 y f l' n') (s2:Same H2 H) (h1:l<=100) (h2:l'<=100) (M:n<=400000) (O:n'<=400000) (h:∀(b:Bool) H',Same H H'->(b=true↔Dv d f)->Q (.bl b) H'):Ji K [x,y] H Q E:=⟨x,y,d,f,100,400000,rfl,(z.mono I).weak h1 M,(J.mono s2).weak h2 O,by decide,by decide,h⟩
theorem Alj {t b:Int}{n m:Nat} (z:Sz m t) (I:Sz m b):∀p:List Int,(∀x∈p,Sz n x)->Sz (n+(m+2)*p.length) (hv p t b)
 | [],_=>two_pow_pos _
 | w::r,h=>by
   have J:=Alj z I r fun x M=>h x (mem_cons_of_mem _ M)
   have O:=(h w (by simp)).mul (Ud I r.length)
   rw [hv]
   have e:(m+2)*r.length=m*r.length+2*r.length:=add_mul _ _ _
   have S:(m+2)*(r.length+1)=(m+2)*r.length+(m+2):=mul_succ _ _
   refine((J.mul z).add O).mono ?_
   rw [length_cons,S,e]
   generalize m*r.length=A
   omega
noncomputable def Uk (K:Frag):Sp:=fun vs H Q _=>∃(x:V) (b:Addr) (p:List Int) (t d:Int) (n:Nat),vs=[x,.ref b]/\Po K H x p 13 n/\SqT K H b [.int t,.int d]/\n<=100000/\Sz 10 t/\Sz 10 d/\Q (.int (hv p t d)) H
theorem Aaw {f:Addr}{fd:FuncData} (F:Df K mg "_law_value" Sd ["_law_one","_law_point"] f fd) (I:mg "reversed"=none)   :Cal P w K mg base 33 "_law_value" ["_law_one","_law_point"] (Uk K):=by
 refine F.cal (F.fn.ok Ij (fun vs H Q E h=> ?_) (fun a0 A outer s H vs Q E hr h=> ?_))
 . obtain⟨x,b,_,_,_,_,rfl,_⟩:=h
   rfl
 obtain⟨x,b,p,t,d,n,rfl,M,Y,hn,Z,O,k⟩:=h
 obtain⟨⟨a,rfl,ha⟩,tp,lp,zp⟩:=id M
 refine Ax ⟨_,(Ad (Ak 2 Ij.nd Ac)
  (Ad (Ak 3 Ij.nd Ac)
  (Ad (Dp PassesOwn.never rfl (Afa rfl I (Aa (Ae 0) Ab)) (Aq 4 Ij.nd) (Ad (Ak 2 Ij.nd (Ah Eh (Ah Cr (Ae 2) (Aw Bx (Ae 1) Ac (fun _ _=>rfl))) (Ah Cr (Ae 4) (Ae 3))))
  (Ag (Ak 3 Ij.nd (Ah Cr (Ae 3) (Aw Bx (Ae 1) Ac (fun _ _=>rfl)))))))
  (Ag (Aj (Ae 2)))))),?_⟩
 done
 have S:∀z J:List Int,p.reverse=z++J->Sz (n+12*z.length) (hv z.reverse t d):=fun z J e=>by
  have h:=Alj Z O z.reverse fun x hm=>M.mem x (by
   have:x∈p.reverse:=by rw [e];exact List.mem_append_left _ (mem_reverse.mp hm)
   exact mem_reverse.mp this)
  rw [List.length_reverse]at h
  exact h
 refine⟨_,ha,?_⟩
 rw [length_map]
 refine Uy (es:=p.reverse) (inj:=V.int) (fun z σ H'=>H'=H/\∃o:Option V,σ=[some (.ref a),some (.ref b),some (.int (hv z.reverse t d)),some (.int (d^z.length)),o]) ⟨rfl,none,by rw [length_nil,Int.pow_zero];rfl⟩ ?_ ?_ ?_
 . rintro z σ H' ⟨rfl,_⟩
   exact Akl ha
 . rintro z e J σ H' U ⟨rfl,o,rfl⟩
   have a1:z.length<=13:=by
    have:=congrArg List.length U
    simp at this
    omega
   have W:Sz n e:=M.mem e (by
    have:e∈p.reverse:=by rw [U];simp
    exact mem_reverse.mp this)
   have z1:=S z _ U
   have z2:=Ud O z.length
   done
   refine En Y (Bk (j:=0) rfl) ?_
   try done
   refine⟨z1.mulOk Z (by omega),W.mulOk z2 (by omega),En Y (Bk (j:=1) rfl) ?_⟩
   try done
   refine⟨z2.mulOk O (by omega),?_⟩
   try done
   refine⟨some (.int e),?_⟩
   rw [List.reverse_append,List.reverse_singleton,List.singleton_append,hv,List.length_reverse,length_append,length_singleton,Int.pow_succ]
 . rintro σ H' ⟨rfl,o,rfl⟩
   done
   rw [List.reverse_reverse]
   exact k
theorem Tg.put {H:Hp}{q:Addr}{L N:Nat}{v:V}{d:Option (List Int)}{i:Option Int}{I zs:List V} (h:Tg K H L N v d i) (J:H q=some (.lst I)):Tg K (upd H q (.lst zs)) L N v d i:=by
 cases h with
 | nums h l z=>
   refine .nums ?_ l z
   rcases h with(h | ⟨o',h⟩) | h
   . exact .inl (.inl (by rw [Cu (Afw h J (by intro z;cases z))];exact h))
   . exact .inl (.inr ⟨o',by rw [Cu (Afw h J (by intro z;cases z))];exact h⟩)
   . exact .inr h
 | int i z=>exact .int i z
 | bl b=>exact .bl b
 | non=>exact .non
 | str x=>exact .str x
 | @lst a xs e=>
   by_cases M:a=q
   . subst M
     exact .lst Ao
   . exact .lst (by rw [Cu M];exact e)
noncomputable def NF (S B:Nat) (i:Nat):Nat:=if i=3 then B else S
structure PT (K:Frag) (H:Hp) (m R B:Nat) (a:Addr) (ts:List T3):Prop where
 h:SqT K H a (ts.map (·.1))
 l:ts.length=m
 al:∀i t,ts[i]? =some t->Tg K H 99 (NF R B i) t.1 t.2.1 t.2.2
theorem PT.ppr {H:Hp}{m R B z I:Nat}{a:Addr}{ts:List T3} (h:PT K H m R B a ts) (h1:R<=z) (h2:B<=I):Ppr K H m (NF z I) (.ref a) (some ts):= .tup h.h h.l fun i t e=>(h.al i t e).weak (by decide) (by unfold NF;split<;>assumption)
theorem PT.mono {H H':Hp}{m R B:Nat}{a:Addr}{ts:List T3} (h:PT K H m R B a ts) (s:Same H H'):PT K H' m R B a ts:=⟨s.tup h.h,h.l,fun i t e=>(h.al i t e).mono s⟩
noncomputable def Zz (K:Frag):Sp:=fun vs H Q _=>∃(c:Int) (m:Nat),vs=[.int c,.int (m:Nat)]/\m<=7/\∀z H' ts,Same H H'->PT K H' m 50 50 z ts->Q (.ref z) H'
theorem Af0 {f:Addr}{fd:FuncData} (F:Df K mg "_law_any" Yq ["_law_cell","_law_many"] f fd) (M:mg "range"=none) (O:mg "tuple"=none)  (J:Cal P w K mg base 35 "_law_poly" ["_law_cell","_law_most"] (Iv K)) (I:Cal P w K mg base 33 "_law_mixed" ["_law_cell","_law_k"] (Ms K)):Cal P w K mg base 36 "_law_any" ["_law_cell","_law_many"] (Zz K):=by
 refine F.cal (F.fn.ok Qz (fun vs H Q E h=> ?_) (fun a5 A outer s H vs Q E hr h=> ?_))
 . obtain⟨c,m,rfl,_⟩:=h
   rfl
 obtain⟨c,m,rfl,m7,k⟩:=h
 refine Ax ⟨_,(Ad (Ak 2 Qz.nd (Cd Ab))
  (Ad (Dp PassesOwn.never rfl (Ew rfl M (Aa (Ae 1) Ab)) (Aq 3 Qz.nd) (Ad (Ak 4 Qz.nd (Cd (Aa (Af J hr (Aa (Af I hr (Aa (Ae 0) (Aa (Ae 3) Ab))) (Aa Ac Ab))) (Aa (Ah Em (Ah Dc (Af I hr (Aa (Ae 0) (Aa (Ae 3) Ab))) Ac) Ac) Ab))))
  (Ag (Hi (Nu plainAttrs_list PySem.F.slot_list_append PySem.F.type_list_append Jz (Ae 2) (Aa (Aw Ec (Ae 4) (Ah Cw (Ah Dc (Af I hr (Aa (Ae 0) (Aa (Ah Eh Ac (Ae 3)) Ab))) Ac) Ac) (fun _ _=>rfl)) Ab))))))
  (Ag (Aj (Ed Ey rfl O boot_tuple (Aa (Ae 2) Ab)))))),?_⟩
 done
 refine⟨by decide,fun q hq=>⟨by omega,by omega,?_⟩⟩
 rw [toNat_natCast]
 refine Akr m (fun i=> .int (0+(i:Nat))) (fun i S H'=>∃(ts:List T3) (W Y:Option V),S=[some (.int c),some (.int (m:Nat)),some (.ref q),W,Y]/\Same H H'/\H' q=some (.lst (ts.map (·.1)))/\ts.length=i/\∀t∈ts,Tg K H' 99 50 t.1 t.2.1 t.2.2) ⟨[],_,_,rfl,Same.upd hq _,Ao,rfl,by simp⟩ ?_ ?_ ?_
 . rintro i S H' _
   exact J5
 . rintro i S H1 hi ⟨ts,W,Y,rfl,s1,h1,hl,al⟩
   done
   refine Vu (by omega) (by omega) fun n1 a6 a7=> ?_
   try done
   refine Mf (by decide) (by decide) fun v2 H2 p2 s2 i2=> ?_
   try done
   refine Vu (by omega) (by omega) fun n3 a8 a9=> ?_
   try done
   refine⟨by decide,?_⟩
   (intro q4 Z;generalize a0:upd _ q4 _=a1;obtain⟨U,a2⟩:=nw Z a0;clear a0 Z)
   have h2:=U _ _ (s2 _ _ h1)
   refine⟨.inl ⟨rfl,_,.of h2⟩,Vu (by omega) (by omega) fun n5 aa ab=> ?_⟩
   try done
   refine⟨by decide,⟨by decide,by decide⟩,?_⟩
   have a3:∀t:T3,Tg K a1 99 50 t.1 t.2.1 t.2.2->Ad6 (V.ref q) [t.1] a1 fun x H1=>∃(ts:List T3) (W Y:Option V),[some (V.int c),some (V.int (m:Nat)),some (V.ref q),some (V.int (0+(i:Nat))),some (V.ref q4)]=[some (V.int c),some (V.int (m:Nat)),some (V.ref q),W,Y]/\Same H H1/\H1 q=some (HO.lst (List.map (fun x=>x.1) ts))/\ts.length=i+1/\∀t∈ts,Tg K H1 99 50 t.1 t.2.1 t.2.2:=fun t ht=>by
    refine⟨q,_,_,rfl,rfl,h2,?_,ts++ [t],_,_,rfl,(s1.trans (s2.trans U)).put hq,by rw [Ao,map_append];rfl,by rw [length_append,hl];rfl,fun r a4=> ?_⟩
    . rw [length_map]
      exact lt_of_lt_of_le (show ts.length<8 by omega) (by decide)
    rcases mem_append.mp a4 with h | h
    . exact((al r h).mono (s2.trans U)).put h2
    . rw [mem_singleton.mp h]
      exact ht.put h2
   rcases(by omega:n5%3/2=0\/n5%3/2=1)with e | e
   . rw [e]
     exact Fi (.of a2) (Bk (j:=0) rfl) (a3 (v2,some p2,none) ((i2.mono U).tg.weak (by decide) (by decide)))
   . rw [e]
     exact Fi (.of a2) (Bk (j:=1) rfl) (a3 (.int (n3%7-3),none,some (n3%7-3)) (.int _ (show(n3%7-3).natAbs<2^50 by omega)))
 rintro S H1 ⟨ts,W,Y,rfl,s1,h1,hl,al⟩
 done
 refine⟨q,_,rfl,.inl ⟨.of h1,fun z hz=>k _ _ ts (s1.trans (Same.upd hz _)) (.mk (.of Ao) hl fun i t e=>((al t (List.mem_of_getElem? e)).mono (Same.upd hz _)).weak (le_refl _) (by unfold NF;split<;>decide))⟩⟩
theorem Le (A:Pol) (t:Int):ng A.l t=(cst t*A).l:=(Bq _).ext (cst t*A).tr fun i=>by
 show co (ng A.l t) i=_
 rw [Jp,Gd,Int.mul_comm]
theorem Ahd (X:Pol):cst (-1)*X= -X:=K1 fun i=>by
 rw [Gd,Y7]
 omega
theorem Ai4 {P Q G U V A B:Pol}{c t:Int} (M:Pol) (h:Jv P.l Q.l G.l U.l V.l A.l B.l c) (J:t≠0):Jv P.l Q.l G.l U.l V.l (ta (ng A.l t) (tm M.l V.l)) (ta (ng B.l t) (ng (tm M.l U.l) (-1))) (c*t):=by
 obtain⟨O,S,z,I,W⟩:=h
 have Y:U*G=P:=K1 fun i=>congrArg (co · i) z
 have Z:V*G=Q:=K1 fun i=>congrArg (co · i) I
 have f3:A*P+B*Q=cst c*G:=K1 fun i=>congrArg (co · i) (W.trans (Le G c))
 refine⟨mul_ne_zero O J,S,z,I,?_⟩
 have r:(cst t*A+M*V)*P+(cst t*B+cst (-1)*(M*U))*Q=cst (c*t)*G:=by
  rw [Fz,Ahd]
  grind
 rw [Le A,Le B,Le G,show ng (tm M.l U.l) (-1)=(cst (-1)*(M*U)).l from Le (M*U) (-1)]
 exact congrArg Pol.l r
theorem Ajh {P F U W A B:Pol}{c e t s:Int} (M:Pol) (h:G8 P.l F.l U.l W.l A.l B.l c e) (I:t≠0) (J:s≠0):G8 P.l F.l U.l (ng W.l s) (ta (ng A.l t) (tm M.l (dr F.l))) (ta (ng B.l t) (ng (tm M.l F.l) (-1))) (c*s) (e*t):=by
 obtain⟨O,z,S,Y,Z,e3⟩:=h
 have f2:cst c*F^(P.l.length-1)=W*P:=K1 fun i=>congrArg (co · i) ((Le (F^(P.l.length-1)) c).symm.trans Z)
 have f3:A*F+B*D F=cst e:=K1 fun i=>congrArg (co · i) (e3.trans (Wa z).symm)
 refine⟨mul_ne_zero O J,mul_ne_zero z I,S,Y,?_,?_⟩
 . have r:cst (c*s)*F^(P.l.length-1)=cst s*W*P:=by
    rw [Fz]
    grind
   rw [show ng (pw F.l (P.l.length-1)) (c*s)=_ from Le (F^(P.l.length-1)) (c*s),Le W]
   exact congrArg Pol.l r
 . have r:(cst t*A+M*D F)*F+(cst t*B+cst (-1)*(M*F))*D F=cst (e*t):=by
    rw [Fz,Ahd]
    grind
   rw [Le A,Le B,show ng (tm M.l F.l) (-1)=(cst (-1)*(M*F)).l from Le (M*F) (-1),<-Wa (mul_ne_zero z I)]
   exact congrArg Pol.l r
theorem M4 {p:List Int} (h:Tr p):plB (some p)=true:=decide_eq_true (Pz h)
theorem Aqp {H:Hp}{z:Addr}{I J M O S:V}{g u v a b:List Int}{c:Int}{N:Nat} (h:SqT K H z [I,J,M,O,S,.int c]) (U:Po K H I g 99 N) (W:Po K H J u 99 N) (hv:Po K H M v 99 N) (Y:Po K H O a 99 N) (Z:Po K H S b 99 N) (hc:Sz N c):∃ts,PT K H 6 N N z ts/\∀p q,srB p q (some ts)=decide (Jv p q g u v a b c):=by
 refine⟨[(I,some g,none),(J,some u,none),(M,some v,none),(O,some a,none),(S,some b,none),(.int c,none,some c)],⟨h,rfl,fun i t e=> ?_⟩,fun p q=> ?_⟩
 . match i,e with
   | 0,e=>cases e;exact U.tg
   | 1,e=>cases e;exact W.tg
   | 2,e=>cases e;exact hv.tg
   | 3,e=>cases e;exact Y.tg
   | 4,e=>cases e;exact Z.tg
   | 5,e=>cases e;exact .int c hc
 . rw [Qh]
   show([plB (some g),plB (some u),plB (some v),plB (some a),plB (some b)].all id&&true&&_)=_
   rw [M4 U.2.1,M4 W.2.1,M4 hv.2.1,M4 Y.2.1,M4 Z.2.1]
   rfl
theorem Aqq {H:Hp}{z:Addr}{I J O S U:V}{f u w a b:List Int}{c e:Int}{N M:Nat} (h:SqT K H z [I,J,.int c,O,S,U,.int e]) (Y:Po K H I f 99 N) (Z:Po K H J u 99 N) (hc:Sz N c) (hw:Po K H O w 99 M) (ha:Po K H S a 99 N) (hb:Po K H U b 99 N) (he:Sz N e):∃ts,PT K H 7 N M z ts/\∀p,p≠ []->frB p (some ts)=decide (G8 p f u w a b c e):=by
 refine⟨[(I,some f,none),(J,some u,none),(.int c,none,some c),(O,some w,none),(S,some a,none),(U,some b,none),(.int e,none,some e)],⟨h,rfl,fun i t W=> ?_⟩,fun p np=> ?_⟩
 . match i,W with
   | 0,e=>cases e;exact Y.tg
   | 1,e=>cases e;exact Z.tg
   | 2,e=>cases e;exact .int c hc
   | 3,e=>cases e;exact hw.tg
   | 4,e=>cases e;exact ha.tg
   | 5,e=>cases e;exact hb.tg
   | 6,W=>cases W;exact .int e he
 . rw [Zd,decide_eq_false np]
   show((!false)&&([plB (some f),plB (some u),plB (some w),plB (some a),plB (some b)].all id&&(true&&(true&&_))))=_
   rw [M4 Y.2.1,M4 Z.2.1,M4 hw.2.1,M4 ha.2.1,M4 hb.2.1]
   rfl
inductive P6 (K:Frag) (H:Hp) (p q:List Int) (L N:Nat):V->Prop where
 | mk {z:Addr}{vg vu vv va vb:V}{g u v a b:List Int}{c:Int} (h:SqT K H z [vg,vu,vv,va,vb,.int c]) (hg:Po K H vg g L N) (hu:Po K H vu u L N) (hv:Po K H vv v L N) (ha:Po K H va a L N) (hb:Po K H vb b L N) (hc:Sz N c) (ok:Jv p q g u v a b c):P6 K H p q L N (.ref z)
inductive P7 (K:Frag) (H:Hp) (p:List Int) (L N M:Nat):V->Prop where
 | mk {z:Addr}{vf vu vw va vb:V}{f u w a b:List Int}{c e:Int} (h:SqT K H z [vf,vu,.int c,vw,va,vb,.int e]) (hf:Po K H vf f 10 N) (hu:Po K H vu u L N) (hc:Sz N c) (hw:Po K H vw w 90 M) (ha:Po K H va a L N) (hb:Po K H vb b L N) (he:Sz N e) (ok:G8 p f u w a b c e):P7 K H p L N M (.ref z)
theorem Acd {H:Hp}{Q:VK}{q:Addr}{c:Int} (h:SqL K H q [.int 1,.int 2,.int 3,.int 5,.int (-1),.int (-2),.int (-7)]) (k:∀t:Int,t≠0->Sz 3 t->Q (.int t) H):Ah2 K (.ref q) (.int (c%7)) H Q:=by
 rcases(by omega:c%7=0\/c%7=1\/c%7=2\/c%7=3\/c%7=4\/c%7=5\/c%7=6)with e | e | e | e | e | e | e<;>rw [e]
 . exact Fi h (Bk (j:=0) rfl) (k _ (by decide) (by unfold Sz;decide))
 . exact Fi h (Bk (j:=1) rfl) (k _ (by decide) (by unfold Sz;decide))
 . exact Fi h (Bk (j:=2) rfl) (k _ (by decide) (by unfold Sz;decide))
 . exact Fi h (Bk (j:=3) rfl) (k _ (by decide) (by unfold Sz;decide))
 . exact Fi h (Bk (j:=4) rfl) (k _ (by decide) (by unfold Sz;decide))
 . exact Fi h (Bk (j:=5) rfl) (k _ (by decide) (by unfold Sz;decide))
 . exact Fi h (Bk (j:=6) rfl) (k _ (by decide) (by unfold Sz;decide))
noncomputable def M6 (K:Frag):Sp:=fun vs H Q _=>∃(x y z:V) (c:Int) (p q:List Int),vs=[x,y,z,.int c]/\P6 K H p q 20 8000 z/\∀z' H',Same H H'->P6 K H' p q 30 9000 z'->Q z' H'
theorem Tq {f:Addr}{fd:FuncData} (F:Df K mg "_law_made_over" Kg ["_law_one","_law_other","_law_paper","_law_cell"] f fd)   (S:Cal P w K mg base 35 "_law_poly" ["_law_cell","_law_most"] (Iv K)) (O:Cal P w K mg base 34 "_law_sum" ["_law_one","_law_other"] (Mt K)) (I:Cal P w K mg base 34 "_law_scaled" ["_law_one","_law_by"] (Fj K)) (J:Cal P w K mg base 34 "_law_product" ["_law_one","_law_other"] (Fe K)):Cal P w K mg base 36 "_law_made_over" ["_law_one","_law_other","_law_paper","_law_cell"] (M6 K):=by
 refine F.cal (F.fn.ok Dq (fun vs H Q E h=> ?_) (fun a8 A outer s H vs Q E W h=> ?_))
 . obtain⟨x,y,z,c,p,q,rfl,_⟩:=h
   rfl
 obtain⟨x,y,z,c,p,q,rfl,hz,k⟩:=h
 refine Ax ⟨_,(Ad (Cy (Ae 2) (Dn rfl (Ai (Aq 8 Dq.nd) (Ai (Aq 9 Dq.nd) (Ai (Aq 10 Dq.nd) (Ai (Aq 6 Dq.nd) (Ai (Aq 7 Dq.nd) (Ai (Aq 11 Dq.nd) Ci))))))))
  (Ad (Ay (Am (Fl W.units) (Ae 8) (Al Ab) (Bb _)) (Ag (Aj (Ae 2))) Ar)
  (Ad (Ak 4 Dq.nd (Af S W (Aa (Ah Cw (Ae 3) Ac) (Aa Ac Ab))))
  (Ad (Ak 5 Dq.nd (Aw Ec (Cd (Aa Ac (Aa Ac (Aa Ac (Aa Ac (Aa (Bd Ce Ac) (Aa (Bd Ce Ac) (Aa (Bd Ce Ac) Ab)))))))) (Ah Dc (Ae 3) Ac) (fun _ _=>rfl)))
  (Ad (Ak 6 Dq.nd (Af O W (Aa (Af I W (Aa (Ae 6) (Aa (Ae 5) Ab))) (Aa (Af J W (Aa (Ae 4) (Aa (Ae 10) Ab))) Ab))))
  (Ad (Ak 7 Dq.nd (Af O W (Aa (Af I W (Aa (Ae 7) (Aa (Ae 5) Ab))) (Aa (Af I W (Aa (Af J W (Aa (Ae 4) (Aa (Ae 9) Ab))) (Aa (Bd Ce Ac) Ab))) Ab))))
  (Ag (Aj (Al (Aa (Ae 8) (Aa (Ae 9) (Aa (Ae 10) (Aa (Ae 6) (Aa (Ae 7) (Aa (Ah Cr (Ae 11) (Ae 5)) Ab))))))))))))))),?_⟩
 done
 cases hz with
 | @mk z vg vu vv va vb g u v a b a3 h hg hu hv ha hb hc ok=>
 refine⟨z,_,rfl,h,rfl,vg,_,rfl,vu,_,rfl,vv,_,rfl,va,_,rfl,vb,_,rfl,_,_,rfl,rfl,?_⟩
 try done
 refine⟨by decide,?_⟩
 (intro q0 Z;generalize a0:upd _ q0 _=a9;obtain⟨M,a4⟩:=nw Z a0;clear a0 Z)
 obtain⟨⟨dg,rfl,a5⟩,tg,_⟩:=id hg
 refine Bu (ms:=[]) (M.tup a5) (.of a4) ?_
 try done
 by_cases g0:g=[]
 . rw [if_pos g0]
   exact k _ _ M (.mk (M.tup h) ((hg.mono M).weak (by decide) (by decide)) ((hu.mono M).weak (by decide) (by decide)) ((hv.mono M).weak (by decide) (by decide)) ((ha.mono M).weak (by decide) (by decide)) ((hb.mono M).weak (by decide) (by decide)) (hc.mono (by decide)) ok)
 rw [if_neg g0]
 refine⟨⟨by decide,by decide⟩,Mf (by decide) (by decide) fun vm H1 m s1 im=> ?_⟩
 try done
 refine⟨by decide,?_⟩
 (intro q1 a1;generalize a2:upd _ q1 _=aa;obtain⟨Y,a6⟩:=nw a1 a2;clear a2 a1)
 refine⟨by decide,Acd (.of a6) fun t t0 t3=> ?_⟩
 try done
 have t1:=(M.trans s1).trans Y
 refine Gj ha t1 t3 (by decide) (by decide) fun v1 H2 s2 i2=> ?_
 try done
 have t2:=t1.trans s2
 refine Fy im (Y.trans s2) hv t2 (by decide) (by decide) (by decide) fun v2 H3 s3 i3=> ?_
 try done
 have t3:=t2.trans s3
 refine Ul i2 s3 i3 (Same.refl _) (by decide) (by decide) fun v3 H4 s4 i4=> ?_
 try done
 have t4:=t3.trans s4
 refine Gj hb t4 ‹Sz 3 t› (by decide) (by decide) fun v5 H5 s5 i5=> ?_
 try done
 have t5:=t4.trans s5
 refine Fy im (Y.trans ((s2.trans s3).trans (s4.trans s5))) hu t5 (by decide) (by decide) (by decide) fun v6 H6 s6 i6=> ?_
 try done
 have t6:=t5.trans s6
 refine Gj (m:=1) i6 (Same.refl _) (by unfold Sz;decide) (by decide) (by decide) fun v7 H7 s7 i7=> ?_
 try done
 have t7:=t6.trans s7
 refine Ul i5 (s6.trans s7) i7 (Same.refl _) (by decide) (by decide) fun v8 H8 s8 i8=> ?_
 try done
 have t8:=t7.trans s8
 refine⟨hc.mulOk ‹Sz 3 t› (by decide),by decide,fun z' a7=> ?_⟩
 have sz:=Same.upd a7 (.tup [V.ref dg,vu,vv,v3,v8,V.int (a3*t)])
 have t9:=t8.trans sz
 obtain⟨_,_,e1,e2,_⟩:=id ok
 have hp:Tr p:=e1▸Gw _ _
 have hq:Tr q:=e2▸Gw _ _
 refine k _ _ t9 (.mk (.of Ao) ((hg.mono t9).weak (by decide) (by decide)) ((hu.mono t9).weak (by decide) (by decide)) ((hv.mono t9).weak (by decide) (by decide)) ((i4.mono ((s5.trans s6).trans ((s7.trans s8).trans sz))).weak (by decide) (by decide)) ((i8.mono sz).weak (by decide) (by decide)) ((hc.mul ‹Sz 3 t›).mono (by decide)) ?_)
 exact Ai4 (P:=⟨p,hp⟩) (Q:=⟨q,hq⟩) (G:=⟨g,tg⟩) (U:=⟨u,hu.2.1⟩) (V:=⟨v,hv.2.1⟩) (A:=⟨a,ha.2.1⟩) (B:=⟨b,hb.2.1⟩) ⟨m,im.2.1⟩ ok t0
noncomputable def M5 (K:Frag):Sp:=fun vs H Q _=>∃(z:V) (c:Int) (p:List Int) (M:Nat),vs=[z,.int c]/\P7 K H p 20 50000 M z/\M<=70000000/\Tr p/\∀z' H',Same H H'->P7 K H' p 30 51000 (M+3) z'->Q z' H'
theorem Tp {f:Addr}{fd:FuncData} (F:Df K mg "_law_free_over" Ib ["_law_paper","_law_cell"] f fd) (Y:mg "range"=none) (z_len:mg "len"=none)  (S:Cal P w K mg base 35 "_law_poly" ["_law_cell","_law_most"] (Iv K)) (Z:Cal P w K mg base 33 "_law_cut" ["_law_weights"] (Hu K)) (O:Cal P w K mg base 34 "_law_sum" ["_law_one","_law_other"] (Mt K)) (I:Cal P w K mg base 34 "_law_scaled" ["_law_one","_law_by"] (Fj K)) (J:Cal P w K mg base 34 "_law_product" ["_law_one","_law_other"] (Fe K)):Cal P w K mg base 36 "_law_free_over" ["_law_paper","_law_cell"] (M5 K):=by
 refine F.cal (F.fn.ok Cg (fun vs H Q E h=> ?_) (fun ad A outer s H vs Q E hr h=> ?_))
 . obtain⟨z,c,p,M,rfl,_⟩:=h
   rfl
 obtain⟨z,c,p,M,rfl,hz,hM,tp,k⟩:=h
 refine Ax ⟨_,(Ad (Cy (Ae 0) (Dn rfl (Ai (Aq 8 Cg.nd) (Ai (Aq 9 Cg.nd) (Ai (Aq 10 Cg.nd) (Ai (Aq 11 Cg.nd) (Ai (Aq 6 Cg.nd) (Ai (Aq 7 Cg.nd) (Ai (Aq 12 Cg.nd) Ci)))))))))
  (Ad (Ak 2 Cg.nd (Af S hr (Aa (Ah Cw (Ae 1) Ac) (Aa Ac Ab))))
  (Ad (Ak 3 Cg.nd (Aw Ec (Cd (Aa Ac (Aa Ac (Aa Ac (Aa Ac (Aa (Bd Ce Ac) (Aa (Bd Ce Ac) (Aa (Bd Ce Ac) Ab)))))))) (Ah Dc (Ae 1) Ac) (fun _ _=>rfl)))
  (Ad (Ak 4 Cg.nd (Aw Ec (Cd (Aa Ac (Aa Ac (Aa Ac (Aa Ac (Aa (Bd Ce Ac) (Aa (Bd Ce Ac) (Aa (Bd Ce Ac) Ab)))))))) (Ah Dc (Ah Cw (Ae 1) Ac) Ac) (fun _ _=>rfl)))
  (Ad (Ak 5 Cg.nd (Af Z hr (Aa (Du Vp (Ea (ts:=["_law_k"]) (fs:=[(8,"_law_found")]) rfl (Dl.of (sc:=Av Ib) (N:=["_law_paper","_law_cell","_law_drawn","_law_far","_law_much","_law_slope","_law_first_one","_law_second_one","_law_found","_law_left","_law_by","_law_more","_law_last"]) rfl rfl (by decide+kernel)) (Ew rfl Y (Aa (Ba Az rfl z_len PySem.boot_len (Aa (Ae 8) Ab)) Ab)) (fun _ _ _=>(Aq 0 (show Nodup (["_law_k","_law_found"]:List Str)by decide+kernel))) (fun _ _ _=>Dj) (fun _ _ _=>(Ah Cr (Ae 0) (Aw (Acw K) (Ae 1) (Ae 0) (fun _ _=>rfl))))) (El Ac) Ek) Ab)))
  (Ad (Ak 6 Cg.nd (Af O hr (Aa (Af I hr (Aa (Ae 6) (Aa (Ae 3) Ab))) (Aa (Af J hr (Aa (Ae 2) (Aa (Ae 5) Ab))) Ab))))
  (Ad (Ak 7 Cg.nd (Af O hr (Aa (Af I hr (Aa (Ae 7) (Aa (Ae 3) Ab))) (Aa (Af I hr (Aa (Af J hr (Aa (Ae 2) (Aa (Ae 8) Ab))) (Aa (Bd Ce Ac) Ab))) Ab))))
  (Ag (Aj (Al (Aa (Ae 8) (Aa (Ae 9) (Aa (Ah Cr (Ae 10) (Ae 4)) (Aa (Af I hr (Aa (Ae 11) (Aa (Ae 4) Ab))) (Aa (Ae 6) (Aa (Ae 7) (Aa (Ah Cr (Ae 12) (Ae 3)) Ab))))))))))))))))),?_⟩
 done
 cases hz with
 | @mk z vf vu vw va vb f u w a b a6 la h hf hu hc hw ha hb he ok=>
 refine⟨z,_,rfl,h,rfl,vf,_,rfl,vu,_,rfl,_,_,rfl,vw,_,rfl,va,_,rfl,vb,_,rfl,_,_,rfl,rfl,?_⟩
 try done
 refine⟨⟨by decide,by decide⟩,Mf (by decide) (by decide) fun vm H1 m s1 im=> ?_⟩
 try done
 refine⟨by decide,?_⟩
 (intro q1 a0;generalize a1:upd _ q1 _=ae;obtain⟨a2,a7⟩:=nw a0 a1;clear a1 a0)
 refine⟨by decide,Acd (.of a7) fun t t0 z3=> ?_⟩
 try done
 refine⟨by decide,?_⟩
 (intro q2 a3;generalize a4:upd _ q2 _=af;obtain⟨a5,a8⟩:=nw a3 a4;clear a4 a3)
 refine⟨⟨by decide,by decide⟩,by decide,Acd (.of a8) fun r r0 r3=> ?_⟩
 try done
 have t1:=(s1.trans a2).trans a5
 obtain⟨⟨df,rfl,ag⟩,tf,_⟩:=id hf
 have a9:Po K _ (.ref df) f 13 50000:=hf.weak (by decide) (by decide)
 refine Zx (a9.mono t1) (by decide) fun vs H2 s2 i2=> ?_
 try done
 have t2:=t1.trans s2
 refine Gj ha t2 z3 (by decide) (by decide) fun v3 H3 s3 i3=> ?_
 try done
 have t3:=t2.trans s3
 have m3:=(a2.trans a5).trans (s2.trans s3)
 refine Fy im m3 i2 s3 (by decide) (by decide) (by decide) fun v4 H4 s4 i4=> ?_
 try done
 have t4:=t3.trans s4
 refine Ul i3 s4 i4 (Same.refl _) (by decide) (by decide) fun v5 H5 s5 i5=> ?_
 try done
 have t5:=t4.trans s5
 refine Gj hb t5 z3 (by decide) (by decide) fun v6 H6 s6 i6=> ?_
 try done
 have t6:=t5.trans s6
 refine Fy im (m3.trans (s4.trans (s5.trans s6))) hf t6 (by decide) (by decide) (by decide) fun v7 H7 s7 i7=> ?_
 try done
 have t7:=t6.trans s7
 refine Gj (m:=1) i7 (Same.refl _) (by unfold Sz;decide) (by decide) (by decide) fun v8 H8 s8 i8=> ?_
 try done
 have t8:=t7.trans s8
 refine Ul i6 (s7.trans s8) i8 (Same.refl _) (by decide) (by decide) fun v9 H9 s9 i9=> ?_
 try done
 have t9:=t8.trans s9
 refine⟨hc.mulOk r3 (by decide),Gj hw t9 r3 (by decide) (by omega) fun aa Ha sa ia=> ?_⟩
 try done
 have ab:=t9.trans sa
 refine⟨he.mulOk z3 (by decide),by decide,fun z' ac=> ?_⟩
 have sz:=Same.upd ac (.tup [V.ref df,vu,V.int (a6*r),aa,v5,v9,V.int (la*t)])
 have tz:=ab.trans sz
 refine k _ _ tz (.mk (.of Ao) ((hf.mono tz).weak (by decide) (by decide)) ((hu.mono tz).weak (by decide) (by decide)) ((hc.mul r3).mono (by decide)) (ia.mono sz) ((i5.mono (((s6.trans s7).trans (s8.trans s9)).trans (sa.trans sz))).weak (by decide) (by decide)) ((i9.mono (sa.trans sz)).weak (by decide) (by decide)) ((he.mul z3).mono (by decide)) ?_)
 exact Ajh (P:=⟨p,tp⟩) (F:=⟨f,tf⟩) (U:=⟨u,hu.2.1⟩) (W:=⟨w,hw.2.1⟩) (A:=⟨a,ha.2.1⟩) (B:=⟨b,hb.2.1⟩) ⟨m,im.2.1⟩ ok t0 r0
theorem Ago {H:Hp}{N:Nat->Nat}{z:V}{d:Option (List T3)}{p q:List Int} (h:Ppr K H 6 N z d) (e:srB p q d=true):∃(I:Addr) (J:V) (r:List V) (g u v a b:List Int) (c:Int),z= .ref I/\SqT K H I (J::r)/\Po K H J g 100 (N 0)/\Jv p q g u v a b c:=by
 cases h with
 | @tup I ts h l al=>
   obtain⟨g,u,v,a,b,c,rfl⟩:=six l
   rw [Qh,and_eq_true,and_eq_true,decide_eq_true_eq]at e
   obtain⟨⟨M,_⟩,O⟩:=e
   simp only [all_cons,all_nil,id_eq,and_eq_true,and_true]at M
   exact⟨I,g.1,_,_,_,_,_,_,_,rfl,h,(al 0 g rfl).pol M.1,O⟩
 | _=>cases e
theorem Afm {H:Hp}{N:Nat->Nat}{z:V}{d:Option (List T3)}{p:List Int} (h:Ppr K H 7 N z d) (e:frB p d=true):∃(I:Addr) (M:V) (r:List V) (f u w a b:List Int) (c e:Int),z= .ref I/\SqT K H I (M::r)/\Po K H M f 100 (N 0)/\Tr u/\Tr w/\Tr a/\Tr b/\p≠ []/\G8 p f u w a b c e:=by
 cases h with
 | @tup I ts h l al=>
   obtain⟨f,u,c,w,a,b,e',rfl⟩:=seven l
   rw [Zd,and_eq_true,and_eq_true,and_eq_true,and_eq_true,decide_eq_true_eq]at e
   obtain⟨S,O,_,_,U⟩:=e
   simp only [all_cons,all_nil,id_eq,and_eq_true,and_true]at O
   obtain⟨W,Y,J,Z,pb⟩:=O
   exact⟨I,f.1,_,_,_,_,_,_,_,_,rfl,h,(al 0 f rfl).pol W,((al 1 u rfl).pol Y).2.1,((al 3 w rfl).pol J).2.1,((al 4 a rfl).pol Z).2.1,((al 5 b rfl).pol pb).2.1,by simpa using S,U⟩
 | _=>cases e
theorem Jv.dv {p q g u v a b:List Int}{c:Int} (h:Jv p q g u v a b c):Dv g p/\Dv g q/\∀d,Dv d p->Dv d q->Dv d g:=by
 obtain⟨z,_,I,J,M⟩:=h
 refine⟨⟨1,u,by decide,fun i=>by rw [<-I,Dz];omega⟩,⟨1,v,by decide,fun i=>by rw [<-J,Dz];omega⟩,fun d h1 h2=>Dv.comb h1 h2 (k:=c) z (a:=a) (b:=b) fun i=> ?_⟩
 have:=congrArg (co · i) M
 simp only [Ma,Dz,Jp]at this
 rw [this,Int.mul_comm]
structure Drn (K:Frag) (H:Hp) (a:Addr) (ds:List (V × List Int)):Prop where
 it:SqL K H a (ds.map (·.1))
 al:∀e∈ds,Po K H e.1 e.2 13 300
theorem Drn.mono {H H':Hp}{a:Addr}{ds:List (V × List Int)} (h:Drn K H a ds) (s:Same H H'):Drn K H' a ds:=⟨s.seq h.it,fun e z=>(h.al e z).mono s⟩
noncomputable def Sw (K:Frag):Sp:=fun vs H Q _=>∃(x y z:V) (a:Addr) (p q:List Int) (d:Option (List T3)) (N:Nat->Nat) (ds:List (V × List Int)),vs=[x,y,z,.ref a]/\Po K H x p 13 300/\Po K H y q 13 300/\Ppr K H 6 N z d/\srB p q d=true/\N 0<=400000/\Drn K H a ds/\∀H',Same H H'->Q (.bl true) H'
theorem X5 {f:Addr}{fd:FuncData} (F:Df K mg "_law_common" Pb ["_law_one","_law_other","_law_paper","_law_drawn"] f fd)   (J:Cal P w K mg base 37 "plain" ["one"] (G6 K)) (I:Cal P w K mg base 36 "_law_divides" ["_law_one","_law_other"] (Ji K)):Cal P w K mg base 38 "_law_common" ["_law_one","_law_other","_law_paper","_law_drawn"] (Sw K):=by
 refine F.cal (F.fn.ok Nk (fun vs H Q E h=> ?_) (fun a7 A outer s H vs Q E O h=> ?_))
 . obtain⟨x,y,z,a,_,_,_,_,_,rfl,_⟩:=h
   rfl
 obtain⟨x,y,z,a,p,q,d,N,ds,rfl,hx,hy,hz,hs,hN,dn,k⟩:=h
 obtain⟨a0,vg,r,g,u,v,pa,pb,c,rfl,ht,S,ok⟩:=Ago hz hs
 obtain⟨d1,d2,d3⟩:=ok.dv
 refine Ax ⟨_,(Ad (Ak 4 Nk.nd (Aw Bx (Ae 2) Ac (fun _ _=>rfl)))
  (Ad (Ay (Cj (Bw (Am (Gz O.units) (Ae 4) (Af J O (Aa (Ae 4) Ab)) (Bb _)) (Bw (Bt (Bo (Af I O (Aa (Ae 4) (Aa (Ae 0) Ab))))) (Dw (Bt (Bo (Af I O (Aa (Ae 4) (Aa (Ae 1) Ab))))))))) (Ag (Aj Br)) Ar)
  (Ad (Dp PassesOwn.never rfl (Hg (Ae 3)) (Aq 5 Nk.nd) (Ag (Ay (Cj (Eo (Am (Gz O.units) (Ae 5) (Al Ab) (Bb _)) (Eo (Bo (Af I O (Aa (Ae 5) (Aa (Ae 0) Ab)))) (Eo (Bo (Af I O (Aa (Ae 5) (Aa (Ae 1) Ab)))) (Eu (Bt (Bo (Af I O (Aa (Ae 5) (Aa (Ae 4) Ab)))))))))) (Ag (Aj Br)) Ar)))
  (Ag (Aj Br))))),?_⟩
 done
 refine En ht (Bk (j:=0) rfl) ?_
 try done
 refine Ku S (Same.refl _) (by decide) hN fun v1 H1 s1 i1=> ?_
 refine T6 S s1 i1 (Same.refl _) ⟨_,rfl,?_⟩
 rw [decide_eq_true ok.2.1.symm,if_neg (by decide)]
 refine W9 S s1 hx s1 (by decide) (by decide) hN (by decide) fun b H2 s2 hb=>⟨_,rfl,?_⟩
 rw [hb.mpr d1,if_neg (by decide)]
 have t2:=s1.trans s2
 refine W9 S t2 hy t2 (by decide) (by decide) hN (by decide) fun b' H3 s3 a1=>⟨_,rfl,?_⟩
 rw [a1.mpr d2,if_neg (by decide)]
 have t3:=t2.trans s3
 refine⟨⟨_,(dn.mono t3).it⟩,Uy (es:=ds) (inj:=fun e=>e.1) (fun _ M H'=>∃o,M=[some x,some y,some (.ref a0),some (.ref a),some vg,o]/\Same H H') ⟨_,rfl,t3⟩ ?_ ?_ ?_⟩
 . rintro a2 M H' ⟨o,rfl,s'⟩
   exact Te (dn.mono s').it
 . rintro a2 e a6 M H4 he ⟨o,rfl,s4⟩
   have U:=dn.al e (by rw [he];simp)
   done
   refine⟨by decide,?_⟩
   (intro q0 W;generalize Y:upd _ q0 _=a8;obtain⟨a3,a4⟩:=nw W Y;clear Y W)
   have Z:=s4.trans a3
   obtain⟨⟨de,ee,a5⟩,_⟩:=id U
   rw [ee]
   refine Bu (ms:=[]) (Z.tup a5) (.of a4) ⟨_,rfl,?_⟩
   rw [ee]at U
   by_cases e0:e.2=[]
   . rw [decide_eq_true e0]
     exact⟨_,rfl,Z⟩
   rw [decide_eq_false e0,if_pos (by decide)]
   refine W9 U Z hx Z (by decide) (by decide) (by decide) (by decide) fun b1 H6 s6 h1=>⟨_,rfl,?_⟩
   have t6:=Z.trans s6
   cases b1 with
   | false=>exact⟨_,rfl,t6⟩
   | true=>
   rw [if_pos rfl]
   refine W9 U t6 hy t6 (by decide) (by decide) (by decide) (by decide) fun b2 H7 s7 h2=>⟨_,rfl,?_⟩
   have t7:=t6.trans s7
   cases b2 with
   | false=>exact⟨_,rfl,t7⟩
   | true=>
   rw [if_pos rfl]
   refine W9 U t7 S t7 (by decide) (by decide) (by decide) hN fun b3 H8 s8 h3=>⟨_,rfl,?_⟩
   rw [h3.mpr (d3 _ (h1.mp rfl) (h2.mp rfl))]
   exact⟨_,rfl,t7.trans s8⟩
 . rintro M H' ⟨o,rfl,s'⟩
   done
   exact k _ s'
theorem hv0 {t b:Int} (J:0<b) (p:List Int):hv p t b=0↔ev p ((t:Rat)/(b:Rat))=0:=by
 have I:(b:Rat)≠0:=fun z=>by
  have:b=0:=by exact_mod_cast z
  omega
 have h:=Ali ((t:Rat)/b) t b (by grind) p
 have M:=Yl I p.length
 constructor
 . intro z
   rw [z]at h
   grind
 . intro z
   rw [z]at h
   have:(hv p t b:Rat)=0:=by grind
   exact_mod_cast this
theorem Ak8 (x:Rat) (f:List Int):∀m:Nat,ev (pw f m) x=ev f x^m
 | 0=>by rw [Rat.pow_zero];simp [pw,ev,Rat.add_zero]
 | m+1=>by rw [pw,Ak9,Ak8 x f m,Rat.pow_succ,Rat.mul_comm]
theorem Aol (x:Rat) (p:List Int) (c:Int):ev (ng p c) x=c*ev p x:=by
 rw [<-Uw]
 exact Uv x _ _ fun i=>by rw [Jp,Ga,Int.mul_comm]
theorem G8.zero {p f u w a b:List Int}{c e:Int} (h:G8 p f u w a b c e) {t d:Int} (I:0<d):hv p t d=0↔hv f t d=0:=by
 obtain⟨M,_,_,O,S,_⟩:=h
 rw [hv0 I,hv0 I]
 generalize (t:Rat)/(d:Rat)=x
 have h1:=congrArg (ev · x) O
 have h2:=congrArg (ev · x) S
 simp only [Ak9,Aol,Ak8]at h1 h2
 constructor
 . intro z
   rw [z,Rat.mul_zero]at h2
   by_cases J:ev f x=0
   . exact J
   . have U:(c:Rat)≠0:=fun z=>M (by exact_mod_cast z)
     have:=Yl J (p.length-1)
     grind
 . intro z
   rw [<-h1,z,Rat.mul_zero]
theorem G8.sqf {p f u w a b:List Int}{c e:Int} (h:G8 p f u w a b c e) (J:Tr f) (z:Tr a) (tb:Tr b):Sqf ⟨f,J⟩:=by
 obtain⟨_,I,_,_,_,M⟩:=h
 exact⟨⟨a,z⟩,⟨b,tb⟩,e,I,K1 fun i=>congrArg (co · i) (M.trans (Wa I).symm)⟩
theorem G8.fac {p f u w a b:List Int}{c e:Int}{n:Nat} (h:G8 p f u w a b c e) (tp:Tr p) (z:p≠ []) (M:Tr u) (O:Tr f) (U:p.length<=13) (W:∀i,Sz n (co p i)):f.length<=p.length/\f≠ []/\∀i,Sz (n+141) (co f i):=by
 obtain⟨_,_,_,I,_,_⟩:=h
 obtain⟨J,Y⟩:=Aet M O z I
 refine⟨J,Y,fun i=> ?_⟩
 have:=Adm (p:=p) (T:=f) (S:=u) (n:=n) (fun i=>by rw [<-I,Dz]) ⟨p.length-1,tp.lead z⟩ (fun i=>le_of_lt (W i)) U J i
 exact lt_of_le_of_lt this (pow_lt_pow_right (by decide) (by omega))
theorem G8.dv {p f u w a b:List Int}{c e:Int} (h:G8 p f u w a b c e):Dv f p/\Dv p (pw f (p.length-1)):=by
 obtain⟨z,_,_,I,J,_⟩:=h
 refine⟨⟨1,u,by decide,fun i=>by rw [<-I,Dz];omega⟩,⟨c,w,z,fun i=> ?_⟩⟩
 have:=congrArg (co · i) J
 simp only [Dz,Jp]at this
 rw [<-this,Int.mul_comm]
structure Pnt (K:Frag) (H:Hp) (a:Addr) (ps:List (Addr × Int × Int)):Prop where
 it:SqL K H a (ps.map fun e=> .ref e.1)
 al:∀e∈ps,SqT K H e.1 [.int e.2.1,.int e.2.2]/\Sz 10 e.2.1/\Sz 10 e.2.2/\0<e.2.2
theorem Pnt.mono {H H':Hp}{a:Addr}{ps:List (Addr × Int × Int)} (h:Pnt K H a ps) (s:Same H H'):Pnt K H' a ps:=⟨s.seq h.it,fun e z=>⟨s.tup (h.al e z).1,(h.al e z).2⟩⟩
noncomputable def W4 (K:Frag):Sp:=fun vs H Q _=>∃(x z:V) (a c:Addr) (p:List Int) (d:Option (List T3)) (N:Nat->Nat) (ds:List (V × List Int)) (ps:List (Addr × Int × Int)),vs=[x,z,.ref a,.ref c]/\Po K H x p 10 300/\Ppr K H 7 N z d/\frB p d=true/\Drn K H a ds/\Pnt K H c ps/\∀H',Same H H'->Q (.bl true) H'
theorem Ade {f:Addr}{fd:FuncData} (F:Df K mg "_law_free" Vj ["_law_one","_law_paper","_law_drawn","_law_points"] f fd) (z_len:mg "len"=none)  (I:Cal P w K mg base 36 "_law_divides" ["_law_one","_law_other"] (Ji K)) (W:Cal P w K mg base 35 "power" ["one","many"] (Oo K)) (Y:Cal P w K mg base 37 "plain" ["one"] (G6 K)) (M:Cal P w K mg base 34 "_law_product" ["_law_one","_law_other"] (Fe K)) (J:Cal P w K mg base 33 "_law_value" ["_law_one","_law_point"] (Uk K)):Cal P w K mg base 38 "_law_free" ["_law_one","_law_paper","_law_drawn","_law_points"] (W4 K):=by
 refine F.cal (F.fn.ok Oh (fun vs H Q E h=> ?_) (fun ag A outer s H vs Q E Z h=> ?_))
 . obtain⟨x,z,a,c,_,_,_,_,_,rfl,_⟩:=h
   rfl
 obtain⟨x,z,a,cp,p,d,N,ds,ps,rfl,hx,hz,hs,dn,pn,k⟩:=h
 obtain⟨a0,vf,r,f,u,w,fa,fb,c,e,rfl,ht,jf,tu,tw,aa,tb,np,ok⟩:=Afm hz hs
 obtain⟨⟨dx,rfl,a2⟩,tp,lp,zp⟩:=id hx
 obtain⟨fl,nf,zf⟩:=ok.fac tp np tu jf.2.1 (by omega) zp
 have S:Po K H vf f 10 441:=⟨jf.1,jf.2.1,by omega,zf⟩
 obtain⟨d1,d2⟩:=ok.dv
 have sq:=ok.sqf S.2.1 aa tb
 clear jf
 have p1:=length_pos_iff.mpr np
 obtain⟨⟨df,rfl,ab⟩,tf,_⟩:=id S
 refine Ax ⟨_,(Ad (Ak 4 Oh.nd (Aw Bx (Ae 1) Ac (fun _ _=>rfl)))
  (Ad (Ay (Cj (Bw (Am (Fl Z.units) (Ae 0) (Al Ab) (Bb _)) (Bw (Am (Fl Z.units) (Ae 4) (Al Ab) (Bb _)) (Bw (Am (Gz Z.units) (Ae 4) (Af Y Z (Aa (Ae 4) Ab)) (Bb _)) (Dw (Bt (Bo (Af I Z (Aa (Ae 4) (Aa (Ae 0) Ab)))))))))) (Ag (Aj Br)) Ar)
  (Ad (Dp PassesOwn.never rfl (Hg (Ae 2)) (Aq 5 Oh.nd) (Ag (Ay (Cj (Eo (Am R3 (Ba Az rfl z_len PySem.boot_len (Aa (Ae 5) Ab)) Ac (Bb _)) (Eu (Bo (Af I Z (Aa (Af M Z (Aa (Ae 5) (Aa (Ae 5) Ab))) (Aa (Ae 4) Ab))))))) (Ag (Aj Br)) Ar)))
  (Ad (Dp PassesOwn.never rfl (Hg (Ae 3)) (Aq 6 Oh.nd) (Ag (Ay (Am Lf (Cv Hj (Af J Z (Aa (Ae 0) (Aa (Ae 6) Ab))) Ac (Bb _)) (Cv Hj (Af J Z (Aa (Ae 4) (Aa (Ae 6) Ab))) Ac (Bb _)) (Bb _)) (Ag (Aj Br)) Ar)))
  (Ag (Aj (Af I Z (Aa (Ae 0) (Aa (Af W Z (Aa (Ae 4) (Aa (Ah Em (Ba Az rfl z_len PySem.boot_len (Aa (Ae 0) Ab)) Ac) Ab))) Ab))))))))),?_⟩
 done
 refine En ht (Bk (j:=0) rfl) ?_
 try done
 refine⟨by decide,?_⟩
 (intro q0 a3;generalize a4:upd _ q0 _=ah;obtain⟨a5,ac⟩:=nw a3 a4;clear a4 a3)
 refine Bu (ms:=[]) (a5.tup a2) (.of ac) ⟨_,rfl,?_⟩
 rw [decide_eq_false np,if_neg (by decide)]
 refine⟨by decide,?_⟩
 (intro q1 a6;generalize a7:upd _ q1 _=ai;obtain⟨ad,ae⟩:=nw a6 a7;clear a7 a6)
 have s1:=a5.trans ad
 refine Bu (ms:=[]) (s1.tup ab) (.of ae) ⟨_,rfl,?_⟩
 rw [decide_eq_false nf,if_neg (by decide)]
 refine Ku S s1 (by decide) (by decide) fun v2 H2 s2 i2=> ?_
 have t2:=s1.trans s2
 refine T6 S t2 i2 (Same.refl _) ⟨_,rfl,?_⟩
 rw [decide_eq_true ok.2.2.1.symm,if_neg (by decide)]
 refine W9 S t2 hx t2 (by decide) (by decide) (by decide) (by decide) fun b H3 s3 hb=>⟨_,rfl,?_⟩
 rw [hb.mpr d1,if_neg (by decide)]
 have t3:=t2.trans s3
 refine⟨⟨_,(dn.mono t3).it⟩,Uy (es:=ds) (inj:=fun e=>e.1) (fun _ O H'=>∃o,O=[some (.ref dx),some (.ref a0),some (.ref a),some (.ref cp),some (.ref df),o,none]/\Same H H') ⟨_,rfl,t3⟩ ?_ ?_ ?_⟩
 . rintro a1 O H' ⟨o,rfl,s'⟩
   exact Te (dn.mono s').it
 . rintro a1 e a8 O H4 he ⟨o,rfl,s4⟩
   have ie:=dn.al e (by rw [he];simp)
   done
   obtain⟨⟨de,ee,af⟩,te,_⟩:=id ie
   rw [ee]
   refine⟨de,_,rfl,.inr (s4.tup af),?_⟩
   rw [length_map]
   rw [ee]at ie
   by_cases l1:1<e.2.length
   . rw [if_pos (by omega)]
     refine Fy ie s4 ie s4 (by decide) (by decide) (by decide) fun v5 H5 U i5=> ?_
     try done
     have t5:=s4.trans U
     refine W9 i5 (Same.refl _) S t5 (by decide) (by decide) (by decide) (by decide) fun b H6 s6 hb=>⟨_,rfl,?_⟩
     have bf:b=false:=eq_false_iff.mpr fun z=>by
      have:=sq.sq (d:=⟨e.2,te⟩) (Qj.mpr (hb.mp z))
      have:e.2.length<=1:=this
      omega
     rw [bf]
     exact⟨_,rfl,t5.trans s6⟩
   . rw [if_neg (by omega)]
     exact⟨_,rfl,s4⟩
 rintro O H4 ⟨o,rfl,s4⟩
 done
 refine⟨⟨_,(pn.mono s4).it⟩,Uy (es:=ps) (inj:=fun e=> .ref e.1) (fun _ O H'=>∃o',O=[some (.ref dx),some (.ref a0),some (.ref a),some (.ref cp),some (.ref df),o,o']/\Same H H') ⟨_,rfl,s4⟩ ?_ ?_ ?_⟩
 . rintro a1 O H' ⟨o',rfl,s'⟩
   exact Te (pn.mono s').it
 . rintro a1 e a8 O H5 he ⟨o',rfl,U⟩
   obtain⟨a9,z1,z2,pz⟩:=pn.al e (by rw [he];simp)
   done
   refine⟨_,e.1,p,e.2.1,e.2.2,300,rfl,(hx.mono U).weak (by decide) (by decide),U.tup a9,by decide,z1,z2,?_⟩
   try done
   refine⟨_,e.1,f,e.2.1,e.2.2,441,rfl,(S.mono U).weak (by decide) (by decide),U.tup a9,by decide,z1,z2,?_⟩
   try done
   rw [if_pos (decide_eq_decide.mpr (ok.zero (t:=e.2.1) pz))]
   exact⟨_,rfl,U⟩
 rintro O H5 ⟨o',rfl,U⟩
 done
 refine⟨dx,_,rfl,.inr (U.tup a2),?_⟩
 rw [length_map]
 refine⟨.ref df,p.length-1,9,_,f,10,441,rfl,.inl (by omega),S.mono U,by omega,by decide,by decide,by decide,fun v6 H6 s6 i6=> ?_⟩
 have m1:(p.length-1)*10<=9*10:=mul_le_mul_right _ (by omega)
 have m2:(p.length-1)*(441+10)<=9*(441+10):=mul_le_mul_right _ (by omega)
 refine W9 hx (U.trans s6) i6 (Same.refl _) (by decide) (by omega) (by decide) (by omega) fun b H7 s7 hb=> ?_
 rw [hb.mpr d2]
 exact k _ ((U.trans s6).trans s7)
theorem Aj5 {ts:List T3}{j:Nat}{n:T3}{S B z I:Nat}{H:Hp} (al:∀i t,ts[i]? =some t->Tg K H 100 (NF S B i) t.1 t.2.1 t.2.2) (J:Tg K H 100 (NF z I j) n.1 n.2.1 n.2.2) (M:S<=z) (O:B<=I):∀i t,(ts.set j n)[i]? =some t->Tg K H 100 (NF z I i) t.1 t.2.1 t.2.2:=by
 intro i t e
 rw [List.getElem?_set]at e
 split at e
 . rename_i h
   subst h
   split at e
   . cases e
     exact J
   . cases e
 . exact(al i t e).weak (le_refl _) (by unfold NF;split<;>assumption)
theorem Ahf {xs:List V}{j:Nat} (h:j<=xs.length):K6 xs none (some (j:Nat))=xs.take j:=by
 unfold K6
 rw [HT.Kd,HT.O6,drop_zero,sub_zero,min_eq_left h]
theorem Ur {xs:List V}{j:Nat} (h:j<=xs.length):K6 xs (some (j:Nat)) none=xs.drop j:=by
 unfold K6
 rw [HT.Kd,HT.O6,min_eq_left h,take_of_length_le (by rw [length_drop];exact le_refl _)]
theorem Aiq {xs:List V}{j:Nat}{n:V} (h:j<xs.length):K6 xs none (some (j:Nat))++ [n]++K6 xs (some ((j:Int)+1)) none=xs.set j n:=by
 rw [Ahf (le_of_lt h),show((j:Int)+1)=((j+1:Nat):Int)from rfl,Ur h,List.set_eq_take_append_cons_drop,if_pos h,append_assoc]
 rfl
theorem Akh {H:Hp}{Q:VK}{q I J M:Addr}{v O:V}{xs:List V}{d:Option (List Int)}{i:Option Int}{p:List Int}{N:Nat}{c e:Int} (h:SqL K H q [v,.int 0,.bl true,.non,.ref I,.ref J,.str (Str.ofString "x"),O,.int e,.ref M,.int (-1)]) (hv:Tg K H 99 N v d i) (S:H I=some (.tup [])) (h1:H J=some (.tup [.int 1])) (U:Po K H O p 5 50) (W:Sz 50 e) (h2:H M=some (.lst xs)) (k:∀v d i,Tg K H 100 (N+51) v d i->Q v H):Ah2 K (.ref q) (.int (c%11)) H Q:=by
 rcases(by omega:c%11=0\/c%11=1\/c%11=2\/c%11=3\/c%11=4\/c%11=5\/c%11=6\/c%11=7\/c%11=8\/c%11=9\/c%11=10)with z | z | z | z | z | z | z | z | z | z | z<;>rw [z]
 . exact Fi h (Bk (j:=0) rfl) (k _ _ _ (hv.weak (by decide) (by omega)))
 . exact Fi h (Bk (j:=1) rfl) (k _ _ _ (.int 0 (two_pow_pos _)))
 . exact Fi h (Bk (j:=2) rfl) (k _ _ _ (.bl _))
 . exact Fi h (Bk (j:=3) rfl) (k _ _ _ .non)
 . exact Fi h (Bk (j:=4) rfl) (k _ _ _ ((Lg (l:=1) (n:=1) S (by decide)).tg.weak (by decide) (by omega)))
 . exact Fi h (Bk (j:=5) rfl) (k _ _ _ ((Oa (l:=1) (n:=1) h1 (by decide) (by decide)).tg.weak (by decide) (by omega)))
 . exact Fi h (Bk (j:=6) rfl) (k _ _ _ (.str _))
 . exact Fi h (Bk (j:=7) rfl) (k _ _ _ (U.tg.weak (by decide) (by omega)))
 . exact Fi h (Bk (j:=8) rfl) (k _ _ _ (.int _ (W.mono (by omega))))
 . exact Fi h (Bk (j:=9) rfl) (k _ _ _ (.lst h2))
 . exact Fi h (Bk (j:=10) rfl) (k _ _ _ (.int (-1) ((show Sz 1 (-1)by unfold Sz;decide).mono (by omega))))
theorem Aev {H:Hp}{v:V}{d:Option (List Int)}{i:Option Int}{L N:Nat}{X Y:Prop} (hv:Tg K H L N v d i) (I:Y) (J:∀a ns,v= .ref a->SqT K H a (ns.map V.int)->ns.length<=L->(∀i,Sz N (co ns i))->X):∃x t T b,[v,V.ty "tuple"]=[x,V.ty T]/\TyA K H x t/\kitOne K t (.type T)=some b/\if b=true then X else Y:=by
 obtain⟨T,U,Z,M,O,_,_,S,_,e⟩:=hv.ty
 refine⟨v,_,_,M,rfl,O,S,?_⟩
 cases hv with
 | nums h l z=>rw [e];exact J _ _ rfl h l z
 | _=>rw [e];exact I
theorem Aik {ns:List Int}{N:Nat}{d:Int} (h:Sz N d):Sz (N+1) (d+1):=by
 have:1<=2^N:=two_pow_pos _
 unfold Sz at*
 rw [Nat.pow_succ]
 omega
theorem Ak1 {xs:List V}{x:V}:K6 (xs++ [x]) none (some (-1))=xs:=by
 have e:HT.sIx (xs++ [x]).length (xs++ [x]).length (some (-1))=xs.length:=by
  show(if(-1:Int)<0 then(-1+(((xs++ [x]).length:Nat):Int)).toNat else min (-1:Int).toNat (xs++ [x]).length)=_
  rw [if_pos (by decide),length_append,length_singleton]
  omega
 unfold K6
 rw [e,HT.Kd,drop_zero,sub_zero,List.take_left]
noncomputable def Sy (K:Frag):Sp:=fun vs H Q _=>∃(z:Addr) (ts:List T3) (c:Int) (m S B:Nat),vs=[.ref z,.int c]/\PT K H m S B z ts/\6<=m/\m<=7/\S<=1000000/\B<=70000000/\∀z' H' d,Same H H'->Ppr K H' m (NF (S+51) (B+51)) z' d->Q z' H'
theorem Yb {f:Addr}{fd:FuncData} (F:Df K mg "_law_turned" Pj ["_law_paper","_law_cell"] f fd) (z_len:mg "len"=none) (I:mg "isinstance"=none) (S:mg "tuple"=none) (z_list:mg "list"=none)  (a7:Cal P w K mg base 35 "_law_poly" ["_law_cell","_law_most"] (Iv K)) (Z:Cal P w K mg base 34 "_law_scaled" ["_law_one","_law_by"] (Fj K)) (a9:Cal P w K mg base 33 "_law_cut" ["_law_weights"] (Hu K)):Cal P w K mg base 36 "_law_turned" ["_law_paper","_law_cell"] (Sy K):=by
 refine F.cal (F.fn.ok Er (fun vs H Q E h=> ?_) (fun bn A outer s H vs Q E hr h=> ?_))
 . obtain⟨z,_,c,_,_,_,rfl,_⟩:=h
   rfl
 obtain⟨z,ts,c,m,W,B,rfl,⟨hz,lm,al⟩,m6,m7,hS,hB,k⟩:=h
 refine Ax ⟨_,(Ad (Ak 2 Er.nd (Ah Dc (Ae 1) (Ba Az rfl z_len PySem.boot_len (Aa (Ae 0) Ab))))
  (Ad (Ak 3 Er.nd (Ah Cw (Ae 1) Ac))
  (Ad (Ak 4 Er.nd (Aw Bx (Ae 0) (Ae 2) (fun _ _=>rfl)))
  (Ad (Ak 5 Er.nd (Cd (Aa (Ae 4) (Aa Ac (Aa Br (Aa K4 (Aa (Al Ab) (Aa (Al (Aa Ac Ab)) (Aa K5 (Aa (Af a7 hr (Aa (Ah Cw (Ae 3) Ac) (Aa Ac Ab))) (Aa (Ah Em (Ah Dc (Ah Cw (Ae 3) Ac) Ac) Ac) (Aa (Cd (Aa Ac Ab)) (Aa (Bd Ce Ac) Ab)))))))))))))
  (Ad (Ak 6 Er.nd (Aw Ec (Ae 5) (Ah Dc (Ae 3) Ac) (fun _ _=>rfl)))
  (Ad (Ay (Cj (Eo (Bo (Ba Gk rfl I boot_isinstance (Aa (Ae 4) (Aa (Ej (v:= .ty "tuple") rfl S boot_tuple rfl) Ab)))) (Eu (Am Hj (Ah Dc (Ae 3) Ac) Ac (Bb _))))) (Ag (Ak 6 Er.nd (Ah Jq (Ae 4) (Al (Aa Ac Ab))))) Ar)
  (Ad (Ay (Cj (Eo (Bo (Ba Gk rfl I boot_isinstance (Aa (Ae 4) (Aa (Ej (v:= .ty "tuple") rfl S boot_tuple rfl) Ab)))) (Eu (Am Hj (Ah Dc (Ae 3) Ac) Ac (Bb _))))) (Ag (Ak 6 Er.nd (Af Z hr (Aa (Ae 4) (Aa (Bd Ce Ac) Ab))))) Ar)
  (Ad (Ay (Cj (Eo (Bo (Ba Gk rfl I boot_isinstance (Aa (Ae 4) (Aa (Ej (v:= .ty "tuple") rfl S boot_tuple rfl) Ab)))) (Eo (Am (Gz hr.units) (Ae 4) (Al Ab) (Bb _)) (Eu (Am Hj (Ah Dc (Ae 3) Ac) Ac (Bb _)))))) (Ag (Ak 6 Er.nd (Af a9 hr (Aa (Ah Jq (Du Iu (Ae 4) Ek (El (Bd Ce Ac))) (Al (Aa (Ah Eh (Aw Bx (Ae 4) (Bd Ce Ac) (fun _ _=>rfl)) Ac) Ab))) Ab)))) Ar)
  (Ad (Ak 7 Er.nd (Ah Jq (Ah Jq (Du Iu (Ae 0) Ek (El (Ae 2))) (Al (Aa (Ae 6) Ab))) (Du Iu (Ae 0) (El (Ah Eh (Ae 2) Ac)) Ek)))
  (Ad (Ak 8 Er.nd (Ah Jq (Ah Jq (Du Iu (Ae 0) Ek (El Ac)) (Al (Aa (Aw Bx (Ae 0) Ac (fun _ _=>rfl)) (Aa (Aw Bx (Ae 0) Ac (fun _ _=>rfl)) Ab)))) (Du Iu (Ae 0) (El Ac) Ek)))
  (Ag (Aj (Aw Ec (Cd (Aa (Ae 7) (Aa (Ae 7) (Aa (Ae 7) (Aa (Ae 8) (Aa (Ed Fp rfl z_list boot_list (Aa (Ae 0) Ab)) (Aa (Du Iu (Ae 0) (El Ac) Ek) (Aa (Ah Jq (Ae 0) (Al (Aa Ac Ab))) (Aa K4 Ab))))))))) (Ah Dc (Ah Cw (Ae 3) Ac) Ac) (fun _ _=>rfl)))))))))))))),?_⟩
 obtain⟨j,hj,ej⟩:∃j:Nat,j<m/\c%((ts.map (·.1)).length:Int)=j:=by
  rw [length_map,lm]
  have h1:=emod_nonneg c (show(m:Int)≠0 by omega)
  have h2:=emod_lt_of_pos c (show(0:Int)<m by omega)
  exact⟨(c%m).toNat,by omega,by omega⟩
 obtain⟨te,he⟩:∃t,ts[j]? =some t:=⟨ts[j],getElem?_eq_getElem (by omega)⟩
 have ae:=al j te he
 have hv:(ts.map (·.1))[j]? =some te.1:=by rw [getElem?_map,he];rfl
 refine Bp (fun J H'=>J=[some (.ref z),some (.int c),some (.int (j:Nat)),none,none,none,none,none,none]/\H=H') (fun M Y=> ?_) ?_
 . done
   refine⟨z,_,rfl,.inr hz,?_⟩
   rw [ej]
   exact⟨by rw [length_map];omega,Y _ _ ⟨rfl,rfl⟩⟩
 rintro _ _ ⟨rfl,rfl⟩
 refine Bp (fun J H'=>J=[some (.ref z),some (.int c),some (.int (j:Nat)),some (.int (c/7)),none,none,none,none,none]/\H=H') (fun M Y=> ?_) ?_
 . done
   exact⟨⟨by decide,by decide⟩,Y _ _ ⟨rfl,rfl⟩⟩
 rintro _ _ ⟨rfl,rfl⟩
 generalize c/7=c7
 refine Bp (fun J H'=>J=[some (.ref z),some (.int c),some (.int (j:Nat)),some (.int c7),some te.1,none,none,none,none]/\H=H') (fun M Y=> ?_) ?_
 . done
   exact En hz (Bk hv) (Y _ _ ⟨rfl,rfl⟩)
 rintro _ _ ⟨rfl,rfl⟩
 refine Bp (fun J H'=>∃(q a0 a1 a2:Addr) (vp:V) (p:List Int) (xs:List V),J=[some (.ref z),some (.int c),some (.int (j:Nat)),some (.int c7),some te.1,some (.ref q),none,none,none]/\Same H H'/\H' q=some (.lst [te.1,.int 0,.bl true,.non,.ref a0,.ref a1,.str (Str.ofString "x"),vp,.int (c7/11%9-4),.ref a2,.int (-1)])/\H' a0=some (.tup [])/\H' a1=some (.tup [.int 1])/\Po K H' vp p 5 50/\H' a2=some (.lst xs)) (fun M Y=> ?_) ?_
 . done
   refine⟨by decide,?_⟩
   (intro q1 ai;generalize aj:upd _ q1 _=bo;obtain⟨b9,ba⟩:=nw ai aj;clear aj ai)
   (intro q2 ak;generalize am:upd _ q2 _=bp;obtain⟨an,bb⟩:=nw ak am;clear am ak)
   refine⟨⟨by decide,by decide⟩,Mf (by decide) (by decide) fun vp H3 p s3 ip=> ?_⟩
   try done
   refine⟨⟨by decide,by decide⟩,by decide,?_⟩
   (intro q4 ao;generalize ap:upd _ q4 _=bq;obtain⟨aq,bc⟩:=nw ao ap;clear ap ao)
   refine⟨by decide,?_⟩
   (intro q5 ar;generalize as:upd _ q5 _=br;obtain⟨af,bd⟩:=nw ar as;clear as ar)
   have s5:=(s3.trans aq).trans af
   exact Y _ _ ⟨q5,q1,q2,q4,vp,p,_,rfl,(b9.trans an).trans s5,bd,(an.trans s5) _ _ ba,s5 _ _ bb,ip.mono (aq.trans af),af _ _ bc⟩
 rintro _ H1 ⟨q,a0,a1,a2,vp,p,xs,rfl,s1,hq,h0,h1,ip,h2⟩
 refine Bp (fun J H'=>∃(v:V) (d:Option (List Int)) (i:Option Int),J=[some (.ref z),some (.int c),some (.int (j:Nat)),some (.int c7),some te.1,some (.ref q),some v,none,none]/\H1=H'/\Tg K H1 100 (NF W B j+51) v d i) (fun M Y=> ?_) ?_
 . done
   exact⟨by decide,Akh (.of hq) (ae.mono s1) h0 h1 ip (by unfold Sz;omega) h2 fun v d i hv=>Y _ _ ⟨v,d,i,rfl,rfl,hv⟩⟩
 rintro _ _ ⟨v,d,i,rfl,rfl,U⟩
 refine Bp (fun J H'=>∃(v:V) (d:Option (List Int)) (i:Option Int),J=[some (.ref z),some (.int c),some (.int (j:Nat)),some (.int c7),some te.1,some (.ref q),some v,none,none]/\Same H1 H'/\Tg K H' 100 (NF W B j+51) v d i) (fun M Y=> ?_) ?_
 . done
   refine Aev (ae.mono s1) (Y _ _ ⟨v,d,i,rfl,Same.refl _,U⟩) fun a ns ea ha la za=>⟨by decide,?_⟩
   split
   case isFalse=>exact Y _ _ ⟨v,d,i,rfl,Same.refl _,U⟩
   intro p hp
   have sp:=Same.upd hp (.tup [V.int 0])
   refine⟨a,p,_,_,ea,rfl,sp.tup ha,.of Ao,?_,fun z' H' s' h'=> ?_⟩
   . rw [length_map]
     exact le_trans (show ns.length+1<=200 by omega) (by decide)
   rw [show ns.map V.int++ [V.int 0]=(ns++ [0]).map V.int by rw [map_append];rfl]at h'
   exact Y _ _ ⟨.ref z',some (ns++ [0]),none,rfl,sp.trans s',.nums h' (by rw [length_append];simp;omega) fun i=>by
    rw [Gp]
    split
    . exact two_pow_pos _
    . exact(za i).mono (by omega)⟩
 rintro _ H2 ⟨v,d,i,rfl,s2,U⟩
 refine Bp (fun J H'=>∃(v:V) (d:Option (List Int)) (i:Option Int),J=[some (.ref z),some (.int c),some (.int (j:Nat)),some (.int c7),some te.1,some (.ref q),some v,none,none]/\Same H2 H'/\Tg K H' 100 (NF W B j+51) v d i) (fun M Y=> ?_) ?_
 . done
   refine Aev (ae.mono (s1.trans s2)) (Y _ _ ⟨v,d,i,rfl,Same.refl _,U⟩) fun a ns ea ha la za=>⟨by decide,?_⟩
   split
   case isFalse=>exact Y _ _ ⟨v,d,i,rfl,Same.refl _,U⟩
   rw [ea]
   refine⟨_,-1,ns,99,NF W B j,1,rfl,.nums ha la za,by unfold Sz;decide,by decide,?_,fun z' H' s' i'=> ?_⟩
   . unfold NF
     split<;>omega
   exact Y _ _ ⟨z',_,none,by rw [ea],s',i'.tg.weak (by decide) (by omega)⟩
 rintro _ H3 ⟨v,d,i,rfl,s3,U⟩
 refine Bp (fun J H'=>∃(v:V) (d:Option (List Int)) (i:Option Int),J=[some (.ref z),some (.int c),some (.int (j:Nat)),some (.int c7),some te.1,some (.ref q),some v,none,none]/\Same H3 H'/\Tg K H' 100 (NF W B j+51) v d i) (fun M Y=> ?_) ?_
 . done
   refine Aev (ae.mono ((s1.trans s2).trans s3)) (Y _ _ ⟨v,d,i,rfl,Same.refl _,U⟩) fun a ns ea ha la za=>⟨by decide,?_⟩
   (intro q0 au;generalize av:upd _ q0 _=bt;obtain⟨a3,be⟩:=nw au av;clear av au)
   rw [ea]
   refine Bu (ms:=[]) (a3.tup ha) (.of be) ⟨_,rfl,?_⟩
   by_cases n0:ns=[]
   . rw [decide_eq_true n0]
     exact Y _ _ ⟨v,d,i,by rw [ea],a3,U.mono a3⟩
   rw [decide_eq_false n0,if_pos (by decide)]
   refine⟨by decide,?_⟩
   split
   case isFalse=>exact Y _ _ ⟨v,d,i,by rw [ea],a3,U.mono a3⟩
   obtain⟨a5,l,rfl⟩:∃(i:List Int) (x:Int),ns=i++ [x]:=⟨_,_,(List.dropLast_concat_getLast n0).symm⟩
   have bf:(a5++ [l]).map V.int=a5.map V.int++ [V.int l]:=by rw [map_append];rfl
   rw [bf]at ha
   refine⟨a,_,rfl,a3.tup ha,fun z5 H5 s5 h5=> ?_⟩
   rw [Ak1]at h5
   refine En ((a3.trans s5).tup ha) (Nx _ _) ?_
   try done
   (intro q6 aa;generalize ab:upd _ q6 _=bg;obtain⟨a8,ag⟩:=nw aa ab;clear ab aa)
   refine⟨z5,q6,_,_,rfl,rfl,a8.tup h5,.of ag,?_,fun z7 H7 s7 h7=> ?_⟩
   . rw [length_map]
     rw [length_append,length_singleton]at la
     exact le_trans (show a5.length+1<=200 by omega) (by decide)
   rw [show a5.map V.int++ [V.int (l+1)]=(a5++ [l+1]).map V.int by rw [map_append];rfl]at h7
   have zl:=za a5.length
   rw [Gp,if_pos rfl]at zl
   rw [length_append,length_singleton]at la
   refine Abi (.inr h7) (by rw [length_append,length_singleton];omega) fun z8 H8 s8 h8=>Y _ _ ⟨.ref z8,some (trim (a5++ [l+1])),none,by rw [ea],((a3.trans s5).trans a8).trans (s7.trans s8),.nums h8 (le_trans (Hv _) (by rw [length_append,length_singleton];omega)) fun i=> ?_⟩
   rw [Bl,Gp]
   have zi:=za i
   rw [Gp]at zi
   split
   . exact(Aik (ns:=[]) zl).mono (by omega)
   . rename_i bh
     rw [if_neg bh]at zi
     exact zi.mono (by omega)
 rintro _ H4 ⟨v,d,i,rfl,s4,U⟩
 done
 have aw:=((s1.trans s2).trans s3).trans s4
 have lv:(ts.map (·.1)).length=m:=by rw [length_map,lm]
 have small:∀n:Nat,n<=20->n<=sizeLine:=fun n h=>le_trans h (by decide)
 obtain⟨t0,t1,t2,r,rfl⟩:∃t0 t1 t2 r,ts=t0::t1::t2::r:=by
  match ts,lm with
  | t0::t1::t2::r,_=>exact⟨t0,t1,t2,r,rfl⟩
  | [],h | [_],h | [_,_],h=>simp at h;omega
 refine⟨z,_,rfl,aw.tup hz,fun z5 H5 s5 h5=> ?_⟩
 try done
 (intro q6 aa;generalize ab:upd _ q6 _=bg;obtain⟨a8,ag⟩:=nw aa ab;clear ab aa)
 have c1:=Ka ((t0::t1::t2::r).map (·.1)) none (some (j:Nat))
 refine⟨z5,q6,_,_,rfl,rfl,a8.tup h5,.of ag,small _ (by rw [length_singleton];omega),fun z7 H7 s7 h7=> ?_⟩
 have ax:=((aw.trans s5).trans a8).trans s7
 refine⟨z,_,rfl,ax.tup hz,fun z8 H8 s8 h8=> ?_⟩
 try done
 have c2:=Ka ((t0::t1::t2::r).map (·.1)) (some ((j:Int)+1)) none
 refine⟨z7,z8,_,_,rfl,rfl,s8.tup h7,h8,small _ (by rw [length_append,length_singleton];omega),fun z9 H9 s9 h9=> ?_⟩
 rw [Aiq (by omega)]at h9
 try done
 have ay:=(ax.trans s8).trans s9
 have a6:=ay.tup hz
 refine⟨z,_,rfl,a6,fun y1 G1 u1 g1=> ?_⟩
 rw [show K6 ((t0::t1::t2::r).map (·.1)) none (some 1)=[t0.1]from Ahf (j:=1) (by omega)]at g1
 try done
 refine En (u1.tup a6) (Bk (j:=2) rfl) (En (u1.tup a6) (Bk (j:=1) rfl) ?_)
 (intro y2 az;generalize b0:upd _ y2 _=bu;obtain⟨b1,bi⟩:=nw az b0;clear b0 az)
 refine⟨y1,y2,_,_,rfl,rfl,b1.tup g1,.of bi,small _ (show 3<=20 by decide),fun y3 G3 u3 g3=> ?_⟩
 have v3:=(u1.trans b1).trans u3
 refine⟨z,_,rfl,v3.tup a6,fun y4 G4 u4 g4=> ?_⟩
 rw [show K6 ((t0::t1::t2::r).map (·.1)) (some 3) none=r.map (·.1)from Ur (j:=3) (by omega)]at g4
 have lr:r.length+3=m:=lm
 refine⟨y3,y4,_,_,rfl,rfl,u4.tup g3,g4,small _ (by rw [length_map];simp;omega),fun y5 G5 u5 g5=> ?_⟩
 have v5:=(v3.trans u4).trans u5
 try done
 refine⟨z,_,rfl,.inr (v5.tup a6),?_⟩
 (intro y6 b2;generalize b3:upd _ y6 _=bv;obtain⟨ah,bj⟩:=nw b2 b3;clear b3 b2)
 refine⟨z,_,rfl,(v5.trans ah).tup a6,fun y7 G7 u7 g7=> ?_⟩
 rw [show K6 ((t0::t1::t2::r).map (·.1)) (some 1) none=(t1::t2::r).map (·.1)from Ur (j:=1) (by omega)]at g7
 have v7:=(v5.trans ah).trans u7
 try done
 (intro y8 b4;generalize b5:upd _ y8 _=bw;obtain⟨ac,bm⟩:=nw b4 b5;clear b5 b4)
 refine⟨z,y8,_,_,rfl,rfl,(v7.trans ac).tup a6,.of bm,small _ (by rw [lv,length_singleton];omega),fun y9 G9 u9 g9=> ?_⟩
 try done
 refine⟨by decide,?_⟩
 (intro ya b6;generalize b7:upd _ ya _=b8;obtain⟨ad,a4⟩:=nw b6 b7;clear b7 b6)
 have va:=((v7.trans ac).trans u9).trans ad
 refine⟨⟨by decide,by decide⟩,by decide,?_⟩
 have O:=ay.trans va
 have pf:Ppr K b8 m (NF (W+51) (B+51)) (.ref z9) (some ((t0::t1::t2::r).set j (v,d,i))):=by
  refine .tup (va.tup ?_) (by rw [length_set];exact lm) (Aj5 (fun i t e=>((al i t e).mono O).weak (by decide) (le_refl _)) ?_ (by omega) (by omega))
  . rw [map_set]
    exact h9
  . refine(U.mono ?_).weak (le_refl _) (by unfold NF;split<;>omega)
    exact(s5.trans a8).trans ((s7.trans s8).trans (s9.trans va))
 have pt:Ppr K b8 m (NF (W+51) (B+51)) (.ref y5) (some (t0::t2::t1::r)):=by
  refine .tup ((((ah.trans u7).trans ac).trans (u9.trans ad)).tup g5) (by simp;omega) fun i t e=> ?_
  match i,e with
  | 0,e=>exact((al 0 t e).mono O).weak (by decide) (by unfold NF;simp)
  | 1,e=>exact((al 2 t e).mono O).weak (by decide) (by unfold NF;simp)
  | 2,e=>exact((al 1 t e).mono O).weak (by decide) (by unfold NF;simp)
  | i+3,e=>exact((al (i+3) t e).mono O).weak (by decide) (by unfold NF;split<;>omega)
 generalize c7/121=c9
 rcases(by omega:c9%8=0\/c9%8=1\/c9%8=2\/c9%8=3\/c9%8=4\/c9%8=5\/c9%8=6\/c9%8=7)with e' | e' | e' | e' | e' | e' | e' | e'<;>rw [e']
 . exact Fi (.of a4) (Bk (j:=0) rfl) (k _ _ _ O pf)
 . exact Fi (.of a4) (Bk (j:=1) rfl) (k _ _ _ O pf)
 . exact Fi (.of a4) (Bk (j:=2) rfl) (k _ _ _ O pf)
 . exact Fi (.of a4) (Bk (j:=3) rfl) (k _ _ _ O pt)
 . exact Fi (.of a4) (Bk (j:=4) rfl) (k _ _ none O (.lst (((u7.trans ac).trans (u9.trans ad)) _ _ bj)))
 . exact Fi (.of a4) (Bk (j:=5) rfl) (k _ _ none O (.len (((ac.trans u9).trans ad).tup g7) (by simp;omega)))
 . exact Fi (.of a4) (Bk (j:=6) rfl) (k _ _ none O (.len (ad.tup g9) (by simp;omega)))
 . exact Fi (.of a4) (Bk (j:=7) rfl) (k _ _ none O .non)
theorem P6.pt {H:Hp}{p q:List Int}{L N:Nat}{z:V} (h:P6 K H p q L N z) (I:L<=99):∃a ts,z= .ref a/\PT K H 6 N N a ts/\srB p q (some ts)=true:=by
 cases h with
 | @mk z _ _ _ _ _ _ _ _ _ _ _ h J M hv O S U ok=>
   obtain⟨ts,pt,e⟩:=Aqp h (J.weak I (le_refl _)) (M.weak I (le_refl _)) (hv.weak I (le_refl _)) (O.weak I (le_refl _)) (S.weak I (le_refl _)) U
   exact⟨z,ts,rfl,pt,by rw [e];exact decide_eq_true ok⟩
theorem P7.pt {H:Hp}{p:List Int}{L N M:Nat}{z:V} (h:P7 K H p L N M z) (I:L<=99) (J:p≠ []):∃a ts,z= .ref a/\PT K H 7 N M a ts/\frB p (some ts)=true:=by
 cases h with
 | @mk z _ _ _ _ _ _ _ _ _ _ _ _ h O S U W Y Z he ok=>
   obtain⟨ts,pt,e⟩:=Aqq h (O.weak (by decide) (le_refl _)) (S.weak I (le_refl _)) U (W.weak (by decide) (le_refl _)) (Y.weak I (le_refl _)) (Z.weak I (le_refl _)) he
   exact⟨z,ts,rfl,pt,by rw [e p J];exact decide_eq_true ok⟩
theorem PT.put {H:Hp}{m R B:Nat}{a q:Addr}{ts:List T3}{z zs:List V} (h:PT K H m R B a ts) (I:H q=some (.lst z)):PT K (upd H q (.lst zs)) m R B a ts:=⟨Vt h.h I,h.l,fun i t e=>(h.al i t e).put I⟩
theorem Ad4 {H:Hp}{m R:Nat}{z:Addr}{ts:List T3} (h:SqT K H z (ts.map (·.1))) (l:ts.length=m) (al:∀t∈ts,Tg K H 99 R t.1 t.2.1 t.2.2):PT K H m R R z ts:=⟨h,l,fun i t e=>by
 rw [show NF R R i=R by unfold NF;split<;>rfl]
 exact al t (List.mem_of_getElem? e)⟩
theorem same_none {H H':Hp} (s:Same H H') {q:Addr} (h:H' q=none):H q=none:=by
 cases e:H q with
 | none=>rfl
 | some o=>rw [s _ _ e]at h;cases h
theorem Ao6 {H:Hp}{Q:VK}{l I J M O S:Addr}{c:Int} (h:SqL K H l [.ref I,.ref J,.ref M,.ref O,.ref S]) (k:∀z,z=I\/z=J\/z=M\/z=O\/z=S->Q (.ref z) H):Ah2 K (.ref l) (.int (c%5)) H Q:=by
 rcases(by omega:c%5=0\/c%5=1\/c%5=2\/c%5=3\/c%5=4)with e | e | e | e | e<;>rw [e]
 . exact Fi h (Bk (j:=0) rfl) (k _ (by simp))
 . exact Fi h (Bk (j:=1) rfl) (k _ (by simp))
 . exact Fi h (Bk (j:=2) rfl) (k _ (by simp))
 . exact Fi h (Bk (j:=3) rfl) (k _ (by simp))
 . exact Fi h (Bk (j:=4) rfl) (k _ (by simp))
theorem Aoh {H:Hp}{Q:VK}{l:Addr}{b:Int}{N:Nat} (h:SqL K H l [.int b,.bl true]) (z:Sz N b) (k:∀v i,Tg K H 99 N v none i->Q v H):Ah2 K (.ref l) (.int (if b=1 then 1 else 0)) H Q:=by
 split
 . exact Fi h (Bk (j:=1) rfl) (k _ _ (.bl true))
 . exact Fi h (Bk (j:=0) rfl) (k _ _ (.int b z))
noncomputable def Nr (K:Frag):Sp:=fun vs H Q _=>∃(x y z:V) (c:Int) (p q p' q':List Int),vs=[x,y,z,.int c]/\Po K H x p 10 300/\Po K H y q 10 300/\P6 K H p' q' 20 8000 z/\∀z' H' ts,Same H H'->PT K H' 6 8001 8001 z' ts->Q (.ref z') H'
theorem X6 {f:Addr}{fd:FuncData} (F:Df K mg "_law_forged" Pg ["_law_one","_law_other","_law_told","_law_cell"] f fd) (a1:mg "int"=none)  (I:Cal P w K mg base 34 "_law_scaled" ["_law_one","_law_by"] (Fj K)):Cal P w K mg base 35 "_law_forged" ["_law_one","_law_other","_law_told","_law_cell"] (Nr K):=by
 refine F.cal (F.fn.ok Fx (fun vs H Q E h=> ?_) (fun bp A outer s H vs Q E hr h=> ?_))
 . obtain⟨x,y,z,c,_,_,_,_,rfl,_⟩:=h
   rfl
 obtain⟨x,y,z,c,p,q,p',q',rfl,hx,hy,hz,k⟩:=h
 refine Ax ⟨_,(Ad (Cy (Ae 2) (Dn rfl (Ai (Aq 6 Fx.nd) (Ai (Aq 7 Fx.nd) (Ai (Aq 8 Fx.nd) (Ai (Aq 9 Fx.nd) (Ai (Aq 10 Fx.nd) (Ai (Aq 11 Fx.nd) Ci))))))))
  (Ad (Ak 4 Fx.nd (Cd (Aa (Al (Aa (Al (Aa Ac Ab)) (Aa (Ae 0) (Aa (Ae 1) (Aa (Ae 1) (Aa (Af I hr (Aa (Ae 0) (Aa (Bd Ce Ac) Ab))) (Aa Ac Ab))))))) (Aa (Al (Aa (Al (Aa Ac Ab)) (Aa (Ae 0) (Aa (Ae 1) (Aa (Al (Aa Ac Ab)) (Aa (Al Ab) (Aa Ac Ab))))))) Ab))))
  (Ad (Ak 5 Fx.nd (Al (Aa (Af I hr (Aa (Ae 6) (Aa (Bd Ce Ac) Ab))) (Aa (Af I hr (Aa (Ae 7) (Aa (Bd Ce Ac) Ab))) (Aa (Af I hr (Aa (Ae 8) (Aa (Bd Ce Ac) Ab))) Ab)))))
  (Ad (Hi (Nu plainAttrs_list PySem.F.slot_list_append PySem.F.type_list_append Jz (Ae 4) (Aa (Ah Jq (Ae 5) (Al (Aa (Ae 9) (Aa (Ae 10) (Aa (Bd Ce (Ae 11)) Ab))))) Ab)))
  (Ad (Hi (Nu plainAttrs_list PySem.F.slot_list_append PySem.F.type_list_append Jz (Ae 4) (Aa (Al (Aa (Ae 6) (Aa (Ae 7) (Aa (Ae 8) (Aa (Ae 8) (Aa (Af I hr (Aa (Ae 7) (Aa (Bd Ce Ac) Ab))) (Aa Ac Ab))))))) Ab)))
  (Ad (Hi (Nu plainAttrs_list PySem.F.slot_list_append PySem.F.type_list_append Jz (Ae 4) (Aa (Al (Aa (Ae 6) (Aa (Ae 7) (Aa (Ae 8) (Aa (Ae 9) (Aa (Ae 10) (Aa (Aw Ec (Cd (Aa (Ae 11) (Aa Br Ab))) (Ed Abx rfl a1 boot_int (Aa (Cv Hj (Ae 11) Ac (Bb _)) Ab)) (fun _ _=>rfl)) Ab))))))) Ab)))
  (Ag (Aj (Aw Ec (Ae 4) (Ah Dc (Ae 3) Ac) (fun _ _=>rfl)))))))))),?_⟩
 done
 cases hz with
 | @mk z vg vu vv va vb g u v a b bb h hg hu hv ha hb hc ok=>
 refine⟨z,_,rfl,h,rfl,vg,_,rfl,vu,_,rfl,vv,_,rfl,va,_,rfl,vb,_,rfl,_,_,rfl,rfl,?_⟩
 try done
 have O:∀ {H':Hp}{x:V}{p:List Int}{l n:Nat},Same H H'->Po K H x p l n->l<=99->n<=8001->Tg K H' 99 8001 x (some p) none:=fun s h h1 h2=>(h.mono s).tg.weak h1 h2
 have z0:Sz 8001 (0:Int):=Sz0 (by decide)
 have m1:Sz 1 (-1:Int):=by unfold Sz;decide
 have o1:∀ {H':Hp}{z:Addr},H' z=some (.tup [V.int 1])->Tg K H' 99 8001 (.ref z) (some [1]) none:=fun h=>(Oa h (by decide) (by decide)).tg
 (intro q1 a9;generalize aa:upd _ q1 _=bq;obtain⟨ab,b6⟩:=nw a9 aa;clear aa a9)
 refine Gj hx ab m1 (by decide) (by decide) fun v2 H2 s2 i2=> ?_
 try done
 refine⟨by decide,?_⟩
 (intro J ac;generalize ad:upd _ J _=b7;obtain⟨a2,b8⟩:=nw ac ad;clear ad ac)
 have t2:=(ab.trans s2).trans a2
 have e1:PT K b7 6 8001 8001 J [(.ref q1,some [1],none),(x,some p,none),(y,some q,none),(y,some q,none),(v2,some _,none),(.int 0,none,some 0)]:=Ad4 (.of b8) rfl (by
  simp only [mem_cons,not_mem_nil,or_false]
  rintro t (rfl | rfl | rfl | rfl | rfl | rfl)
  . exact o1 ((s2.trans a2) _ _ b6)
  . exact O t2 hx (by decide) (by decide)
  . exact O t2 hy (by decide) (by decide)
  . exact O t2 hy (by decide) (by decide)
  . exact(i2.mono a2).tg.weak (by decide) (by decide)
  . exact .int 0 z0)
 (intro q3 ae;generalize af:upd _ q3 _=br;obtain⟨b9,ba⟩:=nw ae af;clear af ae)
 (intro q4 ag;generalize ah:upd _ q4 _=bt;obtain⟨ai,bc⟩:=nw ag ah;clear ah ag)
 refine⟨by decide,?_⟩
 (intro q5 aj;generalize ak:upd _ q5 _=bu;obtain⟨a3,bd⟩:=nw aj ak;clear ak aj)
 refine⟨by decide,?_⟩
 (intro M am;generalize an:upd _ M _=a4;obtain⟨a0,be⟩:=nw am an;clear an am)
 have t3:=(b9.trans ai).trans (a3.trans a0)
 have t6:=t2.trans t3
 replace e1:=e1.mono t3
 have e2:PT K a4 6 8001 8001 M [(.ref q3,some [1],none),(x,some p,none),(y,some q,none),(.ref q4,some [1],none),(.ref q5,some [],none),(.int 1,none,some 1)]:=Ad4 (.of be) rfl (by
  simp only [mem_cons,not_mem_nil,or_false]
  rintro t (rfl | rfl | rfl | rfl | rfl | rfl)
  . exact o1 ((ai.trans (a3.trans a0)) _ _ ba)
  . exact O t6 hx (by decide) (by decide)
  . exact O t6 hy (by decide) (by decide)
  . exact o1 ((a3.trans a0) _ _ bc)
  . exact(Lg (a0 _ _ bd) (by decide)).tg
  . exact .int 1 ((show Sz 1 (1:Int)by unfold Sz;decide).mono (by decide)))
 intro l hl
 have nl:=same_none t6 hl
 have sl:=Same.upd hl (.lst [V.ref J,V.ref M])
 have gl:(upd a4 l (.lst [V.ref J,V.ref M])) l=some (.lst [V.ref J,V.ref M]):=Ao
 generalize upd a4 l (.lst [V.ref J,V.ref M])=Gl at*
 have t7:=t6.trans sl
 refine Gj hg t7 m1 (by decide) (by decide) fun v8 H8 s8 i8=> ?_
 try done
 refine Gj hu (t7.trans s8) m1 (by decide) (by decide) fun v9 H9 s9 i9=> ?_
 try done
 have ao:=s8.trans s9
 refine Gj hv (t7.trans ao) m1 (by decide) (by decide) fun bf Ha sa ia=> ?_
 try done
 refine⟨by decide,?_⟩
 (intro qb ap;generalize aq:upd _ qb _=bv;obtain⟨ar,bg⟩:=nw ap aq;clear aq ap)
 have as:=(ao.trans sa).trans ar
 refine⟨.inl ⟨rfl,_,.of (as _ _ gl)⟩,by decide,?_⟩
 (intro qc au;generalize av:upd _ qc _=bw;obtain⟨a5,bh⟩:=nw au av;clear av au)
 refine⟨qb,qc,_,_,rfl,rfl,a5.tup (.of bg),.of bh,show 6<=sizeLine by decide,fun S Hd sd hd=> ?_⟩
 have W:=(as.trans a5).trans sd
 have a6:=(ar.trans a5).trans sd
 have td:=t7.trans W
 have e3:PT K Hd 6 8001 8001 S [(v8,some _,none),(v9,some _,none),(bf,some _,none),(va,some a,none),(vb,some b,none),(.int (-bb),none,some (-bb))]:=Ad4 hd rfl (by
  simp only [mem_cons,not_mem_nil,or_false]
  rintro t (rfl | rfl | rfl | rfl | rfl | rfl)
  . exact(i8.mono ((s9.trans sa).trans a6)).tg.weak (by decide) (by decide)
  . exact(i9.mono (sa.trans a6)).tg.weak (by decide) (by decide)
  . exact(ia.mono a6).tg.weak (by decide) (by decide)
  . exact O td ha (by decide) (by decide)
  . exact O td hb (by decide) (by decide)
  . exact .int _ ((show Sz 8000 (-bb)by unfold Sz at*;rw [Int.natAbs_neg];exact hc).mono (by decide)))
 have small:∀n:Nat,n<20->n<sizeLine:=fun n h=>Nat.lt_trans h (by decide)
 refine⟨l,_,_,rfl,rfl,W _ _ gl,small _ (show 2<20 by decide),?_⟩
 have a7:=W _ _ gl
 replace e1:=((e1.mono (sl.trans W)).put (zs:=[V.ref J,V.ref M]++ [V.ref S]) a7)
 replace e2:=((e2.mono (sl.trans W)).put (zs:=[V.ref J,V.ref M]++ [V.ref S]) a7)
 replace e3:=(e3.put (zs:=[V.ref J,V.ref M]++ [V.ref S]) a7)
 replace td:=td.put (o:= .lst ([V.ref J,V.ref M]++ [V.ref S])) nl
 have aw:(upd Hd l (.lst ([V.ref J,V.ref M]++ [V.ref S]))) l=_:=Ao
 generalize upd Hd l (.lst ([V.ref J,V.ref M]++ [V.ref S]))=He at*
 refine⟨.inl ⟨rfl,_,.of aw⟩,?_⟩
 refine Gj hu td m1 (by decide) (by decide) fun vf Hf sf jf=> ?_
 try done
 refine⟨by decide,?_⟩
 (intro Z ax;generalize ay:upd _ Z _=a8;obtain⟨az,bi⟩:=nw ax ay;clear ay ax)
 have sg:=sf.trans az
 have tg:=td.trans sg
 have e4:PT K a8 6 8001 8001 Z [(vg,some g,none),(vu,some u,none),(vv,some v,none),(vv,some v,none),(vf,some _,none),(.int 0,none,some 0)]:=Ad4 (.of bi) rfl (by
  simp only [mem_cons,not_mem_nil,or_false]
  rintro t (rfl | rfl | rfl | rfl | rfl | rfl)
  . exact O tg hg (by decide) (by decide)
  . exact O tg hu (by decide) (by decide)
  . exact O tg hv (by decide) (by decide)
  . exact O tg hv (by decide) (by decide)
  . exact(jf.mono az).tg.weak (by decide) (by decide)
  . exact .int 0 z0)
 have Y:=sg _ _ aw
 refine⟨l,_,_,rfl,rfl,Y,small _ (show 3<20 by decide),?_⟩
 replace e1:=(e1.mono sg).put (zs:=[V.ref J,V.ref M]++ [V.ref S]++ [V.ref Z]) Y
 replace e2:=(e2.mono sg).put (zs:=[V.ref J,V.ref M]++ [V.ref S]++ [V.ref Z]) Y
 replace e3:=(e3.mono sg).put (zs:=[V.ref J,V.ref M]++ [V.ref S]++ [V.ref Z]) Y
 replace e4:=e4.put (zs:=[V.ref J,V.ref M]++ [V.ref S]++ [V.ref Z]) Y
 replace tg:=tg.put (o:= .lst ([V.ref J,V.ref M]++ [V.ref S]++ [V.ref Z])) nl
 have b0:(upd a8 l (.lst ([V.ref J,V.ref M]++ [V.ref S]++ [V.ref Z]))) l=_:=Ao
 generalize upd a8 l (.lst ([V.ref J,V.ref M]++ [V.ref S]++ [V.ref Z]))=Hh at*
 refine⟨.inl ⟨rfl,_,.of b0⟩,?_⟩
 (intro qi b1;generalize b2:upd _ qi _=bx;obtain⟨bj,bl⟩:=nw b1 b2;clear b2 b1)
 refine Aoh (.of bl) hc fun vl il bm=> ?_
 try done
 refine⟨by decide,?_⟩
 (intro qj b3;generalize b4:upd _ qj _=bn;obtain⟨b5,bo⟩:=nw b3 b4;clear b4 b3)
 have sj:=bj.trans b5
 have tj:=tg.trans sj
 have e5:PT K bn 6 8001 8001 qj [(vg,some g,none),(vu,some u,none),(vv,some v,none),(va,some a,none),(vb,some b,none),(vl,none,il)]:=Ad4 (.of bo) rfl (by
  simp only [mem_cons,not_mem_nil,or_false]
  rintro t (rfl | rfl | rfl | rfl | rfl | rfl)
  . exact O tj hg (by decide) (by decide)
  . exact O tj hu (by decide) (by decide)
  . exact O tj hv (by decide) (by decide)
  . exact O tj ha (by decide) (by decide)
  . exact O tj hb (by decide) (by decide)
  . exact(bm.mono b5).weak (by decide) (by decide))
 have U:=sj _ _ b0
 refine⟨l,_,_,rfl,rfl,U,small _ (show 4<20 by decide),by decide,?_⟩
 have tk:=tj.put (o:= .lst ([V.ref J,V.ref M]++ [V.ref S]++ [V.ref Z]++ [V.ref qj])) nl
 refine Ao6 (.of Ao) ?_
 rintro z (rfl | rfl | rfl | rfl | rfl)
 . exact k _ _ _ tk ((e1.mono sj).put U)
 . exact k _ _ _ tk ((e2.mono sj).put U)
 . exact k _ _ _ tk ((e3.mono sj).put U)
 . exact k _ _ _ tk ((e4.mono sj).put U)
 . exact k _ _ _ tk (e5.put U)
noncomputable def Kz (K:Frag):Sp:=fun vs H Q _=>∃(x z:V) (c:Int) (p:List Int) (M:Nat),vs=[x,z,.int c]/\Po K H x p 10 300/\p≠ []/\P7 K H p 20 50000 M z/\8000<=M/\∀z' H' ts,Same H H'->PT K H' 7 50001 M z' ts->Q (.ref z') H'
theorem Qm {f:Addr}{fd:FuncData} (F:Df K mg "_law_free_forged" Ip ["_law_one","_law_told","_law_cell"] f fd) (z_len:mg "len"=none) (a0:mg "range"=none) (py:Pyl P base) (I:Cal P w K mg base 34 "_law_scaled" ["_law_one","_law_by"] (Fj K)) (a1:Cal P w K mg base 37 "plain" ["one"] (G6 K)) (O:Cal P w K mg base 34 "_law_product" ["_law_one","_law_other"] (Fe K)):Cal P w K mg base 38 "_law_free_forged" ["_law_one","_law_told","_law_cell"] (Kz K):=by
 refine F.cal (F.fn.ok Bm (fun vs H Q E h=> ?_) (fun bp A outer s H vs Q E hr h=> ?_))
 . obtain⟨x,z,c,_,_,rfl,_⟩:=h
   rfl
 obtain⟨x,z,c,p,M,rfl,hx,np,hz,hM,k⟩:=h
 cases hz with
 | @mk z vf vu vw va vb f u w a b bc be h hf hu hc hw ha hb he ok=>
 refine Ax ⟨_,(Ad (Cy (Ae 1) (Dn rfl (Ai (Aq 6 Bm.nd) (Ai (Aq 7 Bm.nd) (Ai (Aq 8 Bm.nd) (Ai (Aq 9 Bm.nd) (Ai (Aq 10 Bm.nd) (Ai (Aq 11 Bm.nd) (Ai (Aq 12 Bm.nd) Ci)))))))))
  (Ad (Ak 3 Bm.nd (Ah Em (Ba Az rfl z_len PySem.boot_len (Aa (Ae 0) Ab)) Ac))
  (Ad (Ak 4 Bm.nd (Al (Aa (Af I hr (Aa (Ae 6) (Aa (Bd Ce Ac) Ab))) (Aa (Af I hr (Aa (Ae 7) (Aa (Bd Ce Ac) Ab))) (Aa (Ah Cr (Ae 8) (Ah Em Ac (Ah Cr Ac (Ah Dc (Ae 3) Ac)))) (Aa (Ae 9) Ab))))))
  (Ad (Ak 4 Bm.nd (Ah Jq (Ae 4) (Al (Aa (Af I hr (Aa (Ae 10) (Aa (Bd Ce Ac) Ab))) (Aa (Af I hr (Aa (Ae 11) (Aa (Bd Ce Ac) Ab))) (Aa (Ae 12) Ab))))))
  (Ad (Ak 5 Bm.nd (Cd (Aa (Al (Aa (Al (Aa Ac Ab)) (Aa (Ae 0) (Aa Ac (Aa (Al Ab) (Aa (Al (Aa Ac Ab)) (Aa (Al Ab) (Aa Ac Ab)))))))) (Aa (Ae 4) Ab))))
  (Ad (Ay (Am R3 (Ae 3) Ac (Bb _)) (Ad (Ak 13 Bm.nd (Af a1 hr (Aa (Ae 0) Ab)))
  (Ad (Ak 14 Bm.nd (Ah (Mi py (hr.far (by decide)) rfl rfl rfl rfl rfl) (Aw Bx (Ae 0) (Bd Ce Ac) (fun _ _=>rfl)) (Aw Bx (Ae 13) (Bd Ce Ac) (fun _ _=>rfl))))
  (Ad (Ak 15 Bm.nd (Al (Aa Ac Ab)))
  (Ad (Dp PassesOwn.never rfl (Ew rfl a0 (Aa (Ah Em (Ae 3) Ac) Ab)) (Aq 16 Bm.nd) (Ag (Ak 15 Bm.nd (Af O hr (Aa (Ae 15) (Aa (Ae 13) Ab))))))
  (Ag (Ak 5 Bm.nd (Ah Zk (Ae 5) (Cd (Aa (Al (Aa (Ae 13) (Aa (Al (Aa (Ae 14) Ab)) (Aa (Ae 14) (Aa (Ae 15) (Aa (Al Ab) (Aa (Al Ab) (Aa Ac Ab)))))))) Ab))))))))) Ar)
  (Ag (Aj (Aw Ec (Ae 5) (Ah Dc (Ae 2) (Ba Az rfl z_len PySem.boot_len (Aa (Ae 5) Ab))) (fun _ _=>rfl)))))))))),?_⟩
 have zx:∀ {H':Hp}{x:V}{p:List Int}{l n:Nat},Same H H'->Po K H x p l n->l<=99->n<=50001->Tg K H' 99 50001 x (some p) none:=fun s h h1 h2=>(h.mono s).tg.weak h1 h2
 have z0:Sz 50001 (0:Int):=Sz0 (by decide)
 have z1:Sz 50001 (1:Int):=(show Sz 1 (1:Int)by unfold Sz;decide).mono (by decide)
 have m1:Sz 1 (-1:Int):=by unfold Sz;decide
 have p1:=length_pos_iff.mpr np
 have lp:=hx.2.2.1
 obtain⟨⟨dx,rfl,ac⟩,tp,_,zp⟩:=id hx
 refine Bp (fun J H'=>J=[some (.ref dx),some (.ref z),some (.int c),none,none,none,some vf,some vu,some (.int bc),some vw,some va,some vb,some (.int be),none,none,none,none]/\H=H') (fun N hN=> ?_) ?_
 . done
   refine⟨z,_,rfl,h,rfl,vf,_,rfl,vu,_,rfl,_,_,rfl,vw,_,rfl,va,_,rfl,vb,_,rfl,_,_,rfl,rfl,?_⟩
   try done
   exact hN _ _ ⟨rfl,rfl⟩
 rintro _ _ ⟨rfl,rfl⟩
 refine Bp (fun J H'=>J=[some (.ref dx),some (.ref z),some (.int c),some (.int ((p.length:Int)-1)),none,none,some vf,some vu,some (.int bc),some vw,some va,some vb,some (.int be),none,none,none,none]/\H=H') (fun N hN=> ?_) ?_
 . done
   refine⟨dx,_,rfl,.inr ac,?_⟩
   rw [length_map]
   exact hN _ _ ⟨rfl,rfl⟩
 rintro _ _ ⟨rfl,rfl⟩
 refine Bp (fun J H'=>∃(y:Addr) (v1 v2:V) (f' u':List Int) (a2:Int),J=[some (.ref dx),some (.ref z),some (.int c),some (.int ((p.length:Int)-1)),some (.ref y),none,some vf,some vu,some (.int bc),some vw,some va,some vb,some (.int be),none,none,none,none]/\Same H H'/\SqT K H' y [v1,v2,.int a2,vw]/\Tg K H' 99 50001 v1 (some f') none/\Tg K H' 99 50001 v2 (some u') none/\Sz 50001 a2) (fun N hN=> ?_) ?_
 . done
   refine Gj hf (Same.refl _) m1 (by decide) (by decide) fun v1 H1 s1 i1=> ?_
   try done
   refine Gj hu s1 m1 (by decide) (by decide) fun v2 H2 s2 i2=> ?_
   try done
   have zb:Sz 1 (1-2*(((p.length:Int)-1)%2)):=by unfold Sz;omega
   refine⟨by decide,(show Sz 2 (2:Int)by unfold Sz;decide).mulOk (show Sz 1 (((p.length:Int)-1)%2)by unfold Sz;omega) (by decide),hc.mulOk zb (by decide),by decide,?_⟩
   (intro q3 S;generalize a3:upd _ q3 _=b5;obtain⟨Y,a9⟩:=nw S a3;clear a3 S)
   exact hN _ _ ⟨q3,v1,v2,_,_,_,rfl,(s1.trans s2).trans Y,.of a9,(i1.mono (s2.trans Y)).tg.weak (by decide) (by decide),(i2.mono Y).tg.weak (by decide) (by decide),hc.mul zb⟩
 rintro _ H1 ⟨y,v1,v2,f',u',a2,rfl,s1,hy,g1,g2,b6⟩
 refine Bp (fun J H'=>∃(y:Addr) (ts:List T3),J=[some (.ref dx),some (.ref z),some (.int c),some (.int ((p.length:Int)-1)),some (.ref y),none,some vf,some vu,some (.int bc),some vw,some va,some vb,some (.int be),none,none,none,none]/\Same H H'/\PT K H' 7 50001 M y ts) (fun N hN=> ?_) ?_
 . done
   refine Gj ha s1 m1 (by decide) (by decide) fun v3 H2 s2 i2=> ?_
   try done
   refine Gj hb (s1.trans s2) m1 (by decide) (by decide) fun v4 H3 s3 i3=> ?_
   try done
   refine⟨by decide,?_⟩
   (intro q4 U;generalize W:upd _ q4 _=ad;obtain⟨Z,a4⟩:=nw U W;clear W U)
   have t4:=(s2.trans s3).trans Z
   refine⟨y,q4,_,_,rfl,rfl,t4.tup hy,.of a4,show 7<=sizeLine by decide,fun y5 H5 s5 h5=> ?_⟩
   have t5:=t4.trans s5
   refine hN _ _ ⟨y5,[(v1,some f',none),(v2,some u',none),(.int a2,none,some a2),(vw,some w,none),(v3,some (ng a (-1)),none),(v4,some (ng b (-1)),none),(.int be,none,some be)],rfl,s1.trans t5,h5,rfl,fun i t e=> ?_⟩
   match i,e with
   | 0,e=>cases e;exact g1.mono t5
   | 1,e=>cases e;exact g2.mono t5
   | 2,e=>cases e;exact .int _ b6
   | 3,e=>cases e;exact(hw.mono (s1.trans t5)).tg.weak (by decide) (le_refl _)
   | 4,e=>cases e;exact(i2.mono (s3.trans (Z.trans s5))).tg.weak (by decide) (show 50001<=50001 by decide)
   | 5,e=>cases e;exact(i3.mono (Z.trans s5)).tg.weak (by decide) (show 50001<=50001 by decide)
   | 6,e=>cases e;exact .int _ (he.mono (show 50000<=50001 by decide))
 clear hy g1 g2 s1 y v1 v2 f' u'
 rintro _ H1 ⟨y,ts,rfl,s1,e1⟩
 refine Bp (fun J H'=>∃(q z2:Addr) (t2:List T3),J=[some (.ref dx),some (.ref z),some (.int c),some (.int ((p.length:Int)-1)),some (.ref y),some (.ref q),some vf,some vu,some (.int bc),some vw,some va,some vb,some (.int be),none,none,none,none]/\Same H1 H'/\H' q=some (.lst [.ref z2,.ref y])/\PT K H' 7 50001 M z2 t2) (fun N hN=> ?_) ?_
 . done
   (intro q1 ae;generalize af:upd _ q1 _=bq;obtain⟨b7,b8⟩:=nw ae af;clear af ae)
   refine⟨by decide,?_⟩
   (intro q2 ag;generalize ah:upd _ q2 _=br;obtain⟨ai,b9⟩:=nw ag ah;clear ah ag)
   (intro q3 S;generalize a3:upd _ q3 _=b5;obtain⟨Y,a9⟩:=nw S a3;clear a3 S)
   refine⟨by decide,?_⟩
   (intro q4 U;generalize W:upd _ q4 _=ad;obtain⟨Z,a4⟩:=nw U W;clear W U)
   refine⟨by decide,?_⟩
   (intro q5 aj;generalize ak:upd _ q5 _=bt;obtain⟨am,ba⟩:=nw aj ak;clear ak aj)
   (intro q6 an;generalize ao:upd _ q6 _=bu;obtain⟨aa,bb⟩:=nw an ao;clear ao an)
   have t3:=(Z.trans am).trans aa
   have tt:=((b7.trans ai).trans Y).trans t3
   refine hN _ _ ⟨q6,q5,[(.ref q1,some [1],none),(.ref dx,some p,none),(.int 0,none,some 0),(.ref q2,some [],none),(.ref q3,some [1],none),(.ref q4,some [],none),(.int 1,none,some 1)],rfl,tt,bb,.of (aa _ _ ba),rfl,fun i t e=> ?_⟩
   match i,e with
   | 0,e=>cases e;exact(Oa (((ai.trans Y).trans t3) _ _ b8) (by decide) (show 1<=50001 by decide)).tg
   | 1,e=>cases e;exact zx (s1.trans tt) hx (by decide) (by decide)
   | 2,e=>cases e;exact .int _ z0
   | 3,e=>cases e;exact(Lg ((Y.trans t3) _ _ b9) (by show 1<=M;omega)).tg
   | 4,e=>cases e;exact(Oa (t3 _ _ a9) (by decide) (show 1<=50001 by decide)).tg
   | 5,e=>cases e;exact(Lg ((am.trans aa) _ _ a4) (show 1<=50001 by decide)).tg
   | 6,e=>cases e;exact .int _ z1
 rintro _ H2 ⟨q,z2,t2,rfl,s2,hq,e2⟩
 refine Bp (fun J H'=>∃(q:Addr) (us:List Addr) (o1 o2 o3 o4:Option V),J=[some (.ref dx),some (.ref z),some (.int c),some (.int ((p.length:Int)-1)),some (.ref y),some (.ref q),some vf,some vu,some (.int bc),some vw,some va,some vb,some (.int be),o1,o2,o3,o4]/\Same H2 H'/\H' q=some (.lst (us.map V.ref))/\us≠ []/\∀z∈us,∃ts,PT K H' 7 50001 M z ts) (fun N hN=> ?_) ?_
 . done
   have old:N [some (.ref dx),some (.ref z),some (.int c),some (.int ((p.length:Int)-1)),some (.ref y),some (.ref q),some vf,some vu,some (.int bc),some vw,some va,some vb,some (.int be),none,none,none,none] H2:=hN _ _ ⟨q,[z2,y],_,_,_,_,rfl,Same.refl _,hq,by simp,by
    simp only [mem_cons,not_mem_nil,or_false]
    rintro z (rfl | rfl)
    . exact⟨_,e2⟩
    . exact⟨_,e1.mono s2⟩⟩
   split
   case isFalse=>exact old
   clear old
   have ap:=s1.trans s2
   refine Ku hx ap (by decide) (by decide) fun v3 H3 s3 i3=> ?_
   try done
   obtain⟨⟨d3,rfl,h3⟩,t3,l3,_⟩:=id i3
   have n3:=Ahq np
   have bd:=ap.trans s3
   refine En (bd.tup ac) (Ia np) (En h3 (Ia n3) ?_)
   try done
   have ev:(co p (p.length-1)).fdiv (co (pln p) ((pln p).length-1))=un p:=by
    rw [Fw,<-Jl tp np,Int.mul_fdiv_cancel _ (by rw [<-Fw p];exact t3.lead n3)]
   rw [ev]
   refine⟨t3.lead n3,?_⟩
   (intro q4 U;generalize W:upd _ q4 _=ad;obtain⟨Z,a4⟩:=nw U W;clear W U)
   refine⟨by omega,by omega,?_⟩
   have en:((p.length:Int)-1-1).toNat=p.length-2:=by omega
   rw [en]
   refine Akr (p.length-2) (fun i=> .int (0+(i:Nat))) (fun i J H'=>∃(v:V) (o:Option V),J=[some (.ref dx),some (.ref z),some (.int c),some (.int ((p.length:Int)-1)),some (.ref y),some (.ref q),some vf,some vu,some (.int bc),some vw,some va,some vb,some (.int be),some (.ref d3),some (.int (un p)),some v,o]/\Same H3 H'/\Po K H' v (pw (pln p) i) (i*10+1) (i*(300+10)+1)) ⟨_,_,rfl,Z,Oa a4 (by omega) (by omega)⟩ ?_ ?_ ?_
   . rintro i J H' _
     exact J5
   . rintro i J H6 hi ⟨v,o,rfl,t6,iv⟩
     done
     have:i*(300+10)<=10*(300+10):=mul_le_mul_right _ (by omega)
     refine Fy iv (Same.refl _) i3 t6 (by omega) (by decide) (by omega) fun v2 H7 s7 i7=> ?_
     rw [show tm (pw (pln p) i) (pln p)=pw (pln p) (i+1)by rw [Ja];rfl]at i7
     obtain⟨l7,z7⟩:=An8 i3.2.1 i3.2.2.1 i3.2.2.2 (i+1)
     exact⟨v2,_,rfl,t6.trans s7,i7.1,Tw _ _,l7,z7⟩
   rintro J H6 ⟨v,o,rfl,t6,iv⟩
   done
   (intro q7 aq;generalize ar:upd _ q7 _=bv;obtain⟨bf,bg⟩:=nw aq ar;clear ar aq)
   refine⟨by decide,?_⟩
   (intro q8 as;generalize au:upd _ q8 _=bw;obtain⟨av,bh⟩:=nw as au;clear au as)
   refine⟨by decide,?_⟩
   (intro q9 aw;generalize ax:upd _ q9 _=bx;obtain⟨ab,bi⟩:=nw aw ax;clear ax aw)
   refine⟨by decide,?_⟩
   (intro qa ay;generalize az:upd _ qa _=bz;obtain⟨a6,bj⟩:=nw ay az;clear az ay)
   (intro qb b0;generalize b1:upd _ qb _=bl;obtain⟨a5,bm⟩:=nw b0 b1;clear b1 b0)
   have t7:=(bf.trans av).trans ((ab.trans a6).trans a5)
   have b2:=t6.trans t7
   have zu:Sz 50001 (un p):=(Agu tp np (zp _)).mono (by decide)
   have e3:PT K bl 7 50001 M qa [(.ref d3,some (pln p),none),(.ref q7,some [un p],none),(.int (un p),none,some (un p)),(v,some (pw (pln p) (p.length-2)),none),(.ref q8,some [],none),(.ref q9,some [],none),(.int 0,none,some 0)]:=by
    refine⟨.of (a5 _ _ bj),rfl,fun i t e=> ?_⟩
    match i,e with
    | 0,e=>cases e;exact(i3.mono b2).tg.weak (by decide) (show 300<=50001 by decide)
    | 1,e=>cases e;exact .nums (ns:=[un p]) (.of (((av.trans ab).trans (a6.trans a5)) _ _ bg)) (by simp) (V8 (show 0<50001 by decide) (by simp only [mem_singleton];rintro x rfl;exact zu))
    | 2,e=>cases e;exact .int _ zu
    | 3,e=>
      cases e
      have m2:(p.length-2)*(300+10)<=8*(300+10):=mul_le_mul_right _ (by omega)
      exact(iv.mono t7).tg.weak (by omega) (by show _<=M;omega)
    | 4,e=>cases e;exact(Lg ((ab.trans (a6.trans a5)) _ _ bh) (show 1<=50001 by decide)).tg
    | 5,e=>cases e;exact(Lg ((a6.trans a5) _ _ bi) (show 1<=50001 by decide)).tg
    | 6,e=>cases e;exact .int _ z0
   have a7:=s3.trans b2
   refine⟨q,qb,_,_,rfl,rfl,a7 _ _ hq,bm,show 3<=sizeLine by decide,?_⟩
   (intro qc b3;generalize b4:upd _ qc _=c0;obtain⟨a8,bn⟩:=nw b3 b4;clear b4 b3)
   refine hN _ _ ⟨qc,[z2,y,qa],_,_,_,_,rfl,a7.trans a8,bn,by simp,?_⟩
   simp only [mem_cons,not_mem_nil,or_false]
   rintro z (rfl | rfl | rfl)
   . exact⟨_,e2.mono (a7.trans a8)⟩
   . exact⟨_,e1.mono (s2.trans (a7.trans a8))⟩
   . exact⟨_,e3.mono a8⟩
 rintro _ H3 ⟨q,us,o1,o2,o3,o4,rfl,s3,S,nu,al⟩
 done
 have c1:0<us.length:=length_pos_iff.mpr nu
 refine⟨q,_,rfl,.inl (.of S),?_⟩
 rw [length_map]
 refine⟨by omega,?_⟩
 have h1:=emod_nonneg c (show(us.length:Int)≠0 by omega)
 have h2:=emod_lt_of_pos c (show(0:Int)<us.length by omega)
 obtain⟨j,hj,ej⟩:∃j:Nat,j<us.length/\c%(us.length:Int)=j:=⟨(c%us.length).toNat,by omega,by omega⟩
 rw [ej]
 obtain⟨ts,bo⟩:=al us[j] (getElem_mem hj)
 exact Fi (.of S) (Bk (j:=j) (by rw [getElem?_map,getElem?_eq_getElem hj];rfl)) (k _ _ _ ((s1.trans s2).trans s3) bo)
theorem Al8 {p q g u v a b:List Int}{c:Int} (tp:Tr p) (z:Tr q) (h:Pap p q g u v a b c):Jv p q g u v a b c:=⟨h.cn,h.gc.pl,(Gw _ _).ext tp fun i=>by rw [Dz,h.one],(Gw _ _).ext z fun i=>by rw [Dz,h.two],(Qp _ _).ext (Bq _) fun i=>by
 rw [Ma,Dz,Dz,h.sum]
 show _=co (ng g c) i
 rw [Jp,Int.mul_comm]⟩
theorem Ang {H H1:Hp}{Q:VK}{E:XK}{x y:V}{p q:List Int} (J:Po K H1 x p 10 300) (M:Po K H1 y q 10 300) (O:Same H1 H) (h:∀z H',Same H H'->P6 K H' p q 20 8000 z->Q z H'):Gi K [x,y] H Q E:=⟨x,y,p,q,10,300,rfl,J.mono O,M.mono O,by decide,Ait (by decide) (by decide),fun z H' vg vu vv va vb c g u v a b s S U W Y Z ib zc I=>h _ _ s (.mk S (U.weak (by decide) (by decide)) (W.weak (by decide) (by decide)) (Y.weak (by decide) (by decide)) (Z.weak (by decide) (by decide)) (ib.weak (by decide) (by decide)) (zc.mono (by decide)) (Al8 J.2.1 M.2.1 I))⟩
theorem Akk {H H1:Hp}{Q:VK}{E:XK}{x:V}{p:List Int} (J:Po K H1 x p 10 300) (U:Same H1 H) (M:p≠ []) (h:∀z H',Same H H'->P7 K H' p 20 50000 60000000 z->Q z H'):Ih K [x] H Q E:=by
 refine⟨x,⟨p,J.2.1⟩,300,rfl,J.mono U,Et.mpr M,by decide,fun z H' vf vu vw va vb c e f u w a b s W O S Y I Z ib ze ok=>h _ _ s (.mk W (O.weak (by decide) (by decide)) (S.weak (by decide) (by decide)) (Y.mono (by decide)) ?_ (Z.weak (by decide) (by decide)) (ib.weak (by decide) (by decide)) (ze.mono (by decide)) ok)⟩
 obtain⟨hc,_,_,e1,e2,_⟩:=id ok
 obtain⟨fl,nf⟩:=Aet S.2.1 O.2.1 M e1
 obtain⟨d,nw⟩:=Ahz J.2.1 O.2.1 I.2.1 M nf hc e2
 have p1:=length_pos_iff.mpr M
 have pl:p.length<=10:=J.2.2.1
 have a0:=O.2.2.1
 have m:(f.length-1)*(p.length-1)<=9*(p.length-1):=mul_le_mul_right _ (by omega)
 rw [Yx]at I
 exact⟨I.1,I.2.1,by omega,I.2.2.2⟩
theorem PT.weak {H:Hp}{m R B z I:Nat}{a:Addr}{ts:List T3} (h:PT K H m R B a ts) (h1:R<=z) (h2:B<=I):PT K H m z I a ts:=⟨h.h,h.l,fun i t e=>(h.al i t e).weak (le_refl _) (by unfold NF;split<;>assumption)⟩
noncomputable def Tld (K:Frag) (p q:List Int) (Q:VK) (H:Hp):Prop:=∀(z:Addr) (H':Hp) (z1 z2:V) (b:Bool) (d1 d2:Option (List T3)),Same H H'->SqT K H' z [z1,z2,.bl b]->Ppr K H' 6 (NF 9100 9100) z1 d1->Ppr K H' 7 (NF 51100 60000100) z2 d2->(b=true->srB p q d1=true/\(p≠ []->frB p d2=true))->Q (.ref z) H'
theorem Ac6 {H:Hp}{m R B z I:Nat}{v:V}{d:Option (List T3)} (h:Ppr K H m (NF R B) v d) (h1:R<=z) (h2:B<=I):Ppr K H m (NF z I) v d:=by
 cases h with
 | tup h l al=>exact .tup h l fun i t e=>(al i t e).weak (le_refl _) (by unfold NF;split<;>assumption)
 | len h l=>exact .len h l
 | lst e=>exact .lst e
 | non=>exact .non
noncomputable def Sx (K:Frag):Sp:=fun vs H Q _=>∃(x y:V) (c:Int) (p q:List Int),vs=[x,y,.int c]/\Po K H x p 10 300/\Po K H y q 10 300/\Tld K p q Q H
theorem X7 {f:Addr}{fd:FuncData} (F:Df K mg "_law_papers" Ph ["_law_one","_law_other","_law_cell"] f fd)   (O:Cal P w K mg base 41 "shared_paper" ["one","other"] (Gi K)) (S:Cal P w K mg base 36 "_law_made_over" ["_law_one","_law_other","_law_paper","_law_cell"] (M6 K)) (U:Cal P w K mg base 36 "_law_any" ["_law_cell","_law_many"] (Zz K)) (W:Cal P w K mg base 36 "_law_free_over" ["_law_paper","_law_cell"] (M5 K)) (I:Cal P w K mg base 43 "free_paper" ["one"] (Ih K)) (M:Cal P w K mg base 36 "_law_turned" ["_law_paper","_law_cell"] (Sy K)) (J:Cal P w K mg base 38 "_law_free_forged" ["_law_one","_law_told","_law_cell"] (Kz K)) (a0:Cal P w K mg base 35 "_law_forged" ["_law_one","_law_other","_law_told","_law_cell"] (Nr K)):Cal P w K mg base 44 "_law_papers" ["_law_one","_law_other","_law_cell"] (Sx K):=by
 refine F.cal (F.fn.ok Hq (fun vs H Q E h=> ?_) (fun ar A outer s H vs Q E hr h=> ?_))
 . obtain⟨x,y,c,_,_,rfl,_⟩:=h
   rfl
 obtain⟨x,y,c,p,q,rfl,hx,hy,k⟩:=h
 refine Ax ⟨_,(Ad (Ak 3 Hq.nd (Af O hr (Aa (Ae 0) (Aa (Ae 1) Ab))))
  (Ad (Ak 4 Hq.nd (Af S hr (Aa (Ae 0) (Aa (Ae 1) (Aa (Ae 3) (Aa (Ah Cw (Ae 2) Ac) Ab))))))
  (Ad (Ak 5 Hq.nd (Af U hr (Aa (Ah Cw (Ae 2) Ac) (Aa Ac Ab))))
  (Ad (Ay (Am (Gz hr.units) (Ae 0) (Al Ab) (Bb _)) (Ag (Ak 5 Hq.nd (Af W hr (Aa (Af I hr (Aa (Ae 0) Ab)) (Aa (Ah Cw (Ae 2) Ac) Ab))))) Ar)
  (Ad (Ay (Am Hj (Ah Dc (Ae 2) Ac) Ac (Bb _)) (Ag (Aj (Al (Aa (Af U hr (Aa (Ah Cw (Ae 2) Ac) (Aa Ac Ab))) (Aa (Af U hr (Aa (Ah Cw (Ae 2) Ac) (Aa Ac Ab))) (Aa Br Ab)))))) Ar)
  (Ad (Ay (Am Hj (Ah Dc (Ae 2) Ac) Ac (Bb _)) (Ag (Aj (Al (Aa (Af M hr (Aa (Ae 4) (Aa (Ah Cw (Ae 2) Ac) Ab))) (Aa (Af M hr (Aa (Ae 5) (Aa (Ah Cw (Ae 2) Ac) Ab))) (Aa Br Ab)))))) Ar)
  (Ad (Ay (Am Hj (Ah Dc (Ae 2) Ac) Ac (Bb _)) (Ad (Ay (Am (Gz hr.units) (Ae 0) (Al Ab) (Bb _)) (Ag (Ak 5 Hq.nd (Af J hr (Aa (Ae 0) (Aa (Af I hr (Aa (Ae 0) Ab)) (Aa (Ah Cw (Ae 2) Ac) Ab)))))) Ar)
  (Ag (Aj (Al (Aa (Af a0 hr (Aa (Ae 0) (Aa (Ae 1) (Aa (Ae 3) (Aa (Ah Cw (Ae 2) Ac) Ab))))) (Aa (Ae 5) (Aa Br Ab))))))) Ar)
  (Ag (Aj (Al (Aa (Ae 4) (Aa (Ae 5) (Aa Br Ab))))))))))))),?_⟩
 obtain⟨⟨dx,rfl,ab⟩,tp,_⟩:=id hx
 refine Bp (fun Y H'=>∃z,Y=[some (.ref dx),some y,some (.int c),some z,none,none]/\Same H H'/\P6 K H' p q 20 8000 z) (fun N hN=> ?_) ?_
 . done
   exact Ang hx hy (Same.refl _) fun z H1 s1 h1=>hN _ _ ⟨z,rfl,s1,h1⟩
 rintro _ H1 ⟨z,rfl,s1,hz⟩
 refine Bp (fun Y H'=>∃(a:Addr) (ts:List T3),Y=[some (.ref dx),some y,some (.int c),some z,some (.ref a),none]/\Same H1 H'/\PT K H' 6 9000 9000 a ts/\srB p q (some ts)=true) (fun N hN=> ?_) ?_
 . done
   refine⟨⟨by decide,by decide⟩,_,_,z,_,p,q,rfl,hz,fun z2 H2 s2 h2=> ?_⟩
   obtain⟨a,ts,rfl,pt,e⟩:=h2.pt (by decide)
   exact hN _ _ ⟨a,ts,rfl,s2,pt,e⟩
 rintro _ H2 ⟨a1,aj,rfl,s2,ac,ak⟩
 refine Bp (fun Y H'=>∃(a:Addr) (ts:List T3),Y=[some (.ref dx),some y,some (.int c),some z,some (.ref a1),some (.ref a)]/\Same H2 H'/\PT K H' 7 50 50 a ts) (fun N hN=> ?_) ?_
 . done
   exact⟨⟨by decide,by decide⟩,_,7,rfl,by decide,fun a H3 ts s3 h3=>hN _ _ ⟨a,ts,rfl,s3,h3⟩⟩
 rintro _ H3 ⟨a2,a7,rfl,s3,a5⟩
 have a9:=(s1.trans s2).trans s3
 refine Bp (fun Y H'=>∃(a:Addr) (ts:List T3),Y=[some (.ref dx),some y,some (.int c),some z,some (.ref a1),some (.ref a)]/\Same H3 H'/\PT K H' 7 51000 60000003 a ts/\(p≠ []->frB p (some ts)=true)) (fun N hN=> ?_) ?_
 . done
   refine⟨by decide,?_⟩
   (intro q4 ad;generalize ae:upd _ q4 _=as;obtain⟨a8,am⟩:=nw ad ae;clear ae ad)
   refine Bu (ms:=[]) ((a9.trans a8).tup ab) (.of am) ⟨_,rfl,?_⟩
   by_cases np:p=[]
   . rw [decide_eq_true np]
     exact hN _ _ ⟨a2,a7,rfl,a8,(a5.mono a8).weak (by decide) (by decide),fun h=>absurd np h⟩
   rw [decide_eq_false np,if_pos (by decide)]
   refine Akk hx (a9.trans a8) np fun z5 H5 s5 h5=> ?_
   try done
   refine⟨⟨by decide,by decide⟩,z5,_,p,_,rfl,h5,by decide,tp,fun z6 H6 s6 h6=> ?_⟩
   obtain⟨a,ts,rfl,pt,e⟩:=h6.pt (by decide) np
   exact hN _ _ ⟨a,ts,rfl,(a8.trans s5).trans s6,pt,fun _=>e⟩
 clear a5 a2 a7
 rintro _ H4 ⟨a2,a7,rfl,s4,a5,an⟩
 have aa:=s3.trans s4
 have Z:=a9.trans s4
 refine Bp (fun Y H'=>Y=[some (.ref dx),some y,some (.int c),some z,some (.ref a1),some (.ref a2)]/\H4=H') (fun N hN=> ?_) ?_
 . done
   refine⟨by decide,?_⟩
   split
   case isFalse=>exact hN _ _ ⟨rfl,rfl⟩
   refine⟨⟨by decide,by decide⟩,_,6,rfl,by decide,fun b1 H5 us1 s5 h5=> ?_⟩
   try done
   refine⟨⟨by decide,by decide⟩,_,7,rfl,by decide,fun b2 H6 us2 s6 h6=> ?_⟩
   try done
   refine⟨by decide,fun r a4=> ?_⟩
   have sr:=Same.upd a4 (.tup [V.ref b1,V.ref b2,V.bl false])
   exact k r _ _ _ _ _ _ ((Z.trans s5).trans (s6.trans sr)) (.of Ao) ((h5.mono (s6.trans sr)).ppr (by decide) (by decide)) ((h6.mono sr).ppr (by decide) (by decide)) (fun h=>by cases h)
 rintro _ _ ⟨rfl,rfl⟩
 refine Bp (fun Y H'=>Y=[some (.ref dx),some y,some (.int c),some z,some (.ref a1),some (.ref a2)]/\H4=H') (fun N hN=> ?_) ?_
 . done
   refine⟨by decide,?_⟩
   split
   case isFalse=>exact hN _ _ ⟨rfl,rfl⟩
   refine⟨⟨by decide,by decide⟩,a1,aj,_,6,9000,9000,rfl,ac.mono aa,by decide,by decide,by decide,by decide,fun b1 H5 d1 s5 h5=> ?_⟩
   try done
   refine⟨⟨by decide,by decide⟩,a2,a7,_,7,51000,60000003,rfl,a5.mono s5,by decide,by decide,by decide,by decide,fun b2 H6 d2 s6 h6=> ?_⟩
   try done
   refine⟨by decide,fun r a4=> ?_⟩
   have sr:=Same.upd a4 (.tup [b1,b2,V.bl false])
   exact k r _ _ _ _ _ _ ((Z.trans s5).trans (s6.trans sr)) (.of Ao) (Ac6 (h5.mono (s6.trans sr)) (by decide) (by decide)) (Ac6 (h6.mono sr) (by decide) (by decide)) (fun h=>by cases h)
 rintro _ _ ⟨rfl,rfl⟩
 done
 refine⟨by decide,?_⟩
 split
 case isFalse=>
  refine⟨by decide,fun r a4=> ?_⟩
  have sr:=Same.upd a4 (.tup [V.ref a1,V.ref a2,V.bl true])
  exact k r _ _ _ _ _ _ (Z.trans sr) (.of Ao) ((ac.mono (aa.trans sr)).ppr (by decide) (by decide)) ((a5.mono sr).ppr (by decide) (by decide)) (fun _=>⟨ak,an⟩)
 have af:∀(a3:Addr) (ag:List T3) (H5:Hp),Same H4 H5->PT K H5 7 51000 60000003 a3 ag->Aie c 5/\Nr K [.ref dx,y,z,.int (c/5)] H5 (fun ao H1=>3<=sizeLine/\∀p,H1 p=none->Q (.ref p) (upd H1 p (.tup [ao,.ref a3,.bl false]))) E0:=fun a3 ag H5 s5 ap=>by
  refine⟨⟨by decide,by decide⟩,_,y,z,_,p,q,p,q,rfl,hx.mono (Z.trans s5),hy.mono (Z.trans s5),?_,fun b1 H6 us s6 h6=>⟨by decide,fun r a4=> ?_⟩⟩
  . cases hz with
    | mk h hg hu hv ha hb hc ok=>
      have s:=(s2.trans aa).trans s5
      exact .mk (s.tup h) (hg.mono s) (hu.mono s) (hv.mono s) (ha.mono s) (hb.mono s) hc ok
  have sr:=Same.upd a4 (.tup [V.ref b1,V.ref a3,V.bl false])
  exact k r _ _ _ _ _ _ ((Z.trans s5).trans (s6.trans sr)) (.of Ao) ((h6.mono sr).ppr (by decide) (by decide)) ((ap.mono (s6.trans sr)).ppr (by decide) (by decide)) (fun h=>by cases h)
 refine⟨by decide,?_⟩
 (intro q5 ah;generalize ai:upd _ q5 _=au;obtain⟨a6,aq⟩:=nw ah ai;clear ai ah)
 refine Bu (ms:=[]) ((Z.trans a6).tup ab) (.of aq) ⟨_,rfl,?_⟩
 by_cases np:p=[]
 . rw [decide_eq_true np]
   exact af a2 a7 _ a6 (a5.mono a6)
 rw [decide_eq_false np,if_pos (by decide)]
 refine Akk hx (Z.trans a6) np fun z6 H6 s6 h6=> ?_
 try done
 refine⟨⟨by decide,by decide⟩,_,z6,_,p,_,rfl,hx.mono ((Z.trans a6).trans s6),np,h6,by decide,fun b2 H7 us s7 h7=> ?_⟩
 try done
 exact af b2 us _ ((a6.trans s6).trans s7) (h7.weak (by decide) (by decide))
theorem Adw {g:List Int} (tg:Tr g) (h:pln (ng g 2)=ng g 2):g=[]:=by
 by_cases n:g=[]
 . exact n
 exfalso
 have I:co (ng g 2) (g.length-1)≠0:=by
  rw [Jp]
  exact mul_ne_zero (tg.lead n) (by decide)
 have n2:ng g 2≠ []:=fun z=>I (by rw [z,Bv])
 have e:gl (ng g 2)=1:=((Vc (Bq _) n2).mp h).1
 have d:=K7 (e:=2) (m:=1) (p:=ng g 2) fun k=>⟨co g k,by rw [Jp];omega⟩
 rw [e]at d
 omega
theorem Ajj {p q g u v a b:List Int}{c:Int} (tg:Tr g) (h:Jv p q g u v a b c):decide (Jv (ng p 2) (ng q 2) (ng g 2) u v a b c)=decide (g=[]):=by
 by_cases n:g=[]
 . subst n
   rw [decide_eq_true rfl]
   refine decide_eq_true ?_
   obtain⟨h1,h2,I,J,M⟩:=h
   rw [Jb]at I J
   subst I J
   exact⟨h1,h2,Jb _,Jb _,M⟩
 . rw [decide_eq_false n]
   exact decide_eq_false fun z=>n (Adw tg z.2.1)
noncomputable def Jj (K:Frag):Sp:=fun vs H Q _=>∃(x y:V) (p q:List Int),vs=[x,y]/\Po K H x p 10 300/\Po K H y q 10 300/\∀H',Same H H'->Q (.bl true) H'
theorem N6 {f:Addr}{fd:FuncData} (F:Df K mg "_law_doubled_right" Hl ["_law_one","_law_other"] f fd) (z_len:mg "len"=none)  (J:Cal P w K mg base 41 "shared_paper" ["one","other"] (Gi K)) (I:Cal P w K mg base 34 "_law_scaled" ["_law_one","_law_by"] (Fj K)) (S:Cal P w K mg base 43 "free_paper" ["one"] (Ih K)) (O:Cal P w K mg base 38 "shared_right" ["one","other","paper"] (Iz K)) (U:Cal P w K mg base 38 "free_right" ["one","paper"] (Km K)):Cal P w K mg base 44 "_law_doubled_right" ["_law_one","_law_other"] (Jj K):=by
 refine F.cal (F.fn.ok Bj (fun vs H Q E h=> ?_) (fun ae A outer s H vs Q E W h=> ?_))
 . obtain⟨x,y,_,_,rfl,_⟩:=h
   rfl
 obtain⟨x,y,p,q,rfl,hx,hy,k⟩:=h
 refine Ax ⟨_,(Ad (Cy (Af J W (Aa (Ae 0) (Aa (Ae 1) Ab))) (Dn rfl (Ai (Aq 5 Bj.nd) (Ai (Aq 6 Bj.nd) (Ai (Aq 7 Bj.nd) (Ai (Aq 8 Bj.nd) (Ai (Aq 9 Bj.nd) (Ai (Aq 10 Bj.nd) Ci))))))))
  (Ad (Ak 2 Bj.nd (Af I W (Aa (Ae 0) (Aa Ac Ab))))
  (Ad (Ak 3 Bj.nd (Al (Aa (Af I W (Aa (Ae 5) (Aa Ac Ab))) (Aa (Ae 6) (Aa (Ae 7) (Aa (Ae 8) (Aa (Ae 9) (Aa (Ae 10) Ab))))))))
  (Ad (Ay (Am Lf (Af O W (Aa (Ae 2) (Aa (Af I W (Aa (Ae 1) (Aa Ac Ab))) (Aa (Ae 3) Ab)))) (Cv (Fl W.units) (Ae 5) (Al Ab) (Bb _)) (Bb _)) (Ag (Aj Br)) Ar)
  (Ad (Ay (Am Wo (Ba Az rfl z_len PySem.boot_len (Aa (Ae 0) Ab)) Ac (Bb _)) (Ag (Aj Br)) Ar)
  (Ad (Cy (Af S W (Aa (Ae 0) Ab)) (Dn rfl (Ai (Aq 11 Bj.nd) (Ai (Aq 6 Bj.nd) (Ai (Aq 10 Bj.nd) (Ai (Aq 4 Bj.nd) (Ai (Aq 8 Bj.nd) (Ai (Aq 9 Bj.nd) (Ai (Aq 12 Bj.nd) Ci)))))))))
  (Ad (Ak 4 Bj.nd (Af I W (Aa (Ae 4) (Aa (Ah Al5 Ac (Ah Em (Ba Az rfl z_len PySem.boot_len (Aa (Ae 0) Ab)) Ac)) Ab))))
  (Ag (Aj (Nv (Af U W (Aa (Ae 2) (Aa (Al (Aa (Af I W (Aa (Ae 11) (Aa Ac Ab))) (Aa (Ae 6) (Aa (Ae 10) (Aa (Ae 4) (Aa (Ae 8) (Aa (Ae 9) (Aa (Ah Cr Ac (Ae 12)) Ab)))))))) Ab))))))))))))),?_⟩
 obtain⟨⟨dx,rfl,a0⟩,tp,lp,_⟩:=id hx
 done
 refine Ang hx hy (Same.refl _) fun z H1 s1 h1=> ?_
 cases h1 with
 | @mk z vg vu vv va vb g u v a b bc h hg hu hv ha hb hc ok=>
 refine⟨z,_,rfl,h,rfl,vg,_,rfl,vu,_,rfl,vv,_,rfl,va,_,rfl,vb,_,rfl,_,_,rfl,rfl,?_⟩
 try done
 have m2:Sz 2 (2:Int):=by unfold Sz;decide
 refine Gj hx s1 m2 (by decide) (by decide) fun v2 H2 s2 i2=> ?_
 try done
 refine Gj hg s2 m2 (by decide) (by decide) fun v3 H3 s3 i3=> ?_
 try done
 refine⟨by decide,?_⟩
 (intro q4 a1;generalize a2:upd _ q4 _=af;obtain⟨Y,a9⟩:=nw a1 a2;clear a2 a1)
 have t4:=(s2.trans s3).trans Y
 refine Gj hy (s1.trans t4) m2 (by decide) (by decide) fun v5 H5 s5 i5=> ?_
 try done
 have t5:=t4.trans s5
 obtain⟨ts,pt,es⟩:=Aqp (N:=8002) (.of (s5 _ _ a9)) ((i3.mono (Y.trans s5)).weak (by decide) (by decide)) ((hu.mono t5).weak (by decide) (by decide)) ((hv.mono t5).weak (by decide) (by decide)) ((ha.mono t5).weak (by decide) (by decide)) ((hb.mono t5).weak (by decide) (by decide)) (hc.mono (by decide))
 refine⟨v2,v5,_,ng p 2,ng q 2,some ts,NF 8002 8002,302,rfl,(i2.mono ((s3.trans Y).trans s5)).weak (by decide) (by decide),i5.weak (by decide) (by decide),pt.ppr (le_refl _) (le_refl _),by decide,by decide,fun i=>by unfold NF;split<;>decide,fun H6 s6=> ?_⟩
 try done
 refine⟨by decide,?_⟩
 (intro q7 a3;generalize a4:upd _ q7 _=ag;obtain⟨a5,aa⟩:=nw a3 a4;clear a4 a3)
 obtain⟨⟨dg,rfl,ab⟩,tg,_⟩:=id hg
 have t7:=(t5.trans s6).trans a5
 refine Bu (ms:=[]) (t7.tup ab) (.of aa) ?_
 rw [es,Ajj tg ok]
 try done
 refine⟨dx,_,rfl,.inr ((s1.trans t7).tup a0),?_⟩
 rw [length_map]
 split
 . exact k _ (s1.trans t7)
 rename_i l2
 have np:p≠ []:=fun z=>l2 (by rw [z];decide)
 refine Akk hx (s1.trans t7) np fun z8 H8 s8 h8=> ?_
 cases h8 with
 | @mk z vf vu vw va vb f u w a b bc be h hf hu hc hw ha hb he ok=>
 try done
 refine⟨z,_,rfl,h,rfl,vf,_,rfl,vu,_,rfl,_,_,rfl,vw,_,rfl,va,_,rfl,vb,_,rfl,_,_,rfl,rfl,?_⟩
 try done
 have a6:=s1.trans t7
 refine⟨dx,_,rfl,.inr ((a6.trans s8).tup a0),?_⟩
 rw [length_map]
 have ze:Sz 10 (1*2^((p.length:Int)-2).toNat):=by
  have:((p.length:Int)-2).toNat<=8:=by omega
  generalize ((p.length:Int)-2).toNat=n at this
  unfold Sz
  rw [Int.one_mul,Int.natAbs_pow]
  exact pow_lt_pow_right (by decide) (by omega)
 refine⟨⟨by omega,by omega,by decide⟩,Gj hw (Same.refl _) ze (by decide) (by decide) fun v9 H9 s9 i9=> ?_⟩
 try done
 refine Gj hf s9 m2 (by decide) (by decide) fun ah Ha sa ia=> ?_
 try done
 refine⟨m2.mulOk he (by decide),by decide,?_⟩
 (intro qb a7;generalize a8:upd _ qb _=ai;obtain⟨Z,ac⟩:=nw a7 a8;clear a8 a7)
 have tb:=(s9.trans sa).trans Z
 obtain⟨ts,pt,es⟩:=Aqq (N:=50002) (M:=60000010) (.of ac) ((ia.mono Z).weak (by decide) (by decide)) ((hu.mono tb).weak (by decide) (by decide)) (hc.mono (by decide)) ((i9.mono (sa.trans Z)).weak (by decide) (by decide)) ((ha.mono tb).weak (by decide) (by decide)) ((hb.mono tb).weak (by decide) (by decide)) ((m2.mul he).mono (by decide))
 have ad:=((((s3.trans Y).trans s5).trans s6).trans a5).trans (s8.trans tb)
 refine⟨v2,_,ng p 2,some ts,NF 50002 60000010,302,rfl,(i2.mono ad).weak (by decide) (by decide),pt.ppr (le_refl _) (le_refl _),by decide,by decide,fun i=>by unfold NF;split<;>decide,by decide,fun Hc sc=>⟨_,rfl,?_⟩⟩
 have n2:ng p 2≠ []:=fun z=>by
  have:=Jp p 2 (p.length-1)
  rw [z,Bv]at this
  exact mul_ne_zero (tp.lead np) (by decide) this.symm
 have nf:=(Aet hu.2.1 hf.2.1 np ok.2.2.2.1).2
 rw [es _ n2,decide_eq_false fun z=>nf (Adw hf.2.1 z.2.2.1)]
 exact k _ ((a6.trans s8).trans (tb.trans sc))
theorem M7 {H H1:Hp}{Q:VK}{E:XK}{a:Addr}{ns:List Int}{j:Int} (z:SqL K H1 a (ns.map V.int)) (I:Same H1 H) (J:0<=j) (h:Q (.int (cell ns j)) H):Lw K [.ref a,.int j] H Q E:=⟨a,ns,j,rfl,I.seq z,J,h⟩
theorem Po.tml {H:Hp}{z:V}{p q:List Int}{L n l l':Nat} (h:Po K H z (tm p q) L n) (tp:Tr p) (I:Tr q) (h1:p.length<=l) (h2:q.length<=l'):Po K H z (tm p q) (l+l'-1) n:=by
 refine⟨h.1,h.2.1,?_,h.2.2.2⟩
 by_cases n1:p=[]
 . rw [n1]
   exact zero_le _
 by_cases n2:q=[]
 . rw [n2,Jb]
   exact zero_le _
 have:=J4 tp I n1 n2
 omega
theorem Adx {H:Hp}{z:Addr}{a b:Int} (h:SqT K H z [.int a,.int b]) (I:b≠0) (J:Sz 10 a) (M:Sz 10 b):Po K H (.ref z) [a,b] 2 10:=⟨⟨z,rfl,h⟩,.inr ⟨by simp,by simpa using I⟩,by simp,V8 (by decide) (by
 simp only [mem_cons,not_mem_nil,or_false]
 rintro x (rfl | rfl)<;>assumption)⟩
theorem Ala {f:Addr}{fd:FuncData} (F:Df K mg "law" Vg ["_law_script"] f fd) (au:mg "all"=none) (a4:mg "isinstance"=none) (ap:mg "bool"=none)  (O:Cal P w K mg base 34 "_law_product" ["_law_one","_law_other"] (Fe K)) (a7:Cal P w K mg base 44 "_law_papers" ["_law_one","_law_other","_law_cell"] (Sx K)) (W:Cal P w K mg base 35 "_law_poly" ["_law_cell","_law_most"] (Iv K)) (I:Cal P w K mg base 33 "_law_cell_at" ["_law_script","_law_k"] (Lw K)) (a1:Cal P w K mg base 38 "shared_right" ["one","other","paper"] (Iz K)) (a5:Cal P w K mg base 38 "free_right" ["one","paper"] (Km K)) (Z:Cal P w K mg base 44 "_law_doubled_right" ["_law_one","_law_other"] (Jj K)) (ae:Cal P w K mg base 38 "_law_free" ["_law_one","_law_paper","_law_drawn","_law_points"] (W4 K)) (a2:Cal P w K mg base 35 "_law_common_due" ["_law_one","_law_other","_law_paper"] (Lx K)) (a6:Cal P w K mg base 35 "_law_free_due" ["_law_one","_law_paper"] (Oq K)) (a8:Cal P w K mg base 38 "_law_common" ["_law_one","_law_other","_law_paper","_law_drawn"] (Sw K)):Ti P w K mg base CX0 45 f fd ["_law_script"] (Agm K):=by
 refine F.fn.ok J1 (fun vs H Q E h=> ?_) (fun bv A outer s H vs Q E hr h=> ?_)
 . obtain⟨a,ns,rfl,_⟩:=h
   rfl
 obtain⟨a,ns,rfl,hS,hl,k⟩:=h
 refine Ax ⟨_,(Ad (Ak 1 J1.nd (Al (Aa (Ah Em (Ah Dc (Af I hr (Aa (Ae 0) (Aa Ac Ab))) Ac) Ac) (Aa (Ah Eh Ac (Ah Dc (Af I hr (Aa (Ae 0) (Aa Ac Ab))) Ac)) Ab))))
  (Ad (Ak 2 J1.nd (Af O hr (Aa (Af W hr (Aa (Af I hr (Aa (Ae 0) (Aa Ac Ab))) (Aa Ac Ab))) (Aa (Al (Aa (Bd Ce (Aw Bx (Ae 1) Ac (fun _ _=>rfl))) (Aa (Aw Bx (Ae 1) Ac (fun _ _=>rfl)) Ab))) Ab))))
  (Ad (Ay (Am Hj (Ah Dc (Af I hr (Aa (Ae 0) (Aa Ac Ab))) Ac) Ac (Bb _)) (Ag (Ak 2 J1.nd (Al (Aa Ac Ab)))) Ar)
  (Ad (Ak 3 J1.nd (Af O hr (Aa (Ae 2) (Aa (Af W hr (Aa (Af I hr (Aa (Ae 0) (Aa Ac Ab))) (Aa Ac Ab))) Ab))))
  (Ad (Ak 4 J1.nd (Af O hr (Aa (Ae 2) (Aa (Af W hr (Aa (Af I hr (Aa (Ae 0) (Aa Ac Ab))) (Aa Ac Ab))) Ab))))
  (Ad (Ay (Am Hj (Ah Dc (Af I hr (Aa (Ae 0) (Aa Ac Ab))) Ac) Ac (Bb _)) (Ag (Ak 3 J1.nd (Af O hr (Aa (Ae 3) (Aa (Ae 2) Ab))))) Ar)
  (Ad (Ak 5 J1.nd (Cd (Aa (Af W hr (Aa (Af I hr (Aa (Ae 0) (Aa Ac Ab))) (Aa Ac Ab))) (Aa (Al (Aa (Bd Ce (Aw Bx (Ae 1) Ac (fun _ _=>rfl))) (Aa (Aw Bx (Ae 1) Ac (fun _ _=>rfl)) Ab))) (Aa (Ae 2) (Aa (Al (Aa Ac (Aa Ac Ab))) (Aa (Al (Aa (Bd Ce Ac) (Aa Ac (Aa Ac Ab)))) Ab)))))))
  (Ad (Ak 6 J1.nd (Cd (Aa (Ae 1) (Aa (Al (Aa Ac (Aa Ac Ab))) (Aa (Al (Aa Ac (Aa Ac Ab))) (Aa (Al (Aa (Bd Ce Ac) (Aa Ac Ab))) (Aa (Al (Aa (Ah Em (Ah Dc (Af I hr (Aa (Ae 0) (Aa Ac Ab))) Ac) Ac) (Aa Ac Ab))) Ab)))))))
  (Ad (Cy (Af a7 hr (Aa (Ae 3) (Aa (Ae 4) (Aa (Af I hr (Aa (Ae 0) (Aa Ac Ab))) Ab)))) (Dn rfl (Ai (Aq 8 J1.nd) (Ai (Aq 9 J1.nd) (Ai (Aq 10 J1.nd) Ci)))))
  (Ad (Ak 7 J1.nd (Cd (Aa (Af a1 hr (Aa (Ae 3) (Aa (Ae 4) (Aa (Ae 8) Ab)))) (Aa (Af a5 hr (Aa (Ae 3) (Aa (Ae 9) Ab))) Ab))))
  (Ad (Ay (Bt (Bo (Ba (J9 rfl) rfl au boot_all (Aa (Ea (ts:=["_law_each"]) (fs:=[]) rfl (Dl.of (sc:=Av Vg) (N:=["_law_script","_law_point","_law_common_one","_law_one","_law_other","_law_drawn","_law_points","_law_found","_law_common_paper","_law_free_one","_law_right"]) rfl rfl (by decide+kernel)) (Hg (Ae 7)) (fun _ _ _=>(Aq 0 (show Nodup (["_law_each"]:List Str)by decide+kernel))) (fun _ _ _=>Dj) (fun _ _ _=>(Ba (Aby K) rfl a4 boot_isinstance (Aa (Ae 0) (Aa (Ej (v:= .ty "bool") rfl ap boot_bool rfl) Ab))))) Ab)))) (Ag (Aj Br)) Ar)
  (Ad (Ay (Am (Adl hr.units) (Ae 7) (Cd (Aa (Af a2 hr (Aa (Ae 3) (Aa (Ae 4) (Aa (Ae 8) Ab)))) (Aa (Af a6 hr (Aa (Ae 3) (Aa (Ae 9) Ab))) Ab))) (Bb _)) (Ag (Aj Br)) Ar)
  (Ad (Ay (Cj (Eo (Bo (Ae 10)) (Eu (Cj (Bw (Bt (Bo (Aw Ec (Ae 7) Ac (fun _ _=>rfl)))) (Dw (Cj (Eo (Am (Gz hr.units) (Ae 3) (Al Ab) (Bb _)) (Eu (Bt (Bo (Aw Ec (Ae 7) Ac (fun _ _=>rfl))))))))))))) (Ag (Aj Br)) Ar)
  (Ad (Ay (Cj (Eo (Bo (Aw Ec (Ae 7) Ac (fun _ _=>rfl))) (Eu (Bt (Bo (Af a8 hr (Aa (Ae 3) (Aa (Ae 4) (Aa (Ae 8) (Aa (Ae 5) Ab)))))))))) (Ag (Aj Br)) Ar)
  (Ad (Ay (Bt (Bo (Af Z hr (Aa (Ae 3) (Aa (Ae 4) Ab))))) (Ag (Aj Br)) Ar)
  (Ag (Aj (Qq (Nv (Aw Ec (Ae 7) Ac (fun _ _=>rfl))) (Il (Af ae hr (Aa (Ae 3) (Aa (Ae 9) (Aa (Ae 5) (Aa (Ae 6) Ab)))))))))))))))))))))))),?_⟩
 refine Bp (fun J H'=>∃(zp:Addr) (t d:Int),J=[some (.ref a),some (.ref zp),none,none,none,none,none,none,none,none,none]/\Same H H'/\SqT K H' zp [.int t,.int d]/\Sz 10 t/\Sz 10 d/\Sz 10 (-t)/\0<d) (fun M Y=> ?_) ?_
 . done
   refine M7 hS (Same.refl _) (by decide) ?_
   try done
   refine⟨by decide,M7 hS (Same.refl _) (by decide) ?_⟩
   try done
   refine⟨by decide,?_⟩
   (intro q1 ad;generalize ah:upd _ q1 _=bj;obtain⟨ai,av⟩:=nw ad ah;clear ah ad)
   generalize cell ns 4=c4 at*
   generalize cell ns 5=c5 at*
   exact Y _ _ ⟨q1,_,_,rfl,ai,.of av,by unfold Sz;omega,by unfold Sz;omega,by unfold Sz;omega,by omega⟩
 rintro _ H1 ⟨zp,t,d,rfl,s1,hp,zt,zd,b3,d0⟩
 refine Bp (fun J H'=>∃(v:V) (m:List Int),J=[some (.ref a),some (.ref zp),some v,none,none,none,none,none,none,none,none]/\Same H1 H'/\Po K H' v m 4 70) (fun M Y=> ?_) ?_
 . done
   refine M7 hS s1 (by decide) ?_
   try done
   refine Mf (by decide) (by decide) fun v2 H2 m2 s2 i2=> ?_
   try done
   refine En (s2.tup hp) (Bk (j:=0) rfl) ?_
   try done
   refine En (s2.tup hp) (Bk (j:=1) rfl) ?_
   (intro q3 S;generalize U:upd _ q3 _=af;obtain⟨a0,a3⟩:=nw S U;clear U S)
   have i3:Po K af (.ref q3) [-t,d] 2 10:=Adx (.of a3) (by omega) b3 zd
   refine Fy i2 a0 i3 (Same.refl _) (by decide) (by decide) (by decide) fun v4 H4 s4 i4=> ?_
   exact Y _ _ ⟨v4,_,rfl,(s2.trans a0).trans s4,(i4.tml i2.2.1 i3.2.1 i2.2.2.1 i3.2.2.1).weak (by decide) (by decide)⟩
 rintro _ H2 ⟨v2,m2,rfl,s2,i2⟩
 have b4:=s1.trans s2
 refine Bp (fun J H'=>∃(v:V) (m:List Int),J=[some (.ref a),some (.ref zp),some v,none,none,none,none,none,none,none,none]/\Same H2 H'/\Po K H' v m 4 70) (fun M Y=> ?_) ?_
 . done
   refine M7 hS b4 (by decide) ?_
   try done
   refine⟨by decide,?_⟩
   split
   . (intro q3 S;generalize U:upd _ q3 _=af;obtain⟨a0,a3⟩:=nw S U;clear U S)
     exact Y _ _ ⟨_,[1],rfl,a0,Oa a3 (by decide) (by decide)⟩
   . exact Y _ _ ⟨v2,m2,rfl,Same.refl _,i2⟩
 rintro _ H3 ⟨vc,m,rfl,s3,im⟩
 have b5:=b4.trans s3
 refine Bp (fun J H'=>∃(v:V) (p:List Int),J=[some (.ref a),some (.ref zp),some vc,some v,none,none,none,none,none,none,none]/\Same H3 H'/\Po K H' v p 7 130) (fun M Y=> ?_) ?_
 . done
   refine M7 hS b5 (by decide) ?_
   try done
   refine Mf (by decide) (by decide) fun v4 H4 m4 s4 i4=> ?_
   try done
   refine Fy im s4 i4 (Same.refl _) (by decide) (by decide) (by decide) fun v5 H5 s5 i5=> ?_
   exact Y _ _ ⟨v5,_,rfl,s4.trans s5,(i5.tml im.2.1 i4.2.1 im.2.2.1 i4.2.2.1).weak (by decide) (by decide)⟩
 rintro _ H4 ⟨v4,m4,rfl,s4,i4⟩
 have b6:=b5.trans s4
 refine Bp (fun J H'=>∃(v:V) (q:List Int),J=[some (.ref a),some (.ref zp),some vc,some v4,some v,none,none,none,none,none,none]/\Same H4 H'/\Po K H' v q 10 300) (fun M Y=> ?_) ?_
 . done
   refine M7 hS b6 (by decide) ?_
   try done
   refine Mf (by decide) (by decide) fun v5 H5 m5 s5 i5=> ?_
   try done
   refine Fy im (s4.trans s5) i5 (Same.refl _) (by decide) (by decide) (by decide) fun v6 H6 s6 i6=> ?_
   exact Y _ _ ⟨v6,_,rfl,s5.trans s6,i6.weak (by decide) (by decide)⟩
 rintro _ H5 ⟨y,q,rfl,s5,iy⟩
 have b7:=b6.trans s5
 refine Bp (fun J H'=>∃(v:V) (p:List Int),J=[some (.ref a),some (.ref zp),some vc,some v,some y,none,none,none,none,none,none]/\Same H5 H'/\Po K H' v p 10 300) (fun M Y=> ?_) ?_
 . done
   refine M7 hS b7 (by decide) ?_
   try done
   refine⟨by decide,?_⟩
   split
   . refine Fy i4 s5 im (s4.trans s5) (by decide) (by decide) (by decide) fun v6 H6 s6 i6=> ?_
     exact Y _ _ ⟨v6,_,rfl,s6,(i6.tml i4.2.1 im.2.1 i4.2.2.1 im.2.2.1).weak (by decide) (by decide)⟩
   . exact Y _ _ ⟨v4,m4,rfl,Same.refl _,(i4.mono s5).weak (by decide) (by decide)⟩
 rintro _ H6 ⟨x,p,rfl,s6,ix⟩
 have bm:=s5.trans s6
 have b8:=s4.trans bm
 have aw:=b7.trans s6
 replace iy:=iy.mono s6
 replace im:=im.mono b8
 have ax:=((s2.trans s3).trans b8).tup hp
 clear i4 i2 v4 m4
 refine Bp (fun J H'=>∃(dl:Addr) (ds:List (V × List Int)),J=[some (.ref a),some (.ref zp),some vc,some x,some y,some (.ref dl),none,none,none,none,none]/\Same H6 H'/\Drn K H' dl ds) (fun M Y=> ?_) ?_
 . done
   refine M7 hS aw (by decide) ?_
   try done
   refine Mf (by decide) (by decide) fun v7 H7 m7 s7 i7=> ?_
   try done
   refine En (s7.tup ax) (Bk (j:=0) rfl) ?_
   try done
   refine En (s7.tup ax) (Bk (j:=1) rfl) ?_
   (intro q3 S;generalize U:upd _ q3 _=af;obtain⟨a0,a3⟩:=nw S U;clear U S)
   (intro q4 a9;generalize aa:upd _ q4 _=b9;obtain⟨ab,aj⟩:=nw a9 aa;clear aa a9)
   refine⟨by decide,?_⟩
   (intro q5 ak;generalize am:upd _ q5 _=bn;obtain⟨aq,ay⟩:=nw ak am;clear am ak)
   refine⟨by decide,?_⟩
   (intro q6 ba;generalize bb:upd _ q6 _=bw;obtain⟨bc,bo⟩:=nw ba bb;clear bb ba)
   have t5:=aq.trans bc
   have t4:=ab.trans t5
   have t3:=a0.trans t4
   refine Y _ _ ⟨q6,[(v7,m7),(.ref q3,[-t,d]),(vc,m),(.ref q4,[1,1]),(.ref q5,[-1,0,1])],rfl,s7.trans t3,.of bo,?_⟩
   simp only [mem_cons,not_mem_nil,or_false]
   rintro e (rfl | rfl | rfl | rfl | rfl)
   . exact(i7.mono t3).weak (by decide) (by decide)
   . exact(Adx (.of (t4 _ _ a3)) (by omega) b3 zd).weak (by decide) (by decide)
   . exact(im.mono (s7.trans t3)).weak (by decide) (by decide)
   . exact(Adx (.of (t5 _ _ aj)) (by decide) (by unfold Sz;decide) (by unfold Sz;decide)).weak (by decide) (by decide)
   . refine⟨⟨q5,rfl,.of (bc _ _ ay)⟩,.inr ⟨by simp,by simp⟩,by simp,V8 (by decide) ?_⟩
     simp only [mem_cons,not_mem_nil,or_false]
     rintro x (rfl | rfl | rfl)
     . exact(show Sz 1 (-1)by unfold Sz;decide).mono (by decide)
     . exact Sz0 (by decide)
     . exact(show Sz 1 1 by unfold Sz;decide).mono (by decide)
 rintro _ H7 ⟨dl,ds,rfl,s7,dn⟩
 refine Bp (fun J H'=>∃(pl:Addr) (ps:List (Addr × Int × Int)),J=[some (.ref a),some (.ref zp),some vc,some x,some y,some (.ref dl),some (.ref pl),none,none,none,none]/\Same H7 H'/\Pnt K H' pl ps) (fun M Y=> ?_) ?_
 . done
   (intro q1 ad;generalize ah:upd _ q1 _=bj;obtain⟨ai,av⟩:=nw ad ah;clear ah ad)
   (intro q2 bd;generalize be:upd _ q2 _=bx;obtain⟨bf,bp⟩:=nw bd be;clear be bd)
   (intro q3 S;generalize U:upd _ q3 _=af;obtain⟨a0,a3⟩:=nw S U;clear U S)
   refine M7 hS ((aw.trans s7).trans ((ai.trans bf).trans a0)) (by decide) ?_
   try done
   refine⟨by decide,?_⟩
   (intro q4 a9;generalize aa:upd _ q4 _=b9;obtain⟨ab,aj⟩:=nw a9 aa;clear aa a9)
   refine⟨by decide,?_⟩
   (intro q5 ak;generalize am:upd _ q5 _=bn;obtain⟨aq,ay⟩:=nw ak am;clear am ak)
   have t4:=ab.trans aq
   have t3:=a0.trans t4
   have t2:=bf.trans t3
   refine Y _ _ ⟨q5,[(zp,t,d),(q1,0,1),(q2,1,1),(q3,-1,1),(q4,cell ns 8%41-20,1)],rfl,ai.trans t2,.of ay,?_⟩
   simp only [mem_cons,not_mem_nil,or_false]
   have z1:Sz 10 (1:Int):=by unfold Sz;decide
   have o1:(0:Int)<1:=by decide
   rintro e (rfl | rfl | rfl | rfl | rfl)
   . exact⟨(s7.trans (ai.trans t2)).tup ax,zt,zd,d0⟩
   . exact⟨.of (t2 _ _ av),show Sz 10 (0:Int)by unfold Sz;decide,z1,o1⟩
   . exact⟨.of (t3 _ _ bp),z1,z1,o1⟩
   . exact⟨.of (t4 _ _ a3),show Sz 10 (-1:Int)by unfold Sz;decide,z1,o1⟩
   . exact⟨.of (aq _ _ aj),show Sz 10 (cell ns 8%41-20)by unfold Sz;omega,z1,o1⟩
 rintro _ H8 ⟨pl,ps,rfl,s8,pn⟩
 have ar:=s7.trans s8
 refine Bp (fun J H'=>∃(z1 z2:V) (b:Bool) (d1 d2:Option (List T3)),J=[some (.ref a),some (.ref zp),some vc,some x,some y,some (.ref dl),some (.ref pl),none,some z1,some z2,some (.bl b)]/\Same H8 H'/\Ppr K H' 6 (NF 9100 9100) z1 d1/\Ppr K H' 7 (NF 51100 60000100) z2 d2/\(b=true->srB p q d1=true/\(p≠ []->frB p d2=true))) (fun M Y=> ?_) ?_
 . done
   refine M7 hS (aw.trans ar) (by decide) ?_
   try done
   refine⟨x,y,_,p,q,rfl,ix.mono ar,iy.mono ar,fun z H9 z1 z2 b d1 d2 s9 hz h1 h2 hb=> ?_⟩
   refine⟨z,_,rfl,hz,rfl,z1,_,rfl,z2,_,rfl,_,_,rfl,rfl,?_⟩
   try done
   exact Y _ _ ⟨z1,z2,b,d1,d2,rfl,s9,h1,h2,hb⟩
 rintro _ H9 ⟨z1,z2,b,d1,d2,rfl,s9,h1,h2,hb⟩
 have bg:=ar.trans s9
 have ac:=ix.mono bg
 have as:=iy.mono bg
 clear ix iy
 have b1:∀i,NF 9100 9100 i<=20000000:=fun i=>by unfold NF;split<;>decide
 have b2:∀i,NF 51100 60000100 i<=80000000:=fun i=>by unfold NF;split<;>decide
 obtain⟨⟨dx,rfl,bq⟩,_⟩:=id ac
 refine Bp (fun J H'=>∃fl:Addr,J=[some (.ref a),some (.ref zp),some vc,some (.ref dx),some y,some (.ref dl),some (.ref pl),some (.ref fl),some z1,some z2,some (.bl b)]/\Same H9 H'/\H' fl=some (.lst [.bl (srB p q d1),.bl (frB p d2)])) (fun M Y=> ?_) ?_
 . done
   refine⟨_,y,z1,p,q,d1,_,300,rfl,ac.weak (by decide) (by decide),as.weak (by decide) (by decide),h1,by decide,by decide,b1,fun G1 u1=> ?_⟩
   try done
   refine⟨_,z2,p,d2,_,300,rfl,(ac.mono u1).weak (by decide) (by decide),h2.mono u1,by decide,by decide,b2,by decide,fun G2 u2=> ?_⟩
   try done
   (intro q3 S;generalize U:upd _ q3 _=af;obtain⟨a0,a3⟩:=nw S U;clear U S)
   exact Y _ _ ⟨q3,rfl,(u1.trans u2).trans a0,a3⟩
 rintro _ Ha ⟨fl,rfl,sa,hf⟩
 refine Bp (fun J H'=>J=[some (.ref a),some (.ref zp),some vc,some (.ref dx),some y,some (.ref dl),some (.ref pl),some (.ref fl),some z1,some z2,some (.bl b)]/\Same Ha H') (fun M Y=> ?_) ?_
 . done
   refine⟨⟨_,.of hf⟩,fun q1 ad=>Gx (es:=[srB p q d1,frB p d2]) (inj:=V.bl) (fun _=> .bl true) (show 2<=sizeLine by decide) ad (Tf (.of hf)) ?_ ?_⟩
   . intro e G R he sg hR
     done
     exact⟨_,_,_,_,rfl,.bl e,Ro (b:=true) (by decide+kernel),hR _ (Same.refl _)⟩
   intro G sg hg
   exact⟨q1,[true,true],rfl,.of hg,Y _ _ ⟨rfl,sg⟩⟩
 rintro _ Hb ⟨rfl,sb⟩
 have ag:=sa.trans sb
 refine Bp (fun J H'=>J=[some (.ref a),some (.ref zp),some vc,some (.ref dx),some y,some (.ref dl),some (.ref pl),some (.ref fl),some z1,some z2,some (.bl b)]/\Same Hb H') (fun M Y=> ?_) ?_
 . done
   refine⟨_,y,z1,p,q,d1,_,300,rfl,(ac.mono ag).weak (by decide) (by decide),(as.mono ag).weak (by decide) (by decide),h1.mono ag,by decide,by decide,b1,fun G1 u1=> ?_⟩
   try done
   refine⟨_,z2,p,d2,_,300,rfl,(ac.mono (ag.trans u1)).weak (by decide) (by decide),h2.mono (ag.trans u1),by decide,by decide,b2,by decide,fun G2 u2=> ?_⟩
   try done
   (intro q3 S;generalize U:upd _ q3 _=af;obtain⟨a0,a3⟩:=nw S U;clear U S)
   generalize srB p q d1=e1 at*
   generalize frB p d2=e2 at*
   have t3:=(u1.trans u2).trans a0
   refine⟨.list [.bool e1,.bool e2],.list [.bool e1,.bool e2],.lst (.of ((sb.trans t3) _ _ hf)) (.cons (.bl _) (.cons (.bl _) .nil)),.lst (.of a3) (.cons (.bl _) (.cons (.bl _) .nil)),by cases e1<;>cases e2<;>decide,by cases e1<;>cases e2<;>decide,?_⟩
   have ee:PyData.eqv (.list [.bool e1,.bool e2]) (.list [.bool e1,.bool e2])=true:=by cases e1<;>cases e2<;>decide
   rw [ee]
   exact⟨_,rfl,Y _ _ ⟨rfl,t3⟩⟩
 rintro _ Hc ⟨rfl,sc⟩
 have an:=(sb.trans sc) _ _ hf
 have bh:=ag.trans sc
 refine Bp (fun J H'=>J=[some (.ref a),some (.ref zp),some vc,some (.ref dx),some y,some (.ref dl),some (.ref pl),some (.ref fl),some z1,some z2,some (.bl b)]/\Same Hc H') (fun M Y=> ?_) ?_
 . done
   cases b with
   | false=>exact Y _ _ ⟨rfl,Same.refl _⟩
   | true=>
   rw [if_pos rfl]
   obtain⟨e1,e2⟩:=hb rfl
   rw [e1]at an
   refine Fi (.of an) (Bk (j:=0) rfl) ⟨_,rfl,?_⟩
   rw [if_neg (by decide)]
   refine⟨by decide,?_⟩
   (intro q4 a9;generalize aa:upd _ q4 _=b9;obtain⟨ab,aj⟩:=nw a9 aa;clear aa a9)
   refine Bu (ms:=[]) ((bh.trans ab).tup bq) (.of aj) ⟨_,rfl,?_⟩
   by_cases np:p=[]
   . rw [decide_eq_true np]
     exact Y _ _ ⟨rfl,ab⟩
   rw [decide_eq_false np,if_pos (by decide)]
   refine Fi (.of (ab _ _ an)) (Bk (j:=1) rfl) ⟨_,rfl,?_⟩
   rw [e2 np,if_neg (by decide)]
   exact Y _ _ ⟨rfl,ab⟩
 rintro _ Hd ⟨rfl,sd⟩
 have br:=sd _ _ an
 have ao:=bh.trans sd
 refine Bp (fun J H'=>J=[some (.ref a),some (.ref zp),some vc,some (.ref dx),some y,some (.ref dl),some (.ref pl),some (.ref fl),some z1,some z2,some (.bl b)]/\Same Hd H') (fun M Y=> ?_) ?_
 . done
   refine Fi (.of br) (Bk (j:=0) rfl) ⟨_,rfl,?_⟩
   split
   case isFalse=>exact Y _ _ ⟨rfl,Same.refl _⟩
   rename_i es
   have bt:=s9.trans ao
   exact⟨_,y,z1,dl,p,q,d1,_,ds,rfl,(ac.mono ao).weak (by decide) (by decide),(as.mono ao).weak (by decide) (by decide),h1.mono ao,es,by decide,dn.mono (s8.trans bt),fun G1 u1=>⟨_,rfl,Y _ _ ⟨rfl,u1⟩⟩⟩
 rintro _ He ⟨rfl,se⟩
 have az:=ao.trans se
 refine Bp (fun J H'=>J=[some (.ref a),some (.ref zp),some vc,some (.ref dx),some y,some (.ref dl),some (.ref pl),some (.ref fl),some z1,some z2,some (.bl b)]/\Same He H') (fun M Y=> ?_) ?_
 . done
   exact⟨_,y,p,q,rfl,ac.mono az,as.mono az,fun G1 u1=>⟨_,rfl,Y _ _ ⟨rfl,u1⟩⟩⟩
 rintro _ Hf ⟨rfl,sf⟩
 have b0:=az.trans sf
 have bu:=((sd.trans se).trans sf) _ _ an
 done
 refine Fi (.of bu) (Bk (j:=1) rfl) ⟨_,rfl,?_⟩
 split
 case isTrue=>exact k _
 rename_i es
 have bi:=s9.trans b0
 exact⟨_,z2,dl,pl,p,d2,_,ds,ps,rfl,ac.mono b0,h2.mono b0,by simpa using es,dn.mono (s8.trans bi),pn.mono bi,fun G1 u1=>k _⟩
end
noncomputable abbrev Fd (K:Frag) (x:Str) (st:Stmt):Prop:=∃(f:Addr) (od an:Option Addr) (sl:Array (Option Value)) (oc kV dc pm cd ct:Value),PySem.W.nsIn K mainGlobals x=some (some (.ref f))/\K.lookup f=some ⟨oc,od,.func (PySem.W.fnOf x x (M9 st) (Kc st) (Av st) .none kV dc pm an cd ct),sl⟩/\PySem.W.codeIn K cd x=true/\keepIn K (.ref f)=true
theorem us1 {P:List Value->Prop} (h:∀a,P [a]) (z:List Value) (I:z.length=1):P z:=match z,I with | [_],_=>h _
theorem us2 {P:List Value->Prop} (h:∀a b,P [a,b]) (z:List Value) (I:z.length=2):P z:=match z,I with | [_,_],_=>h _ _
theorem us3 {P:List Value->Prop} (h:∀a b c,P [a,b,c]) (z:List Value) (I:z.length=3):P z:=match z,I with | [_,_,_],_=>h _ _ _
theorem us4 {P:List Value->Prop} (h:∀a b c d,P [a,b,c,d]) (z:List Value) (I:z.length=4):P z:=match z,I with | [_,_,_,_],_=>h _ _ _ _
theorem Dh {K:Frag}{h:Heap}{mg:Str->Option Value}{x:Str}{st:Stmt} (X:K.In h) (G:h.Ns mainGlobals mg) (d:Fd K x st) (ps:List Str) (M:∀(kV z pm:Value) (O:Option Addr) (I ct:Value) (J:List Value),J.length=ps.length->bindArgs (PySem.W.fnOf x x (M9 st) (Kc st) (Av st) .none kV z pm O I ct) ⟨J,[]⟩=pure (ps.zip J):=by first | exact(fun _ _ _ _ _ _=>us1 fun _=>rfl) | exact(fun _ _ _ _ _ _=>us2 fun _ _=>rfl) | exact(fun _ _ _ _ _ _=>us3 fun _ _ _=>rfl) | exact(fun _ _ _ _ _ _=>us4 fun _ _ _ _=>rfl)):∃f fd,Df K mg x st ps f fd:=by
 obtain⟨f,_,_,_,_,_,_,_,_,_,a,l,c,k⟩:=d
 have F:=Ahj (st:=st) l c k
 exact⟨_,_,F,F.binds M,mg_of X G a⟩
theorem all_mk {l:PySem.W.OpenLaw}{w:World}{K:Frag}{h:Heap}{mg:Str->Option Value}{fa:Addr} (X:K.In h) (G:h.Ns mainGlobals mg) (dl:mg "law"=some (.ref fa))
 (d1:Fd K "_law_cut" Yr) (d2:Fd K "_law_product" Nj) (d3:Fd K "degree" Vf) (d4:Fd K "p_times" R8) (d5:Fd K "repeated" Pn) (d6:Fd K "power" Yp) (d7:Fd K "whole_power" Kh) (d8:Fd K "raised" Vl) (d9:Fd K "poly" Aec) (dm:Fd K "p_plus" Qv) (dp:Fd K "scaled" Qx) (dq:Fd K "p_minus" R7) (dt:Fd K "scaled_division" Ho) (du:Fd K "shrunk" Qy) (dw:Fd K "next_row" Pa) (dy:Fd K "last_row" Ml) (dz:Fd K "divisor" R6) (e0:Fd K "divisor_of" Li) (e1:Fd K "content" R5) (e2:Fd K "unit" Aed) (e3:Fd K "plain" Yo) (e4:Fd K "long_division" Ge) (e5:Fd K "whole_part" Lq) (e6:Fd K "shared_paper" Jr) (e7:Fd K "_law_mixed" R9) (e8:Fd K "_law_weight" Pk) (e9:Fd K "_law_poly" Qw) (ea:Fd K "_law_sum" Vk) (eb:Fd K "_law_scaled" Mp) (ec:Fd K "_law_made_over" Kg) (ed:Fd K "_law_any" Yq) (ee:Fd K "_law_free_over" Ib) (ef:Fd K "refuse_nought" Ir) (eg:Fd K "by_number" Ke) (eh:Fd K "inverse_by" Lk) (ej:Fd K "single" Vn) (ek:Fd K "m_parted" O8) (em:Fd K "m_rest" Vh) (en:Fd K "m_shared" O9) (eo:Fd K "surely_apart" Js) (ep:Fd K "shared" Vm) (eq:Fd K "derived" Oe) (er:Fd K "free_part" Ng) (et:Fd K "free_paper" Lj) (eu:Fd K "_law_turned" Pj) (ew:Fd K "_law_free_forged" Ip) (ey:Fd K "_law_forged" Pg) (ez:Fd K "_law_papers" Ph) (f0:Fd K "_law_cell_at" Nh) (f1:Fd K "is_whole" O7) (f2:Fd K "is_poly" Og) (f3:Fd K "shared_right" Ht) (f5:Fd K "same_roots" Lp) (f6:Fd K "free_right" Jf) (f7:Fd K "_law_doubled_right" Hl) (f8:Fd K "parted" Vi) (f9:Fd K "_law_divides" Ni) (fb:Fd K "_law_value" Sd) (fc:Fd K "_law_free" Vj) (fe:Fd K "_law_whole" Sh) (ff:Fd K "_law_gcd" Ys) (fg:Fd K "_law_is_plain" Ln) (fh:Fd K "_law_is_poly" Kf) (fi:Fd K "_law_common_due" Hs) (fj:Fd K "_law_free_due" Hx) (fk:Fd K "_law_common" Pb) (fl:Fd K "law" Vg)
 {bn:Addr} (bo:PySem.W.nsIn K mainGlobals "NoPart"=some (some (.ref bn)))
 {bp:Addr} (bq:PySem.W.nsIn K mainGlobals "NoFree"=some (some (.ref bp)))
 {cw:Tok}
 (cg:excIn K bn [.type "ValueError",.type "Exception",.type "BaseException",.type "object"] "ValueError.__new__"=true)
 (ch:excIn K bp [.type "ValueError",.type "Exception",.type "BaseException",.type "object"] "ValueError.__new__"=true)
 (cs:PySem.W.nsIn K mainGlobals "PRIME"=some (some (.int 2305843009213693951 cw)))
 (cz:PySem.W.nsIn K mainGlobals "list"=some none) (cx:PySem.W.nsIn K mainGlobals "tuple"=some none) (cy:PySem.W.nsIn K mainGlobals "range"=some none) (db:PySem.W.nsIn K mainGlobals "len"=some none) (br:PySem.W.nsIn K mainGlobals "enumerate"=some none) (dd:PySem.W.nsIn K mainGlobals "zip"=some none) (de:PySem.W.nsIn K mainGlobals "abs"=some none) (df:PySem.W.nsIn K mainGlobals "max"=some none) (bg:PySem.W.nsIn K mainGlobals "isinstance"=some none) (dg:PySem.W.nsIn K mainGlobals "int"=some none) (d0:PySem.W.nsIn K mainGlobals "bool"=some none) (dh:PySem.W.nsIn K mainGlobals "all"=some none) (c6:PySem.W.nsIn K mainGlobals "reversed"=some none):
 ∃fd:FuncData,(∀(s:Shared) (v:Value),BindsTo s fd ⟨[v],[]⟩ [("_law_script",v)])/\∀base:Heap,Pyl l.prog base->Ti l.prog w K mg base CX0 45 fa fd ["_law_script"] (Agm K):=by
 obtain⟨hj,_,an,sl,oc,kV,dc,pm,cd,ct,dj,fm,fn,fo⟩:=fl
 obtain⟨f4,_,_,_,_,_,_,_,_,_,a4,_⟩:=id d4
 have e:=dl.symm.trans (mg_of X G dj)
 cases e
 have ad:=mg_none_of X G cz
 have I:=mg_none_of X G cx
 have S:=mg_none_of X G cy
 have J:=mg_none_of X G db
 have Y:=mg_none_of X G br
 have da:=mg_none_of X G dd
 have c7:=mg_none_of X G de
 have c8:=mg_none_of X G df
 have z:=mg_none_of X G bg
 have c9:=mg_none_of X G dg
 have bh:=mg_none_of X G d0
 have aj:=mg_none_of X G dh
 have bt:=mg_none_of X G c6
 have bu:=Ail bo
 have bv:=Ail bq
 have ci:=Ail a4
 have b0:mg "p_times"=some (.ref (cA K "p_times")):=by rw [ci];exact mg_of X G a4
 have ak:Abo K (cA K "NoPart"):=by rw [bu];exact cg
 have am:mg "NoPart"=some (.ref (cA K "NoPart")):=by rw [bu];exact mg_of X G bo
 have ca:Abo K (cA K "NoFree"):=by rw [bv];exact ch
 have cb:mg "NoFree"=some (.ref (cA K "NoFree")):=by rw [bv];exact mg_of X G bq
 have cj:∃u,mg "PRIME"=some u/\RelV (V.int 2305843009213693951) u:=⟨_,mg_of X G cs,⟨_,rfl⟩⟩
 obtain⟨_,_,D1⟩:=Dh X G d1 ["_law_weights"]
 obtain⟨_,_,D2⟩:=Dh X G d2 ["_law_one","_law_other"]
 obtain⟨_,_,D3⟩:=Dh X G d3 ["one"]
 obtain⟨_,_,D4⟩:=Dh X G d4 ["one","other"]
 obtain⟨_,_,D5⟩:=Dh X G d5 ["start","one","many","product"]
 obtain⟨_,_,D6⟩:=Dh X G d6 ["one","many"]
 obtain⟨_,_,D7⟩:=Dh X G d7 ["number","many"]
 obtain⟨_,_,D8⟩:=Dh X G d8 ["one","many"]
 obtain⟨_,_,D9⟩:=Dh X G d9 ["weights"]
 obtain⟨_,_,fp⟩:=Dh X G dm ["one","other"]
 obtain⟨_,_,fq⟩:=Dh X G dp ["one","factor"]
 obtain⟨_,_,ft⟩:=Dh X G dq ["one","other"]
 obtain⟨_,_,fu⟩:=Dh X G dt ["one","other"]
 obtain⟨_,_,fv⟩:=Dh X G du ["one","number"]
 obtain⟨_,_,fw⟩:=Dh X G dw ["first","second","known"]
 obtain⟨_,_,fy⟩:=Dh X G dy ["first","second"]
 obtain⟨_,_,fz⟩:=Dh X G dz ["one","other"]
 obtain⟨_,_,g0⟩:=Dh X G e0 ["some"]
 obtain⟨_,_,g1⟩:=Dh X G e1 ["one"]
 obtain⟨_,_,g2⟩:=Dh X G e2 ["one"]
 obtain⟨_,_,g3⟩:=Dh X G e3 ["one"]
 obtain⟨_,_,g4⟩:=Dh X G e4 ["one","other","scaling"]
 obtain⟨_,_,g5⟩:=Dh X G e5 ["one","other"]
 obtain⟨_,_,g6⟩:=Dh X G e6 ["one","other"]
 obtain⟨_,_,g7⟩:=Dh X G e7 ["_law_cell","_law_k"]
 obtain⟨_,_,g8⟩:=Dh X G e8 ["_law_cell","_law_k"]
 obtain⟨_,_,g9⟩:=Dh X G e9 ["_law_cell","_law_most"]
 obtain⟨_,_,ga⟩:=Dh X G ea ["_law_one","_law_other"]
 obtain⟨_,_,gb⟩:=Dh X G eb ["_law_one","_law_by"]
 obtain⟨_,_,gd⟩:=Dh X G ec ["_law_one","_law_other","_law_paper","_law_cell"]
 obtain⟨_,_,ge⟩:=Dh X G ed ["_law_cell","_law_many"]
 obtain⟨_,_,gf⟩:=Dh X G ee ["_law_paper","_law_cell"]
 obtain⟨_,_,gg⟩:=Dh X G ef ["one"]
 obtain⟨_,_,gh⟩:=Dh X G eg ["one","m"]
 obtain⟨_,_,gi⟩:=Dh X G eh ["number","m"]
 obtain⟨_,_,gj⟩:=Dh X G ej ["one","t"]
 obtain⟨_,_,gk⟩:=Dh X G ek ["one","other","m"]
 obtain⟨_,_,gm⟩:=Dh X G em ["one","other","m"]
 obtain⟨_,_,gn⟩:=Dh X G en ["one","other","t"]
 obtain⟨_,_,go⟩:=Dh X G eo ["one","other"]
 obtain⟨_,_,gp⟩:=Dh X G ep ["one","other"]
 obtain⟨_,_,gq⟩:=Dh X G eq ["one"]
 obtain⟨_,_,gr⟩:=Dh X G er ["one"]
 obtain⟨_,_,gs⟩:=Dh X G et ["one"]
 obtain⟨_,_,gt⟩:=Dh X G eu ["_law_paper","_law_cell"]
 obtain⟨_,_,gu⟩:=Dh X G ew ["_law_one","_law_told","_law_cell"]
 obtain⟨_,_,gv⟩:=Dh X G ey ["_law_one","_law_other","_law_told","_law_cell"]
 obtain⟨_,_,gw⟩:=Dh X G ez ["_law_one","_law_other","_law_cell"]
 obtain⟨_,_,gx⟩:=Dh X G f0 ["_law_script","_law_k"]
 obtain⟨_,_,gy⟩:=Dh X G f1 ["thing"]
 obtain⟨_,_,gz⟩:=Dh X G f2 ["thing"]
 obtain⟨_,_,h0⟩:=Dh X G f3 ["one","other","paper"]
 obtain⟨_,_,h3⟩:=Dh X G f5 ["one","f","c","w"]
 obtain⟨_,_,h4⟩:=Dh X G f6 ["one","paper"]
 obtain⟨_,_,h5⟩:=Dh X G f7 ["_law_one","_law_other"]
 obtain⟨_,_,h6⟩:=Dh X G f8 ["one","other"]
 obtain⟨_,_,h7⟩:=Dh X G f9 ["_law_one","_law_other"]
 obtain⟨_,_,h8⟩:=Dh X G fb ["_law_one","_law_point"]
 obtain⟨_,_,h9⟩:=Dh X G fc ["_law_one","_law_paper","_law_drawn","_law_points"]
 obtain⟨_,_,ha⟩:=Dh X G fe ["_law_found"]
 obtain⟨_,_,hb⟩:=Dh X G ff ["_law_one","_law_other"]
 obtain⟨_,_,hc⟩:=Dh X G fg ["_law_one"]
 obtain⟨_,_,hd⟩:=Dh X G fh ["_law_found"]
 obtain⟨_,_,he⟩:=Dh X G fi ["_law_one","_law_other","_law_paper"]
 obtain⟨_,_,hf⟩:=Dh X G fj ["_law_one","_law_paper"]
 obtain⟨_,_,hg⟩:=Dh X G fk ["_law_one","_law_other","_law_paper","_law_drawn"]
 have dk:=Ahj (st:=Vg) fm fn fo
 have hh:Df K mg "law" Vg ["_law_script"] _ _:=⟨dk,dk.binds (ps:=["_law_script"]) fun _ _ _ _ _ _ us hl=>match us,hl with | [_],_=>rfl,mg_of X G dj⟩
 refine⟨PySem.W.fnOf "law" "law" (M9 Vg) (Kc Vg) (Av Vg) .none kV dc pm an cd ct,fun s v=> .of_eq rfl,fun base py=> ?_⟩
 have a3:= @Af1 l.prog w K mg base _ _ D1 ad I
 have O:=Wn D2 S J a3
 have U:= @Ac9 l.prog w K mg base _ _ D3 J
 have a0:= @Aau l.prog w K mg base _ _ D4 Y I J
 have bw:=Yd D5 b0 a0
 have as:=Afz D6 b0 bw
 have a9:=Tt D7 as
 have ck:= @Adg l.prog w K mg base _ _ D8
 have au:= @Ajd l.prog w K mg base _ _ D9 J I
 have ae:=Adb fp ad Y J au
 have a2:= @Adh l.prog w K mg base _ _ fq I
 have b4:=Aas ft ae a2
 have ao:=N7 fu S J ck ae b4 U au a2 a0
 have bf:= @Adj l.prog w K mg base _ _ fv I py
 have bx:=X4 fw da I a9 ao bf U b4 a2 a0
 have b1:=Xy fy py U bx a9
 have b5:= @Aaq l.prog w K mg base _ _ fz c7
 have ba:=U4 g0 b5
 have cc:=Aao g1 ba
 have bi:=Aje g2 cc
 have Z:=Afy g3 bf bi
 have a5:=Ql g4 ad S c8 J c7 Y py ak am au b5 U
 have aa:=Vb g5 a5
 have af:=aa.calm (Rq K)
 have a1:=Rx g6 b1 Z af bi
 have b6:= @Aav l.prog w K mg base _ _ g7
 have bz:=Yc g8 b6
 have a6:=Adf g9 S a3 bz
 have av:=Af3 ga c8 J ad S a3
 have M:=X8 gb a3
 have b7:=Tq gd a6 av M O
 have cu:=Af0 ge S I a6 b6
 have b8:=Tp gf S J a6 a3 av M O
 have aw:= @Qn l.prog w K mg base _ _ gg ca cb
 have a7:=Wg gh au
 have ab:= @U7 l.prog w K mg base _ _ gi ak am
 have bb:=ab.calm (Rp K)
 have cl:=Adk gj a7 a2 bb
 have bj:=Xz gk ad S c8 J Y ak am ab a7 au U
 have c0:=bj.calm (U0 K)
 have cm:=Ada gm c0
 have c1:=X3 gn a7 cl cm
 have b2:=Rz go cj U c1
 have cn:=Adi gp b2 Z b1
 have ap:= @Aap l.prog w K mg base _ _ gq I Y
 have bc:=Wh gr aw Z aa cn ap
 have bl:=bc.calm (Tn K)
 have ag:=U5 gs bl af as Z a1 bi U ap
 have c2:=Yb gt J z I ad a6 M a3
 have az:=Qm gu J S py M Z O
 have c3:=X6 gv c9 M
 have c4:=X7 gw a1 b7 cu b8 ag c2 az c3
 have bm:= @Wi l.prog w K mg base _ _ gx J
 have ac:= @Xx l.prog w K mg base _ _ gy z c9 bh
 have b9:=Aar gz z I aj J ac
 have a8:=Ry h0 z I J aj ae a2 ac Z a0 b9
 have bd:=Va h3 a2 a0 U as
 have ah:=U6 h4 aj z I J ae ac Z a0 bd b9 ap
 have aq:=N6 h5 J a1 M ag a8 ah
 have ce:=Adc h6 a5
 have cq:=ce.calm (Xu K)
 have ax:=Wj h7 cq
 have cf:= @Aaw l.prog w K mg base _ _ h8 bt
 have cr:=Ade h9 J ax as Z O cf
 have ar:= @Aax l.prog w K mg base _ _ ha z c9 bh
 have cv:= @Af2 l.prog w K mg base _ _ hb c7
 have ai:=U9 hc cv
 have ay:=Wm hd z I aj ar
 have b3:=Rv he z I J aj av O M ar ai ay
 have be:=U8 hf S aj z I J a3 O M av ar ai ay
 have c5:=X5 hg Z ax
 exact @Ala l.prog w K mg base _ _ hh aj z bh O c4 a6 bm a8 ah aq cr b3 be c5
theorem walk {l:PySem.W.OpenLaw}{q:Program}{I:List Str}{Y:(Str->Option Value)->Heap->Prop}{S:World->Heap->Prop}{d:DefRec}{K:Params->Frag} (Z:l.most=some 63) (J:d.params.defaults=[]) (M:PyProof.Rows.importsNone q=true) (O:l.prog.given.tree=none)
 (hY:∀(w:World) (h:Heap),S w h->(K w.params).In h)
 (F:∀(w:World) (mg:Str->Option Value) (U:Addr) (h:Heap),(K w.params).In h->h.Ns mainGlobals mg->mg d.name=some (.ref U)->
   ∃fd:FuncData,(∀(s:Shared) (u:Value),BindsTo s fd ⟨[u],[]⟩ [("_law_script",u)])/\∀base:Heap,Pyl l.prog base->Ti l.prog w (K w.params) mg base CX0 45 U fd ["_law_script"] (Agm (K w.params))):
 PySem.W.WalkO q I Y S l.row.toRowW d [] (fun f vs=>PySem.call f vs):=
 L2.Agv (n:=63) (k:=45) (x:="_law_script") (sp:=Agm) Z (by decide) J ⟨rfl,by decide,by decide⟩ M O hY F (fun _ _ a ns hl hS=>⟨a,ns,rfl,hS,hl,fun _=>rfl⟩) fun _ _ _ _ z=>z
end Z
namespace PySem.W.Fast
noncomputable def tw10474479566841184053:=()
noncomputable def tw10744374028918937224:=()
noncomputable def tw10869835927001749496:=()
noncomputable def tw10898957421118247334:=()
noncomputable def tw1093847135633964549:=()
noncomputable def tw11066509438728874832:=()
noncomputable def tw11370262697948753669:=()
noncomputable def tw11586007589202455400:=()
noncomputable def tw11657190631637118703:=()
noncomputable def tw11706300831925046952:=()
noncomputable def tw12164753043365954500:=()
noncomputable def tw12410455547877092980:=()
noncomputable def tw12591572090861391184:=()
noncomputable def tw12914933399100641404:=()
noncomputable def tw12937637853552393107:=()
noncomputable def tw13146643804301221996:=()
noncomputable def tw1363534460531938326:=()
noncomputable def tw1371995021193467571:=()
noncomputable def tw13887123004935574907:=()
noncomputable def tw13913556504849416621:=()
noncomputable def tw14375854519137248938:=()
noncomputable def tw1448158300031271324:=()
noncomputable def tw14662007815573249975:=()
noncomputable def tw15029896390078654105:=()
noncomputable def tw15097137344720714488:=()
noncomputable def tw15393465680805688742:=()
noncomputable def tw15528447550653470721:=()
noncomputable def tw15569204937812412546:=()
noncomputable def tw15628794066331776183:=()
noncomputable def tw15891012106667113793:=()
noncomputable def tw15983325993084542744:=()
noncomputable def tw16069331206940211378:=()
noncomputable def tw16247017360075019846:=()
noncomputable def tw16384800815838392673:=()
noncomputable def tw16731140137415268256:=()
noncomputable def tw16819178272288132014:=()
noncomputable def tw16853760277249721478:=()
noncomputable def tw16946045894662062619:=()
noncomputable def tw16974466097641958359:=()
noncomputable def tw17163390813009899919:=()
noncomputable def tw17453352461748515797:=()
noncomputable def tw17599089369294522322:=()
noncomputable def tw17690787678755821383:=()
noncomputable def tw17745876964313778373:=()
noncomputable def tw1820812451583131733:=()
noncomputable def tw18301112528382706953:=()
noncomputable def tw18350958572184702426:=()
noncomputable def tw1894424502482620483:=()
noncomputable def tw1921123309518843534:=()
noncomputable def tw1925955653018361191:=()
noncomputable def tw1980635763200257382:=()
noncomputable def tw1982433894386882968:=()
noncomputable def tw2097792987201408425:=()
noncomputable def tw2109501790734695302:=()
noncomputable def tw2159388490457340592:=()
noncomputable def tw2498003871959929992:=()
noncomputable def tw2710739728753492064:=()
noncomputable def tw29768672720444776:=()
noncomputable def tw3011796348594719056:=()
noncomputable def tw3356984681427537117:=()
noncomputable def tw3371556842256234769:=()
noncomputable def tw3609999382272966983:=()
noncomputable def tw3715430321698474726:=()
noncomputable def tw3846171433242178877:=()
noncomputable def tw4012084636851654904:=()
noncomputable def tw4211336334874739963:=()
noncomputable def tw432745472645767701:=()
noncomputable def tw4661247961027662962:=()
noncomputable def tw5081749471182965927:=()
noncomputable def tw5144199402200721081:=()
noncomputable def tw528884754538458482:=()
noncomputable def tw5558849588602864033:=()
noncomputable def tw5610355929888719302:=()
noncomputable def tw5673893895161410389:=()
noncomputable def tw6110524581572393518:=()
noncomputable def tw6181039944198189070:=()
noncomputable def tw6400657213470524992:=()
noncomputable def tw7150976785683658921:=()
noncomputable def tw7289233822299447763:=()
noncomputable def tw7345834041275040416:=()
noncomputable def tw7346546128129656841:=()
noncomputable def tw7476532687422220304:=()
noncomputable def tw7738295922402040997:=()
noncomputable def tw7911337196734043559:=()
noncomputable def tw8013645544623724056:=()
noncomputable def tw8247171580269314910:=()
noncomputable def tw834037181015798265:=()
noncomputable def tw9540679515674791482:=()
noncomputable def tw9670675765172228826:=()
noncomputable def tw9957282858443116859:=()
noncomputable def tw10036731604650072581:=()
noncomputable def tw10065439908659471520:=()
noncomputable def tw1016839863782162612:=()
noncomputable def tw10171276634839780833:=()
noncomputable def tw1017214803324463481:=()
noncomputable def tw10181815325857037261:=()
noncomputable def tw10200669700462549024:=()
noncomputable def tw10269280218068742362:=()
noncomputable def tw10274782377401848406:=()
noncomputable def tw10301180870144393362:=()
noncomputable def tw10336293017699737696:=()
noncomputable def tw10364218246726050727:=()
noncomputable def tw10367814698340395755:=()
noncomputable def tw10469486051204761831:=()
noncomputable def tw10574382003507726305:=()
noncomputable def tw1061749910207031586:=()
noncomputable def tw10623212294773204172:=()
noncomputable def tw10643945489352944414:=()
noncomputable def tw10687971099049381460:=()
noncomputable def tw10762204077461820798:=()
noncomputable def tw10827319766350971032:=()
noncomputable def tw10827587974397769441:=()
noncomputable def tw1083543459132647265:=()
noncomputable def tw10911460852640922725:=()
noncomputable def tw10987116477971325573:=()
noncomputable def tw11009905068097416356:=()
noncomputable def tw11014084703083771285:=()
noncomputable def tw11074796551916716429:=()
noncomputable def tw11204954123650101917:=()
noncomputable def tw11211540019362666025:=()
noncomputable def tw11222568595897583560:=()
noncomputable def tw11226216845431323408:=()
noncomputable def tw11393731125567791361:=()
noncomputable def tw11408611444184016979:=()
noncomputable def tw11550528644116979083:=()
noncomputable def tw1158067406208055542:=()
noncomputable def tw11588709554721890109:=()
noncomputable def tw11608123643156984223:=()
noncomputable def tw11619787557004686837:=()
noncomputable def tw11624564632308564509:=()
noncomputable def tw11629663504110433047:=()
noncomputable def tw11762999138704390818:=()
noncomputable def tw11773196774877380148:=()
noncomputable def tw11837042244390232962:=()
noncomputable def tw11910584272877557027:=()
noncomputable def tw12011369529985855407:=()
noncomputable def tw12032733703582701130:=()
noncomputable def tw12045763153296936601:=()
noncomputable def tw12051221075291738535:=()
noncomputable def tw12155212873814577009:=()
noncomputable def tw12187193460376444986:=()
noncomputable def tw12206430733784872528:=()
noncomputable def tw12266440065487403591:=()
noncomputable def tw12276435426444028142:=()
noncomputable def tw12355957092832368061:=()
noncomputable def tw12379963728783297115:=()
noncomputable def tw12459868022947441765:=()
noncomputable def tw12518752583648823697:=()
noncomputable def tw12530541008913743318:=()
noncomputable def tw12542682987322490988:=()
noncomputable def tw12548283665383442741:=()
noncomputable def tw12655223586001220015:=()
noncomputable def tw12682214986559096289:=()
noncomputable def tw12796075107767214434:=()
noncomputable def tw12809072675453373255:=()
noncomputable def tw12838479301515084380:=()
noncomputable def tw12880291391899677805:=()
noncomputable def tw12963256886876695164:=()
noncomputable def tw13063663303113972756:=()
noncomputable def tw13147395713409290989:=()
noncomputable def tw13349755292605503856:=()
noncomputable def tw13388807587442159998:=()
noncomputable def tw13412924245741243134:=()
noncomputable def tw13424619890476008562:=()
noncomputable def tw13584980103985794415:=()
noncomputable def tw13686664797825392275:=()
noncomputable def tw13693469237433548915:=()
noncomputable def tw13900662906151784373:=()
noncomputable def tw13927753021724343476:=()
noncomputable def tw13994705592735916344:=()
noncomputable def tw14041411965059359790:=()
noncomputable def tw14061542868552327838:=()
noncomputable def tw14109338974739579507:=()
noncomputable def tw14174061044675757832:=()
noncomputable def tw14252262222437252415:=()
noncomputable def tw142568609414220355:=()
noncomputable def tw14275037364377723317:=()
noncomputable def tw14302191396195960406:=()
noncomputable def tw14398754913532177249:=()
noncomputable def tw14422302429964910143:=()
noncomputable def tw14493885123028014056:=()
noncomputable def tw14515336477266664568:=()
noncomputable def tw14517293408413117471:=()
noncomputable def tw14532565205439750248:=()
noncomputable def tw14555711185844508235:=()
noncomputable def tw1456314132386454274:=()
noncomputable def tw14604415973812288952:=()
noncomputable def tw14606848084488667444:=()
noncomputable def tw146169101544822715:=()
noncomputable def tw14704557690463622676:=()
noncomputable def tw14774580160105271159:=()
noncomputable def tw14847801958891520063:=()
noncomputable def tw14856341882195562926:=()
noncomputable def tw14928636071055458447:=()
noncomputable def tw14937059381642574451:=()
noncomputable def tw14986336904388544823:=()
noncomputable def tw15007881157795924586:=()
noncomputable def tw15008418785088889050:=()
noncomputable def tw15026895872463366497:=()
noncomputable def tw15031964022010586128:=()
noncomputable def tw15205581987593516197:=()
noncomputable def tw15208138718225767830:=()
noncomputable def tw15380356242727065856:=()
noncomputable def tw15391861108673736885:=()
noncomputable def tw15548512784321254363:=()
noncomputable def tw15574386093788971249:=()
noncomputable def tw15579322771568399625:=()
noncomputable def tw15603240752242187113:=()
noncomputable def tw15692145960068762117:=()
noncomputable def tw15835174129664223603:=()
noncomputable def tw15852693297439023368:=()
noncomputable def tw16054570914093910294:=()
noncomputable def tw16066223881980193642:=()
noncomputable def tw16125049522386183737:=()
noncomputable def tw16136969320844185486:=()
noncomputable def tw16142717336108950704:=()
noncomputable def tw16146551363570051505:=()
noncomputable def tw16154954248214298149:=()
noncomputable def tw16174437863879745765:=()
noncomputable def tw16253331783970447288:=()
noncomputable def tw16293317270535527342:=()
noncomputable def tw1638416385339233816:=()
noncomputable def tw16387471237854777070:=()
noncomputable def tw16504943029632198757:=()
noncomputable def tw16511246849820069239:=()
noncomputable def tw16522255318813219412:=()
noncomputable def tw16536524478932861446:=()
noncomputable def tw16673820922120728164:=()
noncomputable def tw16684661092659262699:=()
noncomputable def tw16756053998327303215:=()
noncomputable def tw1678633521962000099:=()
noncomputable def tw16804147321520586159:=()
noncomputable def tw16814174283355582445:=()
noncomputable def tw168264873314414268:=()
noncomputable def tw1691643772258178612:=()
noncomputable def tw16923950421056273625:=()
noncomputable def tw16950280593428572821:=()
noncomputable def tw17089689978018639885:=()
noncomputable def tw17161935921769649125:=()
noncomputable def tw17165817882766314260:=()
noncomputable def tw17262402265188912977:=()
noncomputable def tw17281479895333395125:=()
noncomputable def tw17286838815340118539:=()
noncomputable def tw17288038069297718835:=()
noncomputable def tw17292044177163517903:=()
noncomputable def tw17325815409205721593:=()
noncomputable def tw17328752755465418535:=()
noncomputable def tw17446041308541191471:=()
noncomputable def tw1745914129693006013:=()
noncomputable def tw17497850721955828910:=()
noncomputable def tw17512078413288666951:=()
noncomputable def tw17621581365259080838:=()
noncomputable def tw17633472139637784381:=()
noncomputable def tw17726534265261907738:=()
noncomputable def tw17741158564742496529:=()
noncomputable def tw17759769376330373934:=()
noncomputable def tw17879802665075785115:=()
noncomputable def tw17966723295263807626:=()
noncomputable def tw17999655167342224634:=()
noncomputable def tw18034157032506109606:=()
noncomputable def tw18049542513405515860:=()
noncomputable def tw18107813890148473408:=()
noncomputable def tw181125599664268160:=()
noncomputable def tw18123843955025923072:=()
noncomputable def tw18187833315202101391:=()
noncomputable def tw18218856563024379939:=()
noncomputable def tw18234271016212060064:=()
noncomputable def tw18234694481798059500:=()
noncomputable def tw18270190246158378820:=()
noncomputable def tw18338629349066327992:=()
noncomputable def tw18363616167616885492:=()
noncomputable def tw1849585542903366980:=()
noncomputable def tw188056919820637907:=()
noncomputable def tw192342072108028418:=()
noncomputable def tw205955874841524284:=()
noncomputable def tw2112985035014463243:=()
noncomputable def tw2114468621725337353:=()
noncomputable def tw2115396768614100725:=()
noncomputable def tw2152465726658908761:=()
noncomputable def tw2158279913642396543:=()
noncomputable def tw218077489543424992:=()
noncomputable def tw2262816704028869508:=()
noncomputable def tw2308243851074232522:=()
noncomputable def tw2315264759818717112:=()
noncomputable def tw2430092917769437391:=()
noncomputable def tw2487959210822710656:=()
noncomputable def tw2532173444261094992:=()
noncomputable def tw2695842190011487560:=()
noncomputable def tw2756454057708756977:=()
noncomputable def tw2818825329943295823:=()
noncomputable def tw2854430218125272264:=()
noncomputable def tw3066832837579651892:=()
noncomputable def tw3169495586279478041:=()
noncomputable def tw3218677931361778454:=()
noncomputable def tw3232113002730938272:=()
noncomputable def tw325610154431552473:=()
noncomputable def tw3298396629604460693:=()
noncomputable def tw3305779527131713417:=()
noncomputable def tw3427413002335602392:=()
noncomputable def tw3466126303734033069:=()
noncomputable def tw3535277189734185716:=()
noncomputable def tw3597012347152319320:=()
noncomputable def tw3625115651011903448:=()
noncomputable def tw3645061132712926897:=()
noncomputable def tw3656399260970312795:=()
noncomputable def tw3730187492977313733:=()
noncomputable def tw3870894005348076528:=()
noncomputable def tw4016253622230270699:=()
noncomputable def tw4022395188963120323:=()
noncomputable def tw4098532825140994322:=()
noncomputable def tw410448226325082807:=()
noncomputable def tw4127214963478934521:=()
noncomputable def tw4149429490824109649:=()
noncomputable def tw4152240716648310477:=()
noncomputable def tw424675371047216085:=()
noncomputable def tw4311413291178264348:=()
noncomputable def tw4527514910133046018:=()
noncomputable def tw4536070876515518805:=()
noncomputable def tw4553000553162566292:=()
noncomputable def tw4642941256174691507:=()
noncomputable def tw4667310011159470400:=()
noncomputable def tw4677390841150303328:=()
noncomputable def tw468878590622660358:=()
noncomputable def tw4696776892925050944:=()
noncomputable def tw4708578940745978673:=()
noncomputable def tw470889402413953413:=()
noncomputable def tw476280399694841134:=()
noncomputable def tw4809310618954984859:=()
noncomputable def tw4846572126573114280:=()
noncomputable def tw4856184505374111353:=()
noncomputable def tw4960288303656308649:=()
noncomputable def tw506242167289296169:=()
noncomputable def tw5068196141485318825:=()
noncomputable def tw5106747339005601442:=()
noncomputable def tw5119408917029896577:=()
noncomputable def tw5119741620012714738:=()
noncomputable def tw5144399545211141906:=()
noncomputable def tw5171949942200644160:=()
noncomputable def tw5179557370993352105:=()
noncomputable def tw5181581547516401416:=()
noncomputable def tw5258044944345674141:=()
noncomputable def tw5481492701805511846:=()
noncomputable def tw5494883208026709035:=()
noncomputable def tw5504148562006392968:=()
noncomputable def tw55084474608162550:=()
noncomputable def tw5534005420017192480:=()
noncomputable def tw5577412899658439327:=()
noncomputable def tw5607394767166478368:=()
noncomputable def tw5608974742704430134:=()
noncomputable def tw564108138695454875:=()
noncomputable def tw56453107839966260:=()
noncomputable def tw5657218603489124702:=()
noncomputable def tw570862350457366129:=()
noncomputable def tw5758224443636007405:=()
noncomputable def tw5769648603306576560:=()
noncomputable def tw5801274776423463746:=()
noncomputable def tw5916682645458288452:=()
noncomputable def tw6007942245807394165:=()
noncomputable def tw6016306196731195824:=()
noncomputable def tw6033294318474780567:=()
noncomputable def tw6095796954508395582:=()
noncomputable def tw6198274409411580791:=()
noncomputable def tw6200339634086874399:=()
noncomputable def tw6216064048381953902:=()
noncomputable def tw6240381924189726906:=()
noncomputable def tw6295912267348510398:=()
noncomputable def tw6299131791512352563:=()
noncomputable def tw6314438572964251116:=()
noncomputable def tw6349134831510023837:=()
noncomputable def tw642255900457086326:=()
noncomputable def tw6453246305476988904:=()
noncomputable def tw6485323133281147158:=()
noncomputable def tw6490622158079793142:=()
noncomputable def tw6572030007375821022:=()
noncomputable def tw6730195961074672397:=()
noncomputable def tw6746166150760907145:=()
noncomputable def tw6765362885239833014:=()
noncomputable def tw6765979434574373134:=()
noncomputable def tw6789360858378329397:=()
noncomputable def tw6800495419823638330:=()
noncomputable def tw6808539210426241447:=()
noncomputable def tw6866970004063395194:=()
noncomputable def tw6957462101603967062:=()
noncomputable def tw7042315936976254097:=()
noncomputable def tw7103568145409498864:=()
noncomputable def tw7111340151536749883:=()
noncomputable def tw7128659401577613929:=()
noncomputable def tw7148852648933461730:=()
noncomputable def tw7238370773015022284:=()
noncomputable def tw7251912985443198989:=()
noncomputable def tw7409859603907716673:=()
noncomputable def tw7427202036944294671:=()
noncomputable def tw7587246122729040160:=()
noncomputable def tw7606674416409341377:=()
noncomputable def tw7648167743954265738:=()
noncomputable def tw7674818770570181486:=()
noncomputable def tw768540874324125642:=()
noncomputable def tw7743114475276458626:=()
noncomputable def tw7785393564020399799:=()
noncomputable def tw7887442146083173245:=()
noncomputable def tw7957109147307754636:=()
noncomputable def tw8000906523736337905:=()
noncomputable def tw8009457225052006611:=()
noncomputable def tw8017029738855684303:=()
noncomputable def tw8068826503818388515:=()
noncomputable def tw819070153101872445:=()
noncomputable def tw822291446609475566:=()
noncomputable def tw8272526379010917737:=()
noncomputable def tw8333498592512203221:=()
noncomputable def tw8390461604653787287:=()
noncomputable def tw8491311439036942380:=()
noncomputable def tw8520686717031654114:=()
noncomputable def tw852122131426405790:=()
noncomputable def tw8632385445547293745:=()
noncomputable def tw8684975447468625719:=()
noncomputable def tw8694375267088920280:=()
noncomputable def tw8718605832550369463:=()
noncomputable def tw8729632934183243924:=()
noncomputable def tw8734268336400097347:=()
noncomputable def tw8753894069101204036:=()
noncomputable def tw8846946155651992140:=()
noncomputable def tw8872697438425150398:=()
noncomputable def tw8885069305755066931:=()
noncomputable def tw9156763491638936563:=()
noncomputable def tw9281209893076832089:=()
noncomputable def tw9311872530023092313:=()
noncomputable def tw9353086487572000172:=()
noncomputable def tw9438661712201105442:=()
noncomputable def tw9460246529345121221:=()
noncomputable def tw9506275799087651837:=()
noncomputable def tw9600755822532973472:=()
noncomputable def tw9619039697672186586:=()
noncomputable def tw9644493208108446651:=()
noncomputable def tw9648221550371330905:=()
noncomputable def tw9682591909762406044:=()
noncomputable def tw9719576476028784963:=()
noncomputable def tw9741611603557739934:=()
noncomputable def tw9748302351252227218:=()
noncomputable def tw9836417626187157731:=()
noncomputable def tw9860479770663307828:=()
noncomputable def tw9916475002087732334:=()
noncomputable def tw996490606355866374:=()
noncomputable def tw997100515421776840:=()
noncomputable def tw9977087170968325020:=()
end PySem.W.Fast
open PySem PySem.W PyProof.Rows
set_option maxRecDepth 100000 in
set_option maxHeartbeats 0 in
theorem PySem.Challenge.cw_rootcourt_k14_whole_any_paper_let_by_holds : PySem.Challenge.rw_rootcourt_k14_whole_any_paper_let_by.Holds := by
 w_on;o_law;k_head;(case hw=>w_witness2)
 k_fill
 refine Z.walk (l:=PySem.Challenge.rw_rootcourt_k14_whole_any_paper_let_by) rfl rfl (by decide+kernel) rfl (fun w h Y=>kIn_of Y) ?F
 case F=>
  intro w mg J h I G z
  refine' Z.all_mk I G z ?d1 ?d2 ?d3 ?d4 ?d5 ?d6 ?d7 ?d8 ?d9 ?d10 ?d11 ?d12 ?d13 ?d14 ?d15 ?d16 ?d17 ?d18 ?d19 ?d20 ?d21 ?d22 ?d23 ?d24 ?d25 ?d26 ?d27 ?d28 ?d29 ?d30 ?d31 ?d32 ?d33 ?d34 ?d35 ?d36 ?d37 ?d38 ?d39 ?d40 ?d41 ?d42 ?d43 ?d44 ?d45 ?d46 ?d47 ?d48 ?d49 ?d50 ?d51 ?d52 ?d53 ?d54 ?d55 ?d56 ?d57 ?d58 ?d59 ?d60 ?d61 ?d62 ?d63 ?d64 ?d65 ?d66 ?d67 ?aNoPart ?aNoFree ?xkNoPart ?xkNoFree ?xcPRIME ?zlist ?ztuple ?zrange ?zlen ?zenumerate ?zzip ?zabs ?zmax ?zisinstance ?zint ?zbool ?zall ?zreversed
  (case aNoPart=>k_is);(case aNoFree=>k_is);(case xkNoPart=>k_exc);(case xkNoFree=>k_exc);(case xcPRIME=>k_is)
  all_goals first | k_is | exact⟨_,_,_,_,_,_,_,_,_,_,by k_is,by k_is,by k_is,by k_is⟩
