import PyProof.Rows.All
import Wide.All
import OpenK.AllK
import Wide.FinOn
import Lean
import PyProof.EqAt
import PyProof.EqKinds
import PyProof.TupleCall
import PySem.Challenge.RW_rootcourt_k20_cuts_told
set_option maxHeartbeats 4000000
set_option Elab.async false
set_option linter.all false
set_option compiler.extract_closed false
local macro_rules | `(tactic| omega) => `(tactic| lia)
open PySem.W (Frag InstAt KitX Looks callWith_K cellsFrom_some clsIn excIn findIn hideAll hideAll_get instObj isFn kIn_of ke_canLayAll0 ke_depthAll keepIn kia_one kitOne kitx_dict kitx_list kitx_tuple lookIn looks_findIn looks_mroIn methodObj mg_none_of mg_of mroIn of_hideAll plainGet specialIn subIn)
open Nat (Coprime add_comm add_mul add_sub_cancel div_add_mod div_le_self eq_zero_or_pos le_add_right le_antisymm le_mul_of_pos_left le_of_dvd le_of_eq le_of_not_lt le_refl le_trans lt_irrefl lt_of_le_of_lt lt_of_lt_of_le lt_of_not_le lt_or_ge min_eq_left mod_lt mul_div_cancel_left mul_le_mul mul_le_mul_left mul_le_mul_right mul_pow mul_succ ne_of_gt ne_of_lt one_mul pos_of_ne_zero pow_add pow_le_pow_left pow_le_pow_right pow_lt_pow_right pow_mul pow_one strongRecOn sub_self sub_zero succ_mul two_pow_pos zero_le)
open List (Nodup Pairwise all_eq_true any_cons append_assoc append_nil cons_append dropLast_concat_getLast eq_nil_of_length_eq_zero ext_getElem filterMap_cons find?_cons flatten_cons foldl foldl_cons forIn_cons getD_eq_getElem?_getD getElem?_append_left getElem?_append_right getElem?_drop getElem?_eq_getElem getElem?_eq_none getElem?_map getElem?_range getElem?_replicate getElem_mem getElem_of_mem getLastD getLast_cons length_append length_cons length_drop length_dropLast length_map length_nil length_pos_iff length_range length_replicate length_reverse length_set length_singleton length_tail length_take lookup lookup_cons map_append map_congr_left map_cons map_map map_nil map_reverse mem_append mem_append_left mem_append_right mem_cons mem_cons_of_mem mem_cons_self mem_filter mem_filterMap mem_map mem_range mem_reverse mem_singleton nil_append nodup_cons not_mem_nil of_mem_zip replicate replicate_succ reverse_cons set_cons_succ set_cons_zero size_toArray take_length take_of_length_le take_succ toArray zipWith)
open Int (add_zero dvd_add dvd_mul_right dvd_neg dvd_trans dvd_zero ediv_nonneg ediv_one emod_lt_of_pos emod_nonneg eq_of_mul_eq_mul_left fdiv_eq_ediv_of_nonneg gcd_comm gcd_dvd_left gcd_dvd_right le_of_lt lt_or_gt_of_ne lt_trichotomy mul_add mul_assoc mul_comm mul_ediv_add_emod mul_eq_zero mul_le_mul_of_nonneg_left mul_ne_zero mul_neg mul_nonneg mul_one mul_pos mul_zero natAbs natAbs_add_le natAbs_dvd_natAbs natAbs_mul natAbs_natCast natAbs_pos natAbs_pow natCast_add natCast_dvd_natCast natCast_ediv natCast_mul natCast_one natCast_zero neg_mul ofNat_dvd_left one_pow pow_pos pow_succ pow_zero toNat toNat_natCast zero_add zero_dvd zero_emod zero_mul)
open Option (getD_none isSome_iff_exists)
open PySem.F (args_tuple_add_2 entry_tuple_add plainAttrs_list slot_gs_get slot_list_pop slot_tuple_add slot_tuple_mul type_list_pop)
open Bool (and_eq_true or_eq_true)
open Rat (divInt divInt_eq_div intCast_add intCast_mul intCast_natCast)
open PyProof.Rows (boot_abs boot_all boot_bool boot_int boot_isinstance boot_list boot_max boot_min boot_tuple)
set_option maxRecDepth 100000
namespace L2
open PySem PySem.Spec PyProof.Rows
noncomputable abbrev Key:=Sum Int Str
noncomputable def Apm:Key->Value->Bool
 | .inl k,v=>Value.isInt k v
 | .inr x,v=>Value.isStrOf x v
noncomputable def Avj (w:World):Key->Int
 | .inl k=>hashInt k
 | .inr x=>hashStr w x
theorem Ej:∀ {k:Key}{v:Value},Apm k v=true->(∃i t,k=Sum.inl i/\v=Value.int i t)\/(∃x t,k=Sum.inr x/\v=Value.str x t)
 | .inl i,v,h=>by
   obtain⟨t,e⟩:=Value.isInt_shape (k:=i) (v:=v) h
   exact .inl ⟨i,t,rfl,e⟩
 | .inr x,v,h=>by
   obtain⟨t,e⟩:=Value.isStrOf_shape (x:=x) (v:=v) h
   exact .inr ⟨x,t,rfl,e⟩
theorem Apn (a b:Int):decide ((Sum.inl a:Key)=Sum.inl b)=(a==b):=by
 by_cases e:a=b
 . subst e;simp
 . have h:¬(Sum.inl a:Key)=Sum.inl b:=fun q=>e (Sum.inl.inj q)
   rw [decide_eq_false h]
   exact(beq_eq_false_iff_ne.mpr e).symm
theorem Aps (a b:Str):decide ((Sum.inr a:Key)=Sum.inr b)=decide (a=b):=by
 by_cases e:a=b
 . subst e;simp
 . have h:¬(Sum.inr a:Key)=Sum.inr b:=fun q=>e (Sum.inr.inj q)
   rw [decide_eq_false h,decide_eq_false e]
theorem Apo (a:Int) (b:Str):decide ((Sum.inl a:Key)=Sum.inr b)=false:=decide_eq_false (fun q=>nomatch q)
theorem Apq (a:Str) (b:Int):decide ((Sum.inr a:Key)=Sum.inl b)=false:=decide_eq_false (fun q=>nomatch q)
noncomputable def Aet (prog:Program) (w:World):PySem.KeyKind prog w Key where
 is:=Apm
 hash:=Avj w
 inj:=fun v a b ha hb=>by
  rcases Ej ha with⟨i,t,rfl,rfl⟩ | ⟨x,t,rfl,rfl⟩
  . rcases Ej hb with⟨j,u,rfl,e⟩ | ⟨y,u,rfl,e⟩
    . injection e with e1 _;rw [e1]
    . exact nomatch e
  . rcases Ej hb with⟨j,u,rfl,e⟩ | ⟨y,u,rfl,e⟩
    . exact nomatch e
    . injection e with e1 _;rw [e1]
 byValue:=fun k v h=>by
  rcases Ej h with⟨i,t,rfl,rfl⟩ | ⟨x,t,rfl,rfl⟩<;>rfl
 pyHash:=fun hv h=>by
  rcases Ej hv with⟨i,t,rfl,rfl⟩ | ⟨x,t,rfl,rfl⟩
  . exact wpAny_pyHash_int h
  . exact wpAny_pyHash_str h
 eqBool:=fun hu hv h=>by
  rcases Ej hu with⟨i,t,rfl,rfl⟩ | ⟨x,t,rfl,rfl⟩
  . rcases Ej hv with⟨j,u,rfl,rfl⟩ | ⟨y,u,rfl,rfl⟩
    . rw [Apn]at h;exact wpAny_eqBool_int h
    . rw [Apo]at h;exact SeqAt.EqAt.int_str i t y u _ _ _ _ h
  . rcases Ej hv with⟨j,u,rfl,rfl⟩ | ⟨y,u,rfl,rfl⟩
    . rw [Apq]at h;exact SeqAt.EqAt.str_int x t j u _ _ _ _ h
    . rw [Aps]at h;exact wpAny_eqBool_str h
 «strs» :=fun k x t v h=>by
  rcases Ej h with⟨i,u,rfl,e⟩ | ⟨y,u,rfl,e⟩
  . exact nomatch e
  . injection e with e1 _
    subst e1
    cases v<;>rfl
inductive V where
 | non | bl (b:Bool) | int (i:Int) | str (x:Str) | byt (b:Array UInt8) | flt (b:UInt64) | ref (a:Addr) | ty (n:String)
 deriving DecidableEq
noncomputable def RelV:V->Value->Prop
 | .non,u=>u=Value.none
 | .bl b,u=>u=Value.bool b
 | .int i,u=>∃t,u=Value.int i t
 | .str x,u=>∃t,u=Value.str x t
 | .byt b,u=>∃t,u=Value.bytes b t
 | .flt b,u=>∃t,u=Value.float b t
 | .ref a,u=>u=Value.ref a
 | .ty n,u=>u=Value.type n
noncomputable abbrev Vals:List V->List Value->Prop:=Paired RelV
theorem Vals.length {xs:List V}{z:List Value} (r:Vals xs z):xs.length=z.length:=Paired.length r
theorem Vals.get:∀ {xs:List V}{z:List Value}{i:Nat}{x:V},Vals xs z->xs[i]? =some x->∃u,z[i]? =some u/\RelV x u
 | _,_,_,_,.nil,e=>by simp at e
 | _,_,0,_,.cons r _,e=>by simp at e;subst e;exact⟨_,rfl,r⟩
 | _,_,i+1,x,.cons _ t,e=>by
   obtain⟨u,h1,h2⟩:=Vals.get (i:=i) (x:=x) t (by simpa using e)
   exact⟨u,by simpa using h1,h2⟩
theorem Vals.set {x:V}{u:Value} (r:RelV x u):∀ {xs:List V}{z:List Value} (i:Nat),Vals xs z->Vals (xs.set i x) (z.set i u)
 | _,_,_,.nil=> .nil
 | _,_,0,.cons _ t=> .cons r t
 | _,_,i+1,.cons q t=> .cons q (Vals.set r i t)
theorem Vals.append:∀ {xs ys:List V}{z I:List Value},Vals xs z->Vals ys I->Vals (xs++ys) (z++I)
 | _,_,_,_,.nil,s=>s
 | _,_,_,_,.cons r t,s=> .cons r (Vals.append t s)
theorem Vals.take:∀ {xs:List V}{z:List Value} (n:Nat),Vals xs z->Vals (xs.take n) (z.take n)
 | _,_,0,_=> .nil
 | _,_,_+1,.nil=> .nil
 | _,_,n+1,.cons r t=> .cons r (Vals.take n t)
theorem Vals.drop:∀ {xs:List V}{z:List Value} (n:Nat),Vals xs z->Vals (xs.drop n) (z.drop n)
 | _,_,0,r=>r
 | _,_,_+1,.nil=> .nil
 | _,_,n+1,.cons _ t=>Vals.drop n t
noncomputable def Ac4:Option V->Option Value->Prop
 | some v,some u=>RelV v u
 | none,none=>True
 | _,_=>False
noncomputable def KV {κ:Type}:List (κ × V)->List (κ × Value)->Prop:=Paired fun(p:κ × V) (q:κ × Value)=>p.1=q.1/\RelV p.2 q.2
noncomputable def kV:Key->V
 | .inl i=> .int i
 | .inr x=> .str x
inductive HO where
 | lst (xs:List V)
 | tup (xs:List V)
 | dK (kvs:List (Key × V)) | dT (kvs:List (List Key × V))
 | set (S:Int->Bool) (n:Nat)
 | ins (C dx:Addr) (fs:List (Str × V))
 | own (x:Addr)
 | xd (fs:List (Str × V))
 | met (f x:Addr)
 | rng (lo hi:Int)
 | frz (o:Obj) (u:HO)
 | tbl (ps:Array Value)
 | ext (φ:Heap->Prop)
noncomputable abbrev Hp:=Addr->Option HO
noncomputable def upd (H:Hp) (a:Addr) (o:HO):Hp:=fun b=>if b=a then some o else H b
theorem Ao {H:Hp}{a:Addr}{o:HO}:upd H a o a=some o:=by unfold upd;rw [if_pos rfl]
theorem Cr {H:Hp}{a b:Addr}{o:HO} (h:b≠a):upd H a o b=H b:=by unfold upd;rw [if_neg h]
theorem Aig {H:Hp}{a b:Addr}{o u:HO} (h:H a=some o) (h':H b=some u) (d:o≠u):a≠b:=by
 intro e;subst e;rw [h]at h';exact d (Option.some.inj h')
theorem Cw {H:Hp}{a b:Addr}{o:HO} (h:H a=some o) (h':H b=none):a≠b:=by
 intro e;subst e;rw [h]at h';cases h'
section
variable (P:Program) (w:World)
noncomputable def Hw (H:Hp) (h:Heap) (a:Addr):HO->Prop
 | .lst xs=>xs.length<=sizeLine/\∃(its:List Value) (n:Nat),Vals xs its/\h.get? a=some { cls:= .type "list",data:= .seq its.toArray n}
 | .tup xs=>xs.length<=sizeLine/\∃its:List Value,Vals xs its/\IsTup h a its.toArray
 | .dK kvs=>kvs.length<=sizeLine/\(a==sysModules)=false/\∃vs,KV kvs vs/\h.DictOf (Aet P w) a vs
 | .dT kvs=>kvs.length<=sizeLine/\(a==sysModules)=false/\∃xs:List (List Key × Addr × Value),
    Paired (fun(p:List Key × V) (q:List Key × Addr × Value)=>p.1=q.1/\H q.2.1=some (.tup (p.1.map kV))/\RelV p.2 q.2.2) kvs xs/\
    ∃o es ep,h.get? a=some o/\o.ExactDict/\o.data= .dict es ep/\es.toList=xs.map (entryOfKey (tupleKind (Aet P w)))/\(xs.map (·.1)).Nodup
 | .set S n=>h.SetOf (intKind P w) a S n
 | .ins C dx fs=>H dx=some (.own a)/\fs.length<=1000/\dx≠a/\h.get? a=some (instObj C dx)/\
    ∃mA,h.Ns1 dx mA/\(∀f,Ac4 (fs.lookup f) (mA f))/\PySem.Within mA (fs.map (·.1))
 | .own _=>∃o,h.get? a=some o
 | .xd fs=>∃mA,h.Ns1 a mA/\∀f,Ac4 (fs.lookup f) (mA f)
 | .rng lo hi=>∃t u v,h.get? a=some { cls:= .type "range",data:= .fields #[.int lo t,.int hi u,.int 1 v]}
 | .frz o u=>h.get? a=some o/\Hw H h a u
 | .tbl ps=>h.get? a=some { cls:= .none,data:= .fields ps}
 | .met f x=>h.get? a=some (methodObj (.ref f) (.ref x))
 | .ext φ=>φ h/\(∃o,h.get? a=some o)/\∀h1 h2:Heap,φ h1->(∀o,h1.get? a=some o->h2.get? a=some o)->φ h2
noncomputable def HOk (H:Hp) (h:Heap):Prop:=∀a o,H a=some o->Hw P w H h a o
end
section
variable {P:Program}{w:World}{H H':Hp}{h h':Heap}{a:Addr}{o:HO}
theorem Hw.lt (x:Hw P w H h a o):a<h.objs.size:=by
 cases o with
 | lst xs=>obtain⟨_,_,_,_,e⟩:=x;exact Heap.lt_size e
 | tup xs=>obtain⟨_,_,_,p⟩:=x;exact p.lt
 | dK z=>obtain⟨_,_,_,_,o,_,_,e,_⟩:=x;exact Heap.lt_size e
 | dT z=>obtain⟨_,_,_,_,o,_,_,e,_⟩:=x;exact Heap.lt_size e
 | set S n=>obtain⟨o,_,_,_,e,_⟩:=x;exact Heap.lt_size e
 | ins C dx fs=>obtain⟨_,_,_,e,_⟩:=x;exact Heap.lt_size e
 | own y=>obtain⟨_,e⟩:=x;exact Heap.lt_size e
 | xd fs=>obtain⟨_,⟨_,_,_,e,_⟩,_⟩:=x;exact Heap.lt_size e
 | rng lo hi=>obtain⟨_,_,_,e⟩:=x;exact Heap.lt_size e
 | frz I u=>obtain⟨e,_⟩:=x;exact Heap.lt_size e
 | tbl ps=>exact Heap.lt_size (show h.get? a=some _ from x)
 | met f y=>exact Heap.lt_size (show h.get? a=some _ from x)
 | ext J=>obtain⟨_,⟨_,e⟩,_⟩:=x;exact Heap.lt_size e
theorem Paired.mapP {α J:Type}{F G:α->J->Prop}:∀ {z:List α}{I:List J},Paired F z I->(∀a b,F a b->G a b)->Paired G z I
 | _,_,.nil,_=> .nil
 | _,_,.cons r t,f=> .cons (f _ _ r) (Paired.mapP t f)
theorem Hw.stay (x:Hw P w H h a o) (k:∀b u,(b=a\/H b=some (.own a))->h.get? b=some u->h'.get? b=some u)
 (Z:∀b,H b=some (.own a)->H' b=some (.own a)) (ht:∀b xs,H b=some (.tup xs)->H' b=some (.tup xs)):Hw P w H' h' a o:=by
 induction o with
 | lst xs=>obtain⟨z,M,n,r,e⟩:=x;exact⟨z,M,n,r,k _ _ (.inl rfl) e⟩
 | tup xs=>obtain⟨z,M,r,I,e,c⟩:=x;exact⟨z,M,r,I,k _ _ (.inl rfl) e,c⟩
 | dK O=>obtain⟨z,y,vs,r,I,es,J,e,c⟩:=x;exact⟨z,y,vs,r,I,es,J,k _ _ (.inl rfl) e,c⟩
 | dT O=>
   obtain⟨z,y,xs,r,I,es,J,e,c⟩:=x
   exact⟨z,y,xs,Paired.mapP r fun p q z=>⟨z.1,ht _ _ z.2.1,z.2.2⟩,I,es,J,k _ _ (.inl rfl) e,c⟩
 | set S n=>obtain⟨I,es,J,t,e,c⟩:=x;exact⟨I,es,J,t,k _ _ (.inl rfl) e,c⟩
 | ins C dx fs=>
   obtain⟨d,z,ne,e,U,⟨Y,es,J,e2,c⟩,r⟩:=x
   exact⟨Z _ d,z,ne,k _ _ (.inl rfl) e,U,⟨Y,es,J,k _ _ (.inr d) e2,c⟩,r⟩
 | own y=>obtain⟨I,e⟩:=x;exact⟨I,k _ _ (.inl rfl) e⟩
 | xd fs=>obtain⟨U,⟨Y,es,J,e,c⟩,r⟩:=x;exact⟨U,⟨Y,es,J,k _ _ (.inl rfl) e,c⟩,r⟩
 | rng lo hi=>obtain⟨t,u,v,e⟩:=x;exact⟨t,u,v,k _ _ (.inl rfl) e⟩
 | frz I u ih=>obtain⟨e,q⟩:=x;exact⟨k _ _ (.inl rfl) e,ih q⟩
 | tbl ps=>
   have e:h.get? a=some { cls:= .none,data:= .fields ps}:=x
   show h'.get? a=some { cls:= .none,data:= .fields ps}
   exact k a _ (.inl rfl) e
 | met f y=>
   have e:h.get? a=some (methodObj (.ref f) (.ref y)):=x
   show h'.get? a=some (methodObj (.ref f) (.ref y))
   exact k a _ (.inl rfl) e
 | ext φ=>obtain⟨p,⟨o,e⟩,st⟩:=x;exact⟨st _ _ p fun o q=>k _ _ (.inl rfl) q,⟨o,k _ _ (.inl rfl) e⟩,st⟩
theorem HOk.lt (x:HOk P w H h) (e:H a=some o):a<h.objs.size:=(x a o e).lt
theorem HOk.fresh (x:HOk P w H h) (e:h.objs.size<=a):H a=none:=by
 cases q:H a with
 | none=>rfl
 | some u=>exact absurd (lt_of_lt_of_le (x.lt q) e) (lt_irrefl _)
theorem HOk.kept (x:HOk P w H h) (k:∀b u,h.get? b=some u->h'.get? b=some u):HOk P w H h':=fun a o e=>
 (x a o e).stay (fun b u _ q=>k b u q) (fun _ q=>q) fun _ _ q=>q
theorem HOk.laid (x:HOk P w H h) (k:∀b u,h.get? b=some u->h'.get? b=some u) (M:h.objs.size<=a) (z:Hw P w (upd H a o) h' a o):HOk P w (upd H a o) h':=fun b u e=>by
 have I:=x.fresh M
 by_cases J:b=a
 . subst J;rw [Ao]at e;cases e;exact z
 . rw [Cr J]at e
   exact(x b u e).stay (fun c v _ q=>k c v q) (fun c q=>by rw [Cr (Cw q I)];exact q) fun c xs q=>by rw [Cr (Cw q I)];exact q
end
noncomputable def Rd (H:Hp) (a:Addr) (u:HO):Prop:=H a=some u\/∃o,H a=some (.frz o u)
theorem Rd.ok {P:Program}{w:World}{H:Hp}{h:Heap}{a:Addr}{u:HO} (r:Rd H a u) (x:HOk P w H h):Hw P w H h a u:=by
 rcases r with r | ⟨o,r⟩
 . exact x a u r
 . obtain⟨_,q⟩:=x a _ r
   exact q
noncomputable def Mut:Option HO->Prop
 | some (.lst _)=>True
 | some (.dK _)=>True
 | some (.dT _)=>True
 | some (.set _ _)=>True
 | some (.ins _ _ _)=>True
 | some (.ext _)=>True
 | _=>False
section
variable {P:Program}{w:World}{H:Hp}{h h':Heap}{x e:Addr}{o':HO}
theorem HOk.write (ok:HOk P w H h) (mu:Mut (H x)) (Y:e=x\/H e=some (.own x)) (k:∀b u,b≠e->h.get? b=some u->h'.get? b=some u) (U:∃u,h'.get? e=some u)
 (W:Hw P w (upd H x o') h' x o'):HOk P w (upd H x o') h':=fun b u q=>by
 have J:∀c y,H c=some (.own y)->c≠x:=fun c y r z=>by subst z;rw [r]at mu;exact mu
 have M:∀c xs,H c=some (.tup xs)->c≠x:=fun c xs r z=>by subst z;rw [r]at mu;exact mu
 by_cases O:b=x
 . subst O;rw [Ao]at q;cases q;exact W
 . rw [Cr O]at q
   by_cases I:b=e
   . have Z:H b=some (.own x):=by
      rcases Y with z | z
      . exact absurd (I.trans z) O
      . rw [I];exact z
     rw [q]at Z;cases Z
     obtain⟨v,hv⟩:=U
     exact⟨v,by rw [I];exact hv⟩
   . refine(ok b u q).stay (fun c v S r=>k c v ?_ r) (fun c r=>by rw [Cr (J c b r)];exact r) fun c xs r=>by rw [Cr (M c xs r)];exact r
     rcases S with rfl | S
     . exact I
     . rintro rfl
       rcases Y with z | z
       . exact J c b S z
       . rw [S]at z;cases z;exact O rfl
end
structure Un (fs ex:List Addr) (H H':Hp) (h h':Heap):Prop where
 keep:∀b o,h.get? b=some o->H b=none->b∉fs->b∉ex->h'.get? b=some o
 slot:∀b o,h.get? b=some o->H b=none->b∈fs->b∉ex->∃sl,h'.get? b=some { o with slots:=sl}
 free:∀b o,h.get? b=some o->H b=none->b∉ex->H' b=none
 there:∀b o,h.get? b=some o->b∉ex->∃o',h'.get? b=some o'
 tups:∀b xs,H b=some (.tup xs)->H' b=some (.tup xs)
 frzs:∀b o u,H b=some (.frz o u)->H' b=some (.frz o u)
 tbls:∀b ps,H b=some (.tbl ps)->∃more,H' b=some (.tbl (ps++more))
section
variable {fs fs' ex ex':List Addr}{H H1 H2:Hp}{h h1 h2 h':Heap}{a x e:Addr}{o:HO}
theorem Un.any (u:Un fs ex H H1 h h1) {b:Addr}{z:Obj} (q:h.get? b=some z) (n:H b=none) (I:b∉ex):∃M,h1.get? b=some { z with slots:=M}:=by
 by_cases J:b∈fs
 . exact u.slot b z q n J I
 . exact⟨z.slots,u.keep b z q n J I⟩
theorem Un.trans (a:Un fs ex H H1 h h1) (b:Un fs ex H1 H2 h1 h2):Un fs ex H H2 h h2 where
 keep:=fun c z q n M I=>b.keep c z (a.keep c z q n M I) (a.free c z q n I) M I
 slot:=fun c z q n M I=>by
  obtain⟨Y,J⟩:=a.slot c z q n M I
  obtain⟨O,S⟩:=b.slot c _ J (a.free c z q n I) M I
  exact⟨O,S⟩
 free:=fun c z q n I=>by
  obtain⟨o',J⟩:=a.there c z q I
  exact b.free c o' J (a.free c z q n I) I
 there:=fun c z q I=>by
  obtain⟨o',J⟩:=a.there c z q I
  exact b.there c o' J I
 tups:=fun c xs q=>b.tups c xs (a.tups c xs q)
 frzs:=fun c z xs q=>b.frzs c z xs (a.frzs c z xs q)
 tbls:=fun c ps q=>by
  obtain⟨U,J⟩:=a.tbls c ps q
  obtain⟨W,S⟩:=b.tbls c _ J
  exact⟨U++W,by rw [S,Array.append_assoc]⟩
theorem Un.kept (k:∀b u,h.get? b=some u->h'.get? b=some u):Un fs ex H H h h':=
 ⟨fun b z q _ _ _=>k b z q,fun b z q _ _ _=>⟨z.slots,k b z q⟩,fun _ _ _ n _=>n,fun b z q _=>⟨z,k b z q⟩,fun _ _ q=>q,fun _ _ _ q=>q,fun _ ps q=>⟨#[],by rw [q];simp⟩⟩
theorem Un.refl:Un fs ex H H h h:=Un.kept fun _ _ q=>q
theorem Un.laid (k:∀b u,h.get? b=some u->h'.get? b=some u) (I:h.objs.size<=a) (z:H a=none):Un fs ex H (upd H a o) h h' where
 keep:=fun b u q _ _ _=>k b u q
 slot:=fun b u q _ _ _=>⟨u.slots,k b u q⟩
 free:=fun b u q n _=>by rw [Cr (ne_of_lt (lt_of_lt_of_le (Heap.lt_size q) I))];exact n
 there:=fun b u q _=>⟨u,k b u q⟩
 tups:=fun b xs q=>by rw [Cr (Cw q z)];exact q
 frzs:=fun b u xs q=>by rw [Cr (Cw q z)];exact q
 tbls:=fun b ps q=>⟨#[],by rw [Cr (Cw q z),q];simp⟩
theorem Un.write (mu:Mut (H x)) (U:e=x\/H e=some (.own x)) (k:∀b u,b≠e->h.get? b=some u->h'.get? b=some u) (J:∃u,h'.get? e=some u):Un fs ex H (upd H x o) h h':=by
 have O:∀b,H b=none->b≠x:=fun b n z=>by subst z;rw [n]at mu;exact mu
 have S:∀b,H b=none->b≠e:=fun b n z=>by
  subst z
  rcases U with r | r
  . exact O b n r
  . rw [n]at r;cases r
 have M:∀b u,H b=some u->¬Mut (some u)->b≠x:=fun b u q nm z=>by subst z;rw [q]at mu;exact nm mu
 refine⟨fun b u q n _ _=>k b u (S b n) q,fun b u q n _ _=>⟨u.slots,k b u (S b n) q⟩,fun b u q n _=>by rw [Cr (O b n)];exact n,fun b u q _=> ?_,
  fun b xs q=>by rw [Cr (M b _ q fun z=>z)];exact q,fun b u xs q=>by rw [Cr (M b _ q fun z=>z)];exact q,fun b ps q=>⟨#[],by rw [Cr (M b _ q fun z=>z),q];simp⟩⟩
 by_cases I:b=e
 . subst I;exact J
 . exact⟨u,k b u I q⟩
end
noncomputable def trk (h:Heap) (H:Hp):List Addr:=(List.range h.objs.size).filter fun a=>(H a).isSome
noncomputable def Acu (h:Heap) (H:Hp):Heap:=hideAll h (trk h H)
theorem Aeb (h:Heap) (H:Hp):(Acu h H).objs.size=h.objs.size:=PySem.W.hideAll_size _ _
theorem Aai {h:Heap}{H:Hp}{b:Addr}{o:Obj} (e:h.get? b=some o) (n:H b=none):(Acu h H).get? b=some o:=
 hideAll_get _ e fun z=>by
  have q:(H b).isSome=true:=(mem_filter.mp z).2
  rw [n]at q;simp at q
theorem Amz {h:Heap}{H:Hp}{b:Addr}{o:Obj} (e:(Acu h H).get? b=some o):h.get? b=some o/\H b=none:=by
 have I:h.get? b=some o:=of_hideAll (trk h H) e
 refine⟨I,?_⟩
 cases q:H b with
 | none=>rfl
 | some x=>
   have J:b∈trk h H:=mem_filter.mpr ⟨mem_range.mpr (Heap.lt_size I),by simp [q]⟩
   have z:(Acu h H).get? b=none:=PySem.W.hideAll_none (trk h H) J
   rw [z]at e;cases e
noncomputable def Aln (g h:Heap) (L:Addr):List (Addr × Obj):=(List.range h.objs.size).filterMap fun a=>if a=L\/(g.get? a).isSome=true then none else(h.get? a).map fun o=>(a,o)
noncomputable def rest (g h:Heap) (L d:Addr):List (Addr × Obj):=(Aln g h L).filter fun p=>decide (p.1≠d)
structure Mod (K:Frag) (mg:Str->Option Value) (base:Heap):Prop where
 kin:K.In base
 glob:base.Ns mainGlobals mg
 blt:∃mb,base.Ns builtinsNs mb/\∀x:Str,x≠"__name__"->mb x=bootBuiltins x
 nolimit:base.NoLimit
structure Cx where
 prog:Program
 w:World
 K:Frag
 mg:Str->Option Value
 base:Heap
 A:Around
 N:List Str
 s₀:Shared
 H₀:Hp
 env:Env
 outer:List Env
 stack:List Env
 ex:List Addr
 fn:Str->Bool
 calm:Bool
 pn:List (Addr × Obj)
 xe:Value->Shared->Prop
noncomputable def frs (l:List Env):List Addr:=l.filterMap (·.frame)
noncomputable abbrev Cx.fs (X:Cx):List Addr:=frs X.outer
noncomputable def Vis (sc:Scope) (x:Str):Prop:=sc.names.lookup x=some .local \/sc.names.lookup x=some .cell\/sc.names.lookup x=some .free
noncomputable def Loc (sc:Scope) (x:Str):Prop:=sc.names.lookup x=some .local \/sc.names.lookup x=some .cell
noncomputable def Look (env:Env) (h:Heap) (m:Str->Option Value) (x:Str) (u:Value):Prop:=
 (env.kindOf x=some .local /\m x=some u)\/((env.kindOf x=some .cell\/env.kindOf x=some .free)/\∃c,env.cells.lookup x=some c/\h.IsCell c (some u))
structure Cx.Ok (X:Cx):Prop where
 mod:Mod X.K X.mg X.base
 kind:X.env.scope.kind= .function
 glob:X.env.globals=mainGlobals
 blt:X.env.builtins=builtinsNs
 above:X.s₀.heap.objs.size<=X.env.locals
 inj:∀x y c,X.env.cells.lookup x=some c->X.env.cells.lookup y=some c->x=y
 has:∀x,(X.env.kindOf x=some .cell\/X.env.kindOf x=some .free)->∃c,X.env.cells.lookup x=some c
 cab:∀x c,X.fn x=true->X.env.cells.lookup x=some c->X.s₀.heap.objs.size<=c
 hd:X.calm=true->X.A.handled=none
 frames:X.A.frames=some X.stack
 stk:X.stack=X.outer\/(X.stack=X.env::X.outer/\X.env.frame=some X.env.locals)
 exf:∀b∈X.ex,b≠X.env.locals/\∀x c,X.env.cells.lookup x=some c->c≠b
 bs:∀b o,X.base.get? b=some o->X.s₀.heap.get? b=some o/\X.H₀ b=none
 bsz:X.base.objs.size<=X.s₀.heap.objs.size
 noex:∀b o,X.base.get? b=some o->b∉X.ex
 exfs:∀b∈X.ex,b∉X.fs
 funs:X.s₀.heap.FunFrames X.base X.outer
 frf:∀b∈X.fs,X.H₀ b=none
structure Inv (X:Cx) (pins:List (Addr × Obj)) (σ:List (Option V)) (H:Hp) (s:Shared):Prop where
 ok:X.Ok
 os:s.os=X.s₀.os
 bare:AllBare s.gens
 base:Un X.fs X.ex X.H₀ H X.s₀.heap s.heap
 loc:∃m,s.heap.Ns X.env.locals m/\∀(i:Nat) (x:Str) (v:V),X.N[i]? =some x->σ[i]? =some (some v)->Vis X.env.scope x->∃u,RelV v u/\Look X.env s.heap m x u
 cell:∀x c,X.env.cells.lookup x=some c->∃v,s.heap.IsCell c v
 free:H X.env.locals=none
 freeC:∀x c,X.env.cells.lookup x=some c->H c=none
 pin:∀p∈X.pn++pins,s.heap.get? p.1=some p.2/\H p.1=none/\p.1≠X.env.locals/\p.1∉X.fs/\∀v,p.2.data≠ .cell v
 hok:HOk X.prog X.w H s.heap
 len:σ.length=X.N.length
section
variable {X:Cx}{pins:List (Addr × Obj)}{σ:List (Option V)}{H H':Hp}{s:Shared}{h':Heap}
theorem Cx.Ok.nofr (ok:X.Ok) {b:Addr}{o:Obj} (e:X.base.get? b=some o):b∉X.fs:=fun z=>by
 have:=(ok.funs.mem z).1
 rw [e]at this;cases this
theorem Inv.bs (I:Inv X pins σ H s):∀b o,X.base.get? b=some o->s.heap.get? b=some o/\H b=none:=fun b o e=>
 ⟨I.base.keep b o (I.ok.bs b o e).1 (I.ok.bs b o e).2 (I.ok.nofr e) (I.ok.noex b o e),I.base.free b o (I.ok.bs b o e).1 (I.ok.bs b o e).2 (I.ok.noex b o e)⟩
theorem Inv.bk (I:Inv X pins σ H s):∀b o,X.base.get? b=some o->s.heap.get? b=some o:=fun b o e=>(I.bs b o e).1
theorem Inv.mod (I:Inv X pins σ H s):Mod X.K X.mg X.base:=I.ok.mod
theorem Inv.kIn (I:Inv X pins σ H s):X.K.In s.heap:=I.ok.mod.kin.keeps I.bk
theorem Inv.nolimit (I:Inv X pins σ H s):s.heap.NoLimit:=I.ok.mod.nolimit.keeps I.bk
theorem Inv.lt (I:Inv X pins σ H s):X.env.locals<s.heap.objs.size:=let ⟨_,hn,_⟩:=I.loc;hn.lt
theorem Inv.sz (I:Inv X pins σ H s):X.s₀.heap.objs.size<=s.heap.objs.size:=le_trans I.ok.above (Nat.le_of_lt I.lt)
theorem Inv.nofs (I:Inv X pins σ H s) {a:Addr} (h:s.heap.objs.size<=a):a∉X.fs:=fun z=>by
 obtain⟨_,o,J,_⟩:=I.ok.funs.mem z
 exact absurd (lt_of_lt_of_le (Heap.lt_size J) (le_trans I.sz h)) (lt_irrefl _)
theorem Inv.cne (I:Inv X pins σ H s):∀x c,X.env.cells.lookup x=some c->c≠X.env.locals:=fun x c e z=>by
 obtain⟨v,o,O,S⟩:=I.cell x c e
 obtain⟨m,⟨o',es,U,J,M,_⟩,_⟩:=I.loc
 rw [z,J]at O;cases O;rw [M]at S;cases S
theorem Inv.funs (I:Inv X pins σ H s):s.heap.FunFrames X.base X.outer:=by
 have all:∀(l:List Env),(∀b∈frs l,b∈X.fs)->X.s₀.heap.FunFrames X.base l->s.heap.FunFrames X.base l:=by
  intro l
  induction l with
  | nil=>intro _ _;trivial
  | cons env r S=>
    intro hs U
    obtain⟨W,⟨L,o,J,Y,Z,hd⟩,hr⟩:=U
    have M:L∈X.fs:=hs L (by unfold frs;rw [filterMap_cons,J];exact mem_cons_self)
    obtain⟨sl,e⟩:=I.base.slot L o Z (I.ok.frf L M) M fun z=>I.ok.exfs L z M
    exact⟨W,⟨L,_,J,Y,e,hd⟩,S (fun b O=>hs b (by unfold frs;rw [filterMap_cons,J];exact mem_cons_of_mem _ O)) hr⟩
 exact all X.outer (fun _ O=>O) I.ok.funs
theorem Inv.stack (I:Inv X pins σ H s):s.heap.FunFrames X.base X.stack:=by
 rcases I.ok.stk with e | ⟨e,z⟩
 . rw [e];exact I.funs
 . rw [e]
   obtain⟨m,J,_⟩:=I.loc
   refine .cons (by rw [I.ok.kind];decide) z J ?_ I.funs
   exact Heap.get?_none_of_le (le_trans I.ok.bsz I.ok.above)
theorem Inv.stkSub (I:Inv X pins σ H s):∀b∈frs X.stack,b∈X.env.locals::X.fs:=fun b z=>by
 rcases I.ok.stk with e | ⟨e,J⟩
 . rw [e]at z;exact mem_cons_of_mem _ z
 . rw [e]at z
   unfold frs at z
   rw [filterMap_cons,J]at z
   exact z
theorem Inv.stkFree (I:Inv X pins σ H s):∀b∈frs X.stack,H b=none:=fun b J=>by
 rcases mem_cons.mp (I.stkSub b J)with e | J
 . rw [e];exact I.free
 . obtain⟨_,o,M,_⟩:=I.ok.funs.mem J
   exact I.base.free b o M (I.ok.frf b J) fun z=>I.ok.exfs b z J
theorem Inv.step {g':Array GenState}{t':Nat}{d':Drawn}{ch:List Addr} (I:Inv X pins σ H s)
 (M:∀b∈ch,(b∈X.ex\/X.s₀.heap.objs.size<=b)/\b≠X.env.locals/\(∀x c,X.env.cells.lookup x=some c->c≠b)/\∀p∈X.pn++pins,p.1≠b)
 (O:∀b o,b≠X.env.locals->b∉X.fs->b∉ch->s.heap.get? b=some o->H b=none->h'.get? b=some o)
 (Y:∀b o,b≠X.env.locals->b∈X.fs->b∉ch->s.heap.get? b=some o->H b=none->∃sl,h'.get? b=some { o with slots:=sl}) (free:∀b o,b∉ch->s.heap.get? b=some o->H b=none->H' b=none)
 (there:∀b o,b∉ch->s.heap.get? b=some o->∃o',h'.get? b=some o')
 (a0:∀b xs,H b=some (.tup xs)->H' b=some (.tup xs)) (a1:∀b o u,H b=some (.frz o u)->H' b=some (.frz o u)) (a2:∀b ps,H b=some (.tbl ps)->∃a3,H' b=some (.tbl (ps++a3)))
 (ns:∀m,s.heap.Ns X.env.locals m->h'.Ns X.env.locals m) (a5:HOk X.prog X.w H' h') (hg:AllBare g'):
 Inv X pins σ H' { s with heap:=h',gens:=g',drawn:=d',toks:=t'}:=by
 have a4:∀b o,X.s₀.heap.get? b=some o->b≠X.env.locals:=fun b o e=>ne_of_lt (lt_of_lt_of_le (Heap.lt_size e) I.ok.above)
 have U:∀b o,X.s₀.heap.get? b=some o->b∉X.ex->b∉ch:=fun b o e J Z=>by
  rcases(M b Z).1 with z | z
  . exact J z
  . exact absurd (lt_of_lt_of_le (Heap.lt_size e) z) (lt_irrefl _)
 have cellK:∀x c,X.env.cells.lookup x=some c->∀v,s.heap.IsCell c v->h'.IsCell c v:=fun x c e v ⟨o,ho,hd⟩=>by
  have S:c∉ch:=fun z=>(M c z).2.2.1 x c e rfl
  by_cases hc:c∈X.fs
  . obtain⟨sl,q⟩:=Y c o (I.cne x c e) hc S ho (I.freeC x c e)
    exact⟨_,q,hd⟩
  . exact⟨o,O c o (I.cne x c e) hc S ho (I.freeC x c e),hd⟩
 refine⟨I.ok,I.os,hg,⟨fun b o e n Z J=> ?_,fun b o e n Z J=> ?_,fun b o e n J=> ?_,fun b o e J=> ?_,fun b xs e=>a0 b xs (I.base.tups b xs e),fun b o xs e=>a1 b o xs (I.base.frzs b o xs e),fun b ps e=> ?_⟩,?_,fun x c e=> ?_,?_,fun x c e=> ?_,fun p hp=> ?_,a5,I.len⟩
 . exact O b o (a4 b o e) Z (U b o e J) (I.base.keep b o e n Z J) (I.base.free b o e n J)
 . obtain⟨sl,W⟩:=I.base.slot b o e n Z J
   obtain⟨a6,e2⟩:=Y b _ (a4 b o e) Z (U b o e J) W (I.base.free b o e n J)
   exact⟨a6,e2⟩
 . obtain⟨o',W⟩:=I.base.there b o e J
   exact free b o' (U b o e J) W (I.base.free b o e n J)
 . obtain⟨o',W⟩:=I.base.there b o e J
   exact there b o' (U b o e J) W
 . obtain⟨m1,W⟩:=I.base.tbls b ps e
   obtain⟨m2,e2⟩:=a2 b _ W
   exact⟨m1++m2,by rw [e2,Array.append_assoc]⟩
 . obtain⟨m,hn,hl⟩:=I.loc
   refine⟨m,ns m hn,fun i x v W e2 e3=> ?_⟩
   obtain⟨u,r,l⟩:=hl i x v W e2 e3
   refine⟨u,r,?_⟩
   rcases l with l | ⟨k,c,e,z⟩
   . exact .inl l
   . exact .inr ⟨k,c,e,cellK x c e _ z⟩
 . obtain⟨v,z⟩:=I.cell x c e
   exact⟨v,cellK x c e v z⟩
 . obtain⟨m,⟨o,_,_,ho,_⟩,_⟩:=I.loc
   exact free _ o (fun z=>(M _ z).2.1 rfl) ho I.free
 . obtain⟨v,o,ho,hd⟩:=I.cell x c e
   exact free c o (fun z=>(M c z).2.2.1 x c e rfl) ho (I.freeC x c e)
 . obtain⟨e,n,ne,nf,d⟩:=I.pin p hp
   have S:p.1∉ch:=fun z=>(M p.1 z).2.2.2 p hp rfl
   exact⟨O p.1 p.2 ne nf S e n,free p.1 p.2 S e n,ne,nf,d⟩
theorem Inv.un {t':Nat} (I:Inv X pins σ H s) (u:Un X.fs [] H H' s.heap h') (M:HOk X.prog X.w H' h'):Inv X pins σ H' { s with heap:=h',toks:=t'}:=by
 obtain⟨m,⟨o,es,ep,W,r⟩,_⟩:=id I.loc
 obtain⟨sl,Y⟩:=u.any W I.free (by simp)
 exact I.step (g':=s.gens) (d':=s.drawn) (ch:=[]) (fun _ z=>nomatch z) (fun b o _ O _ e n=>u.keep b o e n O (by simp)) (fun b o _ O _ e n=>u.slot b o e n O (by simp)) (fun b o _ e n=>u.free b o e n (by simp)) (fun b o _ e=>u.there b o e (by simp)) u.tups u.frzs u.tbls (fun m' Z=>by
  obtain⟨o',S,U,J,r'⟩:=Z
  rw [W]at J;cases J
  exact⟨_,S,U,Y,r'⟩) M I.bare
theorem Inv.call {g':Array GenState}{t':Nat}{d':Drawn}{ch:List Addr} (I:Inv X pins σ H s) (u:Un (frs X.stack) ch H H' s.heap h') (S:HOk X.prog X.w H' h') (hg:AllBare g')
 (M:∀b∈ch,(b∈X.ex\/X.s₀.heap.objs.size<=b)/\b≠X.env.locals/\(∀x c,X.env.cells.lookup x=some c->c≠b)/\∀p∈X.pn++pins,p.1≠b):
 Inv X pins σ H' { s with heap:=h',gens:=g',drawn:=d',toks:=t'}:=by
 obtain⟨m,⟨o,es,ep,Z,r⟩,_⟩:=id I.loc
 obtain⟨sl,U⟩:=u.any Z I.free fun z=>(M _ z).2.1 rfl
 exact I.step (ch:=ch) M (fun b o U hb J e n=>u.keep b o e n (fun z=>(mem_cons.mp (I.stkSub b z)).elim U hb) J) (fun b o _ _ J e n=>u.any e n J) (fun b o J e n=>u.free b o e n J) (fun b o J e=>u.there b o e J) u.tups u.frzs u.tbls (fun m' hm=>by
  obtain⟨o',W,Y,O,r'⟩:=hm
  rw [Z]at O;cases O
  exact⟨_,W,Y,U,r'⟩) S hg
theorem Inv.turned {t':Nat}{J:Addr} (I:Inv X pins σ H s) (k:∀b o,b≠J->s.heap.get? b=some o->h'.get? b=some o) (U:H J=none) (S:J≠X.env.locals)
 (h1:J∈X.ex\/X.s₀.heap.objs.size<=J) (h2:∀x c,X.env.cells.lookup x=some c->c≠J) (W:∀p∈X.pn++pins,p.1≠J):Inv X pins σ H { s with heap:=h',toks:=t'}:=by
 have O:∀b u,H b=some u->b≠J:=fun b u e z=>by rw [z,U]at e;cases e
 refine I.step (g':=s.gens) (d':=s.drawn) (ch:=[J]) (fun b Y=> ?_) (fun b o _ _ M e _=>k b o (fun z=>M (by simp [z])) e) (fun b o _ _ M e _=>⟨o.slots,k b o (fun z=>M (by simp [z])) e⟩) (fun _ _ _ _ n=>n)
  (fun b o M e=>⟨o,k b o (fun z=>M (by simp [z])) e⟩) (fun _ _ e=>e) (fun _ _ _ e=>e) (fun b ps e=>⟨#[],by rw [e];simp⟩) (fun m Z=> ?_) (fun b u e=> ?_) I.bare
 . have e:b=J:=by simpa using Y
   subst e
   exact⟨h1,S,h2,W⟩
 . obtain⟨o,es,ep,ho,r⟩:=Z
   exact⟨o,es,ep,k _ o (Ne.symm S) ho,r⟩
 . refine(I.hok b u e).stay (fun c v M q=>k c v ?_ q) (fun _ q=>q) fun _ _ q=>q
   rcases M with z | z
   . rw [z];exact O b u e
   . exact O c _ z
theorem Inv.tok (I:Inv X pins σ H s) (t:Nat):Inv X pins σ H { s with toks:=t}:=I.un (h':=s.heap) (t':=t) Un.refl I.hok
theorem Inv.kept {t':Nat} (I:Inv X pins σ H s) (k:∀b u,s.heap.get? b=some u->h'.get? b=some u):Inv X pins σ H { s with heap:=h',toks:=t'}:=I.un (Un.kept k) (I.hok.kept k)
theorem Inv.laid {a:Addr}{o:HO}{t':Nat} (I:Inv X pins σ H s) (k:∀b u,s.heap.get? b=some u->h'.get? b=some u) (z:s.heap.objs.size<=a) (J:Hw X.prog X.w (upd H a o) h' a o):
 Inv X pins σ (upd H a o) { s with heap:=h',toks:=t'}:=I.un (Un.laid k z (I.hok.fresh z)) (I.hok.laid k z J)
theorem Inv.write {x e:Addr}{o:HO}{t':Nat} (I:Inv X pins σ H s) (mu:Mut (H x)) (M:e=x\/H e=some (.own x)) (k:∀b u,b≠e->s.heap.get? b=some u->h'.get? b=some u) (z:∃u,h'.get? e=some u)
 (J:Hw X.prog X.w (upd H x o) h' x o):Inv X pins σ (upd H x o) { s with heap:=h',toks:=t'}:=I.un (Un.write mu M k z) (I.hok.write mu M k z J)
theorem Inv.pins_of {J:List (Addr × Obj)} (I:Inv X pins σ H s) (h:∀p∈J,s.heap.get? p.1=some p.2/\H p.1=none/\p.1≠X.env.locals/\p.1∉X.fs/\∀v,p.2.data≠ .cell v):Inv X J σ H s:=
 ⟨I.ok,I.os,I.bare,I.base,I.loc,I.cell,I.free,I.freeC,fun p M=>(mem_append.mp M).elim (fun z=>I.pin p (mem_append_left _ z)) (h p),I.hok,I.len⟩
theorem U0 {N:List Str} (z:N.Nodup) {i j:Nat}{x:Str} (a:N[i]? =some x) (b:N[j]? =some x):i=j:=by
 obtain⟨h1,I⟩:=List.getElem?_eq_some_iff.mp a
 obtain⟨h2,J⟩:=List.getElem?_eq_some_iff.mp b
 exact(List.getElem_inj z).mp (I.trans J.symm)
theorem Agr {M:Model}{A:Around}{E:Value->Shared->Prop}{i:Nat}{x:Str}{v:V}{u:Value}{Q:Unit->Shared->Prop} (I:Inv X pins σ H s) (hN:X.N.Nodup) (hi:X.N[i]? =some x) (S:Loc X.env.scope x) (r:RelV v u)
 (h:∀s',Inv X pins (σ.set i (some v)) H s'->(∃a,Heap.SameBut a s.heap s'.heap/\(a=X.env.locals\/X.env.cells.lookup x=some a))->Q () s') (hf:X.fn x=true\/X.env.scope.names.lookup x=some .local :=by first | exact .inl rfl | exact .inr rfl | assumption):wpAny M A (storeName X.env x u) Q E s:=by
 obtain⟨m,hn,hl⟩:=id I.loc
 have a1:(X.env.scope.kind== .class||(X.env.scope.kind== .module&&X.env.locals != X.env.globals))=false:=by rw [I.ok.kind];rfl
 have Y:i<σ.length:=by rw [I.len];exact(List.getElem?_eq_some_iff.mp hi).1
 have cne:=I.cne
 have tracked:∀ {a:Addr}{h':Heap},(∃o,s.heap.get? a=some o/\H a=none)->Heap.SameBut a s.heap h'->HOk X.prog X.w H h':=fun {a h'} ha hs b ob e=>by
  obtain⟨_,_,U⟩:=ha
  refine(I.hok b ob e).stay (fun c w' O q=>(hs.2 c ?_).trans q) (fun _ q=>q) fun _ _ q=>q
  rintro rfl
  rcases O with rfl | O
  . rw [U]at e;cases e
  . rw [U]at O;cases O
 rcases S with Z | Z
 . refine wpAny_storeName_local Z hn (fun h' a6 hs=> ?_) a1
   obtain⟨oL,_,_,a7,_⟩:=id hn
   refine h _ ⟨I.ok,I.os,I.bare,⟨fun b o e n hb S=> ?_,fun b o e n hb S=> ?_,I.base.free,fun b o e S=> ?_,I.base.tups,I.base.frzs,I.base.tbls⟩,⟨_,a6,fun j y v' J W e3=> ?_⟩,fun y c e=> ?_,I.free,I.freeC,fun p hp=> ?_,tracked ⟨oL,a7,I.free⟩ hs,by simpa using I.len⟩ ⟨_,hs,.inl rfl⟩
   . exact(hs.2 b (ne_of_lt (lt_of_lt_of_le (Heap.lt_size e) I.ok.above))).trans (I.base.keep b o e n hb S)
   . obtain⟨sl,J⟩:=I.base.slot b o e n hb S
     exact⟨sl,(hs.2 b (ne_of_lt (lt_of_lt_of_le (Heap.lt_size e) I.ok.above))).trans J⟩
   . obtain⟨o',J⟩:=I.base.there b o e S
     exact⟨o',(hs.2 b (ne_of_lt (lt_of_lt_of_le (Heap.lt_size e) I.ok.above))).trans J⟩
   . by_cases hj:j=i
     . subst hj
       rw [hi]at J;cases J
       rw [List.getElem?_set_self Y]at W
       cases W
       exact⟨u,r,.inl ⟨Z,by simp⟩⟩
     . rw [List.getElem?_set_ne (Ne.symm hj)]at W
       obtain⟨u',r',q⟩:=hl j y v' J W e3
       refine⟨u',r',?_⟩
       rcases q with⟨k,e⟩ | ⟨k,c,e,z⟩
       . refine .inl ⟨k,?_⟩
         have:y≠x:=fun e=>hj (U0 hN J (e▸hi))
         simp [this,e]
       . exact .inr ⟨k,c,e,z.sameBut hs (cne y c e)⟩
   . obtain⟨w',z⟩:=I.cell y c e
     exact⟨w',z.sameBut hs (cne y c e)⟩
   . obtain⟨e,n,ne,nf,d⟩:=I.pin p hp
     exact⟨(hs.2 p.1 ne).trans e,n,ne,nf,d⟩
 . have a0:X.fn x=true:=by
    rcases hf with z | z
    . exact z
    . rw [z]at Z;cases Z
   obtain⟨c,O⟩:=I.ok.has x (.inl Z)
   obtain⟨w',z⟩:=I.cell x c O
   refine wpAny_storeName_cell I.ok.kind Z O z (fun h' a2 hs=> ?_)
   obtain⟨oc,a3,a4⟩:=id z
   refine h { s with heap:=h'} ⟨I.ok,I.os,I.bare,⟨fun b o e n hb S=> ?_,fun b o e n hb S=> ?_,I.base.free,fun b o e S=> ?_,I.base.tups,I.base.frzs,I.base.tbls⟩,⟨m,hn.sameBut hs (Ne.symm (cne x c O)),fun j y v' J W e3=> ?_⟩,fun y c' e=> ?_,I.free,I.freeC,fun p hp=> ?_,tracked ⟨oc,a3,I.freeC x c O⟩ hs,by simpa using I.len⟩ ⟨c,hs,.inr O⟩
   . exact(hs.2 b (ne_of_lt (lt_of_lt_of_le (Heap.lt_size e) (I.ok.cab x c a0 O)))).trans (I.base.keep b o e n hb S)
   . obtain⟨sl,J⟩:=I.base.slot b o e n hb S
     exact⟨sl,(hs.2 b (ne_of_lt (lt_of_lt_of_le (Heap.lt_size e) (I.ok.cab x c a0 O)))).trans J⟩
   . obtain⟨o',J⟩:=I.base.there b o e S
     exact⟨o',(hs.2 b (ne_of_lt (lt_of_lt_of_le (Heap.lt_size e) (I.ok.cab x c a0 O)))).trans J⟩
   . by_cases hj:j=i
     . subst hj
       rw [hi]at J;cases J
       rw [List.getElem?_set_self Y]at W
       cases W
       exact⟨u,r,.inr ⟨.inl Z,c,O,a2⟩⟩
     . rw [List.getElem?_set_ne (Ne.symm hj)]at W
       obtain⟨u',r',q⟩:=hl j y v' J W e3
       refine⟨u',r',?_⟩
       rcases q with q | ⟨k,c',e,z'⟩
       . exact .inl q
       . refine .inr ⟨k,c',e,z'.sameBut hs ?_⟩
         rintro rfl
         exact hj (U0 hN J (I.ok.inj _ _ _ e O▸hi))
   . by_cases a5:c'=c
     . subst a5;exact⟨_,a2⟩
     . obtain⟨w2,z2⟩:=I.cell y c' e
       exact⟨w2,z2.sameBut hs a5⟩
   . obtain⟨e,n,ne,nf,d⟩:=I.pin p hp
     refine⟨(hs.2 p.1 ?_).trans e,n,ne,nf,d⟩
     intro q
     rw [q,a3]at e
     have q':oc=p.2:=Option.some.inj e
     exact d w' (by rw [<-q'];exact a4)
theorem Ld {M:Model}{A:Around}{E:Value->Shared->Prop}{i:Nat}{x:Str}{v:V}{u:Value}{Q:Unit->Shared->Prop} (I:Inv X pins σ H s) (z:X.N.Nodup) (hi:X.N[i]? =some x) (J:Loc X.env.scope x) (r:RelV v u)
 (h:∀s',Inv X pins (σ.set i (some v)) H s'->Q () s') (O:X.fn x=true\/X.env.scope.names.lookup x=some .local :=by first | exact .inl rfl | exact .inr rfl | assumption):wpAny M A (storeName X.env x u) Q E s:=
 Agr I z hi J r (fun s' S _=>h s' S) O
theorem Inv.call' {s':Shared}{ch:List Addr} (I:Inv X pins σ H s) (U:s'.os=s.os) (u:Un (frs X.stack) ch H H' s.heap s'.heap) (z:HOk X.prog X.w H' s'.heap) (W:AllBare s'.gens)
 (J:∀b∈ch,(b∈X.ex\/X.s₀.heap.objs.size<=b)/\b≠X.env.locals/\(∀x c,X.env.cells.lookup x=some c->c≠b)/\∀p∈X.pn++pins,p.1≠b):Inv X pins σ H' s':=by
 obtain⟨h',M,O,S,o'⟩:=s'
 have e:o'=s.os:=U
 subst e
 exact I.call (g':=M) (t':=S) (d':=O) u z W J
end
noncomputable abbrev XK:=Value->Option Addr->Hp->Prop
noncomputable abbrev St:=List (Option V)
noncomputable abbrev VK:=V->Hp->Prop
noncomputable abbrev TE:=St->Hp->VK->Prop
noncomputable abbrev TT:=St->Hp->(Bool->Hp->Prop)->Prop
noncomputable abbrev TA:=St->Hp->(List V->Hp->Prop)->Prop
structure Ends where
 nx:St->Hp->Prop
 rt:VK
 bk:St->Hp->Prop:=fun _ _=>False
 ct:St->Hp->Prop:=fun _ _=>False
noncomputable abbrev TS:=Ends->St->Hp->Prop
noncomputable def EP (X:Cx) (pins:List (Addr × Obj)) (σ:St) (Q:VK) (u:Value) (s':Shared):Prop:=∃v H',Inv X pins σ H' s'/\RelV v u/\Q v H'
noncomputable def TP (X:Cx) (pins:List (Addr × Obj)) (σ:St) (Q:Bool->Hp->Prop) (b:Bool) (s':Shared):Prop:=∃H',Inv X pins σ H' s'/\Q b H'
noncomputable def AP (X:Cx) (pins:List (Addr × Obj)) (σ:St) (Q:List V->Hp->Prop) (us:List Value) (s':Shared):Prop:=∃vs H',Inv X pins σ H' s'/\Vals vs us/\Q vs H'
noncomputable def SP (X:Cx) (pins:List (Addr × Obj)) (D:Ends) (f:Flow) (s':Shared):Prop:=
 match f with
 | .next=>∃σ' H',Inv X pins σ' H' s'/\D.nx σ' H'
 | .brk=>∃σ' H',Inv X pins σ' H' s'/\D.bk σ' H'
 | .cont=>∃σ' H',Inv X pins σ' H' s'/\D.ct σ' H'
 | .ret u=>∃v σ' H',Inv X pins σ' H' s'/\RelV v u/\D.rt v H'
noncomputable def PE (X:Cx) (e:Expr) (t:TE):Prop:=
 ∀(pins:List (Addr × Obj)) (s:Shared) (σ:St) (H:Hp) (Q:VK),Inv X pins σ H s->t σ H Q->wpAny (model X.prog X.w) X.A (eval e X.env) (EP X pins σ Q) X.xe s
noncomputable def PT (X:Cx) (e:Expr) (t:TT):Prop:=
 ∀(pins:List (Addr × Obj)) (s:Shared) (σ:St) (H:Hp) (Q:Bool->Hp->Prop),Inv X pins σ H s->t σ H Q->wpAny (model X.prog X.w) X.A (isTrue e X.env (eval e X.env)) (TP X pins σ Q) X.xe s
noncomputable def PW (X:Cx) (e:Expr) (t:TT):Prop:=
 ∀(whole:Sem Value) (pins:List (Addr × Obj)) (s:Shared) (σ:St) (H:Hp) (Q:Bool->Hp->Prop),Inv X pins σ H s->t σ H Q->wpAny (model X.prog X.w) X.A (isTrue e X.env whole) (TP X pins σ Q) X.xe s
theorem PW.pt {X:Cx}{e:Expr}{t:TT} (h:PW X e t):PT X e t:=h _
noncomputable def PA (X:Cx) (es:List Expr) (t:TA):Prop:=
 ∀(pos:Pos) (pins:List (Addr × Obj)) (s:Shared) (σ:St) (H:Hp) (Q:List V->Hp->Prop),Inv X pins σ H s->t σ H Q->wpAny (model X.prog X.w) X.A (spliced (backTo pos (starEach es X.env))) (AP X pins σ Q) X.xe s
noncomputable def PS (X:Cx) (st:Stmt) (t:TS):Prop:=
 ∀(pins:List (Addr × Obj)) (s:Shared) (σ:St) (H:Hp) (D:Ends),Inv X pins σ H s->t D σ H->wpAny (model X.prog X.w) X.A (exec st X.env) (SP X pins D) X.xe s
noncomputable def PSs (X:Cx) (st:List Stmt) (t:TS):Prop:=
 ∀(pins:List (Addr × Obj)) (s:Shared) (σ:St) (H:Hp) (D:Ends),Inv X pins σ H s->t D σ H->wpAny (model X.prog X.w) X.A (execs st X.env) (SP X pins D) X.xe s
theorem thn {α:Type}{t:Sem α}{Q Q':α->Shared->Prop}{M:Model}{A:Around}{E:Value->Shared->Prop}{s:Shared} (h:wpAny M A t Q E s) (z:∀a s,Q a s->Q' a s):wpAny M A t Q' E s:=wpAny_mono h z fun _ _ x=>x
section
variable {X:Cx}
noncomputable def Ak8 (i:Nat):TE:=fun σ H Q=>∃v,σ[i]? =some (some v)/\Q v H
noncomputable def tC (v:V):TE:=fun _ H Q=>Q v H
theorem Aqt {i:Nat}{x:Str}{pos:Pos} (W:X.N[i]? =some x) (hv:Vis X.env.scope x) (O:(x==("__debug__":Str))=false:=by decide) (S:(x==("__classdict__":Str))=false:=by decide):PE X (.Name x pos) (Ak8 i):=by
 intro pins s σ H Q I h
 obtain⟨v,e,h⟩:=h
 obtain⟨m,Y,Z⟩:=I.loc
 obtain⟨u,r,l⟩:=Z i x v W e hv
 have J:EP X pins σ Q u s:=⟨v,H,I,r,h⟩
 rcases l with⟨M,hm⟩ | ⟨M,c,U,z⟩
 . exact wpAny_Name (wpAny_loadName_local I.ok.kind M Y hm J) O
 . rcases M with M | M
   . exact wpAny_Name (wpAny_loadName_cell I.ok.kind M U z J) O
   . exact wpAny_Name (wpAny_loadName_free I.ok.kind M U z J S) O
theorem Aql {i j pos}:PE X (.Constant (.int i) j pos) (tC (.int i)):=fun _ _ _ H _ I h=>wpAny_Constant_int ⟨.int i,H,I.tok _,⟨_,rfl⟩,h⟩
theorem As6 {b j pos}:PE X (.Constant (.bool b) j pos) (tC (.bl b)):=fun _ _ _ H _ I h=>Constant_bool ⟨.bl b,H,I,rfl,h⟩
theorem Aqn {j pos}:PE X (.Constant .none j pos) (tC .non):=fun _ _ _ H _ I h=>Constant_none ⟨.non,H,I,rfl,h⟩
theorem Aqr {x j pos}:PE X (.Constant (.str x) j pos) (tC (.str x)):=fun _ _ _ H _ I h=>Calls.Constant_str ⟨.str x,H,I.tok _,⟨_,rfl⟩,h⟩
noncomputable def Gl (X:Cx) (x:Str):Prop:=X.env.kindOf x=some .globalImplicit
theorem Qu {E:Value->Shared->Prop}{pins:List (Addr × Obj)}{s:Shared}{σ:St}{H:Hp}{x:Str}{u:Value}{pos:Pos}{Q:Value->Shared->Prop} (I:Inv X pins σ H s) (z:Gl X x) (J:X.mg x=some u) (h:Q u s)
 (M:(x==("__debug__":Str))=false:=by decide):wpAny (model X.prog X.w) X.A (eval (.Name x pos) X.env) Q E s:=
 Calls.Name_function_global I.ok.kind z (Calls.loadGlobal_global (by rw [I.ok.glob];exact I.mod.glob.keeps I.bk) J h) M
theorem Mt {E:Value->Shared->Prop}{pins:List (Addr × Obj)}{s:Shared}{σ:St}{H:Hp}{x:Str}{u:Value}{pos:Pos}{Q:Value->Shared->Prop} (I:Inv X pins σ H s) (z:Gl X x) (J:X.mg x=none) (hv:bootBuiltins x=some u) (h:Q u s)
 (M:x≠"__name__":=by decide) (O:(x==("__debug__":Str))=false:=by decide):wpAny (model X.prog X.w) X.A (eval (.Name x pos) X.env) Q E s:=by
 obtain⟨S,h1,h2⟩:=I.mod.blt
 exact Calls.Name_function_global I.ok.kind z (Calls.loadGlobal_builtin (by rw [I.ok.glob];exact I.mod.glob.keeps I.bk) J (by rw [I.ok.blt];exact h1.keeps I.bk) ((h2 x M).trans hv) h) O
theorem Yz {x:Str}{v:V}{u:Value}{pos:Pos} (z:Gl X x) (J:X.mg x=some u) (r:RelV v u) (M:(x==("__debug__":Str))=false:=by decide):PE X (.Name x pos) (tC v):=
 fun _ _ _ H _ I h=>Qu I z J ⟨v,H,I,r,h⟩ M
theorem Yy {x:Str}{v:V}{u:Value}{pos:Pos} (z:Gl X x) (J:X.mg x=none) (hv:bootBuiltins x=some u) (r:RelV v u) (M:x≠"__name__":=by decide) (O:(x==("__debug__":Str))=false:=by decide):PE X (.Name x pos) (tC v):=
 fun _ _ _ H _ I h=>Mt I z J hv ⟨v,H,I,r,h⟩ M O
variable {a b:Expr}{ta tb:TE}{pos:Pos}
noncomputable def tB (t:TE):TT:=fun σ H Q=>t σ H fun x H1=>∃c,x= .bl c/\Q c H1
theorem Aky {e:Expr}{t:TE} (h:PE X e t) (z:∀whole,isTrue e X.env whole=(do let v<-whole;standAt e.pos;holding [v] (truthy v)):=by intro _;rfl):PT X e (tB t):=by
 intro pins s σ H Q I J
 refine isTrue_plain (thn (h pins s σ H _ I J) fun v U ⟨x,H1,M,O,S⟩=> ?_) (z _)
 obtain⟨d,rfl,q⟩:=S
 cases O
 exact wpAny_truthy_bool ⟨H1,M,q⟩
variable {tA tB':TT}{rest:List Expr}
noncomputable def Atr (t u:TT):TT:=fun σ H Q=>t σ H fun c H1=>if c=true then u σ H1 Q else Q false H1
noncomputable def tOr (t u:TT):TT:=fun σ H Q=>t σ H fun c H1=>if c=true then Q true H1 else u σ H1 Q
noncomputable def Aty (t:TT):TT:=fun σ H Q=>t σ H fun c H1=>Q (!c) H1
theorem Ans (z:PT X a tA):PW X (.BoolOp .And [a] pos) tA:=by
 intro J pins s σ H Q I h
 refine isTrue_and (thn (z pins s σ H Q I h) fun c M e=> ?_)
 cases c with
 | true=>exact isTrue_and_nil e
 | false=>exact e
theorem Aq6 (z:PT X a tA):PW X (.BoolOp .Or [a] pos) tA:=by
 intro J pins s σ H Q I h
 refine isTrue_or (thn (z pins s σ H Q I h) fun c M e=> ?_)
 cases c with
 | false=>exact isTrue_or_nil e
 | true=>exact e
theorem Aq4 (M:PT X a tA) (O:PW X (.BoolOp .And (b::rest) pos) tB'):PW X (.BoolOp .And (a::b::rest) pos) (Atr tA tB'):=by
 intro S pins s σ H Q I h
 refine isTrue_and (thn (M pins s σ H _ I h) fun c U ⟨H1,z,J⟩=> ?_)
 cases c with
 | true=>exact O S pins U σ H1 Q z J
 | false=>exact⟨H1,z,J⟩
theorem Atb (M:PT X a tA) (O:PW X (.BoolOp .Or (b::rest) pos) tB'):PW X (.BoolOp .Or (a::b::rest) pos) (tOr tA tB'):=by
 intro S pins s σ H Q I h
 refine isTrue_or (thn (M pins s σ H _ I h) fun c U ⟨H1,z,J⟩=> ?_)
 cases c with
 | true=>exact⟨H1,z,J⟩
 | false=>exact O S pins U σ H1 Q z J
theorem Aq3 (z:PT X a tA):PT X (.UnaryOp .Not a pos) (Aty tA):=by
 intro pins s σ H Q I h
 exact isTrue_not (z pins s σ H (fun c H1=>Q (!c) H1) I h)
noncomputable def An9 (ta tb:TE):TE:=fun σ H Q=>ta σ H fun x H1=>∃c,x= .bl c/\if c=true then tb σ H1 Q else Q (.bl false) H1
noncomputable def Aoc (ta:TE):TE:=fun σ H Q=>ta σ H fun x H1=>∃c,x= .bl c/\Q (.bl (!c)) H1
theorem Aqp {op}{t:TE} (h:PE X a t):PE X (.BoolOp op [a] pos) t:=fun pins s σ H Q I z=>BoolOp_one (h pins s σ H Q I z)
theorem Aqk (M:PE X a ta) (O:PE X (.BoolOp .And (b::rest) pos) tb):PE X (.BoolOp .And (a::b::rest) pos) (An9 ta tb):=by
 intro pins s σ H Q I h
 refine BoolOp_and (thn (M pins s σ H _ I h) fun v S ⟨x,H1,J,U,z⟩=> ?_)
 obtain⟨c,rfl,z⟩:=z
 cases U
 refine wpAny_truthy_bool ?_
 cases c with
 | true=>exact O pins S σ H1 Q J z
 | false=>exact⟨.bl false,H1,J,rfl,z⟩
theorem Aqo (J:PE X a ta):PE X (.UnaryOp .Not a pos) (Aoc ta):=by
 intro pins s σ H Q I h
 refine UnaryOp_ (thn (J pins s σ H _ I h) fun v S ⟨x,H1,M,O,z⟩=> ?_)
 obtain⟨c,rfl,z⟩:=z
 cases O
 exact not_of (wpAny_truthy_bool ⟨.bl (!c),H1,M,rfl,z⟩)
noncomputable def tIf (t:TT) (ta tb:TE):TE:=fun σ H Q=>t σ H fun c H1=>if c=true then ta σ H1 Q else tb σ H1 Q
theorem Ais {c:Expr} (O:PT X c tA) (S:PE X a ta) (U:PE X b tb):PE X (.IfExp c a b pos) (tIf tA ta tb):=by
 intro pins s σ H Q I h
 refine wpAny_IfExp (thn (O pins s σ H _ I h) fun d z ⟨H1,J,M⟩=> ?_)
 cases d with
 | true=>exact S pins z σ H1 Q J M
 | false=>exact U pins z σ H1 Q J M
end
noncomputable def SqL (K:Frag) (H:Hp) (a:Addr) (xs:List V):Prop:=
 Rd H a (.lst xs)\/
  ∃(o:Obj) (its:Array Value) (n:Nat),K.lookup a=some o/\o.cls= .type "list"/\o.dict=none/\o.data= .seq its n/\its.size<=sizeLine/\Vals xs its.toList
noncomputable def SqT (K:Frag) (H:Hp) (a:Addr) (xs:List V):Prop:=
 Rd H a (.tup xs)\/
  ∃(o:Obj) (its:Array Value) (n:Nat),K.lookup a=some o/\o.cls= .type "tuple"/\o.data= .seq its n/\its.size<=sizeLine/\Vals xs its.toList
noncomputable def Avh:Value->Option V
 | .none=>some .non
 | .bool b=>some (.bl b)
 | .int i _=>some (.int i)
 | .str x _=>some (.str x)
 | .bytes b _=>some (.byt b)
 | .float b _=>some (.flt b)
 | .ref a=>some (.ref a)
 | .type n=>some (.ty n)
 | _=>none
theorem RelV.abs {x:V}{u:Value} (r:RelV x u):Avh u=some x:=by
 cases x with
 | non=>cases r;rfl
 | bl _=>cases r;rfl
 | int _=>obtain⟨t,rfl⟩:=r;rfl
 | str _=>obtain⟨t,rfl⟩:=r;rfl
 | byt _=>obtain⟨t,rfl⟩:=r;rfl
 | flt _=>obtain⟨t,rfl⟩:=r;rfl
 | ref _=>cases r;rfl
 | ty _=>cases r;rfl
theorem RelV.inj {x y:V}{u:Value} (r:RelV x u) (q:RelV y u):x=y:=Option.some.inj (r.abs.symm.trans q.abs)
theorem Vals.inj:∀ {xs ys:List V}{z:List Value},Vals xs z->Vals ys z->xs=ys
 | _,_,_,.nil,.nil=>rfl
 | _,_,_,.cons r t,.cons r' t'=>by rw [r.inj r',Vals.inj t t']
section
variable {X:Cx}{pins:List (Addr × Obj)}{σ:St}{H:Hp}{s:Shared}{a:Addr}{xs ys:List V}
theorem SqL.of {K:Frag} (h:H a=some (.lst xs)):SqL K H a xs:= .inl (.inl h)
theorem SqT.of {K:Frag} (h:H a=some (.tup xs)):SqT K H a xs:= .inl (.inl h)
theorem Inv.list (I:Inv X pins σ H s) (h:SqL X.K H a xs):∃J:List Value,Vals xs J/\PlainL s.heap a J.toArray/\xs.length<=sizeLine:=by
 rcases h with h | ⟨o,J,n,M,O,S,hs,U,r⟩
 . obtain⟨z,J,n,r,e⟩:=h.ok I.hok
   exact⟨J,r,⟨_,n,e,rfl,rfl,rfl⟩,z⟩
 . refine⟨J.toList,r,⟨o,n,I.kIn a o M,O,S,by simpa using hs⟩,?_⟩
   have e:=r.length
   simp only [Array.length_toList]at e
   omega
theorem Inv.tuple (I:Inv X pins σ H s) (h:SqT X.K H a xs):∃J:List Value,Vals xs J/\IsTup s.heap a J.toArray/\xs.length<=sizeLine:=by
 rcases h with h | ⟨o,J,n,M,O,hs,S,r⟩
 . obtain⟨z,J,r,p⟩:=h.ok I.hok
   exact⟨J,r,p,z⟩
 . refine⟨J.toList,r,⟨o,I.kIn a o M,O,n,by simpa using hs⟩,?_⟩
   have e:=r.length
   simp only [Array.length_toList]at e
   omega
theorem Inv.list_inj (I:Inv X pins σ H s) (h:SqL X.K H a xs) (h':SqL X.K H a ys):xs=ys:=by
 obtain⟨J,r,⟨o,n,e,_,_,d⟩,_⟩:=I.list h
 obtain⟨z,S,⟨o',U,M,_,_,O⟩,_⟩:=I.list h'
 rw [e]at M;cases M
 rw [d]at O
 injection O with d1 _
 have:J=z:=by simpa using congrArg Array.toList d1
 subst this
 exact r.inj S
theorem Inv.tuple_inj (I:Inv X pins σ H s) (h:SqT X.K H a xs) (h':SqT X.K H a ys):xs=ys:=by
 obtain⟨J,r,⟨o,e,_,n,d⟩,_⟩:=I.tuple h
 obtain⟨z,S,⟨o',M,_,U,O⟩,_⟩:=I.tuple h'
 rw [e]at M;cases M
 rw [d]at O
 injection O with d1 _
 have:J=z:=by simpa using congrArg Array.toList d1
 subst this
 exact r.inj S
end
noncomputable abbrev Cx.wish (X:Cx) (E:Value->Shared->Prop):Cx:={ X with xe:=E}
noncomputable abbrev Cx.nox (X:Cx):Cx:=X.wish fun _ _=>False
theorem Cx.Ok.wish {X:Cx} (ok:X.Ok) (E:Value->Shared->Prop):(X.wish E).Ok:=
 ⟨ok.mod,ok.kind,ok.glob,ok.blt,ok.above,ok.inj,ok.has,ok.cab,ok.hd,ok.frames,ok.stk,ok.exf,ok.bs,ok.bsz,ok.noex,ok.exfs,ok.funs,ok.frf⟩
theorem Cx.Ok.unwish {X:Cx}{E:Value->Shared->Prop} (ok:(X.wish E).Ok):X.Ok:=
 ⟨ok.mod,ok.kind,ok.glob,ok.blt,ok.above,ok.inj,ok.has,ok.cab,ok.hd,ok.frames,ok.stk,ok.exf,ok.bs,ok.bsz,ok.noex,ok.exfs,ok.funs,ok.frf⟩
section
variable {X:Cx}{pins:List (Addr × Obj)}{σ:St}{H:Hp}{s:Shared}{E:Value->Shared->Prop}
theorem Inv.wish (I:Inv X pins σ H s) (E:Value->Shared->Prop):Inv (X.wish E) pins σ H s:=⟨I.ok.wish E,I.os,I.bare,I.base,I.loc,I.cell,I.free,I.freeC,I.pin,I.hok,I.len⟩
theorem Inv.unwish (I:Inv (X.wish E) pins σ H s):Inv X pins σ H s:=⟨I.ok.unwish,I.os,I.bare,I.base,I.loc,I.cell,I.free,I.freeC,I.pin,I.hok,I.len⟩
theorem SP.unwish {D:Ends}{f:Flow}{s':Shared} (h:SP (X.wish E) pins D f s'):SP X pins D f s':=by
 cases f with
 | next=>obtain⟨z,H',I,q⟩:=h;exact⟨z,H',I.unwish,q⟩
 | brk=>obtain⟨z,H',I,q⟩:=h;exact⟨z,H',I.unwish,q⟩
 | cont=>obtain⟨z,H',I,q⟩:=h;exact⟨z,H',I.unwish,q⟩
 | ret u=>obtain⟨v,z,H',I,r,q⟩:=h;exact⟨v,z,H',I.unwish,r,q⟩
theorem PSs.nox {st:List Stmt}{t:TS} (h:PSs X.nox st t):PSs X st t:=fun pins s σ H D I J=>
 wpAny_mono (h pins s σ H D (I.wish _) J) (fun _ _ q=>q.unwish) fun _ _ z=>False.elim z
end
section
variable {X:Cx}{st:Stmt}{rest:List Stmt}{t u:TS}{e:Expr}{te:TE}{pos:Pos}
noncomputable def Aob:TS:=fun D σ H=>D.nx σ H
noncomputable def Aso (t u:TS):TS:=fun D σ H=>t { D with nx:=u D} σ H
theorem Ano:PSs X [] Aob:=fun _ _ σ H _ I h=>wpAny_execs_nil ⟨σ,H,I,h⟩
theorem Ai0 (h1:PS X st t) (h2:PSs X rest u):PSs X (st::rest) (Aso t u):=by
 intro pins s σ H D I h
 refine wpAny_execs_cons (thn (h1 pins s σ H { D with nx:=u D} I h) fun f J q=> ?_)
 cases f with
 | next=>
   obtain⟨z,H',M,q⟩:=q
   exact h2 pins J z H' D M q
 | ret v=>exact q
 | brk=>exact q
 | cont=>exact q
theorem Anp (h1:PS X st t):PSs X [st] t:=by
 intro pins s σ H D I h
 refine wpAny_execs_cons (thn (h1 pins s σ H D I h) fun f z q=> ?_)
 cases f with
 | next=>exact wpAny_execs_nil q
 | ret v=>exact q
 | brk=>exact q
 | cont=>exact q
theorem Inv.quiet {pins:List (Addr × Obj)}{σ:St}{H:Hp}{s:Shared} (I:Inv X pins σ H s):interactive X.env=false:=by simp [interactive,I.ok.kind]
noncomputable def Aoa (te:TE):TS:=fun D σ H=>te σ H fun _ H1=>D.nx σ H1
theorem Afw (z:PE X e te) (hs:swapsWith e none pos.line X.env=pure false:=by rfl):PS X (.Expr e pos) (Aoa te):=by
 intro pins s σ H D I h
 exact wpAny_Expr_any (thn (z pins s σ H _ I h) fun v O ⟨x,H1,J,S,M⟩=>⟨σ,H1,J,M⟩) I.quiet hs
noncomputable def At0 (te:TE):TS:=fun D σ H=>te σ H D.rt
theorem Aq2 (z:PE X e te):PS X (.Return (some e) pos) (At0 te):=by
 intro pins s σ H D I h
 exact wpAny_Return_some (thn (z pins s σ H _ I h) fun v S ⟨x,H1,J,M,O⟩=>⟨x,σ,H1,J,M,O⟩)
noncomputable def Atv (c:TT) (t u:TS):TS:=fun D σ H=>c σ H fun b H1=>if b=true then t D σ H1 else u D σ H1
theorem Ata {c:Expr}{a b:List Stmt}{tc:TT} (O:PT X c tc) (S:PSs X a t) (U:PSs X b u):PS X (.If c a b pos) (Atv tc t u):=by
 intro pins s σ H D I h
 refine wpAny_If (thn (O pins s σ H _ I h) fun d z ⟨H1,J,M⟩=> ?_)
 cases d with
 | true=>exact S pins z σ H1 D J M
 | false=>exact U pins z σ H1 D J M
noncomputable def Ak7:TS:=fun _ _ _=>False
theorem Aiy:PS X st Ak7:=fun _ _ _ _ _ _ h=>h.elim
end
noncomputable abbrev TG:=V->St->Hp->(St->Hp->Prop)->Prop
noncomputable abbrev TGs:=List V->St->Hp->(St->Hp->Prop)->Prop
noncomputable def PG (X:Cx) (target:Expr) (t:TG):Prop:=
 ∀(pins:List (Addr × Obj)) (s:Shared) (σ:St) (H:Hp) (v:V) (u:Value) (Q:St->Hp->Prop),Inv X pins σ H s->RelV v u->t v σ H Q->
   wpAny (model X.prog X.w) X.A (assign target X.env u) (fun _ s'=>∃σ' H',Inv X pins σ' H' s'/\Q σ' H') X.xe s
noncomputable def PGs (X:Cx) (ts:List Expr) (t:TGs):Prop:=
 ∀(pins:List (Addr × Obj)) (s:Shared) (σ:St) (H:Hp) (vs:List V) (us:List Value) (Q:St->Hp->Prop),Inv X pins σ H s->Vals vs us->t vs σ H Q->
   wpAny (model X.prog X.w) X.A (assignInOrder ((assignEach ts X.env).map (·.2)) us) (fun _ s'=>∃σ' H',Inv X pins σ' H' s'/\Q σ' H') X.xe s
noncomputable abbrev Aoz:=V->V->V->Hp->(Hp->Prop)->Prop
noncomputable def Ass (X:Cx) (t:Aoz):Prop:=
 ∀(pins:List (Addr × Obj)) (s:Shared) (σ:St) (H:Hp) (o i v:V) (ov iv u:Value) (Q:Hp->Prop),Inv X pins σ H s->RelV o ov->RelV i iv->RelV v u->t o i v H Q->
   wpAny (model X.prog X.w) X.A (setItem ov iv u) (fun _ s'=>∃H',Inv X pins σ H' s'/\Q H') X.xe s
section
variable {X:Cx}{pos:Pos}
noncomputable def Qp (i:Nat):TG:=fun v σ H Q=>Q (σ.set i (some v)) H
theorem Y0 {i:Nat}{x:Str} (z:X.N.Nodup) (hi:X.N[i]? =some x) (J:Loc X.env.scope x) (M:X.fn x=true\/X.env.scope.names.lookup x=some .local :=by first | exact .inl rfl | exact .inr rfl | assumption):PG X (.Name x pos) (Qp i):=by
 intro pins s σ H v u Q I r h
 exact wpAny_assign_Name (Ld I z hi J r (fun s' O=>⟨_,H,O,h⟩) M)
noncomputable def Asw:TGs:=fun vs σ H Q=>vs=[]/\Q σ H
noncomputable def Ah2 (t:TG) (u:TGs):TGs:=fun vs σ H Q=>∃v r,vs=v::r/\t v σ H fun σ' H'=>u r σ' H' Q
theorem Ang:PGs X [] Asw:=by
 intro pins s σ H z J Q I r h
 obtain⟨e,h⟩:=h
 subst e
 cases r
 exact assignInOrder_nil ⟨σ,H,I,h⟩
theorem Aaq {e:Expr}{es:List Expr}{t:TG}{u:TGs} (h1:PG X e t) (h2:PGs X es u)
 (hs:(assignEach (e::es) X.env).map (·.2)=assign e X.env::(assignEach es X.env).map (·.2):=by rfl):PGs X (e::es) (Ah2 t u):=by
 intro pins s σ H W Y Q I r h
 obtain⟨v,Z,J,h⟩:=h
 subst J
 cases r with
 | cons r M=>
   rw [hs]
   refine assignInOrder_cons (thn (h1 pins s σ H _ _ _ I r h) fun _ O ⟨z,H1,S,U⟩=> ?_)
   exact h2 pins O z H1 _ _ Q S M U
noncomputable def Ape (K:Frag) (n:Nat) (t:TGs):TG:=fun v σ H Q=>∃a xs,v= .ref a/\SqT K H a xs/\xs.length=n/\t xs σ H Q
theorem Aap {es:List Expr}{k:Nat}{t:TGs}{n:Nat} (O:X.calm=true) (h:PGs X es t)
 (S:(assignEach es X.env).length=n:=by rfl) (z:(assignEach es X.env).findIdx? (·.1)=none:=by rfl):PG X (.Tuple es k pos) (Ape X.K n t):=by
 intro pins s σ H v u Q I r J
 obtain⟨a,xs,U,W,Y,J⟩:=J
 subst U
 cases r
 obtain⟨Z,M,ht,hz⟩:=I.tuple W
 refine assign_Tuple_tuple (I.ok.hd O) ht (by simp [S,<-Y,M.length]) z fun h' hx=> ?_
 have I1:Inv X pins σ H { s with heap:=h'}:=I.kept (t':=s.toks) fun b o e=>hx b o (ne_of_lt (Heap.lt_size e)) e
 exact h pins _ σ H xs _ Q I1 (by simpa using M) J
noncomputable def Asx (to ti:TE) (t:Aoz):TG:=fun v σ H Q=>to σ H fun o H1=>ti σ H1 fun i H2=>t o i v H2 fun H3=>Q σ H3
theorem Aks {o i:Expr}{to M:TE}{t:Aoz} (O:PE X o to) (hi:PE X i M) (hs:Ass X t)
 (S:∀v,assign (.Subscript o i pos) X.env v=(do
   let z<-holding [v] (eval o X.env)
   let J<-holding [v,z] (eval i X.env)
   standAt pos
   holding [v,z,J] (setItem z J v)
   release [v,z,J] []):=by intro _;rfl):PG X (.Subscript o i pos) (Asx to M t):=by
 intro pins s σ H v u Q I r h
 rw [S]
 refine wpAny_bind (wpAny_holding (thn (O pins s σ H _ I h) fun z U ⟨x,H1,W,Y,Z⟩=> ?_))
 refine wpAny_bind (wpAny_holding (thn (hi pins U σ H1 _ W Z) fun J s2 ⟨y,H2,I2,r2,q2⟩=> ?_))
 refine wpAny_bind (wpAny_standAt (wpAny_bind (wpAny_holding (thn (hs pins s2 σ H2 x y v z J u _ I2 Y r2 r q2) fun _ s3 ⟨H3,I3,q3⟩=> ?_))))
 exact wpAny_release ⟨σ,H3,I3,q3⟩
noncomputable def Aje (te:TE) (g:TG):TS:=fun D σ H=>te σ H fun x H1=>g x σ H1 D.nx
theorem Aau {tg e:Expr}{te:TE}{g:TG} (z:PE X e te) (J:PG X tg g) (hs:swapsWithSole [tg] e pos.line X.env=pure false:=by rfl) (M:swappedStores [tg] e X.env=pure none:=by rfl)
 (h1:(assignEach [tg] X.env).map (·.2)=[assign tg X.env]:=by rfl):PS X (.Assign [tg] e pos) (Aje te g):=by
 intro pins s σ H D I h
 refine wpAny_Assign_stores (thn (z pins s σ H _ I h) fun v O ⟨x,H1,S,U,W⟩=> ?_) hs M
 rw [h1]
 exact thn (J pins O σ H1 x v _ S U W) fun _ Y q=>q
theorem Aav {i:Nat}{x:Str}{e:Expr}{te:TE}{z:Pos} (J:X.N.Nodup) (hi:X.N[i]? =some x) (M:Loc X.env.scope x) (O:PE X e te) (hs:swapsWith e (some (.Name x z)) pos.line X.env=pure false:=by rfl) (S:X.fn x=true\/X.env.scope.names.lookup x=some .local :=by first | exact .inl rfl | exact .inr rfl | assumption):
 PS X (.Assign [.Name x z] e pos) (Aje te (Qp i)):=by
 intro pins s σ H D I h
 refine wpAny_Assign_Name (thn (O pins s σ H _ I h) fun v s1 ⟨y,H1,U,W,Y⟩=> ?_) hs
 exact Ld U J hi M W (fun s2 Z=>⟨_,H1,Z,Y⟩) S
noncomputable def Atz (i j:Nat) (ta:TA):TS:=fun D σ H=>ta σ H fun vs H1=>∃v w,vs=[v,w]/\D.nx ((σ.set i (some v)).set j (some w)) H1
theorem Akx {i j:Nat}{x y:Str}{a b:Expr}{ta:TA}{O py pt:Pos}{kt k2 pt2} (hc:X.calm=true) (Z:X.N.Nodup) (hi:X.N[i]? =some x) (hj:X.N[j]? =some y) (S:i≠j)
 (hx:X.env.scope.names.lookup x=some .local) (hy:X.env.scope.names.lookup y=some .local) (ha:PA X [a,b] ta)
 (hw:swappedStores [.Tuple [.Name x O,.Name y py] kt pt] (.Tuple [a,b] k2 pt2) X.env=pure (some [x,y]))
 (hs:swapsWithSole [.Tuple [.Name x O,.Name y py] kt pt] (.Tuple [a,b] k2 pt2) pos.line X.env=pure false:=by rfl):
 PS X (.Assign [.Tuple [.Name x O,.Name y py] kt pt] (.Tuple [a,b] k2 pt2) pos) (Atz i j ta):=by
 intro pins s σ H D I h
 rw [exec_Assign_arm]
 refine wpAny_bind (wpAny_standAt ?_)
 rw [hs]
 refine wpAny_bind (wpAny_pure ?_)
 rw [if_neg (by decide)]
 refine wpAny_bind (Tuple_ (thn (ha _ pins s σ H _ I h) fun us z ⟨vs,H1,I1,r1,U⟩=> ?_))
 obtain⟨v,w,e1,U⟩:=U
 subst e1
 obtain⟨J,M,rfl,rv,W⟩:∃J M,us=[J,M]/\RelV v J/\RelV w M:=by
  cases r1 with
  | cons p q=>
    cases q with
    | cons p' q'=>
      cases q'
      exact⟨_,_,rfl,p,p'⟩
 refine wpAny_newObj_type ?_ (by show 2<=sizeLine;decide)
 have I2:Inv X pins σ H1 { z with heap:=z.heap.push { cls:= .type "tuple",data:= .seq [J,M].toArray}}:=I1.kept (t':=z.toks) fun b o e=>Heap.get?_push_of_some _ e
 rw [hw]
 refine wpAny_bind (wpAny_pure ?_)
 show wpAny (model X.prog X.w) X.A (do rule "assign.swapped-stores";let items<-unpackItems (.ref z.heap.objs.size) 2 none;assignInOrder [fun v=>bindName X.env y v,fun v=>bindName X.env x v] items.reverse;pure Flow.next) _ _ _
 refine wpAny_bind (wpAny_rule (wpAny_bind (unpackItems_tuple (items:= #[J,M]) (I.ok.hd hc) (IsTup.new z.heap _) fun h' Y=> ?_)))
 have I3:=I2.kept (h':=h') (t':=z.toks) fun b o e=>Y b o (ne_of_lt (Heap.lt_size e)) e
 show wpAny _ _ (assignInOrder [fun v=>bindName X.env y v,fun v=>bindName X.env x v] [M,J]>>=fun _=>pure Flow.next) _ _ _
 refine wpAny_bind (assignInOrder_cons (wpAny_bindName (Ld I3 Z hj (.inl hy) W (fun s2 I4=> ?_) (.inr hy))))
 refine assignInOrder_cons (wpAny_bindName (Ld I4 Z hi (.inl hx) rv (fun s3 I5=>assignInOrder_nil (wpAny_pure ?_)) (.inr hx)))
 rw [List.set_comm _ _ (Ne.symm S)]at I5
 exact⟨_,H1,I5,U⟩
end
section
variable {X:Cx}{pos:Pos}
noncomputable def Xl (c:TT) (tb:TS):TS:=fun D σ H=>∃W:Nat->St->Hp->Prop,(∃m,W m σ H)/\∀m σ H,W m σ H->
 c σ H fun b H1=>if b=true then ∃N:St->Hp->Prop,(∀σ' H',N σ' H'->∃m',m'<m/\W m' σ' H')/\tb { D with nx:=N,ct:=N,bk:=D.nx} σ H1 else D.nx σ H1
theorem Aiz {c:Expr}{M:List Stmt}{tc:TT}{tb:TS} (hp:PassesOwn (model X.prog X.w) X.A X.env X.xe) (hc:PT X c tc) (hb:PSs X M tb):PS X (.While c M [] pos) (Xl tc tb):=by
 intro pins s σ H D I h
 obtain⟨W,⟨m0,w0⟩,O⟩:=h
 refine wpAny_While (codeAny_whileLoop (fun n s'=>∃S H',Inv X pins S H' s'/\W n S H') ?_ m0 ⟨σ,H,I,w0⟩)
 rintro n s1 ⟨J,H1,I1,w1⟩
 refine wpAny_passesOwn hp (thn (hc pins s1 J H1 _ I1 (O n J H1 w1)) fun b s2 ⟨H2,I2,Y⟩=> ?_)
 cases b with
 | true=>
   obtain⟨N,hN,Y⟩:=Y
   rw [if_pos rfl]
   refine wpAny_passesOwn hp (thn (hb pins s2 J H2 _ I2 Y) fun f s3 Z=> ?_)
   cases f with
   | next=>
     obtain⟨z,U,I3,n3⟩:=Z
     obtain⟨m',hm,w3⟩:=hN z U n3
     exact⟨m',hm,z,U,I3,w3⟩
   | cont=>
     obtain⟨z,U,I3,n3⟩:=Z
     obtain⟨m',hm,w3⟩:=hN z U n3
     exact⟨m',hm,z,U,I3,w3⟩
   | brk=>exact Z
   | ret v=>exact Z
 | false=>
   rw [if_neg Bool.false_ne_true]
   exact wpAny_execs_nil ⟨J,H2,I2,Y⟩
end
structure It where
 go:Nat->Hp->Prop
 yld:Nat->Hp->V->Hp->Prop
 stop:Nat->Hp->Prop
noncomputable def V5 (X:Cx) (pins:List (Addr × Obj)) (H:Hp) (b:Addr):Prop:=
 H b=none/\b≠X.env.locals/\b∉X.fs/\(b∈X.ex\/X.s₀.heap.objs.size<=b)/\(∀x c,X.env.cells.lookup x=some c->c≠b)/\∀p∈X.pn++pins,p.1≠b
theorem Inv.fpOk {X:Cx}{pins:List (Addr × Obj)}{σ:St}{H H':Hp}{s:Shared}{b:Addr} (I:Inv X pins σ H s) (J:s.heap.objs.size<=b) (M:H' b=none):V5 X pins H' b:=by
 refine⟨M,ne_of_gt (lt_of_lt_of_le I.lt J),I.nofs J,.inr (le_trans I.sz J),fun x c e z=> ?_,fun p O z=> ?_⟩
 . obtain⟨v,q⟩:=I.cell x c e
   exact absurd (lt_of_lt_of_le q.lt (by rw [z];exact J)) (lt_irrefl _)
 . exact absurd (lt_of_lt_of_le (Heap.lt_size (I.pin p O).1) (by rw [z];exact J)) (lt_irrefl _)
structure Turn (P:Program) (w:World) (K:Frag) (tg:Expr) (J:It) (fp:List Addr) (it:Addr) (tn:Nat->Heap->Prop):Prop where
 mem:it∈fp
 obj:∀i h,tn i h->∀b∈fp,∃o,h.get? b=some o/\∀v,o.data≠ .cell v
 keep:∀i h h',tn i h->(∀b∈fp,∀o,h.get? b=some o->h'.get? b=some o)->tn i h'
 item:∀(X:Cx),X.prog=P->X.w=w->X.K=K->X.calm=true->∀(i:Nat) (pins:List (Addr × Obj)) (s:Shared) (σ:St) (H:Hp) (E:Value->Shared->Prop),Inv X pins σ H s->(∀b∈fp,V5 X pins H b)->tn i s.heap->J.go i H->
  wpAny (model P w) X.A (pyNext (.ref it)) (fun r s1=>∃u,r=some u/\
   wpAny (model P w) X.A (letOwnedTupleGo tg (.ref it) u) (fun _ s2=>∃x H',Inv X pins σ H' s2/\RelV x u/\J.yld i H x H'/\tn (i+1) s2.heap/\∀b∈fp,H' b=none) E s1) E s
 done:∀(X:Cx),X.prog=P->X.w=w->X.K=K->X.calm=true->∀(i:Nat) (pins:List (Addr × Obj)) (s:Shared) (σ:St) (H:Hp) (E:Value->Shared->Prop),Inv X pins σ H s->(∀b∈fp,V5 X pins H b)->tn i s.heap->J.stop i H->
  wpAny (model P w) X.A (pyNext (.ref it)) (fun r s1=>r=none/\Inv X pins σ H s1) E s
 self:∀(A:Around) (i:Nat) (s:Shared) (Q:Value->Shared->Prop) (E:Value->Shared->Prop),tn i s.heap->Q (.ref it) s->wpAny (model P w) A (pyIter (.ref it)) Q E s
noncomputable abbrev TI:=St->Hp->(It->Hp->Prop)->Prop
noncomputable def PIE (X:Cx) (pins:List (Addr × Obj)) (σ:St) (tg:Expr) (R:It->Hp->Prop) (itv:Value) (s2:Shared):Prop:=
 ∃(it:Addr) (fp:List Addr) (tn:Nat->Heap->Prop) (J:It) (H':Hp),itv= .ref it/\Inv X pins σ H' s2/\Turn X.prog X.w X.K tg J fp it tn/\tn 0 s2.heap/\(∀b∈fp,V5 X pins H' b)/\R J H'
noncomputable def PI (X:Cx) (tg iter:Expr) (wi:TI):Prop:=
 ∀(pins:List (Addr × Obj)) (s:Shared) (σ:St) (H:Hp) (R:It->Hp->Prop),Inv X pins σ H s->wi σ H R->
   wpAny (model X.prog X.w) X.A (eval iter X.env) (fun v s1=>wpAny (model X.prog X.w) X.A (pyIter v) (PIE X pins σ tg R) X.xe s1) X.xe s
theorem Ad9 {M:Model}{A:Around}{E:Value->Shared->Prop}{s:Shared}{tg:Expr}{I:Addr}{u:Value}{o:Obj}{n:String}{J:Array Value}{Q:Unit->Shared->Prop} (O:s.heap.get? I=some o) (S:o.cls= .type n) (U:o.data= .fields J)
 (W:["enumerate","zip","dict_itemiterator","dict_reverseitemiterator","odict_iterator","itertools.zip_longest","itertools.pairwise"].contains n=false) (z:Q () s):wpAny M A (letOwnedTupleGo tg (.ref I) u) Q E s:=by
 unfold letOwnedTupleGo
 cases tg<;>first
  | exact wpAny_pure z
  | (cases u<;>first
      | exact wpAny_pure z
      | (refine wpAny_bind (wpAny_load O ?_)
         rw [S,U]
         show wpAny M A (if(["enumerate","zip","dict_itemiterator","dict_reverseitemiterator","odict_iterator","itertools.zip_longest","itertools.pairwise"].contains n&&J[0]? ==some (rawInt _))=true then _ else _) Q E s
         rw [if_neg (by intro h;rw [W,Bool.false_and]at h;cases h)]
         exact wpAny_pure z))
noncomputable def Itl (K:Frag) (a:Addr):It:=
 ⟨fun i H=>∃xs x,SqL K H a xs/\xs[i]? =some x,fun i H x H'=>H'=H/\∀xs,SqL K H a xs->xs[i]? =some x,fun i H=>∃xs,SqL K H a xs/\xs.length<=i⟩
noncomputable def Itt (K:Frag) (a:Addr):It:=
 ⟨fun i H=>∃xs x,SqT K H a xs/\xs[i]? =some x,fun i H x H'=>H'=H/\∀xs,SqT K H a xs->xs[i]? =some x,fun i H=>∃xs,SqT K H a xs/\xs.length<=i⟩
noncomputable def Itr (lo:Int) (n:Nat):It:=⟨fun i _=>i<n,fun i H x H'=>H'=H/\x= .int (lo+i),fun i _=>n<=i⟩
theorem Xm {P:Program}{w:World}{K:Frag}{tg:Expr} (a J:Addr):Turn P w K tg (Itl K a) [J] J (fun i h=>h.IsListIter J a i) where
 mem:=by simp
 obj:=fun i h st b M=>by
  have e:b=J:=by simpa using M
  subst e
  obtain⟨o,e,c,d⟩:=st
  exact⟨o,e,fun v z=>by rw [d]at z;cases z⟩
 keep:=fun i h h' st k=>st.at fun o e=>k J (by simp) o e
 item:=by
  intro X Y Z hK hc i pins s σ H E I S st hg
  subst Y Z hK
  obtain⟨xs,x,U,hx⟩:=hg
  obtain⟨a0,rv,p,hz⟩:=I.list U
  obtain⟨u,hu,ru⟩:=rv.get hx
  obtain⟨f0,f1,f2,f3,f4,f5⟩:=S J (by simp)
  refine wpAny_pyNext_list_item st p.isList (x:=u) (by simpa using hu) fun h' O sb=> ?_
  have I1:Inv X pins σ H { s with heap:=h'}:=I.turned (t':=s.toks) (fun b o M e=>(sb.2 b M).trans e) f0 f1 f3 f4 f5
  obtain⟨o,e,c,d⟩:=id O
  exact⟨u,rfl,Ad9 (s:={ s with heap:=h'}) e c d (by decide) ⟨x,H,I1,ru,⟨rfl,fun ys hy=>by rw [I.list_inj hy U];exact hx⟩,O,fun b M=>(S b M).1⟩⟩
 done:=by
  intro X Y Z hK hc i pins s σ H E I S st hg
  subst Y Z hK
  obtain⟨xs,U,hx⟩:=hg
  obtain⟨a0,rv,p,hz⟩:=I.list U
  obtain⟨f0,f1,f2,f3,f4,f5⟩:=S J (by simp)
  have hl:=rv.length
  exact wpAny_pyNext_list_end (I.ok.hd hc) st p.isList (by simp;omega) fun h' eb=>⟨rfl,I.turned (t':=s.toks) (fun b o M e=>eb b o M e) f0 f1 f3 f4 f5⟩
 self:=fun _ _ _ _ _ st h=>wpAny_pyIter_listiter st h
theorem Ua {P:Program}{w:World}{K:Frag}{tg:Expr} (a J:Addr):Turn P w K tg (Itt K a) [J] J (fun i h=>h.IsTupleIter J a i) where
 mem:=by simp
 obj:=fun i h st b M=>by
  have e:b=J:=by simpa using M
  subst e
  obtain⟨o,e,c,d⟩:=st
  exact⟨o,e,fun v z=>by rw [d]at z;cases z⟩
 keep:=fun i h h' st k=>st.at fun o e=>k J (by simp) o e
 item:=by
  intro X Z hw hK hc i pins s σ H E I U st hg
  subst Z hw hK
  obtain⟨xs,x,Y,hx⟩:=hg
  obtain⟨O,rv,p,hz⟩:=I.tuple Y
  obtain⟨u,hu,ru⟩:=rv.get hx
  obtain⟨f0,f1,f2,f3,f4,f5⟩:=U J (by simp)
  refine wpAny_pyNext_tuple_item st (show s.heap.IsTuple a O.toArray from p) (x:=u) (by simpa using hu) fun h' S sb=> ?_
  have I1:Inv X pins σ H { s with heap:=h'}:=I.turned (t':=s.toks) (fun b o M e=>(sb.2 b M).trans e) f0 f1 f3 f4 f5
  obtain⟨o,e,c,d⟩:=id S
  exact⟨u,rfl,Ad9 (s:={ s with heap:=h'}) e c d (by decide) ⟨x,H,I1,ru,⟨rfl,fun ys hy=>by rw [I.tuple_inj hy Y];exact hx⟩,S,fun b M=>(U b M).1⟩⟩
 done:=by
  intro X Z hw hK hc i pins s σ H E I U st hg
  subst Z hw hK
  obtain⟨xs,Y,hx⟩:=hg
  obtain⟨O,rv,p,hz⟩:=I.tuple Y
  obtain⟨f0,f1,f2,f3,f4,f5⟩:=U J (by simp)
  have hl:=rv.length
  exact wpAny_pyNext_tuple_end (I.ok.hd hc) st (show s.heap.IsTuple a O.toArray from p) (by simp;omega) fun h' eb=>⟨rfl,I.turned (t':=s.toks) (fun b o M e=>eb b o M e) f0 f1 f3 f4 f5⟩
 self:=fun _ _ _ _ _ st h=>wpAny_pyIter_tupleiter st h
theorem Acq {P:Program}{w:World}{K:Frag}{tg:Expr} (J:Addr) (lo:Int) (n:Nat):Turn P w K tg (Itr lo n) [J] J (fun i h=>IsRangeIter h J (lo+(i:Nat)*1) ((n:Int)-(i:Nat)) 1) where
 mem:=by simp
 obj:=fun i h st b M=>by
  have e:b=J:=by simpa using M
  subst e
  exact⟨_,st,fun v z=>by
   have z':Data.fields _=Data.cell v:=z
   cases z'⟩
 keep:=fun i h h' st k=>k J (by simp) _ st
 item:=by
  intro X U Y Z hc i pins s σ H E I S st hg
  subst U Y Z
  obtain⟨f0,f1,f2,f3,f4,f5⟩:=S J (by simp)
  have W:=Walks.range (prog:=X.prog) (w:=X.w) (I.ok.hd hc) J lo 1 n
  refine W.item i s _ _ hg st fun v h' tk hv O kk=> ?_
  obtain⟨t,rfl⟩:=hv
  have I1:Inv X pins σ H { s with heap:=h',toks:=tk}:=I.turned (fun b o M e=>kk b o (by simpa using M) e) f0 f1 f3 f4 f5
  refine⟨_,rfl,Ad9 (s:={ s with heap:=h',toks:=tk}) (n:="range_iterator") O rfl rfl (by decide) ⟨.int (lo+i),H,I1,⟨t,?_⟩,⟨rfl,rfl⟩,O,fun b M=>(S b M).1⟩⟩
  rw [mul_one]
 done:=by
  intro X U Y Z hc i pins s σ H E I S st hg
  subst U Y Z
  obtain⟨f0,f1,f2,f3,f4,f5⟩:=S J (by simp)
  exact wpAny_pyNext_range_end (I.ok.hd hc) st (by have:n<=i:=hg;omega) fun h' eb=>⟨rfl,I.turned (t':=s.toks) (fun b o M e=>eb b o M e) f0 f1 f3 f4 f5⟩
 self:=fun _ _ _ _ _ st h=>wpAny_pyIter_rangeiter st h
section
variable {X:Cx}{tg:Expr}
noncomputable def Amj (K:Frag) (tl:TE):TI:=fun σ H R=>tl σ H fun x H1=>∃a,x= .ref a/\(∃xs,SqL K H1 a xs)/\R (Itl K a) H1
noncomputable def As1 (K:Frag) (tl:TE):TI:=fun σ H R=>tl σ H fun x H1=>∃a,x= .ref a/\(∃xs,SqT K H1 a xs)/\R (Itt K a) H1
theorem Anh {l:Expr}{tl:TE} (M:PE X l tl):PI X tg l (Amj X.K tl):=by
 intro pins s σ H R I h
 refine thn (M pins s σ H _ I h) fun v z ⟨x,H1,J,O,S⟩=> ?_
 obtain⟨a,e,⟨xs,U⟩,q⟩:=S
 subst e
 cases O
 obtain⟨W,Z,p,hz⟩:=J.list U
 refine wpAny_pyIter_list p.isList ?_
 refine⟨z.heap.objs.size,[z.heap.objs.size],_,_,H1,rfl,J.kept (t':=z.toks) fun b o e=>Heap.get?_push_of_some _ e,Xm a _,⟨_,Heap.get?_push_size _ rfl,rfl,rfl⟩,fun b Y=> ?_,q⟩
 have e:b=z.heap.objs.size:=by simpa using Y
 subst e
 exact J.fpOk (le_refl _) (J.hok.fresh (le_refl _))
theorem Aqy {l:Expr}{tl:TE} (O:PE X l tl):PI X tg l (As1 X.K tl):=by
 intro pins s σ H R I h
 refine thn (O pins s σ H _ I h) fun v z ⟨x,H1,J,S,U⟩=> ?_
 obtain⟨a,e,⟨xs,W⟩,q⟩:=U
 subst e
 cases S
 obtain⟨M,Z,p,hz⟩:=J.tuple W
 refine wpAny_pyIter_tuple (show z.heap.IsTuple a M.toArray from p) ?_
 refine⟨z.heap.objs.size,[z.heap.objs.size],_,_,H1,rfl,J.kept (t':=z.toks) fun b o e=>Heap.get?_push_of_some _ e,Ua a _,⟨_,Heap.get?_push_size _ rfl,rfl,rfl⟩,fun b Y=> ?_,q⟩
 have e:b=z.heap.objs.size:=by simpa using Y
 subst e
 exact J.fpOk (le_refl _) (J.hok.fresh (le_refl _))
theorem Aaw {pins:List (Addr × Obj)}{σ:St}{H:Hp}{s:Shared}{R:It->Hp->Prop}{E:Value->Shared->Prop}{lo hi:Int}{t u v:Tok}{tk:Nat} (I:Inv X pins σ H s) (h1: -(2^62)<=lo) (h2:lo<2^62) (J: -(2^62)<=hi) (M:hi<2^62)
 (q:R (Itr lo (hi-lo).toNat) H):wpAny (model X.prog X.w) X.A (pyIter (.ref s.heap.objs.size)) (PIE X pins σ tg R) E { s with heap:=s.heap.push { cls:= .type "range",data:= .fields #[.int lo t,.int hi u,.int 1 v]},toks:=tk}:=by
 refine wpAny_pyIter_range (IsRange.new ..) (small_one h1 h2 J M) ?_
 have z:Inv X pins σ H { s with heap:=s.heap.push { cls:= .type "range",data:= .fields #[.int lo t,.int hi u,.int 1 v]},toks:=tk}:=I.kept fun b o e=>Heap.get?_push_of_some _ e
 refine⟨(s.heap.push { cls:= .type "range",data:= .fields #[.int lo t,.int hi u,.int 1 v]}).objs.size,[(s.heap.push { cls:= .type "range",data:= .fields #[.int lo t,.int hi u,.int 1 v]}).objs.size],_,_,H,rfl,
  z.kept (t':=tk) fun b o e=>Heap.get?_push_of_some _ e,Acq _ lo (hi-lo).toNat,?_,fun b O=> ?_,q⟩
 . have S:lo+((0:Nat):Int)*1=lo:=by simp
   have U:(((hi-lo).toNat:Nat):Int)-((0:Nat):Int)=Builtin.Range.rangeSize lo hi 1:=by rw [rangeSize_one];split<;>omega
   show IsRangeIter _ _ (lo+((0:Nat):Int)*1) ((((hi-lo).toNat:Nat):Int)-((0:Nat):Int)) 1
   rw [S,U]
   exact Heap.get?_push_size _ rfl
 . have e:b=(s.heap.push { cls:= .type "range",data:= .fields #[.int lo t,.int hi u,.int 1 v]}).objs.size:=by simpa using O
   subst e
   exact z.fpOk (le_refl _) (z.hok.fresh (le_refl _))
noncomputable def Amk (ta:TA):TI:=fun σ H R=>ta σ H fun vs H1=>∃j:Int,vs=[.int j]/\ -(2^62)<=j/\j<2^62/\R (Itr 0 j.toNat) H1
noncomputable def Aml (ta:TA):TI:=fun σ H R=>ta σ H fun vs H1=>∃i j:Int,vs=[.int i,.int j]/\(-(2^62)<=i/\i<2^62/\ -(2^62)<=j/\j<2^62)/\R (Itr i (j-i).toNat) H1
theorem W3 {a:Expr}{ta:TA}{p pos:Pos} (J:Gl X "range") (M:X.mg "range"=none) (O:PA X [a] ta) (hs:starEach [a] X.env=[(false,eval a X.env)]:=by rfl):PI X tg (.Call (.Name "range" p) [a] [] pos) (Amk ta):=by
 intro pins s σ H R I h
 refine Call_ (Mt I J M boot_range (PyProof.Rows.callWith_type1 (thn (O pos pins s σ H _ I h) fun Z s1 ⟨vs,H1,S,U,z⟩=> ?_) hs rfl))
 obtain⟨j,e,z,W,q⟩:=z
 subst e
 cases U with
 | cons r Y=>
   cases Y
   obtain⟨t,rfl⟩:=r
   exact call_range_1 (Aaw S (by omega) (by omega) z W (by simpa using q))
theorem Q5 {a b:Expr}{ta:TA}{p pos:Pos} (O:Gl X "range") (S:X.mg "range"=none) (U:PA X [a,b] ta) (hs:starEach [a,b] X.env=[(false,eval a X.env),(false,eval b X.env)]:=by rfl) (z:starEach [b] X.env=[(false,eval b X.env)]:=by rfl):
 PI X tg (.Call (.Name "range" p) [a,b] [] pos) (Aml ta):=by
 intro pins s σ H R I h
 refine Call_ (Mt I O S boot_range (PyProof.Rows.callWith_type1 (thn (U pos pins s σ H _ I h) fun us s1 ⟨vs,H1,W,Y,J⟩=> ?_) (by rw [hs,z]) (by rw [z];rfl)))
 obtain⟨i,j,e,⟨J,Z,q3,q4⟩,q⟩:=J
 subst e
 cases Y with
 | cons r M=>
   cases M with
   | cons r' M=>
     cases M
     obtain⟨t,rfl⟩:=r
     obtain⟨t',rfl⟩:=r'
     exact call_range_2 (Aaw W J Z q3 q4 q)
noncomputable def Atu (wi:TI) (g:TG) (tb:TS):TS:=fun D σ H=>wi σ H fun J H1=>∃W:Nat->Nat->St->Hp->Prop,(∃m,W 0 m σ H1)/\∀i m σ H,W i m σ H->
 (J.stop i H/\D.nx σ H)\/(J.go i H/\∃N:St->Hp->Prop,(∀σ' H',N σ' H'->∃m',m'<m/\W (i+1) m' σ' H')/\∀x H',J.yld i H x H'->g x σ H' fun σ2 H2=>tb { D with nx:=N,ct:=N,bk:=D.nx} σ2 H2)
noncomputable def W5 (fp:List Addr) (h:Heap):List (Addr × Obj):=fp.filterMap fun b=>(h.get? b).map fun o=>(b,o)
theorem Ir {fp:List Addr}{h:Heap}{b:Addr}{o:Obj} (z:b∈fp) (e:h.get? b=some o):(b,o)∈W5 fp h:=mem_filterMap.mpr ⟨b,z,by rw [e];rfl⟩
theorem Ae2 {fp:List Addr}{h:Heap}{p:Addr × Obj} (z:p∈W5 fp h):p.1∈fp/\h.get? p.1=some p.2:=by
 obtain⟨b,I,e⟩:=mem_filterMap.mp z
 cases q:h.get? b with
 | none=>rw [q]at e;cases e
 | some o=>
   rw [q]at e
   have J:(b,o)=p:=Option.some.inj e
   subst J
   exact⟨I,q⟩
theorem Inv.pinned {pins:List (Addr × Obj)}{σ:St}{H:Hp}{s:Shared}{fp:List Addr} (I:Inv X pins σ H s) (O:∀b∈fp,V5 X pins H b) (S:∀b∈fp,∃o,s.heap.get? b=some o/\∀v,o.data≠ .cell v):Inv X (pins++W5 fp s.heap) σ H s:=
 I.pins_of fun p U=>(mem_append.mp U).elim (fun z=>I.pin p (mem_append_right _ z)) fun z=>by
  obtain⟨J,e⟩:=Ae2 z
  obtain⟨W,Y,Z,_⟩:=O p.1 J
  obtain⟨o,M,d⟩:=S p.1 J
  rw [e]at M;cases M
  exact⟨e,W,Y,Z,d⟩
theorem Inv.unpinned {pins z:List (Addr × Obj)}{σ:St}{H:Hp}{s:Shared} (I:Inv X (pins++z) σ H s):Inv X pins σ H s:=I.pins_of fun p J=>I.pin p (mem_append_right _ (mem_append_left _ J))
theorem Akw {iter:Expr}{a0:List Stmt}{wi:TI}{g:TG}{tb:TS}{pos:Pos} (hp:PassesOwn (model X.prog X.w) X.A X.env X.xe) (hc:X.calm=true) (hi:PI X tg iter wi) (hg:PG X tg g) (M:PSs X a0 tb)
 (hs:∀x,foldedSetIterable iter X.env x=pure x:=by intro _;rfl):PS X (.For tg iter a0 [] pos) (Atu wi g tb):=by
 intro pins s σ H D I h
 refine wpAny_For (thn (hi pins s σ H _ I h) fun v s1 h1=>thn h1 fun aa s2 h2=> ?_) hs
 obtain⟨it,fp,tn,J,H2,e,I2,T,a6,f2,W,⟨m0,w0⟩,a2⟩:=h2
 subst e
 have O:∀ {H':Hp},(∀b∈fp,H' b=none)->∀b∈fp,V5 X pins H' b:=fun hn b M=>⟨hn b M,(f2 b M).2⟩
 refine codeAny_forLoop_any (fun n s'=>∃i S H',Inv X pins S H' s'/\tn i s'.heap/\(∀b∈fp,H' b=none)/\W i n S H') ?_ m0 ⟨0,σ,H2,I2,a6,fun b M=>(f2 b M).1,w0⟩
 rintro n s3 ⟨i,U,H3,I3,a3,a4,w3⟩
 rcases a2 i n U H3 w3 with⟨a5,qn⟩ | ⟨go,N,hN,step⟩
 . refine wpAny_passesOwn hp (thn (T.done X rfl rfl rfl hc i pins s3 U H3 X.xe I3 (O a4) a3 a5) fun r s4 ⟨hr,I4⟩=> ?_)
   subst hr
   exact wpAny_execs_nil ⟨U,H3,I4,qn⟩
 . refine wpAny_passesOwn hp (thn (T.item X rfl rfl rfl hc i pins s3 U H3 X.xe I3 (O a4) a3 go) fun r s4 ⟨u,hr,h4⟩=> ?_)
   subst hr
   refine wpAny_passesOwn hp (thn h4 fun _ s5 ⟨x,H5,I5,r5,y5,a1,a7⟩=> ?_)
   have a8:=I5.pinned (O a7) (T.obj _ _ a1)
   refine wpAny_passesOwn hp (thn (hg _ s5 U H5 x u _ a8 r5 (step x H5 y5)) fun _ s6 ⟨a9,H6,I6,q6⟩=> ?_)
   refine wpAny_passesOwn hp (thn (M _ s6 a9 H6 _ I6 q6) fun f s7 q7=> ?_)
   have again:∀ {z:St}{Y:Hp},Inv X (pins++W5 fp s5.heap) z Y s7->N z Y->∃m,m<n/\∃i S H',Inv X pins S H' s7/\tn i s7.heap/\(∀b∈fp,H' b=none)/\W i m S H':=fun {z Y} Z n7=>by
    obtain⟨m',hm,w7⟩:=hN z Y n7
    refine⟨m',hm,i+1,z,Y,Z.unpinned,T.keep _ _ _ a1 fun b M o e=>(Z.pin (b,o) (mem_append_right _ (mem_append_right _ (Ir M e)))).1,fun b M=> ?_,w7⟩
    obtain⟨o,e,d⟩:=T.obj _ _ a1 b M
    exact(Z.pin (b,o) (mem_append_right _ (mem_append_right _ (Ir M e)))).2.1
   cases f with
   | next=>obtain⟨z,Y,Z,n7⟩:=q7;exact again Z n7
   | cont=>obtain⟨z,Y,Z,n7⟩:=q7;exact again Z n7
   | brk=>obtain⟨z,Y,Z,q7⟩:=q7;exact⟨z,Y,Z.unpinned,q7⟩
   | ret v=>obtain⟨x7,z,Y,Z,r7,q7⟩:=q7;exact⟨x7,z,Y,Z.unpinned,r7,q7⟩
end
theorem Aa8 {c:TT}{tb:TS}{D:Ends}{σ:St}{H:Hp} (I:St->Hp->Prop) (J:St->Hp->Nat) (O:I σ H)
 (hs:∀σ H,I σ H->c σ H fun b H1=>if b=true then tb { D with nx:=fun z H'=>I z H'/\J z H'<J σ H,ct:=fun z H'=>I z H'/\J z H'<J σ H,bk:=D.nx} σ H1 else D.nx σ H1)
 (mono:∀σ H Q M,(∀b H1,Q b H1->M b H1)->c σ H Q->c σ H M):Xl c tb D σ H:=by
 refine⟨fun m σ H=>m=J σ H/\I σ H,⟨_,rfl,O⟩,?_⟩
 rintro m σ H ⟨rfl,p⟩
 refine mono σ H _ _ (fun b H1 q=> ?_) (hs σ H p)
 cases b with
 | true=>exact⟨_,fun z H' ⟨S,l⟩=>⟨_,l,rfl,S⟩,q⟩
 | false=>exact q
noncomputable abbrev R2:=V->V->Hp->VK->Prop
noncomputable def OpR (X:Cx) (f:Value->Value->Sem Value) (r:R2):Prop:=
 ∀(pins:List (Addr × Obj)) (s:Shared) (σ:St) (H:Hp) (x y:V) (v u:Value) (Q:VK),Inv X pins σ H s->RelV x v->RelV y u->r x y H Q->
   wpAny (model X.prog X.w) X.A (f v u) (EP X pins σ Q) X.xe s
noncomputable def UnR (X:Cx) (f:Value->Sem Value) (r:V->Hp->VK->Prop):Prop:=
 ∀(pins:List (Addr × Obj)) (s:Shared) (σ:St) (H:Hp) (x:V) (v:Value) (Q:VK),Inv X pins σ H s->RelV x v->r x H Q->
   wpAny (model X.prog X.w) X.A (f v) (EP X pins σ Q) X.xe s
noncomputable def Hv (X:Cx) (f:Value) (r:List V->Hp->VK->Prop):Prop:=
 ∀(pins:List (Addr × Obj)) (s:Shared) (σ:St) (H:Hp) (xs:List V) (us:List Value) (Q:VK),Inv X pins σ H s->Vals xs us->r xs H Q->
   wpAny (model X.prog X.w) X.A (call f us) (EP X pins σ Q) X.xe s
noncomputable def tOp (r:R2) (ta tb:TE):TE:=fun σ H Q=>ta σ H fun x H1=>tb σ H1 fun y H2=>r x y H2 Q
noncomputable def tUn (r:V->Hp->VK->Prop) (ta:TE):TE:=fun σ H Q=>ta σ H fun x H1=>r x H1 Q
noncomputable def rI (C:Int->Int->Prop) (g:Int->Int->V):R2:=fun x y H Q=>∃i j,x= .int i/\y= .int j/\C i j/\Q (g i j) H
noncomputable def rI0 (g:Int->Int->V):R2:=fun x y H Q=>∃i j,x= .int i/\y= .int j/\Q (g i j) H
noncomputable def rU (g:Int->V):V->Hp->VK->Prop:=fun x H Q=>∃i,x= .int i/\Q (g i) H
section
variable {X:Cx}{a b c:Expr}{ta tb tc:TE}{pos:Pos}
theorem Asu (O:PE X a ta) (S:PE X b tb) {pins:List (Addr × Obj)}{s:Shared}{σ:St}{H:Hp}{R:V->V->Hp->Prop} (I:Inv X pins σ H s)
 (h:ta σ H fun x H1=>tb σ H1 fun y H2=>R x y H2) {Q:Value->Shared->Prop}{f:Value->Value->Sem Value}
 (U:∀v u M x y H2,Inv X pins σ H2 M->RelV x v->RelV y u->R x y H2->wpAny (model X.prog X.w) X.A (f v u) Q X.xe M):
 wpAny (model X.prog X.w) X.A (eval a X.env) (fun v z=>wpAny (model X.prog X.w) X.A (eval b X.env) (fun u J=>wpAny (model X.prog X.w) X.A (f v u) Q X.xe J) X.xe z) X.xe s:=by
 refine thn (O pins s σ H _ I h) fun v W ⟨x,H1,Y,Z,q1⟩=> ?_
 refine thn (S pins W σ H1 _ Y q1) fun u M ⟨y,H2,I2,r2,q2⟩=> ?_
 exact U v u M x y H2 I2 Z r2 q2
theorem As8 {z:Operator}{r:R2} (J:OpR X (binaryOp z) r) (M:PE X a ta) (O:PE X b tb):PE X (.BinOp a z b pos) (tOp r ta tb):=by
 intro pins s σ H Q I h
 exact wpAny_BinOp (Asu M O I h fun v u S x y H2 U W Y q=>J pins S σ H2 x y v u Q U W Y q)
theorem As9 {z:UnaryOp}{r:V->Hp->VK->Prop} (J:UnR X (unaryOp z) r) (M:PE X a ta):PE X (.UnaryOp z a pos) (tUn r ta):=by
 intro pins s σ H Q I h
 exact UnaryOp_ (thn (M pins s σ H _ I h) fun v O ⟨x,H1,S,U,W⟩=>J pins O σ H1 x v Q S U W)
theorem opI {f:Value->Value->Sem Value}{C:Int->Int->Prop}{g:Int->Int->Int}
 (z:∀(i j:Int) (t u:Tok) (s:Shared) (Q:Value->Shared->Prop) (E:Value->Shared->Prop),C i j->Q (.int (g i j) s.toks) { s with toks:=s.toks+1}->wpAny (model X.prog X.w) X.A (f (.int i t) (.int j u)) Q E s):
 OpR X f (rI C fun i j=> .int (g i j)):=by
 intro pins s σ H x y v u Q I J M h
 obtain⟨i,j,rfl,rfl,O,q⟩:=h
 obtain⟨t,rfl⟩:=J
 obtain⟨S,rfl⟩:=M
 exact z i j t S s _ _ O ⟨.int (g i j),H,I.tok _,⟨_,rfl⟩,q⟩
theorem Au7 {f:Value->Value->Sem Value}{g:Int->Int->Int}
 (z:∀(i j:Int) (t u:Tok) (s:Shared) (Q:Value->Shared->Prop) (E:Value->Shared->Prop),Q (.int (g i j) s.toks) { s with toks:=s.toks+1}->wpAny (model X.prog X.w) X.A (f (.int i t) (.int j u)) Q E s):
 OpR X f (rI0 fun i j=> .int (g i j)):=by
 intro pins s σ H x y v u Q I J M h
 obtain⟨i,j,rfl,rfl,q⟩:=h
 obtain⟨t,rfl⟩:=J
 obtain⟨O,rfl⟩:=M
 exact z i j t O s _ _ ⟨.int (g i j),H,I.tok _,⟨_,rfl⟩,q⟩
theorem As4 {f:Value->Value->Sem Value}{g:Int->Int->Bool}
 (z:∀(i j:Int) (t u:Tok) (s:Shared) (Q:Value->Shared->Prop) (E:Value->Shared->Prop),Q (.bool (g i j)) s->wpAny (model X.prog X.w) X.A (f (.int i t) (.int j u)) Q E s):
 OpR X f (rI0 fun i j=> .bl (g i j)):=by
 intro pins s σ H x y v u Q I J M h
 obtain⟨i,j,rfl,rfl,q⟩:=h
 obtain⟨t,rfl⟩:=J
 obtain⟨O,rfl⟩:=M
 exact z i j t O s _ _ ⟨.bl (g i j),H,I,rfl,q⟩
noncomputable def Avf (i j:Int):Prop:=0<=j/\j<=1000000/\i.natAbs<2^64
noncomputable def Au0 (i j:Int):Prop:=(-(2^64)<i/\i<2^64)\/(-(2^64)<j/\j<2^64)
theorem Dc:OpR X (binaryOp .Add) (rI0 fun i j=> .int (i+j)):=Au7 fun _ _ _ _ _ _ _ q=>add_int q
theorem Dw:OpR X (binaryOp .Sub) (rI0 fun i j=> .int (i-j)):=Au7 fun _ _ _ _ _ _ _ q=>sub_int q
theorem Fb:OpR X (binaryOp .Mod) (rI (fun _ j=>0<j) fun i j=> .int (i%j)):=opI fun i j _ _ _ _ _ z q=>by
 have h1:(0:Int)<j:=z
 exact mod_int' (by omega) (by rw [Int.fmod_eq_emod_of_nonneg i (by omega)];exact q)
theorem Am8:OpR X (binaryOp .Mod) (rI (fun _ j=>j≠0) fun i j=> .int (i.fmod j)):=opI fun _ _ _ _ _ _ _ z q=>mod_int' z q
theorem Aqh:OpR X (binaryOp .Pow) (rI Avf fun i j=> .int (i^j.toNat)):=opI fun _ _ _ _ _ _ _ z q=>pow_int_small z.1 z.2.1 z.2.2 q
theorem unI {f:Value->Sem Value}{g:Int->Int}
 (z:∀(i:Int) (t:Tok) (s:Shared) (Q:Value->Shared->Prop) (E:Value->Shared->Prop),Q (.int (g i) s.toks) { s with toks:=s.toks+1}->wpAny (model X.prog X.w) X.A (f (.int i t)) Q E s):
 UnR X f (rU fun i=> .int (g i)):=by
 intro pins s σ H x v Q I J h
 obtain⟨i,rfl,q⟩:=h
 obtain⟨t,rfl⟩:=J
 exact z i t s _ _ ⟨.int (g i),H,I.tok _,⟨_,rfl⟩,q⟩
theorem Dd:UnR X (unaryOp .USub) (rU fun i=> .int (-i)):=unI fun _ _ _ _ _ q=>neg_int q
end
noncomputable def Aos:V->V->Bool
 | .non,.non=>true | .non,.int _=>true | .int _,.non=>true | .non,.bl _=>true | .bl _,.non=>true | .non,.str _=>true | .str _,.non=>true
 | .int _,.int _=>true | .bl _,.bl _=>true | .str _,.str _=>true | .byt _,.byt _=>true
 | .int _,.str _=>true | .str _,.int _=>true | .bl _,.str _=>true | .str _,.bl _=>true
 | _,_=>false
noncomputable def rEq:R2:=fun x y H Q=>Aos x y=true/\Q (.bl (decide (x=y))) H
noncomputable def rNe:R2:=fun x y H Q=>Aos x y=true/\Q (.bl (!decide (x=y))) H
theorem Adu {i j:Int}:decide (V.int i=V.int j)=(i==j):=by
 rw [Bool.eq_iff_iff]
 simp
theorem Aj8 {i j:Bool}:decide (V.bl i=V.bl j)=(i==j):=by
 rw [Bool.eq_iff_iff]
 simp
theorem Adv {i j:Str}:decide (V.str i=V.str j)=(i==j):=by
 rw [Bool.eq_iff_iff]
 simp
theorem Adt {i j:Array UInt8}:decide (V.byt i=V.byt j)=(i.toList==j.toList):=by
 rw [Bool.eq_iff_iff]
 cases i
 cases j
 simp
section
variable {X:Cx}{a b c:Expr}{ta tb tc:TE}{pos:Pos}
theorem Dl {pins:List (Addr × Obj)}{σ:St}{H:Hp}{s:Shared}{Q:VK}{k z:Bool} (I:Inv X pins σ H s) (q:Q (.bl k) H) (e:k=z):EP X pins σ Q (.bool z) s:=by
 subst e
 exact⟨.bl k,H,I,rfl,q⟩
theorem G4:OpR X (compareOp .Eq) rEq:=by
 intro pins s σ H x y v u Q I M z h
 obtain⟨hs,q⟩:=h
 cases x with
 | non=>
   cases M
   cases y with
   | non=>cases z;exact PySem.EqNone.eq_none_none (Dl I q (by simp))
   | bl j=>cases z;exact PySem.EqNone.eq_none_bool (Dl I q (by simp))
   | int j=>obtain⟨J,rfl⟩:=z;exact PySem.EqNone.eq_none_int (Dl I q (by simp))
   | str j=>obtain⟨J,rfl⟩:=z;exact PySem.EqNone.eq_none_str (Dl I q (by simp))
   | _=>exact absurd (show false=true from hs) Bool.false_ne_true
 | bl i=>
   cases M
   cases y with
   | non=>cases z;exact PySem.EqNone.eq_bool_none (Dl I q (by simp))
   | bl j=>cases z;exact eq_bool (Dl I q Aj8)
   | str j=>obtain⟨J,rfl⟩:=z;exact PySem.EqMixed.eq_bool_str (Dl I q (by simp))
   | _=>exact absurd (show false=true from hs) Bool.false_ne_true
 | int i=>
   obtain⟨t,rfl⟩:=M
   cases y with
   | non=>cases z;exact PySem.EqNone.eq_int_none (Dl I q (by simp))
   | int j=>obtain⟨J,rfl⟩:=z;exact eq_int (Dl I q Adu)
   | str j=>obtain⟨J,rfl⟩:=z;exact PySem.EqMixed.eq_int_str (Dl I q (by simp))
   | _=>exact absurd (show false=true from hs) Bool.false_ne_true
 | str i=>
   obtain⟨t,rfl⟩:=M
   cases y with
   | non=>cases z;exact PySem.EqNone.eq_str_none (Dl I q (by simp))
   | bl j=>cases z;exact PySem.EqMixed.eq_str_bool (Dl I q (by simp))
   | int j=>obtain⟨J,rfl⟩:=z;exact PySem.EqMixed.eq_str_int (Dl I q (by simp))
   | str j=>obtain⟨J,rfl⟩:=z;exact eq_str (Dl I q Adv)
   | _=>exact absurd (show false=true from hs) Bool.false_ne_true
 | byt i=>
   obtain⟨t,rfl⟩:=M
   cases y with
   | byt j=>obtain⟨J,rfl⟩:=z;exact PySem.W.eq_bytes (Dl I q Adt)
   | _=>exact absurd (show false=true from hs) Bool.false_ne_true
 | _=>cases y<;>exact absurd (show false=true from hs) Bool.false_ne_true
theorem S6:OpR X (compareOp .NotEq) rNe:=by
 intro pins s σ H x y v u Q I M z h
 obtain⟨hs,q⟩:=h
 cases x with
 | non=>
   cases M
   cases y with
   | non=>cases z;exact PySem.EqNone.ne_none_none (Dl I q (by simp))
   | bl j=>cases z;exact PySem.EqNone.ne_none_bool (Dl I q (by simp))
   | int j=>obtain⟨J,rfl⟩:=z;exact PySem.EqNone.ne_none_int (Dl I q (by simp))
   | str j=>obtain⟨J,rfl⟩:=z;exact PySem.EqNone.ne_none_str (Dl I q (by simp))
   | _=>exact absurd (show false=true from hs) Bool.false_ne_true
 | bl i=>
   cases M
   cases y with
   | non=>cases z;exact PySem.EqNone.ne_bool_none (Dl I q (by simp))
   | bl j=>cases z;exact ne_bool (Dl I q (congrArg not Aj8))
   | str j=>obtain⟨J,rfl⟩:=z;exact PySem.EqMixed.ne_bool_str (Dl I q (by simp))
   | _=>exact absurd (show false=true from hs) Bool.false_ne_true
 | int i=>
   obtain⟨t,rfl⟩:=M
   cases y with
   | non=>cases z;exact PySem.EqNone.ne_int_none (Dl I q (by simp))
   | int j=>obtain⟨J,rfl⟩:=z;exact ne_int (Dl I q (congrArg not Adu))
   | str j=>obtain⟨J,rfl⟩:=z;exact PySem.EqMixed.ne_int_str (Dl I q (by simp))
   | _=>exact absurd (show false=true from hs) Bool.false_ne_true
 | str i=>
   obtain⟨t,rfl⟩:=M
   cases y with
   | non=>cases z;exact PySem.EqNone.ne_str_none (Dl I q (by simp))
   | bl j=>cases z;exact PySem.EqMixed.ne_str_bool (Dl I q (by simp))
   | int j=>obtain⟨J,rfl⟩:=z;exact PySem.EqMixed.ne_str_int (Dl I q (by simp))
   | str j=>obtain⟨J,rfl⟩:=z;exact ne_str (Dl I q (congrArg not Adv))
   | _=>exact absurd (show false=true from hs) Bool.false_ne_true
 | byt i=>
   obtain⟨t,rfl⟩:=M
   cases y with
   | byt j=>obtain⟨J,rfl⟩:=z;exact PySem.W.ne_bytes (Dl I q (congrArg not Adt))
   | _=>exact absurd (show false=true from hs) Bool.false_ne_true
 | _=>cases y<;>exact absurd (show false=true from hs) Bool.false_ne_true
theorem Nx:OpR X (compareOp .Lt) (rI0 fun i j=> .bl (decide (i<j))):=As4 fun _ _ _ _ _ _ _ q=>lt_int q
theorem Kc:OpR X (compareOp .Gt) (rI0 fun i j=> .bl (decide (j<i))):=As4 fun _ _ _ _ _ _ _ q=>gt_int q
theorem Am6:OpR X (compareOp .GtE) (rI0 fun i j=> .bl (decide (j<=i))):=As4 fun _ _ _ _ _ _ _ q=>ge_int q
theorem Akp:OpR X (compareOp .Is) (fun x y H Q=>y= .non/\Q (.bl (decide (x= .non))) H):=by
 intro pins s σ H x y v u Q I z J h
 obtain⟨rfl,q⟩:=h
 cases J
 refine is_none_gen (Dl I q ?_)
 cases x<;>first
  | (cases z;rfl)
  | (obtain⟨t,rfl⟩:=z;rfl)
theorem Ba (b:Expr) {z:CmpOp} (h:z≠ .In:=by decide) (h2:z≠ .NotIn:=by decide):behindInMarks z b=false:=by
 have I:(z==CmpOp.In)=false:=by cases z<;>first | rfl | exact absurd rfl h
 have J:(z==CmpOp.NotIn)=false:=by cases z<;>first | rfl | exact absurd rfl h2
 cases b<;>simp [behindInMarks,I,J]
theorem Ane {z:CmpOp}{r:R2} (J:OpR X (compareOp z) r) (M:PE X a ta) (O:PE X b tb) (S:behindInMarks z b=false):PE X (.Compare a [z] [b] pos) (tOp r ta tb):=by
 intro pins s σ H Q I h
 exact wpAny_Compare1 (Asu M O I h fun v u U x y H2 W Y Z q=>J pins U σ H2 x y v u Q W Y Z q) S
noncomputable def Aof (t:TE):TT:=fun σ H Q=>t σ H fun x H'=>∃k,x= .bl k/\Q k H'
theorem Anq {J:CmpOp}{r:R2} (M:OpR X (compareOp J) r) (O:PE X a ta) (S:PE X b tb) (U:behindInMarks J b=false):PT X (.Compare a [J] [b] pos) (Aof (tOp r ta tb)):=by
 intro pins s σ H Q I h
 refine wpAny_isTrue_Compare1 (thn (O pins s σ H _ I h) fun v W ⟨x,H1,Y,Z,q1⟩=>thn (S pins W σ H1 _ Y q1) fun u s2 ⟨y,H2,I2,r2,q2⟩=>
  thn (M pins s2 σ H2 x y v u _ I2 Z r2 q2) fun c s3 ⟨z,H3,I3,r3,k,e,q3⟩=> ?_) U
 subst e
 cases r3
 exact wpAny_truthy_bool ⟨H3,I3,q3⟩
theorem Ti:(sizeLine:Nat)<2^63:=by rw [sizeLine_eq];decide
theorem vals1 {x:V}{z:List Value} (r:Vals [x] z):∃u,z=[u]/\RelV x u:=by
 cases r with
 | cons I J=>cases J;exact⟨_,rfl,I⟩
theorem vals2 {x y:V}{z:List Value} (r:Vals [x,y] z):∃u I,z=[u,I]/\RelV x u/\RelV y I:=by
 cases r with
 | cons J M=>
   cases M with
   | cons O S=>cases S;exact⟨_,_,rfl,J,O⟩
theorem Je:Hv X (.builtin "abs") (fun xs H Q=>∃i,xs=[.int i]/\Q (.int (if i<0 then-i else i)) H):=by
 intro pins s σ H xs z Q I r h
 obtain⟨i,rfl,q⟩:=h
 obtain⟨u,rfl,t,rfl⟩:=vals1 r
 exact call_abs_int fun u tk=>⟨.int (if i<0 then-i else i),H,I.tok _,⟨_,rfl⟩,q⟩
theorem Qh (J:X.calm=true):Hv X (.builtin "max") (fun xs H Q=>∃i j,xs=[.int i,.int j]/\Q (.int (if j>i then j else i)) H):=by
 intro pins s σ H xs M Q I r h
 obtain⟨i,j,rfl,q⟩:=h
 obtain⟨u,O,rfl,⟨t,rfl⟩,⟨S,rfl⟩⟩:=vals2 r
 refine max_two_ints (I.ok.hd J) fun h' tk k=>⟨_,H,I.kept k,?_,q⟩
 by_cases z:j>i
 . rw [if_pos z,if_pos z];exact⟨_,rfl⟩
 . rw [if_neg z,if_neg z];exact⟨_,rfl⟩
theorem Adh (J:X.calm=true):Hv X (.builtin "min") (fun xs H Q=>∃i j,xs=[.int i,.int j]/\Q (.int (if j<i then j else i)) H):=by
 intro pins s σ H xs M Q I r h
 obtain⟨i,j,rfl,q⟩:=h
 obtain⟨u,O,rfl,⟨t,rfl⟩,⟨S,rfl⟩⟩:=vals2 r
 refine min_two_ints (I.ok.hd J) fun h' tk k=>⟨_,H,I.kept k,?_,q⟩
 by_cases z:j<i
 . rw [if_pos z,if_pos z];exact⟨_,rfl⟩
 . rw [if_neg z,if_neg z];exact⟨_,rfl⟩
end
structure Asr (h:Heap) (x dx C:Addr) (mA:Str->Option Value):Prop where
 obj:h.get? x=some (instObj C dx)
 ns:h.Ns1 dx mA
 ne:dx≠x
theorem Aep {h:Heap}{dx:Addr}{J:Str->Option Value} (n:h.Ns1 dx J):∃M,h.get? dx=some M/\∀name,lookIn name M=some (J name):=by
 obtain⟨o,es,ep,O,S,U,_,Y⟩:=n
 refine⟨o,O,fun name=> ?_⟩
 have e:=Y name
 unfold nsFind findBy at e
 rw [<-Array.find?_toList]at e
 unfold lookIn
 rw [S]
 dsimp only
 split
 . rename_i y q
   rw [q]at e
   exact congrArg some e
 . rename_i q
   rw [q]at e
   have a:es.toList.any (·.refKey)=false:=by
    rw [List.any_eq_false]
    intro y Z
    obtain⟨z,t,I⟩:=U y (Array.mem_toList_iff.mp Z)
    simp [DictEntry.refKey,I]
   have a':¬es.toList.any (·.refKey)=true:=by rw [a];exact Bool.false_ne_true
   rw [if_neg a']
   exact congrArg some e
theorem Asr.look {h:Heap}{x dx C:Addr}{J:Str->Option Value} (I:Asr h x dx C J):∃z,InstAt h x (instObj C dx) C (some z)/\∀name,lookIn name z=some (J name):=
 let ⟨z,ho,hl⟩:=Aep I.ns
 ⟨z,⟨I.obj,rfl,rfl,ho⟩,hl⟩
section
variable {P:Program}{w:World}{H H':Hp}{h h':Heap}{a C dx:Addr}{fs fs':List (Str × V)}
theorem Amn (J:HOk P w H h) (e:H a=some (.ins C dx fs)):∃I,Asr h a dx C I/\(∀f,Ac4 (fs.lookup f) (I f))/\PySem.Within I (fs.map (·.1))/\fs.length<=1000/\H dx=some (.own a):=by
 obtain⟨d,z,ne,M,I,n,r,q⟩:=(show Hw P w H h a (.ins C dx fs)from J a _ e)
 exact⟨I,⟨M,n,ne⟩,r,q,z,d⟩
end
structure Cls (K:Frag) (C:Addr):Prop where
 pg:plainGet K C Str.empty=true
 hd:PySem.W.hasDictIn K C=true
 po:PySem.W.plainOver K C=true
 sa:findIn K (.ref C) "__setattr__"=some (some (.builtin "object.__setattr__"))
theorem Cls.get {K:Frag}{C:Addr} (c:Cls K C) (f:Str):plainGet K C f=true:=c.pg
structure Con (K:Frag) (C:Addr) (f:Str) (v:V) (u:Value):Prop where
 at_:findIn K (.ref C) f=some (some u)
 rel:RelV v u
 get:specialIn K u "__get__"=some none
 cp:PySem.W.copiedNames.contains f=false
structure Meth (K:Frag) (C:Addr) (m:Str) (f:Addr):Prop where
 at_:findIn K (.ref C) m=some (some (.ref f))
 fn:isFn K (.ref f)=true
 kp:keepIn K (.ref f)=true
section
variable {X:Cx}{pins:List (Addr × Obj)}{σ:St}{H:Hp}{s:Shared}{A:Around}{E:Value->Shared->Prop}{Q:Value->Shared->Prop}{c:Value}{b:Bool}
inductive Xp (K:Frag) (H:Hp):V->Value->Prop where
 | non:Xp K H .non (.type "NoneType")
 | bl (x:Bool):Xp K H (.bl x) (.type "bool")
 | int (i:Int):Xp K H (.int i) (.type "int")
 | str (x:Str):Xp K H (.str x) (.type "str")
 | flt (x:UInt64):Xp K H (.flt x) (.type "float")
 | lst {a:Addr}{xs:List V} (e:H a=some (.lst xs)):Xp K H (.ref a) (.type "list")
 | frz {a:Addr}{o:Obj}{xs:List V} (e:H a=some (.frz o (.lst xs))):Xp K H (.ref a) (.type "list")
 | tup {a:Addr}{xs:List V} (e:H a=some (.tup xs)):Xp K H (.ref a) (.type "tuple")
 | dK {a:Addr}{kvs:List (Key × V)} (e:H a=some (.dK kvs)):Xp K H (.ref a) (.type "dict")
 | dT {a:Addr}{kvs:List (List Key × V)} (e:H a=some (.dT kvs)):Xp K H (.ref a) (.type "dict")
 | ins {a C dx:Addr}{fs:List (Str × V)} (e:H a=some (.ins C dx fs)) (cl:Cls K C) (ha:findIn K (.ref C) "__class__"=some (some (.builtin "object.__class__")))
    (hn:specialIn K (.builtin "object.__class__") "__get__"=some (some (.builtin "getset_descriptor.__get__"))) (htk:PySem.W.takesIn K (.builtin "object.__class__")=some true)
    (hm:mroIn K C (.type "object")=some true):Xp K H (.ref a) (.ref C)
theorem Aeg {x:V}{u t:Value} (I:Inv X pins σ H s) (M:RelV x u) (ty:Xp X.K H x t) (e:kitOne X.K t c=some b) (h:∀tk,Q (.bool b) { s with toks:=tk}):
 wpAny (model X.prog X.w) A (call (.builtin "isinstance") [u,c]) Q E s:=by
 cases ty with
 | non=>cases(show u=Value.none from M);exact kia_one PySem.W.kitx_none I.kIn True.intro e (fun z=>nomatch z) h
 | bl y=>cases(show u=Value.bool y from M);exact kia_one PySem.W.kitx_bool I.kIn True.intro e (fun z=>nomatch z) h
 | int i=>obtain⟨t,q⟩:=(show ∃t,u=Value.int i t from M);cases q;exact kia_one PySem.W.kitx_int I.kIn True.intro e (fun z=>nomatch z) h
 | str y=>obtain⟨t,q⟩:=(show ∃t,u=Value.str y t from M);cases q;exact kia_one PySem.W.kitx_str I.kIn True.intro e (fun z=>nomatch z) h
 | flt y=>obtain⟨t,q⟩:=(show ∃t,u=Value.float y t from M);cases q;exact kia_one PySem.W.kitx_float I.kIn True.intro e (fun z=>nomatch z) h
 | @lst a xs S=>
   cases(show u=Value.ref a from M)
   obtain⟨_,_,n,_,h1⟩:=(show Hw X.prog X.w H s.heap a (.lst xs)from I.hok a _ S)
   exact kia_one kitx_list I.kIn ⟨_,h1,rfl⟩ e (fun z=>nomatch z) h
 | @frz a ob xs S=>
   cases(show u=Value.ref a from M)
   obtain⟨_,_,_,n,_,h1⟩:=(show Hw X.prog X.w H s.heap a (.frz ob (.lst xs))from I.hok a _ S)
   exact kia_one kitx_list I.kIn ⟨_,h1,rfl⟩ e (fun z=>nomatch z) h
 | @tup a xs S=>
   cases(show u=Value.ref a from M)
   obtain⟨_,_,_,p⟩:=(show Hw X.prog X.w H s.heap a (.tup xs)from I.hok a _ S)
   obtain⟨o,h1,h2,_⟩:=p
   exact kia_one kitx_tuple I.kIn ⟨o,h1,h2⟩ e (fun z=>nomatch z) h
 | @dK a U S=>
   cases(show u=Value.ref a from M)
   obtain⟨_,_,vs,_,p⟩:=(show Hw X.prog X.w H s.heap a (.dK U)from I.hok a _ S)
   obtain⟨o,es,ep,h1,h2,_⟩:=p
   exact kia_one kitx_dict I.kIn ⟨o,h1,h2.1⟩ e (fun z=>nomatch z) h
 | @dT a U S=>
   cases(show u=Value.ref a from M)
   obtain⟨_,_,xs,_,o,es,ep,h1,h2,_⟩:=(show Hw X.prog X.w H s.heap a (.dT U)from I.hok a _ S)
   exact kia_one kitx_dict I.kIn ⟨o,h1,h2.1⟩ e (fun z=>nomatch z) h
 | @ins a C dx fs S Z ha hn Y hm=>
   cases(show u=Value.ref a from M)
   obtain⟨mA,O,_⟩:=Amn I.hok S
   obtain⟨od,J,_⟩:=O.look
   exact kia_one (PySem.W.kitx_own (Z.get _) Z.hd ha hn Y hm) I.kIn J e (fun z=>nomatch z) h
end
structure J0 (k:Nat) (A:Around):Prop where
 hd:A.handled=none
 dp:A.depth+3*k+5<recursionLimit
 un:A.units+16*k+200<cLine
theorem J0.mono {j k:Nat}{A:Around} (r:J0 k A) (h:j<=k):J0 j A:=⟨r.hd,by have:=r.dp;omega,by have:=r.un;omega⟩
theorem J0.deeper {k:Nat}{A:Around} (r:J0 (k+1) A) (env:Env):J0 k (A.deeper env):=
 ⟨r.hd,by have:=r.dp;show A.depth+1+3*k+5<_;omega,by have:=r.un;show A.units+3+16*k+200<_;omega⟩
theorem J0.depth {k:Nat}{A:Around} (r:J0 k A):A.depth<recursionLimit:=by have:=r.dp;omega
theorem J0.units {k:Nat}{A:Around} (r:J0 k A):A.units+64<cLine:=by have:=r.un;omega
noncomputable def Atx:TA:=fun _ H Q=>Q [] H
noncomputable def Ajf (ta:TE) (tr:TA):TA:=fun σ H Q=>ta σ H fun x H1=>tr σ H1 fun xs H2=>Q (x::xs) H2
section
variable {X:Cx}{e:Expr}{es:List Expr}{te:TE}{t:TA}{pos:Pos}
theorem Aqi:PA X [] Atx:=fun _ _ _ _ H Q I h=>Calls.spliced_nil ⟨[],H,I,.nil,h⟩
theorem Anb (z:PE X e te) (J:PA X es t) (hs:starEach (e::es) X.env=(false,eval e X.env)::starEach es X.env:=by rfl):PA X (e::es) (Ajf te t):=by
 intro pos pins s σ H Q I h
 rw [hs]
 show wpAny _ _ (spliced ((false,eval e X.env)::backTo pos (starEach es X.env))) _ _ s
 refine Calls.spliced_cons (thn (z pins s σ H _ I h) fun u M ⟨x,H1,O,S,U⟩=> ?_)
 exact thn (J pos pins M σ H1 _ O U) fun us s2 ⟨xs,H2,W,Y,Z⟩=>⟨x::xs,H2,W,.cons S Y,Z⟩
noncomputable def At2 (t:TA):TE:=fun σ H Q=>t σ H fun xs H1=>xs.length<=sizeLine/\∀p,H1 p=none->Q (.ref p) (upd H1 p (.tup xs))
noncomputable def Atw (t:TA):TE:=fun σ H Q=>t σ H fun xs H1=>xs.length<=sizeLine/\∀p,H1 p=none->Q (.ref p) (upd H1 p (.lst xs))
theorem Aqs {x1} (h:PA X es t):PE X (.Tuple es x1 pos) (At2 t):=by
 intro pins s σ H Q I O
 refine wpAny_Tuple_spliced (thn (h pos pins s σ H _ I O) fun S J ⟨xs,H1,M,r,z,q⟩=>⟨by rw [<-r.length];exact z,?_⟩)
 have U:H1 J.heap.objs.size=none:=M.hok.fresh (le_refl _)
 refine⟨.ref J.heap.objs.size,upd H1 J.heap.objs.size (.tup xs),M.laid (t':=J.toks) (fun b u e=>Heap.get?_push_of_some _ e) (le_refl _) ?_,rfl,q _ U⟩
 exact⟨z,S,r,⟨_,Heap.get?_push_size _ rfl,rfl,_,rfl⟩⟩
theorem Aqm (h:PA X es t):PE X (.List es pos) (Atw t):=by
 intro pins s σ H Q I O
 refine wpAny_List_spliced (thn (h pos pins s σ H _ I O) fun S J ⟨xs,H1,M,r,z,q⟩=>⟨by rw [<-r.length];exact z,?_⟩)
 have U:H1 J.heap.objs.size=none:=M.hok.fresh (le_refl _)
 refine⟨.ref J.heap.objs.size,upd H1 J.heap.objs.size (.lst xs),M.laid (t':=J.toks) (fun b u e=>Heap.get?_push_of_some _ e) (le_refl _) ?_,rfl,q _ U⟩
 exact⟨z,S,0,r,Heap.get?_push_size _ rfl⟩
end
noncomputable abbrev Sp:=List V->Hp->VK->XK->Prop
noncomputable abbrev CXT:=List Env->Hp->Shared->XK->Value->Shared->Prop
structure Alh (P:Program) (w:World) (K:Frag) (mg:Str->Option Value) (base:Heap) (A:Around) (outer:List Env) (s:Shared) (H:Hp):Prop where
 frames:A.frames=some outer
 mod:Mod K mg base
 bs:∀b o,base.get? b=some o->s.heap.get? b=some o/\H b=none
 bsz:base.objs.size<=s.heap.objs.size
 funs:s.heap.FunFrames base outer
 frf:∀b∈frs outer,H b=none
 hok:HOk P w H s.heap
 bare:AllBare s.gens
noncomputable def CE (outer:List Env) (P:Program) (w:World) (H:Hp) (s:Shared) (Q:VK) (u:Value) (s':Shared):Prop:=
 ∃v H',s'.os=s.os/\AllBare s'.gens/\Un (frs outer) [] H H' s.heap s'.heap/\HOk P w H' s'.heap/\RelV v u/\Q v H'
noncomputable def CR (CX:CXT) (outer:List Env) (P:Program) (w:World) (H:Hp) (s:Shared) (Q:VK) (E:XK) (r:Result) (s':Shared):Prop:=
 match r with
 | .ok (.ret u)=>CE outer P w H s Q u s'
 | .ok _=>False
 | .error e=>CX outer H s E e s'
structure O4 (P:Program) (w:World) (K:Frag) (mg:Str->Option Value) (base:Heap) (CX:CXT) (k:Nat) (f:Addr) (fd:FuncData) (ps:List Str) (sp:Sp):Prop where
 len:∀vs H Q E,sp vs H Q E->vs.length=ps.length
 run:∀(A:Around) (outer:List Env) (s:Shared) (H:Hp) (args:Args) (us:List Value) (vs:List V) (Q:VK) (E:XK),J0 k A->Alh P w K mg base A outer s H->BindsTo s fd args (ps.zip us)->Vals vs us->sp vs H Q E->
  codeAny (model P w) A (.call (.ref f) args) (CR CX outer P w H s Q E) s
theorem O4.mono {P:Program}{w:World}{K:Frag}{mg:Str->Option Value}{base:Heap}{CX:CXT}{j k:Nat}{f:Addr}{fd:FuncData}{ps:List Str}{sp:Sp} (F:O4 P w K mg base CX j f fd ps sp) (h:j<=k):
 O4 P w K mg base CX k f fd ps sp:=⟨F.len,fun A outer s H args z I Q E J=>F.run A outer s H args z I Q E (J.mono h)⟩
section
variable {X:Cx}{pins:List (Addr × Obj)}{σ:St}{H:Hp}{s s':Shared}
theorem Inv.env0 (I:Inv X pins σ H s):Alh X.prog X.w X.K X.mg X.base X.A X.stack s H:=
 ⟨I.ok.frames,I.ok.mod,I.bs,le_trans I.ok.bsz I.sz,I.stack,I.stkFree,I.hok,I.bare⟩
theorem Inv.after {Q:VK}{u:Value} (I:Inv X pins σ H s) (h:CE X.stack X.prog X.w H s Q u s'):EP X pins σ Q u s':=by
 obtain⟨v,H',os,J,un,M,r,q⟩:=h
 obtain⟨S,g,d,t,O⟩:=s'
 obtain rfl:O=s.os:=os
 exact⟨v,H',I.call (h':=S) (g':=g) (d':=d) (t':=t) (ch:=[]) un M J (fun b z=>absurd z (by simp)),r,q⟩
end
noncomputable def Vu (sp:Sp) (dvs:List V) (E:XK) (t:TA):TE:=fun σ H Q=>t σ H fun vs H1=>sp (vs++dvs) H1 Q E
noncomputable def Binds (K:Frag) (fd:FuncData) (ps:List Str) (ds:List Value):Prop:=
 ∀(s:Shared) (us:List Value),K.In s.heap->(us++ds).length=ps.length->BindsTo s fd ⟨us,[]⟩ (ps.zip (us++ds))
theorem Binds.all {K:Frag}{fd:FuncData}{ps:List Str} (h:∀z:List Value,z.length=ps.length->bindArgs fd ⟨z,[]⟩=pure (ps.zip z)):Binds K fd ps []:=fun s z _ I=>by
 rw [append_nil]at I ⊢
 exact .of_eq (h z I)
noncomputable def Passes (CX:CXT) (X:Cx) (E:XK):Prop:=∀(pins:List (Addr × Obj)) (σ:St) (H:Hp) (s:Shared) (e:Value) (s':Shared),Inv X pins σ H s->CX X.stack H s E e s'->X.xe e s'
section
variable {X:Cx}{CX:CXT}{k:Nat}{f C:Addr}{fd:FuncData}{ps:List Str}{sp:Sp}{dvs:List V}{ds:List Value}{E:XK}{x m:Str}{p pos apos:Pos}{e o:Expr}{es:List Expr}{ta:TE}{t:TA}
theorem Ak1 {pins:List (Addr × Obj)}{σ:St}{H:Hp}{s:Shared}{Q:VK}{z:List Value}{M:List V} (F:O4 X.prog X.w X.K X.mg X.base CX k f fd ps sp) (S:J0 k X.A) (U:Binds X.K fd ps ds) (W:Vals dvs ds) (Y:Passes CX X E)
 (I:Inv X pins σ H s) (r:Vals M z) (h:sp (M++dvs) H Q E):wpAny (model X.prog X.w) X.A (call (.ref f) z) (EP X pins σ Q) X.xe s:=by
 have O:Vals (M++dvs) (z++ds):=r.append W
 have Z:(z++ds).length=ps.length:=by rw [<-O.length];exact F.len _ _ _ _ h
 refine wpAny_call (codeAny_mono (F.run X.A X.stack s H ⟨z,[]⟩ (z++ds) (M++dvs) Q E S I.env0 (U s z I.kIn Z) O h) fun r s' J=> ?_)
 cases r with
 | error e=>exact Y pins σ H s e s' I J
 | ok fl=>
   cases fl with
   | ret u=>exact I.after J
   | next=>exact False.elim J
   | brk=>exact False.elim J
   | cont=>exact False.elim J
theorem Afp (F:O4 X.prog X.w X.K X.mg X.base CX k f fd ps sp) (O:J0 k X.A) (S:Gl X x) (U:X.mg x=some (.ref f)) (Y:keepIn X.K (.ref f)=true) (Z:Binds X.K fd ps ds) (hd:Vals dvs ds) (hx:Passes CX X E)
 (ha:PA X (e::es) t) (z:(x==("__debug__":Str))=false:=by decide) (he:starEach (e::es) X.env=(false,eval e X.env)::starEach es X.env:=by rfl) (J:(backTo pos (starEach es X.env)).any (·.1)=false:=by rfl):
 PE X (.Call (.Name x p) (e::es) [] pos) (Vu sp dvs E t):=by
 intro pins s σ H Q I h
 refine wpAny_Call_Name_kw (Qu I S U ?_ z)
 refine callWith_K (h₀:=X.base) I.ok.mod.kin Y (thn (ha pos pins s σ H _ I h) fun us s1 ⟨vs,H1,M,r,q⟩=>⟨M.kIn,?_⟩) he J
 exact Ak1 F O Z hd hx M r q
structure Mk (K:Frag) (C f:Addr):Prop where
 makes:PySem.W.makesIn K C=true
 init:findIn K (.ref C) "__init__"=some (some (.ref f))
 fn:isFn K (.ref f)=true
 kp:keepIn K (.ref C)=true
end
section
variable {X:Cx}{CX:CXT}{k:Nat}{f C:Addr}{fd:FuncData}{ps ks:List Str}{sp:Sp}{E:XK}{x m:Str}{p pos apos kpos:Pos}{e o:Expr}{es:List Expr}{kws:List Keyword}{te ta:TE}{t tk:TA}{nm:Option Str}
structure Au1 (K:Frag) (fd:FuncData) (ps ks:List Str) (g:List Value->List Value->List Value) (gV:List V->List V->List V):Prop where
 to:∀(s:Shared) (us ws:List Value),K.In s.heap->(g us ws).length=ps.length->BindsTo s fd ⟨us,ks.zip ws⟩ (ps.zip (g us ws))
 rel:∀ {vs:List V}{us:List Value}{zs:List V}{ws:List Value},Vals vs us->Vals zs ws->Vals (gV vs zs) (g us ws)
variable {g:List Value->List Value->List Value}{gV:List V->List V->List V}
end
structure Ax (N P:List Str) (sc:Scope):Prop where
 kind:sc.kind= .function
 co:sc.isCoroutine=false
 gen:sc.isGenerator=false
 nd:N.Nodup
 pre:N.take P.length=P
 par:∀x∈P,sc.names.lookup x=some .local \/sc.names.lookup x=some .cell
 nofree:∀y∈sc.names,y.2≠ .free
theorem Wd {kindOf:Str->Option NameKind}{x:Str}:∀ {binds:List (Str × Value)}{m:Str->Option Value},(∀v,(x,v)∉binds)->bindL kindOf binds m x=m x
 | [],_,_=>rfl
 | (n,v)::r,m,h=>by
   unfold bindL
   rw [Wd fun w z=>h w (mem_cons_of_mem _ z)]
   split
   . have:x≠n:=by rintro rfl;exact h v mem_cons_self
     simp [this]
   . rfl
theorem Wb {kindOf:Str->Option NameKind}{x:Str}:∀ {binds:List (Str × Value)}{m:Str->Option Value},(∀v,(x,v)∉binds)->bindC kindOf binds m x=m x
 | [],_,_=>rfl
 | (n,v)::r,m,h=>by
   unfold bindC
   rw [Wb fun w z=>h w (mem_cons_of_mem _ z)]
   split
   . rfl
   . have:x≠n:=by rintro rfl;exact h v mem_cons_self
     simp [this]
theorem Wc {kindOf:Str->Option NameKind}{x:Str}{v:Value}:∀ {P:List Str}{z:List Value}{i:Nat}{m:Str->Option Value},P.Nodup->P[i]? =some x->z[i]? =some v->kindOf x=some .local ->
 bindL kindOf (P.zip z) m x=some v
 | [],_,_,_,_,h,_,_=>by simp at h
 | _::_,[],_,_,_,_,h,_=>by simp at h
 | p::P,w::z,0,m,nd,h1,h2,hk=>by
   simp at h1 h2;subst h1;subst h2
   show bindL kindOf ((p,w)::P.zip z) m p=_
   unfold bindL
   rw [Wd fun v hv=>(nodup_cons.mp nd).1 (of_mem_zip hv).1,if_pos hk]
   simp
 | p::P,w::z,i+1,m,nd,h1,h2,hk=>by
   show bindL kindOf ((p,w)::P.zip z) m x=_
   unfold bindL
   exact Wc (i:=i) (nodup_cons.mp nd).2 (by simpa using h1) (by simpa using h2) hk
theorem Wa {kindOf:Str->Option NameKind}{x:Str}{v:Value}:∀ {P:List Str}{z:List Value}{i:Nat}{m:Str->Option Value},P.Nodup->P[i]? =some x->z[i]? =some v->kindOf x≠some .local ->
 bindC kindOf (P.zip z) m x=some v
 | [],_,_,_,_,h,_,_=>by simp at h
 | _::_,[],_,_,_,_,h,_=>by simp at h
 | p::P,w::z,0,m,nd,h1,h2,hk=>by
   simp at h1 h2;subst h1;subst h2
   show bindC kindOf ((p,w)::P.zip z) m p=_
   unfold bindC
   rw [Wb fun v hv=>(nodup_cons.mp nd).1 (of_mem_zip hv).1,if_neg hk]
   simp
 | p::P,w::z,i+1,m,nd,h1,h2,hk=>by
   show bindC kindOf ((p,w)::P.zip z) m x=_
   unfold bindC
   exact Wa (i:=i) (nodup_cons.mp nd).2 (by simpa using h1) (by simpa using h2) hk
noncomputable def start (N:List Str) (vs:List V):St:=vs.map some++replicate (N.length-vs.length) none
noncomputable def Qn (CX:CXT) (P:Program) (w:World) (K:Frag) (mg:Str->Option Value) (base:Heap) (N:List Str) (qual:Str) (scope:Scope) (f:Addr) (cd:Value) (A:Around) (outer:List Env) (s:Shared) (H:Hp) (E:XK):Cx where
 prog:=P
 w:=w
 K:=K
 mg:=mg
 base:=base
 A:=A.deeper (envOfC qual scope s.heap.objs.size f cd)
 N:=N
 s₀:=s
 H₀:=H
 env:=envOfC qual scope s.heap.objs.size f cd
 outer:=outer
 stack:=envOfC qual scope s.heap.objs.size f cd::outer
 ex:=[]
 calm:=true
 fn:=fun _=>true
 pn:=[]
 xe:=fun e s'=>wpAny (model P w) (A.deeper (envOfC qual scope s.heap.objs.size f cd)) (leaving (envOfC qual scope s.heap.objs.size f cd) e) (fun _ s''=>CX outer H s E e s'') (fun e' s''=>CX outer H s E e' s'') s'
theorem Z6 {sc:Scope}{n:Nat}{x:Str} (h:sc.names.lookup x=some .cell):∃c,(cellsFrom n sc.names []).lookup x=some c:=by
 have q:=cellsFrom_some sc.names n [] (.inl h)
 exact isSome_iff_exists.mp q
theorem Aef {CX:CXT}{P:Program}{w:World}{K:Frag}{mg:Str->Option Value}{base:Heap}{N ps:List Str}{qual:Str}{scope:Scope}{f:Addr}{cd:Value}{A:Around}{outer:List Env}{s s1:Shared}{H:Hp}{E:XK}{Z:List Value}{J:List V}
 (S:Ax N ps scope) (hd:A.handled=none) (I:Alh P w K mg base A outer s H) (hl:J.length=ps.length) (r:Vals J Z)
 (x:InCallC s s.heap.objs.size (bindL (envOfC qual scope s.heap.objs.size f cd).kindOf (ps.zip Z) fun _=>none) (cellsFrom (s.heap.objs.size+1) scope.names []) (bindC (envOfC qual scope s.heap.objs.size f cd).kindOf (ps.zip Z) fun _=>none) s1):
 Inv (Qn CX P w K mg base N qual scope f cd A outer s H E) [] (start N J) H s1:=by
 have a0:ps.length<=N.length:=by have:=congrArg List.length S.pre;rw [length_take]at this;omega
 obtain⟨h1,tk,rfl,hk⟩:=x.done
 have M:∀b:Addr,b∉(Qn CX P w K mg base N qual scope f cd A outer s H E).ex:=fun b z=>absurd (show b∈([]:List Addr)from z) (by simp)
 refine⟨⟨I.mod,S.kind,rfl,rfl,le_refl _,fun y z c h1 h2=> ?_,fun y O=> ?_,fun y c _ h=> ?_,fun _=>hd,Around.frames_deeper I.frames,.inr ⟨rfl,rfl⟩,fun b z=>absurd z (M b),I.bs,I.bsz,fun b _ _=>M b,fun b z=>absurd z (M b),I.funs,I.frf⟩,
  rfl,I.bare,Un.kept hk,⟨_,x.toInCall.ns,fun i y v h1 h2 h3=> ?_⟩,fun y c h=>⟨_,x.cell y c h⟩,I.hok.fresh (le_refl _),fun y c h=> ?_,fun p U=>absurd (show p∈([]:List (Addr × Obj))from U) (by simp),I.hok.kept hk,?_⟩
 . exact name_of_addr x.apart (PySem.mem_of_lookup h1) (PySem.mem_of_lookup h2)
 . have O:scope.names.lookup y=some .cell\/scope.names.lookup y=some .free:=O
   rcases O with O | O
   . exact Z6 O
   . exact absurd rfl (S.nofree _ (PySem.mem_of_lookup O))
 . exact Nat.le_of_lt (x.above y c (PySem.mem_of_lookup h))
 . have hi:i<J.length:=by
    unfold start at h2
    by_cases hi:i<J.length
    . exact hi
    . rw [getElem?_append_right (by simpa using hi)]at h2
      rw [getElem?_replicate]at h2
      split at h2<;>cases h2
   have ha:J[i]? =some v:=by
    unfold start at h2
    rw [getElem?_append_left (by simpa using hi),getElem?_map]at h2
    cases e:J[i]? with
    | none=>rw [e]at h2;cases h2
    | some a=>rw [e]at h2;cases h2;rfl
   obtain⟨u,hu,rv⟩:=r.get ha
   have U:ps[i]? =some y:=by
    rw [<-S.pre,List.getElem?_take_of_lt (by omega)];exact h1
   have Y:ps.Nodup:=by rw [<-S.pre];exact S.nd.sublist (List.take_sublist _ _)
   refine⟨u,rv,?_⟩
   rcases S.par y (List.mem_of_getElem? U)with k | k
   . exact .inl ⟨k,Wc Y U hu k⟩
   . obtain⟨c,e⟩:=Z6 (n:=s.heap.objs.size+1) k
     refine .inr ⟨.inl k,c,e,?_⟩
     have q:=x.cell y c e
     rw [Wa Y U hu (by show scope.names.lookup y≠_;rw [k];decide)]at q
     exact q
 . exact I.hok.fresh (Nat.le_of_lt (x.above y c (PySem.mem_of_lookup h)))
 . unfold start
   show _=N.length
   rw [length_append,length_map,length_replicate]
   omega
theorem Apd {CX:CXT}{P:Program}{w:World}{K:Frag}{mg:Str->Option Value}{base:Heap}{k:Nat}{f:Addr}{name qual:Str}{params:Arguments}{M:List Stmt}{scope:Scope}{dV kV a0 pm z ct oc:Value}{an od:Option Addr}
 {a3:Array (Option Value)}{N ps:List Str}{sp:Sp} (lk:K.lookup f=some ⟨oc,od,.func (PySem.W.fnOf name qual params M scope dV kV a0 pm an z ct),a3⟩) (a4:PySem.W.codeIn K z qual=true) (S:Ax N ps scope)
 (len:∀O H Q E,sp O H Q E->O.length=ps.length)
 (Y:∀(A:Around) (outer:List Env) (s:Shared) (H:Hp) (O:List V) (Q:VK) (E:XK),J0 k (A.deeper (envOfC qual scope s.heap.objs.size f z))->sp O H Q E->
   ∃t,PSs (Qn CX P w K mg base N qual scope f z A outer s H E) M t/\t { nx:=fun _ H'=>Q .non H',rt:=Q} (start N O) H):
 O4 P w K mg base CX (k+1) f (PySem.W.fnOf name qual params M scope dV kV a0 pm an z ct) ps sp:=by
 refine⟨len,fun A outer s H args us O Q E hr e0 hb r a1=> ?_⟩
 have hl:=len _ _ _ _ a1
 have KX:K.In s.heap:=e0.mod.kin.keeps fun b o e=>(e0.bs b o e).1
 have a5:s.heap.NoLimit:=e0.mod.nolimit.keeps fun b o e=>(e0.bs b o e).1
 have Z:∀y∈ps.zip us,scope.names.lookup y.1=some .local \/(scope.names.lookup y.1=some .cell/\((cellsFrom (s.heap.objs.size+1) scope.names []).lookup y.1).isSome=true):=fun⟨n,v⟩ hy=>by
  rcases S.par n (of_mem_zip hy).1 with q | q
  . exact .inl q
  . exact .inr ⟨q,cellsFrom_some _ _ _ (.inl q)⟩
 refine codeAny_call_function hr.depth (KX _ _ lk) rfl S.co S.gen rfl (PySem.W.codeRec_of KX a4) (hb _ _ _ _ ?_)
 refine wpAny_newFunctionEnv_cells S.kind Z fun env he s1 x=> ?_
 subst he
 refine⟨a5.keeps x.toInCall.keep,codeAny_func ?_⟩
 obtain⟨t,ht,hq⟩:=Y A outer s H O Q E (hr.deeper _) a1
 have I:Inv (Qn CX P w K mg base N qual scope f z A outer s H E) [] (start N O) H s1:=Aef S hr.hd e0 hl r x
 refine wpAny_mono (ht [] s1 (start N O) H _ I hq) (fun fl s' hs=> ?_) fun e s' hs=>hs
 have a2:∀ {U:St}{H':Hp}{v:V}{u:Value},Inv (Qn CX P w K mg base N qual scope f z A outer s H E) [] U H' s'->RelV v u->Q v H'->CE outer P w H s Q u s':=
  fun {U H' v u} J rv q=>⟨v,H',J.os,J.bare,J.base,J.hok,rv,q⟩
 cases fl with
 | ret u=>
   obtain⟨v,U,H',J,rv,q⟩:=hs
   exact a2 J rv q
 | next=>
   obtain⟨U,H',J,q⟩:=hs
   exact a2 (v:=V.non) (u:=Value.none) J rfl q
 | brk=>
   obtain⟨_,_,_,q⟩:=hs
   exact False.elim q
 | cont=>
   obtain⟨_,_,_,q⟩:=hs
   exact False.elim q
section
variable {X:Cx}{x:Str}{p pos:Pos}{e:Expr}{es:List Expr}{t:TA}{id T:String}{r:List V->Hp->VK->Prop}
noncomputable def tCB (r:List V->Hp->VK->Prop) (t:TA):TE:=fun σ H Q=>t σ H fun vs H1=>r vs H1 Q
theorem Aiq (M:Hv X (.builtin id) r) (O:Gl X x) (S:X.mg x=none) (hv:bootBuiltins x=some (.builtin id)) (U:PA X (e::es) t) (W:x≠"__name__":=by decide) (z:(x==("__debug__":Str))=false:=by decide)
 (Y:starEach (e::es) X.env=(false,eval e X.env)::starEach es X.env:=by rfl) (J:(backTo pos (starEach es X.env)).any (·.1)=false:=by rfl):PE X (.Call (.Name x p) (e::es) [] pos) (tCB r t):=by
 intro pins s σ H Q I h
 refine wpAny_Call_Name_kw (Mt I O S hv ?_ W z)
 exact PyProof.Rows.callWith_builtin1 (thn (U pos pins s σ H _ I h) fun Z s1 ⟨vs,H1,I1,r1,q1⟩=>M pins s1 σ H1 vs Z Q I1 r1 q1) Y J
theorem Afq (M:Hv X (.type T) r) (O:Gl X x) (S:X.mg x=none) (hv:bootBuiltins x=some (.type T)) (U:PA X (e::es) t) (W:x≠"__name__":=by decide) (z:(x==("__debug__":Str))=false:=by decide)
 (Y:starEach (e::es) X.env=(false,eval e X.env)::starEach es X.env:=by rfl) (J:(backTo pos (starEach es X.env)).any (·.1)=false:=by rfl):PE X (.Call (.Name x p) (e::es) [] pos) (tCB r t):=by
 intro pins s σ H Q I h
 refine wpAny_Call_Name_kw (Mt I O S hv ?_ W z)
 exact PyProof.Rows.callWith_type1 (thn (U pos pins s σ H _ I h) fun Z s1 ⟨vs,H1,I1,r1,q1⟩=>M pins s1 σ H1 vs Z Q I1 r1 q1) Y J
end
end L2
namespace HT
open PySem PyProof.Rows
section
variable {prog:Program}{w:World}{A:Around}{E:Value->Shared->Prop}{s:Shared}
theorem Alv {t b:Addr}{J z:List Value}{Q:Value->Shared->Prop} (ht:IsTup s.heap t J.toArray) (hb:IsTup s.heap b z.toArray) (hv:J≠ [])
 (h1:z=[]->Q (.ref t) s) (h2:z≠ []->Q (.ref s.heap.objs.size) { s with heap:=s.heap.push { cls:= .type "tuple",data:= .seq (J++z).toArray}})
 (Z:J.length+z.length<=sizeLine):wpAny (model prog w) A (binaryOp .Add (.ref t) (.ref b)) Q E s:=by
 obtain⟨⟨cls,dd,data,sl⟩,W,hc,n,hd⟩:=id ht
 obtain⟨⟨a0,M,data2,O⟩,I,S,n2,U⟩:=id hb
 simp only at hc hd S U
 subst hc hd S U
 have e:J.toArray++z.toArray=(J++z).toArray:=by simp
 by_cases Y:z=[]
 . exact concat_meets ⟨_,W,rfl⟩ ⟨_,I,rfl⟩ noFill_tuple_add seq_tuple_add slot_tuple_add entry_tuple_add (args_tuple_add_2 _ _)
    (tuple_addW1 t b J.toArray z.toArray n n2 dd M sl O (by simpa using hv) (by simp [Y])) ⟨W,I,h1 Y⟩
 . refine concat_meets ⟨_,W,rfl⟩ ⟨_,I,rfl⟩ noFill_tuple_add seq_tuple_add slot_tuple_add entry_tuple_add (args_tuple_add_2 _ _)
    (tuple_addW2 t b J.toArray z.toArray n n2 dd M sl O (by simpa using hv) (by simpa using Y) (by rw [size_toArray,size_toArray];exact Z)) ⟨W,I,?_⟩
   rw [e]
   exact h2 Y
noncomputable def sIx (n d:Nat):Option Int->Nat
 | none=>d
 | some v=>if v<0 then(v+(n:Int)).toNat else min v.toNat n
theorem K4 (n d:Nat):sIx n d none=d:=rfl
theorem Ny (n d k:Nat):sIx n d (some (k:Int))=min k n:=by
 show(if(k:Int)<0 then((k:Int)+(n:Int)).toNat else min (k:Int).toNat n)=min k n
 rw [if_neg (by omega),toNat_natCast]
theorem Ari (n d:Nat) (z:d<=n) (o:Option Int):sIx n d o<=n:=by
 cases o with
 | none=>exact z
 | some v=>
   show(if v<0 then(v+(n:Int)).toNat else min v.toNat n)<=n
   by_cases hv:v<0
   . rw [if_pos hv];omega
   . rw [if_neg hv];exact Nat.min_le_right _ _
theorem Ado (v:Int) (n d:Nat):(if v<0 then max (v+(n:Int)) 0 else min v (n:Int))=((sIx n d (some v):Nat):Int):=by
 show(if v<0 then max (v+(n:Int)) 0 else min v (n:Int))=(((if v<0 then(v+(n:Int)).toNat else min v.toNat n):Nat):Int)
 by_cases hv:v<0
 . simp only [if_pos hv];omega
 . simp only [if_neg hv];omega
theorem Abf (lo hi:Option Int) (n:Nat):Builtin.Slice.sliceAdjust lo hi 1 (n:Int)=(((sIx n 0 lo:Nat):Int),((sIx n n hi:Nat):Int)):=by
 have h1:¬((1:Int)<0):=by omega
 unfold Builtin.Slice.sliceAdjust
 simp only [h1,if_false]
 refine Prod.ext ?_ ?_
 . cases lo with
   | none=>rfl
   | some v=>exact Ado v n 0
 . cases hi with
   | none=>rfl
   | some v=>exact Ado v n n
theorem Acb (i j:Nat):Builtin.Slice.slicePlaces (i:Int) (j:Int) 1=j-i:=by
 unfold Builtin.Slice.slicePlaces
 have h1:(1:Int)>0:=by omega
 simp only [h1,if_true,ediv_one]
 split<;>omega
theorem Tz {v:Value}{o:Option Int}{Q:Option Int->Shared->Prop} (p:IsPart v o) (h:Q o s):wpAny (model prog w) A (Builtin.Slice.slicePartIndex v) Q E s:=by
 cases p with
 | none=>exact slicePart_none h
 | int i t=>exact slicePart_int h
theorem Jy {O:Addr}{J M:Value}{lo hi:Option Int}{n:Nat}{Q:Int × Int × Nat->Shared->Prop} (hs:s.heap.IsSliceOf O J M .none) (S:IsPart J lo) (U:IsPart M hi)
 (h:Q (((sIx n 0 lo:Nat):Int),1,sIx n n hi-sIx n 0 lo) s):wpAny (model prog w) A (Builtin.Slice.sliceApplied (.ref O) (pure (n:Int))) Q E s:=by
 obtain⟨os,z,W,I⟩:=id hs
 unfold Builtin.Slice.sliceApplied Builtin.Slice.sliceFields
 refine wpAny_bind (wpAny_bind (wpAny_field z I (x:=J) rfl (wpAny_bind (wpAny_field z I (x:=M) rfl (wpAny_bind (wpAny_field z I (x:= .none) rfl (wpAny_pure ?_)))))))
 refine wpAny_bind (slicePart_none ?_)
 show wpAny _ _ (if((1:Int)==0)=true then _ else _) _ _ s
 rw [if_neg (by decide)]
 refine wpAny_bind (Tz S (wpAny_bind (Tz U (wpAny_bind (wpAny_pure ?_)))))
 show wpAny _ _ (match Builtin.Slice.sliceAdjust lo hi 1 (n:Int)with | (lo,hi)=>pure (lo,(1:Int),Builtin.Slice.slicePlaces lo hi 1)) _ _ s
 rw [Abf lo hi n]
 show wpAny _ _ (pure (((sIx n 0 lo:Nat):Int),(1:Int),Builtin.Slice.slicePlaces ((sIx n 0 lo:Nat):Int) ((sIx n n hi:Nat):Int) 1)) _ _ s
 rw [Acb]
 exact wpAny_pure h
theorem Aix (xs:Array Value) (i k:Nat):((List.range k).filterMap fun(m:Nat)=>xs[((i:Int)+(m:Int)*1).toNat]?).toArray=((xs.toList.drop i).take k).toArray:=by
 have e:(fun(m:Nat)=>xs[((i:Int)+(m:Int)*1).toNat]?)=fun m=>xs[i+m]? :=by
  funext m
  have:((i:Int)+(m:Int)*1).toNat=i+m:=by omega
  rw [this]
 rw [e]
 have:=pick_run xs i k
 rw [List.filterMap_map]at this
 have z:((fun x=>xs[x]?) ∘ fun x=>i+x)=fun m=>xs[i+m]? :=rfl
 rw [z]at this
 rw [this]
theorem Nv {t J:Addr}{items:Array Value}{W Y:Value}{lo hi:Option Int}{Q:Value->Shared->Prop} (I:IsTup s.heap t items) (hs:s.heap.IsSliceOf J W Y .none) (Z:IsPart W lo) (pu:IsPart Y hi)
 (hw:¬(sIx items.size 0 lo=0/\sIx items.size items.size hi=items.size))
 (h:Q (.ref s.heap.objs.size) { s with heap:=s.heap.push { cls:= .type "tuple",data:= .seq ((items.toList.drop (sIx items.size 0 lo)).take (sIx items.size items.size hi-sIx items.size 0 lo)).toArray}})
 (a0:items.size<=sizeLine):wpAny (model prog w) A (getItem (.ref t) (.ref J)) Q E s:=by
 have z:sizeOk (.seq ((items.toList.drop (sIx items.size 0 lo)).take (sIx items.size items.size hi-sIx items.size 0 lo)).toArray):=by
  show((items.toList.drop (sIx items.size 0 lo)).take (sIx items.size items.size hi-sIx items.size 0 lo)).toArray.size<=sizeLine
  rw [size_toArray,length_take,length_drop,Array.length_toList]
  omega
 have hj:sIx items.size items.size hi<=items.size:=Ari _ _ (le_refl _) hi
 obtain⟨os,M,O,a1⟩:=id hs
 have S:s.TypeIs (.ref J) "slice":=⟨os,M,O⟩
 unfold getItem
 try with_reducible refine wpAny_holding ?_
 first | refine wpAny_bind (wpAny_pure ?_) | skip
 refine wpAny_bind (wpAny_sequenceKey I.typeIs (by decide) ?_)
 refine wpAny_bind (wpAny_callSpecial?_slot (name:=Str.ofString "__getitem__") I.typeIs PyProof.Rows.slot_tuple_getitem
  (wpAny_call_entry PyProof.Rows.slot_tuple_getitem I.typeIs entry_tuple_getitem ?_ (args_tuple_getitem _ _)))
 show wpAny _ _ (Builtin.Tuple.tupleItemsOf (.ref t)>>=_) _ _ s
 refine wpAny_bind (tupleItemsOf_ I ?_)
 refine wpAny_bind (wpAny_typeOf S ?_)
 rw [if_pos (by decide)]
 refine wpAny_bind (Jy hs Z pu ?_)
 have U:¬((((sIx items.size 0 lo:Nat):Int)==0&&(1:Int)==1&&(sIx items.size items.size hi-sIx items.size 0 lo)==items.size)=true):=by
  intro q
  rw [and_eq_true,and_eq_true]at q
  have q1:((sIx items.size 0 lo:Nat):Int)=0:=eq_of_beq q.1.1
  have q2:sIx items.size items.size hi-sIx items.size 0 lo=items.size:=eq_of_beq q.2
  exact hw ⟨by omega,by omega⟩
 show wpAny _ _ (if(((sIx items.size 0 lo:Nat):Int)==0&&(1:Int)==1&&(sIx items.size items.size hi-sIx items.size 0 lo)==items.size)=true then _ else _) _ _ s
 rw [if_neg U,Aix]
 first
  | exact wpAny_bind (m:=Builtin.Tuple.tupleExact _) (wpAny_newObj_type (wpAny_pure ⟨_,rfl,wpAny_pure h⟩) z)
  | exact wpAny_bind (m:=Builtin.Tuple.tupleExact _) (wpAny_newObj_type (wpAny_bind (wpAny_pure (wpAny_pure ⟨_,rfl,wpAny_pure h⟩))) z)
  | exact wpAny_bind (wpAny_bind (m:=Builtin.Tuple.tupleExact _) (wpAny_newObj_type (wpAny_pure (wpAny_pure ⟨_,rfl,wpAny_pure h⟩)) z))
  | exact wpAny_bind (wpAny_bind (m:=Builtin.Tuple.tupleExact _) (wpAny_newObj_type (wpAny_pure ⟨_,rfl,wpAny_pure h⟩) z))
end
end HT
namespace L2
open PySem PySem.Spec PyProof.Rows
noncomputable abbrev TO:=St->Hp->(Option Int->Hp->Prop)->Prop
noncomputable def PO (X:Cx) (e:Option Expr) (t:TO):Prop:=
 ∀(pins:List (Addr × Obj)) (s:Shared) (σ:St) (H:Hp) (Q:Option Int->Hp->Prop),Inv X pins σ H s->t σ H Q->
   wpAny (model X.prog X.w) X.A (evalPart e X.env) (fun u s'=>∃o H',Inv X pins σ H' s'/\IsPart u o/\Q o H') X.xe s
noncomputable def Zn:TO:=fun _ H Q=>Q none H
noncomputable def Aod (t:TE):TO:=fun σ H Q=>t σ H fun x H1=>∃i,x= .int i/\Q (some i) H1
theorem intsAre_of {ns:List Int}:∀ {z:List Value},Vals (ns.map V.int) z->IntsAre z ns:=by
 induction ns with
 | nil=>intro z r;rw [map_nil]at r;cases r;exact .nil
 | cons n ns I=>
   intro z r
   rw [map_cons]at r
   cases r with
   | cons J M=>
     obtain⟨t,e⟩:=J
     subst e
     exact .cons n t (I M)
section
variable {X:Cx}{e:Expr}{te:TE}{lo hi:Option Expr}{tl th:TO}{pos p2:Pos}
theorem Anl:PO X none Zn:=by
 intro pins s σ H Q I h
 rw [evalPart_none]
 exact wpAny_pure ⟨none,H,I,.none,h⟩
theorem Anm (h:PE X e te):PO X (some e) (Aod te):=by
 intro pins s σ H Q I z
 rw [evalPart_some]
 refine thn (h pins s σ H _ I z) fun u S ⟨x,H1,J,M,O⟩=> ?_
 obtain⟨i,rfl,q⟩:=O
 obtain⟨t,rfl⟩:=M
 exact⟨some i,H1,J,.int i t,q⟩
noncomputable def SlR (X:Cx) (r:V->Option Int->Option Int->Hp->VK->Prop):Prop:=
 ∀(pins:List (Addr × Obj)) (s:Shared) (σ:St) (H:Hp) (x:V) (v vl vu:Value) (lo hi:Option Int) (sl:Addr) (Q:VK),Inv X pins σ H s->RelV x v->s.heap.IsSliceOf sl vl vu .none->IsPart vl lo->IsPart vu hi->r x lo hi H Q->
   ∃T id,typeLookup (.type T) "__getitem__"=pure (some (.builtin id))/\s.TypeIs v T/\wpAny (model X.prog X.w) X.A (getItem v (.ref sl)) (EP X pins σ Q) X.xe s
noncomputable def tSl (r:V->Option Int->Option Int->Hp->VK->Prop) (te:TE) (tl th:TO):TE:=fun σ H Q=>te σ H fun x H1=>tl σ H1 fun l H2=>th σ H2 fun u H3=>r x l u H3 Q
theorem Ait {r:V->Option Int->Option Int->Hp->VK->Prop} (S:SlR X r) (U:PE X e te) (W:PO X lo tl) (Y:PO X hi th):PE X (.Subscript e (.Slice lo hi none p2) pos) (tSl r te tl th):=by
 intro pins s σ H Q I h
 refine Subscript_ (thn (U pins s σ H _ I h) fun v Z ⟨x,H1,I1,r1,q1⟩=> ?_)
 refine wpAny_Slice (thn (W pins Z σ H1 _ I1 q1) fun J s2 ⟨l,H2,I2,pl,q2⟩=>thn (Y pins s2 σ H2 _ I2 q2) fun M z ⟨u,O,I3,pu,q3⟩=> ?_)
 rw [evalPart_none]
 refine wpAny_pure ?_
 have I4:Inv X pins σ O { z with heap:=z.heap.push { cls:= .type "slice",data:= .fields #[J,M,.none]}}:=I3.kept (t':=z.toks) fun b ob q=>Heap.get?_push_of_some _ q
 obtain⟨T,id,hT,ht,hg⟩:=S pins { z with heap:=z.heap.push { cls:= .type "slice",data:= .fields #[J,M,.none]}} σ O x v J M l u z.heap.objs.size Q I4 r1 (Heap.IsSliceOf.new ..) pl pu q3
 show wpAny (model X.prog X.w) X.A (subscriptTail e (.Slice lo hi none p2) v (.ref z.heap.objs.size)) (EP X pins σ Q) X.xe { z with heap:=z.heap.push { cls:= .type "slice",data:= .fields #[J,M,.none]}}
 exact tail_any (ops:=[.ref z.heap.objs.size,v]) ht hT hg (by with_unfolding_all rfl)
noncomputable def O6 (xs:List V) (lo hi:Option Int):List V:=(xs.drop (HT.sIx xs.length 0 lo)).take (HT.sIx xs.length xs.length hi-HT.sIx xs.length 0 lo)
theorem Qm (xs:List V) (lo hi:Option Int):(O6 xs lo hi).length<=xs.length:=by
 unfold O6
 rw [length_take,length_drop]
 omega
noncomputable def Avu (K:Frag):V->Option Int->Option Int->Hp->VK->Prop:=fun x lo hi H Q=>∃a xs,x= .ref a/\SqT K H a xs/\
 ¬(HT.sIx xs.length 0 lo=0/\HT.sIx xs.length xs.length hi=xs.length)/\∀p,H p=none->Q (.ref p) (upd H p (.tup (O6 xs lo hi)))
theorem Arn:SlR X (Avu X.K):=by
 intro pins s σ H x v vl vu lo hi sl Q I S hs U W h
 obtain⟨a,xs,rfl,Y,Z,q⟩:=h
 cases S
 obtain⟨J,r,M,O⟩:=I.tuple Y
 have z:J.toArray.size=xs.length:=by rw [size_toArray];exact r.length.symm
 refine⟨"tuple",_,PyProof.Rows.slot_tuple_getitem.lookup,M.typeIs,?_⟩
 refine HT.Nv M hs U W (by rw [z];exact Z) ?_ (by rw [z];exact O)
 rw [z]
 refine⟨.ref s.heap.objs.size,_,I.laid (t':=s.toks) (o:= .tup (O6 xs lo hi)) (fun b ob q=>Heap.get?_push_of_some _ q) (le_refl _) ?_,rfl,q _ (I.hok.fresh (le_refl _))⟩
 exact⟨le_trans (Qm xs lo hi) O,_,(r.drop (HT.sIx xs.length 0 lo)).take (HT.sIx xs.length xs.length hi-HT.sIx xs.length 0 lo),IsTup.new _ _⟩
noncomputable def Atf (K:Frag):R2:=fun x y H Q=>∃a b xs ys,x= .ref a/\y= .ref b/\SqT K H a xs/\SqT K H b ys/\xs≠ []/\xs.length+ys.length<=sizeLine/\
 (ys=[]->Q (.ref a) H)/\(ys≠ []->∀p,H p=none->Q (.ref p) (upd H p (.tup (xs++ys))))
theorem Vals.nil_iff {xs:List V}{z:List Value} (r:Vals xs z):z=[]↔xs=[]:=by
 cases r with
 | nil=>simp
 | cons _ _=>simp
theorem Am5:OpR X (binaryOp .Add) (Atf X.K):=by
 intro pins s σ H x y v u Q I U W h
 obtain⟨a,b,xs,ys,rfl,rfl,Y,Z,hx,O,q1,q2⟩:=h
 cases U
 cases W
 obtain⟨a0,M,p1,_⟩:=I.tuple Y
 obtain⟨S,J,p2,_⟩:=I.tuple Z
 refine HT.Alv p1 p2 (fun z=>hx (M.nil_iff.mp z)) (fun z=>⟨.ref a,H,I,rfl,q1 (J.nil_iff.mp z)⟩) (fun z=> ?_) (by rw [<-M.length,<-J.length];exact O)
 refine⟨.ref s.heap.objs.size,_,I.laid (t':=s.toks) (o:= .tup (xs++ys)) (fun b ob q=>Heap.get?_push_of_some _ q) (le_refl _) ?_,rfl,q2 (fun w=>z (J.nil_iff.mpr w)) _ (I.hok.fresh (le_refl _))⟩
 exact⟨by rw [length_append];exact O,_,M.append J,IsTup.new _ _⟩
end
noncomputable def ixN (n:Nat) (i:Int):Option Nat:=if 0<=i then(if i<n then some i.toNat else none)else if-(n:Int)<=i then some (i+n).toNat else none
noncomputable def atI {α:Type} (xs:List α) (i:Int):Option α:=(ixN xs.length i).bind fun j=>xs[j]?
theorem Aej {n:Nat}{i:Int}{j:Nat} (h:ixN n i=some j):seqIndex? i n=some j/\j<n/\ -(n:Int)<=i/\i<n:=by
 unfold ixN at h
 by_cases z:0<=i
 . rw [if_pos z]at h
   by_cases h1:i<n
   . rw [if_pos h1]at h
     have e:i.toNat=j:=Option.some.inj h
     exact⟨by rw [seqIndex_of z h1,e],by omega,by omega,h1⟩
   . rw [if_neg h1]at h;cases h
 . rw [if_neg z]at h
   by_cases h1: -(n:Int)<=i
   . rw [if_pos h1]at h
     have e:(i+n).toNat=j:=Option.some.inj h
     exact⟨by rw [seqIndex_neg (by omega) h1,e],by omega,h1,by omega⟩
   . rw [if_neg h1]at h;cases h
theorem Adc {α:Type}{xs:List α}{i:Int}{v:α} (h:atI xs i=some v):∃j,seqIndex? i xs.length=some j/\xs[j]? =some v/\j<xs.length/\ -(xs.length:Int)<=i/\i<xs.length:=by
 unfold atI at h
 cases e:ixN xs.length i with
 | none=>rw [e]at h;cases h
 | some j=>
   rw [e]at h
   obtain⟨h1,h2,z,I⟩:=Aej e
   exact⟨j,h1,h,h2,z,I⟩
theorem Hq {α:Type}{xs:List α}{j:Nat}{v:α} (h:xs[j]? =some v):atI xs (j:Int)=some v:=by
 have z:j<xs.length:=(List.getElem?_eq_some_iff.mp h).1
 have e:ixN xs.length (j:Int)=some j:=by
  unfold ixN
  rw [if_pos (by omega),if_pos (by omega)];simp
 unfold atI;rw [e];exact h
theorem O5 {α:Type} (xs:List α) (v:α):atI (xs++ [v]) (-1)=some v:=by
 have z:(xs++ [v]).length=xs.length+1:=by simp
 have e:ixN (xs++ [v]).length (-1)=some xs.length:=by
  unfold ixN
  rw [z,if_neg (by decide),if_pos (by omega)]
  congr 1
  omega
 unfold atI
 rw [e]
 show(xs++ [v])[xs.length]? =some v
 simp
noncomputable def Ac3 (b:Expr):Prop:=∀o i,subscripted b false o i=operate [o,i] (getItem o i)
noncomputable def IxR (X:Cx) (r:R2):Prop:=
 ∀(value slice:Expr) (pins:List (Addr × Obj)) (s:Shared) (σ:St) (H:Hp) (x y:V) (v u:Value) (Q:VK),Inv X pins σ H s->RelV x v->RelV y u->r x y H Q->
   subscripted slice false v u=operate [v,u] (getItem v u)->wpAny (model X.prog X.w) X.A (subscriptTail value slice v u) (EP X pins σ Q) X.xe s
noncomputable def MtR (X:Cx) (id:String) (r:V->List V->Hp->VK->Prop):Prop:=
 ∀(pins:List (Addr × Obj)) (s:Shared) (σ:St) (H:Hp) (x:V) (xs:List V) (v:Value) (us:List Value) (Q:VK),Inv X pins σ H s->RelV x v->Vals xs us->r x xs H Q->
   wpAny (model X.prog X.w) X.A (call (.builtin id) (v::us)) (EP X pins σ Q) X.xe s
section
variable {X:Cx}{a b:Expr}{ta tb:TE}{pos:Pos}
theorem As7 {r:R2} (z:IxR X r) (J:PE X a ta) (M:PE X b tb) (hs:Ac3 b):PE X (.Subscript a b pos) (tOp r ta tb):=by
 intro pins s σ H Q I h
 exact Subscript_ (Asu J M I h fun v u O x y H2 S U W q=>z a b pins O σ H2 x y v u Q S U W q (hs _ _))
noncomputable def Asm (K:Frag):R2:=fun x y H Q=>∃p xs i v,x= .ref p/\y= .int i/\SqL K H p xs/\atI xs i=some v/\Q v H
noncomputable def Aq8 (K:Frag):R2:=fun x y H Q=>∃p xs i v,x= .ref p/\y= .int i/\SqT K H p xs/\atI xs i=some v/\Q v H
theorem Ea:IxR X (Asm X.K):=by
 intro value slice pins s σ H x y v u Q I Z ry h hs
 obtain⟨p,xs,i,z,rfl,rfl,hq,he,q⟩:=h
 cases Z
 obtain⟨t,rfl⟩:=ry
 obtain⟨M,r,O,hz⟩:=I.list hq
 obtain⟨j,h1,h2,h3,h4,h5⟩:=Adc he
 obtain⟨w,W,S⟩:=r.get h2
 have hl:=r.length
 have hn:=Ti
 have J:EP X pins σ Q w s:=⟨z,H,I,S,q⟩
 by_cases Y:0<=i
 . have U:i.toNat=j:=by
    rw [seqIndex_of Y h5]at h1
    exact Option.some.inj h1
   exact item_listR O.isList Y (by omega) (by rw [U];simpa using W) J hs
 . have U:(i+(M.toArray.size:Int)).toNat=j:=by
    rw [seqIndex_neg (by omega) h4]at h1
    rw [size_toArray,<-hl]
    exact Option.some.inj h1
   exact subscriptTail_builtinR (x:=w) O.isList.typeIs slot_list_getitem.lookup
    (wpAny_getItem_list_neg (Q:=fun r s'=>r=w/\EP X pins σ Q r s') O.isList (by omega) (by rw [size_toArray]<;>omega) (by omega) (by rw [U];simpa using W) ⟨rfl,J⟩) hs
theorem Bd:IxR X (Aq8 X.K):=by
 intro value slice pins s σ H x y v u Q I S U h hs
 obtain⟨p,xs,i,z,rfl,rfl,W,Y,q⟩:=h
 cases S
 obtain⟨t,rfl⟩:=U
 obtain⟨Z,r,O,hz⟩:=I.tuple W
 obtain⟨j,h1,h2,h3,h4,h5⟩:=Adc Y
 obtain⟨w,ew,J⟩:=r.get h2
 have hl:=r.length
 have hn:=Ti
 have M:EP X pins σ Q w s:=⟨z,H,I,J,q⟩
 exact subscriptTail_builtinR (x:=w) O.typeIs slot_tuple_getitem.lookup
  (getItem_tuple (j:=j) (Q:=fun r s'=>r=w/\EP X pins σ Q r s') O (by omega) (by omega) (by rw [size_toArray,<-hl];exact h1) (by simpa using ew) ⟨rfl,M⟩) hs
theorem Abp (its:List Value) (n j:Nat) (u:Value):Obj.mapSeq (·.setIfInBounds j u) { cls:= .type "list",data:= .seq its.toArray n}={ cls:= .type "list",data:= .seq (its.set j u).toArray n}:=by
 simp [Obj.mapSeq]
theorem Inv.lst {pins:List (Addr × Obj)}{σ:St}{H:Hp}{s:Shared}{p:Addr}{xs:List V} (I:Inv X pins σ H s) (h:H p=some (.lst xs)):
 ∃(its:List Value) (n:Nat),Vals xs its/\s.heap.get? p=some { cls:= .type "list",data:= .seq its.toArray n}/\xs.length<=sizeLine:=by
 obtain⟨z,its,n,r,e⟩:=I.hok p _ h
 exact⟨its,n,r,e,z⟩
theorem Inv.lstUpd {pins:List (Addr × Obj)}{σ:St}{H:Hp}{s:Shared}{p:Addr}{xs ys:List V}{its its':List Value}{n z:Nat}{f:Obj->Obj} (I:Inv X pins σ H s) (h:H p=some (.lst xs))
 (M:s.heap.get? p=some { cls:= .type "list",data:= .seq its.toArray n}) (J:f { cls:= .type "list",data:= .seq its.toArray n}={ cls:= .type "list",data:= .seq its'.toArray z}) (r:Vals ys its') (O:ys.length<=sizeLine) (t:Nat):
 Inv X pins σ (upd H p (.lst ys)) { s with heap:=s.heap.update p f,toks:=t}:=by
 have e:(s.heap.update p f).get? p=some { cls:= .type "list",data:= .seq its'.toArray z}:=by
  rw [Heap.get?_update_self f M (by rw [J]<;>rfl),J]
 refine I.write (x:=p) (e:=p) (by rw [h];trivial) (.inl rfl) (fun b u S q=>(Heap.get?_update_other _ _ (Ne.symm S)).trans q) ⟨_,e⟩ ?_
 exact⟨O,its',z,r,e⟩
noncomputable def Aq9:V->V->V->Hp->(Hp->Prop)->Prop:=fun o i v H Q=>∃p xs k j,o= .ref p/\i= .int k/\H p=some (.lst xs)/\ixN xs.length k=some j/\Q (upd H p (.lst (xs.set j v)))
theorem set_list:Ass X Aq9:=by
 intro pins s σ H o i v ov iv u Q I ro ri rv h
 obtain⟨p,xs,k,j,rfl,rfl,S,hj,q⟩:=h
 cases ro
 obtain⟨t,rfl⟩:=ri
 obtain⟨z,n,r,J,hz⟩:=I.lst S
 obtain⟨h1,h2,U,Y⟩:=Aej hj
 have M:=r.length
 have hn:=Ti
 have Z:Inv X pins σ (upd H p (.lst (xs.set j v))) { s with heap:=s.heap.update p (Obj.mapSeq (·.setIfInBounds j u))}:=
  I.lstUpd S J (Abp z n j u) (r.set rv j) (by rw [length_set];exact hz) s.toks
 by_cases h0:0<=k
 . have O:k.toNat=j:=by
    rw [seqIndex_of h0 Y]at h1
    exact Option.some.inj h1
   exact PySem.W.ki_setAt J h0 (by omega) (by rw [size_toArray,<-M];exact Y) (by rw [O];exact⟨_,Z,q⟩)
 . have O:(k+(z.toArray.size:Int)).toNat=j:=by
    rw [seqIndex_neg (by omega) U]at h1
    rw [size_toArray,<-M]
    exact Option.some.inj h1
   exact PySem.W.ki_setBack J (by omega) (by rw [size_toArray,<-M];exact U) (by omega) (by rw [O];exact⟨_,Z,q⟩)
theorem Xa (lo hi:Option Int) (n:Nat):(sliceBounds lo hi none n).1=((HT.sIx n 0 lo:Nat):Int)/\(sliceBounds lo hi none n).2.1=((HT.sIx n n hi:Nat):Int)/\(sliceBounds lo hi none n).2.2=1:=by
 refine⟨?_,?_,rfl⟩
 . cases lo with
   | none=>simp [sliceBounds,HT.sIx]
   | some i=>
     simp only [sliceBounds,HT.sIx,getD_none,show(1:Int)>0 by decide,if_true]
     by_cases h:i<0
     . simp only [h,if_true]<;>omega
     . simp only [h,if_false]<;>omega
 . cases hi with
   | none=>simp [sliceBounds,HT.sIx]
   | some i=>
     simp only [sliceBounds,HT.sIx,getD_none,show(1:Int)>0 by decide,if_true]
     by_cases h:i<0
     . simp only [h,if_true]<;>omega
     . simp only [h,if_false]<;>omega
theorem Vo (its:List Value) (lo hi:Option Int):slicePick its.toArray lo hi none=((its.drop (HT.sIx its.length 0 lo)).take (HT.sIx its.length its.length hi-HT.sIx its.length 0 lo)).toArray:=by
 obtain⟨h1,h2,z⟩:=Xa lo hi its.toArray.size
 unfold slicePick
 rw [h1,h2,z]
 simp only [sliceRange_one,pick_run,size_toArray]<;>rfl
noncomputable def Avt (K:Frag):V->Option Int->Option Int->Hp->VK->Prop:=fun x lo hi H Q=>∃a xs,x= .ref a/\SqL K H a xs/\∀p,H p=none->Q (.ref p) (upd H p (.lst (O6 xs lo hi)))
theorem Od:SlR X (Avt X.K):=by
 intro pins s σ H x v Z vu lo hi sl Q I M hs O S h
 obtain⟨a,xs,rfl,U,q⟩:=h
 cases M
 obtain⟨W,r,J,Y⟩:=I.list U
 have z:=r.length
 refine⟨"list",_,slot_list_getitem.lookup,J.isList.typeIs,?_⟩
 refine wpAny_getItem_list_slice J.isList hs O S .none (by simp) ?_ (by rw [size_toArray]<;>omega)
 rw [Vo,<-z]
 refine⟨.ref s.heap.objs.size,_,I.laid (t':=s.toks) (o:= .lst (O6 xs lo hi)) (fun b ob q=>Heap.get?_push_of_some _ q) (le_refl _) ?_,rfl,q _ (I.hok.fresh (le_refl _))⟩
 exact⟨le_trans (Qm xs lo hi) Y,_,0,(r.drop (HT.sIx xs.length 0 lo)).take (HT.sIx xs.length xs.length hi-HT.sIx xs.length 0 lo),Heap.get?_push_size _ rfl⟩
theorem Bc:Hv X (.builtin "len") (fun xs H Q=>∃p ys,xs=[.ref p]/\(SqL X.K H p ys\/SqT X.K H p ys)/\Q (.int ys.length) H):=by
 intro pins s σ H xs Y Q I r h
 obtain⟨p,ys,rfl,J,q⟩:=h
 obtain⟨u,rfl,U⟩:=vals1 r
 cases U
 have Z:=Ti
 rcases J with J | J
 . obtain⟨M,O,S,W⟩:=I.list J
   have z:=O.length
   exact Calls.call_len_list S.isList (by simp only [size_toArray]<;>omega) ⟨.int ys.length,H,I.tok _,⟨s.toks+1,by rw [size_toArray,z]⟩,q⟩
 . obtain⟨M,O,S,W⟩:=I.tuple J
   have z:=O.length
   exact len_tuple S (by simp only [size_toArray]<;>omega) ⟨.int ys.length,H,I.tok _,⟨s.toks+1,by rw [size_toArray,z]⟩,q⟩
theorem Es:Hv X (.type "list") (fun xs H Q=>∃p ys,xs=[.ref p]/\(SqL X.K H p ys\/SqT X.K H p ys)/\∀l,H l=none->Q (.ref l) (upd H l (.lst ys))):=by
 intro pins s σ H xs us Q I r h
 obtain⟨p,ys,rfl,O,q⟩:=h
 obtain⟨u,rfl,rx⟩:=vals1 r
 cases rx
 have S:∀(z:List Value),Vals ys z->ys.length<=sizeLine->∀(h':Heap) (J:Nat),(∀b o',s.heap.get? b=some o'->h'.get? b=some o')->
  h'.get? s.heap.objs.size=some { cls:= .type "list",dict:=none,data:= .seq z.toArray J,slots:= #[]}->EP X pins σ Q (.ref s.heap.objs.size) { s with heap:=h'}:=fun z M U h' J W e=>
  ⟨.ref s.heap.objs.size,_,I.laid (t':=s.toks) W (le_refl _) (show Hw X.prog X.w _ h' _ (.lst ys)from⟨U,z,J,M,e⟩),rfl,q _ (I.hok.fresh (le_refl _))⟩
 rcases O with O | O
 . obtain⟨z,M,Z,U⟩:=I.list O
   have Y:=M.length
   obtain⟨o,ho,hc,n,hd⟩:=Z.isList
   exact call_list_seq p (.inl rfl) ho hc hd (fun h' J W e=>S z M U h' J W e) (by simp only [size_toArray]<;>omega)
 . obtain⟨z,M,Z,U⟩:=I.tuple O
   have Y:=M.length
   obtain⟨o,ho,hc,n,hd⟩:=Z
   exact call_list_seq p (.inr rfl) ho hc hd (fun h' J W e=>S z M U h' J W e) (by simp only [size_toArray]<;>omega)
theorem Ds:Hv X (.type "tuple") (fun xs H Q=>∃p ys,xs=[.ref p]/\((SqL X.K H p ys/\∀l,H l=none->Q (.ref l) (upd H l (.tup ys)))\/(SqT X.K H p ys/\Q (.ref p) H))):=by
 intro pins s σ H xs us Q I r h
 obtain⟨p,ys,rfl,h⟩:=h
 obtain⟨u,rfl,Y⟩:=vals1 r
 cases Y
 rcases h with⟨J,q⟩ | ⟨J,q⟩
 . obtain⟨z,M,O,S⟩:=I.list J
   have U:=M.length
   refine call_tuple_list O.isList (fun h' Z=> ?_) (by simp only [size_toArray]<;>omega)
   have W:Inv X pins σ H { s with heap:=h'}:=I.kept (t':=s.toks) Z
   have I2:Inv X pins σ (upd H h'.objs.size (.tup ys)) { s with heap:=h'.push { cls:= .type "tuple",data:= .seq z.toArray}}:=
    W.laid (t':=s.toks) (fun b o e=>Heap.get?_push_of_some _ e) (le_refl _) (show Hw X.prog X.w _ _ _ (.tup ys)from⟨S,z,M,IsTup.new _ _⟩)
   exact⟨.ref h'.objs.size,_,I2,rfl,q _ (W.hok.fresh (le_refl _))⟩
 . obtain⟨z,M,O,S⟩:=I.tuple J
   exact call_tuple_same O ⟨.ref p,H,I,rfl,q⟩
noncomputable def tyV (K:Frag) (T:String) (x:V) (H:Hp):Prop:=match x with
 | .str _=>T="str"
 | .int _=>T="int"
 | .ref p=>(T="list"/\∃xs,SqL K H p xs)\/(T="tuple"/\∃o,K.lookup p=some o/\o.cls= .type "tuple"/\o.dict=none)\/
    (T="dict"/\((∃kvs,H p=some (.dK kvs))\/∃kvs,H p=some (.dT kvs)))\/(T="set"/\∃S n,H p=some (.set S n))
 | _=>False
theorem Alc {pins:List (Addr × Obj)}{σ:St}{H:Hp}{s:Shared}{T:String}{x:V}{v:Value} (I:Inv X pins σ H s) (r:RelV x v) (ty:tyV X.K T x H):
 s.TypeIs v T/\∀a,v= .ref a->∃W,s.heap.get? a=some W/\W.dict=none:=by
 cases x with
 | str z=>
   obtain⟨t,rfl⟩:=r
   cases(show T="str" from ty)
   exact⟨typeIs_str s z t,fun _ e=>nomatch e⟩
 | int i=>
   obtain⟨t,rfl⟩:=r
   cases(show T="int" from ty)
   exact⟨typeIs_int s i t,fun _ e=>nomatch e⟩
 | ref p=>
   cases r
   rcases ty with⟨rfl,xs,Z⟩ | ⟨rfl,o,J,hc,M⟩ | ⟨rfl,J⟩ | ⟨rfl,S,n,J⟩
   . obtain⟨a0,_,Y,_⟩:=I.list Z
     refine⟨Y.isList.typeIs,fun a e=> ?_⟩
     cases e
     obtain⟨o,n,e,c,M,_⟩:=Y
     exact⟨o,e,M⟩
   . refine⟨⟨o,I.kIn p o J,hc⟩,fun a e=> ?_⟩
     cases e
     exact⟨o,I.kIn _ o J,M⟩
   . have z:∃o,s.heap.get? p=some o/\o.ExactDict:=by
      rcases J with⟨O,J⟩ | ⟨O,J⟩
      . obtain⟨_,_,_,_,o,_,_,e,ex,_⟩:=I.hok p _ J
        exact⟨o,e,ex⟩
      . obtain⟨_,_,_,_,o,_,_,e,ex,_⟩:=I.hok p _ J
        exact⟨o,e,ex⟩
     obtain⟨o,e,ex⟩:=z
     refine⟨⟨o,e,ex.1⟩,fun a U=> ?_⟩
     cases U
     exact⟨o,e,ex.2.1⟩
   . obtain⟨o,_,_,_,e,ex,_⟩:=I.hok p _ J
     refine⟨⟨o,e,ex.1⟩,fun a U=> ?_⟩
     cases U
     exact⟨o,e,ex.2.1⟩
 | _=>exact False.elim ty
noncomputable def Ats (K:Frag) (T:String) (r:V->List V->Hp->VK->Prop) (to:TE):TE:=fun σ H Q=>to σ H fun x H1=>tyV K T x H1/\r x [] H1 Q
noncomputable def tBM (K:Frag) (T:String) (r:V->List V->Hp->VK->Prop) (to:TE) (t:TA):TE:=fun σ H Q=>to σ H fun x H1=>tyV K T x H1/\t σ H1 fun xs H2=>r x xs H2 Q
variable {o e:Expr}{es:List Expr}{to:TE}{t:TA}{name:Str}{apos cpos:Pos}{T id:String}{r:V->List V->Hp->VK->Prop}
theorem Afn (W:PlainAttrs T) (M:Slot T name id) (O:typeOf (.builtin id)=pure (.type "method_descriptor")) (Y:MtR X id r) (Z:PE X o to)
 (z:attributeBase o name X.env (eval o X.env)=eval o X.env:=by rfl) (J:(apos.endLine==cpos.line)=true:=by rfl):PE X (.Call (.Attribute o name apos) [] [] cpos) (Ats X.K T r to):=by
 intro pins s σ H Q I h
 refine wpAny_Call_method0_late z J (thn (Z pins s σ H _ I h) fun v s1 ⟨x,H1,S,U,ty,q1⟩=> ?_)
 obtain⟨h1,h2⟩:=Alc S U ty
 exact⟨T,id,W,M,O,h1,h2,Calls.callWith_builtin rfl (PySem.evalArgs_none (Y pins s1 σ H1 x [] v [] Q S U .nil q1))⟩
theorem Ab8 (pa:PlainAttrs T) (O:Slot T name id) (U:typeOf (.builtin id)=pure (.type "method_descriptor")) (hm:MtR X id r) (ho:PE X o to) (ha:PA X (e::es) t)
 (J:attributeBase o name X.env (eval o X.env)=eval o X.env:=by rfl)
 (S:((backTo cpos (starEach (e::es) X.env)).all (fun x=> !x.1)&&(backToKw cpos (keywordEach [] X.env)).all (fun x=>x.1.isSome)
   &&decide ((e::es).length+([]:List Keyword).length+(if([]:List Keyword).isEmpty then 0 else 1)<30))=true:=by rfl)
 (M:(apos.endLine==cpos.line)=true:=by rfl) (hs:starEach (e::es) X.env=(false,eval e X.env)::starEach es X.env:=by rfl) (z:(backTo cpos (starEach es X.env)).any (·.1)=false:=by rfl):
 PE X (.Call (.Attribute o name apos) (e::es) [] cpos) (tBM X.K T r to t):=by
 intro pins s σ H Q I h
 refine wpAny_Call_method_late J S M rfl (thn (ho pins s σ H _ I h) fun v s1 ⟨x,H1,W,Y,ty,q1⟩=> ?_)
 obtain⟨h1,h2⟩:=Alc W Y ty
 refine⟨T,id,pa,O,U,h1,h2,?_⟩
 have Z:=ha cpos pins s1 σ H1 _ W q1
 rw [hs]at Z ⊢
 refine Calls.callWith_builtin (by show(false||(backTo cpos (starEach es X.env)).any (·.1))=false;rw [z]<;>rfl) (Calls.evalArgs_plain ?_)
 exact thn Z fun us s2 ⟨vs,H2,I2,r2,q2⟩=>hm pins s2 σ H2 x vs v us Q I2 Y r2 q2
/-xs.append(e),list.index on a module's tuple .. are MtR facts of 06m-/
end
noncomputable def MtM (X:Cx) (id:String) (r:V->List V->Hp->VK->Prop):Prop:=
 ∀(pins:List (Addr × Obj)) (s:Shared) (σ:St) (H:Hp) (x:V) (xs:List V) (v:Value) (us:List Value) (Q:VK),Inv X pins σ H s->RelV x v->Vals xs us->r x xs H Q->
   wpAny (model X.prog X.w) X.A (call (.builtin id) (v::us)) (EP X pins σ Q) X.xe s
theorem Vals.one:∀ {x:V}{z:List Value},Vals [x] z->∃u,z=[u]/\RelV x u
 | _,_,.cons r .nil=>⟨_,rfl,r⟩
theorem Vals.zero:∀ {z:List Value},Vals [] z->z=[]
 | _,.nil=>rfl
theorem Vals.dropLast {xs:List V}{z:List Value} (h:Vals xs z):Vals xs.dropLast z.dropLast:=by
 induction h with
 | nil=>exact .nil
 | cons r t I=>
   cases t with
   | nil=>exact .nil
   | cons q J=>exact .cons r I
theorem Vals.rep {xs:List V}{z:List Value} (h:Vals xs z):∀k:Nat,Vals (replicate k xs).flatten (replicate k z).flatten
 | 0=> .nil
 | k+1=>by
   rw [replicate_succ,replicate_succ,flatten_cons,flatten_cons]
   exact Vals.append h (Vals.rep h k)
theorem Abj {α:Type} (l:List α):l.eraseIdx (l.length-1)=l.dropLast:=by
 induction l with
 | nil=>rfl
 | cons a r z=>
   cases r with
   | nil=>rfl
   | cons b r=>
     have e:(a::b::r).length-1=((b::r).length-1)+1:=by
      have h1:(a::b::r).length=r.length+2:=rfl
      have h2:(b::r).length=r.length+1:=rfl
      omega
     rw [e,List.eraseIdx_cons_succ,z]
     all_goals rfl
theorem foldl_rep (its:List Value):∀(k:Nat) (z:List Value),
 foldl (fun x1 I=>x1++I) z.toArray (replicate k its.toArray)=(z++(replicate k its).flatten).toArray
 | 0,z=>by simp
 | k+1,z=>by
   have e:z.toArray++its.toArray=(z++its).toArray:=by simp
   have J:(z++its)++(replicate k its).flatten=z++(replicate (k+1) its).flatten:=by
    rw [replicate_succ,flatten_cons,append_assoc]
   rw [<-J,<-foldl_rep its k (z++its),<-e,replicate_succ,foldl_cons]
section
variable {X:Cx}{pins:List (Addr × Obj)}{σ:St}{H:Hp}{s:Shared}{l b:Addr}{xs ys zs:List V}
theorem Inv.lset {its its':List Value}{n:Nat}{f:Array Value->Array Value}{t':Nat} (I:Inv X pins σ H s) (z:H l=some (.lst xs))
 (e:s.heap.get? l=some { cls:= .type "list",data:= .seq its.toArray n}) (J:f its.toArray=its'.toArray) (hv:Vals ys its') (M:ys.length<=sizeLine):
 Inv X pins σ (upd H l (.lst ys)) { s with heap:=s.heap.update l (Obj.mapSeq f),toks:=t'}:=by
 have q:=PySem.IsL.update e f
 rw [J]at q
 refine I.write (x:=l) (e:=l) (by rw [z];exact trivial) (.inl rfl) (fun U u O S=>(Heap.get?_update_other s.heap (Obj.mapSeq f) (Ne.symm O)).trans S) ⟨_,q⟩ ?_
 exact⟨M,its',_,hv,q⟩
theorem Inv.lnew {its:List Value}{t':Nat} (I:Inv X pins σ H s) (hv:Vals ys its) (z:ys.length<=sizeLine):
 Inv X pins σ (upd H s.heap.objs.size (.lst ys)) { s with heap:=s.heap.push { cls:= .type "list",data:= .seq its.toArray},toks:=t'}:=
 I.laid (fun _ _ q=>Heap.get?_push_of_some _ q) (le_refl _) ⟨z,its,0,hv,Heap.get?_push_size _ rfl⟩
theorem Inv.fresh (I:Inv X pins σ H s):H s.heap.objs.size=none:=I.hok.fresh (le_refl _)
theorem Inv.lstM (I:Inv X pins σ H s) (J:H l=some (.lst xs)):xs.length<=sizeLine/\∃(its:List Value) (n:Nat),Vals xs its/\xs.length=its.length/\s.heap.get? l=some { cls:= .type "list",data:= .seq its.toArray n}:=by
 obtain⟨z,its,n,r,e⟩:=I.hok l _ J
 exact⟨z,its,n,r,r.length,e⟩
theorem Aan {n:Nat} (h:n<=sizeLine):Builtin.List.listTooLong n=false:=by
 unfold Builtin.List.listTooLong
 exact decide_eq_false (by omega)
end
section
variable {X:Cx}
noncomputable def Afz:V->List V->Hp->VK->Prop:=fun x vs H Q=>∃l xs y,x= .ref l/\vs=[y]/\H l=some (.lst xs)/\xs.length<sizeLine/\Q .non (upd H l (.lst (xs++ [y])))
theorem Fi:MtM X "list.append" Afz:=by
 intro pins s σ H x W v Y Q I O S h
 obtain⟨l,xs,y,rfl,rfl,M,Z,q⟩:=h
 cases O
 obtain⟨u,rfl,U⟩:=S.one
 obtain⟨z,J,n,r,hl,e⟩:=I.lstM M
 refine call_meets F.slot_list_append ⟨_,e,rfl⟩ F.entry_list_append (F.args_list_append_2 _ _) (PySem.list_append l J.toArray n u (by rw [size_toArray];omega)) ⟨e,?_⟩
 refine⟨.non,_,I.lset (its':=J++ [u]) M e (by simp) (r.append (.cons U .nil)) ?_,rfl,q⟩
 rw [length_append,length_singleton]
 omega
noncomputable def Ant:V->List V->Hp->VK->Prop:=fun x vs H Q=>∃l b xs zs,x= .ref l/\vs=[.ref b]/\H l=some (.lst xs)/\H b=some (.lst zs)/\xs.length+zs.length<=sizeLine/\Q .non (upd H l (.lst (xs++zs)))
theorem Aev:MtM X "list.extend" Ant:=by
 intro pins s σ H x vs v us Q I W Y h
 obtain⟨l,b,xs,zs,rfl,rfl,U,Z,hz,q⟩:=h
 cases W
 obtain⟨u,rfl,ru⟩:=Y.one
 cases ru
 obtain⟨z,M,n,r,hl,e⟩:=I.lstM U
 obtain⟨z2,J,n2,r2,a0,e2⟩:=I.lstM Z
 have S:M.toArray.size+J.toArray.size<=sizeLine:=by rw [size_toArray,size_toArray];omega
 have O:¬(!M.toArray.isEmpty&&Builtin.List.listTooLong (M.toArray.size+J.toArray.size))=true:=by
  rw [Aan S,Bool.and_false]
  exact Bool.false_ne_true
 refine call_meets F.slot_list_extend ⟨_,e,rfl⟩ F.entry_list_extend (F.args_list_extend_2 _ _)
  (AutoSeq1.list_extend_list_list_0 l M.toArray n b J.toArray n2 O (by rw [size_toArray];omega) (by omega)) ⟨e,e2,?_⟩
 refine⟨.non,_,I.lset (its':=M++J) U e (by simp) (r.append r2) ?_,rfl,q⟩
 rw [length_append]
 omega
noncomputable def Avq:V->List V->Hp->VK->Prop:=fun x vs H Q=>∃l xs y,x= .ref l/\vs=[]/\H l=some (.lst xs)/\xs[xs.length-1]? =some y/\Q y (upd H l (.lst xs.dropLast))
theorem Akj:MtM X "list.pop" Avq:=by
 intro pins s σ H x vs v us Q I U W h
 obtain⟨l,xs,y,rfl,rfl,S,Y,q⟩:=h
 cases U
 have M:=W.zero
 subst M
 obtain⟨z,J,n,r,Z,e⟩:=I.lstM S
 obtain⟨u,hu,ru⟩:=r.get Y
 have O:J.toArray[J.toArray.size-1]? =some u:=by
  show J.toArray[J.length-1]? =some u
  rw [<-Array.getElem?_toList,<-Z]
  exact hu
 refine call_meets F.slot_list_pop ⟨_,e,rfl⟩ F.entry_list_pop (F.args_list_pop_1 _) (MeetsSeq.list_pop_last l J.toArray n u O (by rw [size_toArray];omega)) ⟨e,?_⟩
 refine⟨y,_,I.lset (its':=J.dropLast) S e ?_ r.dropLast ?_,ru,q⟩
 . show J.toArray.eraseIdxIfInBounds (J.toArray.size-1)=J.dropLast.toArray
   rw [size_toArray,List.eraseIdxIfInBounds_toArray,Abj]
 . rw [length_dropLast]
   omega
noncomputable def Aq7:V->List V->Hp->VK->Prop:=fun x vs H Q=>∃l xs,x= .ref l/\vs=[]/\H l=some (.lst xs)/\Q .non (upd H l (.lst []))
theorem Aie:MtM X "list.clear" Aq7:=by
 intro pins s σ H x W v Y Q I S U h
 obtain⟨l,xs,rfl,rfl,O,q⟩:=h
 cases S
 have J:=U.zero
 subst J
 obtain⟨z,M,n,r,Z,e⟩:=I.lstM O
 refine call_meets F.slot_list_clear ⟨_,e,rfl⟩ F.entry_list_clear (F.args_list_clear_1 _) (AutoSeq1.list_clear_list_0 l M.toArray n (by rw [size_toArray];omega)) ⟨e,?_⟩
 exact⟨.non,_,I.lset (its':=[]) (ys:=[]) O e rfl .nil (zero_le _),rfl,q⟩
noncomputable def Avo:R2:=fun x y H Q=>∃l b xs zs,x= .ref l/\y= .ref b/\H l=some (.lst xs)/\H b=some (.lst zs)/\xs.length+zs.length<=sizeLine/\∀p,H p=none->Q (.ref p) (upd H p (.lst (xs++zs)))
theorem Aqf:OpR X (binaryOp .Add) Avo:=by
 intro pins s σ H x y v u Q I O S h
 obtain⟨l,b,xs,zs,rfl,rfl,U,W,hz,q⟩:=h
 cases O
 cases S
 obtain⟨z,M,n,r,hl,e⟩:=I.lstM U
 obtain⟨z2,J,n2,Y,Z,e2⟩:=I.lstM W
 refine PySem.P.add_list e e2 ?_ (by rw [size_toArray,size_toArray];omega)
 have ea:M.toArray++J.toArray=(M++J).toArray:=by simp
 rw [ea]
 exact⟨.ref _,_,I.lnew (t':=s.toks) (r.append Y) (by rw [length_append];omega),rfl,q _ I.fresh⟩
noncomputable def Avr:R2:=fun x y H Q=>∃l k xs,x= .ref l/\y= .int k/\H l=some (.lst xs)/\ -(2^63)<=k/\k<2^63/\xs.length*k.toNat<=sizeLine/\
 ∀p,H p=none->Q (.ref p) (upd H p (.lst (replicate k.toNat xs).flatten))
theorem len_rep {α:Type} (xs:List α) (k:Nat):(replicate k xs).flatten.length=k*xs.length:=by
 induction k with
 | zero=>simp
 | succ k z=>rw [replicate_succ,flatten_cons,length_append,z,succ_mul,add_comm]
theorem Akq:OpR X (binaryOp .Mult) Avr:=by
 intro pins s σ H x y v u Q I rx ry h
 obtain⟨l,k,xs,rfl,rfl,hH,h1,h2,hz,q⟩:=h
 cases rx
 obtain⟨t,rfl⟩:=ry
 obtain⟨z,J,n,r,hl,e⟩:=I.lstM hH
 have O:J.toArray.size*k.toNat<=sizeLine:=by rw [size_toArray,<-hl];exact hz
 have S:¬J.toArray.size*k.toNat>(2^63-1)/8:=by
  have:(sizeLine:Nat)<=(2^63-1)/8:=by decide
  omega
 have W:¬(!Builtin.List.listFitsIndex k)=true:=by
  rw [fitsIndex_both h1 h2]
  exact Bool.false_ne_true
 have M:¬Builtin.List.listTooLong (J.toArray.size*k.toNat)=true:=by
  rw [Aan O]
  exact Bool.false_ne_true
 have Y:foldl (fun x1 Z=>x1++Z) #[] (replicate (if J.toArray.isEmpty=true then 0 else k.toNat) J.toArray)=(replicate k.toNat J).flatten.toArray:=by
  have f0:∀m:Nat,foldl (fun x1 Z=>x1++Z) #[] (replicate m J.toArray)=(replicate m J).flatten.toArray:=fun m=>by
   have:=foldl_rep J m []
   rw [nil_append]at this
   exact this
  rw [f0]
  cases J with
  | nil=>simp
  | cons a r'=>rw [if_neg (by simp)]
 refine wpAny_binaryOp_repeat_ref (T:="list") (U:="int") (by decide) ⟨_,e,rfl⟩ (fun s'=>typeIs_int s' k t) noFill_list_mul F.fills_int_mul F.slot_int_rmul repeat_list F.slot_int_index.lookup
  (call_meets F.slot_int_rmul (typeIs_int s k t) F.entry_int_rmul (F.args_int_rmul_2 _ _) (int___rmul___int_list k t l J.toArray n)
    ⟨e,rfl,⟨_,e,rfl⟩,call_meets F.slot_list_mul ⟨_,e,rfl⟩ F.entry_list_mul (F.args_list_mul_2 _ _) (AutoListH.list___mul___list_int_3 l J.toArray n k t W S M) ⟨e,?_⟩⟩)
 rw [Y]
 exact⟨.ref _,_,I.lnew (t':=s.toks) (r.rep k.toNat) (by rw [len_rep,Nat.mul_comm];exact hz),rfl,q _ I.fresh⟩
end
end L2
namespace Att
open PySem PySem.W PySem.Calls PyProof.Rows
theorem Qt {P:Params}{h:Heap}:∀(ns:List Int) (z:List Value),WellAll P h z (ns.map WData.int)->IntsAre z ns:=by
 intro ns
 induction ns with
 | nil=>
   intro z w
   rw [map_nil]at w
   cases w
   exact .nil
 | cons n ns I=>
   intro z w
   rw [map_cons]at w
   cases w with
   | cons a b=>
     cases a
     exact .cons _ _ (I _ b)
theorem Agj {l:OpenLaw}{n:Nat} (hn:l.most=some n) {P:Params}{h:Heap}{args:List WData}{z:List Value}
 (I:l.row.toRowW.claim.pre args=true) (U:WellAll P h z args):
 ∃a Y ns,z=[Value.ref a]/\args=[WData.list (ns.map WData.int)]/\h.get? a=some { cls:= .type "list",data:= .seq Y.toArray}/\IntsAre Y ns/\ns.length<=n:=by
 have W:WShape.hasAll [] args [.list .int]=true:=(pre_splitW I).1
 have Z:l.pre.holds [] { args:=args}=true:=(pre_splitW I).2
 obtain⟨d,r,rfl,h1,h2⟩:=hasAllW_cons W
 obtain rfl:=hasAllW_nil h2
 obtain⟨xs,rfl,h3⟩:=hasW_list h1
 obtain⟨ns,rfl⟩:=items_int h3
 have J:ns.length<=n:=by
  unfold OpenLaw.pre at Z
  have O:(WTm.not (.lt (.lit (.int (n:Int))) (.len (.arg 0)))).holds [] { args:=[.list (ns.map .int)]}=true:=by
   have O:=(holds_andW Z).1
   rw [hn]at O
   exact O
  have S:=condW_of O (w_not (w_lt w_lit (w_len_list (w_arg rfl))))
  rw [length_map]at S
  refine le_of_not_lt fun q=> ?_
  have q':(n:Int)<((ns.length:Nat):Int):=by omega
  first
   | (rw [decide_eq_true q']at S;exact absurd S (by decide))
   | (simp at S;omega)
 cases U with
 | cons w1 w2=>
   cases w2
   cases w1 with
   | list ho M=>exact⟨_,_,ns,rfl,rfl,ho,Qt ns _ M,J⟩
theorem Afv (l:OpenLaw) (args:List WData):l.row.toRowW.claim.post args (.bool true) args=true:=
 postW_of (r:=l.row.toRowW) (X:=(true==true))
  (show WShape.has [] (.bool true) .bool=true by first | rfl | decide | simp [WShape.has,WShape.arms,WShape.armsAll])
  (show(WTm.eq .res (.lit (.bool true))).value [] { args:=args,res:=some (.bool true),after:=args}=some (.bool (true==true))from w_eq_bool (w_res rfl) w_lit) rfl
theorem X5 {l:OpenLaw}{n:Nat}{q:Program}{I:List Str}{XP:(Str->Option Value)->Heap->Prop}{YP:World->Heap->Prop}{d:DefRec}
 (hn:l.most=some n) (a1:d.params.defaults=[])
 (call:∀(w:World) (J z:Shared) (mg mb:Str->Option Value) (U:Addr) (o:Obj) (pm cd M:Value) (a:Addr) (S:List Value) (ns:List Int),
   Ground q I [] XP w J mg mb z.heap->YP w z.heap->
   z.heap.get? U=some o->o.data= .func (docDef d.name d.params d.body d.scope pm cd M)->z.heap.CodeRec cd d.name->mg d.name=some (.ref U)->
   z.heap.get? a=some { cls:= .type "list",data:= .seq S.toArray}->IntsAre S ns->ns.length<=n->z.gens= #[]->
   codeAny (model l.prog w) callerA (.call (.ref U) ⟨[.ref a],[]⟩) (fun r s'=>r= .ok (.ret (.bool true))/\OldK z.heap s'.heap/\s'.os=z.os/\AllBare s'.gens) z):
 WalkO q I XP YP l.row.toRowW d [] (fun f S=>PySem.call f S):=by
 intro w J z mg mb G Y U o pm cd M dV kV ho hd a2 hD a3 hg args a5 as W a6 a7 a4 a8
 obtain rfl:dV= .none:=Dflts.none hD a1
 obtain rfl:kV= .none:=Dflts.noKw hD
 obtain⟨a,S,ns,rfl,rfl,Z,O,a0⟩:=Agj hn W a4
 refine enter_call (codeAny_mono (call w J z mg mb U o pm cd M a S ns G Y ho (fd_plain hd) a2 a3 Z O a0 hg) fun r s' hq=> ?_)
 obtain⟨rfl,h2,h3,h4⟩:=hq
 exact⟨.inl ⟨.bool true,.bool true,[],rfl,fun _=>rfl,.bool true,Afv l _,fun _=>⟨Pairwise.nil,fun _ hm=>(nomatch hm)⟩⟩,h2,h3,h4⟩
end Att
namespace L2
open PySem PySem.Spec PyProof.Rows
theorem Xn:∀ {z:List Value}{ns:List Int},IntsAre z ns->Vals (ns.map V.int) z
 | _,_,.nil=> .nil
 | _,_,.cons n t h=> .cons ⟨t,rfl⟩ (Xn h)
noncomputable def Only (H:Hp):Prop:=∀b,H b=none\/∃o xs,H b=some (.frz o (.lst xs))
end L2
/-THE LAST THEOREM (shape;LID,My.*are yours):
 My.Adr:a structure of the addresses that your layer names (classes,functions);My.Txt K t:a structure (Prop) of the equations over K;
 My.txt_mk:{K}{implicit addresses ..} (e1:nsIn K mainGlobals "law"=some (some (.ref f))) (e2:K.lookup f=some ⟨oc,od,.func (fnOf "law" "law" params body scope dV kV doc pm an cdv ct),sl⟩) (e3:codeIn K cdv "law"=true) .. :∃t,My.Txt K t
set_option maxRecDepth 100000 in
set_option maxHeartbeats 0 in
theorem PySem.Challenge.cw_LID_holds : PySem.Challenge.rw_LID.Holds := by
 w_on;o_law;k_head;(case hw=>w_witness2)
 k_fill
 refine L2.walk_of (l:=PySem.Challenge.rw_LID) (n:=63) (k:=40) (x:="script") (CX:=fun w=> ..) (sp:=fun _=>My.sp_law) rfl (by decide) rfl ⟨rfl,by decide,by decide⟩ (fun w h Y=>kIn_of Y) ?F ?S ?C
 case F=>
  intro w mg fa h Z G O
  have T:∃t,My.Txt (L2.KOf Z) t:=by
   dsimp only [L2.KOf]                          --K must stand as «<heap const>w.params» for z
   refine' My.txt_mk ?e1 ?e2 ?e3 ..
   (case e1=>PySem.W.k_is)                    --in J order:a name->its address->its object->its parts
   (case e2=>PySem.W.k_is)
   ..
  obtain⟨t,T⟩:=T
  have e0:=O.symm.trans (mg_of Z G T.law)
  cases e0                                       --fa is J law's own address
  exact⟨_,fun s u=> .of_eq rfl,fun base U nb=>My.law_fn T U nb⟩     --if «.of_eq rfl» comes too early:refine' ⟨_,?b,fun base U nb=>My.law_fn T U nb⟩;exact fun s u=> .of_eq rfl
 case S=>exact fun w H a ns hl hO hS=> ..
 case C=>exact ..
(J M z has no I:write z)-/
namespace L2
open PySem PySem.Spec PyProof.Rows
noncomputable def Lr (s:Stmt):Arguments:=match s with
 | .FunctionDef _ a _ _ _ _ _ _ _ _=>a
 | _=>{ posonlyargs:=[],args:=[],vararg:=none,kwonlyargs:=[],kw_defaults:=[],kwarg:=none,defaults:=[]}
noncomputable def Jh (s:Stmt):List Stmt:=match s with
 | .FunctionDef _ _ b _ _ _ _ _ _ _=>b
 | _=>[]
noncomputable def Ar (s:Stmt):Scope:=match s with
 | .FunctionDef _ _ _ _ _ _ sc _ _ _=>sc
 | _=>{ kind:= .function,names:=[],isGenerator:=false,isCoroutine:=false}
noncomputable abbrev CX0:CXT:=fun _ _ _ _ _ _=>False
noncomputable abbrev E0:XK:=fun _ _ _=>False
theorem Aqj {X:Cx}:Passes CX0 X E0:=fun _ _ _ _ _ _ _ h=>h.elim
structure Fun (K:Frag) (x qual:Str) (st:Stmt) (f:Addr) (fd:FuncData):Prop where
 ex:∃(oc:Value) (od:Option Addr) (kV doc pm:Value) (an:Option Addr) (cdv ct:Value) (osl:Array (Option Value)),
  fd=PySem.W.fnOf x qual (Lr st) (Jh st) (Ar st) .none kV doc pm an cdv ct/\K.lookup f=some ⟨oc,od,.func fd,osl⟩/\PySem.W.codeIn K cdv qual=true
 kp:keepIn K (.ref f)=true
section
variable {P:Program}{w:World}{K:Frag}{mg:Str->Option Value}{base:Heap}
theorem Fun.ok {x qual:Str}{st:Stmt}{f:Addr}{fd:FuncData}{N ps:List Str}{k:Nat}{sp:Sp} (F:Fun K x qual st f fd) (S:Ax N ps (Ar st)) (len:∀I H Q E,sp I H Q E->I.length=ps.length)
 (J:∀(z:Value) (A:Around) (outer:List Env) (s:Shared) (H:Hp) (I:List V) (Q:VK) (E:XK),J0 k (A.deeper (envOfC qual (Ar st) s.heap.objs.size f z))->sp I H Q E->
   ∃t,PSs (Qn CX0 P w K mg base N qual (Ar st) f z A outer s H E).nox (Jh st) t/\t { nx:=fun _ H'=>Q .non H',rt:=Q} (start N I) H):O4 P w K mg base CX0 (k+1) f fd ps sp:=by
 obtain⟨oc,od,kV,U,pm,an,z,ct,W,rfl,Y,M⟩:=F.ex
 refine Apd Y M S len fun A outer s H I Q E Z O=> ?_
 obtain⟨t,h,q⟩:=J z A outer s H I Q E Z O
 exact⟨t,h.nox,q⟩
theorem Fun.binds {x qual:Str}{st:Stmt}{f:Addr}{fd:FuncData}{ps:List Str} (F:Fun K x qual st f fd)
 (h:∀(kV z pm:Value) (J:Option Addr) (I ct:Value) (M:List Value),M.length=ps.length->bindArgs (PySem.W.fnOf x qual (Lr st) (Jh st) (Ar st) .none kV z pm J I ct) ⟨M,[]⟩=pure (ps.zip M)):Binds K fd ps []:=by
 obtain⟨U,Y,kV,z,pm,J,I,ct,O,rfl,Z,S⟩:=F.ex
 exact .all (h kV z pm J I ct)
theorem Akc {x qual:Str}{st:Stmt}{f:Addr}{O:Value}{S M:Option Addr}{J:Array (Option Value)}{kV I pm z ct:Value} (l:K.lookup f=some ⟨O,S,.func (PySem.W.fnOf x qual (Lr st) (Jh st) (Ar st) .none kV I pm M z ct),J⟩)
 (c:PySem.W.codeIn K z qual=true) (k:keepIn K (.ref f)=true):Fun K x qual st f (PySem.W.fnOf x qual (Lr st) (Jh st) (Ar st) .none kV I pm M z ct):=⟨⟨O,S,kV,I,pm,M,z,ct,J,rfl,l,c⟩,k⟩
end
section
variable {X:Cx}
theorem pv (i:Nat) {x:Str}{pos:Pos} (I:X.N[i]? =some x:=by rfl) (hv:Vis X.env.scope x:=by first | exact Or.inl rfl | exact Or.inr (Or.inl rfl) | exact Or.inr (Or.inr rfl)) (J:(x==("__debug__":Str))=false:=by decide)
 (z:(x==("__classdict__":Str))=false:=by decide):PE X (.Name x pos) (Ak8 i):=Aqt I hv J z
end
noncomputable def Same (H H':Hp):Prop:=∀b o,H b=some o->H' b=some o
theorem Same.refl (H:Hp):Same H H:=fun _ _ h=>h
theorem Same.trans {H H1 H2:Hp} (a:Same H H1) (b:Same H1 H2):Same H H2:=fun c o h=>b c o (a c o h)
theorem Same.free {H H':Hp} (e:Same H H') {l:Addr} (h:H' l=Option.none):H l=Option.none:=by
 cases q:H l with
 | none=>rfl
 | some o=>
   rw [e l o q]at h
   cases h
theorem Same.seq {K:Frag}{H H':Hp}{a:Addr}{xs:List V} (e:Same H H') (h:SqL K H a xs):SqL K H' a xs:=by
 rcases h with(h | ⟨o,h⟩) | h
 . exact .inl (.inl (e _ _ h))
 . exact .inl (.inr ⟨o,e _ _ h⟩)
 . exact .inr h
noncomputable def Cal (P:Program) (w:World) (K:Frag) (mg:Str->Option Value) (base:Heap) (k:Nat) (x:Str) (ps:List Str) (sp:Sp):Prop:=
 ∃f fd,O4 P w K mg base CX0 k f fd ps sp/\mg x=some (.ref f)/\keepIn K (.ref f)=true/\Binds K fd ps []
structure Df (K:Frag) (mg:Str->Option Value) (x:Str) (st:Stmt) (ps:List Str) (f:Addr) (fd:FuncData):Prop where
 fn:Fun K x x st f fd
 bd:Binds K fd ps []
 at':mg x=some (.ref f)
theorem Df.cal {P:Program}{w:World}{K:Frag}{mg:Str->Option Value}{base:Heap}{k:Nat}{x:Str}{st:Stmt}{ps:List Str}{f:Addr}{fd:FuncData}{sp:Sp}
 (F:Df K mg x st ps f fd) (G:O4 P w K mg base CX0 k f fd ps sp):Cal P w K mg base k x ps sp:=⟨f,fd,G,F.at',F.fn.kp,F.bd⟩
theorem Air {X:Cx}{k:Nat}{x:Str}{ps:List Str}{sp:Sp}{p pos:Pos}{e:Expr}{es:List Expr}{t:TA}
 (C:Cal X.prog X.w X.K X.mg X.base k x ps sp) (J:J0 k X.A) (M:PA X (e::es) t) (O:Gl X x:=by rfl) (z:(x==("__debug__":Str))=false:=by decide)
 (S:starEach (e::es) X.env=(false,eval e X.env)::starEach es X.env:=by rfl) (I:(backTo pos (starEach es X.env)).any (·.1)=false:=by rfl):
 PE X (.Call (.Name x p) (e::es) [] pos) (Vu sp [] E0 t):=by
 obtain⟨f,fd,G,a,b,c⟩:=C
 exact Afp G J O a b c .nil Aqj M z S I
noncomputable def Sz (n:Nat) (a:Int):Prop:=a.natAbs<2^n
theorem Sz.mono {m n:Nat}{a:Int} (h:Sz m a) (l:m<=n):Sz n a:=lt_of_lt_of_le h (pow_le_pow_right (by decide) l)
theorem Sz.mul {m n:Nat}{a b:Int} (h:Sz m a) (g:Sz n b):Sz (m+n) (a*b):=by
 unfold Sz at*
 rw [natAbs_mul,pow_add]
 exact Nat.mul_lt_mul'' h g
theorem Sz.add {m n:Nat}{a b:Int} (h:Sz m a) (g:Sz n b):Sz (max m n+1) (a+b):=by
 have h1:Sz (max m n) a:=h.mono (Nat.le_max_left _ _)
 have h2:Sz (max m n) b:=g.mono (Nat.le_max_right _ _)
 unfold Sz at*
 have:=natAbs_add_le a b
 rw [Nat.pow_succ]
 omega
theorem Sz.neg {n:Nat}{a:Int} (h:Sz n a):Sz n (-a):=by
 unfold Sz at*
 rw [Int.natAbs_neg]
 exact h
theorem Sz.sub {m n:Nat}{a b:Int} (h:Sz m a) (g:Sz n b):Sz (max m n+1) (a-b):=by
 rw [Int.sub_eq_add_neg]
 exact h.add g.neg
theorem Sz.of_abs {n:Nat}{a b:Int} (h:Sz n b) (l:a.natAbs<=b.natAbs):Sz n a:=lt_of_le_of_lt l h
theorem Sz.mulOk {m n:Nat}{a b:Int} (h:Sz m a) (g:Sz n b) (l:m+n<=134217728):IntMulOk a b:=
 IntMulOk.of_le (PySem.intBits_le_iff.mpr h) (PySem.intBits_le_iff.mpr g) l
theorem Sz.log2 {n:Nat}{a:Int} (h:Sz n a) (z:a≠0) (l:n<=9000):a.natAbs.log2<9000:=
 lt_of_lt_of_le ((Nat.log2_lt (by omega)).mpr h) l
section
variable {X:Cx}{a b:Expr}{ta tb:TE}{pos:Pos}
theorem Bo:OpR X (binaryOp .Mult) (rI IntMulOk fun i j=> .int (i*j)):=opI fun _ _ _ _ _ _ _ z q=>mul_int q z
noncomputable def Aot (_ j:Int):Prop:=j≠0/\j.natAbs.log2<9000
theorem U7:OpR X (binaryOp .FloorDiv) (rI Aot fun i j=> .int (i.fdiv j)):=opI fun _ _ _ _ _ _ _ z q=>floordiv_int z.1 q (.inl (PyProof.noPylong_of_log2 z.2))
end
mutual
inductive RdD (K:Frag) (H:Hp):V->PyData->Prop where
 | non:RdD K H .non .none
 | bl (b:Bool):RdD K H (.bl b) (.bool b)
 | int (i:Int):RdD K H (.int i) (.int i)
 | str (x:Str):RdD K H (.str x) (.str x)
 | tup {a:Addr}{xs:List V}{ds:List PyData}:SqT K H a xs->Abb K H xs ds->RdD K H (.ref a) (.tuple ds)
 | lst {a:Addr}{xs:List V}{ds:List PyData}:SqL K H a xs->Abb K H xs ds->RdD K H (.ref a) (.list ds)
inductive Abb (K:Frag) (H:Hp):List V->List PyData->Prop where
 | nil:Abb K H [] []
 | cons {x:V}{d:PyData}{xs:List V}{ds:List PyData}:RdD K H x d->Abb K H xs ds->Abb K H (x::xs) (d::ds)
end
section
variable {X:Cx}{pins:List (Addr × Obj)}{σ:St}{H:Hp}{s:Shared}
mutual
theorem RdD.reads (I:Inv X pins σ H s):∀ {x:V}{d:PyData}{u:Value},RdD X.K H x d->RelV x u->∃as,Reads s.heap u d as
 | _,_,_,.non,r=>by cases r;exact⟨_,.none⟩
 | _,_,_,.bl b,r=>by cases r;exact⟨_,.bool b⟩
 | _,_,_,.int i,r=>by obtain⟨t,rfl⟩:=r;exact⟨_,.int i t⟩
 | _,_,_,.str x,r=>by obtain⟨t,rfl⟩:=r;exact⟨_,.str x t⟩
 | _,_,_,.tup hq hr,r=>by
   cases r
   obtain⟨its,rv,pl,hz⟩:=I.tuple hq
   obtain⟨as,q⟩:=Abb.reads I hr rv
   obtain⟨o,ho,hc,n,hd⟩:=pl
   exact⟨_,.tuple ho hc hd (by simpa using q)⟩
 | _,_,_,.lst hq hr,r=>by
   cases r
   obtain⟨its,rv,pl,hz⟩:=I.list hq
   obtain⟨as,q⟩:=Abb.reads I hr rv
   obtain⟨o,ho,hc,n,hd⟩:=pl.isList
   exact⟨_,.list ho hc hd (by simpa using q)⟩
theorem Abb.reads (I:Inv X pins σ H s):∀ {xs:List V}{ds:List PyData}{us:List Value},Abb X.K H xs ds->Vals xs us->∃as,ReadsAll s.heap us ds as
 | _,_,_,.nil,r=>by cases r;exact⟨_,.nil⟩
 | _,_,_,.cons h t,r=>by
   cases r with
   | cons r1 r2=>
     obtain⟨as,q⟩:=RdD.reads I h r1
     obtain⟨bs,p⟩:=Abb.reads I t r2
     exact⟨_,.cons q p⟩
end
end
theorem Abb.ints {K:Frag}{H:Hp}:∀ns:List Int,Abb K H (ns.map V.int) (ns.map PyData.int)
 | []=> .nil
 | n::r=> .cons (.int n) (Abb.ints r)
theorem RdD.ints {K:Frag}{H:Hp}{a:Addr}{ns:List Int} (h:SqT K H a (ns.map V.int)):RdD K H (.ref a) (.tuple (ns.map PyData.int)):= .tup h (.ints ns)
theorem RdD.lints {K:Frag}{H:Hp}{a:Addr}{ns:List Int} (h:SqL K H a (ns.map V.int)):RdD K H (.ref a) (.list (ns.map PyData.int)):= .lst h (.ints ns)
theorem O9:∀ns ms:List Int,PyData.eqvAll (ns.map PyData.int) (ms.map PyData.int)=decide (ns=ms)
 | [],[]=>by simp [PyData.eqvAll]
 | [],_::_=>by simp [PyData.eqvAll]
 | _::_,[]=>by simp [PyData.eqvAll]
 | a::r,b::t=>by
   simp only [map_cons,PyData.eqvAll,PyData.eqv,O9 r t]
   by_cases h:a=b<;>by_cases h':r=t<;>simp [h,h']
theorem shaped_ints (ns:List Int):SeqAt.shaped (.tuple (ns.map PyData.int))=true:=by
 simp [SeqAt.shaped,PyData.canLay0,PyData.depth,ke_canLayAll0,ke_depthAll]
section
variable {X:Cx}
noncomputable def Atg (K:Frag) (f:Bool->Bool):R2:=fun x y H Q=>∃d e,RdD K H x d/\RdD K H y e/\SeqAt.shaped d=true/\SeqAt.shaped e=true/\Q (.bl (f (PyData.eqv d e))) H
theorem Ako (z:X.A.units+64<cLine):OpR X (compareOp .Eq) (Atg X.K fun b=>b):=by
 intro pins s σ H x y v u Q I J M h
 obtain⟨d,e,O,S,U,W,q⟩:=h
 obtain⟨as,Y⟩:=RdD.reads I O J
 obtain⟨bs,Z⟩:=RdD.reads I S M
 exact eq_dataH Y Z U W z ⟨.bl _,H,I,rfl,q⟩
theorem Afk (z:X.A.units+64<cLine):OpR X (compareOp .NotEq) (Atg X.K fun b=> !b):=by
 intro pins s σ H x y v u Q I J M h
 obtain⟨d,e,O,S,U,W,q⟩:=h
 obtain⟨as,Y⟩:=RdD.reads I O J
 obtain⟨bs,Z⟩:=RdD.reads I S M
 exact ne_dataH Y Z U W z ⟨.bl _,H,I,rfl,q⟩
noncomputable def Ath (K:Frag) (f:Bool->Bool):R2:=fun x y H Q=>∃(a b:Addr) (ns ms:List Int),x= .ref a/\y= .ref b/\SqT K H a (ns.map V.int)/\SqT K H b (ms.map V.int)/\Q (.bl (f (decide (ns=ms)))) H
theorem Ka (z:X.A.units+64<cLine):OpR X (compareOp .Eq) (Ath X.K fun b=>b):=by
 intro pins s σ H x y v u Q I J M h
 obtain⟨a,b,ns,ms,rfl,rfl,O,S,q⟩:=h
 exact Ako z pins s σ H _ _ v u Q I J M ⟨_,_,.ints O,.ints S,shaped_ints _,shaped_ints _,by rw [PyData.eqv,O9];exact q⟩
theorem Afl (z:X.A.units+64<cLine):OpR X (compareOp .NotEq) (Ath X.K fun b=> !b):=by
 intro pins s σ H x y v u Q I J M h
 obtain⟨a,b,ns,ms,rfl,rfl,O,S,q⟩:=h
 exact Afk z pins s σ H _ _ v u Q I J M ⟨_,_,.ints O,.ints S,shaped_ints _,shaped_ints _,by rw [PyData.eqv,O9];exact q⟩
theorem Ml:Hv X (.builtin "isinstance") (fun xs H Q=>∃x t T b,xs=[x,.ty T]/\Xp X.K H x t/\kitOne X.K t (.type T)=some b/\Q (.bl b) H):=by
 intro pins s σ H xs S Q I r h
 obtain⟨x,t,T,b,rfl,z,J,q⟩:=h
 obtain⟨u,c,rfl,M,O⟩:=vals2 r
 cases O
 exact Aeg I M z J fun tk=>⟨.bl b,H,I.tok tk,rfl,q⟩
end
theorem Same.tup {K:Frag}{H H':Hp}{a:Addr}{xs:List V} (e:Same H H') (h:SqT K H a xs):SqT K H' a xs:=by
 rcases h with(h | ⟨o,h⟩) | h
 . exact .inl (.inl (e _ _ h))
 . exact .inl (.inr ⟨o,e _ _ h⟩)
 . exact .inr h
theorem Same.upd {H:Hp}{p:Addr} (h:H p=none) (o:HO):Same H (upd H p o):=fun b u q=>by
 rw [Cr (Cw q h)]
 exact q
section
variable {X:Cx}{K:Frag}{σ:St}{H:Hp}{Q:VK}{D:Ends}{B:Bool->Hp->Prop}
theorem Auy {t u:TS}:Aso t u D σ H=t { D with nx:=u D} σ H:=rfl
theorem Ar7:Aob D σ H=D.nx σ H:=rfl
theorem Auk {c:TT}{t u:TS}:Atv c t u D σ H=c σ H (fun b H1=>if b=true then t D σ H1 else u D σ H1):=rfl
theorem Auw {te:TE}:At0 te D σ H=te σ H D.rt:=rfl
theorem Arz {te:TE}:Aoa te D σ H=te σ H (fun _ H1=>D.nx σ H1):=rfl
theorem At8 {te:TE}{g:TG}:Aje te g D σ H=te σ H (fun x H1=>g x σ H1 D.nx):=rfl
theorem Zr {i:Nat}{v:V}{R:St->Hp->Prop}:Qp i v σ H R=R (σ.set i (some v)) H:=rfl
theorem Auu {i j:Nat}{ta:TA}:Atz i j ta D σ H=ta σ H (fun z H1=>∃v w,z=[v,w]/\D.nx ((σ.set i (some v)).set j (some w)) H1):=rfl
theorem Ase {v:V}{r:St}:Ak8 0 (some v::r) H Q=Q v H:=propext ⟨fun⟨_,e,h⟩=>by cases e;exact h,fun h=>⟨v,rfl,h⟩⟩
theorem Asf {i:Nat}{o:Option V}{r:St}:Ak8 (i+1) (o::r) H Q=Ak8 i r H Q:=rfl
theorem z_c {v:V}:tC v σ H Q=Q v H:=rfl
theorem Aut {r:R2}{ta tb:TE}:tOp r ta tb σ H Q=ta σ H (fun x H1=>tb σ H1 fun y H2=>r x y H2 Q):=rfl
theorem Av9 {r:V->Hp->VK->Prop}{ta:TE}:tUn r ta σ H Q=ta σ H (fun x H1=>r x H1 Q):=rfl
theorem Av5 {C:Int->Int->Prop}{g:Int->Int->V}{i j:Int}:rI C g (.int i) (.int j) H Q=(C i j/\Q (g i j) H):=
 propext ⟨fun⟨_,_,e,f,h⟩=>by cases e;cases f;exact h,fun h=>⟨i,j,rfl,rfl,h⟩⟩
theorem Auv {g:Int->Int->V}{i j:Int}:rI0 g (.int i) (.int j) H Q=Q (g i j) H:=
 propext ⟨fun⟨_,_,e,f,h⟩=>by cases e;cases f;exact h,fun h=>⟨i,j,rfl,rfl,h⟩⟩
theorem Av6 {g:Int->V}{i:Int}:rU g (.int i) H Q=Q (g i) H:=propext ⟨fun⟨_,e,h⟩=>by cases e;exact h,fun h=>⟨i,rfl,h⟩⟩
theorem Auc {i j:Int}:rEq (.int i) (.int j) H Q=Q (.bl (decide (i=j))) H:=by
 unfold rEq
 simp only [Aos,V.int.injEq,true_and]
theorem Auq {i j:Int}:rNe (.int i) (.int j) H Q=Q (.bl (!decide (i=j))) H:=by
 unfold rNe
 simp only [Aos,V.int.injEq,true_and]
theorem Aub {i j:Bool}:rEq (.bl i) (.bl j) H Q=Q (.bl (decide (i=j))) H:=by
 unfold rEq
 simp only [Aos,V.bl.injEq,true_and]
theorem Aup {i j:Bool}:rNe (.bl i) (.bl j) H Q=Q (.bl (!decide (i=j))) H:=by
 unfold rNe
 simp only [Aos,V.bl.injEq,true_and]
theorem Ag7 {t:TE}:Aof t σ H B=t σ H (fun x H'=>∃k,x= .bl k/\B k H'):=rfl
theorem Av8 {t:TE}:tB t σ H B=t σ H (fun x H'=>∃k,x= .bl k/\B k H'):=rfl
theorem Aue {b:Bool}{p:Bool->Prop}:(∃k,V.bl b= .bl k/\p k)=p b:=propext ⟨fun⟨_,e,h⟩=>by cases e;exact h,fun h=>⟨b,rfl,h⟩⟩
theorem Auh {b:Int}{p:Int->Prop}:(∃k,V.int b= .int k/\p k)=p b:=propext ⟨fun⟨_,e,h⟩=>by cases e;exact h,fun h=>⟨b,rfl,h⟩⟩
theorem Aud {a b:V}{p:V->V->Prop}:(∃v w,[a,b]=[v,w]/\p v w)=p a b:=propext ⟨fun⟨_,_,e,h⟩=>by cases e;exact h,fun h=>⟨a,b,rfl,h⟩⟩
theorem Ar0 {b:Int}{p:Int->Prop}:(∃k,[V.int b]=[.int k]/\p k)=p b:=propext ⟨fun⟨_,e,h⟩=>by cases e;exact h,fun h=>⟨b,rfl,h⟩⟩
theorem Ar1 {a b:Int}{p:Int->Int->Prop}:(∃i j,[V.int a,V.int b]=[.int i,.int j]/\p i j)=p a b:=propext ⟨fun⟨_,_,e,h⟩=>by cases e;exact h,fun h=>⟨a,b,rfl,h⟩⟩
theorem Aus {t:TT}:Aty t σ H B=t σ H (fun c H1=>B (!c) H1):=rfl
theorem At7 {t u:TT}:Atr t u σ H B=t σ H (fun c H1=>if c=true then u σ H1 B else B false H1):=rfl
theorem Av4 {t u:TT}:tOr t u σ H B=t σ H (fun c H1=>if c=true then B true H1 else u σ H1 B):=rfl
theorem Aru {ta tb:TE}:An9 ta tb σ H Q=ta σ H (fun x H1=>∃c,x= .bl c/\if c=true then tb σ H1 Q else Q (.bl false) H1):=rfl
theorem Ar8 {ta:TE}:Aoc ta σ H Q=ta σ H (fun x H1=>∃c,x= .bl c/\Q (.bl (!c)) H1):=rfl
theorem Av3 {t:TT}{ta tb:TE}:tIf t ta tb σ H Q=t σ H (fun c H1=>if c=true then ta σ H1 Q else tb σ H1 Q):=rfl
theorem Arv {sp:Sp}{dvs:List V}{E:XK}{t:TA}:Vu sp dvs E t σ H Q=t σ H (fun z H1=>sp (z++dvs) H1 Q E):=rfl
theorem Aur {R:List V->Hp->Prop}:Atx σ H R=R [] H:=rfl
theorem Arx {te:TE}{t:TA}{R:List V->Hp->Prop}:Ajf te t σ H R=te σ H (fun x H1=>t σ H1 fun xs H2=>R (x::xs) H2):=rfl
theorem Av1 {r:List V->Hp->VK->Prop}{t:TA}:tCB r t σ H Q=t σ H (fun z H1=>r z H1 Q):=rfl
theorem Auz {t:TA}:At2 t σ H Q=t σ H (fun xs H1=>xs.length<=sizeLine/\∀p,H1 p=none->Q (.ref p) (upd H1 p (.tup xs))):=rfl
theorem Auo {t:TA}:Atw t σ H Q=t σ H (fun xs H1=>xs.length<=sizeLine/\∀p,H1 p=none->Q (.ref p) (upd H1 p (.lst xs))):=rfl
theorem Bv {a:Addr}{xs:List V}{i:Int}{v:V} (h:SqT K H a xs) (e:atI xs i=some v) (q:Q v H):Aq8 K (.ref a) (.int i) H Q:=⟨a,xs,i,v,rfl,rfl,h,e,q⟩
theorem Lf {a:Addr}{xs:List V}{i:Int}{v:V} (h:SqL K H a xs) (e:atI xs i=some v) (q:Q v H):Asm K (.ref a) (.int i) H Q:=⟨a,xs,i,v,rfl,rfl,h,e,q⟩
end
noncomputable def Ahc (_ j:Int):Prop:=0<j/\j.natAbs.log2<9000
theorem Cy {X:Cx}:OpR X (binaryOp .FloorDiv) (rI Ahc fun i j=> .int (i/j)):=opI fun i j _ _ _ _ _ z q=>by
 have h:j≠0:=by have:=z.1;omega
 refine floordiv_int h ?_ (.inl (PyProof.noPylong_of_log2 z.2))
 rw [fdiv_eq_ediv_of_nonneg _ (le_of_lt z.1)]
 exact q
theorem Aro:(1:Nat)<=sizeLine:=by decide
theorem Arp:(2:Nat)<=sizeLine:=by decide
noncomputable def clF (env:Env) (cs:List (Str × Addr)) (x:Str × NameKind):List (Str × Addr):=if x.2== .free then(x.1,(env.cells.lookup x.1).getD 0)::cs else cs
theorem Abh {scope:Scope}{env:Env} (h:∀x∈scope.names,x.2= .free->∃c,env.cells.lookup x.1=some c):closureFor scope env=pure (scope.names.foldl (clF env) []):=by
 unfold closureFor
 have J:∀(names:List (Str × NameKind)) (z:List (Str × Addr)),(∀x∈names,x.2= .free->∃c,env.cells.lookup x.1=some c)->
  (forIn names z (fun(x:Str × NameKind) (U:List (Str × Addr))=>(if x.2== .free then(do let c<-cellOf env x.1;pure (ForInStep.yield ((x.1,c)::U)))else pure (ForInStep.yield U):Sem (ForInStep (List (Str × Addr))))))=(pure (names.foldl (clF env) z):Sem (List (Str × Addr))):=by
  intro names
  induction names with
  | nil=>intro z _;rfl
  | cons x r W=>
    intro z M
    rw [forIn_cons,foldl_cons]
    by_cases I:x.2= .free
    . obtain⟨c,Y⟩:=M x mem_cons_self I
      have e1:cellOf env x.1=pure c:=by unfold cellOf;rw [Y]
      have O:clF env z x=(x.1,c)::z:=by unfold clF;rw [I,Y];rfl
      rw [O,<-W _ fun y S=>M y (mem_cons_of_mem _ S)]
      rw [I,e1]
      rfl
    . have Z:(x.2==NameKind.free)=false:=by simpa using I
      have O:clF env z x=z:=by unfold clF;rw [Z];rfl
      rw [O,<-W _ fun y S=>M y (mem_cons_of_mem _ S),Z]
      rfl
 exact(congrArg (fun m=>m>>=fun r=>pure r) (J scope.names [] h)).trans (by rfl)
theorem Uj {env:Env}:∀(names:List (Str × NameKind)) (I:List (Str × Addr)) (y:Str) (c:Addr),(∀x∈names,x.2= .free->∃c,env.cells.lookup x.1=some c)->(names.foldl (clF env) I).lookup y=some c->I.lookup y=some c\/env.cells.lookup y=some c
 | [],_,_,_,_,h=> .inl h
 | x::r,I,y,c,hx,h=>by
   rw [foldl_cons]at h
   rcases Uj r _ y c (fun z O=>hx z (mem_cons_of_mem _ O)) h with h1 | h1
   . unfold clF at h1
     by_cases J:x.2= .free
     . obtain⟨d,M⟩:=hx x mem_cons_self J
       rw [J,M]at h1
       change lookup y ((x.1,d)::I)=some c at h1
       rw [lookup_cons]at h1
       cases hy:y==x.1 with
       | true=>
         rw [hy]at h1
         have:y=x.1:=by simpa using hy
         subst this
         exact .inr (M.trans h1)
       | false=>
         rw [hy]at h1
         exact .inl h1
     . have S:(x.2==NameKind.free)=false:=by simpa using J
       rw [S]at h1
       exact .inl h1
   . exact .inr h1
theorem X7 {env:Env}:∀(names:List (Str × NameKind)) (I:List (Str × Addr)) (y:Str),((∃x∈names,x.2= .free/\x.1=y)\/∃c,I.lookup y=some c)->∃c,(names.foldl (clF env) I).lookup y=some c
 | [],_,_,h=>by
   rcases h with⟨_,h,_⟩ | h
   . cases h
   . exact h
 | x::r,I,y,h=>by
   rw [foldl_cons]
   apply X7 r
   rcases h with⟨z,M,J,rfl⟩ | ⟨c,O⟩
   . rcases mem_cons.mp M with rfl | M
     . refine .inr ⟨(env.cells.lookup z.1).getD 0,?_⟩
       unfold clF
       rw [J]
       show lookup z.1 ((z.1,_)::I)=_
       rw [lookup_cons]
       simp
     . exact .inl ⟨z,M,J,rfl⟩
   . refine .inr ?_
     unfold clF
     by_cases J:x.2= .free
     . rw [J]
       show ∃c,lookup y ((x.1,_)::I)=some c
       rw [lookup_cons]
       cases y==x.1 with
       | true=>exact⟨_,rfl⟩
       | false=>exact⟨c,O⟩
     . have S:(x.2==NameKind.free)=false:=by simpa using J
       rw [S]
       exact⟨c,O⟩
theorem Wi {prog:Program}{w:World}{A:Around}{R:Result->Shared->Prop}{s:Shared}{elt target iter:Expr}{ifs:List Expr}{scope:Scope}{pos:Pos}{it a0:Value}{env:Env} (I:Nat->Shared->Prop)
 (a1:∀n s,I n s->wpAny (model prog w) A (pyNext it) (fun r J=>match r with
   | none=>R (.ok .next) J
   | some v=>wpAny (model prog w) A (letOwnedTupleGo target it v) (fun _ O=>wpAny (model prog w) A (assign target env v) (fun _ S=>
      wpAny (model prog w) A (forIn ifs true fun c r=>if r=true then do let ok<-isTrue c env (eval c env);pure (ForInStep.yield ok)else pure (ForInStep.yield r)) (fun ok M=>
       if ok=true then wpAny (model prog w) A (eval elt env) (fun x U=>
        wpAny (model prog w) A (call (.builtin "list.append") [a0,x]) (fun _ W=>∃m,m<n/\I m W) (fun _ _=>False) U) (fun _ _=>False) M
       else ∃m,m<n/\I m M) (fun _ _=>False) S) (fun _ _=>False) O) (fun _ _=>False) J) (fun _ _=>False) s)
 (n:Nat) (h:I n s):
 codeAny (model prog w) A (.compLoop (.ListComp elt [⟨target,iter,ifs,0⟩] scope pos) 0 it a0 env) R s:=by
 have no:∀(x:Value) (s':Shared),False->notedBy (model prog w) A env (fun e s'=>R (.error e) s') x s':=fun _ _ z=>z.elim
 refine codeAny_loop rfl I (fun n s hI=> ?_) n h
 show wpAny _ A ((compTurn (.ListComp elt [⟨target,iter,ifs,0⟩] scope pos) 0 it a0 env).onRaise (fun x=>do noteFrame x env;theTreesLotGoes x)) _ _ s
 refine wpAny_noted ?_
 rw [compTurn_list]
 refine wpAny_bind (wpAny_standAt (wpAny_bind (wpAny_mono (a1 n s hI) (fun r J Y=> ?_) no)))
 cases r with
 | none=>exact wpAny_pure Y
 | some v=>
   refine wpAny_bind (wpAny_mono Y (fun _ O a2=> ?_) no)
   refine wpAny_bind (wpAny_mono a2 (fun _ S a3=>wpAny_bind (wpAny_mono a3 (fun ok M Z=> ?_) no)) no)
   cases ok with
   | false=>exact wpAny_pure ⟨rfl,Z⟩
   | true=>
     exact wpAny_bind (wpAny_bind (wpAny_mono Z (fun x U a4=>wpAny_bind (wpAny_mono a4 (fun _ W a5=>wpAny_pure (wpAny_pure ⟨rfl,a5⟩)) no)) no))
noncomputable def cxC (X:Cx) (N:List Str) (scope:Scope) (ex:List Addr) (s:Shared) (H:Hp):Cx where
 prog:=X.prog
 w:=X.w
 K:=X.K
 mg:=X.mg
 base:=X.base
 A:=X.A
 N:=N
 s₀:=s
 H₀:=H
 env:=compEnvC scope (scope.names.foldl (clF X.env) []) s.heap.objs.size X.env
 outer:=X.stack
 stack:=X.stack
 ex:=ex
 fn:=fun _=>false
 calm:=X.calm
 pn:=[]
 xe:=fun _ _=>False
structure Dh (X:Cx) (ts:List Str) (fs:List (Nat × Str)) (scope:Scope):Prop where
 kind:scope.kind= .function
 cell:∀y∈scope.names,y.2≠ .cell
 names:∀y∈scope.names,y.2= .local ->scope.names.lookup y.1=some .local
 free:∀y∈scope.names,y.2= .free->X.env.kindOf y.1=some .cell\/X.env.kindOf y.1=some .free
 at':∀p∈fs,X.N[p.1]? =some p.2/\(p.2,NameKind.free)∈scope.names/\((relabel scope X.env).names.lookup p.2=some .cell\/(relabel scope X.env).names.lookup p.2=some .free)
noncomputable def rlb (sc scope:Scope):List (Str × NameKind):=scope.names.map fun(n,k)=>if(k==NameKind.free&&sc.kind== .function&&sc.names.lookup n==some .cell)then(n,NameKind.cell)else(n,k)
noncomputable def Au4 (sc:Scope) (N:List Str) (fs:List (Nat × Str)) (scope:Scope):Bool:=
 (scope.kind== .function)&&(scope.names.all fun y=>y.2 != .cell)&&(scope.names.all fun y=>y.2 != .local ||scope.names.lookup y.1==some .local)&&
 (scope.names.all fun y=>y.2 != .free||(sc.names.lookup y.1==some .cell||sc.names.lookup y.1==some .free))&&
 fs.all fun p=>N[p.1]? ==some p.2&&(scope.names.contains (p.2,NameKind.free)&&((rlb sc scope).lookup p.2==some .cell||(rlb sc scope).lookup p.2==some .free))
theorem Dh.of {X:Cx}{ts:List Str}{fs:List (Nat × Str)}{scope sc:Scope}{N:List Str} (J:X.env.scope=sc) (M:X.N=N) (h:Au4 sc N fs scope=true):Dh X ts fs scope:=by
 unfold Au4 at h
 simp only [and_eq_true,all_eq_true,or_eq_true,bne_iff_ne,beq_iff_eq,List.contains_iff_mem]at h
 obtain⟨⟨⟨⟨h1,h2⟩,O⟩,S⟩,U⟩:=h
 refine⟨h1,h2,fun y I e=> ?_,fun y I e=> ?_,fun p W=> ?_⟩
 . rcases O y I with z | z
   . exact absurd e z
   . exact z
 . rcases S y I with z | z
   . exact absurd e z
   . show X.env.scope.names.lookup y.1=_\/X.env.scope.names.lookup y.1=_
     rw [J]
     exact z
 . obtain⟨a,b,c⟩:=U p W
   refine⟨by rw [M];exact a,b,?_⟩
   subst J
   exact c
noncomputable def cpN (ts:List Str) (fs:List (Nat × Str)):List Str:=ts++fs.map (·.2)
noncomputable def cpσ (n:Nat) (fs:List (Nat × Str)) (σ:St):St:=replicate n none++fs.map fun p=>(σ[p.1]?).join
theorem Kd {env:Env}{x:Str}{I:NameKind}:∀ {names:List (Str × NameKind)},(names.map fun(n,k)=>if(k==NameKind.free&&env.scope.kind== .function&&env.kindOf n==some .cell)then(n,NameKind.cell)else(n,k)).lookup x=some I->
 ∃k,(x,k)∈names/\(I=k\/(k= .free/\I= .cell))
 | [],h=>by simp at h
 | (n,k)::r,h=>by
   rw [map_cons]at h
   dsimp only at h
   by_cases z:(k==NameKind.free&&env.scope.kind== .function&&env.kindOf n==some .cell)=true
   . rw [if_pos z,lookup_cons]at h
     cases hx:x==n with
     | true=>
       rw [hx]at h
       have e:x=n:=by simpa using hx
       subst e
       have M:k= .free:=by
        rw [and_eq_true,and_eq_true]at z
        simpa using z.1.1
       exact⟨k,mem_cons_self,.inr ⟨M,(Option.some.inj h).symm⟩⟩
     | false=>
       rw [hx]at h
       obtain⟨J,h1,h2⟩:=Kd h
       exact⟨J,mem_cons_of_mem _ h1,h2⟩
   . rw [if_neg z,lookup_cons]at h
     cases hx:x==n with
     | true=>
       rw [hx]at h
       have e:x=n:=by simpa using hx
       subst e
       exact⟨k,mem_cons_self,.inl (Option.some.inj h).symm⟩
     | false=>
       rw [hx]at h
       obtain⟨J,h1,h2⟩:=Kd h
       exact⟨J,mem_cons_of_mem _ h1,h2⟩
noncomputable def PTs (X:Cx) (ifs:List Expr) (t:TT):Prop:=
 ∀(pins:List (Addr × Obj)) (s:Shared) (σ:St) (H:Hp) (B:Bool->Hp->Prop),Inv X pins σ H s->t σ H B->
   wpAny (model X.prog X.w) X.A (forIn ifs true fun c r=>if r=true then do let ok<-isTrue c X.env (eval c X.env);pure (ForInStep.yield ok)else pure (ForInStep.yield r)) (TP X pins σ B) X.xe s
noncomputable def Aco:TT:=fun _ H B=>B true H
theorem Anr {X:Cx}:PTs X [] Aco:=fun _ _ _ H _ I h=>wpAny_pure ⟨H,I,h⟩
noncomputable def Kp (σ σ':St):Prop:=σ'.length=σ.length/\∀(i:Nat) v,σ[i]? =some (some v)->σ'[i]? =some (some v)
noncomputable def cIn (J:It) (cσ:St) (g:TG) (tt:TT) (te:TE) (Q:VK) (H1:Hp) (p:Addr):Prop:=∃W:Nat->Nat->List V->Hp->Prop,(∃m,W 0 m [] (upd H1 p (.lst [])))/\∀i m acc H2,W i m acc H2->
 (J.stop i H2/\Q (.ref p) H2)\/(J.go i H2/\∀x H3,J.yld i H2 x H3->g x cσ H3 fun σ4 H4=>Kp cσ σ4/\tt σ4 H4 fun b H5=>
   if b=true then te σ4 H5 fun y H6=>H6 p=some (.lst acc)/\acc.length<sizeLine/\∃m',m'<m/\W (i+1) m' (acc++ [y]) (upd H6 p (.lst (acc++ [y])))else ∃m',m'<m/\W (i+1) m' acc H5)
noncomputable def Acn (n:Nat) (fs:List (Nat × Str)) (wi:TI) (g:TG) (tt:TT) (te:TE):TE:=fun σ H Q=>wi σ H fun J H1=>∀p,H1 p=none->cIn J (cpσ n fs σ) g tt te Q H1 p
section
variable {X:Cx}{elt tg iter:Expr}{ifs:List Expr}{scope:Scope}{pos:Pos}{wi:TI}{g:TG}{tt:TT}{te:TE}{ts:List Str}{fs:List (Nat × Str)}
theorem Dh.clos (S:Dh X ts fs scope) (ok:X.Ok):∀x∈scope.names,x.2= .free->∃c,X.env.cells.lookup x.1=some c:=fun x z I=>ok.has x.1 (S.free x z I)
theorem Dh.sub (S:Dh X ts fs scope) (ok:X.Ok) {y:Str}{c:Addr} (h:(scope.names.foldl (clF X.env) []).lookup y=some c):X.env.cells.lookup y=some c:=by
 rcases Uj scope.names [] y c (S.clos ok) h with z | z
 . simp at z
 . exact z
theorem Abi {pins:List (Addr × Obj)}{σ:St}{H:Hp}{U s4:Shared}{ex:List Addr} (S:Dh X ts fs scope) (I:Inv X pins σ H U)
 (M:∀b∈ex,V5 X pins H b/\∃o,U.heap.get? b=some o) (a4:s4.os=U.os) (hg:s4.gens=U.gens) (hk:∀b u,U.heap.get? b=some u->s4.heap.get? b=some u)
 (hn:s4.heap.Ns U.heap.objs.size fun _=>none):Inv (cxC X (cpN ts fs) scope ex U H) [] (cpσ ts.length fs σ) H s4:=by
 have ok:=I.ok
 have a5:∀b∈ex,b≠U.heap.objs.size:=fun b O=>by
  obtain⟨_,o,Y⟩:=M b O
  exact ne_of_lt (Heap.lt_size Y)
 refine⟨⟨ok.mod,S.kind,ok.glob,ok.blt,le_refl _,fun y z c h1 h2=>ok.inj y z c (S.sub ok h1) (S.sub ok h2),fun y Z=> ?_,fun y c h _=>absurd h (by intro z;cases z),ok.hd,ok.frames,.inl rfl,fun b O=>⟨a5 b O,fun x c e=>(M b O).1.2.2.2.2.1 x c (S.sub ok e)⟩,
  I.bs,le_trans ok.bsz I.sz,fun b o e O=> ?_,fun b O=> ?_,I.stack,I.stkFree⟩,a4,by rw [hg];exact I.bare,Un.kept hk,⟨_,hn,fun i x v h1 h2 h3=> ?_⟩,fun y c e=> ?_,I.hok.fresh (le_refl _),fun y c e=>I.freeC y c (S.sub ok e),
  fun p hp=>absurd (show p∈([]:List (Addr × Obj))from hp) (by simp),I.hok.kept hk,?_⟩
 . have z:∃k',(k'=NameKind.cell\/k'= .free)/\(scope.names.map fun(n,k)=>if(k==NameKind.free&&X.env.scope.kind== .function&&X.env.kindOf n==some .cell)then(n,NameKind.cell)else(n,k)).lookup y=some k':=by
    rcases Z with Z | Z
    . exact⟨_,.inl rfl,Z⟩
    . exact⟨_,.inr rfl,Z⟩
   obtain⟨k',a6,hl⟩:=z
   obtain⟨k,hm,h2⟩:=Kd hl
   have hf:k= .free:=by
    rcases h2 with e | ⟨e,_⟩
    . subst e
      rcases a6 with e | e
      . exact absurd e (S.cell _ hm)
      . exact e
    . exact e
   exact X7 scope.names [] y (.inl ⟨_,hm,hf,rfl⟩)
 . rcases(M b O).1.2.2.2.1 with z | z
   . exact ok.noex b o e z
   . exact absurd (lt_of_lt_of_le (Heap.lt_size e) (le_trans ok.bsz z)) (lt_irrefl _)
 . intro a7
   rcases mem_cons.mp (I.stkSub b a7)with e | e
   . exact(M b O).1.2.1 e
   . exact(M b O).1.2.2.1 e
 . unfold cpσ at h2
   by_cases hi:i<ts.length
   . rw [getElem?_append_left (by simpa using hi),getElem?_replicate]at h2
     split at h2<;>cases h2
   . rw [getElem?_append_right (by simpa using hi),length_replicate]at h2
     have J:(cpN ts fs)[i]? =some x:=h1
     unfold cpN at J
     rw [getElem?_append_right (by omega)]at J
     rw [getElem?_map]at J h2
     cases e:fs[i-ts.length]? with
     | none=>rw [e]at J;cases J
     | some p=>
       rw [e]at J h2
       have ex':p.2=x:=Option.some.inj J
       have e2:(σ[p.1]?).join=some v:=Option.some.inj h2
       have e3:σ[p.1]? =some (some v):=by
        cases q:σ[p.1]? with
        | none=>rw [q]at e2;cases e2
        | some o=>rw [q]at e2;cases o with | none=>cases e2 | some v'=>cases e2;rfl
       obtain⟨a1,a2,a3⟩:=S.at' p (List.mem_of_getElem? e)
       obtain⟨m,_,hl⟩:=I.loc
       have kd:=S.free _ a2 rfl
       have a8:Vis X.env.scope p.2:=by
        rcases kd with z | z
        . exact .inr (.inl z)
        . exact .inr (.inr z)
       obtain⟨u,r,l⟩:=hl p.1 p.2 v a1 e3 a8
       refine⟨u,r,?_⟩
       rcases l with⟨z,_⟩ | ⟨_,c,hc,W⟩
       . rcases kd with q | q
         . rw [q]at z;cases z
         . rw [q]at z;cases z
       . obtain⟨c',a0⟩:=X7 (env:=X.env) scope.names [] p.2 (.inl ⟨_,a2,rfl,rfl⟩)
         have ec:c'=c:=Option.some.inj ((S.sub ok a0).symm.trans hc)
         subst ec
         subst ex'
         refine .inr ⟨?_,c',a0,?_⟩
         . exact a3
         . obtain⟨o,Y,hd⟩:=W
           exact⟨o,hk _ _ Y,hd⟩
 . obtain⟨v,o,Y,hd⟩:=I.cell y c (S.sub ok e)
   exact⟨v,o,hk _ _ Y,hd⟩
 . unfold cpσ
   show _=(cpN ts fs).length
   unfold cpN
   simp
theorem Aab {pins:List (Addr × Obj)}{σ Z:St}{H H':Hp}{M W:Shared}{h':Heap}{ex:List Addr} (S:Dh X ts fs scope) (I:Inv X pins σ H M) (U:∀b∈ex,V5 X pins H b)
 (J:Inv (cxC X (cpN ts fs) scope ex M H) [] Z H' W) (sb:Heap.SameBut M.heap.objs.size W.heap h'):Inv X pins σ H' { W with heap:=h'}:=by
 have nC:H' M.heap.objs.size=none:=J.free
 have old:∀b o,b≠M.heap.objs.size->W.heap.get? b=some o->h'.get? b=some o:=fun b o O e=>sb.extBut b o O e
 have lt:∀b o,M.heap.get? b=some o->b≠M.heap.objs.size:=fun b o e=>ne_of_lt (Heap.lt_size e)
 have u:Un (frs X.stack) ex H H' M.heap W.heap:=J.base
 have u2:Un (frs X.stack) ex H H' M.heap h':=
  ⟨fun b o e n O Y=>old b o (lt b o e) (u.keep b o e n O Y),fun b o e n O Y=>by
   obtain⟨sl,q⟩:=u.slot b o e n O Y
   exact⟨sl,old b _ (lt b o e) q⟩,u.free,fun b o e Y=>by
   obtain⟨o',q⟩:=u.there b o e Y
   exact⟨o',old b o' (lt b o e) q⟩,u.tups,u.frzs,u.tbls⟩
 have a0:HOk X.prog X.w H' h':=fun b o e=>by
  have nb:b≠M.heap.objs.size:=fun z=>by rw [z,nC]at e;cases e
  refine(J.hok b o e).stay (fun c v hc q=>old c v ?_ q) (fun _ q=>q) fun _ _ q=>q
  rcases hc with z | z
  . rw [z];exact nb
  . intro z2;rw [z2,nC]at z;cases z
 exact I.call' (s':={ W with heap:=h'}) (ch:=ex) J.os u2 a0 J.bare fun b O=>⟨(U b O).2.2.2.1,(U b O).2.1,(U b O).2.2.2.2.1,(U b O).2.2.2.2.2⟩
theorem Inv.fade {pins:List (Addr × Obj)}{σ z:St}{H:Hp}{s:Shared} (I:Inv X pins z H s) (k:Kp σ z):Inv X pins σ H s:=by
 refine⟨I.ok,I.os,I.bare,I.base,?_,I.cell,I.free,I.freeC,I.pin,I.hok,k.1.symm.trans I.len⟩
 obtain⟨m,J,M⟩:=I.loc
 exact⟨m,J,fun i x v h1 h2 O=>M i x v h1 (k.2 i v h2) O⟩
theorem Ahq {pins:List (Addr × Obj)}{σ:St}{M:Hp}{O s4:Shared}{Q:VK}{R:Result->Shared->Prop}{fp:List Addr}{it p:Addr}{tn:Nat->Heap->Prop}{J:It}{W:Nat->Nat->List V->Hp->Prop}{m0:Nat} (hc:X.calm=true) (S:Dh X ts fs scope)
 (hg:∀ex s H,PG (cxC X (cpN ts fs) scope ex s H) tg g) (ht:∀ex s H,PTs (cxC X (cpN ts fs) scope ex s H) ifs tt) (he:∀ex s H,PE (cxC X (cpN ts fs) scope ex s H) elt te)
 (I3:Inv X pins σ M O) (T:Turn X.prog X.w X.K tg J fp it tn) (a1:∀b∈fp,V5 X pins M b) (lt:∀b∈fp,b<O.heap.objs.size)
 (I4:Inv (cxC X (cpN ts fs) scope fp O M) [] (cpσ ts.length fs σ) M s4) (ac:tn 0 s4.heap) (w0:W 0 m0 [] M)
 (ad:∀H5 s6,Inv (cxC X (cpN ts fs) scope fp O M) [] (cpσ ts.length fs σ) H5 s6->Q (.ref p) H5->R (.ok .next) s6)
 (a5:∀i m I H2,W i m I H2->(J.stop i H2/\Q (.ref p) H2)\/(J.go i H2/\∀x M,J.yld i H2 x M->g x (cpσ ts.length fs σ) M fun a3 H4=>Kp (cpσ ts.length fs σ) a3/\tt a3 H4 fun b H5=>
   if b=true then te a3 H5 fun y H6=>H6 p=some (.lst I)/\I.length<sizeLine/\∃Y,Y<m/\W (i+1) Y (I++ [y]) (upd H6 p (.lst (I++ [y])))else ∃Y,Y<m/\W (i+1) Y I H5)):
 codeAny (model X.prog X.w) X.A (.compLoop (.ListComp elt [⟨tg,iter,ifs,0⟩] scope pos) 0 (.ref it) (.ref p) (cxC X (cpN ts fs) scope fp O M).env) R s4:=by
 have Z:∀ {H':Hp},(∀b∈fp,H' b=none)->∀b∈fp,V5 (cxC X (cpN ts fs) scope fp O M) [] H' b:=fun hn b U=>
  ⟨hn b U,ne_of_lt (lt b U),fun z=>(mem_cons.mp (I3.stkSub b z)).elim (a1 b U).2.1 (a1 b U).2.2.1,.inl U,fun x c e=>(a1 b U).2.2.2.2.1 x c (S.sub I3.ok e),fun q hq=>absurd (show q∈([]:List (Addr × Obj))from hq) (by simp)⟩
 refine Wi (fun n s'=>∃i I H',Inv (cxC X (cpN ts fs) scope fp O M) [] (cpσ ts.length fs σ) H' s'/\tn i s'.heap/\(∀b∈fp,H' b=none)/\W i n I H') ?_ m0 ⟨0,[],M,I4,ac,fun b U=>(a1 b U).1,w0⟩
 rintro n s5 ⟨i,I,H5,I5,a6,a7,w5⟩
 rcases a5 i n I H5 w5 with⟨a8,q⟩ | ⟨go,step⟩
 . refine thn (T.done (cxC X (cpN ts fs) scope fp O M) rfl rfl rfl hc i [] s5 _ H5 _ I5 (Z a7) a6 a8) fun r s6 ⟨hr,I6⟩=> ?_
   subst hr
   exact ad H5 s6 I6 q
 . refine thn (T.item (cxC X (cpN ts fs) scope fp O M) rfl rfl rfl hc i [] s5 _ H5 _ I5 (Z a7) a6 go) fun r s6 ⟨u,hr,h6⟩=> ?_
   subst hr
   refine thn h6 fun _ s7 ⟨x,H7,I7,r7,y7,a4,ae⟩=> ?_
   have af:=I7.pinned (Z ae) (T.obj _ _ a4)
   refine thn (hg fp O M _ s7 _ H7 x u _ af r7 (step x H7 y7)) fun _ s8 ⟨a2,H8,I8,kp,q8⟩=> ?_
   have again:∀ {H9:Hp}{s9:Shared}{a0:List V}{Y:Nat},Inv (cxC X (cpN ts fs) scope fp O M) ([]++W5 fp s7.heap) a2 H9 s9->Y<n->W (i+1) Y a0 H9->
    ∃m,m<n/\∃i I H',Inv (cxC X (cpN ts fs) scope fp O M) [] (cpσ ts.length fs σ) H' s9/\tn i s9.heap/\(∀b∈fp,H' b=none)/\W i m I H':=fun {H9 s9 a0 Y} I9 hm w9=>by
    refine⟨Y,hm,i+1,a0,H9,(I9.fade kp).unpinned,T.keep _ _ _ a4 fun b U o e=>(I9.pin (b,o) (mem_append_right _ (mem_append_right _ (Ir U e)))).1,fun b U=> ?_,w9⟩
    obtain⟨o,e,d⟩:=T.obj _ _ a4 b U
    exact(I9.pin (b,o) (mem_append_right _ (mem_append_right _ (Ir U e)))).2.1
   refine thn (ht fp O M _ s8 a2 H8 _ I8 q8) fun ok s9 ⟨H9,I9,q9⟩=> ?_
   cases ok with
   | false=>
     rw [if_neg Bool.false_ne_true]at q9 ⊢
     obtain⟨Y,hm,w9⟩:=q9
     exact again I9 hm w9
   | true=>
     rw [if_pos rfl]at q9 ⊢
     refine thn (he fp O M _ s9 a2 H9 _ I9 q9) fun y ag ⟨yv,ah,ai,aj,a9,aa,Y,hm,ak⟩=> ?_
     exact thn (Fi _ ag a2 ah (.ref p) [yv] (.ref p) [y] _ ai rfl (.cons aj .nil) ⟨p,I,yv,rfl,rfl,a9,aa,ak⟩) fun _ ao ⟨_,ap,am,_,an⟩=>again am hm an
set_option maxHeartbeats 2000000 in
theorem Te {a0:Pos}{pins:List (Addr × Obj)}{σ:St}{H:Hp}{s:Shared}{Q:VK}{QQ:Value->Shared->Prop}{use:Option (Value->Sem Unit)} (hc:X.calm=true) (S:Dh X ts fs scope) (hi:PI X tg iter wi) (hg:∀ex s H,PG (cxC X (cpN ts fs) scope ex s H) tg g) (ht:∀ex s H,PTs (cxC X (cpN ts fs) scope ex s H) ifs tt)
 (he:∀ex s H,PE (cxC X (cpN ts fs) scope ex s H) elt te) (hs:∀x,foldedSetIterable iter X.env x=pure x) (I:Inv X pins σ H s) (h:Acn ts.length fs wi g tt te σ H Q)
 (a6:∀(H3:Hp) (s3:Shared) (fp:List Addr) (p:Addr) (H5:Hp) (s6:Shared),Inv X pins σ H3 s3->(∀b∈fp,V5 X pins H3 b)->Inv (cxC X (cpN ts fs) scope fp s3 H3) [] (cpσ ts.length fs σ) H5 s6->Q (.ref p) H5->compPost (model X.prog X.w) X.A X.xe use QQ (.ref p) s3.heap.objs.size (.ok .next) s6):
 wpAny (model X.prog X.w) X.A (comprehension (.ListComp elt [⟨tg,iter,ifs,0⟩] scope pos) scope X.env a0 (newList []) false (eval iter X.env) use) QQ X.xe s:=by
 refine wpAny_comprehension_free (use:=use) rfl hs (Abh (S.clos I.ok)) S.kind S.names (thn (hi pins s σ H _ I h) fun v s1 h1=>thn h1 fun a7 U h2=> ?_)
 obtain⟨it,fp,tn,J,H2,rfl,I2,T,a1,f2,hw⟩:=h2
 refine wpAny_newObj_type (wpAny_newFunctionEnv S.cell (by intro y hy;simp at hy) (fun O z M=> ?_) S.kind)
 dsimp only at z M ⊢
 have I3:=I2.lnew (its:=[]) (ys:=[]) (t':=U.toks) .nil (zero_le _)
 have hD:H2 U.heap.objs.size=none:=I2.fresh
 obtain⟨W,⟨m0,w0⟩,a2⟩:=hw _ hD
 have up:∀b o,U.heap.get? b=some o->(U.heap.push { cls:= .type "list",data:= .seq ([]:List Value).toArray}).get? b=some o:=fun b o e=>Heap.get?_push_of_some _ e
 have Y:∀b∈fp,V5 X pins (upd H2 U.heap.objs.size (.lst [])) b/\∃o,(U.heap.push { cls:= .type "list",data:= .seq ([]:List Value).toArray}).get? b=some o:=fun b Z=>by
  obtain⟨o,ho,_⟩:=T.obj _ _ a1 b Z
  have nb:b≠U.heap.objs.size:=ne_of_lt (Heap.lt_size ho)
  exact⟨⟨by rw [Cr nb];exact(f2 b Z).1,(f2 b Z).2⟩,o,up b o ho⟩
 have a3:∀b u,(U.heap.push { cls:= .type "list",data:= .seq ([]:List Value).toArray}).get? b=some u->O.get? b=some u:=fun b u e=>
  M.extBut b u (ne_of_lt (Heap.lt_size e)) (Heap.get?_push_of_some _ e)
 have I4:=Abi (s4:={ U with heap:=O,toks:=U.toks}) S I3 Y rfl rfl a3 z
 have a4:tn 0 O:=T.keep _ _ _ a1 fun b _ o e=>a3 b o (up b o e)
 have a5:=Ahq (elt:=elt) (iter:=iter) (pos:=pos) hc S hg ht he I3 T (fun b Z=>(Y b Z).1) (fun b Z=>Heap.lt_size (Y b Z).2.choose_spec) I4 a4 w0 (fun H5 s6 I6 q=>a6 _ _ fp _ H5 s6 I3 (fun b Z=>(Y b Z).1) I6 q) a2
 exact codeAny_compStart_list a5 (T.self X.A 0 _ _ _ a4 a5)
theorem Afr (M:X.calm=true) (S:Dh X ts fs scope) (hi:PI X tg iter wi) (O:∀ex s H,PG (cxC X (cpN ts fs) scope ex s H) tg g) (U:∀ex s H,PTs (cxC X (cpN ts fs) scope ex s H) ifs tt)
 (W:∀ex s H,PE (cxC X (cpN ts fs) scope ex s H) elt te) (hs:∀x,foldedSetIterable iter X.env x=pure x:=by intro _;rfl):
 PE X (.ListComp elt [⟨tg,iter,ifs,0⟩] scope pos) (Acn ts.length fs wi g tt te):=by
 intro pins s σ H Q I h
 rw [eval_ListComp]
 refine Te (use:=none) M S hi O U W hs I h fun H3 s3 fp p Y s6 Z z J q=> ?_
 obtain⟨m,hn,_⟩:=J.loc
 exact⟨m,hn,fun h' sb=>⟨.ref p,Y,Aab S Z z J sb,rfl,q⟩⟩
theorem Y7 {g':TG}{y:Str}{py M:Pos} (hc:X.calm=true) (S:Dh X ts fs scope) (hi:PI X tg iter wi) (hg:∀ex s H,PG (cxC X (cpN ts fs) scope ex s H) tg g) (ht:∀ex s H,PTs (cxC X (cpN ts fs) scope ex s H) ifs tt)
 (he:∀ex s H,PE (cxC X (cpN ts fs) scope ex s H) elt te) (hn:PG X (.Name y py) g') (Z:swapsWith (.ListComp elt [⟨tg,iter,ifs,0⟩] scope pos) (some (.Name y py)) M.line X.env=pure true:=by rfl) (hs:∀x,foldedSetIterable iter X.env x=pure x:=by intro _;rfl):
 PS X (.Assign [.Name y py] (.ListComp elt [⟨tg,iter,ifs,0⟩] scope pos) M) (Aje (Acn ts.length fs wi g tt te) g'):=by
 intro pins s σ H D I h
 rw [exec_Assign_Name_used _ _ _ _ Z]
 refine wpAny_bind (wpAny_standAt (wpAny_bind ?_))
 show wpAny _ X.A (do let _<-comprehension (.ListComp elt [⟨tg,iter,ifs,0⟩] scope pos) scope X.env _ (newList []) false (eval iter X.env) (some (assign (.Name y py) X.env))) _ _ s
 refine wpAny_bind (wpAny_mono (Te (use:=some (assign (.Name y py) X.env)) (QQ:=fun _ s'=>SP X pins D .next s') hc S hi hg ht he hs I h fun H3 O fp p H5 s6 I3 a0 I6 q=> ?_) (fun _ s' hq=>wpAny_pure (wpAny_pure hq)) fun _ _ e=>e)
 have J:Inv X pins σ H5 s6:=Aab S I3 a0 I6 (Heap.SameBut.refl _ _)
 obtain⟨m,⟨o,es,ep,ho,hd,a1,hf⟩,_⟩:=I6.loc
 have U:s6.heap.get? O.heap.objs.size=some o:=ho
 have W:V5 X pins H5 O.heap.objs.size:=I3.fpOk (le_refl _) I6.free
 have J':=J.pinned (fp:=[O.heap.objs.size]) (fun b Y=>by
  have e:b=O.heap.objs.size:=by simpa using Y
  subst e
  exact W) (fun b Y=>by
  have e:b=O.heap.objs.size:=by simpa using Y
  subst e
  exact⟨o,U,fun v z=>by rw [hd]at z;cases z⟩)
 refine thn (hn _ s6 σ H5 (.ref p) (.ref p) _ J' rfl q) fun _ s7 ⟨a2,H7,I7,q7⟩=> ?_
 have pC:=I7.pin (O.heap.objs.size,o) (mem_append_right _ (mem_append_right _ (Ir (by simp) U)))
 exact⟨m,⟨o,es,ep,pC.1,hd,a1,hf⟩,fun h' sb=>⟨a2,H7,I7.unpinned.turned (t':=s7.toks) (fun b o Y e=>sb.extBut b o Y e) pC.2.1 W.2.1 W.2.2.2.1 W.2.2.2.2.1 W.2.2.2.2.2,q7⟩⟩
end
section
variable {K:Frag}{H1:Hp}{p:Addr}{cσ:St}{g:TG}{te:TE}{Q:VK}{α:Type}{es:List α}{inj:α->V}
noncomputable def Wk (J:It) (H1:Hp) (es:List α) (inj:α->V):Prop:=∀i H',Same H1 H'->(es[i]? =none->J.stop i H')/\∀e,es[i]? =some e->J.go i H'/\∀x H3,J.yld i H' x H3->H3=H'/\x=inj e
theorem V0 {a:Addr} (h:SqL K H1 a (es.map inj)):Wk (Itl K a) H1 es inj:=fun i H' s=>by
 have h':=s.seq h
 refine⟨fun e=>⟨_,h',?_⟩,fun e I=>⟨⟨_,inj e,h',by rw [getElem?_map,I];rfl⟩,fun x O ⟨J,M⟩=>⟨J,?_⟩⟩⟩
 . rw [length_map]
   exact List.getElem?_eq_none_iff.mp e
 . have z:=M _ h'
   rw [getElem?_map,I]at z
   exact(Option.some.inj z).symm
theorem Ud {a:Addr} (h:SqT K H1 a (es.map inj)):Wk (Itt K a) H1 es inj:=fun i H' s=>by
 have h':=s.tup h
 refine⟨fun e=>⟨_,h',?_⟩,fun e I=>⟨⟨_,inj e,h',by rw [getElem?_map,I];rfl⟩,fun x O ⟨J,M⟩=>⟨J,?_⟩⟩⟩
 . rw [length_map]
   exact List.getElem?_eq_none_iff.mp e
 . have z:=M _ h'
   rw [getElem?_map,I]at z
   exact(Option.some.inj z).symm
theorem Aa9 {lo:Int}{n:Nat}:Wk (Itr lo n) H1 (List.range n) (fun i=> .int (lo+(i:Nat))):=fun i H' s=>by
 refine⟨fun e=> ?_,fun e I=> ?_⟩
 . have:=List.getElem?_eq_none_iff.mp e
   show n<=i
   simpa using this
 . obtain⟨h,z⟩:=List.getElem?_eq_some_iff.mp I
   have hi:i<n:=by simpa using h
   have J:i=e:=by simpa using z
   subst J
   exact⟨hi,fun x S ⟨M,O⟩=>⟨M,O⟩⟩
theorem Jf {J:It} (f:α->V) (hz:es.length<=sizeLine) (hp:H1 p=none) (W:Wk J H1 es inj)
 (step:∀e H' R,e∈es->Same H1 H'->(∀M,Same H' M->R (f e) M)->g (inj e) cσ H' fun z I=>Kp cσ z/\te z I R)
 (done:∀H',Same H1 H'->H' p=some (.lst (es.map f))->Q (.ref p) H'):cIn J cσ g Aco te Q H1 p:=by
 have Y:∀ {H':Hp}{o:HO},Same H1 H'->Same H1 (upd H' p o):=fun {H' o} s b u e=>by
  rw [Cr (Cw e hp)]
  exact s b u e
 refine⟨fun i m O H'=>m=es.length-i/\i<=es.length/\O=(es.take i).map f/\H' p=some (.lst O)/\Same H1 H',⟨es.length,by simp,zero_le _,by simp,Ao,Y (Same.refl _)⟩,?_⟩
 rintro i m O H' ⟨rfl,hi,rfl,S,s⟩
 cases he:es[i]? with
 | none=>
   have hl:=List.getElem?_eq_none_iff.mp he
   have e:i=es.length:=le_antisymm hi hl
   subst e
   rw [take_length]at S
   exact .inl ⟨(W _ _ s).1 he,done _ s S⟩
 | some e=>
   obtain⟨go,yl⟩:=(W _ _ s).2 e he
   refine .inr ⟨go,fun x Z y=> ?_⟩
   obtain⟨rfl,rfl⟩:=yl x Z y
   obtain⟨U,e'⟩:=List.getElem?_eq_some_iff.mp he
   have tk:es.take (i+1)=es.take i++ [e]:=by rw [take_succ,he];rfl
   have q:=step e Z (fun y M=>M p=some (.lst ((es.take i).map f))/\((es.take i).map f).length<sizeLine/\∃m',m'<es.length-i/\m'=es.length-(i+1)/\i+1<=es.length/\(es.take i).map f++ [y]=(es.take (i+1)).map f/\
    upd M p (.lst ((es.take i).map f++ [y])) p=some (.lst ((es.take i).map f++ [y]))/\Same H1 (upd M p (.lst ((es.take i).map f++ [y])))) (List.mem_of_getElem? he) s
    (fun M s6=>⟨s6 _ _ S,by rw [length_map,length_take];omega,_,by omega,rfl,U,by rw [tk,map_append];rfl,Ao,Y (s.trans s6)⟩)
   have eq:∀(R:VK) (B:Hp->Prop),(fun z I=>Kp cσ z/\Aco z I fun b H5=>if b=true then te z H5 R else B H5)=(fun z I=>Kp cσ z/\te z I R):=fun R B=>by
    funext z I
    show(Kp cσ z/\if true=true then te z I R else B I)=_
    rw [if_pos rfl]
   rw [eq]
   exact q
end
section
variable {X:Cx}{K:Frag}{σ:St}{H:Hp}{Q:VK}{R:It->Hp->Prop}
theorem Arw {n:Nat}{fs:List (Nat × Str)}{wi:TI}{g:TG}{tt:TT}{te:TE}:Acn n fs wi g tt te σ H Q=wi σ H (fun J H1=>∀p,H1 p=none->cIn J (cpσ n fs σ) g tt te Q H1 p):=rfl
theorem Asc {ta:TA}:Amk ta σ H R=ta σ H (fun z H1=>∃j:Int,z=[.int j]/\ -(2^62)<=j/\j<2^62/\R (Itr 0 j.toNat) H1):=rfl
theorem Asd {ta:TA}:Aml ta σ H R=ta σ H (fun z H1=>∃i j:Int,z=[.int i,.int j]/\(-(2^62)<=i/\i<2^62/\ -(2^62)<=j/\j<2^62)/\R (Itr i (j-i).toNat) H1):=rfl
theorem Aom {tl:TE}:Amj K tl σ H R=tl σ H (fun x H1=>∃a,x= .ref a/\(∃xs,SqL K H1 a xs)/\R (Itl K a) H1):=rfl
theorem Ar6 {tl:TE}:As1 K tl σ H R=tl σ H (fun x H1=>∃a,x= .ref a/\(∃xs,SqT K H1 a xs)/\R (Itt K a) H1):=rfl
theorem Aui {a:Addr}{p:Addr->Prop}:(∃b,V.ref a= .ref b/\p b)=p a:=propext ⟨fun⟨_,e,h⟩=>by cases e;exact h,fun h=>⟨a,rfl,h⟩⟩
theorem Aum {v:Option V}{r:St}:Kp (none::r) (v::r)=True:=by
 refine eq_true ⟨rfl,fun i u e=> ?_⟩
 cases i with
 | zero=>cases e
 | succ i=>exact e
theorem Aun {v z:Option V}{r:St}:Kp (none::none::r) (v::z::r)=True:=by
 refine eq_true ⟨rfl,fun i u e=> ?_⟩
 cases i with
 | zero=>cases e
 | succ i=>
   cases i with
   | zero=>cases e
   | succ i=>exact e
theorem Ar5 {k:Bool}{p:Int->Prop}{q:Bool->Prop}:((∃i,[V.bl k]=[V.int i]/\p i)\/∃z,[V.bl k]=[V.bl z]/\q z)=q k:=
 propext ⟨fun h=>h.elim (fun⟨_,e,_⟩=>by cases e) fun⟨_,e,h⟩=>by cases e;exact h,fun h=> .inr ⟨k,rfl,h⟩⟩
end
noncomputable def FI (J:It) (g:TG) (tb:TS) (D:Ends) (σ:St) (H:Hp):Prop:=∃W:Nat->Nat->St->Hp->Prop,(∃m,W 0 m σ H)/\∀i m σ H,W i m σ H->
 (J.stop i H/\D.nx σ H)\/(J.go i H/\∃N:St->Hp->Prop,(∀σ' H',N σ' H'->∃m',m'<m/\W (i+1) m' σ' H')/\∀x H',J.yld i H x H'->g x σ H' fun σ2 H2=>tb { D with nx:=N,ct:=N,bk:=D.nx} σ2 H2)
theorem Aol {wi:TI}{g:TG}{tb:TS}{D:Ends}{σ:St}{H:Hp}:Atu wi g tb D σ H=wi σ H (fun J H1=>FI J g tb D σ H1):=rfl
section
variable {K:Frag}{σ:St}{H:Hp}{g:TG}{tb:TS}{D:Ends}{α:Type}{es:List α}{inj:α->V}
noncomputable def Alk (J:It) (H:Hp) (es:List α) (inj:α->V):Prop:=∀i,(es[i]? =none->J.stop i H)/\∀e,es[i]? =some e->J.go i H/\∀x H3,J.yld i H x H3->H3=H/\x=inj e
theorem R8 {a:Addr} (h:SqL K H a (es.map inj)):Alk (Itl K a) H es inj:=fun i=>V0 h i H (Same.refl _)
theorem Vz {a:Addr} (h:SqT K H a (es.map inj)):Alk (Itt K a) H es inj:=fun i=>Ud h i H (Same.refl _)
theorem Hj {lo:Int}{n:Nat}:Alk (Itr lo n) H (List.range n) (fun i=> .int (lo+(i:Nat))):=fun i=>Aa9 i H (Same.refl _)
theorem Sd {J:It} (I:List α->St->Hp->Prop) (U:I [] σ H) (W:∀z σ H,I z σ H->Alk J H es inj)
 (hs:∀z e M σ H,es=z++e::M->I z σ H->g (inj e) σ H fun S H2=>tb { D with nx:=I (z++ [e]),ct:=I (z++ [e]),bk:=D.nx} S H2) (Y:∀σ H,I es σ H->D.nx σ H):FI J g tb D σ H:=by
 refine⟨fun i m σ H=>m=es.length-i/\i<=es.length/\I (es.take i) σ H,⟨es.length,by simp,zero_le _,U⟩,?_⟩
 rintro i m σ H ⟨rfl,hi,p⟩
 have w:=W _ _ _ p i
 cases he:es[i]? with
 | none=>
   have e:i=es.length:=le_antisymm hi (List.getElem?_eq_none_iff.mp he)
   subst e
   rw [take_length]at p
   exact .inl ⟨w.1 he,Y _ _ p⟩
 | some e=>
   obtain⟨O,Z⟩:=List.getElem?_eq_some_iff.mp he
   have tk:es.take (i+1)=es.take i++ [e]:=by rw [take_succ,he];rfl
   have sp:es=es.take i++e::es.drop (i+1):=by
    rw [<-Z,<-List.drop_eq_getElem_cons O,List.take_append_drop]
   refine .inr ⟨(w.2 e he).1,I (es.take i++ [e]),fun a0 H' q=>⟨es.length-(i+1),by omega,rfl,O,by rw [tk];exact q⟩,fun x H' y=> ?_⟩
   obtain⟨rfl,rfl⟩:=(w.2 e he).2 x H' y
   exact hs _ e _ σ H' sp p
end
section
variable {K:Frag}{σ:St}{H:Hp}{Q:VK}
theorem Av7 {r:V->Option Int->Option Int->Hp->VK->Prop}{te:TE}{tl th:TO}:tSl r te tl th σ H Q=te σ H (fun x H1=>tl σ H1 fun l H2=>th σ H2 fun u z=>r x l u z Q):=rfl
theorem Ajl {R:Option Int->Hp->Prop}:Zn σ H R=R none H:=rfl
theorem Asa {t:TE}{R:Option Int->Hp->Prop}:Aod t σ H R=t σ H (fun x H1=>∃i,x= .int i/\R (some i) H1):=rfl
theorem At9 {T:String}{r:V->List V->Hp->VK->Prop}{to:TE}:Ats K T r to σ H Q=to σ H (fun x H1=>tyV K T x H1/\r x [] H1 Q):=rfl
theorem Av0 {T:String}{r:V->List V->Hp->VK->Prop}{to:TE}{t:TA}:tBM K T r to t σ H Q=to σ H (fun x H1=>tyV K T x H1/\t σ H1 fun xs H2=>r x xs H2 Q):=rfl
noncomputable def Atd:V->List V->Hp->VK->Prop:=fun x vs H Q=>∃i,x= .int i/\vs=[]/\Q (.int ((Builtin.Int.intBits i:Nat):Int)) H
theorem Amr {X:Cx}:MtR X "int.bit_length" Atd:=by
 intro pins s σ H x xs v O Q I J M h
 obtain⟨i,rfl,rfl,q⟩:=h
 obtain⟨t,rfl⟩:=J
 have z:=M.zero
 subst z
 refine call_gives F.slot_int_bit_length (typeIs_int s i t) F.entry_int_bit_length (F.args_int_bit_length_1 _) (AutoIntG2.int_bit_length_int_0 i t) ?_
 exact⟨.int _,H,I.tok _,⟨_,rfl⟩,q⟩
end
section
variable {CX:CXT}{P:Program}{w:World}{K:Frag}{mg:Str->Option Value}{base:Heap}{N:List Str}{qual:Str}{scope:Scope}{f:Addr}{cd:Value}{A:Around}{outer:List Env}{s:Shared}{H H1 H2:Hp}{E:XK}{Q:VK}{a b:Addr}{ns ms:List Int}{g:Bool->Bool}
theorem Aua:(Qn CX P w K mg base N qual scope f cd A outer s H E).K=K:=rfl
theorem Ar9:(Qn CX P w K mg base N qual scope f cd A outer s H E).nox.K=K:=rfl
theorem Om (ns:List Int):SeqAt.shaped (.list (ns.map PyData.int))=true:=by
 simp [SeqAt.shaped,PyData.canLay0,PyData.depth,ke_canLayAll0,ke_depthAll]
theorem Uq (z:SqL K H a (ns.map V.int)) (I:SqL K H b (ms.map V.int)) (h:Q (.bl (g (decide (ns=ms)))) H):Atg K g (.ref a) (.ref b) H Q:=
 ⟨_,_,.lints z,.lints I,Om _,Om _,by rw [PyData.eqv,O9];exact h⟩
end
section
variable {c:TT}{tb:TS}{D:Ends}{σ:St}{H:Hp}
noncomputable def WB (Pv:St->Hp->Prop) (μ:St->Hp->Nat) (tb:TS) (D:Ends) (n:Nat) (σ:St) (H:Hp):Prop:=
 ∃N:St->Hp->Prop,(∀σ' H',N σ' H'->∃m',m'<n/\(m'=μ σ' H'/\Pv σ' H'))/\tb { D with nx:=N,ct:=N,bk:=D.nx} σ H
theorem Ag5 {I:St->Hp->Prop}{J:St->Hp->Nat}{n:Nat} (h:tb { D with nx:=fun z H'=>I z H'/\J z H'<n,ct:=fun z H'=>I z H'/\J z H'<n,bk:=D.nx} σ H):WB I J tb D n σ H:=
 ⟨_,fun _ _ ⟨p,l⟩=>⟨_,l,rfl,p⟩,h⟩
theorem Le (z:St->Hp->Prop) (I:St->Hp->Nat) (J:z σ H) (hs:∀σ H,z σ H->c σ H fun b H1=>if b=true then WB z I tb D (I σ H) σ H1 else D.nx σ H1):Xl c tb D σ H:=by
 refine⟨fun m σ H=>m=I σ H/\z σ H,⟨_,rfl,J⟩,?_⟩
 rintro m σ H ⟨rfl,p⟩
 exact hs σ H p
end
theorem Ar2 {a:Addr}{p:Addr->Prop}:(∃b,[V.ref a]=[.ref b]/\p b)=p a:=propext ⟨fun⟨_,e,h⟩=>by cases e;exact h,fun h=>⟨a,rfl,h⟩⟩
section
variable {K:Frag}{σ:St}{H:Hp}{Q:St->Hp->Prop}{R:VK}{p a b:Addr}{v w:V}{i j:Nat}{xs:List V}{ns ms:List Int}{f:Bool->Bool}
theorem Jw (h:SqT K H p [v,w]) (q:Q ((σ.set i (some v)).set j (some w)) H):Ape K 2 (Ah2 (Qp i) (Ah2 (Qp j) Asw)) (.ref p) σ H Q:=⟨p,_,rfl,h,rfl,v,_,rfl,w,_,rfl,rfl,q⟩
theorem Ar3 {to z:TE}{t:Aoz}:Asx to z t v σ H Q=to σ H (fun o H1=>z σ H1 fun i H2=>t o i v H2 fun I=>Q σ I):=rfl
theorem Abk {G:Hp->Prop} (z:H p=some (.lst xs)) (I:j<xs.length) (q:G (upd H p (.lst (xs.set j v)))):Aq9 (.ref p) (.int (j:Nat)) v H G:=by
 refine⟨p,xs,j,j,rfl,rfl,z,?_,q⟩
 unfold ixN
 rw [if_pos (by omega),if_pos (by omega),toNat_natCast]
theorem Xo (h:SqL K H a xs) (e:xs[j]? =some v) (q:R v H):Asm K (.ref a) (.int (j:Nat)) H R:=Lf h (Hq e) q
theorem Ez (z:SqT K H a (ns.map V.int)) (I:SqT K H b (ms.map V.int)) (h:R (.bl (f (decide (ns=ms)))) H):Ath K f (.ref a) (.ref b) H R:=⟨a,b,ns,ms,rfl,rfl,z,I,h⟩
theorem K8 (ns:List Int) (j:Nat) (x:Int):(ns.map V.int).set j (.int x)=(ns.set j x).map V.int:=by rw [List.map_set]
theorem Kz {ns:List Int}{j:Nat} (h:j<ns.length):(ns.map V.int)[j]? =some (.int ns[j]):=by rw [getElem?_map,getElem?_eq_getElem h];rfl
theorem Qo (k:Nat):(replicate k [V.int 0]).flatten=(replicate k (0:Int)).map V.int:=by
 induction k with
 | zero=>rfl
 | succ k z=>rw [replicate_succ,flatten_cons,z,replicate_succ,map_cons];rfl
end
section
variable {prog:Program}{w:World}{A:Around}{E:Value->Shared->Prop}{s:Shared}{j u:Addr}{i:Nat}{xs:Array Value}
theorem nextT {y:Value}{Q:Value->Shared->Prop} (J:s.heap.IsTupleIter j u i) (M:s.heap.IsTuple u xs) (O:xs[i]? =some y)
 (k:∀g,g.IsTupleIter j u (i+1)->Heap.SameBut j s.heap g->Q y { s with heap:=g}):wpAny (model prog w) A (Builtin.SmallTypes.nextOf (.ref j)) Q E s:=by
 obtain⟨Y,I,S,z⟩:=id J
 obtain⟨Z,U,_,nu,W⟩:=M
 unfold Builtin.SmallTypes.nextOf
 refine wpAny_bind (wpAny_callSpecial?_slot (name:=Str.ofString "__next__") J.typeIs F.slot_tuple_iterator_next (wpAny_call_entry F.slot_tuple_iterator_next J.typeIs F.entry_tuple_iterator_next ?_ (F.args_tuple_iterator_next_1 _)))
 show wpAny _ _ (field (.ref j) 0>>=_) _ _ s
 refine wpAny_bind (wpAny_field I z (x:= .ref u) rfl ?_)
 show wpAny _ _ (if(Value.ref u==Value.none)=true then _ else _) _ _ s
 rw [if_neg (show ¬((Value.ref u==Value.none)=true)from Bool.false_ne_true)]
 show wpAny _ _ (field (.ref j) 1>>=_) _ _ s
 refine wpAny_bind (wpAny_field I z (x:= .int i 0) rfl ?_)
 show wpAny _ _ (seqItems? (.ref u)>>=_) _ _ s
 refine wpAny_bind (wpAny_seqItems U W ?_)
 simp only [O,toNat_natCast]
 refine wpAny_bind (wpAny_setField I z (by simp) (wpAny_pure ⟨y,rfl,wpAny_pure (k _ ?_ (Heap.SameBut.update ..))⟩))
 exact⟨_,Heap.get?_update_self _ I (Obj.isFreed_of_fields (Obj.data_mapFields z _)),(Obj.cls_mapFields ..).trans S,by rw [Obj.data_mapFields z];simp [rawInt]⟩
theorem Wu {Q:Value->Shared->Prop} (M:A.handled=none) (z:s.heap.IsTupleIter j u i) (O:s.heap.IsTuple u xs) (S:xs[i]? =none)
 (k:∀g e,Heap.ExtBut j s.heap g->(∃o,g.get? e=some o/\o.cls= .type "StopIteration")->E (.ref e) { s with heap:=g}):wpAny (model prog w) A (Builtin.SmallTypes.nextOf (.ref j)) Q E s:=by
 obtain⟨Y,I,Z,J⟩:=id z
 obtain⟨ou,U,_,nu,W⟩:=O
 unfold Builtin.SmallTypes.nextOf
 refine wpAny_bind (wpAny_callSpecial?_slot (name:=Str.ofString "__next__") z.typeIs F.slot_tuple_iterator_next (wpAny_call_entry F.slot_tuple_iterator_next z.typeIs F.entry_tuple_iterator_next ?_ (F.args_tuple_iterator_next_1 _)))
 show wpAny _ _ (field (.ref j) 0>>=_) _ _ s
 refine wpAny_bind (wpAny_field I J (x:= .ref u) rfl ?_)
 show wpAny _ _ (if(Value.ref u==Value.none)=true then _ else _) _ _ s
 rw [if_neg (show ¬((Value.ref u==Value.none)=true)from Bool.false_ne_true)]
 show wpAny _ _ (field (.ref j) 1>>=_) _ _ s
 refine wpAny_bind (wpAny_field I J (x:= .int i 0) rfl ?_)
 show wpAny _ _ (seqItems? (.ref u)>>=_) _ _ s
 refine wpAny_bind (wpAny_seqItems U W ?_)
 simp only [S,toNat_natCast]
 refine wpAny_bind (wpAny_rule (wpAny_bind (wpAny_setField I J (by simp) ?_)))
 show wpAny _ A.in1 (newExc (.type "StopIteration") []>>=_) _ _ _
 refine wpAny_bind ?_
 simp only [newTuple,newExc]
 refine wpAny_bind (wpAny_newObj_type ?_ (by size_fits))
 refine wpAny_bind (m:=firstArgMember _ _) (wpAny_of_eq (a:=Value.none) (by first | rfl | (simp only [firstArgMember];rfl)) ?_)
 refine(wpAny_newObj_type ?_ (by size_fits))
 simp only [raiseNew]
 refine wpAny_bind (wpAny_handled ?_)
 first | rw [show A.in1.handled=none from M] | (rw [M])
 refine wpAny_bind (wpAny_pure (wpAny_throw ?_))
 exact k _ _ (((Heap.SameBut.update ..).extBut.push _).push _) ⟨_,Heap.get?_push_size _ rfl,rfl⟩
theorem Ahv {e:Addr}{y old:Value}{Q:Value->Shared->Prop} (he:IsEnum s.heap e j i old) (hj:s.heap.IsTupleIter j u i) (hu:s.heap.IsTuple u xs) (hy:xs[i]? =some y) (ne:e≠j)
 (k:∀g,IsEnumOut g e j ((i:Int)+1) y s.heap.objs.size->g.IsTupleIter j u (i+1)->g.get? s.heap.objs.size=some { cls:= .type "tuple",data:= .seq #[.int i s.toks,y]}->g.objs.size=s.heap.objs.size+1->
   (∀b o,b≠e->b≠j->s.heap.get? b=some o->g.get? b=some o)->Q (.ref s.heap.objs.size) { s with heap:=g,toks:=s.toks+1}):
 wpAny (model prog w) A (Builtin.«enumerate.__next__» ⟨[.ref e],[]⟩) (fun ag s'=>∃v,ag= .done (.ret v)/\Q v s') E s:=by
 obtain⟨hp,gg,d,tk,os⟩:=s
 show wpAny _ _ (field (.ref e) 2>>=_) _ _ _
 refine wpAny_bind (wpAny_field he rfl (x:= .ref j) rfl ?_)
 refine wpAny_bind (nextT hj hu hy fun U a5 z=> ?_)
 replace z:Heap.SameBut j hp U:=z
 have a0:IsEnum U e j i old:=(z.2 e ne).trans he
 show wpAny _ _ (field (.ref e) 3>>=_) _ _ ⟨U,gg,d,tk,os⟩
 refine wpAny_bind (wpAny_field a0 rfl (x:=rawInt i) rfl ?_)
 show wpAny _ _ (field (.ref e) 4>>=_) _ _ ⟨U,gg,d,tk,os⟩
 refine wpAny_bind (wpAny_field a0 rfl (x:= .none) rfl ?_)
 show wpAny _ _ (mkInt i>>=_) _ _ ⟨U,gg,d,tk,os⟩
 refine wpAny_bind (wpAny_mkInt ?_)
 show wpAny _ _ (setField (.ref e) 3 (rawInt ((i:Int)+1))>>=_) _ _ ⟨U,gg,d,tk+1,os⟩
 refine wpAny_bind (wpAny_setField_rec a0 (by simp) fun Z a1 I=> ?_)
 replace I:Heap.SameBut e U Z:=I
 replace a1:IsEnum Z e j ((i:Int)+1) old:=a1
 show wpAny _ _ (setField (.ref e) 4 .none>>=_) _ _ ⟨Z,gg,d,tk+1,os⟩
 refine wpAny_bind (wpAny_setField_rec a1 (by simp) fun W a2 J=> ?_)
 replace J:Heap.SameBut e Z W:=J
 replace a2:IsEnum W e j ((i:Int)+1) old:=a2
 show wpAny _ _ (newTuple [.int i tk,y]>>=_) _ _ ⟨W,gg,d,tk+1,os⟩
 refine wpAny_bind (wpAny_newTuple ?_)
 have a3:IsEnum (W.push { cls:= .type "tuple",data:= .seq #[.int i tk,y]}) e j ((i:Int)+1) old:=Heap.get?_push_of_some _ a2
 generalize hg:W.push { cls:= .type "tuple",data:= .seq #[.int i tk,y]}=Y at a3
 have sz:W.objs.size=hp.objs.size:=by rw [J.1,I.1,z.1]
 have lt:e<hp.objs.size:=Heap.lt_size he
 have ac:Y.get? hp.objs.size=some { cls:= .type "tuple",data:= .seq #[.int i tk,y]}:=by rw [<-hg,<-sz];exact Heap.get?_push_size _ rfl
 have ad:Y.objs.size=hp.objs.size+1:=by rw [<-hg,Heap.size_push,sz]
 have ae:∀b o,b≠e->b≠j->hp.get? b=some o->Y.get? b=some o:=fun b o h1 h2 hb=>by
  rw [<-hg];exact Heap.get?_push_of_some _ (J.extBut b o h1 (I.extBut b o h1 (z.extBut b o h2 hb)))
 have af:Y.IsTupleIter j u (i+1):=by
  rw [<-hg];obtain⟨o,ho,r⟩:=(a5.extBut I.extBut (Ne.symm ne)).extBut J.extBut (Ne.symm ne);exact⟨o,Heap.get?_push_of_some _ ho,r⟩
 show wpAny _ _ (Builtin.SmallTypes.ownedTupleIsFree (.ref e)>>=_) _ _ ⟨Y,gg,d,tk+1,os⟩
 rw [sz]
 clear hg a2 J a1 I a0 z a5 sz W Z U
 refine wpAny_bind ?_
 . unfold Builtin.SmallTypes.ownedTupleIsFree
   refine wpAny_bind (wpAny_field a3 rfl (x:= .none) rfl (wpAny_pure ?_))
   simp only [if_true]
   refine wpAny_bind (wpAny_rule ?_)
   refine wpAny_bind (wpAny_field a3 rfl (x:=old) rfl ?_)
   refine wpAny_bind (wpAny_setField_rec a3 (by simp) fun a4 a6 M=> ?_)
   replace M:Heap.SameBut e Y a4:=M
   replace a6:IsEnum a4 e j ((i:Int)+1) y:=a6
   show wpAny _ _ (Builtin.SmallTypes.ownedTupleHandOut (.ref e) (.ref hp.objs.size)>>=_) _ _ ⟨a4,gg,d,tk+1,os⟩
   refine wpAny_bind ?_
   . unfold Builtin.SmallTypes.ownedTupleHandOut
     refine wpAny_bind (wpAny_setField_rec a6 (by simp) fun a7 a8 O=> ?_)
     replace O:Heap.SameBut e a4 a7:=O
     replace a8:IsEnumOut a7 e j ((i:Int)+1) y hp.objs.size:=a8
     refine wpAny_setField_rec a8 (by simp) fun a9 aa S=> ?_
     replace S:Heap.SameBut e a7 a9:=S
     replace aa:IsEnumOut a9 e j ((i:Int)+1) y hp.objs.size:=aa
     refine wpAny_bind (wpAny_letGo (wpAny_pure ⟨_,rfl,k a9 aa ?_ ?_ ?_ ?_⟩))
     . exact((af.extBut M.extBut (Ne.symm ne)).extBut O.extBut (Ne.symm ne)).extBut S.extBut (Ne.symm ne)
     . exact S.extBut _ _ (ne_of_gt lt) (O.extBut _ _ (ne_of_gt lt) (M.extBut _ _ (ne_of_gt lt) ac))
     . rw [S.1,O.1,M.1,ad]
     . exact fun b o h1 h2 hb=>S.extBut b o h1 (O.extBut b o h1 (M.extBut b o h1 (ae b o h1 h2 hb)))
theorem Ahw {e:Addr}{y old:Value}{Q:Option Value->Shared->Prop} (z:IsEnum s.heap e j i old) (I:s.heap.IsTupleIter j u i) (J:s.heap.IsTuple u xs) (M:xs[i]? =some y) (ne:e≠j)
 (k:∀g,IsEnumOut g e j ((i:Int)+1) y s.heap.objs.size->g.IsTupleIter j u (i+1)->g.get? s.heap.objs.size=some { cls:= .type "tuple",data:= .seq #[.int i s.toks,y]}->g.objs.size=s.heap.objs.size+1->
   (∀b o,b≠e->b≠j->s.heap.get? b=some o->g.get? b=some o)->Q (some (.ref s.heap.objs.size)) { s with heap:=g,toks:=s.toks+1}):wpAny (model prog w) A (pyNext (.ref e)) Q E s:=by
 have ty:s.TypeIs (.ref e) "enumerate":=⟨_,z,rfl⟩
 unfold pyNext
 exact wpAny_bind (wpAny_attempt (wpAny_callSpecial?_slot (name:=Str.ofString "__next__") ty F.slot_enumerate_next (wpAny_call_entry F.slot_enumerate_next ty F.entry_enumerate_next
  (Ahv z I J M ne fun g a b c d f=>wpAny_pure (k g a b c d f)) (F.args_enumerate_next_1 _))))
theorem Ahx {e:Addr}{old:Value}{Q:Option Value->Shared->Prop} (I:A.handled=none) (z:IsEnum s.heap e j i old) (J:s.heap.IsTupleIter j u i) (M:s.heap.IsTuple u xs) (O:xs[i]? =none)
 (k:∀g,Heap.ExtBut j s.heap g->Q none { s with heap:=g}):wpAny (model prog w) A (pyNext (.ref e)) Q E s:=by
 have ty:s.TypeIs (.ref e) "enumerate":=⟨_,z,rfl⟩
 unfold pyNext
 refine wpAny_bind (wpAny_attempt (wpAny_callSpecial?_slot (name:=Str.ofString "__next__") ty F.slot_enumerate_next (wpAny_call_entry F.slot_enumerate_next ty F.entry_enumerate_next ?_ (F.args_enumerate_next_1 _))))
 show wpAny _ _ (field (.ref e) 2>>=_) _ _ _
 refine wpAny_bind (wpAny_field z rfl (x:= .ref j) rfl ?_)
 refine wpAny_bind (Wu I J M O fun g x S ⟨o,U,W⟩=> ?_)
 refine wpAny_bind (wpAny_isInstance (T:="StopIteration") (b:=true) ⟨o,U,W⟩ isSubtype_stop ?_)
 exact wpAny_pure (k _ S)
end
open AutoSeq1 (wpAny_loadPart')in
theorem Aer (u:Addr) (xs:Array Value) (o:Obj) (n:Nat) (M:o.cls= .type "tuple") (O:o.data= .seq xs n):
 Meets (Builtin.«enumerate.__new__» ⟨[.type "enumerate",.ref u],[]⟩) (fun _ R s=>s.heap.get? u=some o/\R (.ok (.ret (.ref (s.heap.push { cls:= .type "tuple_iterator",data:= .fields #[.ref u,.int 0 0]}).objs.size)))
  { s with heap:=(s.heap.push { cls:= .type "tuple_iterator",data:= .fields #[.ref u,.int 0 0]}).push { cls:= .type "enumerate",data:= .fields #[.none,.bool false,.ref s.heap.objs.size,rawInt 0,.none,.none]}}):=
 .of_wp fun prog w A R s h=>by
  obtain⟨S,g,d,tk,os⟩:=s;obtain⟨z,h⟩:=h
  obtain⟨U,Y,I,W⟩:=o
  obtain rfl:U= .type "tuple":=M
  obtain rfl:I= .seq xs n:=O
  have Z:=sub_enumerate
  have J:Heap.IsTuple (Shared.heap ⟨S,g,d,tk,os⟩) u xs:=⟨_,z,rfl,n,rfl⟩
  wp_walk using wpAny_loadPart' z
  refine wpAny_stack_any fun st=>wpAny_pure ?_
  split
  . rename_i c _ _ _ _ _
    cases(c==Value.type "enumerate")
    . wp_walk using wpAny_loadPart' z,wpAny_pyIter_tuple J
      exact⟨_,rfl,h⟩
    . wp_walk using wpAny_loadPart' z,wpAny_pyIter_tuple J
      exact⟨_,rfl,h⟩
  . wp_walk using wpAny_loadPart' z,wpAny_pyIter_tuple J
    exact⟨_,rfl,h⟩
section
variable {X:Cx}{pins:List (Addr × Obj)}{σ:St}{H:Hp}{s:Shared}{h':Heap}
theorem Inv.turnL {t':Nat}{fp:List Addr} (I:Inv X pins σ H s) (k:∀b o,b∉fp->s.heap.get? b=some o->h'.get? b=some o) (M:∀b∈fp,V5 X pins H b):Inv X pins σ H { s with heap:=h',toks:=t'}:=by
 have S:∀b u,H b=some u->b∉fp:=fun b u e z=>by
  have:=(M b z).1
  rw [this]at e
  cases e
 refine I.step (g':=s.gens) (d':=s.drawn) (ch:=fp) (fun b O=>⟨(M b O).2.2.2.1,(M b O).2.1,(M b O).2.2.2.2.1,(M b O).2.2.2.2.2⟩) (fun b o _ _ J e _=>k b o J e) (fun b o _ _ J e _=>⟨o.slots,k b o J e⟩) (fun _ _ _ _ n=>n)
  (fun b o J e=>⟨o,k b o J e⟩) (fun _ _ e=>e) (fun _ _ _ e=>e) (fun b ps e=>⟨#[],by rw [e];simp⟩) (fun m U=> ?_) (fun b u e=> ?_) I.bare
 . obtain⟨o,es,W,Y,r⟩:=U
   exact⟨o,es,W,k _ o (fun z=>(M _ z).2.1 rfl) Y,r⟩
 . refine(I.hok b u e).stay (fun c v J q=>k c v ?_ q) (fun _ q=>q) fun _ _ q=>q
   rcases J with z | z
   . rw [z]
     exact S b u e
   . exact S c _ z
end
noncomputable def Ite (K:Frag) (a:Addr):It:=
 ⟨fun i H=>∃xs x,SqT K H a xs/\xs[i]? =some x,fun i H x H'=>∃p v,(∀xs,SqT K H a xs->xs[i]? =some v)/\H p=none/\x= .ref p/\H'=upd H p (.tup [.int (i:Nat),v]),fun i H=>∃xs,SqT K H a xs/\xs.length<=i⟩
theorem Aoh {P:Program}{w:World}{K:Frag}{el:List Expr}{x1}{tp:Pos} (a e j:Addr) (ne:e≠j):Turn P w K (.Tuple el x1 tp) (Ite K a) [e,j] e (fun i h=>(∃old,IsEnum h e j i old)/\h.IsTupleIter j a i) where
 mem:=by simp
 obj:=fun i h st b J=>by
  obtain⟨⟨old,M⟩,oj,U,cj,dj⟩:=st
  rcases mem_cons.mp J with rfl | J
  . exact⟨_,M,fun v z=>by cases(show Data.fields _=Data.cell v from z)⟩
  . have z:b=j:=by simpa using J
    subst z
    exact⟨oj,U,fun v z=>by rw [dj]at z;cases z⟩
 keep:=fun i h h' st k=>by
  obtain⟨⟨old,M⟩,oj,U,r⟩:=st
  exact⟨⟨old,k e (by simp) _ M⟩,oj,k j (by simp) _ U,r⟩
 item:=by
  intro X hP hw hK hc i pins s σ H E I hf st hg
  subst hP hw hK
  obtain⟨xs,x,hq,hx⟩:=hg
  obtain⟨S,rv,p,hz⟩:=I.tuple hq
  obtain⟨u,hu,ru⟩:=rv.get hx
  obtain⟨⟨old,M⟩,hj⟩:=st
  refine Ahw M hj (show s.heap.IsTuple a S.toArray from p) (y:=u) (by simpa using hu) ne fun g Y a0 hT a5 kk=>⟨_,rfl,?_⟩
  refine wpAny_letOwnedTupleGo_enum Y fun g2 a1 O=> ?_
  replace O:Heap.SameBut e g g2:=O
  have a2:e<s.heap.objs.size:=Heap.lt_size M
  have a3:j<s.heap.objs.size:=by
   obtain⟨_,U,_⟩:=hj
   exact Heap.lt_size U
  have hn:H s.heap.objs.size=none:=I.fresh
  have I1:Inv X pins σ (upd H s.heap.objs.size (.tup [.int (i:Nat),x])) { s with heap:=s.heap.push { cls:= .type "tuple",data:= .seq #[.int i s.toks,u]},toks:=s.toks+1}:=
   I.laid (fun b o q=>Heap.get?_push_of_some _ q) (le_refl _) ⟨by show 2<=sizeLine;decide,[.int i s.toks,u],.cons ⟨_,rfl⟩ (.cons ru .nil),⟨_,Heap.get?_push_size _ rfl,rfl,_,rfl⟩⟩
  have Z:∀b∈ [e,j],V5 X pins (upd H s.heap.objs.size (.tup [.int (i:Nat),x])) b:=fun b J=>by
   have nb:b≠s.heap.objs.size:=by
    rcases mem_cons.mp J with rfl | a4
    . exact ne_of_lt a2
    . have z:b=j:=by simpa using a4
      subst z
      exact ne_of_lt a3
   exact⟨by rw [Cr nb];exact(hf b J).1,(hf b J).2⟩
  have I2:=I1.turnL (h':=g2) (t':=s.toks+1) (fp:=[e,j]) (fun b o J q=>by
   have n1:b≠e:=fun z=>J (by simp [z])
   have n2:b≠j:=fun z=>J (by simp [z])
   refine(O.2 b n1).trans ?_
   rcases Heap.get?_push_cases q with⟨rfl,rfl⟩ | q0
   . exact hT
   . exact kk b o n1 n2 q0) Z
  refine⟨.ref s.heap.objs.size,_,I2,rfl,⟨_,x,fun ys hy=>by rw [I.tuple_inj hy hq];exact hx,hn,rfl,rfl⟩,⟨⟨_,by simpa using a1⟩,?_⟩,fun b J=>(Z b J).1⟩
  exact a0.extBut O.extBut (Ne.symm ne)
 done:=by
  intro X hP hw hK hc i pins s σ H E I hf st hg
  subst hP hw hK
  obtain⟨xs,hq,hx⟩:=hg
  obtain⟨S,rv,p,hz⟩:=I.tuple hq
  obtain⟨⟨old,M⟩,hj⟩:=st
  have hl:=rv.length
  exact Ahx (I.ok.hd hc) M hj (show s.heap.IsTuple a S.toArray from p) (by simp;omega) fun g eb=>⟨rfl,I.turnL (t':=s.toks) (fp:=[e,j]) (fun b o J q=>eb b o (fun z=>J (by simp [z])) q) hf⟩
 self:=fun _ _ _ _ _ st h=>by
  obtain⟨⟨old,M⟩,_⟩:=st
  exact wpAny_pyIter_enum M h
section
variable {X:Cx}{a:Expr}{ta:TA}{el:List Expr}{x1}{tp p pos:Pos}
noncomputable def iEn (K:Frag) (ta:TA):TI:=fun σ H R=>ta σ H fun vs H1=>∃a,vs=[.ref a]/\(∃xs,SqT K H1 a xs)/\R (Ite K a) H1
theorem Aqw (hg:Gl X "enumerate") (hm:X.mg "enumerate"=none) (ha:PA X [a] ta) (hs:starEach [a] X.env=[(false,eval a X.env)]:=by rfl):PI X (.Tuple el x1 tp) (.Call (.Name "enumerate" p) [a] [] pos) (iEn X.K ta):=by
 intro pins s σ H R I h
 refine Call_ (Mt I hg hm boot_enumerate (PyProof.Rows.callWith_type1 (thn (ha pos pins s σ H _ I h) fun us J ⟨vs,H1,U,r1,q1⟩=> ?_) hs rfl))
 obtain⟨b,rfl,⟨xs,hq⟩,q⟩:=q1
 obtain⟨v,rfl,rv⟩:=vals1 r1
 cases rv
 obtain⟨O,rr,pl,hz⟩:=U.tuple hq
 obtain⟨o,ho,hc,n,hd⟩:=(show J.heap.IsTuple b O.toArray from pl)
 refine callType_new F.called_enumerate (by decide) (F.typeCall_enumerate_1 _) (F.newCall_enumerate_1 _) (fun obj=>F.args_object_init_2 obj _) F.entry_enumerate_new (Aer b O.toArray o n hc hd) ⟨ho,?_⟩
 have Y:(J.heap.push { cls:= .type "tuple_iterator",data:= .fields #[.ref b,.int 0 0]}).objs.size=J.heap.objs.size+1:=Heap.size_push ..
 show _/\_
 rw [Y]
 have W:IsEnum ((J.heap.push { cls:= .type "tuple_iterator",data:= .fields #[.ref b,.int 0 0]}).push { cls:= .type "enumerate",data:= .fields #[.none,.bool false,.ref J.heap.objs.size,rawInt 0,.none,.none]}) (J.heap.objs.size+1) J.heap.objs.size ((0:Nat):Int) .none:=by
  have Z:=Heap.get?_push_size (J.heap.push { cls:= .type "tuple_iterator",data:= .fields #[.ref b,.int 0 0]}) (o:={ cls:= .type "enumerate",data:= .fields #[.none,.bool false,.ref J.heap.objs.size,rawInt 0,.none,.none]}) rfl
  rw [Y]at Z
  exact Z
 have hj:Heap.IsTupleIter ((J.heap.push { cls:= .type "tuple_iterator",data:= .fields #[.ref b,.int 0 0]}).push { cls:= .type "enumerate",data:= .fields #[.none,.bool false,.ref J.heap.objs.size,rawInt 0,.none,.none]}) J.heap.objs.size b 0:=
  ⟨_,Heap.get?_push_of_some _ (Heap.get?_push_size _ rfl),rfl,rfl⟩
 have I2:Inv X pins σ H1 { J with heap:=(J.heap.push { cls:= .type "tuple_iterator",data:= .fields #[.ref b,.int 0 0]}).push { cls:= .type "enumerate",data:= .fields #[.none,.bool false,.ref J.heap.objs.size,rawInt 0,.none,.none]}}:=
  U.kept (t':=J.toks) fun c o' e=>Heap.get?_push_of_some _ (Heap.get?_push_of_some _ e)
 refine⟨⟨_,W,rfl⟩,wpAny_pyIter_enum W ⟨J.heap.objs.size+1,[J.heap.objs.size+1,J.heap.objs.size],_,_,H1,rfl,I2,Aoh b _ _ (ne_of_gt (Nat.lt_succ_self _)),⟨⟨_,W⟩,hj⟩,fun c M=> ?_,q⟩⟩
 have S:J.heap.objs.size<=c:=by
  rcases mem_cons.mp M with rfl | M
  . exact Nat.le_succ _
  . have z:c=J.heap.objs.size:=by simpa using M
    exact le_of_eq z.symm
 exact U.fpOk S (U.hok.fresh S)
end
theorem Auj {K:Frag}{σ:St}{H:Hp}{ta:TA}{R:It->Hp->Prop}:iEn K ta σ H R=ta σ H (fun z H1=>∃a,z=[.ref a]/\(∃xs,SqT K H1 a xs)/\R (Ite K a) H1):=rfl
theorem Ad0 {K:Frag}{σ:St}{H:Hp}{g:TG}{tb:TS}{D:Ends}{α:Type}{es:List α}{inj:α->V}{a:Addr} (J:List α->St->Hp->Prop) (Y:J [] σ H) (Z:∀I σ H,J I σ H->SqT K H a (es.map inj))
 (hs:∀I e M σ H p,es=I++e::M->J I σ H->H p=none->g (.ref p) σ (upd H p (.tup [.int (I.length:Nat),inj e])) fun S H2=>tb { D with nx:=J (I++ [e]),ct:=J (I++ [e]),bk:=D.nx} S H2) (hd:∀σ H,J es σ H->D.nx σ H):FI (Ite K a) g tb D σ H:=by
 refine⟨fun i m σ H=>m=es.length-i/\i<=es.length/\J (es.take i) σ H,⟨es.length,by simp,zero_le _,Y⟩,?_⟩
 rintro i m σ H ⟨rfl,hi,p⟩
 have w:=Z _ _ _ p
 cases he:es[i]? with
 | none=>
   have e:i=es.length:=le_antisymm hi (List.getElem?_eq_none_iff.mp he)
   subst e
   rw [take_length]at p
   exact .inl ⟨⟨_,w,by rw [length_map];exact le_refl _⟩,hd _ _ p⟩
 | some e=>
   obtain⟨O,ee⟩:=List.getElem?_eq_some_iff.mp he
   have tk:es.take (i+1)=es.take i++ [e]:=by rw [take_succ,he];rfl
   have sp:es=es.take i++e::es.drop (i+1):=by
    rw [<-ee,<-List.drop_eq_getElem_cons O,List.take_append_drop]
   refine .inr ⟨⟨_,inj e,w,by rw [getElem?_map,he];rfl⟩,J (es.take i++ [e]),fun a0 H' q=>⟨es.length-(i+1),by omega,rfl,O,by rw [tk];exact q⟩,fun x H' y=> ?_⟩
   obtain⟨b,v,y1,y2,rfl,rfl⟩:=y
   have U:=y1 _ w
   rw [getElem?_map,he]at U
   obtain rfl:inj e=v:=Option.some.inj U
   have hl:(es.take i).length=i:=by rw [length_take];omega
   have z:=hs _ e _ σ H b sp p y2
   rw [hl]at z
   exact z
section
variable {X:Cx}
noncomputable def Ate (K:Frag):R2:=fun x y H Q=>∃a b xs ys,x= .ref a/\y= .ref b/\SqT K H a xs/\SqT K H b ys/\xs.length+ys.length<=sizeLine/\∀z H',Same H H'->SqT K H' z (xs++ys)->Q (.ref z) H'
theorem Am4:OpR X (binaryOp .Add) (Ate X.K):=by
 intro pins s σ H x y v u Q I W Y h
 obtain⟨a,b,xs,ys,rfl,rfl,S,U,hz,q⟩:=h
 by_cases Z:xs=[]
 . subst Z
   cases W
   cases Y
   obtain⟨a0,r1,p1,_⟩:=I.tuple S
   obtain⟨z,r2,p2,_⟩:=I.tuple U
   cases r1
   obtain⟨⟨c1,d1,t1,l1⟩,ho,hc,n,hd⟩:=(show s.heap.IsTuple a ([]:List Value).toArray from p1)
   obtain⟨⟨c2,d2,t2,l2⟩,J,M,n2,O⟩:=(show s.heap.IsTuple b z.toArray from p2)
   simp only at hc hd M O
   subst hc hd M O
   exact concat_meets ⟨_,ho,rfl⟩ ⟨_,J,rfl⟩ noFill_tuple_add seq_tuple_add slot_tuple_add entry_tuple_add (args_tuple_add_2 _ _)
    (tuple_addW0 a b #[] z.toArray n n2 d1 d2 l1 l2 rfl) ⟨ho,J,⟨.ref b,H,I,rfl,q b H (Same.refl _) U⟩⟩
 . exact Am5 pins s σ H _ _ v u Q I W Y ⟨a,b,xs,ys,rfl,rfl,S,U,Z,hz,fun e=>q a H (Same.refl _) (by rw [e,append_nil];exact S),fun _ p hp=>q p _ (Same.upd hp _) (.of Ao)⟩
theorem Ahk (hc:X.calm=true):Hv X (.builtin "all") (fun xs H Q=>∃(a:Addr) (bs:List Bool),xs=[.ref a]/\SqL X.K H a (bs.map V.bl)/\Q (.bl (bs.all id)) H):=by
 intro pins s σ H xs us Q I r h
 obtain⟨a,bs,rfl,ha,q⟩:=h
 obtain⟨u,rfl,ru⟩:=vals1 r
 cases ru
 obtain⟨z,U,p,hz⟩:=I.list ha
 have M:s.heap.IsList a z.toArray:=p.isList
 have lt:a<s.heap.objs.size:=by
  obtain⟨_,e,_⟩:=M
  exact Heap.lt_size e
 have ln:z.length=bs.length:=by
  have:=U.length
  rw [length_map]at this
  exact this.symm
 refine call_all_walk (wpAny_pyIter_list M ?_)
 refine⟨s.heap.objs.size,[s.heap.objs.size,a],[s.heap.objs.size],z.toArray.size,_,_,fun i=>(bs[i]?).getD true,rfl,Walks.list (A:=X.A.in1) (I.ok.hd hc) _ a (ne_of_lt lt) z.toArray,
  ⟨⟨_,Heap.get?_push_size _ rfl,rfl,rfl⟩,M.push _⟩,fun i v s' Q' E' hP W=> ?_,fun g tk hk=> ?_⟩
 . have hv:z[i]? =some v:=by simpa using hP
   have hi:i<z.length:=(List.getElem?_eq_some_iff.mp hv).1
   have Y:bs[i]? =some bs[i]:=getElem?_eq_getElem (by omega)
   obtain⟨w',Z,O⟩:=U.get (show(bs.map V.bl)[i]? =some (V.bl bs[i])by rw [getElem?_map,Y];rfl)
   rw [hv]at Z
   cases Z
   cases O
   simp only [Y,Option.getD_some]at W
   exact wpAny_truthy_bool W
 . have e:((List.range z.toArray.size).all fun i=>(bs[i]?).getD true)=bs.all id:=by
    rw [size_toArray,ln,Bool.eq_iff_iff,all_eq_true,all_eq_true]
    constructor
    . intro h x hx
      obtain⟨i,hi,ei⟩:=getElem_of_mem hx
      have:=h i (mem_range.mpr hi)
      rw [getElem?_eq_getElem hi,ei]at this
      exact this
    . intro h i hi
      have J:=mem_range.mp hi
      rw [getElem?_eq_getElem J]
      exact h _ (getElem_mem J)
   rw [e]
   exact⟨.bl _,H,I.kept (t':=tk) fun b o S=>hk b o (fun hm=>by rw [mem_singleton.mp hm]at S;exact lt_irrefl _ (Heap.lt_size S)) (Heap.get?_push_of_some _ S),rfl,q⟩
end
theorem Aez:fillsNumberSlot (.type "tuple") "mul"=pure false:=
 PySem.fillsNumberSlot_seq (id:="tuple.__mul__") (r:=some (.builtin "tuple.__rmul__")) slot_tuple_mul.lookup (by decide+kernel) PySem.F.slot_tuple_rmul.lookup (by decide+kernel)
theorem Arb:seqRepeat? (.type "tuple")=pure (some (.builtin "tuple.__mul__")):=by
 unfold seqRepeat?
 rw [PySem.seqSlot_of (T:="tuple") (name:="__mul__") (id:="tuple.__mul__") slot_tuple_mul.lookup (by decide+kernel),PySem.seqSlot_of (T:="tuple") (name:="__rmul__") (id:="tuple.__rmul__") PySem.F.slot_tuple_rmul.lookup (by decide+kernel)]
 rfl
theorem Anv (k:Int) (t:Tok) (u:Addr) (o:Obj) (xs:Array Value) (n:Nat) (I:o.cls= .type "tuple") (J:o.data= .seq xs n):
 Meets (Builtin.«int.__rmul__» ⟨[.int k t,.ref u],[]⟩) (fun _ R s=>s.heap.get? u=some o/\R (.ok (.ret Value.notImplemented)) s):=
 .of_wp fun prog w A R s h=>by
  obtain⟨S,g,d,tk,os⟩:=s;obtain⟨U,h⟩:=h
  obtain⟨M,W,z,O⟩:=o
  obtain rfl:M= .type "tuple":=I
  obtain rfl:z= .seq xs n:=J
  wp_walk
  exact⟨_,rfl,h⟩
open AutoSeq1 (wpAny_loadPart')in
theorem Ap8 (k:Int) (t:Tok) (u:Addr) (xs:Array Value) (n:Nat) (dd:Option Addr) (O:Array (Option Value)) (k0:¬k<=0) (k1:¬k=1) (k2:k<1000) (J:¬xs.isEmpty=true) (S:xs.size*k.toNat<=100000):
 Meets (Builtin.«tuple.__mul__» ⟨[.ref u,.int k t],[]⟩) (fun _ R s=>s.heap.get? u=some { cls:= .type "tuple",dict:=dd,data:= .seq xs n,slots:=O}/\
  R (.ok (.ret (.ref s.heap.objs.size))) { s with heap:=s.heap.push { cls:= .type "tuple",data:= .seq ((replicate k.toNat xs).foldl (· ++ ·) #[])}}):=
 .of_wp fun prog w A R s h=>by
  obtain⟨U,g,d,tk,os⟩:=s;obtain⟨M,h⟩:=h
  have f1:=AutoSeq1.idx_int
  have f2:=AutoSeq1.sub_tuple_tuple
  have W:0<xs.size:=by
   cases xs with
   | mk l=>
     cases l with
     | nil=>exact absurd rfl J
     | cons a r=>simp
  have Y:(k.toNat:Int)=k:=Int.toNat_of_nonneg (by omega)
  have zz:(xs.size:Int)*k<=100000:=by
   rw [<-Y,<-natCast_mul]
   omega
  have Z:¬(decide (k< -2^63)||decide (k>=2^63))=true:=by simp;omega
  have g2:¬(xs.isEmpty||k==1)=true:=by
   rw [or_eq_true]
   rintro(z | z)
   . exact J z
   . exact k1 (by simpa using z)
  have g3:¬(decide (k<=0)||xs.isEmpty)=true:=by
   rw [or_eq_true]
   rintro(z | z)
   . exact k0 (by simpa using z)
   . exact J z
  have g4:¬((xs.size:Int)*k>(2^63-1)/8):=by omega
  have g5:¬Builtin.Tuple.tupleTooMany ((xs.size:Int)*k)=true:=by
   unfold Builtin.Tuple.tupleTooMany
   have:(100000:Nat)<=sizeLine:=by decide
   simp only [decide_eq_true_eq]
   omega
  have sz:((replicate k.toNat xs).foldl (· ++ ·) #[]).size<=sizeLine:=by
   have e:∀(m:Nat) (I:Array Value),((replicate m xs).foldl (· ++ ·) I).size=I.size+m*xs.size:=fun m=>by
    induction m with
    | zero=>intro I;simp
    | succ m ih=>
      intro I
      rw [replicate_succ,foldl_cons,ih,Array.size_append,succ_mul]
      omega
   rw [e]
   have:(100000:Nat)<=sizeLine:=by decide
   rw [Nat.mul_comm]at S
   simp only [Array.size_empty]
   omega
  have hT:Heap.IsTuple U u xs:=⟨_,M,rfl,n,rfl⟩
  wp_walk using wpAny_loadPart' M
  rw [if_neg Z]
  refine wpAny_bind (tupleItemsOf_ hT ?_)
  dsimp only
  rw [if_neg g2,if_neg g3,if_neg g4,if_neg g5]
  exact wpAny_bind (wpAny_newObj_type (wpAny_pure ⟨_,rfl,h⟩) sz)
open AutoSeq1 (wpAny_loadPart')in
theorem Amw (t:Tok) (u:Addr) (xs:Array Value) (n:Nat) (dd:Option Addr) (I:Array (Option Value)):
 Meets (Builtin.«tuple.__mul__» ⟨[.ref u,.int 1 t],[]⟩) (fun _ R s=>s.heap.get? u=some { cls:= .type "tuple",dict:=dd,data:= .seq xs n,slots:=I}/\R (.ok (.ret (.ref u))) s):=
 .of_wp fun prog w A R s h=>by
  obtain⟨J,g,d,tk,os⟩:=s;obtain⟨z,h⟩:=h
  have M:=AutoSeq1.idx_int
  have O:=AutoSeq1.sub_tuple_tuple
  have S:¬(decide ((1:Int)< -2^63)||decide ((1:Int)>=2^63))=true:=by decide
  have U:(xs.isEmpty||(1:Int)==1)=true:=by simp
  have W:Heap.IsTuple J u xs:=⟨_,z,rfl,n,rfl⟩
  wp_walk using wpAny_loadPart' z
  exact⟨_,rfl,h⟩
open AutoSeq1 (wpAny_loadPart')in
theorem Amv (t:Tok) (u:Addr) (xs:Array Value) (n:Nat) (dd:Option Addr) (I:Array (Option Value)) (J:¬xs.isEmpty=true):
 Meets (Builtin.«tuple.__mul__» ⟨[.ref u,.int 0 t],[]⟩) (fun _ R s=>s.heap.get? u=some { cls:= .type "tuple",dict:=dd,data:= .seq xs n,slots:=I}/\
  R (.ok (.ret (.ref s.heap.objs.size))) { s with heap:=s.heap.push { cls:= .type "tuple",data:= .seq #[]}}):=
 .of_wp fun prog w A R s h=>by
  obtain⟨M,g,d,tk,os⟩:=s;obtain⟨z,h⟩:=h
  have O:=AutoSeq1.idx_int
  have S:=AutoSeq1.sub_tuple_tuple
  have U:¬(decide ((0:Int)< -2^63)||decide ((0:Int)>=2^63))=true:=by decide
  have W:¬(xs.isEmpty||(0:Int)==1)=true:=by simpa using J
  have Y:(decide ((0:Int)<=0)||xs.isEmpty)=true:=by simp
  have Z:Heap.IsTuple M u xs:=⟨_,z,rfl,n,rfl⟩
  wp_walk using wpAny_loadPart' z
  exact⟨_,rfl,h⟩
section
variable {X:Cx}
noncomputable def Ati (K:Frag):R2:=fun x y H Q=>∃(a:Addr) (k:Nat) (xs:List V),x= .ref a/\y= .int (k:Nat)/\SqT K H a xs/\xs≠ []/\k<1000/\xs.length*k<=100000/\∀z H',Same H H'->SqT K H' z (replicate k xs).flatten->Q (.ref z) H'
theorem Am9:OpR X (binaryOp .Mult) (Ati X.K):=by
 intro pins s σ H x y v u Q I rx ry h
 obtain⟨a,k,xs,rfl,rfl,ha,hx,hk,hz,q⟩:=h
 cases rx
 obtain⟨t,rfl⟩:=ry
 obtain⟨J,S,p1,_⟩:=I.tuple ha
 obtain⟨⟨c1,W,t1,Y⟩,M,hc,n,hd⟩:=(show s.heap.IsTuple a J.toArray from p1)
 simp only at hc hd
 subst hc hd
 have O:¬J.toArray.isEmpty=true:=by
  have:=fun z=>hx (S.nil_iff.mp z)
  simpa using this
 refine wpAny_binaryOp_repeat_ref (T:="tuple") (U:="int") (by decide) ⟨_,M,rfl⟩ (fun s'=>typeIs_int s' k t) Aez F.fills_int_mul F.slot_int_rmul Arb F.slot_int_index.lookup
  (call_meets F.slot_int_rmul (typeIs_int s k t) F.entry_int_rmul (F.args_int_rmul_2 _ _) (Anv k t a _ J.toArray n rfl rfl) ⟨M,rfl,⟨_,M,rfl⟩,?_⟩)
 by_cases k0:k=0
 . subst k0
   refine call_meets F.slot_tuple_mul ⟨_,M,rfl⟩ F.entry_tuple_mul (F.args_tuple_mul_2 _ _) (Amv t a J.toArray n W Y O) ⟨M,?_⟩
   exact⟨.ref s.heap.objs.size,_,I.laid (t':=s.toks) (o:= .tup []) (fun b ob Z=>Heap.get?_push_of_some _ Z) (le_refl _) ⟨zero_le _,[],.nil,IsTup.new _ _⟩,rfl,q _ _ (Same.upd I.fresh _) (.of Ao)⟩
 by_cases k1:k=1
 . subst k1
   refine call_meets F.slot_tuple_mul ⟨_,M,rfl⟩ F.entry_tuple_mul (F.args_tuple_mul_2 _ _) (Amw t a J.toArray n W Y) ⟨M,?_⟩
   exact⟨.ref a,H,I,rfl,q a H (Same.refl _) (by simpa using ha)⟩
 have kt:((k:Nat):Int).toNat=k:=toNat_natCast k
 refine call_meets F.slot_tuple_mul ⟨_,M,rfl⟩ F.entry_tuple_mul (F.args_tuple_mul_2 _ _) (Ap8 k t a J.toArray n W Y (by omega) (by omega) (by omega) O (by rw [size_toArray,kt,<-S.length];exact hz)) ⟨M,?_⟩
 have e:(replicate ((k:Nat):Int).toNat J.toArray).foldl (· ++ ·) #[]=(replicate k J).flatten.toArray:=by
  rw [kt]
  have:=foldl_rep J k []
  rw [nil_append]at this
  exact this
 rw [e]
 refine⟨.ref s.heap.objs.size,_,I.laid (t':=s.toks) (o:= .tup (replicate k xs).flatten) (fun b ob Z=>Heap.get?_push_of_some _ Z) (le_refl _) ⟨?_,_,S.rep k,IsTup.new _ _⟩,rfl,q _ _ (Same.upd I.fresh _) (.of Ao)⟩
 rw [len_rep,Nat.mul_comm]
 exact le_trans hz (by decide)
end
section
variable {X:Cx}
theorem Ah9 (K:Frag) (h:X.K=K:=by rfl):IxR X (Asm K):=by subst h;exact Ea
theorem Aek (K:Frag) (h:X.K=K:=by rfl):IxR X (Aq8 K):=by subst h;exact Bd
end
section
variable {X:Cx}
theorem Ahl:Hv X (.builtin "isinstance") (fun xs H Q=>∃(a:Addr) (ys:List V) (T:String) (b:Bool),xs=[.ref a,.ty T]/\SqT X.K H a ys/\kitOne X.K (.type "tuple") (.type T)=some b/\Q (.bl b) H):=by
 intro pins s σ H xs Y Q I r h
 obtain⟨a,ys,T,b,rfl,M,O,q⟩:=h
 obtain⟨u,c,rfl,S,U⟩:=vals2 r
 cases U
 cases S
 obtain⟨J,Z,p,_⟩:=I.tuple M
 obtain⟨o,h1,h2,_⟩:=(show s.heap.IsTuple a J.toArray from p)
 exact kia_one kitx_tuple I.kIn ⟨o,h1,h2⟩ O (fun z=>nomatch z) fun tk=>⟨.bl b,H,I.tok tk,rfl,q⟩
end
section
variable {prog:Program}{w:World}{A:Around}{E:Value->Shared->Prop}{s:Shared}
theorem Ag6 {t I:Addr}{ys:Array Value}{O S:Value}{lo hi:Option Int}{Q:Value->Shared->Prop} (z:IsTup s.heap t ys) (hs:s.heap.IsSliceOf I O S .none) (U:IsPart O lo) (W:IsPart S hi)
 (Y:HT.sIx ys.size 0 lo=0) (Z:HT.sIx ys.size ys.size hi=ys.size) (h:Q (.ref t) s):wpAny (model prog w) A (getItem (.ref t) (.ref I)) Q E s:=by
 obtain⟨os,J,cs,ds⟩:=id hs
 have ty:s.TypeIs (.ref I) "slice":=⟨os,J,cs⟩
 unfold getItem
 try with_reducible refine(wpAny_holding ?_)
 first | refine(wpAny_bind (wpAny_pure ?_)) | skip
 refine wpAny_bind (wpAny_sequenceKey z.typeIs (by decide) (?_))
 refine wpAny_bind (wpAny_callSpecial?_slot (name:=Str.ofString "__getitem__") z.typeIs PyProof.Rows.slot_tuple_getitem (wpAny_call_entry PyProof.Rows.slot_tuple_getitem z.typeIs entry_tuple_getitem ?_ (args_tuple_getitem _ _)))
 show wpAny _ A.in1 (Builtin.Tuple.tupleItemsOf (.ref t)>>=_) _ _ s
 refine wpAny_bind (tupleItemsOf_ z (?_))
 refine wpAny_bind (wpAny_typeOf ty ?_)
 rw [if_pos (by decide)]
 refine wpAny_bind (HT.Jy hs U W ?_)
 have M:(((HT.sIx ys.size 0 lo:Nat):Int)==0&&(1:Int)==1&&(HT.sIx ys.size ys.size hi-HT.sIx ys.size 0 lo)==ys.size)=true:=by
  rw [Y,Z]
  simp
 show wpAny _ A.in1 (if(((HT.sIx ys.size 0 lo:Nat):Int)==0&&(1:Int)==1&&(HT.sIx ys.size ys.size hi-HT.sIx ys.size 0 lo)==ys.size)=true then _ else _) _ _ s
 rw [if_pos M]
 refine wpAny_bind ?_
 unfold Builtin.Tuple.tupleIsExact
 refine wpAny_bind (wpAny_typeOf z.typeIs (wpAny_pure ?_))
 rw [if_pos (by decide)]
 exact wpAny_bind (wpAny_rule (wpAny_pure ⟨_,rfl,wpAny_pure h⟩))
end
section
variable {X:Cx}
noncomputable def Avs (K:Frag):V->Option Int->Option Int->Hp->VK->Prop:=fun x lo hi H Q=>∃a xs,x= .ref a/\SqT K H a xs/\∀z H',Same H H'->SqT K H' z (O6 xs lo hi)->Q (.ref z) H'
theorem Zk:SlR X (Avs X.K):=by
 intro pins s σ H x v Z vu lo hi sl Q I S hs U W h
 obtain⟨a,xs,rfl,M,q⟩:=h
 by_cases J:HT.sIx xs.length 0 lo=0/\HT.sIx xs.length xs.length hi=xs.length
 . cases S
   obtain⟨O,r,Y,hz⟩:=I.tuple M
   have z:O.toArray.size=xs.length:=by rw [size_toArray];exact r.length.symm
   refine⟨"tuple",_,PyProof.Rows.slot_tuple_getitem.lookup,Y.typeIs,Ag6 Y hs U W (by rw [z];exact J.1) (by rw [z];exact J.2) ⟨.ref a,H,I,rfl,q a H (Same.refl _) ?_⟩⟩
   have e:O6 xs lo hi=xs:=by
    unfold O6
    rw [J.1,J.2,List.drop_zero,sub_zero,take_length]
   rw [e]
   exact M
 . exact Arn pins s σ H _ v Z vu lo hi sl Q I S hs U W ⟨a,xs,rfl,M,J,fun p hp=>q p _ (Same.upd hp _) (.of Ao)⟩
noncomputable def Avp (K:Frag):R2:=fun x y H Q=>∃a xs i v,x= .ref a/\y= .int i/\(SqL K H a xs\/SqT K H a xs)/\atI xs i=some v/\Q v H
theorem Apl:IxR X (Avp X.K):=by
 intro value slice pins s σ H x y v u Q I J M h hs
 obtain⟨a,xs,i,w,rfl,rfl,z,e,q⟩:=h
 rcases z with z | z
 . exact Ea value slice pins s σ H _ _ v u Q I J M ⟨a,xs,i,w,rfl,rfl,z,e,q⟩ hs
 . exact Bd value slice pins s σ H _ _ v u Q I J M ⟨a,xs,i,w,rfl,rfl,z,e,q⟩ hs
noncomputable def Ava (K:Frag):V->Option Int->Option Int->Hp->VK->Prop:=fun x lo hi H Q=>∃a xs,x= .ref a/\((SqL K H a xs/\∀z H',Same H H'->SqL K H' z (O6 xs lo hi)->Q (.ref z) H')\/(SqT K H a xs/\∀z H',Same H H'->SqT K H' z (O6 xs lo hi)->Q (.ref z) H'))
theorem Arm:SlR X (Ava X.K):=by
 intro pins s σ H x v z J lo hi M Q I O hs S U h
 obtain⟨a,xs,rfl,h | h⟩:=h
 . exact Od pins s σ H _ v z J lo hi M Q I O hs S U ⟨a,xs,rfl,h.1,fun p W=>h.2 p _ (Same.upd W _) (.of Ao)⟩
 . exact Zk pins s σ H _ v z J lo hi M Q I O hs S U ⟨a,xs,rfl,h.1,h.2⟩
end
theorem Ahi (n:Nat):Builtin.Slice.sliceAdjust none none (-1) (n:Int)=((n:Int)-1,-1):=by
 unfold Builtin.Slice.sliceAdjust
 rfl
theorem Ani (n:Nat):Builtin.Slice.slicePlaces ((n:Int)-1) (-1) (-1)=n:=by
 unfold Builtin.Slice.slicePlaces
 have h1:¬(-1:Int)>0:=by omega
 simp only [h1,if_false]
 split
 . first | omega | (simp;done) | (simp;omega)
 . omega
theorem Ad1 {α z:Type}{f:α->Option z}{g:α->z}:∀ {l:List α},(∀k∈l,f k=some (g k))->l.filterMap f=l.map g
 | [],_=>rfl
 | a::r,h=>by rw [filterMap_cons,h a mem_cons_self,map_cons,Ad1 fun k I=>h k (mem_cons_of_mem _ I)]
theorem W4 (xs:List Value):((List.range xs.length).filterMap fun(k:Nat)=>xs.toArray[(((xs.length:Nat):Int)-1+(k:Int)*(-1)).toNat]?)=xs.reverse:=by
 have h:∀k∈List.range xs.length,xs.toArray[(((xs.length:Nat):Int)-1+(k:Int)*(-1)).toNat]? =some (xs.reverse.getD k .none):=fun k I=>by
  have z:=mem_range.mp I
  have e:((((xs.length:Nat):Int)-1+(k:Int)*(-1)).toNat)=xs.length-1-k:=by omega
  rw [e,List.getElem?_toArray,getD_eq_getElem?_getD,List.getElem?_reverse z,getElem?_eq_getElem (by omega)]
  rfl
 rw [Ad1 h]
 refine ext_getElem (by simp) fun i h1 h2=> ?_
 have hi:i<xs.length:=by simpa using h2
 simp [getD_eq_getElem?_getD,hi]
section
variable {prog:Program}{w:World}{A:Around}{E:Value->Shared->Prop}{s:Shared}
theorem Anu {t I:Addr}{ys:List Value}{tk:Tok}{Q:Value->Shared->Prop} (J:IsTup s.heap t ys.toArray) (hs:s.heap.IsSliceOf I .none .none (.int (-1) tk)) (O:ys.length<=sizeLine)
 (h:Q (.ref s.heap.objs.size) { s with heap:=s.heap.push { cls:= .type "tuple",data:= .seq ys.reverse.toArray}}):wpAny (model prog w) A (getItem (.ref t) (.ref I)) Q E s:=by
 obtain⟨os,z,S,ds⟩:=id hs
 have ty:s.TypeIs (.ref I) "slice":=⟨os,z,S⟩
 have M:sizeOk (.seq ys.reverse.toArray):=by
  show ys.reverse.toArray.size<=sizeLine
  simpa using O
 unfold getItem
 try with_reducible refine(wpAny_holding ?_)
 first | refine(wpAny_bind (wpAny_pure ?_)) | skip
 refine wpAny_bind (wpAny_sequenceKey J.typeIs (by decide) (?_))
 refine wpAny_bind (wpAny_callSpecial?_slot (name:=Str.ofString "__getitem__") J.typeIs PyProof.Rows.slot_tuple_getitem (wpAny_call_entry PyProof.Rows.slot_tuple_getitem J.typeIs entry_tuple_getitem ?_ (args_tuple_getitem _ _)))
 show wpAny _ A.in1 (Builtin.Tuple.tupleItemsOf (.ref t)>>=_) _ _ s
 refine wpAny_bind (tupleItemsOf_ J (?_))
 refine wpAny_bind (wpAny_typeOf ty ?_)
 rw [if_pos (by decide)]
 refine wpAny_bind (m:=Builtin.Slice.sliceApplied (.ref I) (pure ((ys.toArray.size:Nat):Int))) ?_
 unfold Builtin.Slice.sliceApplied Builtin.Slice.sliceFields
 refine wpAny_bind (wpAny_bind (wpAny_field z ds (x:= .none) rfl (wpAny_bind (wpAny_field z ds (x:= .none) rfl (wpAny_bind (wpAny_field z ds (x:= .int (-1) tk) rfl (wpAny_pure ?_)))))))
 refine wpAny_bind (slicePart_int ?_)
 show wpAny _ A.in1 (if((-1:Int)==0)=true then _ else _) _ _ s
 rw [if_neg (by decide)]
 refine wpAny_bind (slicePart_none (wpAny_bind (slicePart_none (wpAny_bind (wpAny_pure ?_)))))
 show wpAny _ A.in1 (match Builtin.Slice.sliceAdjust none none (-1) ((ys.toArray.size:Nat):Int)with | (lo,hi)=>pure (lo,(-1:Int),Builtin.Slice.slicePlaces lo hi (-1))) _ _ s
 rw [Ahi]
 show wpAny _ A.in1 (pure (((ys.toArray.size:Nat):Int)-1,(-1:Int),Builtin.Slice.slicePlaces (((ys.toArray.size:Nat):Int)-1) (-1) (-1))) _ _ s
 rw [Ani]
 refine wpAny_pure ?_
 dsimp only
 rw [if_neg (by simp)]
 have e:(List.filterMap (fun(k:Nat)=>ys.toArray[(((ys.toArray.size:Nat):Int)-1+(k:Int)*(-1)).toNat]?) (List.range ys.toArray.size))=ys.reverse:=W4 ys
 rw [e]
 exact wpAny_bind (m:=Builtin.Tuple.tupleExact _) (wpAny_newObj_type (wpAny_pure ⟨_,rfl,wpAny_pure h⟩) M)
end
section
variable {X:Cx}{e st:Expr}{te tst:TE}{pos p2:Pos}
noncomputable def At1 (K:Frag) (te tst:TE):TE:=fun σ H Q=>te σ H fun x H1=>tst σ H1 fun y H2=>∃a xs,x= .ref a/\y= .int (-1)/\SqT K H2 a xs/\∀p,H2 p=none->Q (.ref p) (upd H2 p (.tup xs.reverse))
theorem Vals.rev {xs:List V}{z:List Value} (h:Vals xs z):Vals xs.reverse z.reverse:=by
 induction h with
 | nil=>exact .nil
 | cons r _ I=>
   rw [reverse_cons,reverse_cons]
   exact I.append (.cons r .nil)
theorem Aqq (W:PE X e te) (J:PE X st tst):PE X (.Subscript e (.Slice none none (some st) p2) pos) (At1 X.K te tst):=by
 intro pins s σ H Q I h
 refine Subscript_ (thn (W pins s σ H _ I h) fun v Y ⟨x,H1,Z,r1,q1⟩=> ?_)
 refine wpAny_Slice ?_
 rw [evalPart_none]
 refine wpAny_pure (wpAny_pure ?_)
 rw [evalPart_some]
 refine thn (J pins Y σ H1 _ Z q1) fun u z ⟨y,H3,I3,r3,q3⟩=> ?_
 obtain⟨a,xs,rfl,rfl,hq,q⟩:=q3
 obtain⟨tk,rfl⟩:=r3
 cases r1
 have M:Inv X pins σ H3 { z with heap:=z.heap.push { cls:= .type "slice",data:= .fields #[.none,.none,.int (-1) tk]}}:=I3.kept (t':=z.toks) fun b ob q=>Heap.get?_push_of_some _ q
 obtain⟨O,r,S,U⟩:=M.tuple hq
 show wpAny (model X.prog X.w) X.A (subscriptTail e (.Slice none none (some st) p2) (.ref a) (.ref z.heap.objs.size)) (EP X pins σ Q) X.xe { z with heap:=z.heap.push { cls:= .type "slice",data:= .fields #[.none,.none,.int (-1) tk]}}
 refine tail_any (ops:=[.ref a,.ref z.heap.objs.size]) S.typeIs PyProof.Rows.slot_tuple_getitem.lookup (Anu (ys:=O) S ⟨_,Heap.get?_push_size _ rfl,rfl,rfl⟩ (by rw [<-r.length];exact U) ?_) (by with_unfolding_all rfl)
 exact⟨.ref _,_,M.laid (t':=z.toks) (o:= .tup xs.reverse) (fun b ob q=>Heap.get?_push_of_some _ q) (le_refl _) ⟨by rw [length_reverse];exact U,_,r.rev,IsTup.new _ _⟩,rfl,q _ M.fresh⟩
theorem Aux {K:Frag}{σ:St}{H:Hp}{Q:VK}:At1 K te tst σ H Q=te σ H (fun x H1=>tst σ H1 fun y H2=>∃a xs,x= .ref a/\y= .int (-1)/\SqT K H2 a xs/\∀p,H2 p=none->Q (.ref p) (upd H2 p (.tup xs.reverse))):=rfl
end
set_option maxRecDepth 100000
theorem Q6:Slot "reversed" "__next__" "reversed.__next__":= .of (owner:="reversed") (n:="__next__") (by rw [typeLookup_type,builtinLookup_eq_fast];kernel_rfl) (by decide+kernel) (by decide+kernel) (by decide+kernel) (by first | exact .inl (by decide+kernel) | exact .inr (by decide+kernel)) (by rw [isSubtype_type];kernel_rfl)
theorem Af5:Slot "reversed" "__iter__" "reversed.__iter__":= .of (owner:="reversed") (n:="__iter__") (by rw [typeLookup_type,builtinLookup_eq_fast];kernel_rfl) (by decide+kernel) (by decide+kernel) (by decide+kernel) (by first | exact .inl (by decide+kernel) | exact .inr (by decide+kernel)) (by rw [isSubtype_type];kernel_rfl)
theorem Anx:Slot "reversed" "__init__" "object.__init__":= .of (owner:="object") (n:="__init__") (by rw [typeLookup_type,builtinLookup_eq_fast];kernel_rfl) (by decide+kernel) (by decide+kernel) (by decide+kernel) (by first | exact .inl (by decide+kernel) | exact .inr (by decide+kernel)) (by rw [isSubtype_type];kernel_rfl)
theorem Tq:entryFor table "reversed.__next__"=some Builtin.«reversed.__next__» :=entryFor_of_tree (by kernel_rfl)
theorem Af4:entryFor table "reversed.__new__"=some Builtin.«reversed.__new__» :=entryFor_of_tree (by kernel_rfl)
theorem Ace:entryFor table "reversed.__iter__"=some Builtin.«dict_keyiterator.__iter__» :=
 entryFor_alias (id':="dict_keyiterator.__iter__") (by kernel_rfl) (by first | rfl | decide+kernel | (unfold String.splitOn;simp+decide [String.splitOnAux])) (by decide+kernel) (by kernel_rfl)
theorem Ak2:mroOf (.type "reversed")=pure [.type "reversed",.type "object"]:=by rw [mroOf_type];kernel_rfl
theorem Atk:typeLookup (.type "reversed") "__new__"=pure (some (.builtin "reversed.__new__")):=by rw [typeLookup_type,builtinLookup_eq_fast];kernel_rfl
theorem Af3:TypeCalled "reversed" "reversed.__new__" "object.__init__":=⟨by decide+kernel,by decide+kernel,⟨_,_,Ak2⟩,madeBy_type Ak2 Atk (by decide+kernel),by decide+kernel,by rw [isSubtype_type];kernel_rfl,Anx⟩
theorem Atm (a:Value):checkTypeCall "reversed" ⟨[a],[]⟩=pure ():=by kernel_rfl
theorem Atl (a:Value):checkBuiltinCall "reversed.__new__" ⟨[.type "reversed",a],[]⟩=pure ():=by kernel_rfl
theorem Aax:Manifest.owners.lookup (String.ofList ['d','e','s','r','e','v','e','r'].reverse)=some Manifest.sig_reversed:=by kernel_rfl
theorem Tp (a:Value):argsOk "reversed.__next__" ⟨[a],[]⟩:=by
 unfold argsOk;rw [signature?_of (id:="reversed.__next__") (n:=['_','_','t','x','e','n','_','_']) (o:=['d','e','s','r','e','v','e','r']) (by kernel_rfl) Aax];kernel_rfl
theorem Acd (a:Value):argsOk "reversed.__iter__" ⟨[a],[]⟩:=by
 unfold argsOk;rw [signature?_of (id:="reversed.__iter__") (n:=['_','_','r','e','t','i','_','_']) (o:=['d','e','s','r','e','v','e','r']) (by kernel_rfl) Aax];kernel_rfl
theorem Arh:isSubtype (.type "reversed") (.type "reversed")=pure true:=by rw [isSubtype_type];kernel_rfl
theorem Af6:isSubtype (.type "tuple") (.type "dict")=pure false:=by rw [isSubtype_type];kernel_rfl
noncomputable abbrev Ahe (h:Heap) (r:Addr) (t:Value) (i:Int):Prop:=h.get? r=some { cls:= .type "reversed",dict:=none,data:= .fields #[t,rawInt i],slots:= #[]}
theorem Af7:typeLookup (.type "tuple") "__reversed__"=pure none:=by rw [typeLookup_type,builtinLookup_eq_fast];kernel_rfl
section
variable {prog:Program}{w:World}{A:Around}{E:Value->Shared->Prop}{s:Shared}{r t:Addr}{ys:Array Value}
theorem Anz {i:Nat}{x:Value}{Q:Option Value->Shared->Prop} (z:Ahe s.heap r (.ref t) i) (J:s.heap.IsTuple t ys) (M:ys[i]? =some x) (hs:ys.size<=sizeLine)
 (k:∀g,Ahe g r (.ref t) ((i:Int)-1)->Heap.SameBut r s.heap g->Q (some x) { s with heap:=g,toks:=s.toks+1}):wpAny (model prog w) A (pyNext (.ref r)) Q E s:=by
 have ty:s.TypeIs (.ref r) "reversed":=⟨_,z,rfl⟩
 have hi:i<ys.size:=(Array.getElem?_eq_some_iff.mp M).1
 have U:=Ti
 unfold pyNext
 refine wpAny_bind (wpAny_attempt (wpAny_callSpecial?_slot (name:=Str.ofString "__next__") ty Q6 (wpAny_call_entry Q6 ty Tq ?_ (Tp _))))
 show wpAny _ _ (field (.ref r) 0>>=_) _ _ _
 refine wpAny_bind (wpAny_field z rfl (x:= .ref t) rfl ?_)
 show wpAny _ _ (field (.ref r) 1>>=_) _ _ _
 refine wpAny_bind (wpAny_field z rfl (x:=rawInt i) rfl ?_)
 show wpAny _ _ (if(i:Int)<0 then _ else _) _ _ _
 rw [if_neg (by omega)]
 refine wpAny_bind (wpAny_specialOf J.typeIs PyProof.Rows.slot_tuple_getitem.lookup ?_)
 rw [if_neg (by decide)]
 refine wpAny_bind (wpAny_mkInt ?_)
 have I:({ s with toks:=s.toks+1}:Shared).heap.IsTuple t ys:=J
 refine wpAny_bind (wpAny_attempt (getItem_tuple (j:=i) I (by omega) (by omega) (by unfold seqIndex? ;simp;omega) M ?_))
 show wpAny _ _ (field (.ref r) 1>>=_) _ _ _
 refine wpAny_bind (wpAny_field z rfl (x:=rawInt i) rfl ?_)
 show wpAny _ _ (setField (.ref r) 1 (rawInt ((i:Int)-1))>>=_) _ _ _
 refine wpAny_bind (wpAny_setField_rec z (by simp) fun g O S=> ?_)
 exact wpAny_pure ⟨_,rfl,wpAny_pure (k g O S)⟩
theorem An0 {Q:Option Value->Shared->Prop}{i:Int} (hi:i<0) (S:A.handled=none) (M:Ahe s.heap r (.ref t) i) (k:∀g,Heap.ExtBut r s.heap g->Q none { s with heap:=g}):wpAny (model prog w) A (pyNext (.ref r)) Q E s:=by
 have ty:s.TypeIs (.ref r) "reversed":=⟨_,M,rfl⟩
 unfold pyNext
 refine wpAny_bind (wpAny_attempt (wpAny_callSpecial?_slot (name:=Str.ofString "__next__") ty Q6 (wpAny_call_entry Q6 ty Tq ?_ (Tp _))))
 show wpAny _ _ (field (.ref r) 0>>=_) _ _ _
 refine wpAny_bind (wpAny_field M rfl (x:= .ref t) rfl ?_)
 show wpAny _ _ (field (.ref r) 1>>=_) _ _ _
 refine wpAny_bind (wpAny_field M rfl (x:=rawInt i) rfl ?_)
 show wpAny _ _ (if i<0 then _ else _) _ _ _
 rw [if_pos hi]
 refine wpAny_bind (wpAny_rule ?_)
 show wpAny _ _ ((setField (.ref r) 1 (rawInt (-1))>>=fun _=>setField (.ref r) 0 .none)>>=_) _ _ _
 refine wpAny_bind (wpAny_bind (wpAny_setField_rec M (by simp) fun O z I=> ?_))
 replace I:Heap.SameBut r s.heap O:=I
 replace z:Ahe O r (.ref t) (-1):=z
 refine wpAny_setField_rec z (by simp) fun U W J=> ?_
 replace J:Heap.SameBut r O U:=J
 refine wpAny_bind ?_
 unfold Builtin.SmallTypes.stopIteration
 refine wpAny_bind ?_
 simp only [newTuple,newExc]
 refine wpAny_bind (wpAny_newObj_type ?_ (by size_fits))
 refine wpAny_bind (m:=firstArgMember _ _) (wpAny_of_eq (a:=Value.none) (by first | rfl | (simp only [firstArgMember];rfl)) ?_)
 refine(wpAny_newObj_type ?_ (by size_fits))
 simp only [raiseNew]
 refine wpAny_bind (wpAny_handled ?_)
 first | rw [show A.in1.handled=none from S] | (rw [S])
 refine wpAny_bind (wpAny_pure (wpAny_throw ?_))
 refine wpAny_bind (wpAny_isInstance (T:="StopIteration") (b:=true) ⟨_,Heap.get?_push_size _ rfl,rfl⟩ isSubtype_stop ?_)
 refine wpAny_pure (k _ ?_)
 exact((I.trans J).extBut.push _).push _
end
section
variable {prog:Program}{w:World}{A:Around}{E:Value->Shared->Prop}{s:Shared}
theorem Al0 {id:String}{b:Builtin}{args:List Value}{R:Result->Shared->Prop} (M:builtinKind id=none) (O:plainId id=true) (S:entryFor table id=some b) (J:argsOk id ⟨args,[]⟩)
 (U:wpAny (model prog w) A.in1 (b ⟨args,[]⟩) (fun z s'=>∃v,z= .done (.ret v)/\R (.ok (.ret v)) s') (fun e s'=>R (.error e) s') s):codeAny (model prog w) A (.call (.builtin id) ⟨args,[]⟩) R s:=by
 refine codeAny_call_builtin O S ?_
 have I:=wpAny_mono U (Q':=fun z s'=>match z with | .done f=>R (.ok f) s' | .again c'=>c'.quiet=true/\codeAny (model prog w) A c' R s')
  (fun z s' h'=>by obtain⟨v,rfl,hv⟩:=h';exact hv) fun _ _ h'=>h'
 simp only [checkBuiltinCall,M]
 cases hsig:Manifest.signature? id with
 | none=>exact wpAny_pure I
 | some W=>
   simp only [argsOk,hsig]at J
   exact wpAny_of_eq J I
theorem Ahp {t:Addr}{items:Array Value}{R:Result->Shared->Prop} (z:IsTup s.heap t items) (I:(items.size:Int)<2^63)
 (h:R (.ok (.ret (.int items.size (s.toks+1)))) { s with toks:=s.toks+1+1}):codeAny (model prog w) A (.call (.builtin "len") ⟨[.ref t],[]⟩) R s:=by
 refine Al0 kind_len plain_len entry_len (args_len1 _) ?_
 unfold Builtin.«len»
 refine wpAny_bind (m:=oneArg "len" _) (wpAny_pure ?_)
 refine wpAny_bind (m:=callSpecial? (.ref t) (Str.ofString "__len__")) (wpAny_callSpecial?_slot (name:=Str.ofString "__len__") z.typeIs slot_tuple_len
  (wpAny_call_entry slot_tuple_len z.typeIs entry_tuple_len ?_ (args_tuple_len _)))
 show wpAny _ _ (do retInt (<-Builtin.Tuple.tupleItemsOf (.ref t)).size) _ _ s
 refine wpAny_bind (tupleItemsOf_ z ?_)
 refine wpAny_bind (wpAny_mkInt (wpAny_pure ⟨_,rfl,?_⟩))
 refine wpAny_bind (wpAny_holding (wpAny_pure ?_))
 refine wpAny_bind (wpAny_letGo ?_)
 show wpAny _ _ (if((items.size:Nat):Int)<0 then _ else _) _ _ _
 rw [if_neg (by omega)]
 show wpAny _ _ (if((items.size:Nat):Int)>=2^63 then _ else _) _ _ _
 rw [if_neg (by omega)]
 exact wpAny_bind (wpAny_mkInt (wpAny_pure ⟨_,rfl,h⟩))
theorem Kw {e:Addr}{t:Value}{i:Int}{Q:Value->Shared->Prop} (I:Ahe s.heap e t i) (h:Q (.ref e) s):wpAny (model prog w) A (pyIter (.ref e)) Q E s:=by
 have z:s.TypeIs (.ref e) "reversed":=⟨_,I,rfl⟩
 refine wpAny_pyIter_slot z Af5 (wpAny_call_entry Af5 z Ace ?_ (Acd _))
 show wpAny _ _ (ret (.ref e)) _ _ s
 exact wpAny_pure ⟨_,rfl,"reversed",_,z,Q6.lookup,h⟩
end
open AutoSeq1 (wpAny_loadPart')in
theorem Aic (u:Addr) (xs:Array Value) (o:Obj) (n:Nat) (M:o.cls= .type "tuple") (O:o.data= .seq xs n) (Z:xs.size<=sizeLine):
 Meets (Builtin.«reversed.__new__» ⟨[.type "reversed",.ref u],[]⟩) (fun _ R s=>s.heap.get? u=some o/\R (.ok (.ret (.ref s.heap.objs.size)))
  { s with heap:=s.heap.push { cls:= .type "reversed",data:= .fields #[.ref u,rawInt ((xs.size:Int)-1)]},toks:=s.toks+1+1}):=
 .of_wp fun prog w A R s h=>by
  obtain⟨S,g,d,tk,os⟩:=s;obtain⟨J,h⟩:=h
  obtain⟨U,od,z,W⟩:=o
  obtain rfl:U= .type "tuple":=M
  obtain rfl:z= .seq xs n:=O
  have f1:=Af7
  have f2:=PyProof.Rows.slot_tuple_getitem.lookup
  have f3:=Arh
  have f4:=Af6
  have hn:=Ti
  have Y:Heap.IsTuple S u xs:=⟨_,J,rfl,n,rfl⟩
  have I:(xs.size:Int)<2^63:=by omega
  wp_walk using wpAny_loadPart' J
  refine Ahp Y I ?_
  show wpAny _ _ _ _ _ _
  refine wpAny_bind (wpAny_of_eq (a:=some (xs.size:Int)) rfl ?_)
  show wpAny _ _ (Builtin.SmallTypes.newRecord (Value.type "reversed") [Value.ref u,rawInt (xs.size-1)]>>=_) _ _ _
  unfold Builtin.SmallTypes.newRecord
  refine wpAny_bind (wpAny_newObj_type (wpAny_pure ⟨_,rfl,h⟩) (by size_fits))
noncomputable def Itv (K:Frag) (a:Addr) (n:Nat):It:=
 ⟨fun i H=>∃xs x,SqT K H a xs/\xs.length=n/\xs.reverse[i]? =some x,fun i H x H'=>H'=H/\∀xs,SqT K H a xs->xs.reverse[i]? =some x,fun i _=>n<=i⟩
theorem Aoi {P:Program}{w:World}{K:Frag}{tg:Expr} (a J:Addr) (n:Nat):Turn P w K tg (Itv K a n) [J] J (fun i h=>Ahe h J (.ref a) ((n:Int)-1-i)) where
 mem:=by simp
 obj:=fun i h st b M=>by
  have e:b=J:=by simpa using M
  subst e
  exact⟨_,st,fun v z=>by cases(show Data.fields _=Data.cell v from z)⟩
 keep:=fun i h h' st k=>k J (by simp) _ st
 item:=by
  intro X Z hw hK hc i pins s σ H E I S st U
  subst Z hw hK
  obtain⟨xs,x,hq,hl,Y⟩:=U
  obtain⟨a0,rv,p,hz⟩:=I.tuple hq
  have a4:i<n:=by
   have:=(List.getElem?_eq_some_iff.mp Y).1
   simpa [hl]using this
  have a1:xs[n-1-i]? =some x:=by
   rw [List.getElem?_reverse (by omega)]at Y
   rw [<-hl];exact Y
  obtain⟨u,hu,ru⟩:=rv.get a1
  obtain⟨f0,f1,f2,f3,f4,f5⟩:=S J (by simp)
  have a2:Ahe s.heap J (.ref a) ((n-1-i:Nat):Int):=by
   have z:((n-1-i:Nat):Int)=(n:Int)-1-i:=by omega
   rw [z];exact st
  have a5:=rv.length
  refine Anz a2 (show s.heap.IsTuple a a0.toArray from p) (x:=u) (by simpa using hu) (by simp;omega) fun h' a3 sb=> ?_
  have I1:Inv X pins σ H { s with heap:=h',toks:=s.toks+1}:=I.turned (t':=s.toks+1) (fun b o M e=>(sb.2 b M).trans e) f0 f1 f3 f4 f5
  have O:Ahe h' J (.ref a) ((n:Int)-1-((i+1:Nat):Int)):=by
   have z:((n-1-i:Nat):Int)-1=(n:Int)-1-((i+1:Nat):Int):=by omega
   rw [<-z];exact a3
  exact⟨u,rfl,Ad9 (s:={ s with heap:=h',toks:=s.toks+1}) O rfl rfl (by decide) ⟨x,H,I1,ru,⟨rfl,fun ys hy=>by rw [I.tuple_inj hy hq];exact Y⟩,O,fun b M=>(S b M).1⟩⟩
 done:=by
  intro X Z hw hK hc i pins s σ H E I S st U
  subst Z hw hK
  have U:n<=i:=U
  obtain⟨f0,f1,f2,f3,f4,f5⟩:=S J (by simp)
  exact An0 (i:=(n:Int)-1-i) (by omega) (I.ok.hd hc) st fun h' eb=>⟨rfl,I.turned (t':=s.toks) (fun b o M e=>eb b o M e) f0 f1 f3 f4 f5⟩
 self:=fun _ _ _ _ _ st h=>Kw st h
section
variable {X:Cx}{a:Expr}{ta:TA}{tg:Expr}{p pos:Pos}
noncomputable def iRv (K:Frag) (ta:TA):TI:=fun σ H R=>ta σ H fun vs H1=>∃a,vs=[.ref a]/\∃xs,SqT K H1 a xs/\R (Itv K a xs.length) H1
theorem Aqx (Y:Gl X "reversed") (Z:X.mg "reversed"=none) (ha:PA X [a] ta) (hs:starEach [a] X.env=[(false,eval a X.env)]:=by rfl):PI X tg (.Call (.Name "reversed" p) [a] [] pos) (iRv X.K ta):=by
 intro pins s σ H R I h
 refine Call_ (Mt I Y Z boot_reversed (PyProof.Rows.callWith_type1 (thn (ha pos pins s σ H _ I h) fun us M ⟨vs,H1,S,r1,q1⟩=> ?_) hs rfl))
 obtain⟨b,rfl,xs,hq,q⟩:=q1
 obtain⟨v,rfl,rv⟩:=vals1 r1
 cases rv
 obtain⟨J,rr,pl,hz⟩:=S.tuple hq
 obtain⟨o,ho,hc,n,hd⟩:=(show M.heap.IsTuple b J.toArray from pl)
 have hl:=rr.length
 refine callType_new Af3 (by decide) (Atm _) (Atl _) (fun obj=>F.args_object_init_2 obj _) Af4 (Aic b J.toArray o n hc hd (by simp;omega)) ⟨ho,?_⟩
 show _/\_
 have U:Ahe (M.heap.push { cls:= .type "reversed",data:= .fields #[.ref b,rawInt ((J.toArray.size:Int)-1)]}) M.heap.objs.size (.ref b) ((xs.length:Int)-1-((0:Nat):Int)):=by
  have z2:=Heap.get?_push_size M.heap (o:={ cls:= .type "reversed",data:= .fields #[.ref b,rawInt ((J.toArray.size:Int)-1)]}) rfl
  have z:(xs.length:Int)-1-((0:Nat):Int)=(J.toArray.size:Int)-1:=by simp;omega
  rw [z];exact z2
 have I2:Inv X pins σ H1 { M with heap:=M.heap.push { cls:= .type "reversed",data:= .fields #[.ref b,rawInt ((J.toArray.size:Int)-1)]},toks:=M.toks+1+1}:=
  S.kept (t':=M.toks+1+1) fun c o' e=>Heap.get?_push_of_some _ e
 refine⟨⟨_,U,rfl⟩,Kw U ⟨M.heap.objs.size,[M.heap.objs.size],_,_,H1,rfl,I2,Aoi b _ _,U,fun c W=> ?_,q⟩⟩
 have O:M.heap.objs.size<=c:=by
  have z:c=M.heap.objs.size:=by simpa using W
  exact le_of_eq z.symm
 exact S.fpOk O (S.hok.fresh O)
end
theorem Aul {K:Frag}{σ:St}{H:Hp}{ta:TA}{R:It->Hp->Prop}:iRv K ta σ H R=ta σ H (fun z H1=>∃a,z=[.ref a]/\∃xs,SqT K H1 a xs/\R (Itv K a xs.length) H1):=rfl
theorem Aok {K:Frag}{H:Hp}{α:Type}{es:List α}{inj:α->V}{a:Addr} (h:SqT K H a (es.map inj)):Alk (Itv K a es.length) H es.reverse inj:=fun i=>by
 refine⟨fun e=> ?_,fun e I=>⟨⟨_,inj e,h,by simp,?_⟩,?_⟩⟩
 . have z:=List.getElem?_eq_none_iff.mp e
   show es.length<=i
   simpa using z
 . rw [<-map_reverse,getElem?_map,I];rfl
 . rintro x J ⟨rfl,k⟩
   have z:=k _ h
   rw [<-map_reverse,getElem?_map,I]at z
   exact⟨rfl,(Option.some.inj z).symm⟩
section
variable {K:Frag}{H1:Hp}{p:Addr}{cσ:St}{g:TG}{te:TE}{Q:VK}{α:Type}{es:List α}{inj:α->V}
theorem Ao4 {a:Addr} (f:Nat->α->V) (hz:es.length<=sizeLine) (hp:H1 p=none) (ha:SqT K H1 a (es.map inj))
 (step:∀(i:Nat) e b H' R,es[i]? =some e->Same H1 H'->H' b=none->(∀J,Same H' J->R (f i e) J)->g (.ref b) cσ (upd H' b (.tup [.int (i:Nat),inj e])) fun z I=>Kp cσ z/\te z I R)
 (done:∀H',Same H1 H'->H' p=some (.lst (es.mapIdx f))->Q (.ref p) H'):cIn (Ite K a) cσ g Aco te Q H1 p:=by
 have Y:∀ {H':Hp}{o:HO},Same H1 H'->Same H1 (upd H' p o):=fun {H' o} s b u e=>by
  rw [Cr (Cw e hp)]
  exact s b u e
 refine⟨fun i m M H'=>m=es.length-i/\i<=es.length/\M=(es.take i).mapIdx f/\H' p=some (.lst M)/\Same H1 H',⟨es.length,by simp,zero_le _,by simp,Ao,Y (Same.refl _)⟩,?_⟩
 rintro i m M H' ⟨rfl,hi,rfl,U,s⟩
 have O:=s.tup ha
 cases he:es[i]? with
 | none=>
   have S:=List.getElem?_eq_none_iff.mp he
   have e:i=es.length:=le_antisymm hi S
   subst e
   rw [take_length]at U
   exact .inl ⟨⟨_,O,by rw [length_map];exact le_refl _⟩,done _ s U⟩
 | some e=>
   refine .inr ⟨⟨_,inj e,O,by rw [getElem?_map,he];rfl⟩,fun x H3 y=> ?_⟩
   obtain⟨b,v,y1,y2,rfl,rfl⟩:=y
   have Z:=y1 _ O
   rw [getElem?_map,he]at Z
   obtain rfl:inj e=v:=Option.some.inj Z
   obtain⟨W,e'⟩:=List.getElem?_eq_some_iff.mp he
   have S:(es.take i).length=i:=by rw [length_take];omega
   have tk:(es.take (i+1)).mapIdx f=(es.take i).mapIdx f++ [f i e]:=by
    rw [take_succ,he]
    show(es.take i++ [e]).mapIdx f=_
    rw [List.mapIdx_concat,S]
   have q:=step i e b H' (fun y J=>J p=some (.lst ((es.take i).mapIdx f))/\((es.take i).mapIdx f).length<sizeLine/\∃m',m'<es.length-i/\m'=es.length-(i+1)/\i+1<=es.length/\(es.take i).mapIdx f++ [y]=(es.take (i+1)).mapIdx f/\
    upd J p (.lst ((es.take i).mapIdx f++ [y])) p=some (.lst ((es.take i).mapIdx f++ [y]))/\Same H1 (upd J p (.lst ((es.take i).mapIdx f++ [y])))) he s y2
    (fun J s6=>⟨s6 _ _ U,by rw [List.length_mapIdx,S];omega,_,by omega,rfl,W,tk.symm,Ao,Y (s.trans s6)⟩)
   have eq:∀(R:VK) (B:Hp->Prop),(fun z I=>Kp cσ z/\Aco z I fun b H5=>if b=true then te z H5 R else B H5)=(fun z I=>Kp cσ z/\te z I R):=fun R B=>by
    funext z I
    show(Kp cσ z/\if true=true then te z I R else B I)=_
    rw [if_pos rfl]
   rw [eq]
   exact q
end
theorem Y4 {X:Cx}{es:List Expr}{k:Nat}{pos:Pos}{t:TGs} (K:Frag) (n:Nat) (I:X.K=K) (J:X.calm=true) (h:PGs X es t)
 (M:(assignEach es X.env).length=n:=by rfl) (z:(assignEach es X.env).findIdx? (·.1)=none:=by rfl):PG X (.Tuple es k pos) (Ape K n t):=by
 subst I
 exact Aap J h M z
end L2
namespace L2
open PySem PySem.Spec PyProof.Rows
set_option maxRecDepth 100000
theorem Hw.has {P:Program}{w:World}{H:Hp}{h:Heap}{a:Addr}{o:HO} (x:Hw P w H h a o):∃z,h.get? a=some z:=by
 cases o with
 | lst xs=>obtain⟨_,_,_,_,e⟩:=x;exact⟨_,e⟩
 | tup xs=>obtain⟨_,_,_,z,e,_⟩:=x;exact⟨_,e⟩
 | dK I=>obtain⟨_,_,_,_,o,_,_,e,_⟩:=x;exact⟨_,e⟩
 | dT I=>obtain⟨_,_,_,_,o,_,_,e,_⟩:=x;exact⟨_,e⟩
 | set S n=>obtain⟨o,_,_,_,e,_⟩:=x;exact⟨_,e⟩
 | ins C dx fs=>obtain⟨_,_,_,e,_⟩:=x;exact⟨_,e⟩
 | own y=>exact x
 | xd fs=>obtain⟨_,⟨_,_,_,e,_⟩,_⟩:=x;exact⟨_,e⟩
 | rng lo hi=>obtain⟨_,_,_,e⟩:=x;exact⟨_,e⟩
 | frz z u=>obtain⟨e,_⟩:=x;exact⟨_,e⟩
 | tbl ps=>exact⟨_,show h.get? a=some _ from x⟩
 | met f y=>exact⟨_,show h.get? a=some _ from x⟩
 | ext J=>exact x.2.1
structure FX (P:Program) (w:World) (fr:List Addr) (H:Hp) (h0:Heap) (B:Heap) (H':Hp) (h:Heap):Prop where
 stay:B.StaysIn h
 k1:∀b o,h0.get? b=some o->b∉fr->∃o',B.get? b=some o'/\(H b=none->o'=o)
 k2:∀b u,H' b=some u->∃o,B.get? b=some o
 fr0:∀b∈fr,H b=none/\∃o,h0.get? b=some o/\∀vs,o.data≠ .fields vs
 un:Un fr [] H H' h0 h
 hok:HOk P w H' h
theorem FX.step {P:Program}{w:World}{fr:List Addr}{H H':Hp}{S B h h':Heap} (x:FX P w fr H S B H' h) (k:B.StaysIn h') (u:h.UpToSlots h'):FX P w fr H S B H' h':=by
 have J:∀b o,S.get? b=some o->H b=none->b∈fr->∃U,h'.get? b=some { o with slots:=U}:=fun b o e n I=>by
  obtain⟨U,M⟩:=x.un.slot b o e n I (by simp)
  obtain⟨_,o2,O,Z⟩:=x.fr0 b I
  rw [e]at O;cases O
  obtain⟨W,e3⟩:=u b _ M Z
  exact⟨W,e3⟩
 refine⟨k,x.k1,x.k2,x.fr0,⟨fun b o e n I _=> ?_,fun b o e n I _=>J b o e n I,x.un.free,fun b o e _=> ?_,x.un.tups,x.un.frzs,x.un.tbls⟩,fun b v e=>(x.hok b v e).stay (fun c z hc q=> ?_) (fun _ q=>q) fun _ _ q=>q⟩
 . obtain⟨o',M,O⟩:=x.k1 b o e I
   rw [O n]at M
   exact k b o M
 . by_cases I:b∈fr
   . obtain⟨U,M⟩:=J b o e (x.fr0 b I).1 I
     exact⟨_,M⟩
   . obtain⟨o',M,_⟩:=x.k1 b o e I
     exact⟨o',k b o' M⟩
 . have t:∃o,B.get? c=some o:=by
    rcases hc with z | z
    . rw [z];exact x.k2 _ _ e
    . exact x.k2 _ _ z
   obtain⟨o,Y⟩:=t
   have:=x.stay c o Y
   rw [q]at this;cases this
   exact k c _ Y
section
variable {X:Cx}{pins:List (Addr × Obj)}{σ:St}{H H':Hp}{s s':Shared}{B:Heap}
theorem Inv.old (I:Inv X pins σ H s) {b:Addr}{o:Obj} (e:X.s₀.heap.get? b=some o) (J:b∉X.fs):b∉frs X.stack:=fun z=>by
 rcases mem_cons.mp (I.stkSub b z)with q | q
 . exact absurd (lt_of_lt_of_le (Heap.lt_size e) I.ok.above) (by rw [q];exact lt_irrefl _)
 . exact J q
theorem Inv.fr0 (I:Inv X pins σ H s):∀b∈X.fs,X.H₀ b=none/\∃o,X.s₀.heap.get? b=some o/\∀J,o.data≠ .fields J:=fun b z=>by
 obtain⟨_,o,M,O⟩:=I.ok.funs.mem z
 exact⟨I.ok.frf b z,o,M,O⟩
theorem Inv.one (I:Inv X pins σ H s) (J:X.ex=[]) {b:Addr}{o:Obj} (e:X.s₀.heap.get? b=some o) (M:b∉X.fs):∃o',s.heap.get? b=some o'/\(X.H₀ b=none->o'=o/\H b=none):=by
 by_cases n:X.H₀ b=none
 . exact⟨o,I.base.keep b o e n M (by rw [J];simp),fun _=>⟨rfl,I.base.free b o e n (by rw [J];simp)⟩⟩
 . obtain⟨o',O⟩:=I.base.there b o e (by rw [J];simp)
   exact⟨o',O,fun z=>absurd z n⟩
theorem Inv.fx (I:Inv X pins σ H s) (J:X.ex=[]):FX X.prog X.w X.fs X.H₀ X.s₀.heap (hideAll s.heap (frs X.stack)) H s.heap:=by
 refine⟨fun b o q=>of_hideAll _ q,fun b o e M=> ?_,fun b u e=> ?_,I.fr0,J▸I.base,I.hok⟩
 . obtain⟨o',O,S⟩:=I.one J e M
   exact⟨o',hideAll_get _ O (I.old e M),fun n=>(S n).1⟩
 . obtain⟨o,U⟩:=(I.hok b u e).has
   exact⟨o,hideAll_get _ U fun z=>by have:=I.stkFree b z;rw [e]at this;cases this⟩
theorem Inv.fxOn (I:Inv X pins σ H s) (M:X.ex=[]) (os:s'.os=s.os) (O:AllBare s'.gens) (x:FX X.prog X.w (frs X.stack) H s.heap B H' s'.heap):FX X.prog X.w X.fs X.H₀ X.s₀.heap B H' s'.heap:=by
 have J:Inv X pins σ H' s':=I.call' (ch:=[]) os x.un x.hok O fun b z=>absurd z (by simp)
 refine⟨x.stay,fun b o e S=> ?_,x.k2,I.fr0,M▸J.base,x.hok⟩
 obtain⟨U,W,n1⟩:=I.one M e S
 obtain⟨o',Y,n2⟩:=x.k1 b U W (I.old e S)
 exact⟨o',Y,fun n=>(n2 (n1 n).2).trans (n1 n).1⟩
end
noncomputable def CXE (P:Program) (w:World):CXT:=fun outer H s E e s'=>∃(x C:Addr) (a0:Value) (B:Heap) (H':Hp),e= .ref x/\s'.os=s.os/\AllBare s'.gens/\Heap.FlyingW B outer x (.ref C) a0 s'.heap/\FX P w (frs outer) H s.heap B H' s'.heap/\E (.ref C) none H'
noncomputable abbrev VE:List Value:=[.type "ValueError",.type "Exception",.type "BaseException",.type "object"]
noncomputable def Xv (K:Frag) (C:Addr):Prop:=excIn K C VE "ValueError.__new__"=true
noncomputable def cA (K:Frag) (x:Str):Addr:=match PySem.W.nsIn K mainGlobals x with
 | some (some (.ref C))=>C
 | _=>0
theorem Ade {K:Frag}{x:Str}{C:Addr} (e:PySem.W.nsIn K mainGlobals x=some (some (.ref C))):cA K x=C:=by
 unfold cA
 rw [e]
noncomputable def Avg (h:Heap) (C:Addr):Prop:=∃bm N nm q bs hdct sn sub ab col dd k0 k1 k2 k3 k5 mN,h.get? C=some (excClassObj nm q C N bs bm hdct sn sub ab col dd k0 k1 k2 k3 k5 "ValueError.__new__")/\h.Ns N mN/\mN "__init__"=none/\OwnTail h VE bm
theorem Xv.obj {K:Frag}{C:Addr}{h:Heap} (q:Xv K C) (X:K.In h):Avg h C:=by
 unfold Xv excIn at q
 cases e:K.lookup C with
 | none=>rw [e]at q;cases q
 | some ob=>
   rw [e]at q
   have M:=X _ _ e
   split at q
   . rename_i dd cd O z
     cases z
     split at q
     . rename_i C1 bm S U Y Z n a5 hm hs
       rw [and_eq_true,and_eq_true,and_eq_true,and_eq_true,and_eq_true]at q
       obtain⟨⟨⟨⟨⟨z1,z2⟩,z3⟩,z4⟩,I⟩,z6⟩:=q
       have y1:C1=C:=by simpa using z1
       have y2:n="ValueError.__new__":=by simpa using z2
       have y3:cd.hasDel=false:=by simpa using z3
       have y6:PySem.W.nsIn K cd.ns "__init__"=some none:=by simpa using z6
       obtain⟨c1,c2,c3,c4,c5,c6,c7,c8,c9,J,a4⟩:=cd
       have hl:O= #[S,U,Y,Z,some (.builtin n),a5]:=by
        cases O
        exact congrArg Array.mk hs
       dsimp only at hm y3 y6 I
       rw [hl,hm,y1,y2,y3]at M
       exact⟨bm,c4,c1,c5,c2,c6,c7,c8,c9,J,dd,S,U,Y,Z,a5,_,M,Heap.Ns.of_isNs (PySem.W.isNs_of_in X I),PySem.W.nsMap_none_of_in X I y6,PySem.W.tail_of_in X z4⟩
     . cases q
   . cases q
section
variable {P:Program}{w:World}{K:Frag}{mg:Str->Option Value}{base:Heap}{N:List Str}{qual:Str}{scope:Scope}{f:Addr}{cd:Value}{A:Around}{outer:List Env}{s0:Shared}{H0:Hp}{E:XK}
theorem As5:Passes (CXE P w) (Qn (CXE P w) P w K mg base N qual scope f cd A outer s0 H0 E) E:=by
 intro pins σ H s e s' I h
 obtain⟨x,C,M,B,H',rfl,os,z,fl,fx,q⟩:=h
 show wpAny _ _ (leaving _ (.ref x)) _ _ s'
 refine wpAny_leaves_onW I.ok.frames rfl fl fun h' J up=> ?_
 exact⟨x,C,M,B,H',rfl,os.trans I.os,z,J,(I.fxOn rfl os z fx).step J.1 up,q⟩
noncomputable def Ags (C:Addr) (E:XK) (t:TA):TS:=fun _ σ H=>t σ H fun vs H1=>vs.length<=sizeLine/\E (.ref C) none H1
theorem M4 {C:Addr}{x:Str}{np cpos pos:Pos}{e:Expr}{es:List Expr}{t:TA} (hq:Xv K C) (hm:mg x=some (.ref C))
 (ha:PA (Qn (CXE P w) P w K mg base N qual scope f cd A outer s0 H0 E) (e::es) t) (hg:Gl (Qn (CXE P w) P w K mg base N qual scope f cd A outer s0 H0 E) x:=by rfl) (Z:(x==("__debug__":Str))=false:=by decide)
 (Y:starEach (e::es) (envOfC qual scope s0.heap.objs.size f cd)=(false,eval e (envOfC qual scope s0.heap.objs.size f cd))::starEach es (envOfC qual scope s0.heap.objs.size f cd):=by rfl)
 (a0:(backTo cpos (starEach es (envOfC qual scope s0.heap.objs.size f cd))).any (·.1)=false:=by rfl):
 PS (Qn (CXE P w) P w K mg base N qual scope f cd A outer s0 H0 E) (.Raise (some (.Call (.Name x np) (e::es) [] cpos)) none pos) (Ags C E t):=by
 intro pins s σ H D I h
 obtain⟨bm,N',nm,q,bs,J,sn,sub,ab,O,dd,k0,k1,k2,k3,k5,mN,hC,hN,a1,TL⟩:=hq.obj I.mod.kin
 refine wpAny_Raise_call_subT (nm:=nm) (q:=q) (C:=C) (N:=N') (bs:=bs) (bm:=bm) (hdct:=J) (sn:=sn) (sub:=sub) (ab:=ab) (col:=O) (dd:=dd) (k0:=k0) (k1:=k1) (k2:=k2) (k3:=k3) (k5:=k5) PySem.F.excBase_ValueError (TL.hasType (by decide)) (I.ok.hd rfl) (by
  show(backTo cpos (starEach (e::es) (envOfC qual scope s0.heap.objs.size f cd))).any (·.1)=false
  rw [Y]
  show(false||(backTo cpos (starEach es _)).any (·.1))=false
  rw [a0];rfl) a1 (Qu I hg hm ⟨rfl,?_⟩ Z)
 have a2:=ha cpos pins s σ H _ I h
 show wpAny _ _ (evalArgs (.ref C) true (backTo cpos (starEach (e::es) (envOfC qual scope s0.heap.objs.size f cd))) []) _ _ s
 have S:wpAny (model P w) (A.deeper (envOfC qual scope s0.heap.objs.size f cd)) (spliced (backTo cpos (starEach (e::es) (envOfC qual scope s0.heap.objs.size f cd)))) _ _ s:=a2
 rw [Y]at S ⊢
 refine Calls.evalArgs_plain (thn S fun us s2 ⟨vs,H2,M,r,z,q2⟩=>⟨rfl,by rw [<-r.length];exact z,M.bk _ _ hC,hN.keeps M.bk,TL.keeps M.bk,fun h' x' U=> ?_⟩)
 show wpAny _ _ (leaving _ (.ref x')) _ _ _
 refine wpAny_leaves_madeW (base:=hideAll s2.heap (frs (envOfC qual scope s0.heap.objs.size f cd::outer))) (h:=s2.heap) M.ok.frames rfl (fun b o q=>of_hideAll _ q) (PySem.W.funFrames_hide M.stack fun env Y b hb=>mem_filterMap.mpr ⟨env,Y,hb⟩) U fun a3 t' fl _ _ up=> ?_
 exact⟨x',C,.ref t',_,H2,rfl,M.os,M.bare,fl,(M.fx rfl).step fl.1 ((Heap.UpToSlots.of_keeps U.keeps).trans up),q2⟩
end
theorem Aoo {C:Addr}{E:XK}{t:TA}{D:Ends}{σ:St}{H:Hp}:Ags C E t D σ H=t σ H (fun z H1=>z.length<=sizeLine/\E (.ref C) none H1):=rfl
theorem PS.nox {X:Cx}{st:Stmt}{t:TS} (h:PS X.nox st t):PS X st t:=fun pins s σ H D I J=>
 wpAny_mono (h pins s σ H D (I.wish _) J) (fun _ _ q=>q.unwish) fun _ _ z=>False.elim z
theorem Fun.okE {P:Program}{w:World}{K:Frag}{mg:Str->Option Value}{base:Heap}{x qual:Str}{st:Stmt}{f:Addr}{fd:FuncData}{N ps:List Str}{k:Nat}{sp:Sp} (F:Fun K x qual st f fd) (S:Ax N ps (Ar st)) (len:∀I H Q E,sp I H Q E->I.length=ps.length)
 (J:∀(z:Value) (A:Around) (outer:List Env) (s:Shared) (H:Hp) (I:List V) (Q:VK) (E:XK),J0 k (A.deeper (envOfC qual (Ar st) s.heap.objs.size f z))->sp I H Q E->
   ∃t,PSs (Qn (CXE P w) P w K mg base N qual (Ar st) f z A outer s H E) (Jh st) t/\t { nx:=fun _ H'=>Q .non H',rt:=Q} (start N I) H):O4 P w K mg base (CXE P w) (k+1) f fd ps sp:=by
 obtain⟨oc,od,kV,U,pm,an,z,ct,Y,rfl,Z,M⟩:=F.ex
 exact Apd Z M S len fun A outer s H I Q E hr O=>J z A outer s H I Q E hr O
noncomputable def Zu (P:Program) (w:World) (K:Frag) (mg:Str->Option Value) (base:Heap) (k:Nat) (x:Str) (ps:List Str) (sp:Sp):Prop:=
 ∃f fd,O4 P w K mg base (CXE P w) k f fd ps sp/\mg x=some (.ref f)/\keepIn K (.ref f)=true/\Binds K fd ps []
theorem Df.calE {P:Program}{w:World}{K:Frag}{mg:Str->Option Value}{base:Heap}{k:Nat}{x:Str}{st:Stmt}{ps:List Str}{f:Addr}{fd:FuncData}{sp:Sp}
 (F:Df K mg x st ps f fd) (G:O4 P w K mg base (CXE P w) k f fd ps sp):Zu P w K mg base k x ps sp:=⟨f,fd,G,F.at',F.fn.kp,F.bd⟩
theorem Zu.calm {P:Program}{w:World}{K:Frag}{mg:Str->Option Value}{base:Heap}{k:Nat}{x:Str}{ps:List Str}{sp J:Sp}
 (C:Zu P w K mg base k x ps sp) (h:∀I H Q E,J I H Q E->sp I H Q E0):Cal P w K mg base k x ps J:=by
 obtain⟨f,fd,G,a,b,c⟩:=C
 refine⟨f,fd,⟨fun I H Q E z=>G.len I H Q E0 (h _ _ _ _ z),fun A outer s H args M I Q E O S U hv hs=> ?_⟩,a,b,c⟩
 refine codeAny_mono (G.run A outer s H args M I Q E0 O S U hv (h _ _ _ _ hs)) fun r s' q=> ?_
 cases r with
 | ok fl=>cases fl<;>exact q
 | error e=>
   obtain⟨_,_,_,_,_,_,_,_,_,_,z⟩:=q
   exact z.elim
section
variable {P:Program}{w:World}{K:Frag}{mg:Str->Option Value}{base:Heap}{N:List Str}{qual:Str}{scope:Scope}{f:Addr}{cd:Value}{A:Around}{outer:List Env}{s0:Shared}{H0:Hp}{E:XK}
theorem Mz {k:Nat}{x:Str}{ps:List Str}{sp:Sp}{p pos:Pos}{e:Expr}{es:List Expr}{t:TA}
 (C:Zu P w K mg base k x ps sp) (J:J0 k (A.deeper (envOfC qual scope s0.heap.objs.size f cd))) (M:PA (Qn (CXE P w) P w K mg base N qual scope f cd A outer s0 H0 E) (e::es) t) (O:Gl (Qn (CXE P w) P w K mg base N qual scope f cd A outer s0 H0 E) x:=by rfl) (z:(x==("__debug__":Str))=false:=by decide)
 (S:starEach (e::es) (envOfC qual scope s0.heap.objs.size f cd)=(false,eval e (envOfC qual scope s0.heap.objs.size f cd))::starEach es (envOfC qual scope s0.heap.objs.size f cd):=by rfl)
 (I:(backTo pos (starEach es (envOfC qual scope s0.heap.objs.size f cd))).any (·.1)=false:=by rfl):
 PE (Qn (CXE P w) P w K mg base N qual scope f cd A outer s0 H0 E) (.Call (.Name x p) (e::es) [] pos) (Vu sp [] E t):=by
 obtain⟨U,fd,G,a,b,c⟩:=C
 exact Afp (X:=Qn (CXE P w) P w K mg base N qual scope f cd A outer s0 H0 E) G J O a b c .nil As5 M z S I
end
end L2
namespace L2
open PySem PySem.Spec PyProof.Rows
set_option maxRecDepth 100000
noncomputable abbrev Cx.caught (X:Cx) (x:Addr) (oe:Obj):Cx:={ X with A:=X.A.mark (some (.ref x)),calm:=false,pn:=(x,oe)::X.pn,xe:=fun _ _=>False}
section
variable {X:Cx}{pins:List (Addr × Obj)}{σ:St}{H:Hp}{s:Shared}{x:Addr}{oe:Obj}
theorem Cx.Ok.caught (ok:X.Ok) (x:Addr) (oe:Obj):(X.caught x oe).Ok:=
 ⟨ok.mod,ok.kind,ok.glob,ok.blt,ok.above,ok.inj,ok.has,ok.cab,(fun z=>nomatch z),ok.frames,ok.stk,ok.exf,ok.bs,ok.bsz,ok.noex,ok.exfs,ok.funs,ok.frf⟩
theorem Inv.caught (I:Inv X pins σ H s) (e:s.heap.get? x=some oe) (n:H x=none) (l:x≠X.env.locals) (f:x∉X.fs) (d:∀v,oe.data≠ .cell v):Inv (X.caught x oe) pins σ H s:=
 ⟨I.ok.caught x oe,I.os,I.bare,I.base,I.loc,I.cell,I.free,I.freeC,fun p J=>(mem_cons.mp J).elim (fun z=>by rw [z];exact⟨e,n,l,f,d⟩) (I.pin p),I.hok,I.len⟩
theorem Inv.uncaught (ok:X.Ok) (I:Inv (X.caught x oe) pins σ H s):Inv X pins σ H s:=
 ⟨ok,I.os,I.bare,I.base,I.loc,I.cell,I.free,I.freeC,fun p z=>I.pin p (mem_cons_of_mem _ z),I.hok,I.len⟩
theorem Inv.gone {i:Nat}{n:Str}{m:Str->Option Value}{v:Option Value}{h':Heap}{t':Nat} (I:Inv X pins σ H s) (hN:X.N.Nodup) (hi:X.N[i]? =some n)
 (hl:∀(i:Nat) (x:Str) (v:V),X.N[i]? =some x->σ[i]? =some (some v)->Vis X.env.scope x->∃u,RelV v u/\Look X.env s.heap m x u) (hn:s.heap.Ns X.env.locals m)
 (U:h'.Ns X.env.locals (fun x=>if x=n then v else m x)) (hs:Heap.SameBut X.env.locals s.heap h'):Inv X pins (σ.set i none) H { s with heap:=h',toks:=t'}:=by
 obtain⟨oL,_,_,a0,_⟩:=id hn
 have cne:=I.cne
 have up:∀ {b:Addr}{o:Obj},X.s₀.heap.get? b=some o->b≠X.env.locals:=fun e=>ne_of_lt (lt_of_lt_of_le (Heap.lt_size e) I.ok.above)
 refine⟨I.ok,I.os,I.bare,⟨fun b o e n W M=>(hs.2 b (up e)).trans (I.base.keep b o e n W M),fun b o e n W M=> ?_,I.base.free,fun b o e M=> ?_,I.base.tups,I.base.frzs,I.base.tbls⟩,⟨_,U,fun j y v' J O e3=> ?_⟩,fun y c e=> ?_,I.free,I.freeC,fun p hp=> ?_,fun b ob e=> ?_,by simpa using I.len⟩
 . obtain⟨sl,J⟩:=I.base.slot b o e n W M
   exact⟨sl,(hs.2 b (up e)).trans J⟩
 . obtain⟨o',J⟩:=I.base.there b o e M
   exact⟨o',(hs.2 b (up e)).trans J⟩
 . have Y:j≠i:=fun z=>by
    subst z
    rw [List.getElem?_set]at O
    simp at O
   rw [List.getElem?_set_ne (Ne.symm Y)]at O
   obtain⟨u',r',q⟩:=hl j y v' J O e3
   refine⟨u',r',?_⟩
   rcases q with⟨k,e⟩ | ⟨k,c,e,z⟩
   . refine .inl ⟨k,?_⟩
     have:y≠n:=fun e=>Y (U0 hN J (e▸hi))
     simp [this,e]
   . exact .inr ⟨k,c,e,z.sameBut hs (cne y c e)⟩
 . obtain⟨Z,z⟩:=I.cell y c e
   exact⟨Z,z.sameBut hs (cne y c e)⟩
 . obtain⟨e,n,ne,nf,d⟩:=I.pin p hp
   exact⟨(hs.2 p.1 ne).trans e,n,ne,nf,d⟩
 . refine(I.hok b ob e).stay (fun c Z S q=>(hs.2 c ?_).trans q) (fun _ q=>q) fun _ _ q=>q
   rintro rfl
   rcases S with rfl | S
   . rw [I.free]at e;cases e
   . rw [I.free]at S;cases S
end
noncomputable def Zt (X:Cx) (st:Stmt) (e:Expr) (g:V->St->St):Prop:=∀(pins:List (Addr × Obj)) (s:Shared) (σ:St) (H:Hp) (E:Value->Shared->Prop) (Q:VK) (R:Flow->Shared->Prop),Inv X pins σ H s->
 wpAny (model X.prog X.w) X.A (eval e X.env) (EP X pins σ Q) E s->(∀v H1 s1,Q v H1->Inv X pins (g v σ) H1 s1->R .next s1)->wpAny (model X.prog X.w) X.A (exec st X.env) R E s
theorem Ug {X:Cx}{i:Nat}{x:Str}{e:Expr}{pos z:Pos} (J:X.N.Nodup) (hi:X.N[i]? =some x) (M:Loc X.env.scope x) (hs:swapsWith e (some (.Name x z)) pos.line X.env=pure false:=by rfl) (O:X.fn x=true\/X.env.scope.names.lookup x=some .local :=by first | exact .inl rfl | exact .inr rfl | assumption):
 Zt X (.Assign [.Name x z] e pos) e (fun v σ=>σ.set i (some v)):=by
 intro pins s σ H E Q R I h k
 refine wpAny_Assign_Name (thn h fun v s1 ⟨y,H1,S,U,W⟩=> ?_) hs
 exact Ld S J hi M U (fun Y Z=>k y H1 Y W Z) O
noncomputable def Agt (sp:Sp) (C:Addr) (g:V->St->St) (i:Nat) (ta:TA) (ts:Addr->Obj->TS):TS:=fun D σ H=>ta σ H fun vs H1=>sp vs H1 (fun v H2=>D.nx (g v σ) H2)
 (fun c _ H2=>c= .ref C/\∀x oe,oe.cls= .ref C->ts x oe { nx:=fun σ' H'=>D.nx (σ'.set i none) H',rt:=D.rt,bk:=fun σ' H'=>D.bk (σ'.set i none) H',ct:=fun σ' H'=>D.ct (σ'.set i none) H'} (σ.set i (some (.ref x))) H2)
theorem Aop {sp:Sp}{C:Addr}{g:V->St->St}{i:Nat}{ta:TA}{ts:Addr->Obj->TS}{D:Ends}{σ:St}{H:Hp}:Agt sp C g i ta ts D σ H=ta σ H (fun I H1=>sp I H1 (fun v H2=>D.nx (g v σ) H2)
 (fun c _ H2=>c= .ref C/\∀x oe,oe.cls= .ref C->ts x oe { nx:=fun z H'=>D.nx (z.set i none) H',rt:=D.rt,bk:=fun z H'=>D.bk (z.set i none) H',ct:=fun z H'=>D.ct (z.set i none) H'} (σ.set i (some (.ref x))) H2)):=rfl
section
variable {X:Cx}{pins:List (Addr × Obj)}{σ:St}{H:Hp}{s s':Shared}{C:Addr}{e:Value}{cx n:Str}{np pos hpos:Pos}{b0:Stmt}{suite:List Stmt}{D:Ends}{i:Nat}{ts:Addr->Obj->TS}
theorem looked {R:Flow->Shared->Prop}{E2:Hp->Prop}{nm:Option Str}{a2:List Stmt} (I:Inv X pins σ H s) (h:CXE X.prog X.w X.stack H s (fun c _ H2=>c= .ref C/\E2 H2) e s') (hq:Xv X.K C) (hm:X.mg cx=some (.ref C)) (U:X.stack=X.env::X.outer) (hf:X.env.frame=some X.env.locals) (hg:Gl X cx) (a9:(cx==("__debug__":Str))=false)
 (k:∀x oe H' h6 (g':Array GenState) d' t' o',oe.cls= .ref C->E2 H'->Inv (X.caught x oe) pins σ H' ⟨h6,g',d',t',o'⟩->∀B a0 h5,Heap.FlyingW B X.stack x (.ref C) a0 h5->(∀S,Heap.FlyingW B X.stack x (.ref C) a0 S->h5.UpToSlots S->∃W,W.cls= .ref C/\Inv (X.caught x W) pins σ H' ⟨S,g',d',t',o'⟩)->
   codeAny (model X.prog X.w) (X.A.mark (some (.ref x))) (.handlers (.ref x) [.ExceptHandler none nm a2 hpos] X.env) (fun r M=>match r with
    | .ok f=>(match nm with
      | none=>R f M
      | some n=>wpAny (model X.prog X.w) X.A (do bindName X.env n .none;unbindBehindTheSuite X.env n hpos) (fun _ Y=>R f Y) X.xe M)
    | .error y=>cameBackBy (model X.prog X.w) X.A X.env X.xe y M) ⟨h5,g',d',t',o'⟩):
 wpAny (model X.prog X.w) X.A (noteFrame e X.env) (fun _ M=>wpAny (model X.prog X.w) X.A (setFlight e none) (fun _ Y=>wpAny (model X.prog X.w) X.A (handleBy e X.env [.ExceptHandler (some (.Name cx np)) nm a2 hpos]) R X.xe Y) X.xe M) X.xe s':=by
 obtain⟨x,C',a0,B,H',rfl,os,a4,fl,fx,⟨eC,q⟩⟩:=h
 cases eC
 obtain⟨hh,gg,dd,tt,oo⟩:=s'
 have cau:∀S,Heap.FlyingW B X.stack x (.ref C) a0 S->FX X.prog X.w (frs X.stack) H s.heap B H' S->∃W,W.cls= .ref C/\Inv (X.caught x W) pins σ H' ⟨S,gg,dd,tt,oo⟩:=fun S O a3=>by
  have J:Inv X pins σ H' ⟨S,gg,dd,tt,oo⟩:=I.call' (s':=⟨S,gg,dd,tt,oo⟩) (ch:=[]) os a3.un a3.hok a4 fun b z=>absurd z (by simp)
  obtain⟨oe,vs,a5,hc,hd,_⟩:=O.first
  have hx:x∉frs X.stack:=fun z=>by
   obtain⟨_,o,ho,aa⟩:=O.2.2.1.mem z
   rw [a5]at ho;cases ho
   exact aa vs hd
  refine⟨oe,hc,J.caught a5 ?_ ?_ ?_ fun v z=>by rw [hd]at z;cases z⟩
  . cases z:H' x with
    | none=>rfl
    | some u=>
      obtain⟨o,eo⟩:=a3.k2 x u z
      rw [O.2.1]at eo;cases eo
  . intro z
    exact hx (by rw [U,z];unfold frs;rw [filterMap_cons,hf];exact mem_cons_self)
  . intro z
    exact hx (by rw [U];unfold frs;rw [filterMap_cons,hf];exact mem_cons_of_mem _ z)
 have a6:=fl
 rw [U]at a6
 refine wpAny_looks_onW (U▸I.ok.frames) hf a6 fun h4 Z ac=> ?_
 refine wpAny_landsW Z fun h5 a1 ad=> ?_
 have a7:=(fx.step Z.1 ac).step a1.1 ad
 rw [<-U]at a1
 obtain⟨ae,af,J5⟩:=cau h5 a1 a7
 refine wpAny_handleBy_cons (codeAny_handlers_test (Qu J5 hg hm ?_ a9)) (by intro q;cases q)
 obtain⟨bm,N',aj,q',bs,ai,sn,sub,ab,ak,am,k0,k1,k2,k3,k5,mN,hC,hN,an,TL⟩:=hq.obj J5.kIn
 obtain⟨ob,ag,a8⟩:=a1.there
 refine wpAny_excMatches_sub_self hC ag a8 (TL.hasType (by decide)) ?_
 exact k x ae H' h5 gg dd tt oo af q J5 B a0 h5 a1 fun S O ah=>cau S O (a7.step O.1 ah)
theorem tried {k:Nat}{f:Str}{ps:List Str}{sp:Sp}{a:Expr}{as:List Expr}{ta:TA}{E:XK}{Q:VK}{XE:Value->Shared->Prop}{p cpos:Pos} (Ca:Zu X.prog X.w X.K X.mg X.base k f ps sp) (hr:J0 k X.A) (ha:PA X.nox (a::as) ta) (I:Inv X pins σ H s)
 (h:ta σ H fun Y H1=>sp Y H1 Q E) (hx:∀J H1 e s',Inv X pins σ H1 J->CXE X.prog X.w X.stack H1 J E e s'->XE e s') (hg:Gl X f) (Z:(f==("__debug__":Str))=false) (he:starEach (a::as) X.env=(false,eval a X.env)::starEach as X.env) (a0:(backTo cpos (starEach as X.env)).any (·.1)=false):
 wpAny (model X.prog X.w) X.A (eval (.Call (.Name f p) (a::as) [] cpos) X.env) (EP X pins σ Q) XE s:=by
 obtain⟨f',fd,G,hm,hk,hb⟩:=Ca
 refine wpAny_Call_Name_kw (Qu I hg hm ?_ Z)
 refine callWith_K (h₀:=X.base) I.ok.mod.kin hk (wpAny_mono (ha cpos pins s σ H _ (I.wish _) h) (fun U J ⟨Y,H1,M,r,q⟩=>⟨M.unwish.kIn,?_⟩) fun _ _ z=>False.elim z) he a0
 have M:Inv X pins σ H1 J:=M.unwish
 have hl:U.length=ps.length:=by rw [<-r.length];exact G.len _ _ _ _ q
 have O:=hb J U M.kIn (by rw [append_nil];exact hl)
 rw [append_nil]at O
 refine wpAny_call (codeAny_mono (G.run X.A X.stack J H1 ⟨U,[]⟩ U Y Q E hr M.env0 O r q) fun r s' S=> ?_)
 cases r with
 | error e=>exact hx J H1 e s' M S
 | ok fl=>
   cases fl with
   | ret u=>exact M.after S
   | next=>exact False.elim S
   | brk=>exact False.elim S
   | cont=>exact False.elim S
end
section
variable {X:Cx}{C:Addr}{cx n f:Str}{np p cpos pos hpos:Pos}{b0 st:Stmt}{suite:List Stmt}{i k:Nat}{ts:Addr->Obj->TS}{ps:List Str}{sp:Sp}{a:Expr}{as:List Expr}{ta:TA}{g:V->St->St}
theorem Fo (Ca:Zu X.prog X.w X.K X.mg X.base k f ps sp) (hr:J0 k X.A) (ha:PA X.nox (a::as) ta) (hb:Zt X st (.Call (.Name f p) (a::as) [] cpos) g) (hq:Xv X.K C) (hm:X.mg cx=some (.ref C))
 (hs:∀x oe,oe.cls= .ref C->PSs (X.caught x oe) (b0::suite) (ts x oe)) (hN:X.N.Nodup) (hi:X.N[i]? =some n) (a1:X.stack=X.env::X.outer:=by rfl) (hf:X.env.frame=some X.env.locals:=by rfl) (a2:Gl X cx:=by rfl) (a3:(cx==("__debug__":Str))=false:=by decide)
 (hg:Gl X f:=by rfl) (a4:(f==("__debug__":Str))=false:=by decide) (he:starEach (a::as) X.env=(false,eval a X.env)::starEach as X.env:=by rfl) (a5:(backTo cpos (starEach as X.env)).any (·.1)=false:=by rfl) (hn:X.env.kindOf n=some .local :=by rfl) (a6:Loc X.env.scope n:=by exact Or.inl rfl) (a7:X.env.scope.names.lookup n=some .local :=by rfl):
 PS X (.Try [st] [.ExceptHandler (some (.Name cx np)) (some n) (b0::suite) hpos] [] [] pos) (Agt sp C g i ta ts):=by
 intro pins s σ H D I h
 refine wpAny_Try_except (wpAny_execs_cons (hb pins s σ H _ (fun v H2=>D.nx (g v σ) H2) _ I (tried Ca hr ha I h (fun s1 H1 e s' I1 z=> ?_) hg a4 he a5) fun v H1 s1 q I1=>wpAny_execs_nil (wpAny_execs_nil ⟨_,_,I1,q⟩)))
 refine looked I1 z hq hm a1 hf a2 a3 fun x oe H' h6 g' d' t' o' hc q J B a0 h5 fl a8=> ?_
 refine codeAny_handlers_suite_as ?_
 refine lands_againW fl fun h7 a9 aa=> ?_
 obtain⟨U,Y,J7⟩:=a8 h7 a9 aa
 refine Ld (X:=X.caught x U) J7 hN hi a6 (v:= .ref x) (u:= .ref x) rfl (fun s8 I8=> ?_) (.inr a7)
 refine wpAny_mono (hs x U Y pins s8 _ H' _ I8 (q x U Y)) (fun fl s9 q9=> ?_) fun _ _ z=>False.elim z
 have go:∀ {M:St}{O:Hp}{R:Unit->Shared->Prop},Inv (X.caught x U) pins M O s9->(∀S,Inv X pins (M.set i none) O S->R () S)->wpAny (model X.prog X.w) X.A (do bindName X.env n .none;unbindBehindTheSuite X.env n hpos) R X.xe s9:=fun {M O R} J k=>by
  have J':=J.uncaught I.ok
  obtain⟨m,Z,hl⟩:=id J'.loc
  refine wpAny_nameGoes_keeps hn Z (by rw [I.ok.kind];rfl) fun h' v hv ac=>k _ ?_
  exact J'.gone hN hi hl Z hv ac
 cases fl with
 | next=>obtain⟨M,O,W,q⟩:=q9;exact go W fun S J=>⟨_,_,J,q⟩
 | brk=>obtain⟨M,O,W,q⟩:=q9;exact go W fun S J=>⟨_,_,J,q⟩
 | cont=>obtain⟨M,O,W,q⟩:=q9;exact go W fun S J=>⟨_,_,J,q⟩
 | ret u=>obtain⟨v,M,O,W,r,q⟩:=q9;exact go W fun S J=>⟨v,_,_,J,r,q⟩
end
end L2
namespace L2
open PySem PySem.Spec PyProof.Rows
set_option maxRecDepth 100000
structure Acy (K:Frag) (C:Addr):Prop where
 ga:findIn K (.ref C) "__getattribute__"=some (some (.builtin "BaseException.__getattribute__"))
 gn:findIn K (.ref C) "__getattr__"=some none
 cl:findIn K (.ref C) "__class__"=some (some (.builtin "object.__class__"))
 ob:mroIn K C (.type "object")=some true
 be:mroIn K C (.type "BaseException")=some true
theorem Acy.is {K:Frag}{C:Addr} (Z:Acy K C):(clsIn K C).isSome=true:=by
 obtain⟨cd,a,_⟩:=Option.bind_eq_some_iff.mp Z.ob
 rw [a];rfl
section
variable {prog:Program}{w:World}{A:Around}{E:Value->Shared->Prop}{K:Frag}{x C:Addr}{oe:Obj}{h:Heap}{g:Array GenState}{d:Drawn}{t:Nat}{os:OsState}
theorem Ale {M:Model} (z:h.get? x=some oe) (I:oe.cls= .ref C):Looks M h (typeOf (.ref x)) (.ref C):=I▸(Looks.ld z).andThen .now
theorem Ah0 {R:Result->Shared->Prop} (X:K.In h) (Z:Acy K C) (z:h.get? x=some oe) (I:oe.cls= .ref C) (q:R (.ok (.ret (.ref C))) ⟨h,g,d,t,os⟩):
 codeAny (model prog w) A (.call (.builtin "getset_descriptor.__get__") ⟨[.builtin "object.__class__",.ref x,.ref C],[]⟩) R ⟨h,g,d,t,os⟩:=by
 have S:=Ale (M:=model prog w) z I
 have J:=looks_mroIn (M:=model prog w) X Z.ob
 have tg:(⟨h,g,d,t,os⟩:Shared).TypeIs (.builtin "object.__class__") "getset_descriptor":=PySem.W.KF.type_class
 have O:(".".intercalate ("object.__class__".cutAt '.').dropLast)="object":=by decide+kernel
 refine codeAny_call_builtin slot_gs_get.plain PySem.F.entry_gs_get (slot_gs_get.check _ _ _ _ _ _ _ _ tg (PySem.F.args_gs_get _ _ _) ?_)
 repeat (any_goals (first | assumption | (with_reducible refine wpAny_loadPart_at z ?_;rw [I]) | (rw [O];with_reducible refine J.at ?_) | wp_step))
 refine⟨Code.quiet_builtin _ (by decide+kernel),codeAny_builtin PySem.W.KF.entry_class ?_⟩
 unfold Builtin.«object.__class__» shownTypeOf
 repeat (any_goals (first | assumption | (with_reducible refine wpAny_loadPart_at z ?_;rw [I]) | wp_step))
theorem Ahz {tk:Tok}{Q:Fin->Shared->Prop} (X:K.In h) (Z:Acy K C) (z:h.get? x=some oe) (I:oe.cls= .ref C) (q:Q (.done (.ret (.ref C))) ⟨h,g,d,t,os⟩):
 wpAny (model prog w) A (Builtin.«object.__getattribute__» ⟨[.ref x,.str "__class__" tk],[]⟩) Q E ⟨h,g,d,t,os⟩:=by
 have tg:(⟨h,g,d,t,os⟩:Shared).TypeIs (.builtin "object.__class__") "getset_descriptor":=PySem.W.KF.type_class
 have J:=looks_findIn (M:=model prog w) X Z.cl
 have O:=PySem.W.KF.type_class
 have S:=slot_gs_get.lookup
 have U:=PySem.F.slot_gs_set.lookup
 repeat (any_goals (first | assumption | (with_reducible refine wpAny_loadPart_at z ?_;rw [I]) | with_reducible refine J.at ?_ | wp_step))
 refine Ah0 X Z z I ?_
 repeat (any_goals (first | assumption | wp_step))
theorem Ahy {M:Model}{z:Value}{Q:Unit->Shared->Prop} (X:K.In h) (Z:Acy K C) (I:h.get? x=some oe) (J:oe.cls= .ref C) (q:Q () ⟨h,g,d,t,os⟩):wpAny M A (checkBuiltinCall "BaseException.__getattribute__" ⟨[.ref x,z],[]⟩) Q E ⟨h,g,d,t,os⟩:=by
 have O:builtinKind "BaseException.__getattribute__"=some .slot:=by decide+kernel
 have S:splitId "BaseException.__getattribute__"=some ("BaseException","__getattribute__"):=by decide+kernel
 have U:=looks_mroIn (M:=M) X Z.be
 have Y:=PySem.F.args_bexc_ga (.ref x) z
 simp only [checkBuiltinCall,O,S]
 refine wpAny_bind ?_
 unfold isInstance
 repeat (any_goals (first | assumption | (with_reducible refine wpAny_loadPart_at I ?_;rw [J]) | with_reducible refine U.at ?_ | wp_step))
theorem Al9 {tk:Tok}{Q:Value->Shared->Prop} (X:K.In h) (Z:Acy K C) (z:h.get? x=some oe) (I:oe.cls= .ref C) (q:Q (.ref C) ⟨h,g,d,t,os⟩):
 wpAny (model prog w) A (getAttrBy (.ref x) (.str "__class__" tk) false) Q E ⟨h,g,d,t,os⟩:=by
 have S:=PySem.F.attr_ValueError.ga.bind (.ref x)
 have U:(false&&onTheHeap (Value.builtin "BaseException.__getattribute__"))=false:=rfl
 have Y:(onTheHeap (Value.ref C)&&Value.builtin "BaseException.__getattribute__"==Value.builtin "object.__getattribute__")=false:=by
  rw [show(Value.builtin "BaseException.__getattribute__"==Value.builtin "object.__getattribute__")=false by decide+kernel];rfl
 have J:=looks_findIn (M:=model prog w) X Z.ga
 have O:=looks_findIn (M:=model prog w) X Z.gn
 repeat (any_goals (first | assumption | (with_reducible refine wpAny_loadPart_at z ?_;rw [I]) | with_reducible refine J.at ?_ | with_reducible refine O.at ?_ | wp_step))
 refine codeAny_call_builtin PySem.F.attr_ValueError.ga.plain PySem.F.entry_bexc_ga (Ahy X Z z I (Ahz X Z z I ?_))
 repeat (any_goals (first | assumption | wp_step))
theorem Adz {Q:Option Value->Shared->Prop} (X:K.In h) (Z:Acy K C) (z:h.get? x=some oe) (I:oe.cls= .ref C) (q:Q (some (.ref C)) ⟨h,g,d,t+1,os⟩):
 wpAny (model prog w) A (getAttr? (.ref x) "__class__") Q E ⟨h,g,d,t,os⟩:=by
 unfold getAttr? getAttrBy?
 repeat (any_goals (first | assumption | with_reducible apply Al9 X Z z I | wp_step))
theorem Aak (Z:Acy K C) (U:oe.cls= .ref C):KitX K (.ref x) (.ref C) (fun h=>h.get? x=some oe) where
 ty:=fun _ _ _ z=>Ale z U
 it:=fun M h X _=>by
  obtain⟨cd,e⟩:=isSome_iff_exists.mp Z.is
  unfold clsIn at e
  split at e
  . rename_i Y d1 I J O
    intro A' Q' E' s' k q
    unfold isType loadHead
    exact wpAny_bind (wpAny_loadPart (k _ _ (X _ _ O)) (wpAny_pure q))
  . cases e
 ne:=fun h tp dd a0 n sl X S=>by
  obtain⟨cd,e⟩:=isSome_iff_exists.mp Z.is
  refine Bool.eq_false_iff.mpr fun q=> ?_
  cases Value.ref.inj (beq_iff_eq.mp q)
  unfold clsIn at e
  split at e
  . rename_i Y d1 I J O
    cases(X _ _ O).symm.trans S
  . cases e
 ca:=fun {_ _ _ _ _ s} X z q=>by
  obtain⟨h,g,d,t,os⟩:=s
  exact Adz X Z z U q
end
theorem Adf {X:Cx}{x C:Addr}{oe:Obj} (Y:(x,oe)∈X.pn) (S:oe.cls= .ref C) (Z:Acy X.K C):Hv X (.builtin "isinstance") (fun xs H Q=>∃b,((∃J,xs=[.ref x,.ref J]/\kitOne X.K (.ref C) (.ref J)=some b)\/∃T,xs=[.ref x,.ty T]/\kitOne X.K (.ref C) (.type T)=some b)/\Q (.bl b) H):=by
 intro pins s σ H xs us Q I r h
 obtain⟨b,h,q⟩:=h
 have U:=(I.pin (x,oe) (mem_append_left _ Y)).1
 rcases h with⟨J,rfl,e⟩ | ⟨T,rfl,e⟩
 . obtain⟨u,c,rfl,M,O⟩:=vals2 r
   cases M;cases O
   exact kia_one (Aak Z S) I.kIn U e (fun z=>nomatch z) fun tk=>⟨.bl b,H,I.tok tk,rfl,q⟩
 . obtain⟨u,c,rfl,M,O⟩:=vals2 r
   cases M;cases O
   exact kia_one (Aak Z S) I.kIn U e (fun z=>nomatch z) fun tk=>⟨.bl b,H,I.tok tk,rfl,q⟩
theorem nw {H H':Hp}{p:Addr}{o:HO} (z:H p=none) (e:upd H p o=H'):Same H H'/\H' p=some o:=by
 subst e
 exact⟨Same.upd z _,Ao⟩
end L2
namespace L2
open PySem PySem.Spec PyProof.Rows
noncomputable def Eb:Expr->Bool
 | .Starred _ _=>false
 | _=>true
theorem Ju {e:Expr}{es:List Expr}{env:Env} (h:Eb e=true):starEach (e::es) env=(false,eval e env)::starEach es env:=by
 cases e<;>first | rfl | cases h
theorem Lb {env:Env}{pos:Pos}:∀ {es:List Expr},es.all Eb=true->(backTo pos (starEach es env)).any (·.1)=false
 | [],_=>rfl
 | e::es,h=>by
   rw [List.all_cons,and_eq_true]at h
   rw [Ju h.1]
   have z:=Lb (env:=env) (pos:=pos) h.2
   unfold backTo at z ⊢
   rw [map_cons,any_cons,z]
   rfl
section
variable {X:Cx}{e:Expr}{es:List Expr}{te:TE}{t:TA}{x:Str}{p pos:Pos}{id T:String}{r:List V->Hp->VK->Prop}{k:Nat}{ps:List Str}{sp:Sp}
theorem Akr (z:PE X e te) (I:PA X es t) (h:Eb e=true:=by rfl):PA X (e::es) (Ajf te t):=Anb z I (Ju h)
theorem Afo (I:Hv X (.builtin id) r) (J:Gl X x) (M:X.mg x=none) (hv:bootBuiltins x=some (.builtin id)) (O:PA X (e::es) t) (h1:Eb e=true:=by rfl) (h2:es.all Eb=true:=by rfl) (S:x≠"__name__":=by decide) (z:(x==("__debug__":Str))=false:=by decide):
 PE X (.Call (.Name x p) (e::es) [] pos) (tCB r t):=Aiq I J M hv O S z (Ju h1) (Lb h2)
theorem Wz (I:Hv X (.type T) r) (J:Gl X x) (M:X.mg x=none) (hv:bootBuiltins x=some (.type T)) (O:PA X (e::es) t) (h1:Eb e=true:=by rfl) (h2:es.all Eb=true:=by rfl) (S:x≠"__name__":=by decide) (z:(x==("__debug__":Str))=false:=by decide):
 PE X (.Call (.Name x p) (e::es) [] pos) (tCB r t):=Afq I J M hv O S z (Ju h1) (Lb h2)
theorem Ab9 (C:Cal X.prog X.w X.K X.mg X.base k x ps sp) (I:J0 k X.A) (J:PA X (e::es) t) (h1:Eb e=true:=by rfl) (h2:es.all Eb=true:=by rfl) (M:Gl X x:=by rfl) (z:(x==("__debug__":Str))=false:=by decide):
 PE X (.Call (.Name x p) (e::es) [] pos) (Vu sp [] E0 t):=Air C I J M z (Ju h1) (Lb h2)
theorem Aca {n:Nat} (C:Cal X.prog X.w X.K X.mg X.base k x ps sp) (I:J0 n X.A) (J:PA X (e::es) t) (M:k<=n:=by decide) (h1:Eb e=true:=by rfl) (h2:es.all Eb=true:=by rfl) (O:Gl X x:=by rfl) (z:(x==("__debug__":Str))=false:=by decide):
 PE X (.Call (.Name x p) (e::es) [] pos) (Vu sp [] E0 t):=Ab9 C (I.mono M) J h1 h2 O z
theorem Afx {te:TE}{x:Str}{z:Pos} (i:Nat) (I:X.N.Nodup) (J:PE X e te) (hi:X.N[i]? =some x:=by rfl) (M:Loc X.env.scope x:=by first | exact Or.inl rfl | exact Or.inr rfl) (hs:swapsWith e (some (.Name x z)) pos.line X.env=pure false:=by rfl) (O:X.fn x=true\/X.env.scope.names.lookup x=some .local :=by first | exact .inl rfl | exact .inr rfl | assumption):
 PS X (.Assign [.Name x z] e pos) (Aje te (Qp i)):=Aav I hi M J hs O
theorem Aiu {x:Str} (i:Nat) (z:X.N.Nodup) (hi:X.N[i]? =some x:=by rfl) (I:Loc X.env.scope x:=by first | exact Or.inl rfl | exact Or.inr rfl) (J:X.fn x=true\/X.env.scope.names.lookup x=some .local :=by first | exact .inl rfl | exact .inr rfl | assumption):PG X (.Name x pos) (Qp i):=Y0 z hi I J
end
noncomputable def Itd (lo:Int) (n:Nat):It:=⟨fun i _=>i<n,fun i H x H'=>H'=H/\x= .int (lo-i),fun i _=>n<=i⟩
theorem Agw {P:Program}{w:World}{K:Frag}{tg:Expr} (J:Addr) (lo:Int) (n:Nat):Turn P w K tg (Itd lo n) [J] J (fun i h=>IsRangeIter h J (lo+(i:Nat)*(-1)) ((n:Int)-(i:Nat)) (-1)) where
 mem:=by simp
 obj:=fun i h st b M=>by
  have e:b=J:=by simpa using M
  subst e
  exact⟨_,st,fun v z=>by
   have z':Data.fields _=Data.cell v:=z
   cases z'⟩
 keep:=fun i h h' st k=>k J (by simp) _ st
 item:=by
  intro X U Y Z hc i pins s σ H E I S st hg
  subst U Y Z
  obtain⟨f0,f1,f2,f3,f4,f5⟩:=S J (by simp)
  have W:=Walks.range (prog:=X.prog) (w:=X.w) (I.ok.hd hc) J lo (-1) n
  refine W.item i s _ _ hg st fun v h' tk hv O kk=> ?_
  obtain⟨t,rfl⟩:=hv
  have I1:Inv X pins σ H { s with heap:=h',toks:=tk}:=I.turned (fun b o M e=>kk b o (by simpa using M) e) f0 f1 f3 f4 f5
  refine⟨_,rfl,Ad9 (s:={ s with heap:=h',toks:=tk}) (n:="range_iterator") O rfl rfl (by decide) ⟨.int (lo-i),H,I1,⟨t,?_⟩,⟨rfl,rfl⟩,O,fun b M=>(S b M).1⟩⟩
  rw [mul_neg,mul_one,<-Int.sub_eq_add_neg]
 done:=by
  intro X U Y Z hc i pins s σ H E I S st hg
  subst U Y Z
  obtain⟨f0,f1,f2,f3,f4,f5⟩:=S J (by simp)
  exact wpAny_pyNext_range_end (I.ok.hd hc) st (by have:n<=i:=hg;omega) fun h' eb=>⟨rfl,I.turned (t':=s.toks) (fun b o M e=>eb b o M e) f0 f1 f3 f4 f5⟩
 self:=fun _ _ _ _ _ st h=>wpAny_pyIter_rangeiter st h
section
variable {X:Cx}{tg:Expr}
theorem Al3 {pins:List (Addr × Obj)}{σ:St}{H:Hp}{s:Shared}{R:It->Hp->Prop}{E:Value->Shared->Prop}{lo hi:Int}{t u v:Tok}{tk:Nat} (I:Inv X pins σ H s) (h1: -(2^62)<=lo) (h2:lo<2^62) (J: -(2^62)<=hi) (M:hi<2^62)
 (q:R (Itd lo (lo-hi).toNat) H):wpAny (model X.prog X.w) X.A (pyIter (.ref s.heap.objs.size)) (PIE X pins σ tg R) E { s with heap:=s.heap.push { cls:= .type "range",data:= .fields #[.int lo t,.int hi u,.int (-1) v]},toks:=tk}:=by
 refine wpAny_pyIter_range (IsRange.new ..) (PySem.W.small_down h1 h2 J M) ?_
 have z:Inv X pins σ H { s with heap:=s.heap.push { cls:= .type "range",data:= .fields #[.int lo t,.int hi u,.int (-1) v]},toks:=tk}:=I.kept fun b o e=>Heap.get?_push_of_some _ e
 refine⟨(s.heap.push { cls:= .type "range",data:= .fields #[.int lo t,.int hi u,.int (-1) v]}).objs.size,[(s.heap.push { cls:= .type "range",data:= .fields #[.int lo t,.int hi u,.int (-1) v]}).objs.size],_,_,H,rfl,
  z.kept (t':=tk) fun b o e=>Heap.get?_push_of_some _ e,Agw _ lo (lo-hi).toNat,?_,fun b O=> ?_,q⟩
 . have S:lo+((0:Nat):Int)*(-1)=lo:=by simp
   have U:(((lo-hi).toNat:Nat):Int)-((0:Nat):Int)=Builtin.Range.rangeSize lo hi (-1):=by rw [PySem.W.rangeSize_downNat];omega
   show IsRangeIter _ _ (lo+((0:Nat):Int)*(-1)) ((((lo-hi).toNat:Nat):Int)-((0:Nat):Int)) (-1)
   rw [S,U]
   exact Heap.get?_push_size _ rfl
 . have e:b=(s.heap.push { cls:= .type "range",data:= .fields #[.int lo t,.int hi u,.int (-1) v]}).objs.size:=by simpa using O
   subst e
   exact z.fpOk (le_refl _) (z.hok.fresh (le_refl _))
noncomputable def Ami (ta:TA):TI:=fun σ H R=>ta σ H fun vs H1=>∃i j:Int,vs=[.int i,.int j,.int (-1)]/\(-(2^62)<=i/\i<2^62/\ -(2^62)<=j/\j<2^62)/\R (Itd i (i-j).toNat) H1
theorem Y5 {a b c:Expr}{ta:TA}{p pos:Pos} (O:Gl X "range") (S:X.mg "range"=none) (U:PA X [a,b,c] ta) (h1:Eb a=true:=by rfl) (h2:[b,c].all Eb=true:=by rfl):
 PI X tg (.Call (.Name "range" p) [a,b,c] [] pos) (Ami ta):=by
 intro pins s σ H R I h
 refine Call_ (Mt I O S boot_range (PyProof.Rows.callWith_type1 (thn (U pos pins s σ H _ I h) fun us s1 ⟨vs,H1,W,Y,J⟩=> ?_) (Ju h1) (Lb h2)))
 obtain⟨i,j,e,⟨J,Z,q3,q4⟩,q⟩:=J
 subst e
 cases Y with
 | cons r z=>
   cases z with
   | cons r' z=>
     cases z with
     | cons M z=>
       cases z
       obtain⟨t,rfl⟩:=r
       obtain⟨t',rfl⟩:=r'
       obtain⟨a0,rfl⟩:=M
       exact call_range_3 (by decide) (Al3 W J Z q3 q4 q) (.inl (PyProof.noPylong_of_log2 (by decide+kernel)))
theorem Ary {ta:TA}{σ:St}{H:Hp}{R:It->Hp->Prop}:Ami ta σ H R=ta σ H (fun z H1=>∃i j:Int,z=[.int i,.int j,.int (-1)]/\(-(2^62)<=i/\i<2^62/\ -(2^62)<=j/\j<2^62)/\R (Itd i (i-j).toNat) H1):=rfl
theorem Auf {i j:Int}{G:Int->Int->Prop}:(∃z I:Int,[V.int i,.int j,.int (-1)]=[.int z,.int I,.int (-1)]/\G z I)=G i j:=propext ⟨fun⟨_,_,e,h⟩=>by cases e;exact h,fun h=>⟨i,j,rfl,h⟩⟩
end
theorem R7 {H:Hp}{lo:Int}{n:Nat}:Alk (Itd lo n) H (List.range n) (fun i=> .int (lo-(i:Nat))):=fun i=>by
 refine⟨fun e=> ?_,fun e h=> ?_⟩
 . have:=List.getElem?_eq_none_iff.mp e
   rw [length_range]at this
   exact this
 . obtain⟨h1,h2⟩:=List.getElem?_eq_some_iff.mp h
   rw [length_range]at h1
   rw [List.getElem_range]at h2
   subst h2
   exact⟨h1,fun x z ⟨a,b⟩=>⟨a,b⟩⟩
theorem Af2 (n:Nat):sliceRange ((n:Int)-1) (-1) (-1)=(List.range n).map fun(k:Nat)=>((n:Int)-1+(k:Int)*(-1)).toNat:=by
 unfold sliceRange
 dsimp only
 rw [if_neg (by decide)]
 have e:(if(n:Int)-1> -1 then((n:Int)-1- -1- -1-1)/(- -1)else 0).toNat=n:=by
  split
  . rw [show(- -1:Int)=1 from rfl,ediv_one];omega
  . omega
 rw [e]
 refine map_congr_left fun k _=> ?_
 omega
theorem Afs (its:List Value):slicePick its.toArray none none (some (-1))=its.reverse.toArray:=by
 unfold slicePick
 have e:(sliceBounds none none (some (-1)) its.toArray.size)=((its.length:Int)-1,-1,-1):=by
  unfold sliceBounds
  simp
 rw [e]
 dsimp only
 rw [Af2,List.filterMap_map]
 exact congrArg toArray (W4 its)
section
variable {X:Cx}{e st:Expr}{te tst:TE}{pos p2:Pos}
noncomputable def Aoe (K:Frag) (te tst:TE):TE:=fun σ H Q=>te σ H fun x H1=>tst σ H1 fun y H2=>∃a xs,x= .ref a/\y= .int (-1)/\SqL K H2 a xs/\∀p,H2 p=none->Q (.ref p) (upd H2 p (.lst xs.reverse))
theorem Anf (W:PE X e te) (M:PE X st tst):PE X (.Subscript e (.Slice none none (some st) p2) pos) (Aoe X.K te tst):=by
 intro pins s σ H Q I h
 refine Subscript_ (thn (W pins s σ H _ I h) fun v Y ⟨x,H1,Z,r1,q1⟩=> ?_)
 refine wpAny_Slice ?_
 rw [evalPart_none]
 refine wpAny_pure (wpAny_pure ?_)
 rw [evalPart_some]
 refine thn (M pins Y σ H1 _ Z q1) fun u z ⟨y,H3,I3,r3,q3⟩=> ?_
 obtain⟨a,xs,rfl,rfl,hq,q⟩:=q3
 obtain⟨tk,rfl⟩:=r3
 cases r1
 have O:Inv X pins σ H3 { z with heap:=z.heap.push { cls:= .type "slice",data:= .fields #[.none,.none,.int (-1) tk]}}:=I3.kept (t':=z.toks) fun b ob q=>Heap.get?_push_of_some _ q
 obtain⟨a0,r,S,U⟩:=O.list hq
 have J:=r.length
 show wpAny (model X.prog X.w) X.A (subscriptTail e (.Slice none none (some st) p2) (.ref a) (.ref z.heap.objs.size)) (EP X pins σ Q) X.xe { z with heap:=z.heap.push { cls:= .type "slice",data:= .fields #[.none,.none,.int (-1) tk]}}
 refine tail_any (ops:=[.ref a,.ref z.heap.objs.size]) S.isList.typeIs slot_list_getitem.lookup (wpAny_getItem_list_slice (st:=some (-1)) S.isList ⟨_,Heap.get?_push_size _ rfl,rfl,rfl⟩ .none .none (.int _ _) (by decide) ?_ (by rw [size_toArray,<-J];exact U)) (by with_unfolding_all rfl)
 rw [Afs]
 exact⟨.ref _,_,O.laid (t':=z.toks) (o:= .lst xs.reverse) (fun b ob q=>Heap.get?_push_of_some _ q) (le_refl _) ⟨by rw [length_reverse];exact U,_,0,r.rev,Heap.get?_push_size _ rfl⟩,rfl,q _ O.fresh⟩
theorem Asb {K:Frag}{σ:St}{H:Hp}{Q:VK}:Aoe K te tst σ H Q=te σ H (fun x H1=>tst σ H1 fun y H2=>∃a xs,x= .ref a/\y= .int (-1)/\SqL K H2 a xs/\∀p,H2 p=none->Q (.ref p) (upd H2 p (.lst xs.reverse))):=rfl
end
theorem Ama {σ:St}{H:Hp}{g:TG}{tb:TS}{D:Ends}{J:It} (n:Nat) (inj:Nat->V) (I:Nat->St->Hp->Prop) (U:I 0 σ H) (W:∀i σ H,I i σ H->Alk J H (List.range n) inj)
 (hs:∀i σ H,i<n->I i σ H->g (inj i) σ H fun M H2=>tb { D with nx:=I (i+1),ct:=I (i+1),bk:=D.nx} M H2) (Y:∀σ H,I n σ H->D.nx σ H):FI J g tb D σ H:=by
 refine Sd (es:=List.range n) (inj:=inj) (fun z=>I z.length) U (fun z σ H p=>W z.length σ H p) (fun z e O σ H S p=> ?_) (fun σ H p=>Y σ H (by rw [length_range]at p;exact p))
 have Z:=congrArg List.length S
 rw [length_range,length_append,length_cons]at Z
 have ee:e=z.length:=by
  have:=congrArg (fun l=>l[z.length]?) S
  simp only [getElem?_append_right (le_refl _),sub_self,List.getElem?_cons_zero]at this
  rw [getElem?_range (by omega)]at this
  exact(Option.some.inj this).symm
 subst ee
 have:=hs z.length σ H (by omega) p
 rw [length_append,length_singleton]
 exact this
theorem Same.put {H H':Hp}{p:Addr}{o:HO} (s:Same H H') (z:H p=none):Same H (L2.upd H' p o):=fun b u e=>by
 rw [Cr (Cw e z)]
 exact s b u e
noncomputable def As0 (K:Frag) (tl:TE):TI:=fun σ H R=>tl σ H fun x H1=>∃a,x= .ref a/\(((∃xs,SqL K H1 a xs)/\R (Itl K a) H1)\/((∃xs,SqT K H1 a xs)/\R (Itt K a) H1))
theorem Aqv {X:Cx}{tg l:Expr}{tl:TE} (W:PE X l tl):PI X tg l (As0 X.K tl):=by
 intro pins s σ H R I h
 refine thn (W pins s σ H _ I h) fun v z ⟨x,H1,J,Y,O⟩=> ?_
 obtain⟨a,e,O⟩:=O
 subst e
 cases Y
 have U:∀b∈ [z.heap.objs.size],V5 X pins H1 b:=fun b Z=>by
  have e:b=z.heap.objs.size:=by simpa using Z
  subst e
  exact J.fpOk (le_refl _) (J.hok.fresh (le_refl _))
 rcases O with⟨⟨xs,S⟩,q⟩ | ⟨⟨xs,S⟩,q⟩
 . obtain⟨M,rv,p,hz⟩:=J.list S
   exact wpAny_pyIter_list p.isList ⟨z.heap.objs.size,[z.heap.objs.size],_,_,H1,rfl,J.kept (t':=z.toks) fun b o e=>Heap.get?_push_of_some _ e,Xm a _,⟨_,Heap.get?_push_size _ rfl,rfl,rfl⟩,U,q⟩
 . obtain⟨M,rv,p,hz⟩:=J.tuple S
   exact wpAny_pyIter_tuple (show z.heap.IsTuple a M.toArray from p) ⟨z.heap.objs.size,[z.heap.objs.size],_,_,H1,rfl,J.kept (t':=z.toks) fun b o e=>Heap.get?_push_of_some _ e,Ua a _,⟨_,Heap.get?_push_size _ rfl,rfl,rfl⟩,U,q⟩
theorem Ar4 {K:Frag}{tl:TE}{σ:St}{H:Hp}{R:It->Hp->Prop}:As0 K tl σ H R=tl σ H (fun x H1=>∃a,x= .ref a/\(((∃xs,SqL K H1 a xs)/\R (Itl K a) H1)\/((∃xs,SqT K H1 a xs)/\R (Itt K a) H1))):=rfl
theorem Bt {t u:TS}{D:Ends}{σ:St}{H:Hp} (P:St->Hp->Prop) (h1:∀N:St->Hp->Prop,(∀z H',P z H'->N z H')->t { D with nx:=N} σ H) (h2:∀z H',P z H'->u D z H'):Aso t u D σ H:=h1 (u D) h2
theorem Vw {K:Frag}{H:Hp}{p a:Addr}{I xs:List V}{o:HO} (h:SqT K H a xs) (J:H p=some (.lst I)):SqT K (upd H p o) a xs:=by
 rcases h with(h | ⟨o',h⟩) | h
 . exact .inl (.inl (by rw [Cr (Aig h J (by intro z;cases z))];exact h))
 . exact .inl (.inr ⟨o',by rw [Cr (Aig h J (by intro z;cases z))];exact h⟩)
 . exact .inr h
open PySem PySem.SeqAt PySem.Spec PyProof.Rows
section
variable {X:Cx}
theorem Aqg:OpR X (compareOp .Is) (fun x y H Q=>∃a b:Bool,x= .bl a/\y= .bl b/\Q (.bl (a==b)) H):=by
 intro pins s σ H x y v u Q I z J h
 obtain⟨a,b,rfl,rfl,q⟩:=h
 cases z
 cases J
 exact is_bool ⟨.bl _,H,I,rfl,q⟩
theorem Am7:OpR X (compareOp .IsNot) (fun x y H Q=>∃a b:Bool,x= .bl a/\y= .bl b/\Q (.bl (a != b)) H):=by
 intro pins s σ H x y v u Q I z J h
 obtain⟨a,b,rfl,rfl,q⟩:=h
 cases z
 cases J
 exact isnot_bool ⟨.bl _,H,I,rfl,q⟩
open Classical in
end
noncomputable def tCV (i:Nat) (a:Addr) (sp:Sp) (E:XK) (t:TA):TE:=fun σ H Q=>σ[i]? =some (some (.ref a))/\t σ H fun vs H1=>sp vs H1 Q E
theorem Av2 {i:Nat}{a:Addr}{sp:Sp}{E:XK}{t:TA}{σ:St}{H:Hp}{Q:VK}:tCV i a sp E t σ H Q=(σ[i]? =some (some (.ref a))/\t σ H fun z H1=>sp z H1 Q E):=rfl
theorem Anc {X:Cx}{i k:Nat}{a:Addr}{x y:Str}{ps:List Str}{sp:Sp}{p pos:Pos}{e:Expr}{es:List Expr}{t:TA} (C:Cal X.prog X.w X.K X.mg X.base k y ps sp) (M:X.mg y=some (.ref a)) (O:J0 k X.A)
 (S:PE X (.Name x p) (Ak8 i)) (U:PA X (e::es) t) (h1:Eb e=true:=by rfl) (h2:es.all Eb=true:=by rfl):PE X (.Call (.Name x p) (e::es) [] pos) (tCV i a sp E0 t):=by
 obtain⟨f,fd,G,g,b,c⟩:=C
 have Y:f=a:=by rw [M]at g;cases g;rfl
 subst Y
 intro pins s σ H Q I h
 obtain⟨hv,h⟩:=h
 refine wpAny_Call_Name_kw (thn (S pins s σ H (fun v H1=>v= .ref f/\H1=H) I ⟨_,hv,rfl,rfl⟩) fun u Z ⟨v,H1,z,r,e1,e2⟩=> ?_)
 subst e1 e2
 cases r
 refine callWith_K (h₀:=X.base) z.ok.mod.kin b (thn (U pos pins Z σ H1 _ z h) fun us s2 ⟨vs,H2,J,r2,q⟩=>⟨J.kIn,?_⟩) (Ju h1) (Lb h2)
 have q':sp (vs++ []) H2 Q E0:=by rw [append_nil];exact q
 exact Ak1 G O c .nil Aqj J r2 q'
theorem Aao {X:Cx}{x:Str}{v:V}{pos:Pos} (z:Gl X x) (h:∃u,X.mg x=some u/\RelV v u) (I:(x==("__debug__":Str))=false:=by decide):PE X (.Name x pos) (tC v):=by
 obtain⟨u,a,b⟩:=h
 exact Yz z a b I
section
variable {c:TT}{tb:TS}{D:Ends}{σ:St}{H:Hp}
noncomputable def WM (Pv:Nat->St->Hp->Prop) (tb:TS) (D:Ends) (m:Nat) (σ:St) (H:Hp):Prop:=∃N:St->Hp->Prop,(∀σ' H',N σ' H'->∃m',m'<m/\Pv m' σ' H')/\tb { D with nx:=N,ct:=N,bk:=D.nx} σ H
theorem Acs {M:Nat->St->Hp->Prop}{m:Nat} (h:tb { D with nx:=fun I H'=>∃J,J<m/\M J I H',ct:=fun I H'=>∃J,J<m/\M J I H',bk:=D.nx} σ H):WM M tb D m σ H:=⟨_,fun _ _ z=>z,h⟩
theorem Oj (z:Nat->St->Hp->Prop) (I:Nat) (J:z I σ H) (hs:∀m σ H,z m σ H->c σ H fun b H1=>if b=true then WM z tb D m σ H1 else D.nx σ H1):Xl c tb D σ H:=⟨z,⟨I,J⟩,hs⟩
end
noncomputable def It1 (t:Bool) (h:Heap) (j u:Addr) (k:Nat):Prop:=if t=true then h.IsTupleIter j u k else h.IsListIter j u k
noncomputable def Sq1 (t:Bool) (h:Heap) (u:Addr) (xs:Array Value):Prop:=if t=true then h.IsTuple u xs else h.IsList u xs
theorem It1.ext {t:Bool}{h g:Heap}{j u b:Addr}{k:Nat} (x:It1 t h j u k) (e:Heap.ExtBut b h g) (n:j≠b):It1 t g j u k:=by
 cases t
 . exact Heap.IsListIter.extBut x e n
 . exact Heap.IsTupleIter.extBut x e n
theorem It1.to {t:Bool}{h g:Heap}{j u:Addr}{k:Nat} (x:It1 t h j u k) (e:∀o,h.get? j=some o->g.get? j=some o):It1 t g j u k:=by
 cases t
 . exact Heap.IsListIter.at x e
 . exact Heap.IsTupleIter.at x e
theorem Sq1.ext {t:Bool}{h g:Heap}{u b:Addr}{xs:Array Value} (x:Sq1 t h u xs) (e:Heap.ExtBut b h g) (n:u≠b):Sq1 t g u xs:=by
 cases t
 . exact Heap.IsList.extBut x e n
 . exact Heap.IsTuple.extBut x e n
theorem It1.there {t:Bool}{h:Heap}{j u:Addr}{k:Nat} (x:It1 t h j u k):∃o,h.get? j=some o/\∀v,o.data≠ .cell v:=by
 cases t
 . obtain⟨o,e,_,d⟩:=(show h.IsListIter j u k from x)
   exact⟨o,e,fun v z=>by rw [d]at z;cases z⟩
 . obtain⟨o,e,_,d⟩:=(show h.IsTupleIter j u k from x)
   exact⟨o,e,fun v z=>by rw [d]at z;cases z⟩
section
variable {prog:Program}{w:World}{A:Around}{E:Value->Shared->Prop}{s:Shared}
theorem Amy {t:Bool}{j u:Addr}{k:Nat}{xs:Array Value}{y:Value}{Q:Value->Shared->Prop} (z:It1 t s.heap j u k) (I:Sq1 t s.heap u xs) (J:xs[k]? =some y)
 (c:∀g,It1 t g j u (k+1)->Heap.SameBut j s.heap g->Q y { s with heap:=g}):wpAny (model prog w) A (Builtin.SmallTypes.nextOf (.ref j)) Q E s:=by
 cases t
 . exact wpAny_nextOf_list_item z I J c
 . exact nextT z I J c
theorem Ws {t:Bool}{j u:Addr}{k:Nat}{xs:Array Value}{Q:Value->Shared->Prop} (z:A.handled=none) (I:It1 t s.heap j u k) (J:Sq1 t s.heap u xs) (M:xs[k]? =none)
 (c:∀g e,Heap.ExtBut j s.heap g->(∃o,g.get? e=some o/\o.cls= .type "StopIteration")->E (.ref e) { s with heap:=g}):wpAny (model prog w) A (Builtin.SmallTypes.nextOf (.ref j)) Q E s:=by
 cases t
 . exact wpAny_nextOf_list_end z I J M c
 . exact Wu z I J M c
theorem Ag8 {t1 t2:Bool}{z TI TO J M Y Z:Addr}{k1 k2:Nat}{xs ys:Array Value}{x y p q:Value}{Q:Value->Shared->Prop} (D:ZipApart z TI TO J M Y Z)
 (hz:IsZip s.heap z TI TO .none) (a3:IsPair s.heap TI (.ref J) (.ref M)) (a4:IsPair s.heap TO p q) (j1:It1 t1 s.heap J Y k1) (j2:It1 t2 s.heap M Z k2) (a1:Sq1 t1 s.heap Y xs) (a2:Sq1 t2 s.heap Z ys) (hx:xs[k1]? =some x) (hy:ys[k2]? =some y)
 (c:∀g,IsZip g z TI TO (rawInt s.heap.objs.size)->IsPair g TO x y->It1 t1 g J Y (k1+1)->It1 t2 g M Z (k2+1)->IsPair g s.heap.objs.size x y->g.objs.size=s.heap.objs.size+1->
   (∀b o,b≠z->b≠TO->b≠J->b≠M->s.heap.get? b=some o->g.get? b=some o)->Q (.ref s.heap.objs.size) { s with heap:=g}):
 wpAny (model prog w) A (Builtin.«zip.__next__» ⟨[.ref z],[]⟩) (fun a5 s'=>∃v,a5= .done (.ret v)/\Q v s') E s:=by
 show wpAny _ _ (field (.ref z) 2>>=_) _ _ s
 refine wpAny_bind (wpAny_field hz rfl (x:= .bool false) rfl ?z1)
 case z1=>
 show wpAny _ _ (field (.ref z) 3>>=_) _ _ s
 refine wpAny_bind (wpAny_field hz rfl (x:= .ref TI) rfl (wpAny_bind (wpAny_seqItems a3 rfl ?z2)))
 case z2=>
 show wpAny _ _ (Builtin.SmallTypes.ownedTupleIsFree (.ref z)>>=_) _ _ s
 refine wpAny_bind (m:=Builtin.SmallTypes.ownedTupleIsFree (.ref z)) ?z3
 case z3=>
 unfold Builtin.SmallTypes.ownedTupleIsFree;refine wpAny_bind (wpAny_field hz rfl (x:= .none) rfl (wpAny_pure ?z4))
 case z4=>
 simp only [if_true];refine wpAny_bind (wpAny_rule (wpAny_bind (wpAny_field hz rfl (x:= .ref TO) rfl (wpAny_bind (wpAny_setField_rec hz (by simp) fun g1 (z1:IsZip g1 z TI TO .ellipsis) O=> ?z5)))))
 case z5=>
 refine wpAny_bind ?z6
 case z6=>
 simp only [forIn_cons,List.forIn_nil,List.zipIdx_cons,List.zipIdx_nil]
 refine wpAny_bind (wpAny_bind (wpAny_onRaise ?z7))
 case z7=>
 show wpAny _ _ (Builtin.SmallTypes.nextOf (.ref J)>>=_) _ _ { s with heap:=g1}
 refine wpAny_bind (Amy (j1.ext O.extBut D.i1z) (a1.ext O.extBut D.l1z) hx fun g2 n1 U=>wpAny_pure ?z8)
 case z8=>
 have o2:IsPair g2 TO p q:=U.extBut _ _ D.TOi1 (O.extBut _ _ D.TOz a4)
 refine wpAny_bind (wpAny_seqItems o2 rfl (wpAny_bind (wpAny_updateSeq_pair o2 fun g3 (o3:IsPair g3 TO x q) W=>wpAny_bind (wpAny_letGo (wpAny_pure (wpAny_bind (wpAny_bind (wpAny_onRaise ?z9))))))))
 case z9=>
 show wpAny _ _ (Builtin.SmallTypes.nextOf (.ref M)>>=_) _ _ { s with heap:=g3}
 refine wpAny_bind (Amy (((j2.ext O.extBut D.i2z).ext U.extBut D.i12.symm).ext W.extBut D.TOi2.symm) (((a2.ext O.extBut D.l2z).ext U.extBut D.l2i1).ext W.extBut D.l2TO) hy fun g4 n2 b4=>wpAny_pure ?z10)
 case z10=>
 have o4:IsPair g4 TO x q:=b4.extBut _ _ D.TOi2 o3
 refine wpAny_bind (wpAny_seqItems o4 rfl (wpAny_bind (wpAny_updateSeq_pair o4 fun I (o5:IsPair I TO x y) b5=>wpAny_bind (wpAny_letGo (wpAny_pure (wpAny_pure (wpAny_bind (wpAny_seqItems o5 rfl (wpAny_bind (wpAny_newTuple ?z11))))))))))
 case z11=>
 have sz:I.objs.size=s.heap.objs.size:=by rw [b5.1,b4.1,W.1,U.1,O.1]
 have z5:IsZip I z TI TO .ellipsis:=b5.extBut _ _ D.TOz.symm (b4.extBut _ _ D.i2z.symm (W.extBut _ _ D.TOz.symm (U.extBut _ _ D.i1z.symm z1)))
 have k5:∀b o,b≠z->b≠TO->b≠J->b≠M->s.heap.get? b=some o->I.get? b=some o:=fun b o S c2 c3 c4 e=>b5.extBut _ _ c2 (b4.extBut _ _ c4 (W.extBut _ _ c2 (U.extBut _ _ c3 (O.extBut _ _ S e))))
 have m1:It1 t1 I J Y (k1+1):=((n1.ext W.extBut D.TOi1.symm).ext b4.extBut D.i12).ext b5.extBut D.TOi1.symm
 have m2:It1 t2 I M Z (k2+1):=n2.ext b5.extBut D.TOi2.symm
 have a0:z<I.objs.size:=Heap.lt_size z5
 show wpAny _ _ (Builtin.SmallTypes.ownedTupleHandOut (.ref z) (.ref I.objs.size)>>=_) _ _ _
 refine wpAny_bind (m:=Builtin.SmallTypes.ownedTupleHandOut (.ref z) (.ref I.objs.size)) ?z12
 case z12=>
 unfold Builtin.SmallTypes.ownedTupleHandOut
 have z6:IsZip (I.push { cls:= .type "tuple",data:= .seq #[x,y]}) z TI TO .ellipsis:=Heap.get?_push_of_some _ z5
 refine wpAny_bind (wpAny_setField_rec z6 (by simp) fun g7 (z7:IsZip g7 z TI TO (rawInt I.objs.size)) b7=>wpAny_setField_rec z7 (by simp) fun g8 (z8:IsZip g8 z TI TO (rawInt I.objs.size)) b8=> ?z13)
 case z13=>
 have up:∀b o,b≠z->I.get? b=some o->g8.get? b=some o:=fun b o S e=>b8.extBut _ _ S (b7.extBut _ _ S (Heap.get?_push_of_some _ e))
 have t8:IsPair g8 I.objs.size x y:=b8.extBut _ _ (ne_of_gt a0) (b7.extBut _ _ (ne_of_gt a0) (Heap.get?_push_size _ rfl))
 have w8:g8.objs.size=I.objs.size+1:=by rw [b8.1,b7.1,Heap.size_push]
 rw [sz]at z8 t8 w8
 refine wpAny_pure ⟨_,rfl,?z14⟩
 case z14=>
 show Q (.ref I.objs.size) _
 rw [sz]
 exact c g8 z8 (up _ _ D.TOz o5) (m1.to fun o e=>up _ o D.i1z e) (m2.to fun o e=>up _ o D.i2z e) t8 w8 fun b o S c2 c3 c4 e=>up b o S (k5 b o S c2 c3 c4 e)
theorem Ajm {t1 t2:Bool}{I TI TO U W u1 u2:Addr}{k1 k2:Nat}{xs ys:Array Value}{p q:Value}{Q:Fin->Shared->Prop} (hh:A.handled=none) (D:ZipApart I TI TO U W u1 u2)
 (Y:IsZip s.heap I TI TO .none) (a0:IsPair s.heap TI (.ref U) (.ref W)) (a3:IsPair s.heap TO p q) (j1:It1 t1 s.heap U u1 k1) (j2:It1 t2 s.heap W u2 k2) (a1:Sq1 t1 s.heap u1 xs) (a2:Sq1 t2 s.heap u2 ys) (he:xs[k1]? =none\/ys[k2]? =none)
 (c:∀g e,(∀b o,b≠I->b≠TO->b≠U->b≠W->s.heap.get? b=some o->g.get? b=some o)->(∃o,g.get? e=some o/\o.cls= .type "StopIteration")->E (.ref e) { s with heap:=g}):
 wpAny (model prog w) A (Builtin.«zip.__next__» ⟨[.ref I],[]⟩) Q E s:=by
 show wpAny _ _ (field (.ref I) 2>>=_) _ _ s
 refine wpAny_bind (wpAny_field Y rfl (x:= .bool false) rfl ?z1)
 case z1=>
 show wpAny _ _ (field (.ref I) 3>>=_) _ _ s
 refine wpAny_bind (wpAny_field Y rfl (x:= .ref TI) rfl (wpAny_bind (wpAny_seqItems a0 rfl ?z2)))
 case z2=>
 show wpAny _ _ (Builtin.SmallTypes.ownedTupleIsFree (.ref I)>>=_) _ _ s
 refine wpAny_bind (m:=Builtin.SmallTypes.ownedTupleIsFree (.ref I)) ?z3
 case z3=>
 unfold Builtin.SmallTypes.ownedTupleIsFree;refine wpAny_bind (wpAny_field Y rfl (x:= .none) rfl (wpAny_pure ?z4))
 case z4=>
 simp only [if_true];refine wpAny_bind (wpAny_rule (wpAny_bind (wpAny_field Y rfl (x:= .ref TO) rfl (wpAny_bind (wpAny_setField_rec Y (by simp) fun g1 (z1:IsZip g1 I TI TO .ellipsis) M=> ?z5)))))
 case z5=>
 refine wpAny_bind ?z6
 case z6=>
 simp only [forIn_cons,List.forIn_nil,List.zipIdx_cons,List.zipIdx_nil]
 refine wpAny_bind (wpAny_bind (wpAny_onRaise ?z7))
 case z7=>
 show wpAny _ _ (Builtin.SmallTypes.nextOf (.ref U)>>=_) _ _ { s with heap:=g1}
 cases hx:xs[k1]? with
 | none=>
   refine wpAny_bind (Ws hh (j1.ext M.extBut D.i1z) (a1.ext M.extBut D.l1z) hx fun g2 e O ⟨oe,z,J⟩=> ?_)
   have z2:IsZip g2 I TI TO .ellipsis:=O _ _ D.i1z.symm z1
   have ne:e≠I:=fun y=>by subst y;rw [z2]at z;cases z;simp at J
   exact wpAny_setField_rec z2 (by simp) fun g3 _ S=>c g3 e (fun b o Z _ c3 _ y=>S.extBut _ _ Z (O _ _ c3 (M.extBut _ _ Z y))) ⟨oe,S.extBut _ _ ne z,J⟩
 | some x=>
   have hy:ys[k2]? =none:=by
    rcases he with h | h
    . rw [hx]at h;cases h
    . exact h
   refine wpAny_bind (Amy (j1.ext M.extBut D.i1z) (a1.ext M.extBut D.l1z) hx fun g2 n1 O=>wpAny_pure ?_)
   have o2:IsPair g2 TO p q:=O.extBut _ _ D.TOi1 (M.extBut _ _ D.TOz a3)
   refine wpAny_bind (wpAny_seqItems o2 rfl (wpAny_bind (wpAny_updateSeq_pair o2 fun g3 o3 S=>wpAny_bind (wpAny_letGo (wpAny_pure (wpAny_bind (wpAny_bind (wpAny_onRaise ?z9))))))))
   case z9=>
   show wpAny _ _ (Builtin.SmallTypes.nextOf (.ref W)>>=_) _ _ { s with heap:=g3}
   refine wpAny_bind (Ws hh (((j2.ext M.extBut D.i2z).ext O.extBut D.i12.symm).ext S.extBut D.TOi2.symm) (((a2.ext M.extBut D.l2z).ext O.extBut D.l2i1).ext S.extBut D.l2TO) hy fun g4 e b4 ⟨oe,z,J⟩=> ?_)
   have z4:IsZip g4 I TI TO .ellipsis:=b4 _ _ D.i2z.symm (S.extBut _ _ D.TOz.symm (O.extBut _ _ D.i1z.symm z1))
   have ne:e≠I:=fun y=>by subst y;rw [z4]at z;cases z;simp at J
   exact wpAny_setField_rec z4 (by simp) fun g5 _ b5=>c g5 e (fun b o Z c2 c3 c4 y=>b5.extBut _ _ Z (b4 _ _ c4 (S.extBut _ _ c2 (O.extBut _ _ c3 (M.extBut _ _ Z y))))) ⟨oe,b5.extBut _ _ ne z,J⟩
theorem Ag9 {S U:Bool}{z TI TO I J M O:Addr}{k1 k2:Nat}{xs ys:Array Value}{x y p q:Value}{Q:Option Value->Shared->Prop} (D:ZipApart z TI TO I J M O)
 (Z:IsZip s.heap z TI TO .none) (W:IsPair s.heap TI (.ref I) (.ref J)) (Y:IsPair s.heap TO p q) (j1:It1 S s.heap I M k1) (j2:It1 U s.heap J O k2) (a1:Sq1 S s.heap M xs) (a2:Sq1 U s.heap O ys) (hx:xs[k1]? =some x) (hy:ys[k2]? =some y)
 (c:∀g,IsZip g z TI TO (rawInt s.heap.objs.size)->IsPair g TO x y->It1 S g I M (k1+1)->It1 U g J O (k2+1)->IsPair g s.heap.objs.size x y->g.objs.size=s.heap.objs.size+1->
   (∀b o,b≠z->b≠TO->b≠I->b≠J->s.heap.get? b=some o->g.get? b=some o)->Q (some (.ref s.heap.objs.size)) { s with heap:=g}):wpAny (model prog w) A (pyNext (.ref z)) Q E s:=by
 have ty:s.TypeIs (.ref z) "zip":=⟨_,Z,rfl⟩
 unfold pyNext
 exact wpAny_bind (wpAny_attempt (wpAny_callSpecial?_slot (name:=Str.ofString "__next__") ty F.slot_zip_next (wpAny_call_entry F.slot_zip_next ty F.entry_zip_next
  (Ag8 D Z W Y j1 j2 a1 a2 hx hy fun g b1 b2 b3 b4 b5 b6 b7=>wpAny_pure (c g b1 b2 b3 b4 b5 b6 b7)) (F.args_zip_next_1 _))))
theorem Aha {W Y:Bool}{z TI TO I J M O:Addr}{k1 k2:Nat}{xs ys:Array Value}{p q:Value}{Q:Option Value->Shared->Prop} (hh:A.handled=none) (D:ZipApart z TI TO I J M O)
 (Z:IsZip s.heap z TI TO .none) (S:IsPair s.heap TI (.ref I) (.ref J)) (U:IsPair s.heap TO p q) (j1:It1 W s.heap I M k1) (j2:It1 Y s.heap J O k2) (a1:Sq1 W s.heap M xs) (a2:Sq1 Y s.heap O ys) (he:xs[k1]? =none\/ys[k2]? =none)
 (c:∀g,(∀b o,b≠z->b≠TO->b≠I->b≠J->s.heap.get? b=some o->g.get? b=some o)->Q none { s with heap:=g}):wpAny (model prog w) A (pyNext (.ref z)) Q E s:=by
 have ty:s.TypeIs (.ref z) "zip":=⟨_,Z,rfl⟩
 unfold pyNext
 refine wpAny_bind (wpAny_attempt (wpAny_callSpecial?_slot (name:=Str.ofString "__next__") ty F.slot_zip_next (wpAny_call_entry F.slot_zip_next ty F.entry_zip_next (Ajm hh D Z S U j1 j2 a1 a2 he fun g e hk ⟨o,ho,hc⟩=> ?_) (F.args_zip_next_1 _))))
 exact wpAny_bind (wpAny_isInstance (T:="StopIteration") (b:=true) ⟨o,ho,hc⟩ isSubtype_stop (wpAny_pure (c _ hk)))
end
noncomputable def Apk (t:Bool):String:=if t=true then "tuple_iterator" else "list_iterator"
noncomputable abbrev Ym (t:Bool) (u:Addr):Obj:={ cls:= .type (Apk t),data:= .fields #[.ref u,.int 0 0]}
theorem iter1 {prog:Program}{w:World}{A:Around}{E:Value->Shared->Prop}{s:Shared}{t:Bool}{u:Addr}{xs:Array Value}{Q:Value->Shared->Prop} (h:Sq1 t s.heap u xs) (q:Q (.ref s.heap.objs.size) { s with heap:=s.heap.push (Ym t u)}):wpAny (model prog w) A (pyIter (.ref u)) Q E s:=by
 cases t
 . exact wpAny_pyIter_list h q
 . exact wpAny_pyIter_tuple h q
theorem Aeh {t:Bool}{u j:Addr}{g:Heap} (e:g.get? j=some (Ym t u)):It1 t g j u 0:=by
 cases t
 . exact⟨_,e,rfl,rfl⟩
 . exact⟨_,e,rfl,rfl⟩
theorem Sq1.push {t:Bool}{h:Heap}{u:Addr}{xs:Array Value} (x:Sq1 t h u xs) (o:Obj):Sq1 t (h.push o) u xs:=by
 cases t
 . exact Heap.IsList.push x _
 . obtain⟨z,e,r⟩:=(show h.IsTuple u xs from x)
   exact⟨z,Heap.get?_push_of_some _ e,r⟩
noncomputable abbrev zA1 (t1:Bool) (h:Heap) (u1:Addr):Heap:=h.push (Ym t1 u1)
noncomputable abbrev zA2 (t1 t2:Bool) (h:Heap) (u1 u2:Addr):Heap:=(zA1 t1 h u1).push (Ym t2 u2)
noncomputable abbrev zA3 (t1 t2:Bool) (h:Heap) (u1 u2:Addr):Heap:=(zA2 t1 t2 h u1 u2).push { cls:= .type "tuple",data:= .seq #[.ref h.objs.size,.ref (zA1 t1 h u1).objs.size]}
noncomputable abbrev zA4 (t1 t2:Bool) (h:Heap) (u1 u2:Addr):Heap:=(zA3 t1 t2 h u1 u2).push { cls:= .type "tuple",data:= .seq #[.none,.none]}
noncomputable abbrev zA5 (t1 t2:Bool) (h:Heap) (u1 u2:Addr):Heap:=(zA4 t1 t2 h u1 u2).push { cls:= .type "zip",data:= .fields #[.none,.bool false,.bool false,.ref (zA2 t1 t2 h u1 u2).objs.size,.ref (zA3 t1 t2 h u1 u2).objs.size]}
theorem Abr (I M:Bool) (z J:Addr) (xs ys:Array Value):
 Meets (Builtin.«zip.__new__» ⟨[.type "zip",.ref z,.ref J],[]⟩) (fun _ R s=>Sq1 I s.heap z xs/\Sq1 M s.heap J ys/\R (.ok (.ret (.ref (zA4 I M s.heap z J).objs.size))) { s with heap:=zA5 I M s.heap z J}):=
 .of_wp fun prog w A R s h=>by
  obtain⟨O,g,d,tk,os⟩:=s;obtain⟨S,U,h⟩:=h
  have Z:=sub_zip
  have W:Sq1 I (Shared.heap ⟨O,g,d,tk,os⟩) z xs:=S
  have Y:Sq1 M (Shared.heap ⟨O.push (Ym I z),g,d,tk,os⟩) J ys:=U.push _
  wp_walk using iter1 W,iter1 Y
  exact⟨_,rfl,h⟩
theorem Adi {prog:Program}{w:World}{A:Around}{E:Value->Shared->Prop}{s:Shared}{I M:Bool}{z J:Addr}{xs ys:Array Value}{Q:Value->Shared->Prop} (b1:Sq1 I s.heap z xs) (b2:Sq1 M s.heap J ys)
 (c:∀g,IsZip g (s.heap.objs.size+4) (s.heap.objs.size+2) (s.heap.objs.size+3) .none->IsPair g (s.heap.objs.size+2) (.ref s.heap.objs.size) (.ref (s.heap.objs.size+1))->IsPair g (s.heap.objs.size+3) .none .none->
   It1 I g s.heap.objs.size z 0->It1 M g (s.heap.objs.size+1) J 0->(∀b o,s.heap.get? b=some o->g.get? b=some o)->Q (.ref (s.heap.objs.size+4)) { s with heap:=g}):wpAny (model prog w) A (call (.type "zip") [.ref z,.ref J]) Q E s:=by
 refine callType_new F.called_zip (by decide) (F.typeCall_zip_2 _ _) (F.newCall_zip_2 _ _) (fun obj=>F.args_object_init_3 obj _ _) F.entry_zip_new (Abr I M z J xs ys) ⟨b1,b2,?_⟩
 have O:(zA1 I s.heap z).objs.size=s.heap.objs.size+1:=Heap.size_push ..
 have S:(zA2 I M s.heap z J).objs.size=s.heap.objs.size+2:=by rw [Heap.size_push,O]
 have U:(zA3 I M s.heap z J).objs.size=s.heap.objs.size+3:=by rw [Heap.size_push,S]
 have Y:(zA4 I M s.heap z J).objs.size=s.heap.objs.size+4:=by rw [Heap.size_push,U]
 have W:(zA5 I M s.heap z J).get? (zA4 I M s.heap z J).objs.size=some _:=Heap.get?_push_size _ rfl
 have Z:(zA5 I M s.heap z J).get? (zA3 I M s.heap z J).objs.size=some _:=Heap.get?_push_of_some _ (Heap.get?_push_size _ rfl)
 have e3:(zA5 I M s.heap z J).get? (zA2 I M s.heap z J).objs.size=some _:=Heap.get?_push_of_some _ (Heap.get?_push_of_some _ (Heap.get?_push_size _ rfl))
 have e2:(zA5 I M s.heap z J).get? (zA1 I s.heap z).objs.size=some (Ym M J):=Heap.get?_push_of_some _ (Heap.get?_push_of_some _ (Heap.get?_push_of_some _ (Heap.get?_push_size _ rfl)))
 have e1:(zA5 I M s.heap z J).get? s.heap.objs.size=some (Ym I z):=Heap.get?_push_of_some _ (Heap.get?_push_of_some _ (Heap.get?_push_of_some _ (Heap.get?_push_of_some _ (Heap.get?_push_size _ rfl))))
 show _/\_
 rw [S,U,Y]at W
 rw [O,S]at e3
 rw [U]at Z
 rw [O]at e2
 rw [Y]
 exact⟨⟨_,W,rfl⟩,c _ W e3 Z (Aeh e1) (Aeh e2) fun b o x=>Heap.get?_push_of_some _ (Heap.get?_push_of_some _ (Heap.get?_push_of_some _ (Heap.get?_push_of_some _ (Heap.get?_push_of_some _ x))))⟩
noncomputable def SqB (t:Bool) (K:Frag) (H:Hp) (a:Addr) (xs:List V):Prop:=if t=true then SqT K H a xs else SqL K H a xs
theorem Inv.sqB {X:Cx}{pins:List (Addr × Obj)}{σ:St}{H:Hp}{s:Shared}{t:Bool}{a:Addr}{xs:List V} (I:Inv X pins σ H s) (h:SqB t X.K H a xs):∃z:List Value,Vals xs z/\Sq1 t s.heap a z.toArray:=by
 cases t
 . obtain⟨z,r,p,_⟩:=I.list h
   exact⟨z,r,p.isList⟩
 . obtain⟨z,r,p,_⟩:=I.tuple h
   exact⟨z,r,p⟩
theorem Inv.sqB_inj {X:Cx}{pins:List (Addr × Obj)}{σ:St}{H:Hp}{s:Shared}{t:Bool}{a:Addr}{xs ys:List V} (I:Inv X pins σ H s) (h:SqB t X.K H a xs) (h':SqB t X.K H a ys):xs=ys:=by
 cases t
 . exact I.list_inj h h'
 . exact I.tuple_inj h h'
noncomputable def Asi (t1 t2:Bool) (K:Frag) (a b:Addr):It:=
 ⟨fun i H=>∃xs ys x y,SqB t1 K H a xs/\SqB t2 K H b ys/\xs[i]? =some x/\ys[i]? =some y,
  fun i H x H'=>∃p u v,(∀xs,SqB t1 K H a xs->xs[i]? =some u)/\(∀ys,SqB t2 K H b ys->ys[i]? =some v)/\H p=none/\x= .ref p/\H'=upd H p (.tup [u,v]),
  fun i H=>∃xs ys,SqB t1 K H a xs/\SqB t2 K H b ys/\(xs.length<=i\/ys.length<=i)⟩
theorem Agx {P:Program}{w:World}{K:Frag}{el:List Expr}{x1}{tp:Pos} (t1 t2:Bool) (a b z TI TO Y Z:Addr) (D:ZipApart z TI TO Y Z a b):
 Turn P w K (.Tuple el x1 tp) (Asi t1 t2 K a b) [z,TI,TO,Y,Z] z (fun i h=>IsZip h z TI TO .none/\IsPair h TI (.ref Y) (.ref Z)/\(∃c d,IsPair h TO c d)/\It1 t1 h Y a i/\It1 t2 h Z b i) where
 mem:=by simp
 obj:=fun i h st c hc=>by
  obtain⟨U,J,⟨u,v,O⟩,h1,h2⟩:=st
  simp only [mem_cons,not_mem_nil,or_false]at hc
  rcases hc with rfl | rfl | rfl | rfl | rfl
  . exact⟨_,U,fun v z=>by cases(show Data.fields _=Data.cell v from z)⟩
  . exact⟨_,J,fun v z=>by cases(show Data.seq _ _=Data.cell v from z)⟩
  . exact⟨_,O,fun v z=>by cases(show Data.seq _ _=Data.cell v from z)⟩
  . exact h1.there
  . exact h2.there
 keep:=fun i h h' st k=>by
  obtain⟨U,J,⟨u,v,O⟩,h1,h2⟩:=st
  exact⟨k z (by simp) _ U,k TI (by simp) _ J,⟨u,v,k TO (by simp) _ O⟩,h1.to fun o e=>k Y (by simp) _ e,h2.to fun o e=>k Z (by simp) _ e⟩
 item:=by
  intro X hP hw hK hc i pins s σ H E I hf st hg
  subst hP hw hK
  obtain⟨xs,ys,x,y,a0,a7,hx,hy⟩:=hg
  obtain⟨ac,rv,p⟩:=I.sqB a0
  obtain⟨a9,a8,p2⟩:=I.sqB a7
  obtain⟨u,hu,ru⟩:=rv.get hx
  obtain⟨v,hv,ad⟩:=a8.get hy
  obtain⟨U,J,⟨c,d,O⟩,h1,h2⟩:=st
  refine Ag9 D U J O h1 h2 p p2 (x:=u) (y:=v) (by simpa using hu) (by simpa using hv) fun g a1 a2 a3 a4 a5 a6 hk=>⟨_,rfl,?_⟩
  refine wpAny_letOwnedTupleGo_zip a1 fun g2 ae S=> ?_
  replace S:Heap.SameBut z g g2:=S
  have lt:∀b∈ [z,TI,TO,Y,Z],b≠s.heap.objs.size:=fun b M=>by
   obtain⟨o1,e1,_⟩:=h1.there
   obtain⟨o2,e2,_⟩:=h2.there
   simp only [mem_cons,not_mem_nil,or_false]at M
   rcases M with rfl | rfl | rfl | rfl | rfl
   . exact ne_of_lt (Heap.lt_size U)
   . exact ne_of_lt (Heap.lt_size J)
   . exact ne_of_lt (Heap.lt_size O)
   . exact ne_of_lt (Heap.lt_size e1)
   . exact ne_of_lt (Heap.lt_size e2)
  have hn:H s.heap.objs.size=none:=I.fresh
  have I1:Inv X pins σ (upd H s.heap.objs.size (.tup [x,y])) { s with heap:=s.heap.push { cls:= .type "tuple",data:= .seq #[u,v]},toks:=s.toks}:=
   I.laid (fun b o q=>Heap.get?_push_of_some _ q) (le_refl _) ⟨by show 2<=sizeLine;decide,[u,v],.cons ru (.cons ad .nil),⟨_,Heap.get?_push_size _ rfl,rfl,_,rfl⟩⟩
  have aa:∀b∈ [z,TI,TO,Y,Z],V5 X pins (upd H s.heap.objs.size (.tup [x,y])) b:=fun b M=>
   ⟨by rw [Cr (lt b M)];exact(hf b M).1,(hf b M).2⟩
  have I2:=I1.turnL (h':=g2) (t':=s.toks) (fp:=[z,TI,TO,Y,Z]) (fun b o M q=>by
   have n1:b≠z:=fun e=>M (by simp [e])
   refine(S.2 b n1).trans ?_
   rcases Heap.get?_push_cases q with⟨rfl,rfl⟩ | q0
   . exact a5
   . exact hk b o n1 (fun e=>M (by simp [e])) (fun e=>M (by simp [e])) (fun e=>M (by simp [e])) q0) aa
  refine⟨.ref s.heap.objs.size,_,I2,rfl,⟨_,x,y,fun zs U=>by rw [I.sqB_inj U a0];exact hx,fun zs U=>by rw [I.sqB_inj U a7];exact hy,hn,rfl,rfl⟩,⟨ae,?_,⟨u,v,S.extBut _ _ D.TOz a2⟩,a3.ext S.extBut D.i1z,a4.ext S.extBut D.i2z⟩,fun b M=>(aa b M).1⟩
  exact S.extBut _ _ D.TIz (hk _ _ D.TIz D.TITO D.TIi1 D.TIi2 J)
 done:=by
  intro X hP hw hK hc i pins s σ H E I hf st hg
  subst hP hw hK
  obtain⟨xs,ys,a0,a7,af⟩:=hg
  obtain⟨ac,rv,p⟩:=I.sqB a0
  obtain⟨a9,a8,p2⟩:=I.sqB a7
  obtain⟨U,J,⟨c,d,O⟩,h1,h2⟩:=st
  have l1:=rv.length
  have l2:=a8.length
  exact Aha (I.ok.hd hc) D U J O h1 h2 p p2 (by
   rcases af with h | h
   . exact .inl (by simp;omega)
   . exact .inr (by simp;omega)) fun g hk=>⟨rfl,I.turnL (t':=s.toks) (fp:=[z,TI,TO,Y,Z]) (fun b o M q=>hk b o (fun e=>M (by simp [e])) (fun e=>M (by simp [e])) (fun e=>M (by simp [e])) (fun e=>M (by simp [e])) q) hf⟩
 self:=fun _ _ _ _ _ st h=>wpAny_pyIter_zip st.1 h
section
variable {X:Cx}{a b:Expr}{ta:TA}{el:List Expr}{x1}{tp p pos:Pos}
noncomputable def Amm (t1 t2:Bool) (K:Frag) (ta:TA):TI:=fun σ H R=>ta σ H fun vs H1=>∃a b,vs=[.ref a,.ref b]/\(∃xs,SqB t1 K H1 a xs)/\(∃ys,SqB t2 K H1 b ys)/\R (Asi t1 t2 K a b) H1
theorem Y6 (U W:Bool) (hg:Gl X "zip") (hm:X.mg "zip"=none) (ha:PA X [a,b] ta) (hs:starEach [a,b] X.env=[(false,eval a X.env),(false,eval b X.env)]:=by rfl) (J:starEach [b] X.env=[(false,eval b X.env)]:=by rfl):
 PI X (.Tuple el x1 tp) (.Call (.Name "zip" p) [a,b] [] pos) (Amm U W X.K ta):=by
 intro pins s σ H R I h
 refine Call_ (Mt I hg hm boot_zip (PyProof.Rows.callWith_type1 (thn (ha pos pins s σ H _ I h) fun us z ⟨vs,H1,M,Y,q1⟩=> ?_) (by rw [hs,J]) (by rw [J];rfl)))
 obtain⟨u,v,rfl,⟨xs,Z⟩,⟨ys,a0⟩,q⟩:=q1
 obtain⟨v1,v2,rfl,Y,r2⟩:=vals2 Y
 cases Y
 cases r2
 obtain⟨a8,rx,px⟩:=M.sqB Z
 obtain⟨a7,ry,py⟩:=M.sqB a0
 have a1:u<z.heap.objs.size:=by
  cases U
  . obtain⟨o,e,_⟩:=(show z.heap.IsList u _ from px)
    exact Heap.lt_size e
  . obtain⟨o,e,_⟩:=(show z.heap.IsTuple u _ from px)
    exact Heap.lt_size e
 have a2:v<z.heap.objs.size:=by
  cases W
  . obtain⟨o,e,_⟩:=(show z.heap.IsList v _ from py)
    exact Heap.lt_size e
  . obtain⟨o,e,_⟩:=(show z.heap.IsTuple v _ from py)
    exact Heap.lt_size e
 refine Adi px py fun h' hz a3 a4 a5 a6 hk=> ?_
 have I2:Inv X pins σ H1 { z with heap:=h'}:=M.kept (t':=z.toks) fun c o' e=>hk c o' e
 refine wpAny_pyIter_zip hz ⟨z.heap.objs.size+4,[z.heap.objs.size+4,z.heap.objs.size+2,z.heap.objs.size+3,z.heap.objs.size,z.heap.objs.size+1],_,_,H1,rfl,I2,Agx U W u v _ _ _ _ _ (zipApart_new a1 a2),⟨hz,a3,⟨_,_,a4⟩,a5,a6⟩,fun c O=> ?_,q⟩
 have S:z.heap.objs.size<=c:=by
  simp only [mem_cons,not_mem_nil,or_false]at O
  rcases O with rfl | rfl | rfl | rfl | rfl
  . exact le_add_right _ 4
  . exact le_add_right _ 2
  . exact le_add_right _ 3
  . exact le_refl _
  . exact le_add_right _ 1
 exact M.fpOk S (M.hok.fresh S)
end
theorem Aon {z I:Bool}{K:Frag}{ta:TA}{σ:St}{H:Hp}{R:It->Hp->Prop}:Amm z I K ta σ H R=ta σ H (fun J H1=>∃a b,J=[.ref a,.ref b]/\(∃xs,SqB z K H1 a xs)/\(∃ys,SqB I K H1 b ys)/\R (Asi z I K a b) H1):=rfl
theorem Yi {O S:Bool}{K:Frag}{σ:St}{H:Hp}{g:TG}{tb:TS}{D:Ends}{a b:Addr}{xs ys:List V} (n:Nat) (hn:n=min xs.length ys.length) (z:Nat->St->Hp->Prop) (h0:z 0 σ H)
 (hw:∀i σ H,z i σ H->SqB O K H a xs/\SqB S K H b ys)
 (hs:∀i σ H p,i<n->z i σ H->H p=none->g (.ref p) σ (upd H p (.tup [xs.getD i .non,ys.getD i .non])) fun I H2=>tb { D with nx:=z (i+1),ct:=z (i+1),bk:=D.nx} I H2) (hd:∀σ H,z n σ H->D.nx σ H):FI (Asi O S K a b) g tb D σ H:=by
 refine⟨fun i m σ H=>m=n-i/\i<=n/\z i σ H,⟨n,by simp,zero_le _,h0⟩,?_⟩
 rintro i m σ H ⟨rfl,hi,p⟩
 obtain⟨J,M⟩:=hw _ _ _ p
 by_cases he:i=n
 . subst he
   exact .inl ⟨⟨xs,ys,J,M,by omega⟩,hd _ _ p⟩
 . have U:i<n:=by omega
   have ex:xs[i]? =some (xs.getD i .non):=by rw [getD_eq_getElem?_getD,getElem?_eq_getElem (by omega)];rfl
   have Y:ys[i]? =some (ys.getD i .non):=by rw [getD_eq_getElem?_getD,getElem?_eq_getElem (by omega)];rfl
   refine .inr ⟨⟨xs,ys,_,_,J,M,ex,Y⟩,z (i+1),fun a0 H' p'=>⟨n-(i+1),by omega,rfl,U,p'⟩,fun x H3 y=> ?_⟩
   obtain⟨q,u,v,hu,hv,hq,rfl,rfl⟩:=y
   have Z:=hu _ J
   have ev:=hv _ M
   rw [ex]at Z
   rw [Y]at ev
   cases Z
   cases ev
   exact hs i σ H q U p hq
set_option maxRecDepth 100000
noncomputable abbrev TB:=St->Hp->(St->Hp->Prop)->XK->Prop
end L2
namespace L2
open PySem PySem.Spec PyProof.Rows
section
variable {κ:Type} [DecidableEq κ]
noncomputable def Acv (kvs:List (κ × V)) (k:κ):Option V:=(kvs.find? fun kv=>decide (kv.1=k)).map (·.2)
noncomputable def putK (kvs:List (κ × V)) (k:κ) (v:V):List (κ × V):=
 if(kvs.any fun kv=>decide (kv.1=k))=true then kvs.map (fun kv=>if kv.1=k then(kv.1,v)else kv)else kvs++ [(k,v)]
noncomputable def Ao8 (kvs:List (κ × V)) (k:κ):List (κ × V):=kvs.filter fun kv=>decide (kv.1≠k)
theorem Vy {p:κ × V}{r:List (κ × V)}{k:κ} (e:p.1=k):Acv (p::r) k=some p.2:=by simp [Acv,find?_cons,e]
theorem KV.length {z:List (κ × V)}{I:List (κ × Value)} (r:KV z I):z.length=I.length:=Paired.length r
end
noncomputable abbrev KT (H:Hp):List (List Key × V)->List (List Key × Addr × Value)->Prop:=Paired fun p q=>p.1=q.1/\H q.2.1=some (.tup (p.1.map kV))/\RelV p.2 q.2.2
noncomputable def Asg (H:Hp) (a:Addr) (y:V) (r:Option V):Prop:=
 (∃kvs k,Rd H a (.dK kvs)/\y=kV k/\r=Acv kvs k)\/∃kvs k b,Rd H a (.dT kvs)/\y= .ref b/\H b=some (.tup (k.map kV))/\r=Acv kvs k
noncomputable def Ash (H:Hp) (a:Addr) (y v:V) (H':Hp):Prop:=
 (∃kvs k,H a=some (.dK kvs)/\y=kV k/\kvs.length<sizeLine/\H'=upd H a (.dK (putK kvs k v)))\/
 ∃kvs k b,H a=some (.dT kvs)/\y= .ref b/\H b=some (.tup (k.map kV))/\kvs.length<sizeLine/\H'=upd H a (.dT (putK kvs k v))
theorem Asg.t {H:Hp}{a b:Addr}{z:List (List Key × V)}{k:List Key} (e:H a=some (.dT z)) (I:H b=some (.tup (k.map kV))):Asg H a (.ref b) (Acv z k):= .inr ⟨z,k,b,.inl e,rfl,I,rfl⟩
theorem Ash.t {H:Hp}{a b:Addr}{z:List (List Key × V)}{k:List Key}{v:V} (e:H a=some (.dT z)) (I:H b=some (.tup (k.map kV))) (J:z.length<sizeLine):
 Ash H a (.ref b) v (upd H a (.dT (putK z k v))):= .inr ⟨z,k,b,e,rfl,I,J,rfl⟩
section
variable {X:Cx}{pins:List (Addr × Obj)}{σ:St}{H:Hp}{s:Shared}{a:Addr}{y v:V}{u r:Value}{o:Option V}{A:Around}{E:Value->Shared->Prop}
end
structure M1 (X:Cx) (o:Expr) (m:Str) (apos:Pos) (e:Expr) (cpos:Pos):Prop where
 base:attributeBase o m X.env (eval o X.env)=eval o X.env
 few:((backTo cpos (starEach [e] X.env)).all (fun x=> !x.1)&&(backToKw cpos (keywordEach [] X.env)).all (fun x=>x.1.isSome)
  &&decide (([e]:List Expr).length+([]:List Keyword).length+(if([]:List Keyword).isEmpty then 0 else 1)<30))=true
 line:(apos.endLine==cpos.line)=true
 trees:backTo cpos (starEach [e] X.env)=[(false,eval e X.env)]
structure M2 (X:Cx) (o:Expr) (m:Str) (apos:Pos) (e f:Expr) (cpos:Pos):Prop where
 base:attributeBase o m X.env (eval o X.env)=eval o X.env
 few:((backTo cpos (starEach [e,f] X.env)).all (fun x=> !x.1)&&(backToKw cpos (keywordEach [] X.env)).all (fun x=>x.1.isSome)
  &&decide (([e,f]:List Expr).length+([]:List Keyword).length+(if([]:List Keyword).isEmpty then 0 else 1)<30))=true
 line:(apos.endLine==cpos.line)=true
 trees:backTo cpos (starEach [e,f] X.env)=[(false,eval e X.env),(false,eval f X.env)]
open PySem PySem.W PyProof.Rows
structure LO (n:Nat) (lt:Nat->Nat->Bool):Prop where
 tri:∀i j,i<n->j<n->i≠j->lt i j= !lt j i
 trans:∀i j k,i<n->j<n->k<n->lt i j=true->lt j k=true->lt i k=true
noncomputable def KOk {α:Type} (lt:Nat->Nat->Bool) (n:Nat):KasT α->(α->Prop)->Prop
 | .ret a,P=>P a
 | .ask i j k,P=>i<n/\j<n/\i≠j/\KOk lt n (k (lt i j)) P
noncomputable def aT (p:Array Nat) (i:Nat):Nat:=p.getD i 0
structure PM (n:Nat) (p:Array Nat):Prop where
 sz:p.size=n
 lt:∀i,i<n->aT p i<n
 ne:∀i j,i<n->j<n->i≠j->aT p i≠aT p j
 pm:p.toList.Perm (List.range n)
theorem PM.of {n:Nat}{p:Array Nat} (h:p.toList.Perm (List.range n)):PM n p:=by
 have sz:p.size=n:=by
  have:=h.length_eq
  simpa using this
 have M:p.toList.Nodup:=h.nodup_iff.mpr List.nodup_range
 refine⟨sz,fun i hi=> ?_,fun i j hi W O e=> ?_,h⟩
 . have z:i<p.size:=by omega
   have e:aT p i=p[i]:=by simp [aT,z]
   have m:p[i]∈p.toList:=by simp
   rw [e]
   exact mem_range.mp (h.mem_iff.mp m)
 . have z:i<p.toList.length:=by rw [Array.length_toList];omega
   have I:j<p.toList.length:=by rw [Array.length_toList];omega
   have S:aT p i=p.toList[i]:=by simp [aT,show i<p.size by omega]
   have U:aT p j=p.toList[j]:=by simp [aT,show j<p.size by omega]
   have pw:=List.pairwise_iff_getElem.mp M
   have J:p.toList[i]=p.toList[j]:=by rw [<-S,<-U,e]
   rcases Nat.lt_or_gt_of_ne O with l | l
   . exact pw i j z I l J
   . exact pw j i I z l J.symm
theorem PM.start (n:Nat):PM n (toArray (List.range n)):=PM.of (by simp)
open PySem PySem.Spec PySem.Calls PyProof.Rows PySem.W
noncomputable abbrev Prt:=Addr × Addr × List Int × V
noncomputable def Prt.ks (t:Prt):List Int:=t.2.2.1
structure Au2 (K:Frag) (H:Hp) (t:Prt):Prop where
 pr:SqT K H t.1 [.ref t.2.1,t.2.2.2]
 tu:SqT K H t.2.1 (t.ks.map V.int)
structure Asj (P:Program) (w:World) (h:Heap) (t:Prt):Prop where
 pr:∃o xs n u,h.get? t.1=some o/\o.cls= .type "tuple"/\o.data= .seq xs n/\xs.toList=[.ref t.2.1,u]
 tu:∃its:List Value,IsTup h t.2.1 its.toArray/\IntsAre its t.ks
structure M0 (X:Cx) (o:Expr) (m:Str) (apos cpos:Pos):Prop where
 base:attributeBase o m X.env (eval o X.env)=eval o X.env
 few:((backTo cpos (starEach [] X.env)).all (fun x=> !x.1)&&(backToKw cpos (keywordEach [] X.env)).all (fun x=>x.1.isSome)
  &&decide (([]:List Expr).length+([]:List Keyword).length+(if([]:List Keyword).isEmpty then 0 else 1)<30))=true
 line:(apos.endLine==cpos.line)=true
 trees:backTo cpos (starEach [] X.env)=[]
noncomputable abbrev Tpt:=Addr × List Int
structure Ast (h:Heap) (t:Tpt):Prop where
 tu:∃its:List Value,IsTup h t.1 its.toArray/\IntsAre its t.2
theorem Akh {xs:Array (Int × Tok)}{ns:List Int} (z:ns=xs.toList.map (·.1)) (J:0<xs.size) {v:Value} (hv:(intItems xs)[argBest (fun i j=>decide (numAt xs i>numAt xs j)) (xs.size-1)]? =some v):
 ∃(M:Int) (t:Tok),v= .int M t/\M∈ns/\∀a∈ns,a<=M:=by
 obtain⟨t,rfl⟩:=intItems_at hv
 obtain⟨h1,h2⟩:=argBest_gt (numAt xs) (xs.size-1)
 refine⟨_,t,rfl,?_,fun a I=> ?_⟩
 . rw [z,numAt_eq];exact getD_mem (by rw [length_map,Array.length_toList];omega)
 . rw [z]at I
   obtain⟨j,O,rfl⟩:=mem_getD I
   rw [length_map,Array.length_toList]at O
   rw [<-numAt_eq];exact h2 j (by omega)
theorem Adg {X:Cx} (S:X.calm=true):Hv X (.builtin "max") (fun xs H Q=>∃(a:Addr) (ns:List Int),xs=[.ref a]/\(SqL X.K H a (ns.map V.int)\/SqT X.K H a (ns.map V.int))/\ns≠ []/\∀M,M∈ns->(∀x∈ns,x<=M)->Q (.int M) H):=by
 intro pins s σ H xs us Q I r h
 obtain⟨a,ns,rfl,U,ne,q⟩:=h
 obtain⟨u,rfl,ru⟩:=vals1 r
 cases ru
 have W:∀ {z:List Value},Vals (ns.map V.int) z->∃xs:Array (Int × Tok),z.toArray=intItems xs/\ns=xs.toList.map (·.1)/\0<xs.size:=fun {z} Y=>by
  have hi:IntsAre z ns:=intsAre_of Y
  obtain⟨xs,e⟩:=hi.allInts.items
  have J:ns=xs.toList.map (·.1):=by rw [<-hi.numsOf,<-nums_intItems,<-e]
  refine⟨xs,e,J,?_⟩
  have h3:0<ns.length:=length_pos_iff.mpr ne
  rw [J,length_map,Array.length_toList]at h3
  exact h3
 rcases U with U | U
 . obtain⟨z,Y,p,_⟩:=I.list U
   obtain⟨xs,e,J,O⟩:=W Y
   have hl:=p.isList
   rw [e]at hl
   refine max_intList (I.ok.hd S) hl O fun v h' tk hv Z=> ?_
   obtain⟨M,t,rfl,m1,m2⟩:=Akh J O hv
   exact⟨.int M,H,I.kept Z,⟨t,rfl⟩,q M m1 m2⟩
 . obtain⟨z,Y,p,_⟩:=I.tuple U
   obtain⟨xs,e,J,O⟩:=W Y
   have hT:s.heap.IsTuple a (intItems xs):=by rw [<-e];exact p
   have al:a<s.heap.objs.size:=p.lt
   refine call_max_walk (wpAny_pyIter_tuple hT ?_)
   refine⟨_,[_,a],[_],_,_,_,_,rfl,Walks.tuple (A:=X.A.in1) (I.ok.hd S) _ a (ne_of_lt al) (intItems xs),⟨⟨_,Heap.get?_push_size _ rfl,rfl,rfl⟩,hT.push _⟩,fun c S=> ?_,by simpa [intItems]using O,CmpOf.ints_gt (numAt xs) (fun _ _=>intItems_at),fun v h' tk hP Z=> ?_⟩
   . show c<(s.heap.push _).objs.size
     rw [Heap.size_push]
     rcases mem_cons.mp S with rfl | S
     . exact Nat.lt_succ_self _
     . rcases mem_cons.mp S with rfl | S
       . exact Nat.lt_succ_of_lt al
       . cases S
   . obtain⟨M,t,rfl,m1,m2⟩:=Akh J O (v:=v) (by simpa [intItems]using hP)
     refine⟨.int M,H,I.kept fun c o e=>Z c o (fun hm=> ?_) (Heap.get?_push_of_some _ e),⟨t,rfl⟩,q M m1 m2⟩
     rcases mem_cons.mp hm with e1 | hm
     . exact absurd (Heap.lt_size e) (by rw [e1];exact lt_irrefl _)
     . cases hm
set_option maxRecDepth 100000
end L2
namespace L2
open PySem PySem.Spec PyProof.Rows
structure V3 (X:Cx) (ts:List Str) (fs:List (Nat × Str)) (scope:Scope):Prop where
 kind:scope.kind= .function
 names:∀y∈scope.names,y.2= .local ->scope.names.lookup y.1=some .local
 free:∀y∈scope.names,y.2= .free->X.env.kindOf y.1=some .cell\/X.env.kindOf y.1=some .free
 at':∀p∈fs,X.N[p.1]? =some p.2/\(p.2,NameKind.free)∈scope.names/\((relabel scope X.env).names.lookup p.2=some .cell\/(relabel scope X.env).names.lookup p.2=some .free)/\¬(p.2,NameKind.cell)∈scope.names
noncomputable def Au3 (sc:Scope) (N:List Str) (fs:List (Nat × Str)) (scope:Scope):Bool:=
 (scope.kind== .function)&&(scope.names.all fun y=>y.2 != .local ||scope.names.lookup y.1==some .local)&&
 (scope.names.all fun y=>y.2 != .free||(sc.names.lookup y.1==some .cell||sc.names.lookup y.1==some .free))&&
 fs.all fun p=>N[p.1]? ==some p.2&&(scope.names.contains (p.2,NameKind.free)&&(((rlb sc scope).lookup p.2==some .cell||(rlb sc scope).lookup p.2==some .free)&& !scope.names.contains (p.2,NameKind.cell)))
section
variable {X:Cx}{elt tg iter:Expr}{ifs:List Expr}{scope:Scope}{pos:Pos}{wi:TI}{g:TG}{tt:TT}{te:TE}{ts:List Str}{fs:List (Nat × Str)}
end
structure Pyl (P:Program) (base:Heap):Prop where
 seer:base.NoSeer
 tree:P.given.tree=none
theorem J0.far {k:Nat}{A:Around} (r:J0 k A) (h:32<=k):A.depth+Builtin.pylongFrames<recursionLimit:=by
 have h1:=r.dp
 have h2:Builtin.pylongFrames=100:=rfl
 omega
section
variable {X:Cx}{env:Env}{l:List Env}
theorem Ai1 {pins:List (Addr × Obj)}{σ:St}{H:Hp}{s:Shared} (z:Pyl X.prog X.base) (J:X.A.depth+Builtin.pylongFrames<recursionLimit) (hs:X.stack=env::l) (h1:env.scope.isGenerator=false) (h2:env.scope.isCoroutine=false) (M:env.builtins=builtinsNs) (O:env.globals=mainGlobals)
 (I:Inv X pins σ H s):PylongRoom (model X.prog X.w) X.A s:=by
 refine PylongRoom.of I.nolimit J (SeerAt.of (l:=l) (z.seer.keeps I.bk) z.tree ?_ h1 h2 M O)
 rw [I.ok.frames,hs]
theorem G5 (z:Pyl X.prog X.base) (J:X.A.depth+Builtin.pylongFrames<recursionLimit) (hs:X.stack=env::l) (h1:env.scope.isGenerator=false) (h2:env.scope.isCoroutine=false) (M:env.builtins=builtinsNs) (O:env.globals=mainGlobals):
 OpR X (binaryOp .FloorDiv) (rI (fun _ j=>j≠0) fun i j=> .int (i.fdiv j)):=by
 intro pins s σ H x y v u Q I S U h
 obtain⟨i,j,rfl,rfl,W,q⟩:=h
 obtain⟨t,rfl⟩:=S
 obtain⟨Y,rfl⟩:=U
 exact floordiv_int W ⟨.int (i.fdiv j),H,I.tok _,⟨_,rfl⟩,q⟩ (.inr (Ai1 z J hs h1 h2 M O I))
theorem Pg (J:Pyl X.prog X.base) (M:X.A.depth+Builtin.pylongFrames<recursionLimit) (hs:X.stack=env::l) (h1:env.scope.isGenerator=false) (h2:env.scope.isCoroutine=false) (O:env.builtins=builtinsNs) (S:env.globals=mainGlobals):
 OpR X (binaryOp .FloorDiv) (rI (fun _ j=>0<j) fun i j=> .int (i/j)):=by
 intro pins s σ H x y v u Q I U W h
 obtain⟨i,j,Y,Z,z,q⟩:=h
 refine G5 J M hs h1 h2 O S pins s σ H x y v u Q I U W ⟨i,j,Y,Z,Int.ne_of_gt z,?_⟩
 show Q (.int (i.fdiv j)) H
 rw [fdiv_eq_ediv_of_nonneg i (le_of_lt z)]
 exact q
end
theorem Ai9 {h:Heap}{H:Hp}{a:Addr}{O:List Value} (M:h.NoSeer) (U:h.get? a=some { cls:= .type "list",data:= .seq O.toArray}) (W:∀b,H b≠none->b=a):(Acu h H).NoSeer:=by
 have I:∀ {b o},h.get? b=some o->o.cls≠ .type "list"\/(∃es J,o.data=Data.dict es J)->(Acu h H).get? b=some o:=fun {b o} e z=>by
  refine Aai e ?_
  cases q:H b with
  | none=>rfl
  | some u=>
    obtain rfl:b=a:=W b (by rw [q];simp)
    rw [U]at e
    cases e
    rcases z with z | ⟨es,J,z⟩
    . exact absurd rfl z
    . cases(show Data.seq O.toArray _=Data.dict es J from z)
 have ns:∀ {b m},h.Ns b m->(Acu h H).Ns b m:=fun {b m} ⟨o,es,J,e,d,r⟩=>⟨o,es,J,I e (.inr ⟨es,J,d⟩),d,r⟩
 obtain⟨⟨Y,Z,b1⟩,⟨m2,a2,b2⟩,⟨m3,a3,b3⟩,⟨m4,bm,ob,a4,b4,c4,S,e4⟩⟩:=M
 exact⟨⟨Y,ns Z,b1⟩,⟨m2,ns a2,b2⟩,⟨m3,ns a3,b3⟩,⟨m4,bm,ob,ns a4,b4,I c4 (.inl (by rw [S];decide)),S,e4⟩⟩
theorem Aen {P:Program}{w:World}{K:Frag}{mg mb:Str->Option Value}{k:Nat}{fa a:Addr}{fd:FuncData}{x:Str}{sp:Sp}{I:Shared}{S:List Value}{ns:List Int}
 (KX:K.In I.heap) (U:I.heap.Ns mainGlobals mg) (hb:I.heap.Ns builtinsNs mb) (a3:∀x:Str,x≠"__name__"->mb x=bootBuiltins x) (Y:I.heap.NoLimit) (a4:I.heap.NoSeer) (hg:I.gens= #[])
 (Z:I.heap.get? a=some { cls:= .type "list",data:= .seq S.toArray}) (hi:IntsAre S ns) (hl:ns.length<=sizeLine) (hr:J0 k callerA)
 (F:∀base:Heap,K.In base->base.Ns mainGlobals mg->base.NoSeer->O4 P w K mg base CX0 k fa fd [x] sp) (O:∀(s:Shared) (u:Value),BindsTo s fd ⟨[u],[]⟩ [(x,u)])
 (a5:∀H:Hp,SqL K H a (ns.map V.int)->sp [.ref a] H (fun v _=>v= .bl true) fun _ _ _=>False)
 (a6:∀H e s',CX0 [] H I (fun _ _ _=>False) e s'->False):
 codeAny (model P w) callerA (.call (.ref fa) ⟨[.ref a],[]⟩) (fun r s'=>r= .ok (.ret (.bool true))/\OldK I.heap s'.heap/\s'.os=I.os/\AllBare s'.gens) I:=by
 have rv:=Xn hi
 have ln:=hi.length
 obtain⟨H,hO,hS,a0,hA,hK⟩:∃H:Hp,Only H/\SqL K H a (ns.map V.int)/\HOk P w H I.heap/\(∀b,H b≠none->b=a)/\(H a≠none->K.lookup a=none):=by
  cases hk:K.lookup a with
  | some o=>
    have e:=KX a o hk
    rw [Z]at e
    cases e
    exact⟨fun _=>none,fun _=> .inl rfl,.inr ⟨_,S.toArray,_,hk,rfl,rfl,rfl,by rw [size_toArray,ln];exact hl,by simpa using rv⟩,by intro b u z;exact(nomatch (show(none:Option HO)=some u from z)),fun b z=>absurd rfl z,fun z=>absurd rfl z⟩
  | none=>
    refine⟨upd (fun _=>none) a (.frz { cls:= .type "list",data:= .seq S.toArray} (.lst (ns.map V.int))),fun b=> ?_,.inl (.inr ⟨_,Ao⟩),fun b u z=> ?_,fun b z=> ?_,fun _=>rfl⟩
    . by_cases e:b=a
      . subst e
        exact .inr ⟨_,_,Ao⟩
      . exact .inl (Cr e)
    . by_cases e:b=a
      . subst e
        rw [Ao]at z
        cases z
        exact⟨Z,by rw [length_map];exact hl,S,_,rv,Z⟩
      . rw [Cr e]at z
        cases z
    . exact Classical.byContradiction fun e=>z (Cr e)
 have M:∀ {b:Addr}{o:Obj},I.heap.get? b=some o->H b=none->(Acu I.heap H).get? b=some o:=fun e n=>Aai e n
 have J:∀ {b:Addr}{m:Str->Option Value},I.heap.Ns b m->(Acu I.heap H).Ns b m:=fun {b m} ⟨o,es,ep,e,d,r⟩=>by
  refine⟨o,es,ep,M e ?_,d,r⟩
  cases q:H b with
  | none=>rfl
  | some u=>
    obtain rfl:b=a:=hA b (by rw [q];simp)
    rw [Z]at e
    cases e
    cases(show Data.seq S.toArray _=Data.dict es ep from d)
 have kb:K.In (Acu I.heap H):=fun b o e=>M (KX b o e) (by
  cases q:H b with
  | none=>rfl
  | some u=>
    obtain rfl:b=a:=hA b (by rw [q];simp)
    rw [hK (by rw [q];simp)]at e
    cases e)
 have hM:Mod K mg (Acu I.heap H):=⟨kb,J U,⟨mb,J hb,a3⟩,let ⟨mc,h1,h2⟩:=Y;⟨mc,J h1,h2⟩⟩
 have e0:Alh P w K mg (Acu I.heap H) callerA [] I H:=⟨rfl,hM,fun b o e=>Amz e,le_of_eq (Aeb _ _),trivial,fun b hb=>absurd (show b∈([]:List Addr)from hb) (by simp),a0,.of_eq hg⟩
 refine codeAny_mono ((F _ kb (J U) (Ai9 a4 Z hA)).run callerA [] I H ⟨[.ref a],[]⟩ [.ref a] [.ref a] _ _ hr e0 (O I (.ref a)) (.cons rfl .nil) (a5 H hS)) fun r s' h=> ?_
 match r,h with
 | .error e,h=>exact(a6 H e s' h).elim
 | .ok .next,h=>exact False.elim h
 | .ok .brk,h=>exact False.elim h
 | .ok .cont,h=>exact False.elim h
 | .ok (.ret u),h=>
   obtain⟨v,H',os,a1,un,a2,r',q⟩:=h
   obtain rfl:v= .bl true:=q
   obtain rfl:u=Value.bool true:=r'
   refine⟨rfl,OldK.of_keep fun b o e=> ?_,os,a1⟩
   rcases hO b with q | ⟨ob,xs,z⟩
   . exact un.keep b o e q (by intro z;exact absurd (show b∈([]:List Addr)from z) (by simp)) (by simp)
   . obtain⟨e1,_⟩:=a0 b _ z
     obtain⟨e2,_⟩:=a2 b _ (un.frzs b ob _ z)
     rw [e]at e1
     cases e1
     exact e2
theorem Ajk {l:PySem.W.OpenLaw}{n k:Nat}{q:Program}{I:List Str}{XP:(Str->Option Value)->Heap->Prop}{YP:World->Heap->Prop}{d:DefRec}{K:Params->Frag}{sp:Frag->Sp}{x:Str}
 (hn:l.most=some n) (U:n<=sizeLine) (Z:d.params.defaults=[]) (hr:J0 k callerA) (a0:importsNone q=true) (a1:l.prog.given.tree=none)
 (hY:∀(w:World) (h:Heap),YP w h->(K w.params).In h)
 (F:∀(w:World) (mg:Str->Option Value) (S:Addr) (h:Heap),(K w.params).In h->h.Ns mainGlobals mg->mg d.name=some (.ref S)->
   ∃fd:FuncData,(∀(s:Shared) (u:Value),BindsTo s fd ⟨[u],[]⟩ [(x,u)])/\∀base:Heap,Pyl l.prog base->O4 l.prog w (K w.params) mg base CX0 k S fd [x] (sp (K w.params)))
 (a2:∀(K:Frag) (H:Hp) (a:Addr) (ns:List Int),ns.length<=n->SqL K H a (ns.map V.int)->sp K [.ref a] H (fun v _=>v= .bl true) fun _ _ _=>False)
 (a3:∀(H:Hp) (s:Shared) (e:Value) (s':Shared),CX0 [] H s (fun _ _ _=>False) e s'->False):
 PySem.W.WalkO q I XP YP l.row.toRowW d [] (fun f vs=>PySem.call f vs):=by
 refine Att.X5 hn Z fun w a5 M mg mb S o pm cd a6 a vs ns G Y ho hd a7 a4 O J z hg=> ?_
 have KX:=hY w _ Y
 obtain⟨fd,hb,hF⟩:=F w mg S _ KX G.T.g a4
 exact Aen KX G.T.g G.T.b G.T.builtins G.T.nolimit (G.T.seer a0) hg O J (le_trans z U) hr (fun base _ _ ns=>hF base ⟨ns,a1⟩) hb (fun H hS=>a2 (K w.params) H a ns z hS) fun H e s'=>a3 H M e s'
set_option maxRecDepth 100000
end L2
namespace L2
open PySem L2
@[irreducible] noncomputable def Ci (X:Cx) (e:Expr) (t:TE):Prop:=L2.PE X e t
@[irreducible] noncomputable def Oz (X:Cx) (e:Expr) (t:TT):Prop:=L2.PT X e t
@[irreducible] noncomputable def Xw (X:Cx) (e:Expr) (t:TT):Prop:=L2.PW X e t
@[irreducible] noncomputable def Hy (X:Cx) (es:List Expr) (t:TA):Prop:=L2.PA X es t
@[irreducible] noncomputable def J1 (X:Cx) (st:Stmt) (t:TS):Prop:=L2.PS X st t
@[irreducible] noncomputable def Jv (X:Cx) (st:List Stmt) (t:TS):Prop:=L2.PSs X st t
@[irreducible] noncomputable def Qd (X:Cx) (target:Expr) (t:TG):Prop:=L2.PG X target t
@[irreducible] noncomputable def V6 (X:Cx) (ts:List Expr) (t:TGs):Prop:=L2.PGs X ts t
@[irreducible] noncomputable def Ox (X:Cx) (tg iter:Expr) (wi:TI):Prop:=L2.PI X tg iter wi
@[irreducible] noncomputable def Ahf (X:Cx) (e:Option Expr) (t:TO):Prop:=L2.PO X e t
@[irreducible] noncomputable def Ac5 (X:Cx) (ifs:List Expr) (t:TT):Prop:=L2.PTs X ifs t
theorem Aox {X:Cx}{b:List Stmt}{t:TS} (h:Jv X b t):L2.PSs X b t:=by unfold Jv at h;exact h
theorem Af:∀ {X:Cx} (i:Nat) {x:Str}{pos:Pos},autoParam ((Cx.N X)[i]? =Option.some x) L2.pv._auto_1->autoParam (Vis (Env.scope (Cx.env X)) x) L2.pv._auto_2->autoParam ((x==("__debug__":Str))=Bool.false) L2.pv._auto_3->autoParam ((x==("__classdict__":Str))=Bool.false) L2.pv._auto_4->Ci X (Expr.Name x pos) (Ak8 i):=by with_unfolding_all exact @L2.pv
theorem G8:∀ {X:Cx}{x:Str}{v:V}{u:Value}{pos:Pos},Gl X x->Cx.mg X x=Option.none->bootBuiltins x=Option.some u->RelV v u->autoParam (x≠("__name__":Str)) L2.Yy._auto_1->autoParam ((x==("__debug__":Str))=Bool.false) L2.Yy._auto_2->Ci X (Expr.Name x pos) (tC v):=by with_unfolding_all exact @L2.Yy
theorem S9:∀ {X:Cx}{x:Str}{v:V}{u:Value}{pos:Pos},Gl X x->Cx.mg X x=Option.some u->RelV v u->autoParam ((x==("__debug__":Str))=Bool.false) L2.Yz._auto_1->Ci X (Expr.Name x pos) (tC v):=by with_unfolding_all exact @L2.Yz
theorem Ad:∀ {X:Cx}{i:Int}{j:Nat}{pos:Pos},Ci X (Expr.Constant (Const.int i) j pos) (tC (V.int i)):=by with_unfolding_all exact @L2.Aql
theorem Ei:∀ {X:Cx}{b:Bool}{j:Nat}{pos:Pos},Ci X (Expr.Constant (Const.bool b) j pos) (tC (V.bl b)):=by with_unfolding_all exact @L2.As6
theorem Hl:∀ {X:Cx}{j:Nat}{pos:Pos},Ci X (Expr.Constant Const.none j pos) (tC V.non):=by with_unfolding_all exact @L2.Aqn
theorem Im:∀ {X:Cx}{x:Str}{j:Nat}{pos:Pos},Ci X (Expr.Constant (Const.str x) j pos) (tC (V.str x)):=by with_unfolding_all exact @L2.Aqr
theorem Ah:∀ {X:Cx}{a b:Expr}{ta tb:TE}{pos:Pos}{z:Operator}{r:R2},OpR X (binaryOp z) r->Ci X a ta->Ci X b tb->Ci X (Expr.BinOp a z b pos) (tOp r ta tb):=by with_unfolding_all exact @L2.As8
theorem Ac6:∀ {X:Cx}{a:Expr}{ta:TE}{pos:Pos},Ci X a ta->Ci X (Expr.UnaryOp UnaryOp.Not a pos) (Aoc ta):=by with_unfolding_all exact @L2.Aqo
theorem Br:∀ {X:Cx}{a:Expr}{ta:TE}{pos:Pos}{z:UnaryOp}{r:V->Hp->VK->Prop},UnR X (unaryOp z) r->Ci X a ta->Ci X (Expr.UnaryOp z a pos) (tUn r ta):=by with_unfolding_all exact @L2.As9
theorem Ey:∀ {X:Cx}{a b:Expr}{ta tb:TE}{pos:Pos}{z:CmpOp}{r:R2},OpR X (compareOp z) r->Ci X a ta->Ci X b tb->behindInMarks z b=Bool.false->Ci X (Expr.Compare a [z] [b] pos) (tOp r ta tb):=by with_unfolding_all exact @L2.Ane
theorem Qe:∀ {X:Cx}{a b:Expr}{ta tb:TE}{pos:Pos}{rest:List Expr},Ci X a ta->Ci X (Expr.BoolOp BoolOp.And (b::rest) pos) tb->Ci X (Expr.BoolOp BoolOp.And (a::b::rest) pos) (An9 ta tb):=by with_unfolding_all exact @L2.Aqk
theorem Qf:∀ {X:Cx}{a:Expr}{pos:Pos}{z:BoolOp}{t:TE},Ci X a t->Ci X (Expr.BoolOp z [a] pos) t:=by with_unfolding_all exact @L2.Aqp
theorem Gh:∀ {X:Cx}{a b:Expr}{ta tb:TE}{pos:Pos}{tA:TT}{c:Expr},Oz X c tA->Ci X a ta->Ci X b tb->Ci X (Expr.IfExp c a b pos) (tIf tA ta tb):=by with_unfolding_all exact @L2.Ais
theorem Bj:∀ {X:Cx}{es:List Expr}{t:TA}{pos:Pos}{x1:Nat},Hy X es t->Ci X (Expr.Tuple es x1 pos) (At2 t):=by with_unfolding_all exact @L2.Aqs
theorem Dk:∀ {X:Cx}{es:List Expr}{t:TA}{pos:Pos},Hy X es t->Ci X (Expr.List es pos) (Atw t):=by with_unfolding_all exact @L2.Aqm
theorem Ac7:∀ {X:Cx}{e st:Expr}{te tst:TE}{pos p2:Pos},Ci X e te->Ci X st tst->Ci X (Expr.Subscript e (Expr.Slice Option.none Option.none (Option.some st) p2) pos) (At1 (Cx.K X) te tst):=by with_unfolding_all exact @L2.Aqq
theorem Nm:∀ {X:Cx}{e st:Expr}{te tst:TE}{pos p2:Pos},Ci X e te->Ci X st tst->Ci X (Expr.Subscript e (Expr.Slice Option.none Option.none (Option.some st) p2) pos) (Aoe (Cx.K X) te tst):=by with_unfolding_all exact @L2.Anf
theorem Er:∀ {X:Cx}{e:Expr}{te:TE}{lo hi:Option Expr}{tl th:TO}{pos p2:Pos}{r:V->Option Int->Option Int->Hp->VK->Prop},SlR X r->Ci X e te->Ahf X lo tl->Ahf X hi th->Ci X (Expr.Subscript e (Expr.Slice lo hi Option.none p2) pos) (tSl r te tl th):=by with_unfolding_all exact @L2.Ait
theorem Fw:∀ {X:Cx},Ahf X Option.none Zn:=by with_unfolding_all exact @L2.Anl
theorem Fx:∀ {X:Cx}{e:Expr}{te:TE},Ci X e te->Ahf X (Option.some e) (Aod te):=by with_unfolding_all exact @L2.Anm
theorem Aq:∀ {X:Cx}{a b:Expr}{ta tb:TE}{pos:Pos}{r:R2},IxR X r->Ci X a ta->Ci X b tb->Ac3 b->Ci X (Expr.Subscript a b pos) (tOp r ta tb):=by with_unfolding_all exact @L2.As7
theorem Ft:∀ {X:Cx}{elt tg iter:Expr}{ifs:List Expr}{scope:Scope}{pos:Pos}{wi:TI}{g:TG}{tt:TT}{te:TE}{ts:List Str}{fs:List (Nat × Str)},Cx.calm X=Bool.true->Dh X ts fs scope->Ox X tg iter wi->(∀(ex:List Addr) (s:Shared) (H:Hp),Qd (cxC X (cpN ts fs) scope ex s H) tg g)->(∀(ex:List Addr) (s:Shared) (H:Hp),Ac5 (cxC X (cpN ts fs) scope ex s H) ifs tt)->(∀(ex:List Addr) (s:Shared) (H:Hp),Ci (cxC X (cpN ts fs) scope ex s H) elt te)->autoParam (∀(x:Value),foldedSetIterable iter (Cx.env X) x=Pure.pure x) L2.Afr._auto_1->Ci X (Expr.ListComp elt [{ target:=tg,iter:=iter,ifs:=ifs,is_async:=(0:Int)}] scope pos) (Acn (List.length ts) fs wi g tt te):=by with_unfolding_all exact @L2.Afr
theorem Xy:∀ {P:Program}{w:World}{K:W.Frag}{mg:Str->Option Value}{base:Heap}{N:List Str}{qual:Str}{scope:Scope}{f:Addr}{cd:Value}{A:Around}{outer:List Env}{s0:Shared}{H0:Hp}{E:XK}{k:Nat}{x:Str}{ps:List Str}{sp:Sp}{p pos:Pos}{e:Expr}{es:List Expr}{t:TA},Zu P w K mg base k x ps sp->J0 k (Around.deeper A (PyProof.Rows.envOfC qual scope (Array.size (Heap.objs (Shared.heap s0))) f cd))->Hy (Qn (CXE P w) P w K mg base N qual scope f cd A outer s0 H0 E) (e::es) t->autoParam (Gl (Qn (CXE P w) P w K mg base N qual scope f cd A outer s0 H0 E) x) L2.Mz._auto_1->autoParam ((x==("__debug__":Str))=Bool.false) L2.Mz._auto_2->autoParam (starEach (e::es) (PyProof.Rows.envOfC qual scope (Array.size (Heap.objs (Shared.heap s0))) f cd)=(Bool.false,eval e (PyProof.Rows.envOfC qual scope (Array.size (Heap.objs (Shared.heap s0))) f cd))::starEach es (PyProof.Rows.envOfC qual scope (Array.size (Heap.objs (Shared.heap s0))) f cd)) L2.Mz._auto_3->autoParam ((List.any (backTo pos (starEach es (PyProof.Rows.envOfC qual scope (Array.size (Heap.objs (Shared.heap s0))) f cd))) fun(x:Bool × Sem Value) ↦ Prod.fst x)=Bool.false) L2.Mz._auto_4->Ci (Qn (CXE P w) P w K mg base N qual scope f cd A outer s0 H0 E) (Expr.Call (Expr.Name x p) (e::es) [] pos) (Vu sp [] E t):=by with_unfolding_all exact @L2.Mz
theorem Bk:∀ {X:Cx}{e:Expr}{es:List Expr}{t:TA}{x:Str}{p pos:Pos}{id:String}{r:List V->Hp->VK->Prop},Hv X (Value.builtin id) r->Gl X x->Cx.mg X x=Option.none->bootBuiltins x=Option.some (Value.builtin id)->Hy X (e::es) t->autoParam (Eb e=Bool.true) L2.Afo._auto_1->autoParam (List.all es Eb=Bool.true) L2.Afo._auto_2->autoParam (x≠("__name__":Str)) L2.Afo._auto_3->autoParam ((x==("__debug__":Str))=Bool.false) L2.Afo._auto_4->Ci X (Expr.Call (Expr.Name x p) (e::es) [] pos) (tCB r t):=by with_unfolding_all exact @L2.Afo
theorem Dj:∀ {X:Cx}{e:Expr}{es:List Expr}{t:TA}{x:Str}{p pos:Pos}{T:String}{r:List V->Hp->VK->Prop},Hv X (Value.type T) r->Gl X x->Cx.mg X x=Option.none->bootBuiltins x=Option.some (Value.type T)->Hy X (e::es) t->autoParam (Eb e=Bool.true) L2.Wz._auto_1->autoParam (List.all es Eb=Bool.true) L2.Wz._auto_2->autoParam (x≠("__name__":Str)) L2.Wz._auto_3->autoParam ((x==("__debug__":Str))=Bool.false) L2.Wz._auto_4->Ci X (Expr.Call (Expr.Name x p) (e::es) [] pos) (tCB r t):=by with_unfolding_all exact @L2.Wz
theorem Ai:∀ {X:Cx}{e:Expr}{es:List Expr}{t:TA}{x:Str}{p pos:Pos}{k:Nat}{ps:List Str}{sp:Sp}{n:Nat},Cal (Cx.prog X) (Cx.w X) (Cx.K X) (Cx.mg X) (Cx.base X) k x ps sp->J0 n (Cx.A X)->Hy X (e::es) t->autoParam (k<=n) L2.Aca._auto_1->autoParam (Eb e=Bool.true) L2.Aca._auto_2->autoParam (List.all es Eb=Bool.true) L2.Aca._auto_3->autoParam (Gl X x) L2.Aca._auto_4->autoParam ((x==("__debug__":Str))=Bool.false) L2.Aca._auto_5->Ci X (Expr.Call (Expr.Name x p) (e::es) [] pos) (Vu sp [] E0 t):=by with_unfolding_all exact @L2.Aca
theorem Zx:∀ {X:Cx}{i k:Nat}{a:Addr}{x y:Str}{ps:List Str}{sp:Sp}{p pos:Pos}{e:Expr}{es:List Expr}{t:TA},Cal (Cx.prog X) (Cx.w X) (Cx.K X) (Cx.mg X) (Cx.base X) k y ps sp->Cx.mg X y=Option.some (Value.ref a)->J0 k (Cx.A X)->Ci X (Expr.Name x p) (Ak8 i)->Hy X (e::es) t->autoParam (Eb e=Bool.true) L2.Anc._auto_1->autoParam (List.all es Eb=Bool.true) L2.Anc._auto_2->Ci X (Expr.Call (Expr.Name x p) (e::es) [] pos) (tCV i a sp E0 t):=by with_unfolding_all exact @L2.Anc
theorem Gg:∀ {X:Cx}{x:Str}{v:V}{pos:Pos},Gl X x->(∃(u:Value),Cx.mg X x=Option.some u/\RelV v u)->autoParam ((x==("__debug__":Str))=Bool.false) L2.Aao._auto_1->Ci X (Expr.Name x pos) (tC v):=by with_unfolding_all exact @L2.Aao
theorem Gm:∀ {X:Cx}{o e:Expr}{es:List Expr}{to:TE}{t:TA}{name:Str}{apos cpos:Pos}{T id:String}{r:V->List V->Hp->VK->Prop},PlainAttrs T->Slot T name id->typeOf (Value.builtin id)=Pure.pure (Value.type "method_descriptor")->MtR X id r->Ci X o to->Hy X (e::es) t->autoParam (attributeBase o name (Cx.env X) (eval o (Cx.env X))=eval o (Cx.env X)) L2.Ab8._auto_1->autoParam ((((List.all (backTo cpos (starEach (e::es) (Cx.env X))) fun(x:Bool × Sem Value) ↦ !Prod.fst x)&&List.all (backToKw cpos (keywordEach [] (Cx.env X))) fun(x:Option Str × Sem Value) ↦ Option.isSome (Prod.fst x))&&Decidable.decide ((List.length (e::es)+List.length ([]:List Keyword)+if List.isEmpty ([]:List Keyword)=Bool.true then(0:Nat)else(1:Nat))<(30:Nat)))=Bool.true) L2.Ab8._auto_2->autoParam ((Pos.endLine apos==Pos.line cpos)=Bool.true) L2.Ab8._auto_3->autoParam (starEach (e::es) (Cx.env X)=(Bool.false,eval e (Cx.env X))::starEach es (Cx.env X)) L2.Ab8._auto_4->autoParam ((List.any (backTo cpos (starEach es (Cx.env X))) fun(x:Bool × Sem Value) ↦ Prod.fst x)=Bool.false) L2.Ab8._auto_5->Ci X (Expr.Call (Expr.Attribute o name apos) (e::es) [] cpos) (tBM (Cx.K X) T r to t):=by with_unfolding_all exact @L2.Ab8
theorem Mj:∀ {X:Cx}{o:Expr}{to:TE}{name:Str}{apos cpos:Pos}{T id:String}{r:V->List V->Hp->VK->Prop},PlainAttrs T->Slot T name id->typeOf (Value.builtin id)=Pure.pure (Value.type "method_descriptor")->MtR X id r->Ci X o to->autoParam (attributeBase o name (Cx.env X) (eval o (Cx.env X))=eval o (Cx.env X)) L2.Afn._auto_1->autoParam ((Pos.endLine apos==Pos.line cpos)=Bool.true) L2.Afn._auto_2->Ci X (Expr.Call (Expr.Attribute o name apos) [] [] cpos) (Ats (Cx.K X) T r to):=by with_unfolding_all exact @L2.Afn
theorem Ky:∀ {X:Cx}{a:Expr}{ta:TA}{el:List Expr}{x1:Nat}{tp p pos:Pos},Gl X (("enumerate":Str))->Cx.mg X (("enumerate":Str))=Option.none->Hy X [a] ta->autoParam (starEach [a] (Cx.env X)=[(Bool.false,eval a (Cx.env X))]) L2.Aqw._auto_1->Ox X (Expr.Tuple el x1 tp) (Expr.Call (Expr.Name (("enumerate":Str)) p) [a] [] pos) (iEn (Cx.K X) ta):=by with_unfolding_all exact @L2.Aqw
theorem Nq:∀ {X:Cx}{a b:Expr}{ta:TA}{el:List Expr}{x1:Nat}{tp p pos:Pos} (z I:Bool),Gl X (("zip":Str))->Cx.mg X (("zip":Str))=Option.none->Hy X [a,b] ta->autoParam (starEach [a,b] (Cx.env X)=[(Bool.false,eval a (Cx.env X)),(Bool.false,eval b (Cx.env X))]) L2.Y6._auto_1->autoParam (starEach [b] (Cx.env X)=[(Bool.false,eval b (Cx.env X))]) L2.Y6._auto_2->Ox X (Expr.Tuple el x1 tp) (Expr.Call (Expr.Name (("zip":Str)) p) [a,b] [] pos) (Amm z I (Cx.K X) ta):=by with_unfolding_all exact @L2.Y6
theorem Ahg:∀ {X:Cx}{a:Expr}{ta:TA}{tg:Expr}{p pos:Pos},Gl X (("reversed":Str))->Cx.mg X (("reversed":Str))=Option.none->Hy X [a] ta->autoParam (starEach [a] (Cx.env X)=[(Bool.false,eval a (Cx.env X))]) L2.Aqx._auto_1->Ox X tg (Expr.Call (Expr.Name (("reversed":Str)) p) [a] [] pos) (iRv (Cx.K X) ta):=by with_unfolding_all exact @L2.Aqx
theorem Np:∀ {X:Cx}{tg a b c:Expr}{ta:TA}{p pos:Pos},Gl X (("range":Str))->Cx.mg X (("range":Str))=Option.none->Hy X [a,b,c] ta->autoParam (Eb a=Bool.true) L2.Y5._auto_1->autoParam (List.all [b,c] Eb=Bool.true) L2.Y5._auto_2->Ox X tg (Expr.Call (Expr.Name (("range":Str)) p) [a,b,c] [] pos) (Ami ta):=by with_unfolding_all exact @L2.Y5
theorem Fv:∀ {X:Cx}{tg a:Expr}{ta:TA}{p pos:Pos},Gl X (("range":Str))->Cx.mg X (("range":Str))=Option.none->Hy X [a] ta->autoParam (starEach [a] (Cx.env X)=[(Bool.false,eval a (Cx.env X))]) L2.W3._auto_1->Ox X tg (Expr.Call (Expr.Name (("range":Str)) p) [a] [] pos) (Amk ta):=by with_unfolding_all exact @L2.W3
theorem V8:∀ {X:Cx}{tg a b:Expr}{ta:TA}{p pos:Pos},Gl X (("range":Str))->Cx.mg X (("range":Str))=Option.none->Hy X [a,b] ta->autoParam (starEach [a,b] (Cx.env X)=[(Bool.false,eval a (Cx.env X)),(Bool.false,eval b (Cx.env X))]) L2.Q5._auto_1->autoParam (starEach [b] (Cx.env X)=[(Bool.false,eval b (Cx.env X))]) L2.Q5._auto_2->Ox X tg (Expr.Call (Expr.Name (("range":Str)) p) [a,b] [] pos) (Aml ta):=by with_unfolding_all exact @L2.Q5
theorem Io:∀ {X:Cx}{tg l:Expr}{tl:TE},Ci X l tl->Ox X tg l (Amj (Cx.K X) tl):=by with_unfolding_all exact @L2.Anh
theorem Ho:∀ {X:Cx}{tg l:Expr}{tl:TE},Ci X l tl->Ox X tg l (As1 (Cx.K X) tl):=by with_unfolding_all exact @L2.Aqy
theorem Ac8:∀ {X:Cx}{tg l:Expr}{tl:TE},Ci X l tl->Ox X tg l (As0 (Cx.K X) tl):=by with_unfolding_all exact @L2.Aqv
theorem En:∀ {X:Cx},Ac5 X [] Aco:=by with_unfolding_all exact @L2.Anr
theorem Al:∀ {X:Cx}{a b:Expr}{ta tb:TE}{pos:Pos}{z:CmpOp}{r:R2},OpR X (compareOp z) r->Ci X a ta->Ci X b tb->behindInMarks z b=Bool.false->Oz X (Expr.Compare a [z] [b] pos) (Aof (tOp r ta tb)):=by with_unfolding_all exact @L2.Anq
theorem Fe:∀ {X:Cx}{a:Expr}{pos:Pos}{tA:TT},Oz X a tA->Oz X (Expr.UnaryOp UnaryOp.Not a pos) (Aty tA):=by with_unfolding_all exact @L2.Aq3
theorem Ip:∀ {X:Cx}{a b:Expr}{pos:Pos}{tA tB':TT}{rest:List Expr},Oz X a tA->Xw X (Expr.BoolOp BoolOp.And (b::rest) pos) tB'->Xw X (Expr.BoolOp BoolOp.And (a::b::rest) pos) (Atr tA tB'):=by with_unfolding_all exact @L2.Aq4
theorem Ep:∀ {X:Cx}{a b:Expr}{pos:Pos}{tA tB':TT}{rest:List Expr},Oz X a tA->Xw X (Expr.BoolOp BoolOp.Or (b::rest) pos) tB'->Xw X (Expr.BoolOp BoolOp.Or (a::b::rest) pos) (tOr tA tB'):=by with_unfolding_all exact @L2.Atb
theorem G9:∀ {X:Cx}{a:Expr}{pos:Pos}{tA:TT},Oz X a tA->Xw X (Expr.BoolOp BoolOp.And [a] pos) tA:=by with_unfolding_all exact @L2.Ans
theorem Fg:∀ {X:Cx}{a:Expr}{pos:Pos}{tA:TT},Oz X a tA->Xw X (Expr.BoolOp BoolOp.Or [a] pos) tA:=by with_unfolding_all exact @L2.Aq6
theorem Ec:∀ {X:Cx}{e:Expr}{t:TT},Xw X e t->Oz X e t:=by with_unfolding_all exact @L2.PW.pt
theorem Dq:∀ {X:Cx}{e:Expr}{t:TE},Ci X e t->autoParam (∀(whole:Sem Value),isTrue e (Cx.env X) whole=do let v<-whole;standAt (Expr.pos e);holding [v] (truthy v)) L2.Aky._auto_1->Oz X e (tB t):=by with_unfolding_all exact @L2.Aky
theorem Ac:∀ {X:Cx},Hy X [] Atx:=by with_unfolding_all exact @L2.Aqi
theorem Aa:∀ {X:Cx}{e:Expr}{es:List Expr}{te:TE}{t:TA},Ci X e te->Hy X es t->autoParam (Eb e=Bool.true) L2.Akr._auto_1->Hy X (e::es) (Ajf te t):=by with_unfolding_all exact @L2.Akr
theorem Aw:∀ {X:Cx},Jv X [] Aob:=by with_unfolding_all exact @L2.Ano
theorem Ag:∀ {X:Cx}{st:Stmt}{t:TS},J1 X st t->Jv X [st] t:=by with_unfolding_all exact @L2.Anp
theorem Ae:∀ {X:Cx}{st:Stmt}{rest:List Stmt}{t u:TS},J1 X st t->Jv X rest u->Jv X (st::rest) (Aso t u):=by with_unfolding_all exact @L2.Ai0
theorem Ay:∀ {X:Cx}{pos:Pos}{x:Str} (i:Nat),Nodup (Cx.N X)->autoParam ((Cx.N X)[i]? =Option.some x) L2.Aiu._auto_1->autoParam (Loc (Env.scope (Cx.env X)) x) L2.Aiu._auto_2->autoParam (Cx.fn X x=Bool.true\/lookup x (Scope.names (Env.scope (Cx.env X)))=Option.some NameKind.local) L2.Aiu._auto_3->Qd X (Expr.Name x pos) (Qp i):=by with_unfolding_all exact @L2.Aiu
theorem Cz:∀ {X:Cx},V6 X [] Asw:=by with_unfolding_all exact @L2.Ang
theorem Bb:∀ {X:Cx}{e:Expr}{es:List Expr}{t:TG}{u:TGs},Qd X e t->V6 X es u->autoParam (List.map (fun(x:Bool × (Value->Sem Unit)) ↦ Prod.snd x) (assignEach (e::es) (Cx.env X))=assign e (Cx.env X)::List.map (fun(x:Bool × (Value->Sem Unit)) ↦ Prod.snd x) (assignEach es (Cx.env X))) L2.Aaq._auto_1->V6 X (e::es) (Ah2 t u):=by with_unfolding_all exact @L2.Aaq
theorem Abd:∀ {X:Cx}{es:List Expr}{k:Nat}{pos:Pos}{t:TGs} (K:W.Frag) (n:Nat),Cx.K X=K->Cx.calm X=Bool.true->V6 X es t->autoParam (List.length (assignEach es (Cx.env X))=n) L2.Y4._auto_1->autoParam (List.findIdx? (fun(x:Bool × (Value->Sem Unit)) ↦ Prod.fst x) (assignEach es (Cx.env X))=Option.none) L2.Y4._auto_2->Qd X (Expr.Tuple es k pos) (Ape K n t):=by with_unfolding_all exact @L2.Y4
theorem Eh:∀ {X:Cx}{pos:Pos}{es:List Expr}{k:Nat}{t:TGs}{n:Nat},Cx.calm X=Bool.true->V6 X es t->autoParam (List.length (assignEach es (Cx.env X))=n) L2.Aap._auto_1->autoParam (List.findIdx? (fun(x:Bool × (Value->Sem Unit)) ↦ Prod.fst x) (assignEach es (Cx.env X))=Option.none) L2.Aap._auto_2->Qd X (Expr.Tuple es k pos) (Ape (Cx.K X) n t):=by with_unfolding_all exact @L2.Aap
theorem Fy:∀ {X:Cx}{pos:Pos}{o i:Expr}{to z:TE}{t:Aoz},Ci X o to->Ci X i z->Ass X t->autoParam (∀(v:Value),assign (Expr.Subscript o i pos) (Cx.env X) v=do let ov<-holding [v] (eval o (Cx.env X));let iv<-holding [v,ov] (eval i (Cx.env X));standAt pos;holding [v,ov,iv] (setItem ov iv v);release [v,ov,iv] []) L2.Aks._auto_1->Qd X (Expr.Subscript o i pos) (Asx to z t):=by with_unfolding_all exact @L2.Aks
theorem Qg:∀ {X:Cx}{st:Stmt},J1 X st Ak7:=by with_unfolding_all exact @L2.Aiy
theorem Tc:∀ {X:Cx}{elt tg iter:Expr}{ifs:List Expr}{scope:Scope}{pos:Pos}{wi:TI}{g:TG}{tt:TT}{te:TE}{ts:List Str}{fs:List (Nat × Str)}{g':TG}{y:Str}{py z:Pos},Cx.calm X=Bool.true->Dh X ts fs scope->Ox X tg iter wi->(∀(ex:List Addr) (s:Shared) (H:Hp),Qd (cxC X (cpN ts fs) scope ex s H) tg g)->(∀(ex:List Addr) (s:Shared) (H:Hp),Ac5 (cxC X (cpN ts fs) scope ex s H) ifs tt)->(∀(ex:List Addr) (s:Shared) (H:Hp),Ci (cxC X (cpN ts fs) scope ex s H) elt te)->Qd X (Expr.Name y py) g'->autoParam (swapsWith (Expr.ListComp elt [{ target:=tg,iter:=iter,ifs:=ifs,is_async:=(0:Int)}] scope pos) (Option.some (Expr.Name y py)) (Pos.line z) (Cx.env X)=Pure.pure Bool.true) L2.Y7._auto_1->autoParam (∀(x:Value),foldedSetIterable iter (Cx.env X) x=Pure.pure x) L2.Y7._auto_2->J1 X (Stmt.Assign [Expr.Name y py] (Expr.ListComp elt [{ target:=tg,iter:=iter,ifs:=ifs,is_async:=(0:Int)}] scope pos) z) (Aje (Acn (List.length ts) fs wi g tt te) g'):=by with_unfolding_all exact @L2.Y7
theorem Aj:∀ {X:Cx}{e:Expr}{pos:Pos}{te:TE}{x:Str}{z:Pos} (i:Nat),Nodup (Cx.N X)->Ci X e te->autoParam ((Cx.N X)[i]? =Option.some x) L2.Afx._auto_1->autoParam (Loc (Env.scope (Cx.env X)) x) L2.Afx._auto_2->autoParam (swapsWith e (Option.some (Expr.Name x z)) (Pos.line pos) (Cx.env X)=Pure.pure Bool.false) L2.Afx._auto_3->autoParam (Cx.fn X x=Bool.true\/lookup x (Scope.names (Env.scope (Cx.env X)))=Option.some NameKind.local) L2.Afx._auto_4->J1 X (Stmt.Assign [Expr.Name x z] e pos) (Aje te (Qp i)):=by with_unfolding_all exact @L2.Afx
theorem Gs:∀ {X:Cx}{pos:Pos}{i j:Nat}{x y:Str}{a b:Expr}{ta:TA}{I py pt:Pos}{J k2:Nat}{z:Pos},Cx.calm X=Bool.true->Nodup (Cx.N X)->(Cx.N X)[i]? =Option.some x->(Cx.N X)[j]? =Option.some y->i≠j->lookup x (Scope.names (Env.scope (Cx.env X)))=Option.some NameKind.local->lookup y (Scope.names (Env.scope (Cx.env X)))=Option.some NameKind.local->Hy X [a,b] ta->swappedStores [Expr.Tuple [Expr.Name x I,Expr.Name y py] J pt] (Expr.Tuple [a,b] k2 z) (Cx.env X)=Pure.pure (Option.some [x,y])->autoParam (swapsWithSole [Expr.Tuple [Expr.Name x I,Expr.Name y py] J pt] (Expr.Tuple [a,b] k2 z) (Pos.line pos) (Cx.env X)=Pure.pure Bool.false) L2.Akx._auto_1->J1 X (Stmt.Assign [Expr.Tuple [Expr.Name x I,Expr.Name y py] J pt] (Expr.Tuple [a,b] k2 z) pos) (Atz i j ta):=by with_unfolding_all exact @L2.Akx
theorem Dp:∀ {X:Cx}{pos:Pos}{tg e:Expr}{te:TE}{g:TG},Ci X e te->Qd X tg g->autoParam (swapsWithSole [tg] e (Pos.line pos) (Cx.env X)=Pure.pure Bool.false) L2.Aau._auto_1->autoParam (swappedStores [tg] e (Cx.env X)=Pure.pure Option.none) L2.Aau._auto_2->autoParam (List.map (fun(x:Bool × (Value->Sem Unit)) ↦ Prod.snd x) (assignEach [tg] (Cx.env X))=[assign tg (Cx.env X)]) L2.Aau._auto_3->J1 X (Stmt.Assign [tg] e pos) (Aje te g):=by with_unfolding_all exact @L2.Aau
theorem Ak:∀ {X:Cx}{e:Expr}{te:TE}{pos:Pos},Ci X e te->J1 X (Stmt.Return (Option.some e) pos) (At0 te):=by with_unfolding_all exact @L2.Aq2
theorem Az:∀ {X:Cx}{t u:TS}{pos:Pos}{c:Expr}{a b:List Stmt}{tc:TT},Oz X c tc->Jv X a t->Jv X b u->J1 X (Stmt.If c a b pos) (Atv tc t u):=by with_unfolding_all exact @L2.Ata
theorem Jd:∀ {P:Program}{w:World}{K:W.Frag}{mg:Str->Option Value}{base:Heap}{N:List Str}{qual:Str}{scope:Scope}{f:Addr}{cd:Value}{A:Around}{outer:List Env}{s0:Shared}{H0:Hp}{E:XK}{C:Addr}{x:Str}{np cpos pos:Pos}{e:Expr}{es:List Expr}{t:TA},Xv K C->mg x=Option.some (Value.ref C)->Hy (Qn (CXE P w) P w K mg base N qual scope f cd A outer s0 H0 E) (e::es) t->autoParam (Gl (Qn (CXE P w) P w K mg base N qual scope f cd A outer s0 H0 E) x) L2.M4._auto_1->autoParam ((x==("__debug__":Str))=Bool.false) L2.M4._auto_2->autoParam (starEach (e::es) (PyProof.Rows.envOfC qual scope (Array.size (Heap.objs (Shared.heap s0))) f cd)=(Bool.false,eval e (PyProof.Rows.envOfC qual scope (Array.size (Heap.objs (Shared.heap s0))) f cd))::starEach es (PyProof.Rows.envOfC qual scope (Array.size (Heap.objs (Shared.heap s0))) f cd)) L2.M4._auto_3->autoParam ((List.any (backTo cpos (starEach es (PyProof.Rows.envOfC qual scope (Array.size (Heap.objs (Shared.heap s0))) f cd))) fun(x:Bool × Sem Value) ↦ Prod.fst x)=Bool.false) L2.M4._auto_4->J1 (Qn (CXE P w) P w K mg base N qual scope f cd A outer s0 H0 E) (Stmt.Raise (Option.some (Expr.Call (Expr.Name x np) (e::es) [] cpos)) Option.none pos) (Ags C E t):=by with_unfolding_all exact @L2.M4
theorem Xz:∀ {X:Cx}{C:Addr}{cx n f:Str}{np p cpos pos hpos:Pos}{b0 st:Stmt}{suite:List Stmt}{i k:Nat}{ts:Addr->Obj->TS}{ps:List Str}{sp:Sp}{a:Expr}{as:List Expr}{ta:TA}{g:V->St->St},Zu (Cx.prog X) (Cx.w X) (Cx.K X) (Cx.mg X) (Cx.base X) k f ps sp->J0 k (Cx.A X)->Hy (Cx.nox X) (a::as) ta->Zt X st (Expr.Call (Expr.Name f p) (a::as) [] cpos) g->Xv (Cx.K X) C->Cx.mg X cx=Option.some (Value.ref C)->(∀(x:Addr) (oe:Obj),Obj.cls oe=Value.ref C->Jv (Cx.caught X x oe) (b0::suite) (ts x oe))->Nodup (Cx.N X)->(Cx.N X)[i]? =Option.some n->autoParam (Cx.stack X=Cx.env X::Cx.outer X) L2.Fo._auto_1->autoParam (Env.frame (Cx.env X)=Option.some (Env.locals (Cx.env X))) L2.Fo._auto_2->autoParam (Gl X cx) L2.Fo._auto_3->autoParam ((cx==("__debug__":Str))=Bool.false) L2.Fo._auto_4->autoParam (Gl X f) L2.Fo._auto_5->autoParam ((f==("__debug__":Str))=Bool.false) L2.Fo._auto_6->autoParam (starEach (a::as) (Cx.env X)=(Bool.false,eval a (Cx.env X))::starEach as (Cx.env X)) L2.Fo._auto_7->autoParam ((List.any (backTo cpos (starEach as (Cx.env X))) fun(x:Bool × Sem Value) ↦ Prod.fst x)=Bool.false) L2.Fo._auto_8->autoParam (Env.kindOf (Cx.env X) n=Option.some NameKind.local) L2.Fo._auto_9->autoParam (Loc (Env.scope (Cx.env X)) n) L2.Fo._auto_10->autoParam (lookup n (Scope.names (Env.scope (Cx.env X)))=Option.some NameKind.local) L2.Fo._auto_11->J1 X (Stmt.Try [st] [ExceptHandler.ExceptHandler (Option.some (Expr.Name cx np)) (Option.some n) (b0::suite) hpos] [] [] pos) (Agt sp C g i ta ts):=by with_unfolding_all exact @L2.Fo
theorem Xx:∀ {X:Cx}{i:Nat}{x:Str}{e:Expr}{pos z:Pos},Nodup (Cx.N X)->(Cx.N X)[i]? =Option.some x->Loc (Env.scope (Cx.env X)) x->autoParam (swapsWith e (Option.some (Expr.Name x z)) (Pos.line pos) (Cx.env X)=Pure.pure Bool.false) L2.Ug._auto_1->autoParam (Cx.fn X x=Bool.true\/lookup x (Scope.names (Env.scope (Cx.env X)))=Option.some NameKind.local) L2.Ug._auto_2->Zt X (Stmt.Assign [Expr.Name x z] e pos) e fun(v:V) (σ:St) ↦ List.set σ i (Option.some v):=by with_unfolding_all exact @L2.Ug
theorem V7:∀ {X:Cx}{st:Stmt}{t:TS},J1 (Cx.nox X) st t->J1 X st t:=by with_unfolding_all exact @L2.PS.nox
theorem Cq:∀ {X:Cx}{pos:Pos}{c:Expr}{z:List Stmt}{tc:TT}{tb:TS},PassesOwn (model (Cx.prog X) (Cx.w X)) (Cx.A X) (Cx.env X) (Cx.xe X)->Oz X c tc->Jv X z tb->J1 X (Stmt.While c z [] pos) (Xl tc tb):=by with_unfolding_all exact @L2.Aiz
theorem Ce:∀ {X:Cx}{tg iter:Expr}{z:List Stmt}{wi:TI}{g:TG}{tb:TS}{pos:Pos},PassesOwn (model (Cx.prog X) (Cx.w X)) (Cx.A X) (Cx.env X) (Cx.xe X)->Cx.calm X=Bool.true->Ox X tg iter wi->Qd X tg g->Jv X z tb->autoParam (∀(x:Value),foldedSetIterable iter (Cx.env X) x=Pure.pure x) L2.Akw._auto_1->J1 X (Stmt.For tg iter z [] pos) (Atu wi g tb):=by with_unfolding_all exact @L2.Akw
theorem Dn:∀ {X:Cx}{e:Expr}{te:TE}{pos:Pos},Ci X e te->autoParam (swapsWith e Option.none (Pos.line pos) (Cx.env X)=Pure.pure Bool.false) L2.Afw._auto_1->J1 X (Stmt.Expr e pos) (Aoa te):=by with_unfolding_all exact @L2.Afw
theorem Av {X:Cx}{b:List Stmt}{z:TS->Prop} (h:∃t,Jv X b t/\z t):∃t,L2.PSs X b t/\z t:=by
 obtain⟨t,h1,h2⟩:=h
 exact⟨t,Aox h1,h2⟩
end L2
namespace Z
noncomputable def co (p:List Int) (i:Nat):Int:=p.getD i 0
theorem Bu (i:Nat):co [] i=0:=by simp [co]
theorem Bp (a:Int) (r:List Int):co (a::r) 0=a:=by simp [co]
theorem Bm (a:Int) (r:List Int) (i:Nat):co (a::r) (i+1)=co r i:=by simp [co]
theorem Bl {p:List Int}{i:Nat} (h:p.length<=i):co p i=0:=by simp [co,getD_eq_getElem?_getD,getElem?_eq_none h]
theorem Cg {p:List Int}{i:Nat} (h:i<p.length):co p i=p[i]:=by simp [co,getD_eq_getElem?_getD,getElem?_eq_getElem h]
noncomputable def Tr (p:List Int):Prop:=p=[]\/∃h:p≠ [],p.getLast h≠0
theorem Tr.lead {p:List Int} (h:Tr p) (n:p≠ []):co p (p.length-1)≠0:=by
 rcases h with h | ⟨h,z⟩
 . exact absurd h n
 . have I:0<p.length:=length_pos_iff.mpr h
   rw [Cg (by omega)]
   rw [List.getLast_eq_getElem]at z
   exact z
theorem Tr.of {p:List Int} (h:p=[]\/co p (p.length-1)≠0):Tr p:=by
 by_cases n:p=[]
 . exact .inl n
 . rcases h with h | h
   . exact .inl h
   . refine .inr ⟨n,?_⟩
     have z:0<p.length:=length_pos_iff.mpr n
     rw [Cg (by omega)]at h
     rw [List.getLast_eq_getElem]
     exact h
theorem Tr.len {p q:List Int} (I:Tr p) (e:∀i,co p i=co q i):p.length<=q.length:=by
 by_cases n:p=[]
 . subst n;simp
 . by_cases h:p.length<=q.length
   . exact h
   . exfalso
     have z:=I.lead n
     rw [e,Bl (by omega)]at z
     exact z rfl
theorem Tr.ext {p q:List Int} (z:Tr p) (I:Tr q) (e:∀i,co p i=co q i):p=q:=by
 have l:=le_antisymm (z.len e) (I.len fun i=>(e i).symm)
 refine ext_getElem l fun i h1 h2=> ?_
 rw [<-Cg h1,<-Cg h2,e]
noncomputable def trim:List Int->List Int
 | []=>[]
 | a::r=>match trim r with
   | []=>if a=0 then []else [a]
   | b::t=>a::b::t
theorem R5 (a:Int) (r:List Int):trim (a::r)=if trim r=[]/\a=0 then []else a::trim r:=by
 rw [trim]
 split
 . rename_i h
   rw [h]
   by_cases z:a=0<;>simp [z]
 . rename_i b t h
   rw [h]
   simp
theorem Bq:∀(p:List Int) (i:Nat),co (trim p) i=co p i
 | [],i=>rfl
 | a::r,i=>by
   rw [R5]
   split
   . rename_i h
     rw [Bu]
     cases i with
     | zero=>rw [Bp,h.2]
     | succ i=>rw [Bm,<-Bq r i,h.1,Bu]
   . cases i with
     | zero=>rw [Bp,Bp]
     | succ i=>rw [Bm,Bm,Bq r i]
theorem Cp:∀p:List Int,Tr (trim p)
 | []=> .inl rfl
 | a::r=>by
   rw [R5]
   split
   . exact .inl rfl
   . rename_i h
     refine .inr ⟨by simp,?_⟩
     by_cases I:trim r=[]
     . simp only [I,List.getLast_singleton]
       exact fun z=>h ⟨I,z⟩
     . rw [getLast_cons I]
       rcases Cp r with z | ⟨_,z⟩
       . exact absurd z I
       . exact z
theorem Vv {p q:List Int} (z:Tr q) (e:∀i,co q i=co p i):trim p=q:=(Cp p).ext z fun i=>by rw [Bq,e]
theorem Agu {p:List Int} (h:Tr p):trim p=p:=Vv h fun _=>rfl
theorem Jg (p:List Int) (n i:Nat):co (p.take n) i=if i<n then co p i else 0:=by
 unfold co
 rw [getD_eq_getElem?_getD,getD_eq_getElem?_getD,List.getElem?_take]
 split<;>rfl
theorem Agv {p:List Int}{n:Nat} (h1:∀i,n<=i->co p i=0) (h2:n=0\/co p (n-1)≠0):trim p=p.take n:=by
 refine Vv ?_ fun i=> ?_
 . rcases h2 with h | h
   . subst h;exact .inl (by simp)
   . have I:n<=p.length:=by
      by_cases z:n<=p.length
      . exact z
      . exact absurd (Bl (by omega)) h
     refine .of ?_
     by_cases J:n=0
     . left;subst J;simp
     . right
       rw [length_take,min_eq_left I,Jg,if_pos (by omega)]
       exact h
 . rw [Jg]
   split
   . rfl
   . rw [h1 i (by omega)]
noncomputable def sh (f:Nat->Int):Nat->Int
 | 0=>0
 | i+1=>f i
noncomputable def mu:List Int->(Nat->Int)->Nat->Int
 | [],_=>fun _=>0
 | a::p,f=>fun i=>a*f i+sh (mu p f) i
theorem Ak5 (f g:Nat->Int):sh (fun i=>f i+g i)=fun i=>sh f i+sh g i:=by funext i;cases i<;>simp [sh]
theorem Ak6 (c:Int) (f:Nat->Int):sh (fun i=>c*f i)=fun i=>c*sh f i:=by funext i;cases i<;>simp [sh]
theorem Rn:sh (fun _=>0)=fun _=>0:=by funext i;cases i<;>rfl
theorem Mu:∀(p:List Int) (f g:Nat->Int),mu p (fun i=>f i+g i)=fun i=>mu p f i+mu p g i
 | [],f,g=>by funext i;simp [mu]
 | a::p,f,g=>by
   funext i
   simp only [mu]
   rw [Mu p f g,Ak5]
   grind
theorem Jx:∀(p:List Int) (c:Int) (f:Nat->Int),mu p (fun i=>c*f i)=fun i=>c*mu p f i
 | [],c,f=>by funext i;simp [mu]
 | a::p,c,f=>by
   funext i
   simp only [mu]
   rw [Jx p c f,Ak6]
   grind
theorem Jk:∀(p:List Int),mu p (fun _=>0)=fun _=>0
 | []=>rfl
 | a::p=>by
   funext i
   simp only [mu]
   rw [Jk p,Rn]
   simp
theorem Ap7:∀(p:List Int) (f:Nat->Int),mu p (sh f)=sh (mu p f)
 | [],f=>by funext i;cases i<;>rfl
 | a::p,f=>by
   funext i
   simp only [mu]
   rw [Ap7 p f]
   cases i with
   | zero=>simp [sh]
   | succ i=>simp [sh]
theorem Aj6 (a:Int) (r:List Int):co (a::r)=fun i=>(if i=0 then a else 0)+sh (co r) i:=by
 funext i
 cases i with
 | zero=>simp [Bp,sh]
 | succ i=>simp [Bm,sh]
theorem Aal:∀(p:List Int),mu p (fun i=>if i=0 then 1 else 0)=co p
 | []=>by funext i;simp [mu,co]
 | a::p=>by
   funext i
   simp only [mu]
   rw [Aal p,Aj6]
   cases i<;>simp
theorem Abs (q:List Int) (a:Int) (p:List Int):mu q (co (a::p))=fun i=>a*co q i+sh (mu q (co p)) i:=by
 rw [Aj6,Mu,Ap7]
 funext i
 congr 1
 have e:(fun i:Nat=>if i=0 then a else 0)=fun i=>a*(if i=0 then 1 else 0):=by funext i;cases i<;>simp
 rw [e,Jx,Aal]
theorem Gz:∀p q:List Int,mu p (co q)=mu q (co p)
 | [],q=>by
   have e:co []=fun _=>0:=by funext i;simp [co]
   rw [e,Jk];rfl
 | a::p,q=>by rw [Abs,<-Gz p q];rfl
theorem Uz (f:Nat->Int):∀(r:List Int),(∀i,co r i=0)->mu r f=fun _=>0
 | [],_=>rfl
 | a::r,h0=>by
   have z:a=0:=by have:=h0 0;rwa [Bp]at this
   funext i
   simp only [mu]
   rw [Uz f r fun i=>by have:=h0 (i+1);rwa [Bm]at this,Rn,z]
   simp
theorem Cv (f:Nat->Int):∀(r s:List Int),(∀i,co r i=co s i)->mu r f=mu s f
 | [],s,h0=>(Uz f s fun i=>by rw [<-h0,Bu]).symm
 | a::r,[],h0=>Uz f (a::r) fun i=>by rw [h0,Bu]
 | a::r,b::s,h0=>by
   have z:a=b:=by have:=h0 0;rwa [Bp,Bp]at this
   subst z
   funext i
   simp only [mu]
   rw [Cv f r s fun i=>by have:=h0 (i+1);rwa [Bm,Bm]at this]
noncomputable def al:List Int->List Int->List Int
 | [],q=>q
 | p,[]=>p
 | a::p,b::q=>(a+b)::al p q
theorem Hz:∀(p q:List Int) (i:Nat),co (al p q) i=co p i+co q i
 | [],q,i=>by simp [al,co]
 | a::p,[],i=>by simp [al,co]
 | a::p,b::q,0=>by simp [al,Bp]
 | a::p,b::q,i+1=>by simp [al,Bm,Hz p q i]
theorem Sh (f:Nat->Int):∀(p q:List Int),mu (al p q) f=fun i=>mu p f i+mu q f i
 | [],q=>by funext i;simp [al,mu]
 | a::p,[]=>by funext i;simp [al,mu]
 | a::p,b::q=>by
   funext i
   simp only [al,mu]
   rw [Sh f p q,Ak5]
   grind
theorem Du (a:Int) (q:List Int) (i:Nat):co (q.map (a* ·)) i=a*co q i:=by
 unfold co
 rw [getD_eq_getElem?_getD,getD_eq_getElem?_getD,getElem?_map]
 cases q[i]? <;>simp
theorem Jj (f:Nat->Int) (a:Int):∀q:List Int,mu (q.map (a* ·)) f=fun i=>a*mu q f i
 | []=>by funext i;simp [mu]
 | b::q=>by
   funext i
   simp only [map_cons,mu]
   rw [Jj f a q,Ak6]
   grind
noncomputable def ml:List Int->List Int->List Int
 | [],_=>[]
 | a::p,q=>al (q.map (a* ·)) (0::ml p q)
theorem Qw:∀(p q:List Int),co (ml p q)=mu p (co q)
 | [],q=>by funext i;simp [ml,mu,co]
 | a::p,q=>by
   funext i
   simp only [ml,mu]
   rw [Hz,Du,<-Qw p q]
   cases i with
   | zero=>simp [Bp,sh]
   | succ i=>simp [Bm,sh]
theorem Mw (f:Nat->Int):∀(p q:List Int),mu (ml p q) f=mu p (mu q f)
 | [],q=>rfl
 | a::p,q=>by
   funext i
   simp only [ml]
   rw [Sh,Jj]
   simp only [mu]
   rw [Mw f p q]
   simp
theorem Aif {p q r:List Int} (f:Nat->Int) (h:∀i,co r i=mu p (co q) i):mu r f=mu p (mu q f):=by
 rw [<-Mw]
 exact Cv f r _ fun i=>by rw [h,Qw]
theorem Gi:∀(p:List Int) (e:Int) (i:Nat),co (p++ [e]) i=if i=p.length then e else co p i
 | [],e,0=>by simp [co]
 | [],e,i+1=>by simp [co]
 | a::p,e,0=>by simp [Bp]
 | a::p,e,i+1=>by
   rw [cons_append,Bm,Bm,Gi p e i,length_cons]
   by_cases h:i=p.length<;>simp [h]
theorem Ql (p:List Int) (j:Nat) (x:Int) (h:j<p.length) (i:Nat):co (p.set j x) i=if i=j then x else co p i:=by
 unfold co
 rw [getD_eq_getElem?_getD,getD_eq_getElem?_getD,List.getElem?_set]
 by_cases e:j=i
 . subst e
   simp [h]
 . rw [if_neg e,if_neg (Ne.symm e)]
theorem T9 {p q:List Int} (h:∀i,co p i=co q i):trim p=trim q:=Vv (Cp q) fun i=>by rw [Bq,h]
theorem Lw (f:Nat->Int):∀(p:List Int) (e:Int) (i:Nat),mu (p++ [e]) f i=mu p f i+(if p.length<=i then e*f (i-p.length)else 0)
 | [],e,i=>by simp [mu,Rn]
 | a::p,e,0=>by simp [mu,sh]
 | a::p,e,i+1=>by
   simp only [cons_append,mu,sh,length_cons]
   rw [Lw f p e i]
   by_cases h:p.length<=i
   . rw [if_pos h,if_pos (by omega),show i+1-(p.length+1)=i-p.length by omega]
     omega
   . rw [if_neg h,if_neg (by omega)]
     omega
theorem Akk:∀(p q:List Int) (i:Nat),p≠ []->p.length+q.length<=i+1->mu p (co q) i=0
 | [],q,i,h,_=>absurd rfl h
 | [a],q,i,_,hl=>by
   simp only [length_cons,length_nil]at hl
   simp only [mu]
   rw [Bl (by omega),Rn]
   simp
 | a::b::p,q,0,_,hl=>by
   simp only [length_cons]at hl
   omega
 | a::b::p,q,i+1,_,hl=>by
   simp only [length_cons]at hl
   show a*co q (i+1)+mu (b::p) (co q) i=0
   rw [Bl (p:=q) (by omega)]
   rw [Akk (b::p) q i (by simp) (by simp only [length_cons];omega)]
   simp
theorem Ux:∀(p q:List Int) (i:Nat),p≠ []->q≠ []->i+2=p.length+q.length->mu p (co q) i=co p (p.length-1)*co q (q.length-1)
 | [],q,i,h,_,_=>absurd rfl h
 | [a],q,i,_,hq,hl=>by
   simp only [length_cons,length_nil]at hl
   simp only [mu]
   rw [Rn]
   have e:i=q.length-1:=by omega
   subst e
   simp [Bp]
 | a::b::p,q,0,_,hq,hl=>by
   have:=length_pos_iff.mpr hq
   simp only [length_cons]at hl
   omega
 | a::b::p,q,i+1,_,hq,hl=>by
   simp only [length_cons]at hl
   show a*co q (i+1)+mu (b::p) (co q) i=_
   rw [Bl (p:=q) (by omega)]
   rw [Ux (b::p) q i (by simp) hq (by simp only [length_cons];omega)]
   simp [Bm]
noncomputable def tm (p q:List Int):List Int:=trim (ml p q)
noncomputable def ta (p q:List Int):List Int:=trim (al p q)
theorem Em (p q:List Int) (i:Nat):co (tm p q) i=mu p (co q) i:=by rw [tm,Bq,Qw]
theorem R4 (p q:List Int) (i:Nat):co (ta p q) i=co p i+co q i:=by rw [ta,Bq,Hz]
theorem Il (p q:List Int):Tr (tm p q):=Cp _
theorem Zo (p q:List Int):Tr (ta p q):=Cp _
theorem Oi (p q:List Int):tm p q=tm q p:=(Il _ _).ext (Il _ _) fun i=>by rw [Em,Em,Gz]
theorem Aog (p q:List Int):ta p q=ta q p:=(Zo _ _).ext (Zo _ _) fun i=>by rw [R4,R4,Int.add_comm]
theorem Ajg (p q r:List Int):tm (tm p q) r=tm p (tm q r):=(Il _ _).ext (Il _ _) fun i=>by
 rw [Em,Em,Aif (co r) (fun j=>Em p q j)]
 exact congrFun (congrArg (mu p) (funext fun j=>(Em q r j).symm)) i
theorem At3 (p q r:List Int):tm p (ta q r)=ta (tm p q) (tm p r):=(Il _ _).ext (Zo _ _) fun i=>by
 rw [Em,R4,Em,Em,show co (ta q r)=fun j=>co q j+co r j from funext fun j=>R4 q r j,Mu]
theorem Ala {p:List Int} (h:Tr p):tm p [1]=p:=(Il _ _).ext h fun i=>by
 rw [Em,show co [1]=fun i=>if i=0 then 1 else 0 from by funext i;cases i<;>simp [co],Aal]
theorem T8 (p:List Int):tm p []=[]:=(Il _ _).ext (.inl rfl) fun i=>by
 rw [Em,show co []=fun _=>0 from by funext i;simp [co],Jk]
noncomputable def pw (p:List Int):Nat->List Int
 | 0=>[1]
 | k+1=>tm p (pw p k)
theorem Afy (p:List Int):∀k,Tr (pw p k)
 | 0=> .inr ⟨by simp [pw],by simp [pw]⟩
 | k+1=>Il _ _
theorem Akz (p:List Int):∀a b,tm (pw p a) (pw p b)=pw p (a+b)
 | 0,b=>by rw [pw,Oi,Ala (Afy p b),Nat.zero_add]
 | a+1,b=>by rw [pw,Ajg,Akz p a b,show a+1+b=(a+b)+1 by omega,pw]
theorem Aq5 {p:List Int} (h:Tr p):pw p 1=p:=by rw [pw,pw,Ala h]
noncomputable def ng (p:List Int) (c:Int):List Int:=trim (p.map (· *c))
theorem Sq (p:List Int) (c:Int) (i:Nat):co (ng p c) i=co p i*c:=by
 rw [ng,Bq]
 unfold co
 rw [getD_eq_getElem?_getD,getD_eq_getElem?_getD,getElem?_map]
 cases p[i]? <;>simp
theorem T7 {p q:List Int} (I:Tr p) (J:Tr q) (h1:p≠ []) (h2:q≠ []):(tm p q).length+1=p.length+q.length:=by
 have O:=length_pos_iff.mpr h1
 have S:=length_pos_iff.mpr h2
 have lead:co (tm p q) (p.length+q.length-2)≠0:=by
  rw [Em,Ux p q _ h1 h2 (by omega)]
  exact mul_ne_zero (I.lead h1) (J.lead h2)
 have a:p.length+q.length-2<(tm p q).length:=by
  by_cases h:p.length+q.length-2<(tm p q).length
  . exact h
  . exact absurd (Bl (by omega)) lead
 have b:(tm p q).length<=p.length+q.length-1:=by
  by_cases h:(tm p q).length<=p.length+q.length-1
  . exact h
  . exfalso
    have M:tm p q≠ []:=fun z=>by rw [z]at h;simp at h
    have:=(Il p q).lead M
    rw [Em,Akk p q _ h1 (by omega)]at this
    exact this rfl
 omega
theorem Ak9 (p q:List Int):(ta p q).length<=max p.length q.length:=by
 by_cases z:ta p q=[]
 . rw [z];simp
 by_cases h:(ta p q).length<=max p.length q.length
 . exact h
 . exfalso
   have:=(Zo p q).lead z
   rw [R4,Bl (by omega),Bl (by omega)]at this
   exact this rfl
noncomputable def gl:List Int->Nat
 | []=>0
 | a::r=>Int.gcd a (gl r)
theorem Ad7:∀(L:List Int) (x:Int),x∈L->((gl L:Nat):Int)∣x
 | a::r,x,h=>by
   rcases mem_cons.mp h with rfl | h
   . exact gcd_dvd_left ..
   . exact dvd_trans (gcd_dvd_right ..) (Ad7 r x h)
theorem Ady (e m:Int):∀L:List Int,(∀x∈L,e∣m*x)->e∣m*(gl L:Nat)
 | [],_=>by simp [gl]
 | a::r,h=>by
   have h1:=h a (by simp)
   have h2:=Ady e m r fun x J=>h x (by simp [J])
   have I:=Int.dvd_coe_gcd h1 h2
   rw [Int.gcd_mul_left,natCast_mul]at I
   rw [gl]
   rcases Int.natAbs_eq m with z | z
   . rw [z];exact I
   . rw [z,neg_mul];exact dvd_neg.mpr I
noncomputable def Cop (s:Int) (a b:List Int):Prop:=∀e:Int,e∣s->(∀k,e∣co a k)->(∀k,e∣co b k)->e∣1
theorem Cop.gl {s:Int}{a b:List Int} (h:Cop s a b):Z.gl (s::(a++b))=1:=by
 have mem:=Ad7 (s::(a++b))
 have cd:∀(L:List Int),(∀x∈L,x∈s::(a++b))->∀k,((Z.gl (s::(a++b)):Nat):Int)∣co L k:=fun L M k=>by
  by_cases J:k<L.length
  . rw [Cg J];exact mem _ (M _ (getElem_mem J))
  . rw [Bl (by omega)];exact dvd_zero _
 have:=h _ (mem s (by simp)) (cd a fun x I=>by simp [I]) (cd b fun x I=>by simp [I])
 have h1:=Int.le_of_dvd (by decide) this
 rcases eq_zero_or_pos (Z.gl (s::(a++b)))with z | z
 . rw [z]at this
   have:=zero_dvd.mp this
   omega
 . omega
structure DV (p q:List Int) (s:Int) (qs rs:List Int) (j:Nat):Prop where
 pos:1<=s
 eq:∀k,s*co p k=mu qs (co q) k+co rs k
 top:∀k,j+q.length<=k+1->co rs k=0
 low:∀k,k<j->co qs k=0
 cop:Cop s qs rs
theorem Tj (f:Nat->Int) (n:Nat):∀i,mu (replicate n 0) f i=0:=fun i=>by
 rw [Uz f _ fun i=>by unfold co;rw [getD_eq_getElem?_getD,getElem?_replicate];split<;>rfl]
theorem DV.start (p q:List Int) (z:q≠ []):DV p q 1 (replicate (p.length+1-q.length) 0) p (p.length+1-q.length):=by
 have I:0<q.length:=length_pos_iff.mpr z
 refine⟨Int.le_refl _,fun k=>by rw [Tj,Int.one_mul,zero_add],fun k h=>Bl (by omega),fun k h=> ?_,fun e h _ _=>h⟩
 unfold co
 rw [getD_eq_getElem?_getD,getElem?_replicate]
 split<;>rfl
theorem J4 (m:Int) (L:List Int) (k:Nat):co (L.map (· *m)) k=co L k*m:=by
 unfold co
 rw [getD_eq_getElem?_getD,getD_eq_getElem?_getD,getElem?_map]
 cases L[k]? <;>simp
theorem Aew (e:Int):∀(p:List Int) (f:Nat->Int) (i:Nat),(∀j,j<=i->e∣f j)->e∣mu p f i
 | [],_,_,_=>dvd_zero _
 | a::p,f,0,h=>by
   show e∣a*f 0+0
   rw [add_zero]
   exact dvd_trans (h 0 (le_refl _)) (Int.dvd_mul_left _ _)
 | a::p,f,i+1,h=>by
   show e∣a*f (i+1)+mu p f i
   exact dvd_add (dvd_trans (h _ (le_refl _)) (Int.dvd_mul_left _ _)) (Aew e p f i fun j z=>h j (by omega))
theorem Qq {e:Int} (M:∀a b:Int,e∣a*b->e∣a\/e∣b):∀(p q:List Int),(∀k,e∣mu p (co q) k)->(∀k,e∣co p k)\/(∀k,e∣co q k)
 | [],_,_=> .inl fun k=>by rw [Bu];exact dvd_zero _
 | a::p,q,h=>by
   by_cases I:e∣a
   . have h2:∀k,e∣mu p (co q) k:=fun k=>by
      have:=h (k+1)
      have z:e∣a*co q (k+1):=dvd_trans I (dvd_mul_right _ _)
      exact(Int.dvd_add_right z).mp this
     rcases Qq M p q h2 with J | J
     . refine .inl fun k=> ?_
       cases k with
       | zero=>rw [Bp];exact I
       | succ k=>rw [Bm];exact J k
     . exact .inr J
   . refine .inr fun k=> ?_
     induction k using strongRecOn with
     | _ k O=>
       have z:=h k
       have s:e∣sh (mu p (co q)) k:=by
        cases k with
        | zero=>exact dvd_zero _
        | succ k=>exact Aew e p _ k fun j S=>O j (by omega)
       have:e∣a*co q k:=(Int.dvd_add_left s).mp z
       exact(M _ _ this).resolve_left I
theorem Aat:∀n:Nat,n≠1->∃r:Nat,2<=r/\r∣n/\∀a b:Int,(r:Int)∣a*b->(r:Int)∣a\/(r:Int)∣b:=fun n=>by
 have z:∀m:Nat,2<=m->∃r:Nat,2<=r/\r∣m/\∀a b:Int,(r:Int)∣a*b->(r:Int)∣a\/(r:Int)∣b:=fun m=>by
  induction m using strongRecOn with
  | _ m U=>
    intro W
    by_cases h:∃d,2<=d/\d<m/\d∣m
    . obtain⟨d,h1,h2,Y⟩:=h
      obtain⟨r,I,Z,J⟩:=U d h2 h1
      exact⟨r,I,Nat.dvd_trans Z Y,J⟩
    . refine⟨m,W,Nat.dvd_refl _,fun a b M=> ?_⟩
      by_cases O:(m:Int)∣a
      . exact .inl O
      . right
        have g1:Nat.gcd m a.natAbs=1:=by
         have S:Nat.gcd m a.natAbs∣m:=Nat.gcd_dvd_left ..
         have gl:=le_of_dvd (by omega) S
         have gp:=Nat.gcd_pos_of_pos_left a.natAbs (show 0<m by omega)
         by_cases e1:Nat.gcd m a.natAbs=1
         . exact e1
         . exfalso
           by_cases e2:Nat.gcd m a.natAbs=m
           . refine O (ofNat_dvd_left.mpr ?_)
             have:=Nat.gcd_dvd_right m a.natAbs
             rw [e2]at this
             exact this
           . exact h ⟨_,by omega,by omega,S⟩
        have hd:m∣a.natAbs*b.natAbs:=by
         have:=ofNat_dvd_left.mp M
         rwa [natAbs_mul]at this
        exact ofNat_dvd_left.mpr (Coprime.dvd_of_dvd_mul_left g1 hd)
 intro hn
 by_cases h0:n=0
 . subst h0
   obtain⟨r,I,_,J⟩:=z 2 (by decide)
   exact⟨r,I,Nat.dvd_zero _,J⟩
 . exact z n (by omega)
noncomputable def Prim (p:List Int):Prop:=∀e:Int,(∀k,e∣co p k)->e∣1
theorem Asy {p q r:List Int} (I:Prim p) (J:Prim q) (M:∀k,co r k=mu p (co q) k):Prim r:=fun e O=>by
 by_cases h1:e.natAbs=1
 . exact Int.natAbs_dvd.mp (by rw [h1];exact Int.dvd_refl _)
 . exfalso
   obtain⟨t,U,S,tp⟩:=Aat e.natAbs h1
   have te:(t:Int)∣e:=ofNat_dvd_left.mpr S
   have z:∀s:List Int,Prim s->¬ ∀k,(t:Int)∣co s k:=fun s hs h=>by
    have:=Int.le_of_dvd (by decide) (hs _ h)
    omega
   rcases Qq tp p q fun k=>by rw [<-M];exact dvd_trans te (O k)with h | h
   . exact z p I h
   . exact z q J h
theorem Mq {e m:Int}{p:List Int} (h:∀k,e∣m*co p k):e∣m*(gl p:Nat):=Ady e m p fun x z=>by
 obtain⟨i,hi,ei⟩:=getElem_of_mem z
 have:=h i
 rw [Cg hi,ei]at this
 exact this
theorem Ad6 (p:List Int) (k:Nat):((gl p:Nat):Int)∣co p k:=by
 by_cases z:k<p.length
 . rw [Cg z];exact Ad7 p _ (getElem_mem z)
 . rw [Bl (by omega)];exact dvd_zero _
theorem Prim.gl {p:List Int} (h:Prim p):Z.gl p=1:=by
 have:=h _ (Ad6 p)
 have h1:=Int.le_of_dvd (by decide) this
 rcases eq_zero_or_pos (Z.gl p)with z | z
 . rw [z]at this
   have:=zero_dvd.mp this
   omega
 . omega
theorem Aah {p:List Int}{k:Nat} (h:co p k≠0):0<gl p:=by
 rcases eq_zero_or_pos (gl p)with z | z
 . have:=Ad6 p k
   rw [z]at this
   exact absurd (zero_dvd.mp this) h
 . exact z
theorem Aas {u v:List Int}{c d:Int} (M:c≠0) (I:d≠0) (O:Prim u) (hv:Prim v) (h:∀k,c*co u k=d*co v k) {a b:Nat} (ua:0<co u a) (S:∀k,a<k->co u k=0) (va:0<co v b) (U:∀k,b<k->co v k=0):c=d/\∀k,co u k=co v k:=by
 have cd:c∣d:=by
  have:=Mq (e:=c) (m:=d) (p:=v) fun k=>by rw [<-h];exact dvd_mul_right _ _
  rw [hv.gl]at this
  simpa using this
 have W:d∣c:=by
  have:=Mq (e:=d) (m:=c) (p:=u) fun k=>by rw [h];exact dvd_mul_right _ _
  rw [O.gl]at this
  simpa using this
 have ab:a=b:=by
  rcases Nat.lt_trichotomy a b with l | l | l
  . exfalso
    have:=h b
    rw [S b l,mul_zero]at this
    rcases mul_eq_zero.mp this.symm with z | z
    . exact I z
    . omega
  . exact l
  . exfalso
    have:=h a
    rw [U a l,mul_zero]at this
    rcases mul_eq_zero.mp this with z | z
    . exact M z
    . omega
 subst ab
 have Y:=h a
 have e:c=d:=by
  have n:c.natAbs=d.natAbs:=Nat.dvd_antisymm (natAbs_dvd_natAbs.mpr cd) (natAbs_dvd_natAbs.mpr W)
  rcases Int.natAbs_eq_natAbs_iff.mp n with z | z
  . exact z
  . exfalso
    rw [z,neg_mul]at Y
    have Z:d*(co u a+co v a)=0:=by rw [mul_add];omega
    rcases mul_eq_zero.mp Z with z | z
    . exact I z
    . omega
 refine⟨e,fun k=> ?_⟩
 have J:=h k
 rw [e]at J
 exact eq_of_mul_eq_mul_left I J
noncomputable def un (p:List Int):Int:=if co p (p.length-1)<0 then-(gl p:Nat)else(gl p:Nat)
noncomputable def pln (p:List Int):List Int:=p.map fun x=>x.fdiv (un p)
theorem Lx (p:List Int):(pln p).length=p.length:=by rw [pln,length_map]
theorem Qk {f:Int->Int} (h:f 0=0) (p:List Int) (k:Nat):co (p.map f) k=f (co p k):=by
 unfold co
 rw [getD_eq_getElem?_getD,getD_eq_getElem?_getD,getElem?_map]
 cases p[k]? <;>simp [h]
theorem Alf (p:List Int) (k:Nat):un p∣co p k:=by
 unfold un
 split
 . exact Int.neg_dvd.mpr (Ad6 p k)
 . exact Ad6 p k
theorem Zq {p:List Int} (z:Tr p) (h:p≠ []):un p≠0:=by
 have:=Aah (z.lead h)
 unfold un
 split<;>omega
theorem Ow {p:List Int} (z:Tr p) (h:p≠ []) (k:Nat):un p*co (pln p) k=co p k:=by
 rw [pln,Qk (f:=fun x=>x.fdiv (un p)) (Int.zero_fdiv _)]
 obtain⟨t,I⟩:=Alf p k
 rw [I,Int.mul_fdiv_cancel_left _ (Zq z h)]
theorem Anj {p:List Int} (k:Nat) (z:p.length-1<k):co (pln p) k=0:=Bl (by rw [Lx];omega)
theorem Ph {p:List Int} (I:Tr p) (h:p≠ []):0<co (pln p) (p.length-1):=by
 have e:=Ow I h (p.length-1)
 have l:=I.lead h
 have g:=Aah l
 have z:co (pln p) (p.length-1)≠0:=fun z=>l (by rw [<-e,z,mul_zero])
 by_cases J:co p (p.length-1)<0
 . have u:un p= -(gl p:Nat):=if_pos J
   rw [u]at e
   rcases lt_or_gt_of_ne z with y | y
   . have:=Int.mul_pos_of_neg_of_neg (show-((gl p:Nat):Int)<0 by omega) y
     omega
   . exact y
 . have u:un p=(gl p:Nat):=if_neg J
   rw [u]at e
   rcases lt_or_gt_of_ne z with y | y
   . have:=Int.mul_neg_of_pos_of_neg (show 0<((gl p:Nat):Int)by omega) y
     omega
   . exact y
theorem Ol {p:List Int} (z:Tr p):Tr (pln p):=by
 by_cases h:p=[]
 . subst h;exact .inl rfl
 . refine .of (.inr ?_)
   rw [Lx]
   have:=Ph z h
   omega
theorem K3 {p:List Int} (z:Tr p) (h:p≠ []):Prim (pln p):=fun e I=>by
 have g:=Aah (z.lead h)
 have d:(gl p:Nat)*e∣1*(gl p:Nat):=Mq fun k=>by
  rw [Int.one_mul,<-Ow z h k]
  have:((gl p:Nat):Int)*e∣(gl p:Nat)*co (pln p) k:=Int.mul_dvd_mul (Int.dvd_refl _) (I k)
  unfold un
  split
  . rw [neg_mul];exact dvd_neg.mpr this
  . exact this
 rw [mul_comm 1]at d
 exact Int.dvd_of_mul_dvd_mul_left (by omega) d
theorem Aq0 {r v:List Int}{c:Int} (I:Tr r) (hv:Tr v) (pv:Prim v) (O:c≠0) (h:∀k,c*co v k=co r k) (n:v≠ []) (l:0<co v (v.length-1)):pln r=v:=by
 have J:r≠ []:=fun z=>by
  have:=h (v.length-1)
  rw [z,Bu]at this
  rcases mul_eq_zero.mp this with z | z<;>omega
 refine(Ol I).ext hv (Aas (Zq I J) O (K3 I J) pv (fun k=>by rw [Ow I J,h]) (Ph I J) (fun k M=>Anj k M) l fun k M=>Bl (by omega)).2
theorem Aqz {p:List Int} (I:Tr p) {c:Int} (O:c≠0) {r:List Int} (M:Tr r) (h:∀k,co r k=c*co p k):pln r=pln p:=by
 by_cases np:p=[]
 . subst np
   have:r=[]:=M.ext (.inl rfl) fun k=>by rw [h,Bu,mul_zero]
   rw [this]
 . have J:pln p≠ []:=fun z=>by have:=Lx p;rw [z]at this;exact absurd this.symm (by simp;exact np)
   refine Aq0 (c:=c*un p) M (Ol I) (K3 I np) (fun z=>by rcases mul_eq_zero.mp z with z | z;exact O z;exact Zq I np z) (fun k=> ?_) J (by rw [Lx];exact Ph I np)
   rw [h,<-Ow I np,mul_assoc]
noncomputable def Exact (p q:List Int):Prop:=∃v:List Int,∀k,co p k=mu v (co q) k
section
variable {C:Type}
noncomputable def La (r:C->Int) (f:List C->Int):List C->Int
 | []=>0
 | c::cs=>r c*f cs-La r (fun x=>f (c::x)) cs
noncomputable def Dt:List (C->Int)->List C->Int
 | [],[]=>1
 | [],_::_=>0
 | r::rows,cs=>La r (Dt rows) cs
theorem Qa (r:C->Int):∀z,La r (fun _=>0) z=0
 | []=>rfl
 | c::z=>by rw [La,Qa r z];simp
theorem Acz (r:C->Int):∀(z:List C) (f g:List C->Int),La r (fun x=>f x+g x) z=La r f z+La r g z
 | [],f,g=>rfl
 | c::z,f,g=>by
   rw [La,La,La,Acz r z]
   grind
theorem S8 (r:C->Int) (k:Int):∀(z:List C) (f:List C->Int),La r (fun x=>k*f x) z=k*La r f z
 | [],f=>by simp [La]
 | c::z,f=>by
   rw [La,La,S8 r k z]
   grind
theorem Aju (r:C->Int) (z:List C) (f g:List C->Int):La r (fun x=>f x-g x) z=La r f z-La r g z:=by
 have h1:=Acz r z (fun x=>f x-g x) g
 have h2:(fun x=>f x-g x+g x)=f:=by funext x;omega
 rw [h2]at h1
 omega
theorem Ac0 (r s:C->Int):∀(z:List C) (f:List C->Int),La (fun c=>r c+s c) f z=La r f z+La s f z
 | [],f=>rfl
 | c::z,f=>by
   rw [La,La,La,Ac0 r s z]
   grind
theorem Ac1 (r:C->Int) (k:Int):∀(z:List C) (f:List C->Int),La (fun c=>k*r c) f z=k*La r f z
 | [],f=>by simp [La]
 | c::z,f=>by
   rw [La,La,Ac1 r k z]
   grind
theorem Zw:∀(z:List C) (f:List C->Int),La (fun _=>0) f z=0
 | [],f=>rfl
 | c::z,f=>by rw [La,Zw z];simp
theorem Ac2 (r s:C->Int):∀(z:List C) (f:List C->Int),La r (La s f) z= -La s (La r f) z
 | [],f=>rfl
 | c::z,f=>by
   rw [La,La]
   have I:(fun x=>La s f (c::x))=fun x=>s c*f x-La s (fun y=>f (c::y)) x:=rfl
   have J:(fun x=>La r f (c::x))=fun x=>r c*f x-La r (fun y=>f (c::y)) x:=rfl
   rw [I,J,Aju,Aju,S8,S8,Ac2 r s z]
   grind
theorem Xu (r s:C->Int) (rows:List (C->Int)) (z:List C):Dt (r::s::rows) z= -Dt (s::r::rows) z:=Ac2 r s z (Dt rows)
theorem Ajr {b:C->Int}:∀ {z:List (C->Int)},b∈z->∀I,Dt (b::z) I=0
 | x::xs,h,I=>by
   rcases mem_cons.mp h with rfl | h
   . have:=Xu b b xs I
     omega
   . rw [Xu]
     show-La x (Dt (b::xs)) I=0
     have e:Dt (b::xs)=fun _=>0:=by funext y;exact Ajr h y
     rw [e,Qa]
     rfl
theorem Xr {rows:List (C->Int)} (h:∀I,Dt rows I=0):∀(z:List (C->Int)) (I:List C),Dt (z++rows) I=0
 | [],I=>h I
 | p::z,I=>by
   show La p (Dt (z++rows)) I=0
   have e:Dt (z++rows)=fun _=>0:=by funext y;exact Xr h z y
   rw [e,Qa]
theorem Acw (r s:C->Int) (z:List (C->Int)):∀(I:List (C->Int)) (J:List C),Dt (I++(fun c=>r c+s c)::z) J=Dt (I++r::z) J+Dt (I++s::z) J
 | [],J=>Ac0 r s J _
 | p::I,J=>by
   show La p (Dt (I++(fun c=>r c+s c)::z)) J=La p (Dt (I++r::z)) J+La p (Dt (I++s::z)) J
   rw [<-Acz]
   congr 1
   funext y
   exact Acw r s z I y
theorem Zv (r:C->Int) (k:Int) (z:List (C->Int)):∀(I:List (C->Int)) (J:List C),Dt (I++(fun c=>k*r c)::z) J=k*Dt (I++r::z) J
 | [],J=>Ac1 r k J _
 | p::I,J=>by
   show La p (Dt (I++(fun c=>k*r c)::z)) J=k*La p (Dt (I++r::z)) J
   rw [<-S8]
   congr 1
   funext y
   exact Zv r k z I y
inductive Sn (B:List (C->Int)):(C->Int)->Prop where
 | zero:Sn B (fun _=>0)
 | add (k:Int) {b v:C->Int} (hb:b∈B) (hv:Sn B v):Sn B (fun c=>k*b c+v c)
theorem Asp {B:List (C->Int)}{v:C->Int} (s:Sn B v) (z:List (C->Int)) (M:∀b∈B,b∈z) (I:List (C->Int)) (J:List C):Dt (I++v::z) J=0:=by
 induction s with
 | zero=>exact Xr (rows:=(fun _=>0)::z) (fun J=>Zw J _) I J
 | @add k b v O _ S=>
   rw [Acw (fun c=>k*b c) v z I J,S,Zv,Xr (Ajr (M b O)) I J]
   simp
inductive Rel (k:Int) (B:List (C->Int)):List (C->Int)->List (C->Int)->Prop where
 | nil:Rel k B [] []
 | cons {a a' v:C->Int}{A A':List (C->Int)} (hv:Sn B v) (h:∀c,k*a c=a' c+v c) (t:Rel k B A A'):Rel k B (a::A) (a'::A')
theorem Ajq {k:Int}{B:List (C->Int)}{A J:List (C->Int)} (h:Rel k B A J) (I:List C):∀z:List (C->Int),k^A.length*Dt (z++(A++B)) I=Dt (z++(J++B)) I:=by
 induction h with
 | nil=>intro z;simp
 | @cons a M v A J hv h t S=>
   intro z
   have e:(fun c=>k*a c)=fun c=>M c+v c:=funext h
   have U:k*Dt (z++a::(A++B)) I=Dt (z++M::(A++B)) I:=by
    rw [<-Zv,e,Acw,Asp hv (A++B) (fun b W=>mem_append_right _ W),add_zero]
   have O:=S (z++ [M])
   rw [append_assoc,append_assoc]at O
   show k^(A.length+1)*Dt (z++a::(A++B)) I=Dt (z++M::(J++B)) I
   rw [pow_succ,mul_assoc,U]
   exact O
theorem Ahd {k:Int}{R:List (C->Int)} (B:List (C->Int)) (I:List C):∀z:List (C->Int),Dt (z++(R.map (fun r c=>k*r c)++B)) I=k^R.length*Dt (z++(R++B)) I:=by
 induction R with
 | nil=>intro z;simp
 | cons r R M=>
   intro z
   show Dt (z++(fun c=>k*r c)::(R.map (fun r c=>k*r c)++B)) I=k^(R.length+1)*Dt (z++r::(R++B)) I
   rw [Zv]
   have J:=M (z++ [r])
   rw [append_assoc,append_assoc]at J
   have O:Dt (z++r::(R.map (fun r c=>k*r c)++B)) I=k^R.length*Dt (z++r::(R++B)) I:=J
   rw [O,pow_succ]
   grind
noncomputable def Sg (e:Int):Prop:=e=1\/e= -1
theorem Sg.mul {a b:Int} (z:Sg a) (I:Sg b):Sg (a*b):=by
 rcases z with rfl | rfl<;>rcases I with rfl | rfl<;>simp [Sg]
theorem Sg.sq {a:Int} (z:Sg a):a*a=1:=by rcases z with rfl | rfl<;>rfl
theorem Acx (a:C->Int) (z:List (C->Int)):∀B:List (C->Int),∃e,Sg e/\∀I,Dt (a::(B++z)) I=e*Dt (B++a::z) I
 | []=>⟨1,.inl rfl,fun I=>by simp⟩
 | b::B=>by
   obtain⟨e,J,h⟩:=Acx a z B
   refine⟨-e,by rcases J with rfl | rfl<;>simp [Sg],fun I=> ?_⟩
   show Dt (a::b::(B++z)) I=_
   rw [Xu]
   show-La b (Dt (a::(B++z))) I= -e*La b (Dt (B++a::z)) I
   have M:Dt (a::(B++z))=fun y=>e*Dt (B++a::z) y:=funext h
   rw [M,S8]
   grind
theorem Ue (B:List (C->Int)):∀(A:List (C->Int)),∃e,Sg e/\∀z,Dt (A++B) z=e*Dt (B++A) z
 | []=>⟨1,.inl rfl,fun z=>by simp⟩
 | a::A=>by
   obtain⟨e,J,h⟩:=Ue B A
   obtain⟨M,I,h'⟩:=Acx a A B
   refine⟨e*M,J.mul I,fun z=> ?_⟩
   show La a (Dt (A++B)) z=_
   have O:Dt (A++B)=fun y=>e*Dt (B++A) y:=funext h
   rw [O,S8]
   have:=h' z
   show e*Dt (a::(B++A)) z=_
   rw [this]
   grind
theorem Xq {c:C}:∀ {rows:List (C->Int)},(∀r∈rows,r c=0)->∀ {I:List C},c∈I->Dt rows I=0
 | [],_,c'::I,_=>rfl
 | r::rows,h,I,hc=>by
   have U:=h r mem_cons_self
   have W:∀ds:List C,c∈ds->Dt rows ds=0:=fun ds J=>Xq (fun x Y=>h x (mem_cons_of_mem _ Y)) J
   show La r (Dt rows) I=0
   have M:∀(I:List C) (f:List C->Int),c∈I->(∀ds,c∈ds->f ds=0)->La r f I=0:=fun I=>by
    induction I with
    | nil=>intro f h;cases h
    | cons d ds O=>
      intro f h S
      rw [La]
      by_cases J:c∈ds
      . rw [S ds J,O (fun x=>f (d::x)) J (fun e Z=>S _ (mem_cons_of_mem _ Z))]
        simp
      . have:c=d:=by
         rcases mem_cons.mp h with z | z
         . exact z
         . exact absurd z J
        subst this
        rw [U]
        have e:(fun x=>f (c::x))=fun _=>0:=by funext x;exact S _ mem_cons_self
        rw [e,Qa]
        simp
   exact M I (Dt rows) hc W
theorem Aov {c:C}{r:C->Int}{rows:List (C->Int)} (h:∀s∈rows,s c=0) (z:List C):Dt (r::rows) (c::z)=r c*Dt rows z:=by
 show La r (Dt rows) (c::z)=_
 rw [La]
 have e:(fun x=>Dt rows (c::x))=fun _=>0:=by funext x;exact Xq h mem_cons_self
 rw [e,Qa]
 simp
theorem Ajp (r:C->Int) (c:C):Dt [r] [c]=r c:=by simp [Dt,La]
end
noncomputable def shr (a:Nat) (F:Nat->Nat->Int):Nat × Nat->Int:=fun c=>if a<=c.2 then F c.1 (c.2-a)else 0
noncomputable def blk (F:Nat->Nat->Int):Nat->List (Nat × Nat->Int)
 | 0=>[]
 | a+1=>shr a F::blk F a
theorem Nt (F:Nat->Nat->Int):∀a,(blk F a).length=a
 | 0=>rfl
 | a+1=>by rw [blk,length_cons,Nt F a]
theorem Als {F:Nat->Nat->Int}{a s:Nat} (h:s<a):shr s F∈blk F a:=by
 induction a with
 | zero=>omega
 | succ a z=>
   rw [blk]
   by_cases e:s=a
   . subst e;exact mem_cons_self
   . exact mem_cons_of_mem _ (z (by omega))
theorem Ji {F:Nat->Nat->Int}{r:Nat × Nat->Int}:∀ {a:Nat},r∈blk F a->∃s,s<a/\r=shr s F
 | 0,h=>by cases h
 | a+1,h=>by
   rcases mem_cons.mp h with rfl | h
   . exact⟨a,by omega,rfl⟩
   . obtain⟨s,h1,h2⟩:=Ji h
     exact⟨s,by omega,h2⟩
noncomputable def dn (lo:Nat):Nat->List (Nat × Nat)
 | 0=>[]
 | b+1=>(0,lo+b)::dn lo b
noncomputable def Dg (F:Nat->Nat->Int) (n:Nat):Prop:=∀i,n<=i->F 0 i=0
theorem peel {G:Nat->Nat->Int}{m t lo b K:Nat}{rest:List (Nat × Nat->Int)}{l:Nat × Nat} (z:Dg G (m+1)) (I:∀r∈rest,∀i,K<=i->r (0,i)=0) (e:lo+b=m+t) (M:K<=m+t):
 ∀u,Dt (blk G (t+u)++rest) (dn lo (b+u)++ [l])=G 0 m^u*Dt (blk G t++rest) (dn lo b++ [l])
 | 0=>by simp
 | u+1=>by
   show Dt (shr (t+u) G::(blk G (t+u)++rest)) ((0,lo+(b+u))::(dn lo (b+u)++ [l]))=_
   rw [Aov]
   . rw [peel z I e M u]
     have O:shr (t+u) G (0,lo+(b+u))=G 0 m:=by
      unfold shr
      rw [if_pos (show t+u<=lo+(b+u)by omega)]
      show G 0 (lo+(b+u)-(t+u))=_
      rw [show lo+(b+u)-(t+u)=m by omega]
     rw [O,pow_succ]
     grind
   . intro s hs
     rcases mem_append.mp hs with hs | hs
     . obtain⟨J,h1,rfl⟩:=Ji hs
       unfold shr
       rw [if_pos (show J<=lo+(b+u)by omega)]
       exact z _ (by show m+1<=lo+(b+u)-J;omega)
     . exact I s hs _ (by omega)
noncomputable def Sr (j:Nat) (F:Nat->Nat->Int) (n:Nat) (G:Nat->Nat->Int) (m:Nat) (l:Nat × Nat):Int:=Dt (blk F (m-j)++blk G (n-j)) (dn (j+1) (n+m-2*j-1)++ [l])
theorem Arq (G:Nat->Nat->Int):∀(q:List Int) (s b:Nat),s+q.length<=b->Sn (blk G b) (shr s fun c=>mu q (G c))
 | [],s,b,_=>by
   have e:(shr s fun c=>mu [] (G c))=fun _=>0:=by
    funext c
    unfold shr
    split<;>rfl
   rw [e]
   exact .zero
 | a::q,s,b,h=>by
   have e:(shr s fun c=>mu (a::q) (G c))=fun c=>a*shr s G c+(shr (s+1) fun c=>mu q (G c)) c:=by
    funext c
    unfold shr
    by_cases h1:s+1<=c.2
    . rw [if_pos (by omega),if_pos (by omega),if_pos h1]
      show a*G c.1 (c.2-s)+sh (mu q (G c.1)) (c.2-s)=_
      rw [show c.2-s=(c.2-(s+1))+1 by omega]
      rfl
    . by_cases h2:s<=c.2
      . rw [if_pos h2,if_pos h2,if_neg h1]
        show a*G c.1 (c.2-s)+sh (mu q (G c.1)) (c.2-s)=_
        rw [show c.2-s=0 by omega]
        rfl
      . rw [if_neg h2,if_neg h2,if_neg h1]
        simp
   rw [e]
   rw [length_cons]at h
   exact .add a (Als (by omega)) (Arq G q (s+1) b (by omega))
theorem Y8 {F G R:Nat->Nat->Int}{L:Int}{q:List Int}{b:Nat} (h:∀c i,L*F c i=R c i+mu q (G c) i):∀a,a+q.length<=b+1->Rel L (blk G b) (blk F a) (blk R a)
 | 0,_=> .nil
 | a+1,hb=>by
   refine .cons (Arq G q a b (by omega)) (fun c=> ?_) (Y8 h a (by omega))
   unfold shr
   split
   . exact h _ _
   . simp
theorem Aba {R:Nat->Nat->Int}{k a:Nat} (z:Dg R k):∀r∈blk R a,∀i,k+a<=i+1->r (0,i)=0:=fun r I i hi=>by
 obtain⟨s,h1,rfl⟩:=Ji I
 unfold shr
 split
 . exact z _ (by show k<=i-s;omega)
 . rfl
section
variable {F G R:Nat->Nat->Int}{n m k:Nat}{L:Int}{q:List Int}
theorem An8 (z:Dg G (m+1)) (I:Dg R (k+1)) (h:∀c i,L*F c i=R c i+mu q (G c) i) (W:q.length<=n-m+1) (J:m<=n) (j:Nat) (Y:j<m) (Z:j<=k) (M:k<m):
 ∃e,Sg e/\∀l,L^(m-j)*Sr j F n G m l=e*(G 0 m^(n-k)*Sr j G m R k l):=by
 obtain⟨e,O,S⟩:=Ue (blk G (n-j)) (blk R (m-j))
 refine⟨e,O,fun l=> ?_⟩
 unfold Sr
 have h1:=Ajq (Y8 (F:=F) (G:=G) (R:=R) h (m-j) (b:=n-j) (by omega)) (dn (j+1) (n+m-2*j-1)++ [l]) []
 rw [Nt,nil_append,nil_append]at h1
 rw [h1,S]
 have h2:=peel (G:=G) (m:=m) (t:=k-j) (lo:=j+1) (b:=m+k-2*j-1) (K:=k+1+(m-j)-1) (rest:=blk R (m-j)) (l:=l) z (fun r U i hi=>Aba I r U i (by omega)) (by omega) (by omega) (n-k)
 rw [show k-j+(n-k)=n-j by omega,show m+k-2*j-1+(n-k)=n+m-2*j-1 by omega]at h2
 rw [h2]
theorem An7 (I:Dg G (m+1)) (J:Dg R m) (h:∀c i,L*F c i=R c i+mu q (G c) i) (W:q.length<=n-m+1) (M:m<=n) (Y:1<=m):
 ∃e,Sg e/\∀l:Nat × Nat,L*Sr (m-1) F n G m l=e*(G 0 m^(n-m+1)*R l.1 l.2):=by
 obtain⟨e,O,z⟩:=Ue (blk G (n-(m-1))) (blk R (m-(m-1)))
 refine⟨e,O,fun l=> ?_⟩
 unfold Sr
 have h1:=Ajq (Y8 (F:=F) (G:=G) (R:=R) h (m-(m-1)) (b:=n-(m-1)) (by omega)) (dn (m-1+1) (n+m-2*(m-1)-1)++ [l]) []
 rw [Nt,nil_append,nil_append]at h1
 have S:m-(m-1)=1:=by omega
 rw [S]at h1 z ⊢
 rw [pow_succ,pow_zero,Int.one_mul]at h1
 rw [h1,z]
 have h2:=peel (G:=G) (m:=m) (t:=0) (lo:=m-1+1) (b:=0) (K:=m) (rest:=blk R 1) (l:=l) I (fun r U i hi=>Aba J r U i (by omega)) (by omega) (by omega) (n-m+1)
 rw [show 0+(n-m+1)=n-(m-1)by omega]at h2
 rw [show n+m-2*(m-1)-1=n-(m-1)by omega,h2]
 congr 1
 congr 1
 show Dt [shr 0 R] [l]=_
 rw [Ajp]
 rfl
theorem Ars (z:Dg G (m+1)) (I:m<n) (l:Nat × Nat):Sr m F n G m l=G 0 m^(n-m-1)*G l.1 l.2:=by
 unfold Sr
 rw [sub_self]
 show Dt ([]++blk G (n-m)) _=_
 rw [nil_append]
 have h2:=peel (G:=G) (m:=m) (t:=1) (lo:=m+1) (b:=0) (K:=0) (rest:=[]) (l:=l) z (fun r J=>by cases J) (by omega) (by omega) (n-m-1)
 rw [show 1+(n-m-1)=n-m by omega,append_nil,append_nil]at h2
 rw [show n+m-2*m-1=0+(n-m-1)by omega,h2]
 congr 1
 show Dt [shr 0 G] [l]=_
 rw [Ajp]
 rfl
theorem Wf (T:Nat->Nat->Int) (z:Int):∀a,blk (fun c i=>z*T c i) a=(blk T a).map fun r c=>z*r c
 | 0=>rfl
 | a+1=>by
   rw [blk,blk,map_cons,Wf T z a]
   congr 1
   funext c
   unfold shr
   split<;>simp
theorem Ajd (T:Nat->Nat->Int) (z:Int) (j:Nat) (l:Nat × Nat):Sr j G m (fun c i=>z*T c i) k l=z^(m-j)*Sr j G m T k l:=by
 unfold Sr
 rw [Wf]
 have h:=Ahd (k:=z) (R:=blk T (m-j)) [] (dn (j+1) (m+k-2*j-1)++ [l]) (blk G (k-j))
 rw [append_nil,append_nil,Nt]at h
 exact h
end
theorem Iu {a:Int} (h:a≠0):∀n:Nat,a^n≠0
 | 0=>by simp
 | n+1=>by
   rw [pow_succ]
   exact mul_ne_zero (Iu h n) h
noncomputable def Chn (F1:Nat->Nat->Int) (n1:Nat) (F2:Nat->Nat->Int) (n2:Nat) (F:Nat->Nat->Int) (n:Nat) (G:Nat->Nat->Int) (m:Nat) (l h:Int):Prop:=
 ∀j,j<=m->j<n->∃e,Sg e/\∀c,h^(n-j-1)*l^(m-j)*Sr j F1 n1 F2 n2 c=e*Sr j F n G m c
theorem Chn.start (F1:Nat->Nat->Int) (n1:Nat) (F2:Nat->Nat->Int) (n2:Nat):Chn F1 n1 F2 n2 F1 n1 F2 n2 1 1:=fun j _ _=>⟨1,.inl rfl,fun c=>by rw [one_pow,one_pow];simp⟩
section
variable {F1 F2 F G R T:Nat->Nat->Int}{n1 n2 n m k:Nat}{l h lg h':Int}{q:List Int}
theorem Chn.rest (ch:Chn F1 n1 F2 n2 F n G m l h) (S:Dg G (m+1)) (U:Dg R m) (W:q.length<=n-m+1) (J:m<=n) (Y:1<=m) (Z:G 0 m≠0)
 (eq:∀c i,G 0 m^(n-m+1)*F c i=R c i+mu q (G c) i):∃e,Sg e/\∀c i,R c i=l*h^(n-m)*(e*Sr (m-1) F1 n1 F2 n2 (c,i)):=by
 obtain⟨e,O,h1⟩:=ch (m-1) (by omega) (by omega)
 obtain⟨z,I,h2⟩:=An7 (F:=F) (n:=n) S U eq W J Y
 refine⟨e*z,O.mul I,fun c i=> ?_⟩
 have M:=h1 (c,i)
 have a2:=h2 (c,i)
 rw [show n-(m-1)-1=n-m by omega,show m-(m-1)=1 by omega,pow_succ,pow_zero,Int.one_mul]at M
 have hp:=Iu Z (n-m+1)
 generalize G 0 m^(n-m+1)=L at*
 generalize Sr (m-1) F n G m (c,i)=s at*
 have a3:s=z*R c i:=by
  have:L*s=L*(z*R c i):=by rw [a2];grind
  exact eq_of_mul_eq_mul_left hp this
 rw [a3]at M
 have s1:=O.sq
 have s2:=I.sq
 have:e*z*(h^(n-m)*l*Sr (m-1) F1 n1 F2 n2 (c,i))=R c i:=by
  rw [M]
  have:e*z*(e*(z*R c i))=(e*e)*(z*z)*R c i:=by grind
  rw [this,s1,s2]
  simp
 rw [<-this]
 grind
theorem Chn.height (ch:Chn F1 n1 F2 n2 F n G m l h) (M:Dg G (m+1)) (z:m<n):∃e,Sg e/\h^(n-m-1)*(e*Sr m F1 n1 F2 n2 (0,m))=G 0 m^(n-m):=by
 obtain⟨e,I,h1⟩:=ch m (le_refl _) z
 refine⟨e,I,?_⟩
 have J:=h1 (0,m)
 rw [sub_self,pow_zero,mul_one,Ars M z]at J
 have O:=I.sq
 have S:G 0 m^(n-m)=G 0 m^(n-m-1)*G 0 m:=by
  rw [<-pow_succ,show(n-m-1).succ=n-m by omega]
 rw [S]
 have:h^(n-m-1)*(e*Sr m F1 n1 F2 n2 (0,m))=e*(h^(n-m-1)*Sr m F1 n1 F2 n2 (0,m)):=by grind
 rw [this,J]
 have:e*(e*(G 0 m^(n-m-1)*G 0 m))=(e*e)*(G 0 m^(n-m-1)*G 0 m):=by grind
 rw [this,O]
 simp
theorem Chn.next (ch:Chn F1 n1 F2 n2 F n G m l h) (hG:Dg G (m+1)) (hT:Dg T (k+1)) (hq:q.length<=n-m+1) (O:m<=n) (U:k<m) (hl:G 0 m≠0) (l0:l≠0) (h0:h≠0)
 (eq:∀c i,G 0 m^(n-m+1)*F c i=l*h^(n-m)*T c i+mu q (G c) i) (I:(n=m/\h'=h)\/(m<n/\h^(n-m-1)*h'=G 0 m^(n-m))):Chn F1 n1 F2 n2 G m T k (G 0 m) h':=by
 intro j hj W
 obtain⟨e,he,h1⟩:=ch j (by omega) (by omega)
 obtain⟨e',J,h2⟩:=An8 (F:=F) (n:=n) (R:=fun c i=>l*h^(n-m)*T c i) (k:=k) hG (fun i hi=>by show l*h^(n-m)*T 0 i=0;rw [hT i hi];simp) eq hq O j W hj U
 refine⟨e*e',he.mul J,fun c=> ?_⟩
 have a1:=h1 c
 have M:=h2 c
 rw [Ajd]at M
 generalize Sr j F1 n1 F2 n2 c=S at*
 generalize Sr j F n G m c=s at*
 generalize Sr j G m T k c=s' at*
 generalize a5:G 0 m=lg at*
 have s1:=he.sq
 have s2:=J.sq
 obtain⟨E,hE⟩:∃E,m-j=E+1:=⟨m-j-1,by omega⟩
 obtain⟨d,hd⟩:∃d,n-m=d:=⟨_,rfl⟩
 have Y:n-j-1=d+E:=by omega
 have Z:n-k+(k-j)=d+E+1:=by omega
 rw [hE,hd]at M
 rw [hE,Y]at a1
 rw [show m-j-1=E by omega]
 rw [hd]at I
 have a0:lg^(n-k)*h^(d*(E+1))*(h'^E*lg^(k-j))=(lg^(d+1))^(E+1)*h^(d+E):=by
  have p1:lg^(n-k)*lg^(k-j)=lg^(d+E+1):=by rw [<-Int.pow_add,Z]
  rcases I with⟨hz,rfl⟩ | ⟨hz,I⟩
  . have d0:d=0:=by omega
    subst d0
    rw [Nat.zero_mul,pow_zero,mul_one,Nat.zero_add,Nat.zero_add,Int.pow_one]
    rw [Nat.zero_add]at p1
    rw [<-p1]
    grind
  . obtain⟨z,a3⟩:∃z,d=z+1:=⟨d-1,by omega⟩
    subst a3
    rw [show z+1-1=z by omega]at I
    have p2:(h^z*h')^E=(lg^(z+1))^E:=by rw [I]
    rw [Int.mul_pow]at p2
    have p3:h^((z+1)*(E+1))=(h^z)^E*h^(z+1+E):=by
     rw [<-Int.pow_mul,<-Int.pow_add]
     congr 1
     rw [add_mul,Nat.mul_add]
     omega
    have p4:(lg^(z+1+1))^(E+1)=(lg^(z+1))^E*lg^(z+1+E+1):=by
     rw [<-Int.pow_mul,<-Int.pow_mul,<-Int.pow_add]
     congr 1
     rw [add_mul,Nat.mul_add]
     omega
    rw [p3,p4,<-p2,<-p1]
    grind
 have big:lg^(n-k)*h^(d*(E+1))≠0:=mul_ne_zero (Iu hl _) (Iu h0 _)
 have a4:l^(E+1)≠0:=Iu l0 _
 have b1:(l*h^d)^(E+1)=l^(E+1)*h^(d*(E+1)):=by rw [Int.mul_pow,<-Int.pow_mul]
 rw [b1]at M
 refine eq_of_mul_eq_mul_left big ?_
 refine eq_of_mul_eq_mul_left a4 ?_
 have c1:l^(E+1)*(lg^(n-k)*h^(d*(E+1))*(h'^E*lg^(k-j)*S))=(lg^(d+1))^(E+1)*(h^(d+E)*l^(E+1)*S):=by
  have:l^(E+1)*(lg^(n-k)*h^(d*(E+1))*(h'^E*lg^(k-j)*S))=(lg^(n-k)*h^(d*(E+1))*(h'^E*lg^(k-j)))*l^(E+1)*S:=by grind
  rw [this,a0]
  grind
 rw [c1,a1]
 have c2:(lg^(d+1))^(E+1)*(e*s)=e*((lg^(d+1))^(E+1)*s):=by grind
 rw [c2,M]
 grind
end
theorem Ajt {C:Type}{r:C->Int}{M B:Nat} (I:∀c,(r c).natAbs<=M):∀(z:List C) (f:List C->Int),(∀ds,ds.length+1=z.length->(f ds).natAbs<=B)->(La r f z).natAbs<=z.length*(M*B)
 | [],f,_=>by simp [La]
 | c::z,f,h=>by
   rw [La]
   have h1:(f z).natAbs<=B:=h z (by simp)
   have h2:=Ajt I z (fun x=>f (c::x)) fun ds J=>h (c::ds) (by simp;omega)
   have O:(r c*f z).natAbs<=M*B:=by rw [natAbs_mul];exact mul_le_mul (I c) h1
   rw [length_cons,succ_mul]
   omega
theorem Ajo {C:Type}{M L:Nat} (I:1<=L*M):∀(rows:List (C->Int)) (z:List C),(∀r∈rows,∀c,(r c).natAbs<=M)->z.length<=L->(Dt rows z).natAbs<=(L*M)^rows.length
 | [],[],_,_=>by simp [Dt]
 | [],_::_,_,_=>by simp [Dt]
 | r::rows,z,h,hl=>by
   show(La r (Dt rows) z).natAbs<=_
   have h1:=Ajt (r:=r) (M:=M) (B:=(L*M)^rows.length) (h r mem_cons_self) z (Dt rows) fun ds J=>Ajo I rows ds (fun s hs=>h s (mem_cons_of_mem _ hs)) (by omega)
   rw [length_cons,Nat.pow_succ,Nat.mul_comm _ (L*M)]
   refine le_trans h1 ?_
   rw [Nat.mul_assoc]
   exact mul_le_mul_right _ hl
theorem Aka (lo:Nat):∀b,(dn lo b).length=b
 | 0=>rfl
 | b+1=>by rw [dn,length_cons,Aka lo b]
theorem Agm {F:Nat->Nat->Int}{M:Nat} (h:∀c i,(F c i).natAbs<=M) (a:Nat) (c:Nat × Nat):(shr a F c).natAbs<=M:=by
 unfold shr
 split
 . exact h _ _
 . simp
theorem Ago {F G:Nat->Nat->Int}{n m j b:Nat} (I:∀c i,(F c i).natAbs<=2^b) (J:∀c i,(G c i).natAbs<=2^b) (U:j<=n) (W:j<=m) (O:n+m-2*j<=64) (c:Nat × Nat):(Sr j F n G m c).natAbs<=2^((b+6)*(n+m-2*j)):=by
 unfold Sr
 have e:(2:Nat)^6*2^b=2^(b+6):=by rw [<-pow_add,add_comm]
 have S:1<=2^6*2^b:=by rw [e];exact Nat.one_le_two_pow
 have h:=Ajo (M:=2^b) (L:=2^6) S (blk F (m-j)++blk G (n-j)) (dn (j+1) (n+m-2*j-1)++ [c]) (fun r z c=>by
  rcases mem_append.mp z with z | z
  . obtain⟨s,_,rfl⟩:=Ji z
    exact Agm I _ _
  . obtain⟨s,_,rfl⟩:=Ji z
    exact Agm J _ _) (by rw [length_append,Aka,length_singleton];show _<=64;omega)
 rw [length_append,Nt,Nt,e,<-pow_mul]at h
 rw [show m-j+(n-j)=n+m-2*j by omega]at h
 exact h
theorem Agp {F G:Nat->Nat->Int}{n m j l:Nat} (I:∀c i,l<=i->F c i=0) (J:∀c i,l<=i->G c i=0) (M:n<l) (O:m<l) (c i:Nat) (hi:2*l<=i):Sr j F n G m (c,i)=0:=by
 unfold Sr
 refine Xq (c:=(c,i)) (fun r z=> ?_) (by simp)
 rcases mem_append.mp z with z | z
 . obtain⟨s,hs,rfl⟩:=Ji z
   unfold shr
   split
   . exact I _ _ (by show l<=i-s;omega)
   . rfl
 . obtain⟨s,hs,rfl⟩:=Ji z
   unfold shr
   split
   . exact J _ _ (by show l<=i-s;omega)
   . rfl
theorem Amc (x y:Nat):4*(x*y)<=(x+y)*(x+y):=by
 rcases Nat.le_total x y with h | h
 . obtain⟨d,rfl⟩:=Nat.exists_eq_add_of_le h
   have:(x+(x+d))*(x+(x+d))=4*(x*(x+d))+d*d:=by grind
   omega
 . obtain⟨d,rfl⟩:=Nat.exists_eq_add_of_le h
   have:(y+d+y)*(y+d+y)=4*((y+d)*y)+d*d:=by grind
   omega
theorem Abo {l b x n1 n2 s:Nat} (h1:n1<l) (h2:n2<l) (M:x<=n1) (hs:s<=x):2*(s*((b+6)*(n1+n2-2*x)+1))<=l*l*(b+6)+2*l:=by
 by_cases O:n1+n2<=2*x
 . rw [show n1+n2-2*x=0 by omega]
   have:=zero_le (l*l*(b+6))
   omega
 . have z:2*(x*(n1+n2-2*x))<=l*l:=by
    have I:=Amc (2*x) (n1+n2-2*x)
    have J:2*x+(n1+n2-2*x)=n1+n2:=by omega
    rw [J]at I
    have S:(n1+n2)*(n1+n2)<=(2*l)*(2*l):=mul_le_mul (by omega) (by omega)
    have U:4*(2*x*(n1+n2-2*x))=4*(2*(x*(n1+n2-2*x))):=by rw [Nat.mul_assoc]
    have W:(2*l)*(2*l)=4*(l*l):=by grind
    omega
   have Y:s*((b+6)*(n1+n2-2*x))<=x*((b+6)*(n1+n2-2*x)):=mul_le_mul_right _ hs
   have Z:x*((b+6)*(n1+n2-2*x))=(x*(n1+n2-2*x))*(b+6):=by grind
   have e4:=mul_le_mul_right (b+6) z
   have e5:2*(x*(n1+n2-2*x))*(b+6)=2*(x*(n1+n2-2*x)*(b+6)):=by rw [Nat.mul_assoc]
   rw [Nat.mul_add,Nat.mul_one]
   omega
noncomputable def Dv (d f:List Int):Prop:=∃(c:Int) (u:List Int),c≠0/\∀i,c*co f i=mu u (co d) i
theorem Mv (a:Int) (u:List Int) (f:Nat->Int) (i:Nat):mu (u.map (a* ·)) f i=a*mu u f i:=congrFun (Jj f a u) i
theorem J8 {f g:Nat->Int} (h:∀i,f i=g i) (p:List Int) (i:Nat):mu p f i=mu p g i:=by
 have:f=g:=funext h
 rw [this]
theorem Dv.nil (d:List Int):Dv d []:=⟨1,[],by decide,fun i=>by rw [Bu];rfl⟩
theorem Dv.refl (d:List Int):Dv d d:=⟨1,[1],by decide,fun i=>by
 show 1*co d i=1*co d i+sh (mu [] (co d)) i
 have:sh (mu [] (co d)) i=0:=by cases i<;>rfl
 omega⟩
theorem Dv.congr {d f g:List Int} (h:Dv d f) (e:∀i,co f i=co g i):Dv d g:=by
 obtain⟨c,u,z,I⟩:=h
 exact⟨c,u,z,fun i=>by rw [<-e];exact I i⟩
theorem Dv.trans {d f g:List Int} (h1:Dv d f) (h2:Dv f g):Dv d g:=by
 obtain⟨c,u,z,I⟩:=h1
 obtain⟨e,v,J,hv⟩:=h2
 refine⟨c*e,ml v u,mul_ne_zero z J,fun i=> ?_⟩
 rw [Mw]
 have:mu v (fun k=>c*co f k) i=c*mu v (co f) i:=congrFun (Jx v c (co f)) i
 rw [<-J8 I v i,this,<-hv]
 rw [mul_assoc]
theorem Dv.comb {d f g h:List Int} (J:Dv d f) (M:Dv d g) {k:Int} (O:k≠0) {a b:List Int} (e:∀i,k*co h i=mu a (co f) i+mu b (co g) i):Dv d h:=by
 obtain⟨c,u,S,U⟩:=J
 obtain⟨z,v,I,hv⟩:=M
 refine⟨c*z*k,al ((ml a u).map (z* ·)) ((ml b v).map (c* ·)),mul_ne_zero (mul_ne_zero S I) O,fun i=> ?_⟩
 rw [Sh]
 dsimp only
 rw [Mv,Mv,Mw,Mw]
 have W:mu a (mu u (co d)) i=c*mu a (co f) i:=by
  rw [<-J8 U a i]
  exact congrFun (Jx a c (co f)) i
 have Y:mu b (mu v (co d)) i=z*mu b (co g) i:=by
  rw [<-J8 hv b i]
  exact congrFun (Jx b z (co g)) i
 rw [W,Y,mul_assoc,e]
 grind
theorem Dv.zero {f:List Int} (I:Tr f) (h:Dv [] f):f=[]:=by
 obtain⟨c,u,J,M⟩:=h
 refine I.ext (.inl rfl) fun i=> ?_
 have:=M i
 have e:mu u (co []) i=0:=by
  have:mu u (fun _=>0) i=0:=congrFun (Jk u) i
  rw [<-this]
  exact J8 (fun k=>Bu k) u i
 rw [e]at this
 rw [Bu]
 rcases mul_eq_zero.mp this with z | z
 . exact absurd z J
 . exact z
theorem Dv.scale {d f g:List Int} (h:Dv d f) {a b:Int} (z:b≠0) (e:∀i,b*co g i=a*co f i):Dv d g:=by
 obtain⟨c,u,I,J⟩:=h
 refine⟨c*b,u.map (a* ·),mul_ne_zero I z,fun i=> ?_⟩
 rw [Mv,<-J,mul_assoc,e]
 grind
theorem Dv.len {d f:List Int} (U:Tr d) (O:Tr f) (n:f≠ []) (h:Dv d f):d≠ []/\d.length<=f.length:=by
 have I:d≠ []:=fun z=>by rw [z]at h;exact n (h.zero O)
 refine⟨I,?_⟩
 obtain⟨c,u,W,Y⟩:=h
 have J:∀i,co (tm u d) i=c*co f i:=fun i=>by rw [Em,Y]
 have S:tm u d≠ []:=fun z=>by
  have:=J (f.length-1)
  rw [z,Bu]at this
  rcases mul_eq_zero.mp this.symm with q | q
  . exact W q
  . exact O.lead n q
 have M:trim u≠ []:=fun z=>S (by
  refine(Il u d).ext (.inl rfl) fun i=> ?_
  rw [Em,<-congrFun (Cv (co d) _ _ (Bq u)) i,z,Bu]
  rfl)
 have Z:tm u d=tm (trim u) d:=(Il _ _).ext (Il _ _) fun i=>by rw [Em,Em,congrFun (Cv (co d) _ _ (Bq u)) i]
 have l1:=T7 (Cp u) U M I
 have l2:(tm u d).length<=f.length:=by
  refine le_of_not_lt fun z=> ?_
  have:=(Il u d).lead S
  rw [J,Bl (by omega)]at this
  simp at this
 have l3:=length_pos_iff.mpr M
 rw [Z]at l2
 omega
structure Gc (p q g:List Int):Prop where
 tr:Tr g
 pl:pln g=g
 one:Dv g p
 two:Dv g q
 all:∀d,Dv d p->Dv d q->Dv d g
theorem Gc.symm {p q g:List Int} (h:Gc p q g):Gc q p g:=⟨h.tr,h.pl,h.two,h.one,fun d a b=>h.all d b a⟩
theorem Afu {g:List Int} (z:Tr g) (n:g≠ []) (e:pln g=g):0<co g (g.length-1):=by
 have:=Ph z n
 rw [e]at this
 exact this
theorem Al5 {g h:List Int} (tg:Tr g) (th:Tr h) (S:pln g=g) (ph:pln h=h) (a:Dv g h) (b:Dv h g):g=h:=by
 by_cases n:g=[]
 . subst n
   exact(a.zero th).symm
 . have M:h≠ []:=fun z=>by rw [z]at b;exact n (b.zero tg)
   have l1:=(a.len tg th M).2
   have l2:=(b.len th tg n).2
   obtain⟨c,u,U,hu⟩:=a
   have I:∀i,co (tm u g) i=c*co h i:=fun i=>by rw [Em,hu]
   have W:tm u g≠ []:=fun z=>by
    have:=I (h.length-1)
    rw [z,Bu]at this
    rcases mul_eq_zero.mp this.symm with q | q
    . exact U q
    . exact th.lead M q
   have J:trim u≠ []:=fun z=>W (by
    refine(Il u g).ext (.inl rfl) fun i=> ?_
    rw [Em,<-congrFun (Cv (co g) _ _ (Bq u)) i,z,Bu]
    rfl)
   have Y:tm u g=tm (trim u) g:=(Il _ _).ext (Il _ _) fun i=>by rw [Em,Em,congrFun (Cv (co g) _ _ (Bq u)) i]
   have l3:=T7 (Cp u) tg J n
   have l4:(tm u g).length<=h.length:=by
    refine le_of_not_lt fun z=> ?_
    have:=(Il u g).lead W
    rw [I,Bl (by omega)]at this
    simp at this
   rw [Y]at l4
   have l5:=length_pos_iff.mpr J
   have lu:(trim u).length=1:=by omega
   obtain⟨k,Z⟩:∃k,trim u=[k]:=by
    match hm:trim u,lu with
    | [k],_=>exact⟨k,rfl⟩
   have O:k≠0:=by
    have:=(Cp u).lead J
    rw [Z]at this
    exact this
   have eq:∀i,k*co g i=c*co h i:=fun i=>by
    rw [<-I,Y,Em,Z]
    show k*co g i=k*co g i+sh (mu [] (co g)) i
    have:sh (mu [] (co g)) i=0:=by cases i<;>rfl
    omega
   have q1:Prim g:=by have:=K3 tg n;rw [S]at this;exact this
   have q2:Prim h:=by have:=K3 th M;rw [ph]at this;exact this
   have r:=Aas O U q1 q2 eq (Afu tg n S) (fun i hi=>Bl (by omega)) (Afu th M ph) (fun i hi=>Bl (by omega))
   exact tg.ext th r.2
theorem Gc.uniq {p q g h:List Int} (a:Gc p q g) (b:Gc p q h):g=h:=Al5 a.tr b.tr a.pl b.pl (b.all g a.one a.two) (a.all h b.one b.two)
theorem Aac {r:List Int} (z:Tr r):Dv (pln r) r/\Dv r (pln r):=by
 by_cases n:r=[]
 . subst n
   exact⟨Dv.nil _,Dv.refl _⟩
 . have h:=Ow z n
   have I:=Zq z n
   exact⟨(Dv.refl (pln r)).scale (a:=un r) (b:=1) (by decide) fun i=>by rw [h];omega,(Dv.refl r).scale (a:=1) (b:=un r) I fun i=>by rw [h];omega⟩
theorem U8 {r:List Int} (z:Tr r):pln (pln r)=pln r:=by
 by_cases n:r=[]
 . subst n;rfl
 . exact(Aqz (Ol z) (Zq z n) z fun k=>(Ow z n k).symm).symm
noncomputable def Ln (f g p q:List Int):Prop:=∀d,(Dv d f/\Dv d g)↔(Dv d p/\Dv d q)
theorem Ln.refl (f g:List Int):Ln f g f g:=fun _=>Iff.rfl
theorem Ln.trans {f g p q r s:List Int} (h:Ln f g p q) (k:Ln p q r s):Ln f g r s:=fun d=>(h d).trans (k d)
theorem Oc {f g t q:List Int}{L k:Int} (z:L≠0) (I:k≠0) (e:∀i,L*co f i=k*co t i+mu q (co g) i):Ln g t f g:=fun d=>by
 constructor
 . rintro⟨a,b⟩
   refine⟨Dv.comb a b z (a:=q) (b:=[k]) fun i=> ?_,a⟩
   rw [e]
   have:mu [k] (co t) i=k*co t i:=by
    show k*co t i+sh (mu [] (co t)) i=_
    have:sh (mu [] (co t)) i=0:=by cases i<;>rfl
    omega
   rw [this]
   omega
 . rintro⟨a,b⟩
   refine⟨b,Dv.comb a b I (a:=[L]) (b:=q.map (-1* ·)) fun i=> ?_⟩
   rw [Mv]
   have:mu [L] (co f) i=L*co f i:=by
    show L*co f i+sh (mu [] (co f)) i=_
    have:sh (mu [] (co f)) i=0:=by cases i<;>rfl
    omega
   rw [this,e]
   omega
theorem Akd {f p q:List Int} (z:Tr f) (h:Ln f [] p q):Gc p q (pln f):=by
 have⟨a,b⟩:=Aac z
 have⟨c,d⟩:=(h (pln f)).mp ⟨a,Dv.nil _⟩
 exact⟨Ol z,U8 z,c,d,fun x I J=>((h x).mpr ⟨I,J⟩).1.trans b⟩
theorem O8 (c:Int) (z:c≠0) (f:List Int):Dv [c] f:=⟨c,f,z,fun i=>by
 have e:mu f (fun i=>c*if i=0 then 1 else 0) i=c*mu f (fun i=>if i=0 then 1 else 0) i:=congrFun (Jx f c _) i
 have:co [c]=fun i=>c*if i=0 then 1 else 0:=by
  funext i
  cases i with
  | zero=>rw [Bp];simp
  | succ i=>rw [Bm,Bu];simp
 rw [this,e,Aal]⟩
theorem Ah3 {f p q:List Int}{c:Int} (z:c≠0) (h:Ln f [c] p q):Gc p q (pln [c]):=by
 have tc:Tr [c]:= .inr ⟨by simp,by simpa using z⟩
 have⟨a,b⟩:=Aac tc
 have u:∀x,Dv (pln [c]) x:=fun x=>a.trans (O8 c z x)
 exact⟨Ol tc,U8 tc,u p,u q,fun x I J=>((h x).mpr ⟨I,J⟩).2.trans b⟩
theorem Aft:∀(d n:Nat) (f:Nat->Nat),(∀i,i<n->f i<d)->(∀i j,i<n->j<n->f i=f j->i=j)->n<=d
 | 0,n,f,h,_=>by
   refine le_of_not_lt fun z=> ?_
   exact absurd (h 0 (by omega)) (Nat.not_lt_zero _)
 | d+1,n,f,h,inj=>by
   by_cases J:∃i,i<n/\f i=d
   . obtain⟨I,M,O⟩:=J
     have:=Aft d (n-1) (fun k=>f (if k<I then k else k+1)) (fun i hi=>by
      have a:=h (if i<I then i else i+1) (by split<;>omega)
      have b:f (if i<I then i else i+1)≠d:=fun z=>by
       have:=inj _ _ (by split<;>omega) M (z.trans O.symm)
       split at this<;>omega
      omega) (fun i j hi S e=>by
      have:=inj _ _ (by split<;>omega) (by split<;>omega) e
      split at this<;>split at this<;>omega)
     omega
   . have:=Aft d n f (fun i hi=>by
      have a:=h i hi
      have b:f i≠d:=fun z=>J ⟨i,hi,z⟩
      omega) inj
     omega
noncomputable def pm (m:Nat):Nat->Nat->Nat->Nat
 | 0,_,_=>1%m
 | k+1,b,e=>if e%2=1 then b*pm m k (b*b%m) (e/2)%m else pm m k (b*b%m) (e/2)%m
theorem Ank (m:Nat):∀(k b e:Nat),e<2^k->pm m k b e=b^e%m
 | 0,b,e,h=>by
   have:e=0:=by simp at h;exact h
   subst this
   simp [pm]
 | k+1,b,e,h=>by
   have h2:e/2<2^k:=by rw [Nat.pow_succ]at h;omega
   have z:=Ank m k (b*b%m) (e/2) h2
   have I:(b*b%m)^(e/2)%m=(b*b)^(e/2)%m:=(Nat.pow_mod (b*b) (e/2) m).symm
   have J:(b*b)^(e/2)=b^(2*(e/2)):=by rw [pow_mul,Nat.pow_succ,pow_one]
   rw [pm,z,I,J]
   by_cases o:e%2=1
   . rw [if_pos o]
     have M:b^e=b*b^(2*(e/2)):=by
      rw [<-Nat.pow_succ']
      congr 1
      omega
     rw [M]
     rw [Nat.mul_mod b (b^(2*(e/2))%m),Nat.mod_mod,<-Nat.mul_mod]
   . rw [if_neg o,Nat.mod_mod]
     congr 2
     omega
section
variable {d g:Nat}
noncomputable def Lv (d g e:Nat):Prop:=∃k:Int,((g^e:Nat):Int)=1+d*k
theorem Lv.mul {a b:Nat} (z:Lv d g a) (I:Lv d g b):Lv d g (a+b):=by
 obtain⟨x,J⟩:=z
 obtain⟨y,M⟩:=I
 refine⟨x+y+d*x*y,?_⟩
 rw [pow_add,natCast_mul,J,M]
 grind
theorem Lv.many {a:Nat} (z:Lv d g a):∀n,Lv d g (n*a)
 | 0=>⟨0,by simp⟩
 | n+1=>by
   rw [add_mul,one_mul]
   exact(z.many n).mul z
theorem Lv.diff {a b:Nat} (z:Lv d g a) (I:Lv d g (a+b)):Lv d g b:=by
 obtain⟨x,J⟩:=z
 obtain⟨y,M⟩:=I
 refine⟨y-x*(g^b:Nat),?_⟩
 rw [pow_add,natCast_mul,J]at M
 grind
theorem Lv.gcd {a:Nat}:∀ {b:Nat},Lv d g a->Lv d g b->Lv d g (Nat.gcd a b):=fun {b}=>by
 induction a using strongRecOn generalizing b with
 | _ a M=>
   intro J I
   by_cases z:a=0
   . subst z;rw [Nat.gcd_zero_left];exact I
   . rw [Nat.gcd_rec]
     have h1:Lv d g (b%a):=by
      have:=div_add_mod b a
      rw [<-this]at I
      refine Lv.diff (a:=a*(b/a)) ?_ I
      rw [Nat.mul_comm]
      exact J.many _
     exact M (b%a) (mod_lt _ (by omega)) h1 J
end
theorem Ajb {f:Nat} (h:∀r,r<=f->r∣f->r=1\/r=f) (J:0<f) {r:Nat} (h2:2<=r) (I:r∣f):r=f:=by
 rcases h r (le_of_dvd J I) I with z | z
 . omega
 . exact z
noncomputable def M61:Nat:=2305843009213693951
set_option maxRecDepth 100000 in
theorem Amo {d:Nat} (h:d∣M61) (h1:1<d):d=M61:=by
 have U:0<d:=by omega
 have O:Lv d 37 (M61-1):=by
  have e:pm M61 61 37 (M61-1)=1:=by decide+kernel
  rw [Ank M61 61 37 (M61-1) (by decide)]at e
  obtain⟨t,M⟩:=h
  refine⟨(t*(37^(M61-1)/M61):Nat),?_⟩
  have q:=div_add_mod (37^(M61-1)) M61
  rw [e]at q
  have Z:((37^(M61-1):Nat):Int)=((M61*(37^(M61-1)/M61)+1:Nat):Int):=by rw [q]
  rw [Z]
  generalize 37^(M61-1)/M61=z
  have S:((M61:Nat):Int)=(d:Int)*t:=by rw [<-natCast_mul,<-M]
  rw [natCast_add,natCast_mul,S,natCast_mul]
  grind
 have W:∀f:Nat,f∣M61-1->Nat.gcd (pm M61 61 37 ((M61-1)/f)+(M61-1)) M61=1->¬Lv d 37 ((M61-1)/f):=fun f hf hg hl=>by
  have lt:(M61-1)/f<2^61:=lt_of_le_of_lt (div_le_self _ _) (by decide)
  rw [Ank M61 61 37 _ lt]at hg
  obtain⟨k,hk⟩:=hl
  have hd:d∣37^((M61-1)/f)%M61+(M61-1):=by
   obtain⟨t,M⟩:=h
   have q:=div_add_mod (37^((M61-1)/f)) M61
   generalize 37^((M61-1)/f)=w at*
   have S:((M61:Nat):Int)=(d:Int)*t:=by rw [<-natCast_mul,<-M]
   have m1:1<=M61:=by decide
   have:((d:Nat):Int)∣((w%M61+(M61-1):Nat):Int):=by
    refine⟨k+t-t*((w/M61:Nat):Int),?_⟩
    have Z:(w:Int)=(d:Int)*t*((w/M61:Nat):Int)+((w%M61:Nat):Int):=by
     rw [<-S,<-natCast_mul,<-natCast_add,q]
    have q3:((w%M61+(M61-1):Nat):Int)=((w%M61:Nat):Int)+(M61:Int)-1:=by omega
    rw [q3,S]
    grind
   exact natCast_dvd_natCast.mp this
  have:=Nat.dvd_gcd hd h
  rw [hg]at this
  have:=le_of_dvd (by decide) this
  omega
 have inj:∀i j,i<j->j<M61-1->37^i%d≠37^j%d:=fun i j a4 hj e=>by
  have l1:Lv d 37 (j-i):=by
   have l2:Lv d 37 (M61-1+(j-i)):=by
    obtain⟨x,hx⟩:=O
    have q1:=div_add_mod (37^i) d
    have Z:=div_add_mod (37^j) d
    rw [e]at q1
    have a0:((37^j:Nat):Int)=((37^i:Nat):Int)+d*(((37^j/d:Nat):Int)-((37^i/d:Nat):Int)):=by
     have a1:((37^i:Nat):Int)=d*((37^i/d:Nat):Int)+((37^j%d:Nat):Int):=by
      rw [<-natCast_mul,<-natCast_add,q1]
     have a2:((37^j:Nat):Int)=d*((37^j/d:Nat):Int)+((37^j%d:Nat):Int):=by
      rw [<-natCast_mul,<-natCast_add,Z]
     rw [a1,a2]
     grind
    have e1:37^(M61-1+(j-i))=37^(M61-1-i)*37^j:=by
     rw [<-pow_add]
     congr 1
     omega
    have e2:37^(M61-1)=37^(M61-1-i)*37^i:=by
     rw [<-pow_add]
     congr 1
     omega
    refine⟨x+((37^(M61-1-i):Nat):Int)*(((37^j/d:Nat):Int)-((37^i/d:Nat):Int)),?_⟩
    rw [e1,natCast_mul,a0]
    rw [e2,natCast_mul]at hx
    grind
   exact O.diff l2
  have l3:=Lv.gcd O l1
  have gd:Nat.gcd (M61-1) (j-i)∣M61-1:=Nat.gcd_dvd_left _ _
  have a5:Nat.gcd (M61-1) (j-i)<=j-i:=le_of_dvd (by omega) (Nat.gcd_dvd_right _ _)
  obtain⟨t,M⟩:=gd
  generalize Nat.gcd (M61-1) (j-i)=e at*
  have t1:t≠1:=fun z=>by rw [z]at M;omega
  obtain⟨r,r2,rd,J⟩:=Aat t t1
  have rM:r∣M61-1:=by rw [M];exact Nat.dvd_trans rd (Nat.dvd_mul_left _ _)
  have l4:Lv d 37 ((M61-1)/r):=by
   obtain⟨s,hs⟩:=rd
   have:(M61-1)/r=s*e:=by
    rw [M,hs,show e*(r*s)=r*(s*e)by grind]
    exact mul_div_cancel_left _ (by omega)
   rw [this]
   exact l3.many s
  have a3:((M61-1:Nat):Int)=2*(3*(3*(5*(5*(7*(11*(13*(31*(41*(61*(151*(331*1321)))))))))))):=by decide
  have Y:(r:Int)∣((M61-1:Nat):Int):=natCast_dvd_natCast.mpr rM
  rw [a3]at Y
  have dn:∀ {f:Nat},(r:Int)∣(f:Nat)->r∣f:=fun h=>natCast_dvd_natCast.mp h
  have I:∀ {f:Nat},(r:Int)∣(f:Nat)->(∀r,r<=f->r∣f->r=1\/r=f)->0<f->f∣M61-1->Nat.gcd (pm M61 61 37 ((M61-1)/f)+(M61-1)) M61=1->False:=fun hd hs hf hm hg=>by
   have:=Ajb hs hf r2 (dn hd)
   subst this
   exact W _ hm hg l4
  rcases J _ _ Y with z | z
  . exact I (f:=2) z (by decide) (by decide) (by decide) (by decide+kernel)
  rcases J _ _ z with z | z
  . exact I (f:=3) z (by decide) (by decide) (by decide) (by decide+kernel)
  rcases J _ _ z with z | z
  . exact I (f:=3) z (by decide) (by decide) (by decide) (by decide+kernel)
  rcases J _ _ z with z | z
  . exact I (f:=5) z (by decide) (by decide) (by decide) (by decide+kernel)
  rcases J _ _ z with z | z
  . exact I (f:=5) z (by decide) (by decide) (by decide) (by decide+kernel)
  rcases J _ _ z with z | z
  . exact I (f:=7) z (by decide) (by decide) (by decide) (by decide+kernel)
  rcases J _ _ z with z | z
  . exact I (f:=11) z (by decide) (by decide) (by decide) (by decide+kernel)
  rcases J _ _ z with z | z
  . exact I (f:=13) z (by decide) (by decide) (by decide) (by decide+kernel)
  rcases J _ _ z with z | z
  . exact I (f:=31) z (by decide) (by decide) (by decide) (by decide+kernel)
  rcases J _ _ z with z | z
  . exact I (f:=41) z (by decide) (by decide) (by decide) (by decide+kernel)
  rcases J _ _ z with z | z
  . exact I (f:=61) z (by decide) (by decide) (by decide) (by decide+kernel)
  rcases J _ _ z with z | z
  . exact I (f:=151) z (by decide) (by decide) (by decide) (by decide+kernel)
  rcases J _ _ z with z | z
  . exact I (f:=331) z (by decide+kernel) (by decide) (by decide) (by decide+kernel)
  . exact I (f:=1321) z (by decide+kernel) (by decide) (by decide) (by decide+kernel)
 have big:M61-1<=d:=by
  refine Aft d (M61-1) (fun i=>37^i%d) (fun i _=>mod_lt _ U) fun i j hi hj e=> ?_
  rcases Nat.lt_trichotomy i j with z | z | z
  . exact absurd e (inj i j z hj)
  . exact z
  . exact absurd e.symm (inj j i z hi)
 obtain⟨t,M⟩:=h
 have t1:t=1:=by
  have:t<2:=by
   refine lt_of_not_le fun z=> ?_
   have:=mul_le_mul big z
   rw [<-M]at this
   exact absurd this (by decide)
  have:t≠0:=fun z=>by rw [z,Nat.mul_zero]at M;exact absurd M (by decide)
  omega
 rw [t1]at M
 omega
theorem Amp {a:Int} (h:¬(2305843009213693951:Int)∣a):Int.gcd a 2305843009213693951=1:=by
 have h1:Int.gcd a 2305843009213693951∣M61:=by
  have:=gcd_dvd_right a 2305843009213693951
  exact natCast_dvd_natCast.mp this
 by_cases z:Int.gcd a 2305843009213693951=1
 . exact z
 . exfalso
   have p:0<Int.gcd a 2305843009213693951:=Int.gcd_pos_of_ne_zero_right _ (by decide)
   have e:=Amo h1 (by omega)
   have:=gcd_dvd_left a 2305843009213693951
   rw [e]at this
   exact h this
theorem Alx (j:Nat) (p:List Int) (i:Nat):co (replicate j 0++p) i=if j<=i then co p (i-j)else 0:=by
 unfold co
 rw [getD_eq_getElem?_getD,getD_eq_getElem?_getD]
 by_cases h:j<=i
 . rw [if_pos h,getElem?_append_right (by rw [length_replicate];exact h),length_replicate]
 . rw [if_neg h,getElem?_append_left (by rw [length_replicate];omega),getElem?_replicate]
   split<;>rfl
theorem Uy (c:Int) (j:Nat) (f:Nat->Int) (i:Nat):mu (replicate j 0++ [c]) f i=if j<=i then c*f (i-j)else 0:=by
 rw [Lw,Tj,length_replicate,zero_add]
noncomputable def Dm (t:Int) (d f:List Int):Prop:=∃u:List Int,∀i,t∣co f i-mu u (co d) i
theorem Amt (p:List Int) (f g:Nat->Int) (i:Nat):mu p f i-mu p g i=mu p (fun k=>f k-g k) i:=by
 have h1:=congrFun (Mu p (fun k=>f k-g k) g) i
 have h2:(fun k=>f k-g k+g k)=f:=by funext k;omega
 rw [h2]at h1
 omega
theorem Yo {t:Int}{f g:Nat->Int} (h:∀i,t∣f i-g i) (p:List Int) (i:Nat):t∣mu p f i-mu p g i:=by
 rw [Amt]
 exact Aew t p _ i fun j _=>h j
theorem Aad {t a b c:Int} (h1:t∣a-b) (h2:t∣b-c):t∣a-c:=by
 have:=dvd_add h1 h2
 rw [show a-b+(b-c)=a-c by omega]at this
 exact this
theorem Uo {t a b:Int} (h:t∣a-b):t∣b-a:=by
 have:=(dvd_neg (a:=t) (b:=a-b)).mpr h
 rw [show-(a-b)=b-a by omega]at this
 exact this
theorem Dm.nil (t:Int) (d:List Int):Dm t d []:=⟨[],fun i=>by
 rw [Bu]
 exact⟨0,by simp [mu]⟩⟩
theorem Dm.comb {t:Int}{d f g h:List Int} (z:Dm t d f) (I:Dm t d g) {a b:List Int} (e:∀i,t∣co h i-(mu a (co f) i+mu b (co g) i)):Dm t d h:=by
 obtain⟨u,J⟩:=z
 obtain⟨v,hv⟩:=I
 refine⟨al (ml a u) (ml b v),fun i=> ?_⟩
 rw [Sh]
 dsimp only
 rw [Mw,Mw]
 have h1:=Yo J a i
 have h2:=Yo hv b i
 have M:=dvd_add h1 h2
 refine Aad (e i) ?_
 rw [show mu a (co f) i+mu b (co g) i-(mu a (mu u (co d)) i+mu b (mu v (co d)) i)=mu a (co f) i-mu a (mu u (co d)) i+(mu b (co g) i-mu b (mu v (co d)) i)by omega]
 exact M
theorem As2 (k:Int) (f:Nat->Int) (i:Nat):mu [k] f i=k*f i:=by
 show k*f i+sh (mu [] f) i=_
 have:sh (mu [] f) i=0:=by cases i<;>rfl
 omega
theorem Dm.by {t:Int}{d f g:List Int} (h:Dm t d f) {k:Int} (e:∀i,t∣co g i-k*co f i):Dm t d g:=
 Dm.comb h (Dm.nil t d) (a:=[k]) (b:=[]) fun i=>by
  rw [As2]
  have:mu [] (co []) i=0:=rfl
  rw [this,add_zero]
  exact e i
theorem Dm.congr {t:Int}{d f g:List Int} (h:Dm t d f) (e:∀i,t∣co g i-co f i):Dm t d g:=h.by (k:=1) fun i=>by rw [Int.one_mul];exact e i
theorem Dm.trans {t:Int}{d f g:List Int} (h1:Dm t d f) (h2:Dm t f g):Dm t d g:=by
 obtain⟨v,hv⟩:=h2
 exact Dm.comb h1 (Dm.nil t d) (a:=v) (b:=[]) fun i=>by
  have:mu [] (co []) i=0:=rfl
  rw [this,add_zero]
  exact hv i
noncomputable def Ali (t:Int) (f g p q:List Int):Prop:=∀d,(Dm t d f/\Dm t d g)↔(Dm t d p/\Dm t d q)
theorem Acf {t:Int}{f g r u:List Int} (e:∀i,t∣co f i-(mu u (co g) i+co r i)):Ali t g r f g:=fun d=>by
 constructor
 . rintro⟨a,b⟩
   refine⟨Dm.comb a b (a:=u) (b:=[1]) fun i=> ?_,a⟩
   rw [As2,Int.one_mul]
   exact e i
 . rintro⟨a,b⟩
   refine⟨b,Dm.comb a b (a:=[1]) (b:=u.map (-1* ·)) fun i=> ?_⟩
   rw [As2]
   have:mu (u.map (-1* ·)) (co g) i= -1*mu u (co g) i:=congrFun (Jj (co g) (-1) u) i
   rw [this]
   have h:=Uo (e i)
   rw [show co r i-(1*co f i+ -1*mu u (co g) i)=mu u (co g) i+co r i-co f i by omega]
   exact h
noncomputable def Pr (t:Int):Prop:=1<t/\∀a:Int,¬t∣a->Int.gcd a t=1
theorem Pr.or {t:Int} (h:Pr t) {a b:Int} (d:t∣a*b):t∣a\/t∣b:=by
 by_cases z:t∣a
 . exact .inl z
 . have c:Coprime t.natAbs a.natAbs:=by
    have:=h.2 a z
    rw [gcd_comm]at this
    exact this
   have I:t.natAbs∣a.natAbs*b.natAbs:=by
    rw [<-natAbs_mul]
    exact natAbs_dvd_natAbs.mpr d
   exact .inr (natAbs_dvd_natAbs.mp (c.dvd_of_dvd_mul_left I))
theorem Tf {e p:List Int} (te:Tr e) (ne:e≠ []) (Z:Prim e) (h:Dv e p):Exact p e:=by
 obtain⟨c,u,hc,O⟩:=h
 have J:∀k,c∣co u k:=by
  by_cases S:∀k,co u k=0
  . intro k;rw [S k];exact dvd_zero _
  . have U:trim u≠ []:=fun z=>S fun k=>by rw [<-Bq,z,Bu]
    have W:=Cp u
    have pp:=K3 W U
    have up:=Ow W U
    have pr:Prim (tm (pln (trim u)) e):=Asy pp Z fun k=>Em _ _ k
    have d1:∀k,c∣un (trim u)*co (tm (pln (trim u)) e) k:=fun k=>by
     refine⟨co p k,?_⟩
     rw [O,Em]
     have M:mu u (co e) k=mu (trim u) (co e) k:=(congrFun (Cv (co e) _ _ (Bq u)) k).symm
     have I:mu ((pln (trim u)).map (un (trim u)* ·)) (co e) k=un (trim u)*mu (pln (trim u)) (co e) k:=congrFun (Jj (co e) (un (trim u)) _) k
     rw [M,<-I]
     refine congrFun (Cv (co e) _ _ fun i=> ?_) k
     rw [Du,up]
    have Y:=Mq d1
    rw [pr.gl]at Y
    intro k
    rw [<-Bq,<-up k]
    have:c∣un (trim u):=by simpa using Y
    exact dvd_trans this (dvd_mul_right _ _)
 refine⟨u.map (· /c),fun k=> ?_⟩
 have M:mu ((u.map (· /c)).map (c* ·)) (co e) k=c*mu (u.map (· /c)) (co e) k:=congrFun (Jj (co e) c _) k
 have I:mu ((u.map (· /c)).map (c* ·)) (co e) k=mu u (co e) k:=congrFun (Cv (co e) _ _ fun i=>by
  rw [Du,Qk (f:=(· /c)) (Int.zero_ediv c)]
  exact Int.mul_ediv_cancel' (J i)) k
 rw [M,<-O]at I
 exact(eq_of_mul_eq_mul_left hc I).symm
theorem apart {t:Int} (J:Pr t) {p q:List Int} (tp:Tr p) (np:p≠ []) (hl:¬t∣co p (p.length-1)) (h:∀d,Dm t d p->Dm t d q->Dm t d [1]):Gc p q [1]:=by
 have t1:Tr [1]:= .inr ⟨by simp,by decide⟩
 have p1:pln [1]=[1]:=by decide
 refine⟨t1,p1,O8 1 (by decide) p,O8 1 (by decide) q,fun d dp dq=> ?_⟩
 have S:Dv (trim d) d/\Dv d (trim d):=⟨(Dv.refl (trim d)).congr fun i=>Bq d i,(Dv.refl d).congr fun i=>(Bq d i).symm⟩
 have U:=Cp d
 have nd:trim d≠ []:=fun z=>by
  have:=S.1.trans dp
  rw [z]at this
  exact np (this.zero tp)
 have⟨pa,pb⟩:=Aac U
 have te:=Ol U
 have ne:pln (trim d)≠ []:=fun z=>by
  have:=Lx (trim d)
  rw [z,length_nil]at this
  exact nd (eq_nil_of_length_eq_zero this.symm)
 have pe:=K3 U nd
 have de:Dv d (pln (trim d)):=S.2.trans pb
 have ed:Dv (pln (trim d)) d:=pa.trans S.1
 obtain⟨w,M⟩:=Tf te ne pe (ed.trans dp)
 obtain⟨w',W⟩:=Tf te ne pe (ed.trans dq)
 generalize pln (trim d)=e at*
 have m1:Dm t e p:=⟨w,fun i=>by rw [M,Int.sub_self];exact dvd_zero _⟩
 have m2:Dm t e q:=⟨w',fun i=>by rw [W,Int.sub_self];exact dvd_zero _⟩
 obtain⟨u,hu⟩:=h e m1 m2
 have le:¬t∣co e (e.length-1):=fun z=>hl (by
  have Y:trim w≠ []:=fun y=>by
   have:=tp.lead np
   rw [M,<-congrFun (Cv (co e) _ _ (Bq w)) _,y]at this
   exact this rfl
  have e1:p=tm (trim w) e:=tp.ext (Il _ _) fun i=>by rw [M,Em,congrFun (Cv (co e) _ _ (Bq w)) i]
  have l1:=T7 (Cp w) te Y ne
  have lw:=length_pos_iff.mpr Y
  have Z:=length_pos_iff.mpr ne
  rw [M,<-congrFun (Cv (co e) _ _ (Bq w)) _,Ux (trim w) e (p.length-1) Y ne (by rw [e1];omega)]
  exact dvd_trans z (Int.dvd_mul_left _ _))
 have l1:e.length=1:=by
  have Z:=length_pos_iff.mpr ne
  by_cases z:e.length=1
  . exact z
  . exfalso
    have cu:∀i,t∣co (u.map (· %t)) i-co u i:=fun i=>by
     rw [Qk (f:=(· %t)) (zero_emod t)]
     refine⟨-(co u i/t),?_⟩
     have:=mul_ediv_add_emod (co u i) t
     rw [mul_neg]
     omega
    have I:∀i,t∣co [1] i-mu (trim (u.map (· %t))) (co e) i:=fun i=>by
     refine Aad (hu i) ?_
     rw [congrFun (Cv (co e) _ _ (Bq (u.map (· %t)))) i,Gz u e,Gz (u.map (· %t)) e]
     exact Yo (fun k=>Uo (cu k)) e i
    by_cases un:trim (u.map (· %t))=[]
    . have:=I 0
      rw [un]at this
      have h1:t∣1:=by simpa [mu,Bp]using this
      have:=Int.le_of_dvd (by decide) h1
      have:=J.1
      omega
    . have lu:=length_pos_iff.mpr un
      have:=I ((trim (u.map (· %t))).length+e.length-2)
      rw [Ux _ e _ un ne (by omega),Bl (p:=[1]) (by show 1<=_;omega),Int.zero_sub]at this
      rcases J.or ((dvd_neg).mp this)with O | O
      . have ld:=(Cp (u.map (· %t))).lead un
        rw [Bq,Qk (f:=(· %t)) (zero_emod t)]at ld O
        have r0:=emod_nonneg (co u ((trim (u.map (· %t))).length-1)) (show t≠0 by have:=J.1;omega)
        have r1:=emod_lt_of_pos (co u ((trim (u.map (· %t))).length-1)) (show 0<t by have:=J.1;omega)
        have:=Int.le_of_dvd (by omega) O
        omega
      . exact le O
 match e,l1 with
 | [k],_=>
   have k0:k≠0:=by
    have:=te.lead ne
    exact this
   exact de.trans (O8 k k0 [1])
theorem Akv:Pr 2305843009213693951:=⟨by decide,fun _ h=>Amp h⟩
structure MV (m:Int) (p q qs rs:List Int) (j:Nat):Prop where
 eq:∀k,m∣co p k-(mu qs (co q) k+co rs k)
 top:∀k,j+q.length<=k+1->co rs k=0
 low:∀k,k<j->co qs k=0
 rq:∀k,0<=co qs k/\co qs k<m
 rr:∀k,0<=co rs k/\co rs k<m
theorem Yc (n k:Nat):co (replicate n (0:Int)) k=0:=by
 unfold co
 rw [getD_eq_getElem?_getD,getElem?_replicate]
 split<;>rfl
theorem MV.start {m:Int} (J:0<m) {p q rs:List Int} (z:q≠ []) (h:∀k,m∣co p k-co rs k) (I:∀k,0<=co rs k/\co rs k<m):MV m p q (replicate (rs.length+1-q.length) 0) rs (rs.length+1-q.length):=by
 have M:0<q.length:=length_pos_iff.mpr z
 refine⟨fun k=>by rw [Tj,zero_add];exact h k,fun k h=>Bl (by omega),fun k h=>Yc _ _,fun k=> ?_,I⟩
 rw [Yc]
 omega
theorem MV.step {m:Int} (W:0<m) {p q z rs:List Int}{j:Nat} (h:MV m p q z rs (j+1)) (Y:q≠ []) {f:Int} (Z:j<z.length) (f0:0<=f) (f1:f<m) (ef:m∣co rs (j+(q.length-1))-f*co q (q.length-1))
 {J:List Int} (M:∀k,co J k=(co rs k-(if j<=k then f*co q (k-j)else 0))%m):MV m p q (z.set j f) J j:=by
 have hl:0<q.length:=length_pos_iff.mpr Y
 have O:∀k,co (z.set j f) k=if k=j then f else co z k:=fun k=>Ql _ _ _ Z k
 have sp:∀k,co (z.set j f) k=co (al z (replicate j 0++ [f])) k:=fun k=>by
  rw [O,Hz,Gi,length_replicate]
  by_cases I:k=j
  . rw [if_pos I,if_pos I,I,h.low j (by omega)];simp
  . rw [if_neg I,if_neg I,Yc,add_zero]
 have md:∀x:Int,m∣x%m-x:=fun x=>⟨-(x/m),by
  have:=mul_ediv_add_emod x m
  rw [mul_neg]
  omega⟩
 refine⟨fun k=> ?_,fun k I=> ?_,fun k I=> ?_,fun k=> ?_,fun k=> ?_⟩
 . rw [Cv (co q) _ _ sp,Sh]
   dsimp only
   rw [Lw,Tj,length_replicate,M]
   have h1:=h.eq k
   have h2:=md (co rs k-(if j<=k then f*co q (k-j)else 0))
   have U:=Int.dvd_sub h1 h2
   generalize (co rs k-(if j<=k then f*co q (k-j)else 0))%m=y at*
   generalize (if j<=k then f*co q (k-j)else 0)=x at*
   have e:co p k-(mu z (co q) k+co rs k)-(y-(co rs k-x))=co p k-(mu z (co q) k+(0+x)+y):=by omega
   rw [e]at U
   exact U
 . rw [M,if_pos (by omega)]
   by_cases S:k=j+(q.length-1)
   . subst S
     rw [show j+(q.length-1)-j=q.length-1 by omega]
     exact Int.emod_eq_zero_of_dvd ef
   . rw [h.top k (by omega),Bl (show q.length<=k-j by omega)]
     simp
 . rw [O,if_neg (by omega),h.low k (by omega)]
 . rw [O]
   split
   . exact⟨f0,f1⟩
   . exact h.rq k
 . rw [M]
   exact⟨emod_nonneg _ (by omega),emod_lt_of_pos _ W⟩
theorem Ah8 {m r z l:Int} (h:z*l%m=1) (O:1<m):m∣r-(r*z%m)*l:=by
 have S:=mul_ediv_add_emod (r*z) m
 have I:=mul_ediv_add_emod (z*l) m
 rw [h]at I
 refine⟨(r*z/m)*l-r*(z*l/m),?_⟩
 have J:r*z%m=r*z-m*(r*z/m):=by omega
 rw [J]
 have M:r*z*l=r*(m*(z*l/m)+1):=by rw [I,mul_assoc]
 have:(r*z-m*(r*z/m))*l=r*z*l-m*(r*z/m)*l:=by grind
 rw [this,M]
 grind
theorem Pb {a b:Int} (h:0<b):a.fdiv (Int.gcd a b:Int)=(divInt a b).num/\b.fdiv (Int.gcd a b:Int)=((divInt a b).den:Int):=by
 have z:(0:Int)<=(Int.gcd a b:Int):=Int.natCast_nonneg _
 rw [fdiv_eq_ediv_of_nonneg _ z,fdiv_eq_ediv_of_nonneg _ z,Rat.num_divInt,Rat.den_divInt]
 rw [if_neg (by omega),Int.sign_eq_one_of_pos h,Int.one_mul,gcd_comm b a]
 refine⟨rfl,?_⟩
 rw [natCast_ediv]
 congr 1
 omega
theorem Aag {a b:Int} (h:b<0):a.fdiv (-(Int.gcd a b:Int))=(divInt a b).num/\b.fdiv (-(Int.gcd a b:Int))=((divInt a b).den:Int):=by
 have e:divInt a b=divInt (-a) (-b):=(Rat.neg_divInt_neg a b).symm
 have p:=Pb (a:= -a) (b:= -b) (by omega)
 have z:Int.gcd (-a) (-b)=Int.gcd a b:=by rw [Int.gcd_neg,Int.neg_gcd]
 rw [z]at p
 rw [e,<-p.1,<-p.2]
 constructor
 . rw [<-Int.neg_fdiv_neg (-a),Int.neg_neg]
 . rw [<-Int.neg_fdiv_neg (-b),Int.neg_neg]
theorem Avv (p q:Rat):divInt (p.num*q.den+q.num*p.den) (p.den*q.den)=p+q:=by
 rw [Rat.add_def',<-Rat.divInt_ofNat];congr 1
theorem Avw (p q:Rat):divInt (p.num*q.den-q.num*p.den) (p.den*q.den)=p-q:=by
 rw [Rat.sub_def',<-Rat.divInt_ofNat];congr 1
theorem Avb (p q:Rat):divInt (p.num*q.num) (p.den*q.den)=p*q:=by
 rw [Rat.mul_def',<-Rat.divInt_ofNat];congr 1
theorem Aqc (a b:Int):(divInt a b).num.natAbs<=a.natAbs:=by
 rw [Rat.num_divInt]
 refine le_trans (Int.natAbs_ediv_le_natAbs _ _) ?_
 rw [natAbs_mul]
 have:b.sign.natAbs<=1:=by
  rcases lt_trichotomy b 0 with h | h | h
  . rw [Int.sign_eq_neg_one_of_neg h];decide
  . subst h;decide
  . rw [Int.sign_eq_one_of_pos h];decide
 calc b.sign.natAbs*a.natAbs<=1*a.natAbs:=mul_le_mul_right _ this
  _=a.natAbs:=one_mul _
theorem Ao7 {a b:Int} (h:b≠0):(divInt a b).den<=b.natAbs:=by
 rw [Rat.den_divInt,if_neg h]
 exact div_le_self _ _
theorem abs_eq (i:Int):(if i<0 then-i else i)=((i.natAbs:Nat):Int):=by
 split<;>omega
theorem Ah4 (x y:Nat):Nat.gcd y (x%y)=Nat.gcd x y:=by
 rw [Nat.gcd_comm y (x%y),<-Nat.gcd_rec,Nat.gcd_comm]
theorem Aia (p q:Rat):(p.num*(q.den:Int)<q.num*(p.den:Int))=(p<q):=by
 rw [Rat.lt_iff]
noncomputable def sg (q:Rat):Int:=if q=0 then 0 else if 0<q then 1 else-1
end Z
theorem Atp (a:Int):0<=a*a:=by
 rcases Int.le_total 0 a with h | h
 . exact mul_nonneg h h
 . have:=mul_nonneg (Int.neg_nonneg_of_nonpos h) (Int.neg_nonneg_of_nonpos h)
   rwa [Int.neg_mul_neg]at this
theorem Aqb {n g:Int} (z:0<g) (I:0<=n):n<((g+n/g)/2+1)*((g+n/g)/2+1):=by
 have h1:n<g*(n/g+1):=by
  have:=Int.lt_mul_ediv_self_add (x:=n) z
  rw [mul_add,mul_one]
  exact this
 have J:0<=n/g:=ediv_nonneg I (le_of_lt z)
 generalize n/g=q at*
 have h2:g+q+1<=2*((g+q)/2+1):=by omega
 have M:0<=(g+q)/2+1:=by omega
 generalize (g+q)/2+1=c at*
 have O:(g+q+1)*(g+q+1)<=(2*c)*(2*c):=Int.mul_le_mul h2 h2 (by omega) (by omega)
 have S:=Atp (g-(q+1))
 grind
theorem Abt {n g:Int} (z:0<g) (h:¬(g+n/g)/2<g):g*g<=n:=by
 have h1:g<=n/g:=by omega
 have h2:g*(n/g)<=n:=Int.mul_ediv_self_le (by omega)
 exact Int.le_trans (mul_le_mul_of_nonneg_left h1 (by omega)) h2
theorem Abu {n g:Int} (z:0<g) (I:0<n):0<(g+n/g)/2\/¬(g+n/g)/2<g:=by
 by_cases h:g=1
 . subst h;rw [ediv_one];omega
 . have:=ediv_nonneg (le_of_lt I) (le_of_lt z)
   omega
theorem Agq {n:Int}{b:Nat} (J:0<=n) (h:n.natAbs<2^b):n<((2:Int)^((b+1)/2)+1)*(2^((b+1)/2)+1):=by
 have h1:(2:Nat)^b<=2^((b+1)/2)*2^((b+1)/2):=by
  rw [<-pow_add];exact pow_le_pow_right (by decide) (by omega)
 have e:((2:Int)^((b+1)/2))=((2^((b+1)/2):Nat):Int):=by simp
 rw [e]
 generalize 2^((b+1)/2)=t at*
 have h2:n.natAbs<t*t:=by omega
 have z:n<(t*t:Nat):=by omega
 have I:((t*t:Nat):Int)=(t:Int)*t:=by simp
 rw [I]at z
 have:(0:Int)<=t:=by omega
 grind
namespace Z
noncomputable def ev:List Int->Rat->Rat
 | [],_=>0
 | a::r,x=>(a:Rat)+x*ev r x
theorem Ye (x:Rat):∀(r:List Int),(∀i,co r i=0)->ev r x=0
 | [],_=>rfl
 | a::r,h0=>by
   have z:a=0:=by have:=h0 0;rwa [Bp]at this
   rw [ev,Ye x r fun i=>by have:=h0 (i+1);rwa [Bm]at this,z]
   simp [Rat.add_zero]
theorem Aae (x:Rat):∀(r s:List Int),(∀i,co r i=co s i)->ev r x=ev s x
 | [],s,h0=>(Ye x s fun i=>by rw [<-h0,Bu]).symm
 | a::r,[],h0=>Ye x (a::r) fun i=>by rw [h0,Bu]
 | a::r,b::s,h0=>by
   have z:a=b:=by have:=h0 0;rwa [Bp,Bp]at this
   subst z
   rw [ev,ev,Aae x r s fun i=>by have:=h0 (i+1);rwa [Bm,Bm]at this]
theorem Al7 (x:Rat):∀(p q:List Int),ev (al p q) x=ev p x+ev q x
 | [],q=>by simp [al,ev,Rat.zero_add]
 | a::p,[]=>by simp [al,ev,Rat.add_zero]
 | a::p,b::q=>by
   simp only [al,ev]
   rw [Al7 x p q,intCast_add]
   grind
theorem Aaf (x:Rat) (a:Int):∀q:List Int,ev (q.map (a* ·)) x=a*ev q x
 | []=>by simp [ev]
 | b::q=>by
   simp only [map_cons,ev]
   rw [Aaf x a q,intCast_mul]
   grind
theorem Al8 (x:Rat):∀(p q:List Int),ev (ml p q) x=ev p x*ev q x
 | [],q=>by simp [ml,ev]
 | a::p,q=>by
   simp only [ml,ev]
   rw [Al7,Aaf,ev,Al8 x p q]
   simp only [Rat.intCast_zero]
   grind
noncomputable def hv:List Int->Int->Int->Int
 | [],_,_=>0
 | w::r,t,b=>hv r t b*t+w*b^r.length
theorem Aed (x:Rat) (t b:Int) (I:x*(b:Rat)=(t:Rat)):∀p:List Int,(hv p t b:Rat)*(b:Rat)=ev p x*(b:Rat)^p.length
 | []=>by simp [hv,ev]
 | w::r=>by
   have z:=Aed x t b I r
   simp only [hv,ev,length_cons]
   rw [intCast_add,intCast_mul,intCast_mul,Rat.intCast_pow,Rat.pow_succ]
   generalize (hv r t b:Rat)=T at*
   generalize (b:Rat)^r.length=B at*
   generalize ev r x=E at*
   have J:T*(b:Rat)*(t:Rat)=E*B*(t:Rat):=by rw [z]
   have M:x*(b:Rat)*E*B=t*E*B:=by rw [I]
   grind
theorem Atc (q:Rat):q*(q.den:Rat)=(q.num:Rat):=by
 have J:(q.den:Rat)≠0:=fun z=>q.den_nz (by exact_mod_cast z)
 have e:=Rat.num_divInt_den q
 rw [divInt_eq_div,intCast_natCast]at e
 have I:(q.num:Rat)/(q.den:Rat)*(q.den:Rat)=(q.num:Rat):=by grind
 rw [e]at I
 exact I
noncomputable def dr (p:List Int):List Int:=(p.mapIdx fun i a=>(i:Int)*a).drop 1
theorem Adq (p:List Int) (i:Nat):co (p.mapIdx fun i a=>(i:Int)*a) i=(i:Int)*co p i:=by
 unfold co
 rw [getD_eq_getElem?_getD,getD_eq_getElem?_getD,List.getElem?_mapIdx]
 cases p[i]? <;>simp
theorem Aly (p:List Int) (i:Nat):co (p.drop 1) i=co p (i+1):=by
 unfold co
 rw [getD_eq_getElem?_getD,getD_eq_getElem?_getD,getElem?_drop,add_comm]
theorem Wj (p:List Int) (i:Nat):co (dr p) i=((i:Int)+1)*co p (i+1):=by
 rw [dr,Aly,Adq]
 congr 1
theorem G3 (p:List Int):(dr p).length=p.length-1:=by simp [dr]
theorem Al4 {p:List Int} (h:Tr p):Tr (dr p):=by
 by_cases I:p.length<=1
 . exact .inl (eq_nil_of_length_eq_zero (by rw [G3];omega))
 . refine .of (.inr ?_)
   rw [G3,Wj,show p.length-1-1+1=p.length-1 by omega]
   have:=h.lead (fun z=>by rw [z]at I;simp at I)
   exact mul_ne_zero (by omega) this
noncomputable def ei:List Int->Int->Int
 | [],_=>0
 | a::r,x=>a+x*ei r x
noncomputable def sd (c:Int):List Int->List Int
 | []=>[]
 | [_]=>[]
 | _::b::r=>ei (b::r) c::sd c (b::r)
theorem Ak4 (c:Int):∀p:List Int,(sd c p).length=p.length-1
 | []=>rfl
 | [_]=>rfl
 | _::b::r=>by
   rw [sd,length_cons,Ak4 c (b::r)]
   simp
theorem Ark (c x:Int):∀p:List Int,ei p x=ei p c+(x-c)*ei (sd c p) x
 | []=>by simp [ei,sd]
 | [a]=>by simp [ei,sd]
 | a::b::r=>by
   have z:=Ark c x (b::r)
   show a+x*ei (b::r) x=(a+c*ei (b::r) c)+(x-c)*(ei (b::r) c+x*ei (sd c (b::r)) x)
   rw [z]
   generalize ei (b::r) c=A
   generalize ei (sd c (b::r)) x=B
   grind
theorem Arj (c:Int):∀(p:List Int),co p 0=ei p c-c*co (sd c p) 0/\∀i,co p (i+1)=co (sd c p) i-c*co (sd c p) (i+1)
 | []=>⟨by simp [sd,ei,Bu],fun i=>by simp [sd,Bu]⟩
 | [a]=>⟨by simp [sd,ei,Bu,Bp],fun i=>by simp [sd,Bu,Bm]⟩
 | a::b::r=>by
   obtain⟨z,h1⟩:=Arj c (b::r)
   rw [sd]
   refine⟨by rw [Bp,Bp,ei];omega,fun i=> ?_⟩
   rw [Bm,Bm]
   cases i with
   | zero=>exact z
   | succ i=>exact h1 i
theorem interp (M:Nat):∀(xs T:List Int) (V:Nat),T.length<=xs.length->xs.Nodup->(∀x∈xs,x.natAbs<=M)->(∀x∈xs,(ei T x).natAbs<=V)->∀i,(co T i).natAbs<=V*(2*M+3)^xs.length
 | [],T,V,hl,_,_,_,i=>by
   have:T=[]:=eq_nil_of_length_eq_zero (by simpa using hl)
   rw [this,Bu]
   exact zero_le _
 | c::xs,T,V,hl,hn,hM,hV,i=>by
   rw [nodup_cons]at hn
   have Y:=hM c (by simp)
   have Z:=hV c (by simp)
   have J:=interp M xs (sd c T) (2*V) (by rw [Ak4];rw [length_cons]at hl;omega) hn.2 (fun x I=>hM x (by simp [I])) fun x I=>by
    have e:=Ark c x T
    have O:x-c≠0:=fun z=>hn.1 (by
     have:x=c:=by omega
     rw [<-this]
     exact I)
    have a0:=hV x (by simp [I])
    have U:((x-c)*ei (sd c T) x).natAbs<=2*V:=by
     have:(x-c)*ei (sd c T) x=ei T x-ei T c:=by omega
     rw [this]
     omega
    rw [natAbs_mul]at U
    exact le_trans (le_mul_of_pos_left _ (natAbs_pos.mpr O)) U
   obtain⟨h0,h1⟩:=Arj c T
   rw [length_cons,Nat.pow_succ,<-Nat.mul_assoc]
   generalize hB:(2*M+3)^xs.length=B at J ⊢
   have S:1<=B:=by rw [<-hB];exact Nat.pow_pos (by omega)
   have W:∀j,(c*co (sd c T) j).natAbs<=M*(2*V*B):=fun j=>by
    rw [natAbs_mul]
    exact mul_le_mul Y (J j)
   have a5:V+M*(2*V*B)+2*V*B<=V*B*(2*M+3):=by
    have a1:V<=V*B:=Nat.le_mul_of_pos_right _ S
    have a2:M*(2*V*B)=2*(M*(V*B)):=by grind
    have a3:V*B*(2*M+3)=2*(M*(V*B))+3*(V*B):=by grind
    have a4:2*V*B=2*(V*B):=by grind
    omega
   cases i with
   | zero=>
     rw [h0]
     have:=W 0
     omega
   | succ i=>
     rw [h1 i]
     have:=W (i+1)
     have:=J i
     omega
theorem Ahu {p:List Int}{xs:List Int} (I:xs.Nodup) (h:∀x∈xs,ei p x=0) (J:p.length<=xs.length) (i:Nat):co p i=0:=by
 have:=interp (xs.foldr (fun x m=>max x.natAbs m) 0) xs p 0 J I (fun x z=>by
  clear I h J
  induction xs with
  | nil=>simp at z
  | cons y ys M=>
    rw [List.foldr_cons]
    rcases mem_cons.mp z with rfl | z
    . exact Nat.le_max_left _ _
    . exact le_trans (M z) (Nat.le_max_right _ _)) (fun x z=>by rw [h x z];simp) i
 rw [Nat.zero_mul]at this
 omega
theorem Aec (t b:Int):∀(p:List Int) (w:Int),hv (p++ [w]) t b=hv p t b*b+w*t^p.length
 | [],w=>by simp [hv]
 | a::r,w=>by
   rw [cons_append,hv,hv,Aec t b r w,length_append,length_singleton,length_cons,pow_succ,pow_succ]
   generalize b^r.length=B
   generalize t^r.length=T
   generalize hv r t b=R
   grind
theorem Qs (t b:Int):∀p:List Int,hv p.reverse t b=hv p b t
 | []=>rfl
 | a::r=>by rw [reverse_cons,Aec,Qs t b r,hv,length_reverse]
noncomputable def Gp (f:Int):Int->List Int->List Int
 | _,[]=>[]
 | s,w::r=>w*s::Gp f (s*f) r
theorem Cd (f:Int):∀(s:Int) (p:List Int),(Gp f s p).length=p.length
 | _,[]=>rfl
 | s,w::r=>by rw [Gp,length_cons,Cd f (s*f) r,length_cons]
theorem Ni (f:Int):∀(s:Int) (p:List Int) (w:Int),Gp f s (p++ [w])=Gp f s p++ [w*(s*f^p.length)]
 | s,[],w=>by simp [Gp]
 | s,a::r,w=>by
   rw [cons_append,Gp,Ni f (s*f) r w,Gp,cons_append,length_cons,pow_succ]
   congr 4
   rw [mul_assoc,mul_comm f]
theorem Hr (f t b:Int):∀(s:Int) (p:List Int),hv (Gp f s p) t b=s*hv p (f*t) b
 | _,[]=>by simp [Gp,hv]
 | s,w::r=>by
   rw [Gp,hv,hv,Hr f t b (s*f) r,Cd]
   generalize b^r.length=B
   generalize hv r (f*t) b=R
   grind
noncomputable def hs (y:Int):List Int->List Int
 | []=>[]
 | a::r=>(a+y*(hs y r).headD 0)::hs y r
theorem Mr (y:Int):∀p:List Int,(hs y p).length=p.length
 | []=>rfl
 | a::r=>by rw [hs,length_cons,Mr y r,length_cons]
theorem Aph (y t b:Int):∀(a:Int) (r:List Int),hv (a::r) t b=(a+y*(hs y r).headD 0)*b^r.length+(t-y*b)*hv (hs y r) t b
 | a,[]=>by simp [hv,hs]
 | a,c::r=>by
   have z:=Aph y t b c r
   rw [hv,z,hs,List.headD_cons,hv,Mr,length_cons,pow_succ]
   generalize b^r.length=B
   generalize hv (hs y r) t b=R
   generalize c+y*(hs y r).headD 0=G
   grind
noncomputable def mv (y:Int):Nat->List Int->List Int
 | 0,p=>p
 | _+1,[]=>[]
 | n+1,a::r=>(a+y*(hs y r).headD 0)::mv y n (hs y r)
theorem Wr (y:Int):∀(n:Nat) (p:List Int),(mv y n p).length=p.length
 | 0,_=>rfl
 | _+1,[]=>rfl
 | n+1,a::r=>by rw [mv,length_cons,Wr y n,Mr,length_cons]
theorem Amg (y x b:Int):∀(n:Nat) (p:List Int),p.length<=n+1->hv (mv y n p) x b=hv p (x+y*b) b
 | 0,[],_=>rfl
 | 0,[a],_=>by simp [mv,hv]
 | 0,_::_::_,h=>by simp at h
 | _+1,[],_=>rfl
 | n+1,a::r,h=>by
   rw [mv,hv,Amg y x b n (hs y r) (by rw [Mr];simp at h;omega),Wr,Mr,Aph y (x+y*b) b a r]
   generalize b^r.length=B
   generalize hv (hs y r) (x+y*b) b=R
   generalize a+y*(hs y r).headD 0=G
   grind
noncomputable def seen (p:List Int) (t b:Int):List Int:=mv t (p.length-1) (Gp b 1 p.reverse).reverse
theorem El (p:List Int) (t b:Int):(seen p t b).length=p.length:=by rw [seen,Wr,length_reverse,Cd,length_reverse]
theorem Ls (p:List Int) (t b X Y:Int):hv (seen p t b) X Y=hv p (X+t*Y) (b*Y):=by
 rw [seen,Amg _ _ _ _ _ (by rw [length_reverse,Cd,length_reverse];omega),Qs,Hr,Int.one_mul,Qs]
noncomputable def adj:List Int->Nat
 | []=>0
 | [_]=>0
 | a::b::r=>(if a*b<0 then 1 else 0)+adj (b::r)
noncomputable def nz (p:List Int):List Int:=p.filter (· ≠0)
noncomputable def chg (p:List Int):Nat:=adj (nz p)
theorem Aqd (p q:List Int):nz (p++q)=nz p++nz q:=by simp [nz]
theorem Zy:∀(p:List Int) (a b:Int),adj (p++ [a,b])=adj (p++ [a])+(if a*b<0 then 1 else 0)
 | [],a,b=>by simp [adj]
 | [c],a,b=>by simp [adj]
 | c::d::r,a,b=>by
   have z:=Zy (d::r) a b
   simp only [cons_append]at z ⊢
   rw [adj,adj,z]
   omega
theorem sgn_mul {c:Int} (I:c≠0) (a b:Int):(a*c*(b*c)<0)=(a*b<0):=by
 have e:a*c*(b*c)=(a*b)*(c*c):=by grind
 have h:0<c*c:=by
  rcases lt_or_gt_of_ne I with h | h
  . exact Int.mul_pos_of_neg_of_neg h h
  . exact mul_pos h h
 rw [e]
 refine propext ⟨fun z=> ?_,fun z=>Int.mul_neg_of_neg_of_pos z h⟩
 rcases lt_trichotomy (a*b) 0 with q | q | q
 . exact q
 . rw [q,zero_mul]at z;exact absurd z (by decide)
 . exact absurd (mul_pos q h) (by omega)
theorem Adb {c:Int} (z:c≠0):∀p:List Int,adj (p.map (· *c))=adj p
 | []=>rfl
 | [_]=>rfl
 | a::b::r=>by
   have I:=Adb z (b::r)
   simp only [map_cons]at I ⊢
   rw [adj,adj,I]
   simp only [sgn_mul z]
theorem Uh {c:Int} (z:c≠0) (p:List Int):chg (p.map (· *c))=chg p:=by
 unfold chg nz
 rw [List.filter_map]
 have e:((fun x:Int=>decide (x≠0)) ∘ fun x=>x*c)=fun x=>decide (x≠0):=by
  funext x
  have:(x*c=0)=(x=0):=propext ⟨fun h=>(mul_eq_zero.mp h).resolve_right z,fun h=>by rw [h,zero_mul]⟩
  simp [this]
 rw [e,Adb z]
theorem Ahh {p:List Int}{a b:Int}:adj (p++ [a]++ [b])=adj (p++ [a])+(if a*b<0 then 1 else 0):=by
 rw [append_assoc]
 exact Zy p a b
noncomputable def lnz (p:List Int):Int:=(nz p).getLastD 0
theorem Ae0 (p:List Int) (w:Int):nz (p++ [w])=if w=0 then nz p else nz p++ [w]:=by
 by_cases h:w=0<;>simp [nz,h]
theorem Aib (p:List Int) (w:Int):lnz (p++ [w])=if w=0 then lnz p else w:=by
 unfold lnz
 rw [Ae0]
 by_cases h:w=0
 . rw [if_pos h,if_pos h]
 . rw [if_neg h,if_neg h]
   simp
theorem Aho (p:List Int) (w:Int):chg (p++ [w])=chg p+(if lnz p*w<0 then 1 else 0):=by
 unfold chg
 rw [Ae0]
 by_cases h:w=0
 . subst h
   rw [if_pos rfl,mul_zero,if_neg (by decide)]
   rfl
 . rw [if_neg h]
   unfold lnz
   by_cases z:nz p=[]
   . rw [z]
     simp [adj]
   . obtain⟨I,d,e⟩:∃(i:List Int) (x:Int),nz p=i++ [x]:=⟨_,_,(dropLast_concat_getLast z).symm⟩
     rw [e,Ahh]
     simp
noncomputable def c0 (a:Int) (r:List Int):Nat:=match nz r with
 | []=>0
 | f::_=>if a*f<0 then 1 else 0
theorem Ahm (a:Int) (r:List Int):chg (a::r)=c0 a r+chg r:=by
 unfold chg c0
 by_cases h:a=0
 . subst h
   have e:nz (0::r)=nz r:=by simp [nz]
   rw [e]
   cases nz r with
   | nil=>simp
   | cons f t=>simp
 . have e:nz (a::r)=a::nz r:=by simp [nz,h]
   rw [e]
   cases nz r with
   | nil=>simp [adj]
   | cons f t=>rw [adj]
theorem Z9 (p:List Int):chg (0::p)=chg p:=by
 unfold chg
 have e:nz (0::p)=nz p:=by simp [nz]
 rw [e]
noncomputable def lm (u v:Int):Int->List Int->List Int
 | a,[]=>[u*a]
 | a,b::g=>(u*a-v*b)::lm u v b g
theorem Amx {a b:Int} (h:0<a*b) (f:Int):(a*f<0)↔(b*f<0):=by
 have I:∀x y:Int,0<x*y->x*f<0->y*f<0:=fun x y J S=>by
  rcases lt_trichotomy x 0 with z | z | z
  . have M:y<0:=by
     by_cases q:y<0
     . exact q
     . have:=mul_nonneg (show 0<= -x by omega) (show 0<=y by omega)
       rw [neg_mul]at this
       omega
    have O:0<f:=by
     by_cases q:0<f
     . exact q
     . have:=mul_nonneg (show 0<= -x by omega) (show 0<= -f by omega)
       rw [Int.neg_mul_neg]at this
       omega
    exact Int.mul_neg_of_neg_of_pos M O
  . rw [z,zero_mul]at J;omega
  . have M:0<y:=by
     by_cases q:0<y
     . exact q
     . have:=mul_nonneg (show 0<=x by omega) (show 0<= -y by omega)
       rw [mul_neg]at this
       omega
    have O:f<0:=by
     by_cases q:f<0
     . exact q
     . have:=mul_nonneg (show 0<=x by omega) (show 0<=f by omega)
       omega
    exact Int.mul_neg_of_pos_of_neg M O
 exact⟨I a b h,I b a (by rw [mul_comm];exact h)⟩
theorem An6 {x e f:Int} (I:e≠0) (h:x*f<0):x*e<0\/e*f<0:=by
 by_cases q:x*e<0
 . exact .inl q
 . right
   have J:x≠0:=fun z=>by rw [z,zero_mul]at h;omega
   have:x*e≠0:=fun z=>by rcases mul_eq_zero.mp z with z | z<;>contradiction
   exact(Amx (show 0<x*e by omega) f).mp h
theorem sq_pos {a:Int} (h:a≠0):0<a*a:=by
 rcases lt_or_gt_of_ne h with z | z
 . exact Int.mul_pos_of_neg_of_neg z z
 . exact mul_pos z z
noncomputable def Dr (p:List Int) (f l b:Int):List Int:=(mv 1 (p.length-1) (Gp (l-f) 1 (seen p f b)).reverse).reverse
theorem K1 (p:List Int) (f l b X Y:Int):hv (Dr p f l b) X Y=hv p (f*Y+l*X) (b*(X+Y)):=by
 rw [Dr,Qs,Amg _ _ _ _ _ (by rw [length_reverse,Cd,El];omega),Qs,Hr,Ls,Int.one_mul]
 congr 1<;>grind
theorem Ae1:∀p:List Int,nz (trim p)=nz p
 | []=>rfl
 | a::r=>by
   rw [R5]
   have z:=Ae1 r
   split
   . rename_i h
     rw [h.1]at z
     rw [h.2]
     have e:nz (0::r)=nz r:=by simp [nz]
     rw [e,<-z]
   . by_cases I:a=0
     . subst I
       have e:∀x:List Int,nz (0::x)=nz x:=fun x=>by simp [nz]
       rw [e,e,z]
     . have e:∀x:List Int,nz (a::x)=a::nz x:=fun x=>by simp [nz,I]
       rw [e,e,z]
theorem Ui (p:List Int):chg (trim p)=chg p:=by rw [chg,Ae1,chg]
noncomputable def ab:List Int->Int
 | []=>0
 | a::r=>(a.natAbs:Int)+ab r
theorem Abe:∀p:List Int,0<=ab p
 | []=>Int.le_refl _
 | a::r=>by have:=Abe r;rw [ab];omega
theorem Al6 {a x:Int} (h:x∣a) (I:(a.natAbs:Int)<x):a=0:=by
 by_cases z:a=0
 . exact z
 . have:=le_of_dvd (natAbs_pos.mpr z) (natAbs_dvd_natAbs.mpr h)
   omega
theorem Ms:∀(p q:List Int),p.length=q.length->(∀x:Int,1<=x->hv p x 1=hv q x 1)->p=q
 | [],[],_,_=>rfl
 | a::p,b::q,hl,h=>by
   simp only [length_cons,Nat.add_right_cancel_iff]at hl
   have e:∀x:Int,1<=x->(hv p x 1-hv q x 1)*x=b-a:=fun x I=>by
    have:=h x I
    rw [hv,hv,one_pow,one_pow,mul_one,mul_one]at this
    rw [Int.sub_mul]
    omega
   have J:b-a=0:=Al6 (x:=((b-a).natAbs:Int)+1) ⟨_,by rw [mul_comm];exact(e _ (by omega)).symm⟩ (by omega)
   have:a=b:=by omega
   subst this
   rw [Ms p q hl fun x I=> ?_]
   have:=e x I
   rw [Int.sub_self]at this
   rcases mul_eq_zero.mp this with z | z<;>omega
theorem Aeo (u v:Int):∀(a:Int) (g:List Int),(lm u v a g).length=g.length+1
 | a,[]=>rfl
 | a,c::g=>by rw [lm,length_cons,Aeo u v c g,length_cons]
theorem Gu (p:List Int) (f l b:Int):(Dr p f l b).length=p.length:=by
 rw [Dr,length_reverse,Wr,length_reverse,Cd,El]
noncomputable def pr (c:Int):List (Int × Int)->List Int
 | []=>[c]
 | (n,d)::rs=>lm d n 0 (pr c rs)
noncomputable def Inn (f l b:Int) (r:Int × Int):Prop:=r.2*f<r.1*b/\r.1*b<r.2*l
instance (f l b:Int) (r:Int × Int):Decidable (Inn f l b r):=by unfold Inn;infer_instance
noncomputable def fl (f l b:Int):List (Int × Int)->List Int->List Int
 | [],h=>h
 | r::rs,h=>lm (r.2*l-r.1*b) (r.1*b-r.2*f) 0 (fl f l b rs h)
theorem Au5 (k t b:Int):∀(w:Int) (r:List Int),hv (w::r) (k*t) (k*b)=k^r.length*hv (w::r) t b
 | w,[]=>by simp [hv]
 | w,z::r=>by
   have I:∀t b:Int,hv (w::z::r) t b=hv (z::r) t b*t+w*b^(r.length+1):=fun _ _=>rfl
   rw [I,I,Au5 k t b z r,length_cons,Int.mul_pow,pow_succ k]
   generalize hv (z::r) t b=h
   generalize b^(r.length+1)=v
   generalize k^r.length=u
   grind
theorem pos_r {u y:Int} (z:0<u) (h:0<u*y):0<y:=by
 refine Classical.byContradiction fun n=> ?_
 have:=mul_nonneg (le_of_lt z) (show 0<= -y by omega)
 rw [mul_neg]at this
 omega
theorem Bx (a b:Int) (r:List Int):adj (a::b::r)=(if a*b<0 then 1 else 0)+adj (b::r):=rfl
theorem Ada (x:Int) (I:x≠0):∀(u v:List Int),(∀w∈u,w≠0)->(∀w∈v,w≠0)->adj (u++v)<=adj (u++x::v)
 | [],[],_,_=>zero_le _
 | [],b::v,_,_=>by
   show adj (b::v)<=adj (x::b::v)
   rw [Bx]
   omega
 | [y],[],_,_=>zero_le _
 | [y],b::v,hu,hv=>by
   show adj (y::b::v)<=adj (y::x::b::v)
   rw [Bx,Bx,Bx]
   have:= @An6 y x b I
   split
   . rename_i h
     rcases this h with h | h
     . rw [if_pos h]
       omega
     . rw [if_pos h]
       omega
   . omega
 | y::z::u,v,hu,hv=>by
   have J:=Ada x I (z::u) v (fun w M=>hu w (by simp [mem_cons.mp M])) hv
   show adj (y::z::(u++v))<=adj (y::z::(u++x::v))
   rw [Bx,Bx]
   exact Nat.add_le_add_left J _
theorem Akn (p:List Int):∀w∈nz p,w≠0:=fun w z=>by
 have:=(mem_filter.mp z).2
 simpa using this
theorem Ahn (x:Int) (u v:List Int):chg (u++v)<=chg (u++x::v):=by
 unfold chg
 by_cases z:x=0
 . subst z
   have:nz (u++0::v)=nz (u++v):=by simp [nz]
   rw [this]
   exact le_refl _
 . have I:nz (u++v)=nz u++nz v:=Aqd u v
   have J:nz (u++x::v)=nz u++x::nz v:=by simp [nz,z]
   rw [I,J]
   exact Ada x z _ _ (Akn u) (Akn v)
theorem X3 (u:List Int):∀ {p q:List Int}{a:Int},adj (a::p)<=adj (a::q)->adj (u++a::p)<=adj (u++a::q):=by
 induction u with
 | nil=>exact fun h=>h
 | cons y u I=>
   intro p q a h
   cases u with
   | nil=>
     show adj (y::a::p)<=adj (y::a::q)
     rw [Bx,Bx]
     omega
   | cons z u=>
     have:=I (p:=p) (q:=q) (a:=a) h
     show adj (y::z::(u++a::p))<=adj (y::z::(u++a::q))
     rw [Bx,Bx]
     exact Nat.add_le_add_left this _
theorem Adk (a b:Int) (u v:List Int):chg (u++a::(a+b)::b::v)<=chg (u++a::b::v):=by
 unfold chg
 by_cases I:a=0
 . subst I
   by_cases z:b=0
   . subst z
     have:nz (u++0::(0+0)::0::v)=nz (u++0::0::v):=by simp [nz]
     rw [this]
     exact le_refl _
   . have J:nz (u++0::(0+b)::b::v)=nz u++b::(b::nz v):=by simp [nz,z]
     have M:nz (u++0::b::v)=nz u++b::nz v:=by simp [nz,z]
     rw [J,M]
     refine X3 (nz u) ?_
     rw [Bx,if_neg (by have:=sq_pos z;omega)]
     omega
 . by_cases z:b=0
   . subst z
     have J:nz (u++a::(a+0)::0::v)=nz u++a::(a::nz v):=by simp [nz,I]
     have M:nz (u++a::0::v)=nz u++a::nz v:=by simp [nz,I]
     rw [J,M]
     refine X3 (nz u) ?_
     rw [Bx,if_neg (by have:=sq_pos I;omega)]
     omega
   . by_cases hs:a+b=0
     . have J:nz (u++a::(a+b)::b::v)=nz (u++a::b::v):=by simp [nz,hs,I,z]
       rw [J]
       exact le_refl _
     . have J:nz (u++a::(a+b)::b::v)=nz u++a::((a+b)::b::nz v):=by simp [nz,I,z,hs]
       have M:nz (u++a::b::v)=nz u++a::(b::nz v):=by simp [nz,I,z]
       rw [J,M]
       refine X3 (nz u) ?_
       rw [Bx,Bx,Bx]
       have e:a*(a+b)=a*a+a*b:=mul_add _ _ _
       have U:(a+b)*b=a*b+b*b:=Int.add_mul _ _ _
       have W:=sq_pos I
       have Y:=sq_pos z
       by_cases h1:a*b<0
       . rw [if_pos h1]
         by_cases h2:a*(a+b)<0
         . rw [if_pos h2]
           have O:¬(a+b)*b<0:=by
            have Z:(a+b)*(a+b)>0:=sq_pos hs
            have:(a+b)*(a+b)=a*(a+b)+(a+b)*b:=by grind
            omega
           rw [if_neg O]
           omega
         . rw [if_neg h2]
           split<;>omega
       . have S:0<=a*b:=by omega
         rw [if_neg h1,if_neg (by omega),if_neg (by omega)]
         omega
noncomputable def sms:List Int->List Int
 | a::b::r=>(a+b)::sms (b::r)
 | _=>[]
theorem Mg:∀r:List Int,(sms r).length=r.length-1
 | []=>rfl
 | [_]=>rfl
 | a::b::r=>by
   show(sms (b::r)).length+1=_
   rw [Mg (b::r)]
   simp
theorem Adm:∀(r:List Int) (a b:Int) (u v:List Int),chg (u++a::(sms (a::b::r)++((b::r).getLastD 0::v)))<=chg (u++a::b::r++v)
 | [],a,b,u,v=>by
   show chg (u++a::(a+b)::b::v)<=chg ((u++ [a,b])++v)
   rw [append_assoc]
   exact Adk a b u v
 | c::r,a,b,u,v=>by
   have z:=Adm r b c (u++ [a,a+b]) v
   have h1:=Ahn b (u++ [a,a+b]) (sms (b::c::r)++((c::r).getLastD 0::v))
   have h2:=Adk a b u (c::r++v)
   have I:(b::c::r).getLastD 0=(c::r).getLastD 0:=by simp [getLastD]
   rw [I]
   show chg (u++a::((a+b)::sms (b::c::r)++_))<=_
   simp only [append_assoc,cons_append,nil_append]at*
   exact le_trans h1 (le_trans z h2)
noncomputable def tri:Nat->List Int->List Int
 | 0,c=>c
 | k+1,c=>c.headD 0::(tri k (sms c)++ [c.getLastD 0])
theorem Adn:∀(k:Nat) (c u v:List Int),c.length=k+1->chg (u++tri k c++v)<=chg (u++c++v)
 | 0,c,u,v,_=>le_refl _
 | k+1,c,u,v,h=>by
   obtain⟨a,b,r,rfl⟩:∃a b r,c=a::b::r:=by
    match c,h with
    | a::b::r,_=>exact⟨a,b,r,rfl⟩
   have z:=Adn k (sms (a::b::r)) (u++ [a]) ((b::r).getLastD 0::v) (by rw [Mg,h];rfl)
   have h1:=Adm r a b u v
   have I:(a::b::r).getLastD 0=(b::r).getLastD 0:=by simp [getLastD]
   show chg (u++(a::(tri k (sms (a::b::r))++ [(a::b::r).getLastD 0]))++v)<=_
   rw [I]
   simp only [append_assoc,cons_append,nil_append]at*
   exact le_trans z h1
noncomputable def sc (ws a:List Int):List Int:=zipWith (· * ·) ws a
theorem Ann {w v x y:Int} (I:0<w) (hv:0<v):(w*x*(v*y)<0)=(x*y<0):=by
 have e:w*x*(v*y)=(w*v)*(x*y):=by grind
 have p:0<w*v:=mul_pos I hv
 rw [e]
 refine propext ⟨fun h=> ?_,fun h=>Int.mul_neg_of_pos_of_neg p h⟩
 refine Int.not_le.mp fun z=> ?_
 have:=mul_nonneg (le_of_lt p) z
 omega
theorem Ajw:∀(z a:List Int),z.length=a.length->(∀w∈z,0<w)->adj (sc z a)=adj a
 | [],[],_,_=>rfl
 | [],_::_,h,_=>by simp at h
 | _::_,[],h,_=>by simp at h
 | [w],[a],_,_=>rfl
 | w::v::z,a::b::r,h,hp=>by
   have I:=Ajw (v::z) (b::r) (by simpa using h) fun x J=>hp x (by simp [mem_cons.mp J])
   show adj (w*a::v*b::sc z r)=adj (a::b::r)
   have h1:adj (v*b::sc z r)=adj (b::r):=I
   have h2:= @Ann w v a b (hp w (by simp)) (hp v (by simp))
   rw [Bx,Bx,h1]
   simp only [h2]
 | [_],_::_::_,h,_=>by simp at h
 | _::_::_,[_],h,_=>by simp at h
theorem Aqe:∀(z a:List Int),z.length=a.length->(∀w∈z,0<w)->∃J:List Int,J.length=(nz a).length/\(∀w∈J,0<w)/\nz (sc z a)=sc J (nz a)
 | [],[],_,_=>⟨[],rfl,by simp,rfl⟩
 | [],_::_,h,_=>by simp at h
 | _::_,[],h,_=>by simp at h
 | w::z,a::r,h,hp=>by
   obtain⟨J,l,p,e⟩:=Aqe z r (by simpa using h) fun x I=>hp x (by simp [I])
   have U:=hp w (by simp)
   by_cases O:a=0
   . subst O
     refine⟨J,by simpa [nz]using l,p,?_⟩
     have W:sc (w::z) (0::r)=0::sc z r:=by
      show w*0::sc z r=_
      rw [mul_zero]
     have M:∀q:List Int,nz (0::q)=nz q:=fun q=>by simp [nz]
     rw [W,M,M,e]
   . have S:w*a≠0:=mul_ne_zero (by omega) O
     have M:nz (a::r)=a::nz r:=by simp [nz,O]
     have Y:nz (sc (w::z) (a::r))=w*a::nz (sc z r):=by
      show nz (w*a::sc z r)=_
      have:∀(x:Int) (q:List Int),x≠0->nz (x::q)=x::nz q:=fun x q I=>by simp [nz,I]
      exact this _ _ S
     refine⟨w::J,by rw [M];simpa using l,fun x I=> ?_,?_⟩
     . rcases mem_cons.mp I with rfl | I
       . exact U
       . exact p x I
     . rw [Y,M,e]
       rfl
theorem Z8 {z a:List Int} (h:z.length=a.length) (I:∀w∈z,0<w):chg (sc z a)=chg a:=by
 obtain⟨J,l,p,e⟩:=Aqe z a h I
 unfold chg
 rw [e]
 exact Ajw J (nz a) l p
theorem Ac9:∀u v:List Int,adj u+adj v<=adj (u++v)
 | [],v=>by
   show 0+adj v<=adj v
   omega
 | [a],[]=>le_refl _
 | [a],b::v=>by
   show 0+adj (b::v)<=adj (a::b::v)
   rw [Bx]
   omega
 | a::b::u,v=>by
   have z:=Ac9 (b::u) v
   show adj (a::b::u)+adj v<=adj (a::b::(u++v))
   rw [Bx,Bx]
   have:adj (b::u++v)=adj (b::(u++v)):=rfl
   omega
theorem V9 (a:Int):∀u v:List Int,adj (u++ [a])+adj (a::v)=adj (u++a::v)
 | [],v=>by
   show 0+adj (a::v)=adj (a::v)
   omega
 | [b],v=>by
   show adj [b,a]+adj (a::v)=adj (b::a::v)
   rw [Bx,Bx]
   show _+0+_=_
   omega
 | b::c::u,v=>by
   have z:=V9 a (c::u) v
   show adj (b::c::(u++ [a]))+adj (a::v)=adj (b::c::(u++a::v))
   rw [Bx,Bx]
   have I:adj (c::u++ [a])=adj (c::(u++ [a])):=rfl
   have J:adj (c::u++a::v)=adj (c::(u++a::v)):=rfl
   omega
theorem Adl (a:Int) (u v:List Int):chg (u++ [a])+chg (a::v)<=chg (u++a::v):=by
 unfold chg
 by_cases z:a=0
 . subst z
   have I:nz (u++ [0])=nz u:=by simp [nz]
   have J:nz (0::v)=nz v:=by simp [nz]
   have M:nz (u++0::v)=nz u++nz v:=by simp [nz]
   rw [I,J,M]
   exact Ac9 _ _
 . have I:nz (u++ [a])=nz u++ [a]:=by simp [nz,z]
   have J:nz (a::v)=a::nz v:=by simp [nz,z]
   have M:nz (u++a::v)=nz u++a::nz v:=by simp [nz,z]
   rw [I,J,M]
   exact le_of_eq (V9 a _ _)
noncomputable def lE:Nat->List Int->List Int
 | 0,c=>[c.headD 0]
 | n+1,c=>c.headD 0::lE n (sms c)
noncomputable def rE:Nat->List Int->List Int
 | 0,c=>[c.headD 0]
 | n+1,c=>rE n (sms c)++ [c.getLastD 0]
theorem Aem:∀(n:Nat) (c:List Int),(lE n c).length=n+1
 | 0,_=>rfl
 | n+1,c=>by
   show(lE n (sms c)).length+1=_
   rw [Aem]
theorem Af0:∀(n:Nat) (c:List Int),(rE n c).length=n+1
 | 0,_=>rfl
 | n+1,c=>by
   show(rE n (sms c)++ [_]).length=_
   rw [length_append,Af0]
   rfl
theorem Alb:∀(n:Nat) (c:List Int),c.length=n+1->∃(u v:List Int) (a:Int),lE n c=u++ [a]/\rE n c=a::v/\tri n c=u++a::v
 | 0,c,h=>by
   obtain⟨x,rfl⟩:=List.length_eq_one_iff.mp h
   exact⟨[],[],x,rfl,rfl,rfl⟩
 | n+1,c,h=>by
   obtain⟨u,v,a,z,I,J⟩:=Alb n (sms c) (by rw [Mg,h];rfl)
   refine⟨c.headD 0::u,v++ [c.getLastD 0],a,?_,?_,?_⟩
   . show c.headD 0::lE n (sms c)=_
     rw [z]
     rfl
   . show rE n (sms c)++ [_]=_
     rw [I]
     rfl
   . show c.headD 0::(tri n (sms c)++ [_])=_
     rw [J]
     simp
theorem Adj {n:Nat}{c:List Int} (h:c.length=n+1):chg (lE n c)+chg (rE n c)<=chg c:=by
 obtain⟨u,v,a,z,I,J⟩:=Alb n c h
 have h1:=Adn n c [] [] h
 rw [nil_append,append_nil,nil_append,append_nil,J]at h1
 rw [z,I]
 exact le_trans (Adl a u v) h1
theorem Vp:∀c:List Int,(sms c).dropLast=sms c.dropLast
 | []=>rfl
 | [_]=>rfl
 | [_,_]=>rfl
 | a::b::d::r=>by
   have z:=Vp (b::d::r)
   show((a+b)::(b+d)::sms (d::r)).dropLast=sms (a::(b::d::r).dropLast)
   rw [show(b::d::r).dropLast=b::(d::r).dropLast from rfl]
   show(a+b)::((b+d)::sms (d::r)).dropLast=(a+b)::sms (b::(d::r).dropLast)
   congr 1
theorem Aaz:∀c:List Int,(sms c).tail=sms c.tail
 | []=>rfl
 | [_]=>rfl
 | a::b::r=>rfl
noncomputable def bf:Nat->List Int->Int->Int->Int
 | 0,c,_,_=>c.headD 0
 | n+1,c,X,Y=>Y*bf n c.dropLast X Y+X*bf n c.tail X Y
theorem Al2 (c:List Int):c.dropLast.tail=c.tail.dropLast:=by
 match c with
 | []=>rfl
 | [_]=>rfl
 | a::b::r=>rfl
theorem Z1 (X Y:Int):∀(n:Nat) (c:List Int),c.length=n+2->bf n (sms c) X Y=bf n c.dropLast X Y+bf n c.tail X Y
 | 0,c,h=>by
   match c,h with
   | [a,b],_=>rfl
 | n+1,c,h=>by
   show Y*bf n (sms c).dropLast X Y+X*bf n (sms c).tail X Y=(Y*bf n c.dropLast.dropLast X Y+X*bf n c.dropLast.tail X Y)+(Y*bf n c.tail.dropLast X Y+X*bf n c.tail.tail X Y)
   rw [Vp,Aaz,Z1 X Y n c.dropLast (by rw [length_dropLast,h];rfl),Z1 X Y n c.tail (by rw [length_tail,h];rfl),Al2]
   grind
theorem Abl {c:List Int} (h:2<=c.length):c.dropLast.headD 0=c.headD 0:=by
 match c,h with
 | a::b::r,_=>rfl
theorem Ael:∀(n:Nat) (c:List Int),c.length=n+2->(lE (n+1) c).dropLast=lE n c.dropLast
 | 0,c,h=>by
   match c,h with
   | [a,b],_=>rfl
 | n+1,c,h=>by
   have z:=Ael n (sms c) (by rw [Mg,h];rfl)
   show(c.headD 0::lE (n+1) (sms c)).dropLast=c.dropLast.headD 0::lE n (sms c.dropLast)
   rw [Abl (by omega),<-Vp,<-z]
   have l:=Aem (n+1) (sms c)
   match e:lE (n+1) (sms c),l with
   | x::q,_=>rfl
theorem Ut {c:List Int} (h:2<=c.length):c.tail.getLastD 0=c.getLastD 0:=by
 match c,h with
 | a::b::r,_=>simp [getLastD]
theorem Af1:∀(n:Nat) (c:List Int),c.length=n+2->(rE (n+1) c).tail=rE n c.tail
 | 0,c,h=>by
   match c,h with
   | [a,b],_=>rfl
 | n+1,c,h=>by
   have z:=Af1 n (sms c) (by rw [Mg,h];rfl)
   show(rE (n+1) (sms c)++ [c.getLastD 0]).tail=rE n (sms c.tail)++ [c.tail.getLastD 0]
   rw [Ut (by omega),<-Aaz,<-z]
   have l:=Af0 (n+1) (sms c)
   match e:rE (n+1) (sms c),l with
   | x::q,_=>rfl
theorem Alq (X Y:Int):∀(n:Nat) (c:List Int),c.length=n+1->bf n (lE n c) X Y=bf n c X (X+Y)
 | 0,c,_=>rfl
 | n+1,c,h=>by
   show Y*bf n (lE (n+1) c).dropLast X Y+X*bf n (lE n (sms c)) X Y=(X+Y)*bf n c.dropLast X (X+Y)+X*bf n c.tail X (X+Y)
   rw [Ael n c h,Alq X Y n c.dropLast (by rw [length_dropLast,h];rfl),Alq X Y n (sms c) (by rw [Mg,h];rfl),Z1 X (X+Y) n c h]
   grind
theorem Alr (X Y:Int):∀(n:Nat) (c:List Int),c.length=n+1->bf n (rE n c) X Y=bf n c (X+Y) Y
 | 0,c,_=>rfl
 | n+1,c,h=>by
   have e:(rE (n+1) c).dropLast=rE n (sms c):=by
    show(rE n (sms c)++ [_]).dropLast=_
    exact List.dropLast_concat
   show Y*bf n (rE (n+1) c).dropLast X Y+X*bf n (rE (n+1) c).tail X Y=Y*bf n c.dropLast (X+Y) Y+(X+Y)*bf n c.tail (X+Y) Y
   rw [e,Af1 n c h,Alr X Y n (sms c) (by rw [Mg,h];rfl),Alr X Y n c.tail (by rw [length_tail,h];rfl),Z1 (X+Y) Y n c h]
   grind
theorem Au8 {g:List Int} (m:Nat) (M:g.length=m+1):∀(k:Nat) (f:List Int),f.length<=m+k->∃u r:List Int,u.length<=k/\r.length<=m/\∀i,co g m^k*co f i=mu u (co g) i+co r i
 | 0,f,h=>⟨[],f,le_refl _,h,fun i=>by rw [pow_zero];show 1*co f i=0+co f i;omega⟩
 | k+1,f,h=>by
   have O:∀i,co ((List.range (m+k)).map fun i=>co g m*co f i-(if k<=i then co f (m+k)*co g (i-k)else 0)) i=co g m*co f i-(if k<=i then co f (m+k)*co g (i-k)else 0):=by
    intro i
    by_cases hi:i<m+k
    . rw [Cg (by simpa using hi)]
      simp
    . rw [Bl (by simpa using hi)]
      rw [if_pos (by omega)]
      rcases lt_or_ge (m+k) i with h1 | h1
      . have z:co g (i-k)=0:=Bl (by omega)
        rw [Bl (p:=f) (i:=i) (by omega),z]
        simp
      . have:i=m+k:=by omega
        subst this
        rw [show m+k-k=m by omega,mul_comm]
        omega
   obtain⟨u,r,W,S,e⟩:=Au8 m M k _ (show((List.range (m+k)).map fun i=>co g m*co f i-(if k<=i then co f (m+k)*co g (i-k)else 0)).length<=m+k by simp)
   refine⟨al u (replicate k 0++ [co g m^k*co f (m+k)]),r,?_,S,fun i=> ?_⟩
   . have J2:∀p q:List Int,(al p q).length<=max p.length q.length:=by
      intro p
      induction p with
      | nil=>intro q;simp [al]
      | cons a p U=>
        intro q
        cases q with
        | nil=>simp [al]
        | cons b q=>
          have:=U q
          simp only [al,length_cons]
          omega
     have:=J2 u (replicate k 0++ [co g m^k*co f (m+k)])
     simp at this
     omega
   . have J:=e i
     rw [O]at J
     rw [show mu (al u (replicate k 0++ [co g m^k*co f (m+k)])) (co g) i=mu u (co g) i+mu (replicate k 0++ [co g m^k*co f (m+k)]) (co g) i from congrFun (Sh _ _ _) i,Uy,pow_succ]
     split at J
     . rename_i I
       rw [if_pos I]
       generalize co g m^k=P at*
       grind
     . rename_i I
       rw [if_neg I]
       generalize co g m^k=P at*
       grind
noncomputable def Npt (f g:List Int):Prop:=∀d,Tr d->Dv d f->Dv d g->d.length<=1
theorem Arc {F1 F2:Nat->Nat->Int}{n1 n2:Nat}:∀(m:Nat) (f g:List Int) (F G:Nat->Nat->Int) (n:Nat) (l h:Int),(∀i,F 0 i=co f i)->(∀i,G 0 i=co g i)->Tr g->f.length=n+1->g.length=m+1->m<=n->1<=m->l≠0->h≠0->Npt f g->Chn F1 n1 F2 n2 F n G m l h->∃j,j<m/\Sr j F1 n1 F2 n2 (0,0)≠0/\∀i,1<=i->Sr j F1 n1 F2 n2 (0,i)=0:=by
 intro m
 induction m using strongRecOn with
 | _ m ih=>
   intro f g F G n l h hF I tg lf lg M hm l0 U np W
   have gn:g≠ []:=fun z=>by rw [z]at lg;simp at lg
   have O:co g m≠0:=by
    have:=tg.lead gn
    rw [lg]at this
    exact this
   obtain⟨u,r,hu,hr,e⟩:=Au8 m lg (n-m+1) f (by omega)
   have eG:G 0=co g:=funext I
   have Y:Dg G (m+1):=fun i hi=>by rw [I];exact Bl (by omega)
   have dR:Dg (fun c i=>G 0 m^(n-m+1)*F c i-mu u (G c) i) m:=fun i hi=>by
    show G 0 m^_*F 0 i-mu u (G 0) i=0
    rw [hF,eG,e,Bl (p:=r) (by omega)]
    omega
   obtain⟨s,hs,hR⟩:=W.rest (R:=fun c i=>G 0 m^(n-m+1)*F c i-mu u (G c) i) Y dR hu M hm (by rw [I];exact O) fun c i=>by omega
   have bn:l*h^(n-m)≠0:=mul_ne_zero l0 (Iu U _)
   have T0:∀i,co r i=l*h^(n-m)*(s*Sr (m-1) F1 n1 F2 n2 (0,i)):=fun i=>by
    have:=hR 0 i
    have z:G 0 m^(n-m+1)*F 0 i-mu u (G 0) i=co r i:=by
     rw [hF,eG,e]
     omega
    rw [<-this,z]
   have sn:s≠0:=by rcases hs with rfl | rfl<;>decide
   have J:∀i,co (trim ((List.range m).map fun i=>s*Sr (m-1) F1 n1 F2 n2 (0,i))) i=s*Sr (m-1) F1 n1 F2 n2 (0,i):=by
    intro i
    rw [Bq]
    by_cases hi:i<m
    . rw [Cg (by simpa using hi)]
      simp
    . rw [Bl (by simpa using hi)]
      have:=T0 i
      rw [Bl (by omega)]at this
      rcases mul_eq_zero.mp this.symm with z | z
      . exact absurd z bn
      . exact z.symm
   have tt:=Cp ((List.range m).map fun i=>s*Sr (m-1) F1 n1 F2 n2 (0,i))
   have lt:(trim ((List.range m).map fun i=>s*Sr (m-1) F1 n1 F2 n2 (0,i))).length<=m:=by
    have:=tt.len (q:=(List.range m).map fun i=>s*Sr (m-1) F1 n1 F2 n2 (0,i)) fun i=>Bq _ i
    simpa using this
   generalize trim ((List.range m).map fun i=>s*Sr (m-1) F1 n1 F2 n2 (0,i))=t at J tt lt
   have Z:∀i,co g m^(n-m+1)*co f i=l*h^(n-m)*co t i+mu u (co g) i:=fun i=>by
    rw [e,T0,J]
    omega
   have sm:=Oc (Iu O _) bn Z
   have S:Npt g t:=fun d td a b=>np d td ((sm d).mp ⟨a,b⟩).1 ((sm d).mp ⟨a,b⟩).2
   by_cases t0:t=[]
   . exfalso
     have:=S g tg (Dv.refl g) (by rw [t0];exact Dv.nil g)
     omega
   have t1:=length_pos_iff.mpr t0
   by_cases tl:t.length=1
   . refine⟨m-1,by omega,fun z=> ?_,fun i hi=> ?_⟩
     . have:=tt.lead t0
       rw [tl,sub_self,J,z,mul_zero]at this
       exact this rfl
     . have:=J i
       rw [Bl (by omega)]at this
       rcases mul_eq_zero.mp this.symm with z | z
       . exact absurd z sn
       . exact z
   obtain⟨k,hk⟩:∃k,t.length=k+1:=⟨t.length-1,by omega⟩
   have dT:Dg (fun c i=>s*Sr (m-1) F1 n1 F2 n2 (c,i)) (k+1):=fun i hi=>by
    show s*Sr (m-1) F1 n1 F2 n2 (0,i)=0
    rw [<-J,Bl (by omega)]
   obtain⟨h',hn,hh⟩:∃h',h'≠0/\((n=m/\h'=h)\/(m<n/\h^(n-m-1)*h'=G 0 m^(n-m))):=by
    by_cases hd:n=m
    . exact⟨h,U,.inl ⟨hd,rfl⟩⟩
    . obtain⟨e',_,hz⟩:=W.height Y (by omega)
      refine⟨e'*Sr m F1 n1 F2 n2 (0,m),fun z=> ?_,.inr ⟨by omega,hz⟩⟩
      rw [z,mul_zero,I]at hz
      exact Iu O _ hz.symm
   have a0:=W.next (T:=fun c i=>s*Sr (m-1) F1 n1 F2 n2 (c,i)) (k:=k) (q:=u) (h':=h') Y dT hu M (by omega) (by rw [I];exact O) l0 U (fun c i=>by
    have:=hR c i
    have z:G 0 m^(n-m+1)*F c i-mu u (G c) i=l*h^(n-m)*(s*Sr (m-1) F1 n1 F2 n2 (c,i)):=this
    omega) hh
   obtain⟨j,hj,r1,r2⟩:=ih k (by omega) g t G (fun c i=>s*Sr (m-1) F1 n1 F2 n2 (c,i)) m (G 0 m) h' I (fun i=>(J i).symm) tt lg hk (by omega) (by omega) (by rw [I];exact O) hn S a0
   exact⟨j,by omega,r1,r2⟩
noncomputable def Lk (p q:List Int) (φ:Nat × Nat->Int):Prop:=∀i,φ (0,i)=mu p (fun k=>φ (1,k)) i+mu q (fun k=>φ (2,k)) i
theorem Lk.mul {p q:List Int}{z:Nat × Nat->Int} (h:Lk p q z) (a:Int):Lk p q fun l=>a*z l:=fun i=>by
 show a*z (0,i)=mu p (fun k=>a*z (1,k)) i+mu q (fun k=>a*z (2,k)) i
 rw [h i,congrFun (Jx p _ _) i,congrFun (Jx q _ _) i,mul_add]
theorem Lk.add {p q:List Int}{z I:Nat × Nat->Int} (h:Lk p q z) (g:Lk p q I):Lk p q fun l=>z l+I l:=fun i=>by
 show z (0,i)+I (0,i)=mu p (fun k=>z (1,k)+I (1,k)) i+mu q (fun k=>z (2,k)+I (2,k)) i
 rw [h i,g i,congrFun (Mu p _ _) i,congrFun (Mu q _ _) i]
 omega
theorem Aow {p q:List Int}{r:Nat × Nat->Int} (I:Lk p q r):∀(z:List (Nat × Nat)) (f:List (Nat × Nat)->Int),(∀ds,Lk p q fun l=>f (ds++ [l]))->Lk p q fun l=>La r f (z++ [l])
 | [],f,_=>by
   have e:(fun l=>La r f ([]++ [l]))=fun l=>f []*r l:=by
    funext l
    simp [La,mul_comm]
   rw [e]
   exact I.mul _
 | c::z,f,hf=>by
   have e:(fun l=>La r f (c::z++ [l]))=fun l=>r c*f (z++ [l])+ -1*La r (fun ds=>f (c::ds)) (z++ [l]):=by
    funext l
    rw [cons_append,La]
    omega
   rw [e]
   exact((hf z).mul _).add ((Aow I z (fun ds=>f (c::ds)) fun ds=>hf (c::ds)).mul _)
theorem Aou {p q:List Int}:∀(rows:List (Nat × Nat->Int)),(∀r∈rows,Lk p q r)->∀z,Lk p q fun l=>Dt rows (z++ [l])
 | [],_,z=>by
   have e:(fun l:Nat × Nat=>Dt [] (z++ [l]))=fun _=>0:=by
    funext l
    cases z<;>rfl
   rw [e]
   intro i
   show(0:Int)=mu p (fun _=>0) i+mu q (fun _=>0) i
   rw [Jk,Jk]
   rfl
 | r::rows,h,z=>Aow (h r (by simp)) z (Dt rows) (Aou rows fun s hs=>h s (by simp [hs]))
noncomputable def rwP (p:List Int):Nat->Nat->Int:=fun c i=>if c=0 then co p i else if c=1 then(if i=0 then 1 else 0)else 0
noncomputable def rwQ (q:List Int):Nat->Nat->Int:=fun c i=>if c=0 then co q i else if c=2 then(if i=0 then 1 else 0)else 0
theorem Ap6 (p:List Int) (s i:Nat):mu p (fun k=>if s<=k then(if k-s=0 then 1 else 0)else 0) i=if s<=i then co p (i-s)else 0:=by
 have e:(fun k=>if s<=k then(if k-s=0 then(1:Int)else 0)else 0)=co (replicate s 0++ [1]):=by
  funext k
  rw [Alx]
  split
  . cases k-s with
    | zero=>rfl
    | succ j=>simp [co]
  . rfl
 rw [e,Gz,Uy]
 split
 . omega
 . rfl
theorem Avk (p q:List Int) (s:Nat):Lk p q (shr s (rwP p)):=fun i=>by
 have z:(fun k=>shr s (rwP p) (1,k))=fun k=>if s<=k then(if k-s=0 then 1 else 0)else 0:=rfl
 have I:(fun k=>shr s (rwP p) (2,k))=fun _=>0:=by
  funext k
  show(if s<=k then rwP p 2 (k-s)else 0)=0
  split<;>rfl
 rw [z,I,Ap6,Jk]
 show(if s<=i then co p (i-s)else 0)=(if s<=i then co p (i-s)else 0)+0
 rw [add_zero]
theorem Avl (p q:List Int) (s:Nat):Lk p q (shr s (rwQ q)):=fun i=>by
 have z:(fun k=>shr s (rwQ q) (2,k))=fun k=>if s<=k then(if k-s=0 then 1 else 0)else 0:=rfl
 have I:(fun k=>shr s (rwQ q) (1,k))=fun _=>0:=by
  funext k
  show(if s<=k then rwQ q 1 (k-s)else 0)=0
  split<;>rfl
 rw [z,I,Ap6,Jk]
 show(if s<=i then co q (i-s)else 0)=0+(if s<=i then co q (i-s)else 0)
 rw [zero_add]
theorem Atq (p q:List Int) (j n m:Nat):Lk p q (Sr j (rwP p) n (rwQ q) m):=Aou _ (fun r z=>by
 rcases mem_append.mp z with h | h
 . obtain⟨s,_,rfl⟩:=Ji h
   exact Avk p q s
 . obtain⟨s,_,rfl⟩:=Ji h
   exact Avl p q s) _
theorem Ao1 {p q:List Int}{l b:Nat} (I:Tr q) (lp:p.length<=l) (l1:1<=l) (J:l<=30) (hq:1<=q.length) (M:q.length<=p.length) (b1:1<=b) (O:∀i,(co p i).natAbs<=2^b) (S:∀i,(co q i).natAbs<=2^b) (np:Npt p q):
 ∃(u v:List Int) (c:Int),c≠0/\(∀i,mu u (co p) i+mu v (co q) i=if i=0 then c else 0)/\u.length<=2*l/\v.length<=2*l/\(∀i,(co u i).natAbs<=2^((b+6)*(2*l)))/\(∀i,(co v i).natAbs<=2^((b+6)*(2*l))):=by
 by_cases U:q.length=1
 . obtain⟨c,rfl⟩:=List.length_eq_one_iff.mp U
   have W:c≠0:=by
    have:=I.lead (by simp)
    simpa [co]using this
   have Y:∀i,(co [1] i).natAbs<=2^((b+6)*(2*l)):=fun i=>by
    have:1<=2^((b+6)*(2*l)):=two_pow_pos _
    cases i with
    | zero=>simpa [co]using this
    | succ i=>rw [Bl (by simp)];simp
   refine⟨[],[1],c,W,fun i=> ?_,by simp,by simp;omega,fun i=>by rw [Bu];simp,Y⟩
   have:mu [1] (co [c]) i=co [c] i:=by rw [Gz];simp [Gz [c] [1]];cases i<;>simp [mu,sh,co]
   rw [this]
   show 0+co [c] i=_
   cases i with
   | zero=>simp [co]
   | succ i=>rw [Bl (by simp)];simp
 obtain⟨m,Z⟩:∃m,q.length=m+1:=⟨q.length-1,by omega⟩
 obtain⟨n,hn⟩:∃n,p.length=n+1:=⟨p.length-1,by omega⟩
 obtain⟨j,hj,r1,r2⟩:=Arc (F1:=rwP p) (F2:=rwQ q) (n1:=n) (n2:=m) m p q (rwP p) (rwQ q) n 1 1 (fun _=>rfl) (fun _=>rfl) I hn Z (by omega) (by omega) (by decide) (by decide) np (Chn.start _ _ _ _)
 have lk:=Atq p q j n m
 have aP:∀c i,(rwP p c i).natAbs<=2^b:=fun c i=>by
  have:1<=2^b:=two_pow_pos _
  unfold rwP
  split
  . exact O i
  . split
    . split<;>simp;omega
    . simp
 have aQ:∀c i,(rwQ q c i).natAbs<=2^b:=fun c i=>by
  have:1<=2^b:=two_pow_pos _
  unfold rwQ
  split
  . exact S i
  . split
    . split<;>simp;omega
    . simp
 have ab:∀c i,(Sr j (rwP p) n (rwQ q) m (c,i)).natAbs<=2^((b+6)*(2*l)):=fun c i=>le_trans (Ago aP aQ (by omega) (by omega) (by omega) (c,i)) (pow_le_pow_right (by decide) (mul_le_mul_left _ (by omega)))
 have zP:∀c i,l<=i->rwP p c i=0:=fun c i hi=>by
  unfold rwP
  rw [Bl (by omega),if_neg (show ¬i=0 by omega)]
  simp
 have zQ:∀c i,l<=i->rwQ q c i=0:=fun c i hi=>by
  unfold rwQ
  rw [Bl (by omega),if_neg (show ¬i=0 by omega)]
  simp
 have top:∀c i,2*l<=i->Sr j (rwP p) n (rwQ q) m (c,i)=0:=fun c i hi=>Agp zP zQ (by omega) (by omega) c i hi
 have z:∀c i,co ((List.range (2*l)).map fun i=>Sr j (rwP p) n (rwQ q) m (c,i)) i=Sr j (rwP p) n (rwQ q) m (c,i):=fun c i=>by
  by_cases hi:i<2*l
  . rw [Cg (by simpa using hi)]
    simp
  . rw [Bl (by simpa using hi),top c i (by omega)]
 refine⟨(List.range (2*l)).map fun i=>Sr j (rwP p) n (rwQ q) m (1,i),(List.range (2*l)).map fun i=>Sr j (rwP p) n (rwQ q) m (2,i),Sr j (rwP p) n (rwQ q) m (0,0),r1,fun i=> ?_,by simp,by simp,fun i=>by rw [z];exact ab _ _,fun i=>by rw [z];exact ab _ _⟩
 rw [Gz,Gz _ q,funext (z 1),funext (z 2),<-lk i]
 split
 . rename_i h
   rw [h]
 . exact r2 i (by omega)
theorem Adp {p q:List Int} (z:p.length=q.length) (h:∀i,co p i=co q i):p=q:=by
 refine ext_getElem z fun i h1 h2=> ?_
 have:=h i
 rw [Cg h1,Cg h2]at this
 exact this
theorem J2:∀p q:List Int,(al p q).length=max p.length q.length
 | [],q=>by simp [al]
 | a::p,[]=>by simp [al]
 | a::p,b::q=>by
   have:=J2 p q
   simp only [al,length_cons]
   omega
noncomputable def bn:Nat->List Int
 | 0=>[1]
 | n+1=>al (bn n) (0::bn n)
theorem Ga:∀n,(bn n).length=n+1
 | 0=>rfl
 | n+1=>by rw [bn,J2,length_cons,Ga n];omega
theorem J3 (n:Nat):co (bn n) 0=1:=by
 induction n with
 | zero=>rfl
 | succ n z=>rw [bn,Hz,z,Bp];rfl
theorem Lp (n j:Nat):co (bn (n+1)) (j+1)=co (bn n) (j+1)+co (bn n) j:=by rw [bn,Hz,Bm]
theorem Ahj:∀n j,0<=co (bn n) j
 | 0,0=>by decide
 | 0,j+1=>by rw [Bl (by simp [bn])];exact Int.le_refl _
 | n+1,0=>by rw [J3];decide
 | n+1,j+1=>by
   have h1:=Ahj n (j+1)
   have h2:=Ahj n j
   rw [Lp]
   omega
theorem Z2:∀n j,j<=n->1<=co (bn n) j
 | n,0,_=>by rw [J3];decide
 | n+1,j+1,h=>by
   have h1:=Ahj n (j+1)
   have h2:=Z2 n j (by omega)
   rw [Lp]
   omega
theorem Alu:∀n j,co (bn n) j<=2^n
 | 0,0=>by decide
 | 0,j+1=>by rw [Bl (by simp [bn])];decide
 | n+1,0=>by
   rw [J3]
   have:(0:Int)<2^(n+1):=pow_pos (by decide)
   omega
 | n+1,j+1=>by
   have h1:=Alu n (j+1)
   have h2:=Alu n j
   rw [Lp,pow_succ]
   omega
theorem Z4:∀(n j:Nat),((j:Int)+1)*co (bn n) (j+1)=((n:Int)-j)*co (bn n) j
 | 0,0=>by rw [Bl (i:=0+1) (by simp [bn])];simp
 | 0,j+1=>by rw [Bl (i:=j+1+1) (by simp [bn]),Bl (i:=j+1) (by simp [bn])];simp
 | n+1,0=>by
   have h:=Z4 n 0
   rw [Lp,J3,J3]
   rw [J3]at h
   simp only [natCast_add,natCast_one,natCast_zero]at*
   omega
 | n+1,j+1=>by
   have h1:=Z4 n (j+1)
   have h2:=Z4 n j
   rw [Lp,Lp]
   simp only [natCast_add,natCast_one]at*
   generalize co (bn n) (j+1+1)=x at*
   generalize co (bn n) (j+1)=y at*
   generalize co (bn n) j=z at*
   grind
noncomputable def be:List Int->List Int
 | []=>[]
 | a::r=>al ((bn r.length).map (a* ·)) (0::be r)
theorem Td:∀s,(be s).length=s.length
 | []=>rfl
 | a::r=>by rw [be,J2,length_map,Ga,length_cons,Td r,length_cons];omega
theorem R9 (a:Int) (r:List Int) (j:Nat):co (be (a::r)) j=a*co (bn r.length) j+co (0::be r) j:=by rw [be,Hz,Du]
theorem Wn (x:Int):∀p q:List Int,hv (al p q) x 1=hv p x 1+hv q x 1
 | [],q=>by simp [al,hv]
 | a::p,[]=>by simp [al,hv]
 | a::p,b::q=>by
   have:=Wn x p q
   simp only [al,hv,one_pow,mul_one]
   rw [this,Int.add_mul]
   omega
theorem Yk (x a:Int):∀p:List Int,hv (p.map (a* ·)) x 1=a*hv p x 1
 | []=>by simp [hv]
 | w::r=>by
   have:=Yk x a r
   simp only [map_cons,hv,one_pow,mul_one]
   rw [this]
   grind
theorem Apg (x:Int):∀n,hv (bn n) x 1=(1+x)^n
 | 0=>by simp [bn,hv]
 | n+1=>by
   rw [bn,Wn,hv,Apg x n,pow_succ]
   grind
theorem Abm (x:Int):∀s,hv (be s) x 1=hv s x (1+x)
 | []=>rfl
 | a::r=>by
   rw [be,Wn,Yk,Apg,hv,hv,Abm x r]
   grind
theorem Z0 (p:List Int) (f l b:Int):Dr p f l b=be (Gp (l-f) 1 (seen p f b)):=Ms _ _ (by rw [Gu,Td,Cd,El]) fun x _=>by
 rw [K1,Abm,Hr,Ls,Int.one_mul]
 congr 1<;>grind
theorem Ajx:∀(s:List Int) (j:Nat),((co (be s) j).natAbs:Int)<=2^s.length*ab s
 | [],j=>by rw [be,Bu];simp [ab]
 | a::r,j=>by
   have I:=Ahj r.length j
   have h1:=Alu r.length j
   have J:((co (0::be r) j).natAbs:Int)<=2^r.length*ab r:=by
    cases j with
    | zero=>
      rw [Bp]
      exact mul_nonneg (le_of_lt (pow_pos (by decide))) (Abe r)
    | succ j=>rw [Bm];exact Ajx r j
   have M:((a*co (bn r.length) j).natAbs:Int)<=2^r.length*(a.natAbs:Int):=by
    rw [natAbs_mul,natCast_mul]
    have:((co (bn r.length) j).natAbs:Int)<=2^r.length:=by omega
    have:=mul_le_mul_of_nonneg_left this (show(0:Int)<=(a.natAbs:Int)by omega)
    rw [mul_comm (2^r.length)]
    exact this
   have O:=natAbs_add_le (a*co (bn r.length) j) (co (0::be r) j)
   rw [R9,length_cons,pow_succ,ab]
   have S:(0:Int)<2^r.length:=pow_pos (by decide)
   have z:(0:Int)<=2^r.length*((a.natAbs:Int)+ab r):=mul_nonneg (by omega) (by have:=Abe r;omega)
   have e:(2:Int)^r.length*2*((a.natAbs:Int)+ab r)=2*(2^r.length*((a.natAbs:Int)+ab r)):=by grind
   rw [e]
   have U:(2:Int)^r.length*((a.natAbs:Int)+ab r)=2^r.length*(a.natAbs:Int)+2^r.length*ab r:=mul_add _ _ _
   omega
theorem Aj0 {a:Int}{r:List Int} (h:2^r.length*ab r<a) {j:Nat} (z:j<=r.length):0<co (be (a::r)) j:=by
 have J:((co (0::be r) j).natAbs:Int)<=2^r.length*ab r:=by
  cases j with
  | zero=>
    rw [Bp]
    exact mul_nonneg (le_of_lt (pow_pos (by decide))) (Abe r)
  | succ j=>rw [Bm];exact Ajx r j
 have h1:=Z2 r.length j z
 have I:0<a:=by
  have:(0:Int)<=2^r.length*ab r:=mul_nonneg (le_of_lt (pow_pos (by decide))) (Abe r)
  omega
 have:=mul_le_mul_of_nonneg_left h1 (le_of_lt I)
 rw [R9]
 omega
theorem Ajy:∀(s t:List Int),s.length=t.length->∀j,co (be (al s t)) j=co (be s) j+co (be t) j
 | [],[],_,j=>by simp [al,be,Bu]
 | a::s,b::t,h,j=>by
   have z:s.length=t.length:=by simpa using h
   have I:(al s t).length=s.length:=by rw [J2];omega
   show co (be ((a+b)::al s t)) j=_
   rw [R9,R9,R9,I,<-z,Int.add_mul]
   cases j with
   | zero=>rw [Bp,Bp,Bp];omega
   | succ j=>
     rw [Bm,Bm,Bm,Ajy s t z j]
     omega
theorem Adx (a b:Int) (r:List Int):dr (a::b::r)=al (b::r) (0::dr (b::r)):=Adp (by
 have h1:=G3 (a::b::r)
 have h2:=G3 (b::r)
 rw [h1,J2,length_cons (a:=0),h2]
 simp only [length_cons]
 omega) fun i=>by
 have h1:=Wj (a::b::r) i
 rw [Bm]at h1
 rw [h1,Hz]
 cases i with
 | zero=>
   rw [Bp (a:=0)]
   simp
 | succ i=>
   have h2:=Wj (b::r) i
   rw [Bm (a:=0),h2]
   simp only [natCast_add,natCast_one]
   grind
theorem Ajz:∀(r:List Int) (a:Int) (j:Nat),co (be (dr (a::r))) j=((j:Int)+1)*co (be (a::r)) (j+1)-((r.length:Int)-j)*co (be (a::r)) j
 | [],a,j=>by
   have e:dr [a]=[]:=rfl
   rw [e,be,Bu,R9,R9]
   simp only [length_nil,bn,be,Bm,Bu,natCast_zero,add_zero]
   cases j with
   | zero=>simp [Bu,co]
   | succ j=>simp [Bm,Bu]
 | b::r,a,j=>by
   have z:=Z4 (b::r).length j
   rw [Adx,Ajy _ _ (by rw [length_cons,length_cons,G3,length_cons];omega),R9 0,R9 a,R9 a,Bm]
   rw [zero_mul,zero_add]
   generalize co (bn (b::r).length) (j+1)=x at*
   generalize co (bn (b::r).length) j=y at*
   cases j with
   | zero=>
     rw [Bp,Bp]
     simp only [natCast_zero]at*
     generalize co (be (b::r)) 0=t
     grind
   | succ i=>
     rw [Bm,Bm,Ajz r b i]
     simp only [natCast_add,natCast_one,length_cons]at*
     generalize co (be (b::r)) (i+1)=t at*
     generalize co (be (b::r)) i=s at*
     grind
theorem Lq:∀ {p:List Int},(∀w∈p,0<w)->chg p=0
 | [],_=>rfl
 | [a],h=>by
   have z:=h a (by simp)
   have:a≠0:=by omega
   simp [chg,nz,this,adj]
 | a::b::r,h=>by
   have z:=h a (by simp)
   have M:=h b (by simp)
   have I:=Lq (p:=b::r) fun w O=>h w (by simp [O])
   have S:=mul_pos z M
   have U:a≠0:=by omega
   have W:b≠0:=by omega
   have e:nz (a::b::r)=a::nz (b::r):=by simp [nz,U]
   have J:nz (b::r)=b::nz r:=by simp [nz,W]
   rw [chg,e,J]
   rw [chg,J]at I
   show(if a*b<0 then 1 else 0)+adj (b::nz r)=0
   rw [I,if_neg (by omega)]
theorem Aj5:∀(p:List Int),(∀j,j+1<p.length->0<=co p j->0<co p (j+1))->chg p<=1
 | [],_=>by decide
 | a::r,h=>by
   by_cases O:0<=a
   . have all:∀w∈r,0<w:=by
      intro w z
      obtain⟨i,hi,rfl⟩:=getElem_of_mem z
      have:∀i,i<r.length->0<co (a::r) (i+1):=by
       intro i
       induction i with
       | zero=>intro hi;exact h 0 (by simp;omega) (by rw [Bp];exact O)
       | succ i I=>intro hi;exact h (i+1) (by simp;omega) (le_of_lt (I (by omega)))
      have:=this i hi
      rw [Bm,Cg hi]at this
      exact this
     by_cases S:a=0
     . rw [S,Z9,Lq all]
       decide
     . rw [Lq (p:=a::r) fun w z=>by
        rcases mem_cons.mp z with rfl | z
        . omega
        . exact all w z]
       decide
   . have J:∀j,j+1<r.length->0<=co r j->0<co r (j+1):=fun j hj U=>by
      have:=h (j+1) (by simp;omega) (by rw [Bm];exact U)
      rw [Bm]at this
      exact this
     have I:=Aj5 r J
     match r,J,I with
     | [],_,_=>
       have:a≠0:=by omega
       simp [chg,nz,this,adj]
     | b::r,J,I=>
       have W:a≠0:=by omega
       have Y:nz (a::b::r)=a::nz (b::r):=by simp [nz,W]
       by_cases Z:0<=b
       . have all:∀w∈r,0<w:=by
          intro w z
          obtain⟨i,hi,rfl⟩:=getElem_of_mem z
          have:∀i,i<r.length->0<co (b::r) (i+1):=by
           intro i
           induction i with
           | zero=>intro hi;exact J 0 (by simp;omega) (by rw [Bp];exact Z)
           | succ i I=>intro hi;exact J (i+1) (by simp;omega) (le_of_lt (I (by omega)))
          have:=this i hi
          rw [Bm,Cg hi]at this
          exact this
         rw [Ahm]
         have c1:chg (b::r)=0:=by
          by_cases b0:b=0
          . rw [b0,Z9,Lq all]
          . exact Lq fun w z=>by
             rcases mem_cons.mp z with rfl | z
             . omega
             . exact all w z
         have c2:c0 a (b::r)<=1:=by
          unfold c0
          split
          . decide
          . split<;>decide
         omega
       . have b1:b≠0:=by omega
         have M:nz (b::r)=b::nz r:=by simp [nz,b1]
         have:=Int.mul_pos_of_neg_of_neg (show a<0 by omega) (show b<0 by omega)
         rw [chg,Y,M]
         rw [chg,M]at I
         show(if a*b<0 then 1 else 0)+adj (b::nz r)<=1
         rw [if_neg (by omega)]
         omega
theorem J6 (w t b:Int) (r:List Int):hv (w::r) t b=hv r t b*t+w*b^r.length:=rfl
noncomputable def ty (f b:Int):List Int->List Int
 | []=>[]
 | a::r=>al [a*b^r.length] (al ((ty f b r).map (f* ·)) (0::ty f b r))
theorem Uc (f b:Int):∀p,(ty f b p).length=p.length
 | []=>rfl
 | a::r=>by
   have:=Uc f b r
   rw [ty,J2,J2,length_map]
   simp only [length_cons,length_nil]
   omega
theorem Apj (f b x:Int):∀p,hv (ty f b p) x 1=hv p (x+f) b
 | []=>rfl
 | a::r=>by
   rw [ty,Wn,Wn,Yk,J6 0,Apj f b x r,J6 a,J6 (a*b^r.length)]
   simp only [hv,length_nil,pow_zero]
   grind
theorem Agk (p:List Int) (f b:Int):seen p f b=ty f b p:=Ms _ _ (by rw [El,Uc]) fun x _=>by
 rw [Ls,Apj,mul_one,mul_one]
theorem Aa4 (f b:Int):∀p,co (ty f b p) 0=hv p f b
 | []=>rfl
 | a::r=>by
   rw [ty,Hz,Hz,Du,Bp,Bp,Aa4 f b r,hv]
   grind
theorem Ame (t b:Int):∀p q:List Int,p.length=q.length->hv (al p q) t b=hv p t b+hv q t b
 | [],[],_=>by simp [al,hv]
 | a::p,c::q,h=>by
   have z:p.length=q.length:=by simpa using h
   have I:(al p q).length=p.length:=by rw [J2];omega
   show hv ((a+c)::al p q) t b=_
   rw [hv,hv,hv,Ame t b p q z,I,<-z]
   grind
theorem Ald (f b:Int):∀(r:List Int) (a:Int),co (ty f b (a::r)) 1=hv (dr (a::r)) f b
 | [],a=>by
   show co (al [a*b^0] (al ([].map (f* ·)) [0])) 1=0
   simp [al,co]
 | c::r,a=>by
   have e:co (ty f b (a::c::r)) 1=f*co (ty f b (c::r)) 1+co (ty f b (c::r)) 0:=by
    rw [ty,Hz,Hz,Du,Bm,Bm,Bu]
    omega
   rw [e,Ald f b r c,Aa4,Adx,Ame _ _ _ _ (by
    have:=G3 (c::r)
    rw [length_cons (a:=(0:Int)),this]
    simp),J6 0]
   grind
noncomputable def pA (e:Nat):List Int->Nat
 | []=>0
 | a::r=>a.natAbs+e*pA e r
theorem Agy {f:Int}{b F:Nat} (z:f.natAbs<=F*b):∀(p:List Int) (k:Nat),(co (ty f b p) k).natAbs*b^(k+1)<=b^p.length*pA (F+1) p
 | [],k=>by rw [ty,Bu];simp
 | a::r,k=>by
   have I:=Agy z r
   rw [ty,Hz,Hz,Du,length_cons,pA]
   generalize W:pA (F+1) r=A at*
   cases k with
   | zero=>
     rw [Bp,Bp]
     have J:=I 0
     generalize co (ty f b r) 0=t at*
     have h1:(a*(b:Int)^r.length+(f*t+0)).natAbs<=a.natAbs*b^r.length+F*b*t.natAbs:=by
      refine le_trans (natAbs_add_le _ _) (Nat.add_le_add ?_ ?_)
      . rw [natAbs_mul,natAbs_pow,natAbs_natCast]
        exact le_refl _
      . rw [add_zero,natAbs_mul]
        exact mul_le_mul_right _ z
     refine le_trans (mul_le_mul_right _ h1) ?_
     rw [Nat.zero_add,pow_one,Nat.pow_succ]at*
     have h2:F*b*t.natAbs*b=F*b*(t.natAbs*b):=by grind
     have O:F*b*(t.natAbs*b)<=F*b*(b^r.length*A):=mul_le_mul_left _ J
     rw [add_mul,h2]
     have M:b^r.length*b*(a.natAbs+(F+1)*A)=a.natAbs*b^r.length*b+F*b*(b^r.length*A)+b*(b^r.length*A):=by grind
     rw [M]
     omega
   | succ k=>
     rw [Bm,Bu,Bm]
     have J:=I (k+1)
     have h1:=I k
     generalize co (ty f b r) (k+1)=t at*
     generalize co (ty f b r) k=s at*
     have h2:(0+(f*t+s)).natAbs<=F*b*t.natAbs+s.natAbs:=by
      rw [zero_add]
      refine le_trans (natAbs_add_le _ _) (Nat.add_le_add_right ?_ _)
      rw [natAbs_mul]
      exact mul_le_mul_right _ z
     refine le_trans (mul_le_mul_right _ h2) ?_
     have O:F*b*(t.natAbs*b^(k+1+1))<=F*b*(b^r.length*A):=mul_le_mul_left _ J
     have M:s.natAbs*b^(k+1)*b<=b^r.length*A*b:=mul_le_mul_right _ h1
     have S:(F*b*t.natAbs+s.natAbs)*b^(k+1+1)=F*b*(t.natAbs*b^(k+1+1))+s.natAbs*b^(k+1)*b:=by
      rw [Nat.pow_succ b (k+1)]
      grind
     have U:b^(r.length+1)*(a.natAbs+(F+1)*A)=b^(r.length+1)*a.natAbs+F*b*(b^r.length*A)+b^r.length*A*b:=by
      rw [Nat.pow_succ]
      grind
     rw [S,U]
     omega
theorem Yj {f:Int}{b F:Nat} (z:f.natAbs<=F*b):∀p:List Int,(hv p f b).natAbs*b<=b^p.length*pA F p
 | []=>by simp [hv]
 | a::r=>by
   have I:=Yj z r
   rw [hv,length_cons,pA]
   generalize pA F r=A at*
   generalize hv r f b=t at*
   have h1:(t*f+a*(b:Int)^r.length).natAbs<=F*b*t.natAbs+a.natAbs*b^r.length:=by
    refine le_trans (natAbs_add_le _ _) (Nat.add_le_add ?_ ?_)
    . rw [natAbs_mul,Nat.mul_comm]
      exact mul_le_mul_right _ z
    . rw [natAbs_mul,natAbs_pow,natAbs_natCast]
      exact le_refl _
   refine le_trans (mul_le_mul_right _ h1) ?_
   have O:F*b*(t.natAbs*b)<=F*b*(b^r.length*A):=mul_le_mul_left _ I
   have J:(F*b*t.natAbs+a.natAbs*b^r.length)*b=F*b*(t.natAbs*b)+a.natAbs*b^r.length*b:=by grind
   have M:b^(r.length+1)*(a.natAbs+F*A)=a.natAbs*b^r.length*b+F*b*(b^r.length*A):=by
    rw [Nat.pow_succ]
    grind
   rw [J,M]
   omega
theorem Alm {T Z:Nat}:∀ {r:List Int},(∀i,(co r i).natAbs*T<=Z)->ab r*T<=r.length*Z
 | [],_=>by simp [ab]
 | a::r,h=>by
   have z:=h 0
   rw [Bp]at z
   have J:=Alm (r:=r) fun i=>by have:=h (i+1);rw [Bm]at this;exact this
   rw [ab,length_cons]
   have e:((a.natAbs:Int)+ab r)*(T:Int)=((a.natAbs*T:Nat):Int)+ab r*T:=by rw [Int.add_mul,natCast_mul]
   have I:(((r.length+1:Nat):Int))*(Z:Int)=(r.length:Int)*Z+Z:=by rw [natCast_add,Int.add_mul];simp
   rw [e,I]
   omega
theorem Uk (f:Int):∀(s:Int) (p:List Int) (i:Nat),co (Gp f s p) i=co p i*(s*f^i)
 | s,[],i=>by rw [Gp,Bu,zero_mul]
 | s,w::r,0=>by rw [Gp,Bp,Bp,pow_zero,mul_one]
 | s,w::r,i+1=>by rw [Gp,Bm,Bm,Uk f (s*f) r i,pow_succ];congr 1;grind
theorem Ads (a:Int) (r:List Int) (i:Nat):co r i=co (a::r) (i+1):=(Bm a r i).symm
theorem Avm {p:List Int}{f:Int}{b F w T n:Nat} (J:p.length=n+1) (Y:0<b) (Z:f.natAbs<=F*b) (T1:1<=T) (hw:w*T<=b) (h:2^n*(n*(b^n*pA (F+1) p))<(hv p f b).natAbs*T):chg (Dr p f (f+w) b)=0:=by
 have I:∀s:List Int,s.length=n+1->(∀i,(co s i).natAbs*b^(i+1)<=b^(n+1)*pA (F+1) p)->co s 0=(hv p f b).natAbs->chg (be (Gp w 1 s))=0:=by
  intro s M hs S
  match s,M with
  | a::r,M=>
    rw [Bp]at S
    have U:r.length=n:=by simpa using M
    refine Lq fun x hx=> ?_
    obtain⟨j,O,rfl⟩:=getElem_of_mem hx
    rw [<-Cg O]
    rw [Td,Cd]at O
    show 0<co (be (a*1::Gp w (1*w) r)) j
    rw [mul_one]
    refine Aj0 ?_ (by rw [Cd];simp at O;omega)
    have z:ab (Gp w (1*w) r)*T<=(Gp w (1*w) r).length*(b^n*pA (F+1) p:Nat):=Alm fun i=>by
     rw [Uk,Int.one_mul,<-Int.pow_succ',Ads a r i,natAbs_mul,natAbs_pow,natAbs_natCast]
     have h1:=hs (i+1)
     generalize (co (a::r) (i+1)).natAbs=t at*
     have h2:w^(i+1)*T<=b^(i+1):=by
      have:w^(i+1)*T<=w^(i+1)*T^(i+1):=mul_le_mul_left _ (by
       have:=pow_le_pow_right T1 (show 1<=i+1 by omega)
       rw [pow_one]at this
       exact this)
      rw [<-mul_pow]at this
      exact le_trans this (pow_le_pow_left hw _)
     refine Nat.le_of_mul_le_mul_right (c:=b) ?_ Y
     have h3:t*w^(i+1)*T*b<=t*b^(i+1+1):=by
      have:t*w^(i+1)*T*b=t*b*(w^(i+1)*T):=by grind
      rw [this,Nat.pow_succ]
      have:=mul_le_mul_left (t*b) h2
      have e:t*b*b^(i+1)=t*(b^(i+1)*b):=by grind
      rw [e]at this
      exact this
     refine le_trans h3 (le_trans h1 ?_)
     rw [Nat.pow_succ]
     exact le_of_eq (by grind)
    rw [Cd,U]at z
    rw [Cd,U,S]
    have T0:(0:Int)<T:=by omega
    refine Int.lt_of_mul_lt_mul_right (a:=(T:Int)) ?_ (le_of_lt T0)
    have h':((2^n*(n*(b^n*pA (F+1) p)):Nat):Int)<(((hv p f b).natAbs*T:Nat):Int):=by exact_mod_cast h
    rw [natCast_mul (hv p f b).natAbs T]at h'
    refine Int.lt_of_le_of_lt ?_ h'
    rw [natCast_mul,Int.natCast_pow,natCast_mul n,mul_assoc]
    exact mul_le_mul_of_nonneg_left z (le_of_lt (pow_pos (by decide)))
 have ts:=Agy Z p
 rw [J]at ts
 rw [Z0,show f+(w:Int)-f=w by omega,Agk]
 by_cases hs:0<=hv p f b
 . exact I _ (by rw [Uc,J]) ts (by rw [Aa4];omega)
 . have:=I ((ty f b p).map (· * -1)) (by rw [length_map,Uc,J]) (fun i=>by rw [J4,natAbs_mul];simpa using ts i) (by rw [J4,Aa4];omega)
   have e:be (Gp w 1 ((ty f b p).map (· * -1)))=(be (Gp w 1 (ty f b p))).map (· * -1):=Ms _ _ (by simp [Td,Cd]) fun x _=>by
    have W:∀(q:List Int) (t c:Int),hv (q.map (· * -1)) t c=hv q t c* -1:=by
     intro q t c
     induction q with
     | nil=>simp [hv]
     | cons y q ih=>simp only [map_cons,hv,ih,length_map];grind
    rw [W,Abm,Abm,Hr,Hr,W]
    grind
   rw [e,Uh (by decide)]at this
   exact this
theorem Ao0 (w:Int) (s:List Int):be (Gp w 1 (s.map (· * -1)))=(be (Gp w 1 s)).map (· * -1):=Ms _ _ (by simp [Td,Cd]) fun x _=>by
 have z:∀(q:List Int) (t c:Int),hv (q.map (· * -1)) t c=hv q t c* -1:=by
  intro q t c
  induction q with
  | nil=>simp [hv]
  | cons y q I=>simp only [map_cons,hv,I,length_map];grind
 rw [z,Abm,Abm,Hr,Hr,z]
 grind
theorem Avn {p:List Int}{f:Int}{b F w T n:Nat} (M:p.length=n+1) (n1:1<=n) (Z:0<b) (w0:0<w) (hf:f.natAbs<=F*b) (T1:1<=T) (hw:w*T<=b) (h:2^n*(n*(n*(b^(n-1)*pA (F+1) p)))<(hv (dr p) f b).natAbs*T):chg (Dr p f (f+w) b)<=1:=by
 have J:∀s:List Int,s.length=n+1->(∀i,(co s i).natAbs*b^(i+1)<=b^(n+1)*pA (F+1) p)->co s 1=(hv (dr p) f b).natAbs->chg (be (Gp w 1 s))<=1:=by
  intro s ls hs U
  obtain⟨a,r,es⟩:∃a r,Gp (w:Int) 1 s=a::r:=by
   have:=Cd (w:Int) 1 s
   match Gp (w:Int) 1 s,this with
   | a::r,_=>exact⟨a,r,rfl⟩
   | [],h=>rw [ls]at h;simp at h
  have O:r.length=n:=by
   have:=Cd (w:Int) 1 s
   rw [es,ls]at this
   simpa using this
  have cs:∀i,co (a::r) i=co s i*(w:Int)^i:=fun i=>by rw [<-es,Uk,Int.one_mul]
  obtain⟨c,I,W⟩:∃c I,dr (a::r)=c::I:=by
   have:=G3 (a::r)
   match dr (a::r),this with
   | c::I,_=>exact⟨c,I,rfl⟩
   | [],h=>simp [O]at h;omega
  have a0:I.length+1=n:=by
   have:=G3 (a::r)
   rw [W]at this
   simp [O]at this
   omega
  have cd:∀i,co (c::I) i=((i:Int)+1)*(co s (i+1)*(w:Int)^(i+1)):=fun i=>by rw [<-W,Wj,cs]
  have c0:c=((hv (dr p) f b).natAbs*w:Nat):=by
   have:=cd 0
   rw [Bp,U]at this
   rw [this,natCast_mul,pow_succ,pow_zero]
   simp
  have z:ab I*T<=I.length*(n*(w*(b^(n-1)*pA (F+1) p)):Nat):=Alm fun i=>by
   rw [Ads c I i,cd,natAbs_mul,natAbs_mul,natAbs_pow,natAbs_natCast]
   by_cases hi:i+2<=n
   . have h1:=hs (i+1+1)
     generalize (co s (i+1+1)).natAbs=t at*
     have h2:w^(i+1)*T<=b^(i+1):=by
      have:w^(i+1)*T<=w^(i+1)*T^(i+1):=mul_le_mul_left _ (by
       have:=pow_le_pow_right T1 (show 1<=i+1 by omega)
       rw [pow_one]at this
       exact this)
      rw [<-mul_pow]at this
      exact le_trans this (pow_le_pow_left hw _)
     have h3:t*w^(i+1+1)*T<=w*(b^(n-1)*pA (F+1) p):=by
      refine Nat.le_of_mul_le_mul_right (c:=b*b) ?_ (Nat.mul_pos Z Z)
      have S:t*w^(i+1+1)*T*(b*b)=t*w*(b*b)*(w^(i+1)*T):=by rw [Nat.pow_succ];grind
      have e2:t*w*(b*b)*b^(i+1)=w*(t*b^(i+1+1+1)):=by rw [Nat.pow_succ b (i+1+1),Nat.pow_succ b (i+1)];grind
      have e3:b^(n+1)=b^(n-1)*(b*b):=by
       rw [show n+1=n-1+1+1 by omega,Nat.pow_succ,Nat.pow_succ]
       grind
      rw [S]
      refine le_trans (mul_le_mul_left _ h2) ?_
      rw [e2]
      refine le_trans (mul_le_mul_left _ h1) ?_
      rw [e3]
      exact le_of_eq (by grind)
     have e4:(((i+1:Nat):Int)+1).natAbs=i+2:=by omega
     rw [e4,Nat.mul_assoc]
     exact mul_le_mul hi h3
   . rw [Bl (by omega)]
     simp
  have pos:∀j,j<n->0<co (be (c::I)) j:=fun j hj=>Aj0 (by
   rw [c0]
   have T0:(0:Int)<T:=by omega
   refine Int.lt_of_mul_lt_mul_right (a:=(T:Int)) ?_ (le_of_lt T0)
   have h':(2^n*(n*(n*(b^(n-1)*pA (F+1) p))))*w<((hv (dr p) f b).natAbs*T)*w:=Nat.mul_lt_mul_of_pos_right h w0
   have Y:((2^n*(n*(n*(b^(n-1)*pA (F+1) p)))*w:Nat):Int)<(((hv (dr p) f b).natAbs*T*w:Nat):Int):=by exact_mod_cast h'
   have e5:(((hv (dr p) f b).natAbs*w:Nat):Int)*T=(((hv (dr p) f b).natAbs*T*w:Nat):Int):=by
    rw [<-natCast_mul]
    congr 1
    grind
   rw [e5]
   refine Int.lt_of_le_of_lt ?_ Y
   have z2:ab I*T<=((n*(n*(w*(b^(n-1)*pA (F+1) p))):Nat):Int):=Int.le_trans z (by
    rw [<-natCast_mul]
    exact_mod_cast mul_le_mul_right _ (show I.length<=n by omega))
   have p1:(2:Int)^I.length<=2^n:=by
    have:2^I.length<=2^n:=pow_le_pow_right (by decide) (show I.length<=n by omega)
    exact_mod_cast this
   have nn:0<=ab I*T:=mul_nonneg (Abe I) (by omega)
   rw [mul_assoc]
   refine Int.le_trans (Int.mul_le_mul_of_nonneg_right p1 nn) ?_
   refine Int.le_trans (mul_le_mul_of_nonneg_left z2 (le_of_lt (pow_pos (by decide)))) ?_
   have e6:(2:Int)^n=((2^n:Nat):Int):=by simp
   rw [e6,<-natCast_mul]
   exact Int.le_of_eq (by congr 1;grind)) (by omega)
  rw [es]
  refine Aj5 _ fun j hj U=> ?_
  rw [Td,length_cons,O]at hj
  have:=pos j (by omega)
  rw [<-W,Ajz,O]at this
  have nj:(0:Int)<=((n:Int)-j)*co (be (a::r)) j:=mul_nonneg (by omega) U
  refine Int.lt_of_not_ge fun neg=> ?_
  have:((j:Int)+1)*co (be (a::r)) (j+1)<=0:=Int.mul_nonpos_of_nonneg_of_nonpos (by omega) neg
  omega
 have ts:=Agy hf p
 rw [M]at ts
 have S:co (ty f b p) 1=hv (dr p) f b:=by
  match p,M with
  | a::r,_=>exact Ald f b r a
 rw [Z0,show f+(w:Int)-f=w by omega,Agk]
 by_cases hs:0<=hv (dr p) f b
 . exact J _ (by rw [Uc,M]) ts (by rw [S];omega)
 . have:=J ((ty f b p).map (· * -1)) (by rw [length_map,Uc,M]) (fun i=>by rw [J4,natAbs_mul];simpa using ts i) (by rw [J4,S];omega)
   rw [Ao0,Uh (by decide)]at this
   exact this
theorem Aip {e z:Nat} (h1:1<=e):∀(p:List Int),(∀i,(co p i).natAbs<=2^z)->pA e p<=p.length*(2^z*e^p.length)
 | [],_=>by simp [pA]
 | a::r,h=>by
   have I:=h 0
   rw [Bp]at I
   have J:=Aip h1 r fun i=>by have:=h (i+1);rw [Bm]at this;exact this
   rw [pA,length_cons,Nat.pow_succ]
   have M:1<=e^r.length:=Nat.pow_pos h1
   have h2:=mul_le_mul_left e J
   have S:2^z*1<=2^z*(e^r.length*e):=mul_le_mul_left _ (Nat.mul_pos M h1)
   have O:(r.length+1)*(2^z*(e^r.length*e))=e*(r.length*(2^z*e^r.length))+2^z*(e^r.length*e):=by grind
   rw [O]
   omega
theorem Aj1 {h B A M n T:Nat} (z:0<B) (h1:B<=2*M*h) (h2:2^n*(n*(n*A))*(2*M)<T):2^n*(n*(n*(B*A)))<h*T:=by
 refine Nat.lt_of_mul_lt_mul_right (a:=2*M) ?_
 have I:2^n*(n*(n*(B*A)))*(2*M)=B*(2^n*(n*(n*A))*(2*M)):=by grind
 have J:h*T*(2*M)=2*M*h*T:=by grind
 rw [I,J]
 exact lt_of_lt_of_le (Nat.mul_lt_mul_of_pos_left h2 z) (mul_le_mul_right _ h1)
theorem Aaa (u:List Int) (k i:Nat):co (u++replicate k 0) i=co u i:=by
 by_cases hi:i<u.length
 . rw [Cg (by simp;omega),Cg hi,List.getElem_append_left hi]
 . rw [Bl (p:=u) (by omega)]
   unfold co
   rw [getD_eq_getElem?_getD,getElem?_append_right (by omega),getElem?_replicate]
   split<;>rfl
theorem Aar (x:Rat) (m:Nat):∀n,x^(m+n)=x^m*x^n
 | 0=>by rw [Rat.pow_zero,Rat.mul_one];rfl
 | n+1=>by rw [<-Nat.add_assoc,Rat.pow_succ,Rat.pow_succ,Aar x m n,Rat.mul_assoc]
theorem both {p q u v:List Int}{c f:Int}{b L n:Nat} (hb:0<b) (O:p.length=n+1) (S:q.length=n) (U:u.length=L+1) (I:v.length=L+1) (n1:1<=n) (e:∀i,mu u (co p) i+mu v (co q) i=if i=0 then c else 0):hv u f b*hv p f b+hv v f b*hv q f b*b=c*(b:Int)^(L+n):=by
 have b0:(b:Rat)≠0:=by
  have:b≠0:=by omega
  exact_mod_cast this
 obtain⟨x,z⟩:∃x:Rat,x*((b:Int):Rat)=(f:Rat):=⟨(f:Rat)/(b:Rat),by rw [intCast_natCast];grind⟩
 have h1:=Aed x f b z u
 have h2:=Aed x f b z p
 have W:=Aed x f b z v
 have Y:=Aed x f b z q
 have ee:ev u x*ev p x+ev v x*ev q x=c:=by
  rw [<-Al8,<-Al8,<-Al7]
  have:ev [c] x=c:=by simp [ev,Rat.mul_zero,Rat.add_zero]
  rw [<-this]
  refine Aae x _ _ fun i=> ?_
  rw [Hz,Qw,Qw,e]
  cases i with
  | zero=>rfl
  | succ i=>rw [Bm,Bu];rfl
 obtain⟨m,rfl⟩:∃m,n=m+1:=⟨n-1,by omega⟩
 rw [U,Rat.pow_succ]at h1
 rw [O,Rat.pow_succ,Rat.pow_succ]at h2
 rw [I,Rat.pow_succ]at W
 rw [S,Rat.pow_succ]at Y
 have g:((hv u f b*hv p f b+hv v f b*hv q f b*b:Int):Rat)=((c*(b:Int)^(L+(m+1)):Int):Rat):=by
  rw [intCast_add,intCast_mul,intCast_mul,intCast_mul,intCast_mul,Rat.intCast_pow,Aar,Rat.pow_succ]
  rw [intCast_natCast]at*
  generalize (b:Rat)^L=J at*
  generalize (b:Rat)^m=M at*
  have Z:(hv u f b:Rat)=ev u x*J:=by grind
  have k2:(hv p f b:Rat)=ev p x*(M*b):=by grind
  have k3:(hv v f b:Rat)=ev v x*J:=by grind
  have k4:(hv q f b:Rat)=ev q x*M:=by grind
  rw [Z,k2,k3,k4]
  grind
 exact_mod_cast g
theorem narrow {p:List Int}{f:Int}{l z n b F w:Nat} (tp:Tr p) (S:p.length=n+1) (n1:1<=n) (lp:p.length<=l) (Z:l<=30) (a9:1<=z) (zp:∀i,(co p i).natAbs<=2^z) (np:Npt p (dr p)) (F1:1<=F) (hF:F<2^(z+2)) (J:0<b) (w0:0<w) (W:f.natAbs<=F*b) (hw:w*2^(9*l*(z+10))<=b):chg (Dr p f (f+w) b)<=1:=by
 have zq:∀i,(co (dr p) i).natAbs<=2^(z+5):=fun i=>by
  rw [Wj,natAbs_mul]
  by_cases hi:i+1<p.length
  . have h1:((i:Int)+1).natAbs<=2^5:=by omega
    rw [add_comm z 5,pow_add]
    exact mul_le_mul h1 (zp _)
  . rw [Bl (by omega)]
    simp
 have lq:(dr p).length=n:=by rw [G3,S];rfl
 obtain⟨u,v,c,hc,e,lu,lv,zu,zv⟩:=Ao1 (p:=p) (q:=dr p) (l:=l) (b:=z+5) (Al4 tp) lp (by omega) Z (by omega) (by omega) (by omega) (fun i=>le_trans (zp i) (pow_le_pow_right (by decide) (by omega))) zq np
 obtain⟨L,hL⟩:∃L,2*l=L+1:=⟨2*l-1,by omega⟩
 have bo:=both (u:=u++replicate (2*l-u.length) 0) (v:=v++replicate (2*l-v.length) 0) (c:=c) (f:=f) (L:=L) J S lq (by simp;omega) (by simp;omega) n1 (fun i=>by
  rw [Cv (co p) _ u (Aaa u _),Cv (co (dr p)) _ v (Aaa v _),e])
 have U:=Yj W (u++replicate (2*l-u.length) 0)
 have V:=Yj W (v++replicate (2*l-v.length) 0)
 have Ub:=Aip F1 (u++replicate (2*l-u.length) 0) (fun i=>by rw [Aaa];exact zu i)
 have Vb:=Aip F1 (v++replicate (2*l-v.length) 0) (fun i=>by rw [Aaa];exact zv i)
 have Ab:=Aip (e:=F+1) (by omega) p zp
 have a0:(u++replicate (2*l-u.length) 0).length=2*l:=by simp;omega
 have a6:(v++replicate (2*l-v.length) 0).length=2*l:=by simp;omega
 rw [a0]at U Ub
 rw [a6]at V Vb
 generalize hv (u++replicate (2*l-u.length) 0) f b=Y at*
 generalize hv (v++replicate (2*l-v.length) 0) f b=I at*
 generalize pA F (u++replicate (2*l-u.length) 0)=PU at*
 generalize pA F (v++replicate (2*l-v.length) 0)=PV at*
 have Fl:F^(2*l)<=2^((z+2)*(2*l)):=by
  rw [pow_mul 2 (z+2)]
  exact pow_le_pow_left (Nat.le_of_lt hF) _
 have l6:2*l<=2^6:=by omega
 have MM:∀P,P<=2*l*(2^((z+5+6)*(2*l))*F^(2*l))->P<=2^(6+((z+5+6)*(2*l)+(z+2)*(2*l))):=fun P h=>le_trans h (by
  rw [pow_add,pow_add]
  exact mul_le_mul l6 (mul_le_mul_left _ Fl))
 have Um:=MM _ Ub
 have Vm:=MM _ Vb
 have Am:pA (F+1) p<=2^(5+(z+(z+3)*l)):=le_trans Ab (by
  rw [pow_add,pow_add]
  have h1:p.length<=2^5:=by omega
  have h2:(F+1)^p.length<=2^((z+3)*l):=by
   rw [pow_mul 2 (z+3)]
   have:F+1<=2^(z+3):=by
    have:2^(z+2)<=2^(z+3):=pow_le_pow_right (by decide) (by omega)
    omega
   exact le_trans (pow_le_pow_left this _) (pow_le_pow_right (two_pow_pos _) lp)
  exact mul_le_mul h1 (mul_le_mul_left _ h2))
 generalize hM:2^(6+((z+5+6)*(2*l)+(z+2)*(2*l)))=M at*
 have T1:1<=2^(9*l*(z+10)):=two_pow_pos _
 have small:2^n*(n*(n*pA (F+1) p))*(2*M)<2^(9*l*(z+10)):=by
  have n5:n<=2^5:=by omega
  have h1:n*(n*pA (F+1) p)<=2^5*(2^5*2^(5+(z+(z+3)*l))):=mul_le_mul n5 (mul_le_mul n5 Am)
  have h2:2^n*(n*(n*pA (F+1) p))*(2*M)<=2^n*(2^5*(2^5*2^(5+(z+(z+3)*l))))*(2*M):=mul_le_mul_right _ (mul_le_mul_left _ h1)
  refine lt_of_le_of_lt h2 ?_
  have O:2^n*(2^5*(2^5*2^(5+(z+(z+3)*l))))*(2*M)=2^(n+(5+(5+(5+(z+(z+3)*l))))+(1+(6+((z+5+6)*(2*l)+(z+2)*(2*l))))):=by
   rw [<-hM,<-pow_add,<-pow_add,<-pow_add,<-Nat.pow_succ',<-pow_add]
   congr 1
   omega
  rw [O]
  refine pow_lt_pow_right (by decide) ?_
  have a1:(z+3)*l=z*l+3*l:=add_mul _ _ _
  have a2:(z+5+6)*(2*l)=2*(z*l)+22*l:=by grind
  have a3:(z+2)*(2*l)=2*(z*l)+4*l:=by grind
  have a4:9*l*(z+10)=9*(z*l)+90*l:=by grind
  have a5:z*1<=z*l:=mul_le_mul_left _ (by omega)
  rw [a1,a2,a3,a4]
  generalize z*l=x at*
  omega
 have a8:b^n<=M*(hv p f b).natAbs+M*((hv (dr p) f b).natAbs*b):=by
  have c1:1<=c.natAbs:=by omega
  have a7:b^(L+n)<=Y.natAbs*(hv p f b).natAbs+I.natAbs*(hv (dr p) f b).natAbs*b:=by
   have h1:(c*(b:Int)^(L+n)).natAbs=c.natAbs*b^(L+n):=by rw [natAbs_mul,natAbs_pow,natAbs_natCast]
   have h2:=natAbs_add_le (Y*hv p f b) (I*hv (dr p) f b*b)
   rw [bo,h1,natAbs_mul,natAbs_mul,natAbs_mul,natAbs_natCast]at h2
   exact le_trans (le_trans (by rw [one_mul];exact le_refl _) (mul_le_mul_right (b^(L+n)) c1)) h2
  refine Nat.le_of_mul_le_mul_right (c:=b^(L+1)) ?_ (Nat.pow_pos J)
  have O:b^n*b^(L+1)=b^(L+n)*b:=by rw [<-pow_add,<-Nat.pow_succ];congr 1;omega
  rw [O]
  refine le_trans (mul_le_mul_right b a7) ?_
  rw [hL]at U V
  have U2:=le_trans U (mul_le_mul_left _ Um)
  have V2:=le_trans V (mul_le_mul_left _ Vm)
  have k1:=mul_le_mul_right (hv p f b).natAbs U2
  have k2:=mul_le_mul_right ((hv (dr p) f b).natAbs*b) V2
  generalize (hv p f b).natAbs=x at*
  generalize (hv (dr p) f b).natAbs=y at*
  generalize b^(L+1)=B at*
  have e2:(Y.natAbs*x+I.natAbs*y*b)*b=Y.natAbs*b*x+I.natAbs*b*(y*b):=by grind
  have e3:(M*x+M*(y*b))*B=B*M*x+B*M*(y*b):=by grind
  rw [e2,e3]
  omega
 by_cases big:b^n<=2*M*(hv p f b).natAbs
 . have h0:=Aj1 (Nat.pow_pos J) big small
   refine le_trans (le_of_eq (Avm S J W T1 hw (lt_of_le_of_lt (mul_le_mul_left _ (mul_le_mul_left n (le_mul_of_pos_left _ (by omega)))) h0))) (by decide)
 . refine Avn S n1 J w0 W T1 hw (Aj1 (Nat.pow_pos J) ?_ small)
   refine Nat.le_of_mul_le_mul_right (c:=b) ?_ J
   have O:b^(n-1)*b=b^n:=by rw [<-Nat.pow_succ];congr 1;omega
   rw [O]
   generalize (hv p f b).natAbs=x at*
   generalize (hv (dr p) f b).natAbs=y at*
   have e2:2*M*y*b=2*(M*(y*b)):=by grind
   have e3:2*M*x=2*(M*x):=by grind
   rw [e2]
   rw [e3]at big
   omega
theorem Yd {z a:List Int} (h:z.length=a.length) (i:Nat):co (sc z a) i=co z i*co a i:=by
 by_cases hi:i<a.length
 . rw [Cg (by simp [sc];omega),Cg (by omega),Cg hi]
   simp [sc]
 . rw [Bl (p:=a) (by omega),mul_zero]
   exact Bl (by simp [sc];omega)
theorem Lh {z a:List Int} (h:z.length=a.length):(sc z a).length=a.length:=by simp [sc];omega
theorem Yb (c:List Int) (i:Nat):co c.dropLast i=if i+1<c.length then co c i else 0:=by
 by_cases hi:i+1<c.length
 . rw [if_pos hi,Cg (by simp;omega),Cg (by omega),List.getElem_dropLast]
 . rw [if_neg hi]
   exact Bl (by simp;omega)
theorem Asv (c:List Int) (i:Nat):co c.tail i=co c (i+1):=by
 cases c with
 | nil=>simp [co]
 | cons a r=>rw [List.tail_cons,Bm]
theorem Ah7 (X Y:Int):∀(n:Nat) (c:List Int),c.length=n+1->hv (sc (bn n) c) X Y=bf n c X Y
 | 0,c,h=>by
   match c,h with
   | [a],_=>simp [sc,bn,hv,bf]
 | n+1,c,h=>by
   have z:c.dropLast.length=n+1:=by rw [length_dropLast,h];rfl
   have I:c.tail.length=n+1:=by rw [length_tail,h];rfl
   have J:(sc (bn n) c.dropLast).length=n+1:=by rw [Lh (by rw [Ga,z]),z]
   have M:(sc (bn n) c.tail).length=n+1:=by rw [Lh (by rw [Ga,I]),I]
   have e:sc (bn (n+1)) c=al (sc (bn n) c.dropLast++ [0]) (0::sc (bn n) c.tail):=Adp (by
    rw [Lh (by rw [Ga,h]),J2,length_append,J,h]
    simp only [length_cons,length_nil,M]
    omega) fun i=>by
    rw [Yd (by rw [Ga,h]),Hz,Gi,Yd (by rw [Ga,z]),J,Yb]
    cases i with
    | zero=>
      rw [Bp,J3,J3,if_neg (by omega),if_pos (by omega)]
      omega
    | succ i=>
      rw [Bm,Yd (by rw [Ga,I]),Asv,Lp]
      split
      . rename_i hi
        rw [Bl (p:=bn n) (i:=i+1) (by rw [Ga];omega),zero_add,zero_add]
      . split
        . rw [Int.add_mul]
        . rw [Bl (p:=c) (by omega)]
          simp
   rw [e,Ame _ _ _ _ (by rw [length_append,J];simp only [length_cons,length_nil,M]),Aec,J6,Ah7 X Y n _ z,Ah7 X Y n _ I,bf]
   grind
noncomputable def gw (α γ:Int):Nat->List Int
 | 0=>[1]
 | n+1=>γ^(n+1)::(gw α γ n).map (α* ·)
theorem Lg (α γ:Int):∀n,(gw α γ n).length=n+1
 | 0=>rfl
 | n+1=>by rw [gw,length_cons,length_map,Lg α γ n]
theorem Aea {α γ:Int} (z:0<α) (I:0<γ):∀n,∀w∈gw α γ n,0<w
 | 0,w,h=>by
   rw [mem_singleton.mp h]
   decide
 | n+1,w,h=>by
   rcases mem_cons.mp h with rfl | h
   . exact pow_pos I
   . obtain⟨v,hv,rfl⟩:=mem_map.mp h
     exact mul_pos z (Aea z I n v hv)
theorem Amf (α γ X Y:Int):∀(n:Nat) (q:List Int),q.length=n+1->hv (sc (gw α γ n) q) X Y=hv q (α*X) (γ*Y)
 | 0,q,h=>by
   match q,h with
   | [a],_=>simp [sc,gw,hv]
 | n+1,q,h=>by
   match q,h with
   | a::r,h=>
     have z:r.length=n+1:=by simpa using h
     have e:sc (gw α γ (n+1)) (a::r)=γ^(n+1)*a::(sc (gw α γ n) r).map (α* ·):=by
      show γ^(n+1)*a::zipWith (· * ·) ((gw α γ n).map (α* ·)) r=_
      congr 1
      rw [sc,List.map_zipWith,List.zipWith_map_left]
      congr 1
      funext x y
      exact mul_assoc _ _ _
     have I:∀(s:List Int),hv (s.map (α* ·)) X Y=α*hv s X Y:=fun s=>by
      induction s with
      | nil=>simp [hv]
      | cons y s J=>simp only [map_cons,hv,J,length_map];grind
     rw [e,J6,I,Amf α γ X Y n r z,J6,length_map,Lh (by rw [Lg,z]),z,Int.mul_pow]
     grind
theorem Ao5:∀z:List Int,(∀w∈z,0<w)->∃(I:List Int) (P:Int),0<P/\I.length=z.length/\(∀v∈I,0<v)/\∀i,i<z.length->co z i*co I i=P
 | [],_=>⟨[],1,by decide,rfl,by simp,by simp⟩
 | a::z,h=>by
   obtain⟨I,P,J,O,hv,e⟩:=Ao5 z fun w S=>h w (by simp [S])
   have M:=h a (by simp)
   refine⟨P::I.map (a* ·),a*P,mul_pos M J,by simp [O],fun v h=> ?_,fun i hi=> ?_⟩
   . rcases mem_cons.mp h with rfl | h
     . exact J
     . obtain⟨u,U,rfl⟩:=mem_map.mp h
       exact mul_pos M (hv u U)
   . cases i with
     | zero=>rw [Bp,Bp]
     | succ i=>
       rw [Bm,Bm,Du]
       have:=e i (by simpa using hi)
       rw [<-this]
       grind
theorem Z7 {P:Int} (z:0<P) (q:List Int):chg (q.map (P* ·))=chg q:=by
 have e:q.map (P* ·)=q.map (· *P):=map_congr_left fun x _=>mul_comm _ _
 rw [e,Uh (by omega)]
theorem Uu (P X Y:Int):∀q:List Int,hv (q.map (P* ·)) X Y=P*hv q X Y
 | []=>by simp [hv]
 | w::r=>by
   have:=Uu P X Y r
   simp only [map_cons,hv,this,length_map]
   grind
theorem Abn (k t b:Int) {q:List Int}{n:Nat} (h:q.length=n+1):hv q (k*t) (k*b)=k^n*hv q t b:=by
 match q,h with
 | w::r,h=>
   have:r.length=n:=by simpa using h
   rw [Au5,this]
theorem Aj4 {n:Nat}{e r:List Int}{α γ P:Int} (J:0<α) (M:0<γ) (O:0<P) (z:e.length=n+1) (S:r.length=n+1) (h:∀x:Int,1<=x->bf n e (α*x) (γ*1)=P*hv r x 1):chg e=chg r:=by
 have I:(sc (bn n) e).length=n+1:=by rw [Lh (by rw [Ga,z]),z]
 have U:∀w∈bn n,0<w:=fun w W=>by
  obtain⟨i,hi,rfl⟩:=getElem_of_mem W
  rw [Ga]at hi
  have:=Z2 n i (by omega)
  rw [Cg (by rw [Ga];exact hi)]at this
  omega
 have Y:sc (gw α γ n) (sc (bn n) e)=r.map (P* ·):=Ms _ _ (by rw [Lh (by rw [Lg,I]),I,length_map,S]) fun x Z=>by
  rw [Amf _ _ _ _ n _ I,Ah7 _ _ n _ z,Uu,h x Z]
 have h1:chg (sc (gw α γ n) (sc (bn n) e))=chg (sc (bn n) e):=Z8 (by rw [Lg,I]) (Aea J M n)
 have h2:chg (sc (bn n) e)=chg e:=Z8 (by rw [Ga,z]) U
 rw [Y,Z7 O]at h1
 omega
theorem Qj {p:List Int}{f m l b:Int} (h1:f<m) (h2:m<l) (np:p≠ []):chg (Dr p f m b)+chg (Dr p m l b)<=chg (Dr p f l b):=by
 obtain⟨n,J⟩:∃n,p.length=n+1:=⟨p.length-1,by have:=length_pos_iff.mpr np;omega⟩
 obtain⟨α,S⟩:∃α,α=m-f:=⟨_,rfl⟩
 obtain⟨z,U⟩:∃z,z=l-m:=⟨_,rfl⟩
 have a0:0<α:=by omega
 have g0:0<z:=by omega
 have I:(Dr p f l b).length=n+1:=by rw [Gu,J]
 have bp:∀w∈bn n,0<w:=fun w hw=>by
  obtain⟨i,hi,rfl⟩:=getElem_of_mem hw
  rw [Ga]at hi
  have:=Z2 n i (by omega)
  rw [Cg (by rw [Ga];exact hi)]at this
  omega
 obtain⟨M,P,hP,W,a1,he⟩:=Ao5 (bn n) bp
 rw [Ga]at W he
 have Z:(sc M (Dr p f l b)).length=n+1:=by rw [Lh (by rw [W,I]),I]
 have O:(sc (gw α z n) (sc M (Dr p f l b))).length=n+1:=by rw [Lh (by rw [Lg,Z]),Z]
 have c1:chg (sc (gw α z n) (sc M (Dr p f l b)))=chg (Dr p f l b):=by
  rw [Z8 (by rw [Lg,Z]) (Aea a0 g0 n),Z8 (by rw [W,I]) a1]
 have val:∀X Y:Int,bf n (sc (gw α z n) (sc M (Dr p f l b))) X Y=P*hv p (f*(z*Y)+l*(α*X)) (b*(α*X+z*Y)):=fun X Y=>by
  rw [<-Ah7 X Y n _ O]
  have e:sc (bn n) (sc (gw α z n) (sc M (Dr p f l b)))=sc (gw α z n) ((Dr p f l b).map (P* ·)):=Adp (by
   rw [Lh (by rw [Ga,O]),O,Lh (by rw [Lg,length_map,I]),length_map,I]) fun i=>by
   rw [Yd (by rw [Ga,O]),Yd (by rw [Lg,Z]),Yd (by rw [W,I]),Yd (by rw [Lg,length_map,I]),Du]
   by_cases hi:i<n+1
   . rw [<-he i hi]
     grind
   . rw [Bl (p:=bn n) (by rw [Ga];omega),Bl (p:=gw α z n) (by rw [Lg];omega)]
     simp
  rw [e,Amf _ _ _ _ n _ (by rw [length_map,I]),Uu,K1]
 have ed:=Adj O
 rw [c1]at ed
 have s0:0<α+z:=by omega
 have hL:chg (lE n (sc (gw α z n) (sc M (Dr p f l b))))=chg (Dr p f m b):=Aj4 (α:=z) (γ:=α+z) (P:=P*(z^n*(α+z)^n)) g0 s0 (mul_pos hP (mul_pos (pow_pos g0) (pow_pos s0))) (Aem _ _) (by rw [Gu,J]) fun x _=>by
  rw [Alq _ _ n _ O,val,K1]
  have e1:f*(z*(z*x+(α+z)*1))+l*(α*(z*x))=z*((α+z)*(f*1+m*x)):=by rw [S,U];grind
  have e2:b*(α*(z*x)+z*(z*x+(α+z)*1))=z*((α+z)*(b*(x+1))):=by grind
  rw [e1,e2,Abn _ _ _ J,Abn _ _ _ J]
  grind
 have hR:chg (rE n (sc (gw α z n) (sc M (Dr p f l b))))=chg (Dr p m l b):=Aj4 (α:=α+z) (γ:=α) (P:=P*(α^n*(α+z)^n)) s0 a0 (mul_pos hP (mul_pos (pow_pos a0) (pow_pos s0))) (Af0 _ _) (by rw [Gu,J]) fun x _=>by
  rw [Alr _ _ n _ O,val,K1]
  have e1:f*(z*(α*1))+l*(α*((α+z)*x+α*1))=α*((α+z)*(m*1+l*x)):=by rw [S,U];grind
  have e2:b*(α*((α+z)*x+α*1)+z*(α*1))=α*((α+z)*(b*(x+1))):=by grind
  rw [e1,e2,Abn _ _ _ J,Abn _ _ _ J]
  grind
 omega
theorem Qi {p:List Int}{f l b k:Int} (z:0<k) (np:p≠ []):chg (Dr p (k*f) (k*l) (k*b))=chg (Dr p f l b):=by
 obtain⟨n,I⟩:∃n,p.length=n+1:=⟨p.length-1,by have:=length_pos_iff.mpr np;omega⟩
 have e:Dr p (k*f) (k*l) (k*b)=(Dr p f l b).map (k^n* ·):=Ms _ _ (by rw [Gu,length_map,Gu]) fun x _=>by
  rw [K1,Uu,K1,<-Abn _ _ _ I]
  congr 1<;>grind
 rw [e,Z7 (pow_pos z)]
noncomputable def V1 (a b:Int):Int:=((Nat.lcm a.natAbs b.natAbs:Nat):Int)
noncomputable def fst (t b B:Int):Int:=t*B.fdiv b
noncomputable def chB (p:List Int) (c:Int × Int):Nat:=chg (Gp (-c.2) 1 (seen p c.1 c.2))
noncomputable def chA (p:List Int) (c:Int × Int):Nat:=chg (Gp c.2 1 (seen p c.1 c.2))
noncomputable def chM (p:List Int) (c d:Int × Int):Nat:=chg (Dr p (fst c.1 c.2 (V1 c.2 d.2)) (fst d.1 d.2 (V1 c.2 d.2)) (V1 c.2 d.2))
noncomputable def Ov (q:Rat) (t:Int) (D:Nat):Prop:=q*(D:Rat)=(t:Rat)
theorem Yp {D:Nat} (h:0<D):(D:Rat)≠0:=by
 have:D≠0:=by omega
 exact_mod_cast this
theorem Ov.den {q:Rat}{t:Int}{D:Nat} (h:Ov q t D) (M:0<D):q.den∣D/\q.num*((D/q.den:Nat):Int)=t:=by
 have e:q.num*(D:Int)=t*(q.den:Int):=by
  have h1:=Atc q
  have:((q.num*(D:Int):Int):Rat)=((t*(q.den:Int):Int):Rat):=by
   rw [intCast_mul,intCast_mul,intCast_natCast,intCast_natCast,<-h1,<-h]
   grind
  exact_mod_cast this
 have z:q.den∣D:=by
  have c:Coprime q.den q.num.natAbs:=q.reduced.symm
  have:q.den∣q.num.natAbs*D:=by
   have:=congrArg natAbs e
   rw [natAbs_mul,natAbs_mul,natAbs_natCast,natAbs_natCast]at this
   rw [this]
   exact Nat.dvd_mul_left _ _
  exact c.dvd_of_dvd_mul_left this
 refine⟨z,?_⟩
 obtain⟨k,I⟩:=z
 have J:=q.den_pos
 rw [I,mul_div_cancel_left k J]
 rw [I,natCast_mul]at e
 have:(q.den:Int)*(q.num*(k:Int))=(q.den:Int)*t:=by grind
 exact eq_of_mul_eq_mul_left (by omega) this
theorem Ov.up {q:Rat}{t:Int}{D:Nat} (h:Ov q t D) (k:Nat):Ov q (k*t) (k*D):=by
 unfold Ov at*
 rw [intCast_mul,Rat.natCast_mul,intCast_natCast,<-h]
 grind
theorem Ov.sz {q:Rat}{t:Int}{D n m:Nat} (h:Ov q t D) (M:0<D) (S:D<2^n) (U:t.natAbs<2^m):q.num.natAbs<2^m/\q.den<2^n:=by
 obtain⟨⟨k,I⟩,e⟩:=h.den M
 have O:=q.den_pos
 have J:0<k:=pos_of_ne_zero fun z=>by rw [z]at I;omega
 rw [I,mul_div_cancel_left k O]at e
 constructor
 . have:=congrArg natAbs e
   rw [natAbs_mul,natAbs_natCast]at this
   have:=Nat.le_mul_of_pos_right q.num.natAbs J
   omega
 . have:=Nat.le_mul_of_pos_right q.den J
   omega
theorem Ov.lt {q r:Rat}{s t:Int}{D:Nat} (h:Ov q s D) (g:Ov r t D) (I:0<D):q<r↔s<t:=by
 have z:(0:Rat)<(D:Rat):=by exact_mod_cast I
 have e:(q*(D:Rat)<r*(D:Rat))↔q<r:=by
  constructor
  . intro h1
    exact Rat.lt_of_mul_lt_mul_right h1 (Rat.le_of_lt z)
  . intro h1
    exact Rat.mul_lt_mul_of_pos_right h1 z
 rw [<-e,h,g]
 exact_mod_cast Iff.rfl
theorem Aj3 {p:List Int}{lo hi:Rat}{f l:Int}{D:Nat} (np:p≠ []) (J:0<D) (S:Ov lo f D) (U:Ov hi l D):chM p (lo.num,(lo.den:Int)) (hi.num,(hi.den:Int))=chg (Dr p f l D):=by
 obtain⟨W,Y⟩:=S.den J
 obtain⟨Z,e2⟩:=U.den J
 have lp:=Nat.lcm_pos lo.den_pos hi.den_pos
 obtain⟨k,I⟩:=Nat.lcm_dvd W Z
 have k0:0<k:=pos_of_ne_zero fun z=>by rw [z]at I;omega
 have eB:V1 (lo.den:Int) (hi.den:Int)=((Nat.lcm lo.den hi.den:Nat):Int):=by
  unfold V1
  rw [natAbs_natCast,natAbs_natCast]
 have M:∀(q:Rat) (t:Int),q.den∣Nat.lcm lo.den hi.den->q.num*((D/q.den:Nat):Int)=t->t=(k:Int)*fst q.num (q.den:Int) ((Nat.lcm lo.den hi.den:Nat):Int):=fun q t ⟨j,hj⟩ ht=>by
  unfold fst
  have O:=q.den_pos
  rw [<-ht,I,hj,fdiv_eq_ediv_of_nonneg _ (by omega),<-natCast_ediv,mul_div_cancel_left _ O,Nat.mul_assoc,mul_div_cancel_left _ O,natCast_mul]
  grind
 have f1:=M lo f (Nat.dvd_lcm_left _ _) Y
 have f2:=M hi l (Nat.dvd_lcm_right _ _) e2
 have f3:(D:Int)=(k:Int)*((Nat.lcm lo.den hi.den:Nat):Int):=by rw [I,natCast_mul,mul_comm]
 unfold chM
 rw [eB,f1,f2,f3,Qi (by omega) np]
structure Pa (p:List Int) (l β F:Nat):Prop where
 tp:Tr p
 n2:1<=p.length
 lp:p.length<=l
 l30:l<=30
 b1:1<=β
 zp:∀i,(co p i).natAbs<=2^β
 np:Npt p (dr p)
 F1:1<=F
 hF:F<2^(β+2)
@[irreducible] noncomputable def tau (l β:Nat):Nat:=9*l*(β+10)
theorem Pa.ne {p:List Int}{l I F:Nat} (h:Pa p l I F):p≠ []:=fun z=>by have:=h.n2;rw [z]at this;simp at this
theorem Pa.nar {p:List Int}{l z F W D:Nat}{f:Int} (h:Pa p l z F) (J:0<D) (M:0<W) (O:f.natAbs<=F*D) (I:W*2^tau l z<=D):chg (Dr p f (f+W) D)<=1:=by
 unfold tau at I
 rcases lt_or_ge p.length 2 with h1 | n2
 . have e:(Dr p f (f+W) D).length=1:=by have:=h.n2;rw [Gu];omega
   obtain⟨c,e⟩:=List.length_eq_one_iff.mp e
   rw [e]
   unfold chg nz
   by_cases S:c=0<;>simp [S,adj]
 exact narrow (n:=p.length-1) h.tp (by omega) (by omega) h.lp h.l30 h.b1 h.zp h.np h.F1 h.hF J M O I
structure Stc (p:List Int) (l β F:Nat) (lo hi:Rat) (many ν κ:Nat) (f:Int) (W D:Nat):Prop where
 D0:0<D
 W0:0<W
 ol:Ov lo f D
 oh:Ov hi (f+W) D
 fl:f.natAbs<=F*D
 fh:(f+(W:Int)).natAbs<=F*D
 mn:many=chg (Dr p f (f+W) D)
 big:2<=many->W^20<=(2*F)^20*D^19/\W*3^κ*2^tau l β<=D*4^κ
 nu:4<=ν/\ν<2^(2*(tau l β+β+3))
 sz:D<2^(22*(tau l β+β+3)+10)
theorem Stc.act {p:List Int}{l I F:Nat}{lo hi:Rat}{many O κ:Nat}{f:Int}{W D:Nat} (J:Pa p l I F) (h:Stc p l I F lo hi many O κ f W D) (S:2<=many):1<=κ/\D<W*2^tau l I/\D<2^(20*(tau l I+I+3)):=by
 obtain⟨U,M⟩:=h.big S
 have lt:D<W*2^tau l I:=lt_of_not_le fun z=>by
  have:=J.nar h.D0 h.W0 h.fl z
  have:=h.mn
  omega
 refine⟨pos_of_ne_zero fun z=> ?_,lt,?_⟩
 . rw [z]at M
   simp at M
   omega
 . have h1:D^20<(W*2^tau l I)^20:=Nat.pow_lt_pow_left lt (by decide)
   rw [mul_pow]at h1
   have h2:=mul_le_mul_right ((2^tau l I)^20) U
   have Y:D^19*D<D^19*((2*F)^20*(2^tau l I)^20):=by
    rw [<-Nat.pow_succ]
    refine lt_of_lt_of_le h1 (le_trans h2 (le_of_eq (by grind)))
   have Z:=Nat.lt_of_mul_lt_mul_left Y
   refine lt_of_lt_of_le Z ?_
   rw [<-mul_pow,Nat.mul_comm 20,pow_mul]
   refine pow_le_pow_left ?_ 20
   have hF:=J.hF
   have e:2^(tau l I+I+3)=2^(I+3)*2^tau l I:=by rw [<-pow_add];congr 1;omega
   rw [e]
   refine mul_le_mul_right _ ?_
   have:2^(I+3)=2*2^(I+2):=by rw [Nat.pow_succ];omega
   omega
noncomputable def ph (many κ:Nat):Nat:=if many<=1 then 1 else 1+2*κ*many
theorem Akt (m k:Nat):1<=ph m k:=by unfold ph;split<;>omega
theorem Aiv (m k:Nat):ph m k<=1+2*k*m:=by unfold ph;split<;>omega
theorem Aqu {m z I k:Nat} (h:2<=m) (M:1<=k) (s:z+I<=m):ph z (k-1)+ph I (k-1)<ph m k:=by
 have h1:=Aiv z (k-1)
 have h2:=Aiv I (k-1)
 have e:ph m k=1+2*k*m:=by unfold ph;rw [if_neg (by omega)]
 obtain⟨j,rfl⟩:∃j,k=j+1:=⟨k-1,by omega⟩
 rw [e]
 rw [show j+1-1=j by omega]at*
 have O:2*j*z+2*j*I<=2*j*m:=by rw [<-Nat.mul_add];exact mul_le_mul_left _ s
 have J:2*(j+1)*m=2*j*m+2*m:=by grind
 rw [J]
 omega
theorem Aiw {m k:Nat} (h:2<=m) (I:1<=k):1+(ph m (k-1)+1)<ph m k:=by
 have h1:=Aiv m (k-1)
 have e:ph m k=1+2*k*m:=by unfold ph;rw [if_neg (by omega)]
 obtain⟨j,rfl⟩:∃j,k=j+1:=⟨k-1,by omega⟩
 rw [e]
 rw [show j+1-1=j by omega]at*
 have z:2*(j+1)*m=2*j*m+2*m:=by grind
 rw [z]
 omega
theorem Stc.wide {p:List Int}{l z F:Nat}{lo hi:Rat}{many I κ:Nat}{f:Int}{W D:Nat} (h:Stc p l z F lo hi many I κ f W D):W<=2*F*D:=by
 have h1:=h.fl
 have h2:=h.fh
 have e:2*F*D=2*(F*D):=by grind
 rw [e]
 omega
theorem piece {F κ T W D I E:Nat} (k1:1<=κ) (Z:W^20<=(2*F)^20*D^19) (b2:W*3^κ*T<=D*4^κ) (h:(4*I<=3*(E*W)/\E<=315)\/(I<=3*W/\16<=E)):I^20<=(2*F)^20*(E*D)^19/\I*3^(κ-1)*T<=E*D*4^(κ-1):=by
 obtain⟨j,rfl⟩:∃j,κ=j+1:=⟨κ-1,by omega⟩
 rw [show j+1-1=j by omega]
 rw [Nat.pow_succ,Nat.pow_succ]at b2
 constructor
 . rw [mul_pow E D]
   rcases h with⟨h1,h2⟩ | ⟨h1,h2⟩
   . refine Nat.le_of_mul_le_mul_left (c:=4^20) ?_ (by decide)
     have J:=pow_le_pow_left h1 20
     rw [mul_pow,mul_pow 3,mul_pow E W]at J
     refine le_trans J ?_
     have M:=mul_le_mul_left (3^20*E^20) Z
     have O:3^20*(E^20*W^20)=3^20*E^20*W^20:=by rw [Nat.mul_assoc]
     rw [O]
     refine le_trans M ?_
     have S:3^20*E<=4^20:=by
      have:3^20*E<=3^20*315:=mul_le_mul_left _ h2
      exact le_trans this (by decide)
     have U:3^20*E^20*((2*F)^20*D^19)=3^20*E*((2*F)^20*(E^19*D^19)):=by
      rw [show E^20=E^19*E from Nat.pow_succ E 19]
      generalize E^19=x
      generalize D^19=y
      generalize (2*F)^20=z
      generalize 3^20=c
      grind
     rw [U]
     exact mul_le_mul_right _ S
   . have J:=pow_le_pow_left h1 20
     rw [mul_pow]at J
     have M:=mul_le_mul_left (3^20) Z
     have S:3^20<=E^19:=le_trans (show 3^20<=16^19 by decide) (pow_le_pow_left h2 19)
     refine le_trans J (le_trans M ?_)
     have a4:=mul_le_mul_right ((2*F)^20*D^19) S
     refine le_trans a4 (le_of_eq ?_)
     generalize E^19=x
     generalize D^19=y
     generalize (2*F)^20=z
     grind
 . have Y:4*I<=3*(E*W):=by
    rcases h with⟨h1,_⟩ | ⟨h1,h2⟩
    . exact h1
    . have:16*W<=E*W:=mul_le_mul_right _ h2
      omega
   refine Nat.le_of_mul_le_mul_left (c:=4) ?_ (by decide)
   have J:=mul_le_mul_right (3^j*T) Y
   have M:=mul_le_mul_left E b2
   generalize 3^j=x at*
   generalize 4^j=y at*
   have O:4*(I*x*T)=4*I*(x*T):=by grind
   have U:3*(E*W)*(x*T)=E*(W*(x*3)*T):=by grind
   have e3:E*(D*(y*4))=4*(E*D*y):=by grind
   rw [O]
   rw [U]at J
   rw [e3]at M
   omega
theorem Tg {F D E:Nat}{a:Int} (h:a.natAbs<=F*D):((E:Int)*a).natAbs<=F*(E*D):=by
 rw [natAbs_mul,natAbs_natCast]
 have:=mul_le_mul_left E h
 have e:F*(E*D)=E*(F*D):=by grind
 omega
theorem Wo {F D:Nat}{a b c:Int} (z:a.natAbs<=F*D) (I:b.natAbs<=F*D) (h1:a<=c) (h2:c<=b):c.natAbs<=F*D:=by omega
theorem Stc.half {p:List Int}{l z F:Nat}{lo hi:Rat}{many ν κ:Nat}{f:Int}{W D:Nat} (O:Pa p l z F) (h:Stc p l z F lo hi many ν κ f W D) (S:2<=many) {mid:Rat}{m:Int}{I:Nat} (U:Ov mid m (8*p.length*D)) (n4:4<=I) (nn:I<=ν) (Y:((8*p.length:Nat):Int)*f<m) (Z:m<((8*p.length:Nat):Int)*(f+W)) (a3:4*(m-((8*p.length:Nat):Int)*f)<=3*(((8*p.length:Nat):Int)*W)) (a4:4*(((8*p.length:Nat):Int)*(f+W)-m)<=3*(((8*p.length:Nat):Int)*W)):
 ∃m1 S f1 J f2 M,Stc p l z F lo mid m1 I (κ-1) f1 J (8*p.length*D)/\Stc p l z F mid hi S I (κ-1) f2 M (8*p.length*D)/\m1+S<=many:=by
 obtain⟨k1,_,dm⟩:=h.act O S
 obtain⟨b1,b2⟩:=h.big S
 have a6:=O.l30
 have lp:=O.lp
 have n2:=O.n2
 obtain⟨E,hE⟩:∃E,E=8*p.length:=⟨_,rfl⟩
 rw [<-hE]at U Y Z a3 a4 ⊢
 have E1:E<=315:=by omega
 have E0:0<E:=by omega
 have sz:E*D<2^(22*(tau l z+z+3)+10):=by
  have:22*(tau l z+z+3)+10=(2*(tau l z+z+3)+10)+20*(tau l z+z+3):=by omega
  rw [this,pow_add]
  refine lt_of_lt_of_le (Nat.mul_lt_mul_of_pos_left dm E0) (mul_le_mul_right _ ?_)
  refine le_trans (show E<=2^10 by omega) (pow_le_pow_right (by decide) (by omega))
 have fl:=Tg (E:=E) h.fl
 have fh:=Tg (E:=E) h.fh
 have fm:=Wo fl fh (le_of_lt Y) (le_of_lt Z)
 have nu:4<=I/\I<2^(2*(tau l z+z+3)):=⟨n4,lt_of_le_of_lt nn h.nu.2⟩
 have D0:=Nat.mul_pos E0 h.D0
 obtain⟨J,a0⟩:∃J:Nat,(J:Int)=m-E*f:=⟨(m-E*f).toNat,by omega⟩
 obtain⟨M,a5⟩:∃M:Nat,(M:Int)=E*(f+W)-m:=⟨(E*(f+W)-m).toNat,by omega⟩
 have c1:4*J<=3*(E*W):=by
  have:((4*J:Nat):Int)<=((3*(E*W):Nat):Int):=by
   rw [natCast_mul,natCast_mul,natCast_mul,a0]
   exact a3
  exact_mod_cast this
 have c2:4*M<=3*(E*W):=by
  have:((4*M:Nat):Int)<=((3*(E*W):Nat):Int):=by
   rw [natCast_mul,natCast_mul,natCast_mul,a5]
   exact a4
  exact_mod_cast this
 have e1:(E:Int)*f+(J:Int)=m:=by omega
 have e2:m+(M:Int)=E*(f+W):=by omega
 have two:=Qj (b:=((E*D:Nat):Int)) Y Z O.ne
 have a7:many=chg (Dr p (E*f) (E*(f+W)) ((E*D:Nat):Int)):=by
  rw [natCast_mul,Qi (by omega) O.ne]
  exact h.mn
 refine⟨_,_,(E:Int)*f,J,m,M,⟨D0,by omega,h.ol.up E,by rw [e1];exact U,fl,by rw [e1];exact fm,rfl,fun _=>piece k1 b1 b2 (.inl ⟨c1,E1⟩),nu,sz⟩,⟨D0,by omega,U,by rw [e2];exact h.oh.up E,fm,by rw [e2];exact fh,rfl,fun _=>piece k1 b1 b2 (.inl ⟨c2,E1⟩),nu,sz⟩,?_⟩
 rw [e1,e2]
 omega
theorem Stc.near {p:List Int}{l I F:Nat}{lo hi:Rat}{many J κ:Nat}{f:Int}{W D:Nat} (O:Pa p l I F) (h:Stc p l I F lo hi many J κ f W D) (m2:2<=many) {a b:Nat} (ab:a<b) (b3:b<=a+3) (bc:b<=4*J) {S U:Rat} (ol:Ov S (((4*J:Nat):Int)*f+W*a) (4*J*D)) (oh:Ov U (((4*J:Nat):Int)*f+W*b) (4*J*D)) (Y:chg (Dr p (((4*J:Nat):Int)*f+W*a) (((4*J:Nat):Int)*f+W*b) ((4*J*D:Nat):Int))=many):
 (∃Z M,Stc p l I F S U many (J*J) (κ-1) Z M (4*J*D))/\(0<a->∃Z M,Stc p l I F lo S 0 4 0 Z M (4*J*D))/\(b<4*J->∃Z M,Stc p l I F U hi 0 4 0 Z M (4*J*D)):=by
 obtain⟨k1,_,dm⟩:=h.act O m2
 obtain⟨b1,b2⟩:=h.big m2
 have wd:=h.wide
 have n4:=h.nu.1
 have nb:=h.nu.2
 have W0:=h.W0
 have hD:=h.D0
 obtain⟨E,hE⟩:∃E,E=4*J:=⟨_,rfl⟩
 rw [<-hE]at ol oh Y bc ⊢
 have E0:0<E:=by omega
 have D0:=Nat.mul_pos E0 h.D0
 have fl:=Tg (E:=E) h.fl
 have fh:=Tg (E:=E) h.fh
 have wa:(W:Int)*a<W*b:=Int.mul_lt_mul_of_pos_left (by omega) (by omega)
 have wb:(W:Int)*b<=W*E:=mul_le_mul_of_nonneg_left (by omega) (by omega)
 have w0:(0:Int)<=W*a:=mul_nonneg (by omega) (by omega)
 have ee:(E:Int)*(f+W)=E*f+W*E:=by grind
 rw [ee]at fh
 have fa:=Wo fl fh (show(E:Int)*f<=E*f+W*a by omega) (by omega)
 have fb:=Wo fl fh (show(E:Int)*f<=E*f+W*b by omega) (by omega)
 have sz:E*D<2^(22*(tau l I+I+3)+10):=by
  have:22*(tau l I+I+3)+10=(2*(tau l I+I+3)+10)+20*(tau l I+I+3):=by omega
  rw [this,pow_add]
  refine lt_of_lt_of_le (Nat.mul_lt_mul_of_pos_left dm E0) (mul_le_mul_right _ ?_)
  rw [pow_add]
  have:E<=2^(2*(tau l I+I+3))*4:=by omega
  exact le_trans this (mul_le_mul_left _ (by decide))
 obtain⟨M,a4⟩:∃M:Nat,(M:Int)=W*b-W*a:=⟨(W*b-W*a:Int).toNat,by omega⟩
 have w3:M<=3*W:=by
  have:(W:Int)*b<=W*(a+3):=mul_le_mul_of_nonneg_left (by omega) (by omega)
  have e:(W:Int)*(a+3)=W*a+3*W:=by grind
  omega
 have e1:(E:Int)*f+W*a+(M:Int)=E*f+W*b:=by omega
 have a5:many=chg (Dr p (E*f) (E*f+W*E) ((E*D:Nat):Int)):=by
  rw [<-ee,natCast_mul,Qi (by omega) O.ne]
  exact h.mn
 have a2:0<a->chg (Dr p (E*f) (E*f+W*a) ((E*D:Nat):Int))=0:=fun ha=>by
  have wp:(0:Int)<W*a:=mul_pos (by omega) (by omega)
  have t1:=Qj (p:=p) (f:=E*f) (m:=E*f+W*a) (l:=E*f+W*b) (b:=((E*D:Nat):Int)) (by omega) (by omega) O.ne
  by_cases hb:b=E
  . rw [hb]at t1 Y
    omega
  . have a0:(W:Int)*b<W*E:=Int.mul_lt_mul_of_pos_left (by omega) (by omega)
    have t2:=Qj (p:=p) (f:=E*f) (m:=E*f+W*b) (l:=E*f+W*E) (b:=((E*D:Nat):Int)) (by omega) (by omega) O.ne
    omega
 have a3:b<E->chg (Dr p (E*f+W*b) (E*f+W*E) ((E*D:Nat):Int))=0:=fun hb=>by
  have a0:(W:Int)*b<W*E:=Int.mul_lt_mul_of_pos_left (by omega) (by omega)
  have t1:=Qj (p:=p) (f:=E*f+W*a) (m:=E*f+W*b) (l:=E*f+W*E) (b:=((E*D:Nat):Int)) (by omega) (by omega) O.ne
  by_cases ha:a=0
  . rw [ha]at t1 Y
    simp only [natCast_zero,mul_zero,add_zero]at t1 Y
    omega
  . have wp:(0:Int)<W*a:=mul_pos (by omega) (by omega)
    have t2:=Qj (p:=p) (f:=E*f) (m:=E*f+W*a) (l:=E*f+W*E) (b:=((E*D:Nat):Int)) (by omega) (by omega) O.ne
    omega
 have least:4<=4/\4<2^(2*(tau l I+I+3)):=⟨by decide,lt_of_lt_of_le (show 4<2^6 by decide) (pow_le_pow_right (by decide) (by omega))⟩
 refine⟨⟨E*f+W*a,M,D0,by omega,ol,by rw [e1];exact oh,fa,by rw [e1];exact fb,by rw [e1];exact Y.symm,fun _=>piece k1 b1 b2 (.inr ⟨w3,by omega⟩),⟨?_,?_⟩,sz⟩,fun ha=> ?_,fun hb=> ?_⟩
 . have:=mul_le_mul_left J n4
   omega
 . --it isn't narrow,so the number is not great
   have nn:E*D<M*2^tau l I:=lt_of_not_le fun z=>by
    have:=O.nar D0 (by omega) fa z
    rw [e1]at this
    omega
   have h1:4*J*D<3*(2*F*D)*2^tau l I:=by
    rw [<-hE]
    refine lt_of_lt_of_le nn (mul_le_mul_right _ (le_trans w3 (mul_le_mul_left _ wd)))
   have h2:J<2^(tau l I+I+3):=by
    have h3:D*(4*J)<D*(6*F*2^tau l I):=by
     have e2:D*(4*J)=4*J*D:=Nat.mul_comm _ _
     have e3:D*(6*F*2^tau l I)=3*(2*F*D)*2^tau l I:=by grind
     rw [e2,e3]
     exact h1
    have h4:=Nat.lt_of_mul_lt_mul_left h3
    have hF:=O.hF
    have e4:2^(tau l I+I+3)=2*(2^(I+2)*2^tau l I):=by
     rw [<-pow_add,Nat.mul_comm,<-Nat.pow_succ]
     congr 1
     omega
    have h5:F*2^tau l I<=2^(I+2)*2^tau l I:=mul_le_mul_right _ (Nat.le_of_lt hF)
    rw [e4]
    have e5:6*F*2^tau l I=6*(F*2^tau l I):=by grind
    omega
   rw [Nat.mul_comm 2,pow_mul]
   have:=Nat.pow_lt_pow_left h2 (show 2≠0 by decide)
   rw [show J^2=J*J by rw [Nat.pow_two]]at this
   exact this
 . have wp:(0:Int)<W*a:=mul_pos (by omega) (by omega)
   have ew:((W*a:Nat):Int)=W*a:=natCast_mul _ _
   refine⟨E*f,W*a,D0,Nat.mul_pos W0 ha,h.ol.up E,by rw [ew];exact ol,fl,by rw [ew];exact fa,by rw [ew];exact(a2 ha).symm,fun z=>absurd z (by decide),least,sz⟩
 . have a0:(W:Int)*b<W*E:=Int.mul_lt_mul_of_pos_left (by omega) (by omega)
   obtain⟨W2,a6⟩:∃W2:Nat,(W2:Int)=W*E-W*b:=⟨(W*E-W*b:Int).toNat,by omega⟩
   have e6:(E:Int)*f+W*b+(W2:Int)=E*f+W*E:=by omega
   have a1:=h.oh.up E
   rw [ee]at a1
   exact⟨E*f+W*b,W2,D0,by omega,oh,by rw [e6];exact a1,fb,by rw [e6];exact fh,by rw [e6];exact(a3 hb).symm,fun z=>absurd z (by decide),least,sz⟩
theorem Apf {a y:Int} (M:0<a) (O:1<=y):∀(r:List Int),(∀x∈r,-(a*(y-1))<=x)->∀x∈hs y (r++ [a]),a<=x
 | [],_,x,I=>by
   have:x=a+y*0:=by simpa [hs]using I
   omega
 | b::r,h,x,I=>by
   have J:=Apf M O r fun z S=>h z (by simp [S])
   rw [cons_append,hs]at I
   rcases mem_cons.mp I with rfl | I
   . have U:a<=(hs y (r++ [a])).headD 0:=by
      have l:=Mr y (r++ [a])
      match e:hs y (r++ [a]),l with
      | g::gs,_=>exact J g (by rw [e];simp)
      | [],l=>simp at l
     have W:=h b (by simp)
     have:=mul_le_mul_of_nonneg_left U (show 0<=y by omega)
     have e:a*(y-1)=y*a-a:=by grind
     omega
   . exact J x I
theorem Ake {y:Int} (J:0<=y):∀q:List Int,(∀x∈q,0<x)->∀x∈hs y q,0<x
 | [],_,x,I=>by simp [hs]at I
 | b::r,h,x,I=>by
   have M:=Ake J r fun z O=>h z (by simp [O])
   rw [hs]at I
   rcases mem_cons.mp I with rfl | I
   . have S:0<=(hs y r).headD 0:=by
      match e:hs y r with
      | g::gs=>exact le_of_lt (M g (by rw [e];simp))
      | []=>exact Int.le_refl _
     have U:=h b (by simp)
     have:=mul_nonneg J S
     omega
   . exact M x I
theorem Akl {y:Int} (M:0<=y):∀(n:Nat) (q:List Int),(∀x∈q,0<x)->∀x∈mv y n q,0<x
 | 0,q,h,x,I=>h x I
 | n+1,[],_,x,I=>by simp [mv]at I
 | n+1,b::r,h,x,I=>by
   have J:=Ake M (b::r) h
   rw [hs]at J
   rw [mv]at I
   rcases mem_cons.mp I with rfl | I
   . exact J _ (by simp)
   . exact Akl M n (hs y r) (fun z O=>J z (by simp [O])) x I
theorem Ap9 {a y:Int} (M:0<a) (O:1<=y) (n:Nat) (r:List Int) (h:∀x∈r,-(a*(y-1))<=x) (S:r.length<=n):∀x∈mv y n (r++ [a]),0<x:=by
 have J:=Apf M O r h
 intro x I
 match r,n,h,S,J,I with
 | [],0,_,_,_,I=>
   have:x=a:=by simpa [mv]using I
   omega
 | [],n+1,_,_,_,I=>
   rw [nil_append,mv]at I
   rcases mem_cons.mp I with rfl | I
   . simp [hs]
     omega
   . have e:hs y ([]:List Int)=[]:=rfl
     rw [e]at I
     have:mv y n ([]:List Int)=[]:=by cases n<;>rfl
     rw [this]at I
     simp at I
 | b::r,n+1,_,_,J,I=>
   rw [cons_append,mv]at I
   rw [cons_append,hs]at J
   rcases mem_cons.mp I with rfl | I
   . have:=J _ (mem_cons_self ..)
     omega
   . exact Akl (by omega) n _ (fun z U=>by have:=J z (by simp [U]);omega) x I
theorem Vt:∀(s:Int) (p:List Int),Gp 1 s p=p.map (· *s)
 | s,[]=>rfl
 | s,w::r=>by rw [Gp,Vt (s*1) r,mul_one];rfl
theorem Au6 (p:List Int):p.map (· *1)=p:=by
 have:(fun x:Int=>x*1)=id:=funext fun x=>mul_one x
 rw [this,List.map_id]
theorem Ai8 (p:List Int) (t:Int):seen p t 1=mv t (p.length-1) p:=by
 rw [seen,Vt,Au6,List.reverse_reverse]
theorem Alw (p:List Int):chg (p.map (· * -1))=chg p:=Uh (by decide) p
theorem Yl (t b:Int):∀p:List Int,hv (p.map (· * -1)) t b=hv p t b* -1
 | []=>by simp [hv]
 | w::r=>by
   have:=Yl t b r
   simp only [map_cons,hv,this,length_map]
   grind
theorem cau {q:List Int}{a:Int}{r:List Int}{F:Nat} (e:q=r++ [a]) (J:a≠0) (F1:1<=F) (h:∀i,(co q i).natAbs<=a.natAbs*(F-1)):chg (seen q F 1)=0:=by
 have z:∀(r:List Int) (a:Int),0<a->(∀i,(co (r++ [a]) i).natAbs<=a.natAbs*(F-1))->chg (seen (r++ [a]) F 1)=0:=fun r a J h=>by
  rw [Ai8]
  refine Lq (Ap9 J (by omega) _ r (fun x M=> ?_) (by simp))
  obtain⟨i,hi,rfl⟩:=getElem_of_mem M
  have:=h i
  rw [Gi,if_neg (by omega),Cg hi]at this
  have I:((a.natAbs*(F-1):Nat):Int)=a*((F:Int)-1):=by
   rw [natCast_mul,show((a.natAbs:Nat):Int)=a by omega,show((F-1:Nat):Int)=(F:Int)-1 by omega]
  omega
 rw [e]at h ⊢
 by_cases O:0<a
 . exact z r a O h
 . have h2:=z (r.map (· * -1)) (a* -1) (by omega) (fun i=>by
    have:=h i
    have I:r.map (· * -1)++ [a* -1]=(r++ [a]).map (· * -1):=by simp
    rw [I,J4,natAbs_mul,natAbs_mul]
    simpa using this)
   have S:seen (r.map (· * -1)++ [a* -1]) F 1=(seen (r++ [a]) F 1).map (· * -1):=Ms _ _ (by simp [El]) fun x _=>by
    have I:r.map (· * -1)++ [a* -1]=(r++ [a]).map (· * -1):=by simp
    rw [Ls,Yl,Ls,I,Yl]
   rw [S,Alw]at h2
   exact h2
theorem Ao2 {p:List Int}{F:Nat} (tp:Tr p) (np:p≠ []) (F1:1<=F) (h:∀i,(co p i).natAbs<=(co p (p.length-1)).natAbs*(F-1)):chA p ((F:Nat),1)=0/\chB p (-(F:Nat),1)=0:=by
 obtain⟨r,a,e⟩:∃(i:List Int) (x:Int),p=i++ [x]:=⟨_,_,(dropLast_concat_getLast np).symm⟩
 have I:co p (p.length-1)=a:=by rw [e,length_append,length_singleton,add_sub_cancel,Gi,if_pos rfl]
 have J:a≠0:=I▸tp.lead np
 rw [I]at h
 constructor
 . show chg (Gp 1 1 (seen p F 1))=0
   rw [Vt,Au6]
   exact cau e J F1 h
 . show chg (Gp (-1) 1 (seen p (-(F:Int)) 1))=0
   have M:Gp (-1) 1 (seen p (-(F:Int)) 1)=seen (Gp (-1) 1 p) F 1:=Ms _ _ (by rw [Cd,El,El,Cd]) fun x _=>by
    rw [Hr,Ls,Ls,Hr]
    congr 2<;>grind
   rw [M]
   have O:Gp (-1) 1 p=Gp (-1) 1 r++ [a*(1*(-1)^r.length)]:=by rw [e,Ni]
   have n1:((-1:Int)^r.length).natAbs=1:=by rw [natAbs_pow];simp
   refine cau O (fun z=> ?_) F1 fun i=> ?_
   . have:=congrArg natAbs z
     rw [natAbs_mul,natAbs_mul,n1]at this
     simp at this
     exact J this
   . have n2:((-1:Int)^i).natAbs=1:=by rw [natAbs_pow];simp
     rw [Uk,natAbs_mul,natAbs_mul,n2,natAbs_mul a,natAbs_mul,n1]
     simpa using h i
theorem Ao9 (x:Int):∀q:List Int,ei q x=hv q x 1
 | []=>rfl
 | a::r=>by
   rw [ei,J6,Ao9 x r,one_pow]
   grind
theorem Ah6 {p:List Int}{E:Int} (tp:Tr p) (np:p≠ []) {xs:List Int} (I:xs.Nodup) (h:∀x∈xs,hv p x E=0):xs.length<p.length:=by
 obtain⟨r,a,e⟩:∃(i:List Int) (x:Int),p=i++ [x]:=⟨_,_,(dropLast_concat_getLast np).symm⟩
 have J:co p (p.length-1)=a:=by rw [e,length_append,length_singleton,add_sub_cancel,Gi,if_pos rfl]
 have M:a≠0:=J▸tp.lead np
 refine lt_of_not_le fun O=>M ?_
 have z:=Ahu (p:=(Gp E 1 p.reverse).reverse) I (fun x S=>by
  rw [Ao9,Qs,Hr,Qs,Int.one_mul,mul_one]
  exact h x S) (by rw [length_reverse,Cd,length_reverse];exact O) r.length
 have U:(Gp E 1 p.reverse).reverse=(Gp E (1*E) r.reverse).reverse++ [a*1]:=by
  rw [e,List.reverse_append,List.reverse_singleton,List.singleton_append,Gp,reverse_cons]
 rw [U,Gi,if_pos (by rw [length_reverse,Cd,length_reverse])]at z
 omega
open PySem L2
local macro_rules | `(tactic| done)=> `(tactic| simp only [Auy,Ar7,Auk,Auw,Arz,At8,Zr,Auu,Ase,Asf,z_c,Aut,Av9,Av5,Auv,Av6,Auc,Auq,Aub,Aup,Ag7,Av8,Aue,Auh,Aud,Ar0,Ar1,Aus,At7,Av4,Aru,Ar8,Av3,Arv,Aur,Arx,Av1,Auz,Auo,Arw,Asc,Asd,Aom,Ar6,Aui,Aum,Aun,Aol,Av7,Ajl,Asa,At9,Av0,Aua,Ar9,Aux,Auj,Aul,Ar3,Ar2,Ar5,Aoo,Aop,Ary,Auf,Asb,Ar4,Aon,Av2,cpσ,List.getElem?_cons_zero,List.getElem?_cons_succ,Option.join_some,set_cons_zero,set_cons_succ,append_nil,decide_eq_true_eq,Bool.not_eq_true',decide_eq_false_iff_not,Bool.not_not,ite_not,Bool.false_eq_true,Bool.true_eq_false,if_false,if_true,if_pos,length_cons,length_nil,Nat.zero_add,Nat.reduceAdd,Aro,Arp,true_and,and_true,L2.start,map_cons,map_nil,Bool.not_true,Bool.not_false,Nat.reduceSub,replicate_succ,List.replicate_zero,cons_append,nil_append])
noncomputable def top (i:Nat):Stmt:=PySem.Challenge.pw_rootcourt_k20_cuts_told.main.body.getD i (.Pass ⟨0,0,0,0⟩)
theorem Cj {N P:List Str}{sc:Scope} (h1:sc.kind= .function:=by rfl) (h2:sc.isCoroutine=false:=by rfl) (z:sc.isGenerator=false:=by rfl) (I:N.Nodup:=by decide+kernel) (J:N.take P.length=P:=by rfl) (M:∀x∈P,sc.names.lookup x=some .local \/sc.names.lookup x=some .cell:=by decide+kernel) (O:∀y∈sc.names,y.2≠ .free:=by decide+kernel):Ax N P sc:=⟨h1,h2,z,I,J,M,O⟩
noncomputable abbrev N5:Stmt:=top 5
theorem Zh:Ax ["thing"] ["thing"] (Ar N5):=Cj
noncomputable abbrev Rb:Stmt:=top 6
theorem K6:Ax ["one","other","greater","lesser"] ["one","other"] (Ar Rb):=Cj
noncomputable abbrev Ke:Stmt:=top 7
theorem G7:Ax ["some","found","number"] ["some"] (Ar Ke):=Cj
noncomputable abbrev Vc:Stmt:=top 8
theorem Agc:Ax ["one","other"] ["one","other"] (Ar Vc):=Cj
noncomputable abbrev Kh:Stmt:=top 9
theorem Ek:Ax ["number","guess","bit","better"] ["number"] (Ar Kh):=Cj
noncomputable abbrev Ht:Stmt:=top 10
theorem O2:Ax ["number"] ["number"] (Ar Ht):=Cj
noncomputable abbrev Jm:Stmt:=top 12
theorem Ig:Ax ["thing","top","bottom"] ["thing"] (Ar Jm):=Cj
noncomputable abbrev Nz:Stmt:=top 13
theorem Mf:Ax ["top","bottom","shared"] ["top","bottom"] (Ar Nz):=Cj
noncomputable abbrev Af9:Stmt:=top 14
theorem An2:Ax ["one","other"] ["one","other"] (Ar Af9):=Cj
noncomputable abbrev Zb:Stmt:=top 15
theorem Ai4:Ax ["one","other"] ["one","other"] (Ar Zb):=Cj
noncomputable abbrev Zg:Stmt:=top 16
theorem Ai7:Ax ["one","other"] ["one","other"] (Ar Zg):=Cj
noncomputable abbrev Af8:Stmt:=top 17
theorem An1:Ax ["one","other"] ["one","other"] (Ar Af8):=Cj
noncomputable abbrev Aga:Stmt:=top 19
theorem Zj:Ax ["weights","length"] ["weights"] (Ar Aga):=Cj
noncomputable abbrev Vd:Stmt:=top 20
theorem Agd:Ax ["one"] ["one"] (Ar Vd):=Cj
noncomputable abbrev Pj:Stmt:=top 21
theorem Gv:Ax ["one","other","weights","place","weight"] ["one","other"] (Ar Pj):=Cj
noncomputable abbrev Rg:Stmt:=top 22
theorem Ack:Ax ["one","other"] ["one","other"] (Ar Rg):=Cj
noncomputable abbrev Rh:Stmt:=top 23
theorem Hg:Ax ["one","other","weights","place","weight","further","factor"] ["one","other"] (Ar Rh):=Cj
noncomputable abbrev Pn:Stmt:=top 24
theorem Agg:Ax ["one","factor"] ["one","factor"] (Ar Pn):=Cj
noncomputable abbrev Ze:Stmt:=top 25
theorem Ai6:Ax ["one","many"] ["one","many"] (Ar Ze):=Cj
noncomputable abbrev Ob:Stmt:=top 26
theorem Fq:Ax ["start","one","many","product","found","square","left"] ["start","one","many","product"] (Ar Ob):=Cj
noncomputable abbrev Jq:Stmt:=top 27
theorem S7:Ax ["number","many"] ["number","many"] (Ar Jq):=Cj
noncomputable abbrev Vj:Stmt:=top 28
theorem Agf:Ax ["one","many"] ["one","many"] (Ar Vj):=Cj
noncomputable abbrev M5:Stmt:=top 29
theorem Aci:Ax ["one"] ["one"] (Ar M5):=Cj
noncomputable abbrev Rj:Stmt:=top 30
theorem Acl:Ax ["one","point"] ["one","point"] (Ar Rj):=Cj
noncomputable abbrev Jr:Stmt:=top 31
theorem Di:Ax ["one","point","total","scale","weight","top","bottom"] ["one","point"] (Ar Jr):=Cj
noncomputable abbrev Q8:Stmt:=top 33
theorem Hf:Ax ["p","many","ahead","weight"] ["p"] (Ar Q8):=Cj
noncomputable abbrev Y9:Stmt:=top 34
theorem Ai2:Ax ["p","c"] ["p","c"] (Ar Y9):=Cj
noncomputable abbrev Za:Stmt:=top 35
theorem Ai3:Ax ["p","c"] ["p","c"] (Ar Za):=Cj
noncomputable abbrev Q7:Stmt:=top 36
theorem Iv:Ax ["p","lo","hi","bottom","first","last","weights"] ["p","lo","hi"] (Ar Q7):=Cj
noncomputable abbrev Ri:Stmt:=top 37
theorem Tw:Ax ["p","top","bottom","weights"] ["p","top","bottom"] (Ar Ri):=Cj
noncomputable abbrev Vn:Stmt:=top 38
theorem Ko:Ax ["weights","factor","found","scale","weight"] ["weights","factor"] (Ar Vn):=Cj
noncomputable abbrev Zc:Stmt:=top 39
theorem Pu:Ax ["weights","by","found","start","place"] ["weights","by"] (Ar Zc):=Cj
noncomputable abbrev Jl:Stmt:=top 41
theorem W7:Ax ["one","m"] ["one","m"] (Ar Jl):=Cj
noncomputable abbrev Kf:Stmt:=top 42
theorem Dy:Ax ["number","m","greater","lesser","ahead","here","many"] ["number","m"] (Ar Kf):=Cj
noncomputable abbrev N6:Stmt:=top 43
theorem Eu:Ax ["one","other","m","inverse","rest","quotient","place","factor","further","weight"] ["one","other","m"] (Ar N6):=Cj
noncomputable abbrev Ve:Stmt:=top 44
theorem Age:Ax ["one","other","m"] ["one","other","m"] (Ar Ve):=Cj
noncomputable abbrev Vl:Stmt:=top 45
theorem W9:Ax ["one","t","told"] ["one","t"] (Ar Vl):=Cj
noncomputable abbrev N7:Stmt:=top 46
theorem Js:Ax ["one","other","t","first","second"] ["one","other","t"] (Ar N7):=Cj
noncomputable abbrev Q9:Stmt:=top 49
theorem Acg:Ax ["one"] ["one"] (Ar Q9):=Cj
noncomputable abbrev Zd:Stmt:=top 50
theorem Ai5:Ax ["one"] ["one"] (Ar Zd):=Cj
noncomputable abbrev Agb:Stmt:=top 51
theorem An3:Ax ["one"] ["one"] (Ar Agb):=Cj
noncomputable abbrev Pq:Stmt:=top 52
theorem Agi:Ax ["one","number"] ["one","number"] (Ar Pq):=Cj
noncomputable abbrev Vk:Stmt:=top 53
theorem Agh:Ax ["one","other"] ["one","other"] (Ar Vk):=Cj
noncomputable abbrev Ie:Stmt:=top 54
theorem Rm:Ax ["one","other"] ["one","other"] (Ar Ie):=Cj
noncomputable abbrev K5:Stmt:=top 55
theorem Bw:Ax ["first","second","lead","height","steps","known","third"] ["first","second"] (Ar K5):=Cj
noncomputable abbrev Oa:Stmt:=top 56
theorem Fp:Ax ["first","second","known","scale","third","quotient","rest","upper","lower"] ["first","second","known"] (Ar Oa):=Cj
noncomputable abbrev Gj:Stmt:=top 57
theorem Cm:Ax ["one","other","quotient","rest","place","top","term"] ["one","other"] (Ar Gj):=Cj
noncomputable abbrev Rf:Stmt:=top 59
theorem Acj:Ax ["one"] ["one"] (Ar Rf):=Cj
noncomputable abbrev G6:Stmt:=top 62
theorem Ih:Ax ["p","cuts","lo","hi"] ["p","cuts"] (Ar G6):=Cj
noncomputable abbrev Ra:Stmt:=top 63
theorem Ach:Ax ["p"] ["p"] (Ar Ra):=Cj
noncomputable abbrev Rk:Stmt:=top 64
theorem K7:Ax ["p","cuts","kept","cut","beyond"] ["p","cuts"] (Ar Rk):=Cj
noncomputable abbrev Ib:Stmt:=top 65
theorem Et:Ax ["p","far","cuts","waiting","stretch"] ["p"] (Ar Ib):=Cj
noncomputable abbrev Ed:Stmt:=top 66
theorem Kl:Ax ["p"] ["p"] (Ar Ed):=Cj
noncomputable abbrev N8:Stmt:=top 67
theorem Zi:Ax ["p","lo","hi","narrowing"] ["p","lo","hi","narrowing"] (Ar N8):=Cj
noncomputable abbrev Vg:Stmt:=top 68
theorem Gd:Ax ["p","stretch","near","found","lo","hi","many","narrowing","slower","middle"] ["p","stretch"] (Ar Vg):=Cj
noncomputable abbrev Ia:Stmt:=top 69
theorem Gb:Ax ["p","lo","hi","point","step"] ["p","lo","hi"] (Ar Ia):=Cj
noncomputable abbrev Vf:Stmt:=top 70
theorem Ew:Ax ["p","stretch","cells","cell","first","last","width","near","lo","hi","many","narrowing"] ["p","stretch"] (Ar Vf):=Cj
noncomputable abbrev Jo:Stmt:=top 71
theorem Eo:Ax ["p","lo","hi","cells","middle","width","height","slope","bend"] ["p","lo","hi","cells"] (Ar Jo):=Cj
noncomputable abbrev Lz:Stmt:=top 73
theorem W8:Ax ["_law_script","_law_k"] ["_law_script","_law_k"] (Ar Lz):=Cj
noncomputable abbrev Ma:Stmt:=top 74
theorem Km:Ax ["_law_cell","_law_k","_law_some"] ["_law_cell","_law_k"] (Ar Ma):=Cj
noncomputable abbrev Vh:Stmt:=top 75
theorem Hu:Ax ["_law_cell","_law_most","_law_many","_law_broad","_law_part","_law_weights","_law_k"] ["_law_cell","_law_most"] (Ar Vh):=Cj
noncomputable abbrev Zf:Stmt:=top 76
theorem Aay:Ax ["_law_one","_law_other"] ["_law_one","_law_other"] (Ar Zf):=Cj
noncomputable abbrev Kg:Stmt:=top 77
theorem M7:Ax ["_law_top","_law_bottom","_law_part"] ["_law_top","_law_bottom"] (Ar Kg):=Cj
noncomputable abbrev Jp:Stmt:=top 82
theorem Dz:Ax ["_law_cell","_law_found","_law_part","_law_k","_law_root","_law_longer","_law_j"] ["_law_cell"] (Ar Jp):=Cj
noncomputable abbrev M6:Stmt:=top 83
theorem Ge:Ax ["_law_p","_law_q","_law_part","_law_weight","_law_lead","_law_j","_law_at"] ["_law_p","_law_q"] (Ar M6):=Cj
noncomputable abbrev Pk:Stmt:=top 84
theorem M8:Ax ["_law_p","_law_one","_law_other"] ["_law_p"] (Ar Pk):=Cj
noncomputable abbrev Vi:Stmt:=top 85
theorem Iw:Ax ["_law_p","_law_found","_law_refused","e"] ["_law_p"] (Ar Vi):=Cj
noncomputable abbrev W6:Stmt:=top 86
theorem Tt:Ax ["_law_script","_law_p","_law_found","_law_one"] ["_law_script"] (Ar W6):=Cj
noncomputable def Ajc (K:Frag):Sp:=fun vs H Q _=>∃(a:Addr) (ns:List Int),vs=[.ref a]/\SqL K H a (ns.map V.int)/\ns.length<=63/\∀H',Q (.bl true) H'
noncomputable def cell (ns:List Int) (k:Int):Int:=ns.getD k.toNat 0
noncomputable def Ks (K:Frag):Sp:=fun vs H Q _=>∃(a:Addr) (ns:List Int) (k:Int),vs=[.ref a,.int k]/\SqL K H a (ns.map V.int)/\0<=k/\Q (.int (cell ns k)) H
section
variable {P:Program}{w:World}{K:Frag}{mg:Str->Option Value}{base:Heap}{f:Addr}{fd:FuncData}
theorem Ww (F:Df K mg "_law_cell_at" Lz ["_law_script","_law_k"] f fd) (z_len:mg "len"=none)   :Cal P w K mg base 33 "_law_cell_at" ["_law_script","_law_k"] (Ks K):=by
 refine F.cal (F.fn.ok W8 (fun J H Q E h=> ?_) (fun M A outer s H J Q E S h=> ?_))
 . obtain⟨a,ns,k,rfl,_⟩:=h
   rfl
 obtain⟨a,ns,k,rfl,I,O,q⟩:=h
 refine Av ⟨_,(Ae (Az (Al Nx (Af 1) (Bk Bc rfl z_len PySem.boot_len (Aa (Af 0) Ac)) (Ba _)) (Ag (Ak (Aq Ea (Af 0) (Af 1) (fun _ _=>rfl)))) Aw)
  (Ag (Ak Ad))),?_⟩
 done
 refine⟨a,_,rfl,.inl I,?_⟩
 rw [length_map]
 split
 . rename_i h
   have z:k.toNat<ns.length:=by omega
   refine Lf I (v:= .int (cell ns k)) ?_ q
   have e:=Hq (xs:=ns.map V.int) (j:=k.toNat) (v:= .int (cell ns k)) (by
    rw [getElem?_map,getElem?_eq_getElem z]
    unfold cell
    rw [getD_eq_getElem?_getD,getElem?_eq_getElem z]
    rfl)
   rw [Int.toNat_of_nonneg O]at e
   exact e
 . rename_i h
   have e:cell ns k=0:=by
    unfold cell
    rw [getD_eq_getElem?_getD,getElem?_eq_none (by omega)]
    rfl
   rw [e]at q
   exact q
theorem Nj (p:List Int):(trim p).length<=p.length:=(Cp p).len fun i=>Bq p i
noncomputable def Po (K:Frag) (H:Hp) (v:V) (p:List Int) (l n:Nat):Prop:=(∃a,v= .ref a/\SqT K H a (p.map V.int))/\Tr p/\p.length<=l/\∀i,Sz n (co p i)
theorem Po.mono {K:Frag}{H H':Hp}{v:V}{p:List Int}{l n:Nat} (h:Po K H v p l n) (s:Same H H'):Po K H' v p l n:=by
 obtain⟨⟨a,e,t⟩,r⟩:=h
 exact⟨⟨a,e,s.tup t⟩,r⟩
theorem Sz0 {n:Nat} (h:0<n):Sz n 0:=Nat.pow_pos (by decide)
theorem Alz {p:List Int}{n:Nat} (z:0<n) (h:∀x∈p,Sz n x) (i:Nat):Sz n (co p i):=by
 by_cases hi:i<p.length
 . rw [Cg hi]
   exact h _ (getElem_mem hi)
 . rw [Bl (by omega)]
   exact Sz0 z
noncomputable def SqI (K:Frag) (H:Hp) (a:Addr) (ns:List Int):Prop:=SqL K H a (ns.map V.int)\/SqT K H a (ns.map V.int)
theorem Aa5 {H H1:Hp}{Q:VK}{E:XK}{a:Addr}{ns:List Int}{j:Int} (z:SqL K H1 a (ns.map V.int)) (I:Same H1 H) (J:0<=j) (h:Q (.int (cell ns j)) H):Ks K [.ref a,.int j] H Q E:=⟨a,ns,j,rfl,I.seq z,J,h⟩
noncomputable def Ij (K:Frag):Sp:=fun vs H Q _=>∃(a:Addr) (ns:List Int),vs=[.ref a]/\SqI K H a ns/\ns.length<=1000/\∀z H',Same H H'->SqT K H' z ((trim ns).map V.int)->Q (.ref z) H'
theorem Am2 (F:Df K mg "poly" Aga ["weights"] f fd) (z_len:mg "len"=none) (J:mg "tuple"=none)   :Cal P w K mg base 33 "poly" ["weights"] (Ij K):=by
 refine F.cal (F.fn.ok Zj (fun vs H Q E h=> ?_) (fun a0 A outer s H vs Q E hr h=> ?_))
 . obtain⟨a,ns,rfl,_⟩:=h
   rfl
 obtain⟨a,ns,rfl,M,hl,q⟩:=h
 refine Av ⟨_,(Ae (Aj 1 Zj.nd (Bk Bc rfl z_len PySem.boot_len (Aa (Af 0) Ac)))
  (Ae (Cq PassesOwn.never (Ec (Ip (Al Kc (Af 1) Ad (Ba _)) (G9 (Al G4 (Aq Apl (Af 0) (Ah Dw (Af 1) Ad) (fun _ _=>rfl)) Ad (Ba _))))) (Ag (Aj 1 Zj.nd (Ah Dw (Af 1) Ad))))
  (Ag (Ak (Dj Ds rfl J boot_tuple (Aa (Er Arm (Af 0) Fw (Fx (Af 1))) Ac)))))),?_⟩
 done
 refine⟨a,_,rfl,M,?_⟩
 rw [length_map]
 refine Le (fun σ H'=>H'=H/\∃n:Nat,σ=[some (.ref a),some (.int n)]/\n<=ns.length/\∀i,n<=i->co ns i=0) (fun σ _=>match σ with | [_,some (.int n)]=>n.toNat | _=>0)
  ⟨rfl,_,rfl,le_refl _,fun i h=>Bl h⟩ ?_
 rintro σ H' ⟨rfl,n,rfl,hn,Y⟩
 have O:(n=0\/co ns (n-1)≠0)->Ava K (V.ref a) none (some (n:Int)) H' (fun x H1=>∃p ys,[x]=[V.ref p]/\((SqL K H1 p ys/\∀(l:Addr),H1 l=none->Q (V.ref l) (upd H1 l (HO.tup ys)))\/SqT K H1 p ys/\Q (V.ref p) H1)):=fun h=>by
  have e:O6 (ns.map V.int) none (some (n:Int))=(trim ns).map V.int:=by
   rw [Agv Y h]
   unfold O6
   rw [HT.K4,HT.Ny,List.drop_zero,sub_zero,length_map,min_eq_left hn,List.map_take]
  rcases M with M | M
  . refine⟨a,_,rfl,.inl ⟨M,fun z H2 U I=> ?_⟩⟩
    rw [e]at I
    exact⟨z,_,rfl,.inl ⟨I,fun y hy=>q y _ (U.trans (Same.upd hy _)) (.of Ao)⟩⟩
  . refine⟨a,_,rfl,.inr ⟨M,fun z H2 U I=> ?_⟩⟩
    rw [e]at I
    exact⟨z,_,rfl,.inr ⟨I,q z _ U I⟩⟩
 done
 by_cases Z:(0:Int)<n
 . rw [if_pos Z]
   refine⟨a,_,_,.int (co ns (n-1)),rfl,rfl,M,?_,?_⟩
   . have e:=Hq (xs:=ns.map V.int) (j:=n-1) (v:= .int (co ns (n-1))) (by rw [getElem?_map,getElem?_eq_getElem (by omega),Cg (by omega)];rfl)
     rw [show((n-1:Nat):Int)=(n:Int)-1 by omega]at e
     exact e
   done
   by_cases S:co ns (n-1)=0
   . rw [if_pos S]
     refine Ag5 ?_
     done
     refine⟨⟨n-1,by rw [show((n-1:Nat):Int)=(n:Int)-1 by omega],by omega,fun i hi=> ?_⟩,by omega⟩
     by_cases W:i=n-1
     . rw [W,S]
     . exact Y i (by omega)
   . rw [if_neg S]
     exact O (.inr S)
 . rw [if_neg Z]
   exact O (.inl (by omega))
noncomputable def Atn:Sp:=fun vs H Q _=>∃a b:Int,vs=[.int a,.int b]/\Q (.int (Int.gcd a b:Int)) H
noncomputable def Iz (_:Frag):Sp:=Atn
theorem Ab0 (F:Df K mg "divisor" Rb ["one","other"] f fd) (z:mg "abs"=none)   :Cal P w K mg base 33 "divisor" ["one","other"] (Iz K):=by
 refine F.cal (F.fn.ok K6 (fun O H Q E h=> ?_) (fun S A outer s H O Q E hr h=> ?_))
 . obtain⟨a,b,rfl,_⟩:=h
   rfl
 obtain⟨a,b,rfl,q⟩:=h
 refine Av ⟨_,(Ae (Aj 2 K6.nd (Bk Je rfl z boot_abs (Aa (Af 0) Ac)))
  (Ae (Aj 3 K6.nd (Bk Je rfl z boot_abs (Aa (Af 1) Ac)))
  (Ae (Cq PassesOwn.never (Al S6 (Af 3) Ad (Ba _)) (Ag (Gs (i:=2) (j:=3) rfl K6.nd rfl rfl (by decide) rfl rfl (Aa (Af 3) (Aa (Ah Fb (Af 2) (Af 3)) Ac)) rfl)))
  (Ag (Ak (Af 2)))))),?_⟩
 repeat (first | done | simp only [abs_eq])
 refine Aa8 (fun σ H'=>H'=H/\∃x y:Nat,σ=[some (.int a),some (.int b),some (.int x),some (.int y)]/\Nat.gcd x y=Nat.gcd a.natAbs b.natAbs)
  (fun σ _=>match σ with | [_,_,_,some (.int y)]=>y.toNat | _=>0) ⟨rfl,_,_,rfl,rfl⟩ ?_ ?_
 . rintro σ H' ⟨rfl,x,y,rfl,e⟩
   done
   by_cases M:(y:Int)=0
   . rw [if_pos M]
     have I:y=0:=by omega
     subst I
     rw [Nat.gcd_zero_right]at e
     subst e
     exact q
   . rw [if_neg M]
     refine⟨by omega,⟨y,x%y,by rw [Int.natCast_emod],by rw [Ah4];exact e⟩,?_⟩
     show((x:Int)%(y:Int)).toNat<(y:Int).toNat
     rw [<-Int.natCast_emod,toNat_natCast,toNat_natCast]
     exact mod_lt _ (by omega)
 . intro σ H' Q1 Q2 J
   simp only [Ag7,Aut]
   rintro⟨v,U,hs⟩
   exact⟨v,U,by
    obtain⟨W,k,Y,Z⟩:=hs
    exact⟨W,k,Y,J _ _ Z⟩⟩
noncomputable def Gf (K:Frag):Sp:=fun vs H Q _=>∃(x:V) (p:List Int) (l n:Nat),vs=[x]/\Po K H x p l n/\Q (.int ((p.length:Int)-1)) H
theorem Ae4 (F:Df K mg "degree" Vd ["one"] f fd) (z_len:mg "len"=none)   :Cal P w K mg base 33 "degree" ["one"] (Gf K):=by
 refine F.cal (F.fn.ok Agd (fun z H Q E h=> ?_) (fun I A outer s H z Q E M h=> ?_))
 . obtain⟨x,p,_,_,rfl,_⟩:=h
   rfl
 obtain⟨x,p,l,n,rfl,⟨⟨a,rfl,J⟩,tp,O,S⟩,k⟩:=h
 refine Av ⟨_,(Ag (Ak (Ah Dw (Bk Bc rfl z_len PySem.boot_len (Aa (Af 0) Ac)) Ad))),?_⟩
 done
 refine⟨a,_,rfl,.inr J,?_⟩
 repeat (first | done | simp only [length_map])
 exact k
theorem Ef {H H1:Hp}{Q:VK}{E:XK}{x:V}{p:List Int}{l n:Nat} (z:Po K H1 x p l n) (I:Same H1 H) (h:Q (.int ((p.length:Int)-1)) H):Gf K [x] H Q E:=⟨x,p,l,n,rfl,z.mono I,h⟩
theorem Ag2 {H:Hp}{Q:VK}{E:XK}{a:Addr}{ns:List Int} (I:SqL K H a (ns.map V.int)) (J:ns.length<=1000) (h:∀z H',Same H H'->SqT K H' z ((trim ns).map V.int)->Q (.ref z) H'):Ij K [.ref a] H Q E:=⟨a,ns,rfl,by first | exact I | exact .inl I,J,h⟩
noncomputable def Avd (K:Frag) (c:List Int->List Int->Prop):Sp:=fun vs H Q _=>∃(x y:V) (p q:List Int) (l l' n n':Nat),vs=[x,y]/\Po K H x p l n/\Po K H y q l' n'/\l<=500/\l'<=500/\c p q/\∀z H',Same H H'->Po K H' z (ta p q) (max l l') (max n n'+1)->Q z H'
noncomputable def Acm (K:Frag):Sp:=Avd K fun p q=>q.length<=p.length
noncomputable def Ru (K:Frag):Sp:=Avd K fun _ _=>True
theorem Ab3 (F:Df K mg "p_plus" Pj ["one","other"] f fd) (z_list:mg "list"=none) (z_enumerate:mg "enumerate"=none) (z_len:mg "len"=none)  (c_poly:Cal P w K mg base 33 "poly" ["weights"] (Ij K)):Cal P w K mg base 34 "p_plus" ["one","other"] (Acm K):=by
 refine F.cal (F.fn.ok Gv (fun vs H Q E h=> ?_) (fun a3 A outer s H vs Q E hr h=> ?_))
 . obtain⟨x,y,p,q,_,_,_,_,rfl,_⟩:=h
   rfl
 obtain⟨x,y,p,q,l,l',n,n',rfl,⟨⟨a,rfl,ha⟩,tp,lp,zp⟩,⟨⟨b,rfl,hb⟩,tq,lq,zq⟩,l5,a4,hc,k⟩:=h
 refine Av ⟨_,(Ae (Az (Al Nx (Bk Bc rfl z_len PySem.boot_len (Aa (Af 0) Ac)) (Bk Bc rfl z_len PySem.boot_len (Aa (Af 1) Ac)) (Ba _)) (Ag Qg) Aw)
  (Ae (Aj 2 Gv.nd (Dj Es rfl z_list boot_list (Aa (Af 0) Ac)))
  (Ae (Ce PassesOwn.never rfl (Ky rfl z_enumerate (Aa (Af 1) Ac)) (Eh rfl (Bb (Ay 3 Gv.nd) (Bb (Ay 4 Gv.nd) Cz))) (Ag (Dp (Ah Dc (Aq Ea (Af 2) (Af 3) (fun _ _=>rfl)) (Af 4)) (Fy (Af 2) (Af 3) set_list))))
  (Ag (Ak (Ai c_poly hr (Aa (Af 2) Ac))))))),?_⟩
 done
 refine⟨a,_,rfl,.inr ha,b,_,rfl,.inr hb,?_⟩
 repeat (first | done | simp only [length_map])
 have a0:¬((p.length:Nat):Int)<(q.length:Nat):=by omega
 rw [if_neg a0]
 refine⟨a,_,rfl,.inr ha,fun l0 hn=> ?_⟩
 have s0:=Same.upd hn (.lst (p.map V.int))
 try done
 refine⟨⟨_,s0.tup hb⟩,Ad0 (es:=q) (inj:=V.int) (fun I σ H'=>∃(W Y:Option V) (ms:List Int),σ=[some (.ref a),some (.ref b),some (.ref l0),W,Y]/\Same H H'/\H' l0=some (.lst (ms.map V.int))/\ms.length=p.length/\∀i,co ms i=co p i+co I i)
  ⟨_,_,p,rfl,s0,Ao,rfl,fun i=>by rw [Bu,add_zero]⟩ ?_ ?_ ?_⟩
 . rintro I σ H' ⟨W,Y,ms,rfl,M,_⟩
   exact M.tup hb
 . rintro I e a2 σ H' p1 he ⟨W,Y,ms,rfl,M,hm,O,J⟩ a1
   refine Jw (.of Ao) ?_
   have S:=congrArg List.length he
   rw [length_append,length_cons]at S
   have Z:I.length<ms.length:=by omega
   have s2:=Same.upd a1 (.tup [V.int (I.length:Nat),V.int e])
   have U:=s2 _ _ hm
   try done
   refine Xo (.of U) (Kz Z) ?_
   try done
   refine Abk U (by rw [length_map];exact Z) ?_
   try done
   rw [K8]
   refine⟨_,_,ms.set I.length (ms[I.length]+e),rfl,?_,Ao,by rw [length_set];exact O,fun i=> ?_⟩
   . intro c o hc
     rw [Cr (Cw hc hn)]
     exact s2 _ _ (M _ _ hc)
   . rw [Ql _ _ _ Z,Gi,J i]
     by_cases hi:i=I.length
     . subst hi
       rw [if_pos rfl,if_pos rfl,<-Cg Z,J,Bl (p:=I) (le_refl _)]
       omega
     . rw [if_neg hi,if_neg hi]
 . rintro σ H' ⟨W,Y,ms,rfl,M,hm,O,J⟩
   try done
   refine Ag2 (.of hm) (by omega) fun z H2 s2 hz=>k _ _ (M.trans s2) ⟨⟨z,rfl,?_⟩,Zo _ _,?_,fun i=> ?_⟩
   . have e:trim ms=ta p q:=T9 fun i=>by rw [J,Hz]
     rw [<-e]
     exact hz
   . have:=Ak9 p q
     omega
   . rw [R4]
     exact(zp i).add (zq i)
theorem Ae7 (F:Df K mg "p_plus" Pj ["one","other"] f fd) (z_list:mg "list"=none) (z_enumerate:mg "enumerate"=none) (z_len:mg "len"=none)  (c_poly:Cal P w K mg base 33 "poly" ["weights"] (Ij K)):Cal P w K mg base 35 "p_plus" ["one","other"] (Ru K):=by
 have J:=Ab3 F (z_len:=z_len) (z_list:=z_list) (z_enumerate:=z_enumerate) (c_poly:=c_poly)
 refine F.cal (F.fn.ok Gv (fun vs H Q E h=> ?_) (fun a3 A outer s H vs Q E hr h=> ?_))
 . obtain⟨x,y,p,q,_,_,_,_,rfl,_⟩:=h
   rfl
 obtain⟨x,y,p,q,l,l',n,n',rfl,⟨⟨a,rfl,ha⟩,tp,lp,zp⟩,⟨⟨b,rfl,Z⟩,tq,lq,zq⟩,l5,a0,hc,k⟩:=h
 refine Av ⟨_,(Ae (Az (Al Nx (Bk Bc rfl z_len PySem.boot_len (Aa (Af 0) Ac)) (Bk Bc rfl z_len PySem.boot_len (Aa (Af 1) Ac)) (Ba _)) (Ag (Ak (Ai J hr (Aa (Af 1) (Aa (Af 0) Ac))))) Aw)
  (Ae (Aj 2 Gv.nd (Dj Es rfl z_list boot_list (Aa (Af 0) Ac)))
  (Ae (Ce PassesOwn.never rfl (Ky rfl z_enumerate (Aa (Af 1) Ac)) (Eh rfl (Bb (Ay 3 Gv.nd) (Bb (Ay 4 Gv.nd) Cz))) (Ag (Dp (Ah Dc (Aq Ea (Af 2) (Af 3) (fun _ _=>rfl)) (Af 4)) (Fy (Af 2) (Af 3) set_list))))
  (Ag (Ak (Ai c_poly hr (Aa (Af 2) Ac))))))),?_⟩
 done
 refine⟨a,_,rfl,.inr ha,b,_,rfl,.inr Z,?_⟩
 repeat (first | done | simp only [length_map])
 by_cases O:((p.length:Nat):Int)<(q.length:Nat)
 . rw [if_pos O]
   refine⟨_,_,q,p,l',l,n',n,rfl,⟨⟨b,rfl,Z⟩,tq,lq,zq⟩,⟨⟨a,rfl,ha⟩,tp,lp,zp⟩,a0,l5,by omega,fun z H' s i=>k z H' s ?_⟩
   rw [Aog p q,Nat.max_comm l l',Nat.max_comm n n']
   exact i
 rw [if_neg O]
 refine⟨a,_,rfl,.inr ha,fun l0 hn=> ?_⟩
 have s0:=Same.upd hn (.lst (p.map V.int))
 try done
 refine⟨⟨_,s0.tup Z⟩,Ad0 (es:=q) (inj:=V.int) (fun I σ H'=>∃(o1 o2:Option V) (ms:List Int),σ=[some (.ref a),some (.ref b),some (.ref l0),o1,o2]/\Same H H'/\H' l0=some (.lst (ms.map V.int))/\ms.length=p.length/\∀i,co ms i=co p i+co I i)
  ⟨_,_,p,rfl,s0,Ao,rfl,fun i=>by rw [Bu,add_zero]⟩ ?_ ?_ ?_⟩
 . rintro I σ H' ⟨o1,o2,ms,rfl,S,_⟩
   exact S.tup Z
 . rintro I e a2 σ H' p1 he ⟨o1,o2,ms,rfl,S,hm,U,M⟩ a1
   refine Jw (.of Ao) ?_
   have W:=congrArg List.length he
   rw [length_append,length_cons]at W
   have hj:I.length<ms.length:=by omega
   have s2:=Same.upd a1 (.tup [V.int (I.length:Nat),V.int e])
   have Y:=s2 _ _ hm
   try done
   refine Xo (.of Y) (Kz hj) ?_
   try done
   refine Abk Y (by rw [length_map];exact hj) ?_
   try done
   rw [K8]
   refine⟨_,_,ms.set I.length (ms[I.length]+e),rfl,?_,Ao,by rw [length_set];exact U,fun i=> ?_⟩
   . intro c o hc
     rw [Cr (Cw hc hn)]
     exact s2 _ _ (S _ _ hc)
   . rw [Ql _ _ _ hj,Gi,M i]
     by_cases hi:i=I.length
     . subst hi
       rw [if_pos rfl,if_pos rfl,<-Cg hj,M,Bl (p:=I) (le_refl _)]
       omega
     . rw [if_neg hi,if_neg hi]
 . rintro σ H' ⟨o1,o2,ms,rfl,S,hm,U,M⟩
   try done
   refine Ag2 (.of hm) (by omega) fun z H2 s2 hz=>k _ _ (S.trans s2) ⟨⟨z,rfl,?_⟩,Zo _ _,?_,fun i=> ?_⟩
   . have e:trim ms=ta p q:=T9 fun i=>by rw [M,Hz]
     rw [<-e]
     exact hz
   . have:=Ak9 p q
     omega
   . rw [R4]
     exact(zp i).add (zq i)
noncomputable def Ku (K:Frag):Sp:=fun vs H Q _=>∃(x:V) (c:Int) (p:List Int) (l n m:Nat),vs=[x,.int c]/\Po K H x p l n/\Sz m c/\l<=500/\n+m<=100000000/\∀z H',Same H H'->Po K H' z (ng p c) l (n+m)->Q z H'
theorem Afe (F:Df K mg "scaled" Pn ["one","factor"] f fd) (I:mg "tuple"=none)   :Cal P w K mg base 33 "scaled" ["one","factor"] (Ku K):=by
 refine F.cal (F.fn.ok Agg (fun vs H Q E h=> ?_) (fun a0 A outer s H vs Q E hr h=> ?_))
 . obtain⟨x,c,p,_,_,_,rfl,_⟩:=h
   rfl
 obtain⟨x,c,p,l,n,m,rfl,⟨⟨a,rfl,W⟩,tp,S,Y⟩,Z,l5,hz,k⟩:=h
 refine Av ⟨_,(Ae (Az (Al G4 (Af 1) Ad (Ba _)) (Ag (Ak (Bj Ac))) Aw)
  (Ag (Ak (Dj Ds rfl I boot_tuple (Aa (Ft (ts:=["weight"]) (fs:=[(1,"factor")]) rfl (Dh.of (sc:=Ar Pn) (N:=["one","factor"]) rfl rfl (by decide+kernel)) (Ho (Af 0)) (fun _ _ _=>(Ay 0 (show Nodup (["weight","factor"]:List Str)by decide+kernel))) (fun _ _ _=>En) (fun _ _ _=>(Ah Bo (Af 0) (Af 1)))) Ac))))),?_⟩
 done
 have M:∀i,Sz (n+m) (co (ng p c) i):=fun i=>by
  rw [Sq]
  exact(Y i).mul Z
 by_cases O:c=0
 . rw [if_pos O]
   refine⟨by decide,fun z J=>k _ _ (Same.upd J _) ⟨⟨z,rfl,?_⟩,Cp _,?_,M⟩⟩
   . have e:ng p c=[]:=(Cp _).ext (.inl rfl) fun i=>by
      have:=Sq p c i
      rw [O,mul_zero]at this
      rw [Bu,<-this,O,ng]
     rw [e]
     exact .of Ao
   . have:=Nj (p.map (· *c))
     rw [length_map]at this
     exact le_trans this S
 . rw [if_neg O]
   refine⟨⟨_,W⟩,fun p1 U=>Jf (es:=p) (inj:=V.int) (fun w=> .int (w*c)) (le_trans S (le_trans l5 (by decide))) U (Ud W) ?_ ?_⟩
   . intro e H2 R he s2 hR
     done
     obtain⟨i,hi,ei⟩:=getElem_of_mem he
     have ze:=Y i
     rw [Cg hi,ei]at ze
     exact⟨ze.mulOk Z (by omega),hR _ (Same.refl _)⟩
   . intro H2 s2 h2
     try done
     have e:ng p c=p.map (· *c):=Agu (.of (by
      by_cases hp:p=[]
      . left;rw [hp];rfl
      . right
        have:=tp.lead hp
        rw [length_map,<-Bq,show trim (p.map (· *c))=ng p c from rfl,Sq]
        exact mul_ne_zero this O))
     refine⟨p1,_,rfl,.inl ⟨.of h2,fun z J=>k _ _ (s2.trans (Same.upd J _)) ⟨⟨z,rfl,?_⟩,Cp _,?_,M⟩⟩⟩
     . rw [e,map_map]
       exact .of Ao
     . rw [e,length_map]
       exact S
noncomputable def Oe (K:Frag):Sp:=fun vs H Q _=>∃(x y:V) (p q:List Int) (l l' n n':Nat),vs=[x,y]/\Po K H x p l n/\Po K H y q l' n'/\l<=500/\l'<=500/\n'<=90000000/\∀z H',Same H H'->Po K H' z (ta p (ng q (-1))) (max l l') (max n (n'+1)+1)->Q z H'
theorem Ab2 (F:Df K mg "p_minus" Rg ["one","other"] f fd)   (I:Cal P w K mg base 35 "p_plus" ["one","other"] (Ru K)) (J:Cal P w K mg base 33 "scaled" ["one","factor"] (Ku K)):Cal P w K mg base 36 "p_minus" ["one","other"] (Oe K):=by
 refine F.cal (F.fn.ok Ack (fun Y H Q E h=> ?_) (fun Z A outer s H Y Q E O h=> ?_))
 . obtain⟨x,y,p,q,_,_,_,_,rfl,_⟩:=h
   rfl
 obtain⟨x,y,p,q,l,S,n,U,rfl,hx,hy,l5,M,hn,k⟩:=h
 refine Av ⟨_,(Ag (Ak (Ai I O (Aa (Af 0) (Aa (Ai J O (Aa (Af 1) (Aa (Br Dd Ad) Ac))) Ac))))),?_⟩
 done
 refine⟨y,-1,q,S,U,1,rfl,hy,by unfold Sz;decide,M,by omega,fun z H1 W hz=> ?_⟩
 try done
 exact⟨x,z,p,ng q (-1),l,S,n,U+1,rfl,hx.mono W,hz,l5,M,trivial,fun z2 H2 s2 h2=>k z2 H2 (W.trans s2) h2⟩
theorem Amu {q:List Int}{n z:Nat} (J:∀i,Sz z (co q i)):∀(p:List Int),(∀x∈p,Sz n x)->∀i,Sz (n+z+p.length) (mu p (co q) i)
 | [],_,i=>by
   have I:0<2^(n+z+([]:List Int).length):=Nat.pow_pos (by decide)
   exact I
 | a::p,h,i=>by
   have M:=Amu J p fun x O=>h x (mem_cons_of_mem _ O)
   have h1:=(h a mem_cons_self).mul (J i)
   have h2:Sz (n+z+p.length) (sh (mu p (co q)) i):=by
    cases i with
    | zero=>
      have I:0<2^(n+z+p.length):=Nat.pow_pos (by decide)
      exact I
    | succ i=>exact M i
   exact(h1.add h2).mono (by simp only [length_cons];omega)
theorem Po.mem {K:Frag}{H:Hp}{v:V}{p:List Int}{l n:Nat} (h:Po K H v p l n):∀x∈p,Sz n x:=fun x I=>by
 obtain⟨i,hi,ei⟩:=getElem_of_mem I
 have z:=h.2.2.2 i
 rw [Cg hi,ei]at z
 exact z
noncomputable def Ja (K:Frag):Sp:=fun vs H Q _=>∃(x y:V) (p q:List Int) (l l' n n':Nat),vs=[x,y]/\Po K H x p l n/\Po K H y q l' n'/\l<=500/\l'<=500/\n+n'<=100000000/\∀z H',Same H H'->Po K H' z (tm p q) (l+l') (n+n'+l)->Q z H'
theorem Ab4 (F:Df K mg "p_times" Rh ["one","other"] f fd) (z_enumerate:mg "enumerate"=none) (S:mg "tuple"=none) (z_len:mg "len"=none)   :Cal P w K mg base 33 "p_times" ["one","other"] (Ja K):=by
 refine F.cal (F.fn.ok Hg (fun vs H Q E h=> ?_) (fun ai A outer s H vs Q E hr h=> ?_))
 . obtain⟨x,y,p,q,_,_,_,_,rfl,_⟩:=h
   rfl
 obtain⟨x,y,p,q,l,l',n,n',rfl,hx,hy,l5,aj,hn,k⟩:=h
 have mx:=hx.mem
 have my:=hy.mem
 obtain⟨⟨a,rfl,ha⟩,tp,lp,zp⟩:=hx
 obtain⟨⟨b,rfl,hb⟩,tq,lq,zq⟩:=hy
 have res:∀(z:Addr) (H':Hp),Same H H'->SqT K H' z ((tm p q).map V.int)->Q (.ref z) H':=fun z H' s U=>by
  refine k _ _ s ⟨⟨z,rfl,U⟩,Il _ _,?_,fun i=> ?_⟩
  . by_cases h1:p=[]
    . rw [h1,Oi,T8]
      exact zero_le _
    . by_cases h2:q=[]
      . rw [h2,T8]
        exact zero_le _
      . have:=T7 tp tq h1 h2
        omega
  . rw [Em]
    exact(Amu zq p mx i).mono (by omega)
 refine Av ⟨_,(Ae (Az (Ec (Ep (Al (Ka hr.units) (Af 0) (Bj Ac) (Ba _)) (Fg (Al (Ka hr.units) (Af 1) (Bj Ac) (Ba _))))) (Ag (Ak (Bj Ac))) Aw)
  (Ae (Aj 2 Hg.nd (Ah Akq (Dk (Aa Ad Ac)) (Ah Dw (Ah Dc (Bk Bc rfl z_len PySem.boot_len (Aa (Af 0) Ac)) (Bk Bc rfl z_len PySem.boot_len (Aa (Af 1) Ac))) Ad)))
  (Ae (Ce PassesOwn.never rfl (Ky rfl z_enumerate (Aa (Af 0) Ac)) (Eh rfl (Bb (Ay 3 Hg.nd) (Bb (Ay 4 Hg.nd) Cz))) (Ag (Az (Al S6 (Af 4) Ad (Ba _)) (Ag (Ce PassesOwn.never rfl (Ky rfl z_enumerate (Aa (Af 1) Ac)) (Eh rfl (Bb (Ay 5 Hg.nd) (Bb (Ay 6 Hg.nd) Cz))) (Ag (Dp (Ah Dc (Aq Ea (Af 2) (Ah Dc (Af 3) (Af 5)) (fun _ _=>rfl)) (Ah Bo (Af 4) (Af 6))) (Fy (Af 2) (Ah Dc (Af 3) (Af 5)) set_list))))) Aw)))
  (Ag (Ak (Dj Ds rfl S boot_tuple (Aa (Af 2) Ac))))))),?_⟩
 done
 refine⟨by decide,fun p1 aa=> ?_⟩
 have s1:=Same.upd aa (.tup [])
 refine Ez (ms:=[]) (s1.tup ha) (.of Ao) ?_
 try done
 by_cases h1:p=[]
 . rw [if_pos h1]
   refine⟨by decide,fun z U=>res z _ (s1.trans (Same.upd U _)) ?_⟩
   rw [h1,Oi,T8]
   exact .of Ao
 rw [if_neg h1]
 refine⟨by decide,fun p2 ac=> ?_⟩
 have s2:=s1.trans (Same.upd ac (.tup []))
 refine Ez (ms:=[]) (s2.tup hb) (.of Ao) ?_
 try done
 by_cases h2:q=[]
 . rw [if_pos h2]
   refine⟨by decide,fun z U=>res z _ (s2.trans (Same.upd U _)) ?_⟩
   rw [h2,T8]
   exact .of Ao
 rw [if_neg h2]
 intro p3 ad
 have s3:=s2.trans (Same.upd ad (.lst [V.int 0]))
 have q1:=length_pos_iff.mpr h1
 have q2:=length_pos_iff.mpr h2
 have ak:1000<=sizeLine:=by decide
 refine⟨a,_,rfl,.inr (s3.tup ha),b,_,rfl,.inr (s3.tup hb),?_⟩
 simp only [length_map]
 have hN:((p.length:Int)+(q.length:Int)-1).toNat=p.length+q.length-1:=by omega
 refine⟨p3,_,[V.int 0],rfl,rfl,Ao,by omega,by omega,by rw [hN];simp only [length_cons,length_nil];omega,fun l0 hn=> ?_⟩
 rw [hN,Qo]
 have ae:H l0=none:=Same.free s3 hn
 have s4:=s3.trans (Same.upd hn (.lst ((replicate (p.length+q.length-1) (0:Int)).map V.int)))
 refine⟨⟨_,s4.tup ha⟩,Ad0 (es:=p) (inj:=V.int) (fun J σ H'=>∃(o1 o2 Y Z:Option V) (ms:List Int),σ=[some (.ref a),some (.ref b),some (.ref l0),o1,o2,Y,Z]/\Same H H'/\H' l0=some (.lst (ms.map V.int))/\ms.length=p.length+q.length-1/\∀i,co ms i=mu J (co q) i)
  ⟨_,_,_,_,replicate (p.length+q.length-1) 0,rfl,s4,Ao,by rw [length_replicate],fun i=> ?_⟩ ?_ ?_ ?_⟩
 . show _=0
   unfold co
   rw [getD_eq_getElem?_getD,getElem?_replicate]
   split<;>rfl
 . rintro J σ H' ⟨o1,o2,Y,Z,ms,rfl,s5,_⟩
   exact s5.tup ha
 . rintro J e ah σ H' p4 he ⟨o1,o2,Y,Z,ms,rfl,s5,hm,a2,a0⟩ a5
   refine Jw (.of Ao) ?_
   have a6:=congrArg List.length he
   rw [length_append,length_cons]at a6
   have ez:Sz n e:=mx e (by rw [he];simp)
   have s6:=s5.trans (Same.upd a5 (.tup [V.int (J.length:Nat),V.int e]))
   have a7:=Same.upd a5 (.tup [V.int (J.length:Nat),V.int e]) _ _ hm
   try done
   by_cases U:e=0
   . rw [if_pos U]
     exact⟨_,_,_,_,ms,rfl,s6,a7,a2,fun i=>by rw [Lw,a0,U];simp⟩
   . rw [if_neg U]
     refine⟨⟨_,s6.tup hb⟩,Ad0 (es:=q) (inj:=V.int) (fun I σ H2=>∃(Y Z:Option V) (M:List Int),σ=[some (.ref a),some (.ref b),some (.ref l0),some (.int (J.length:Nat)),some (.int e),Y,Z]/\Same H H2/\H2 l0=some (.lst (M.map V.int))/\M.length=p.length+q.length-1/\
      ∀i,co M i=mu J (co q) i+(if J.length<=i then e*co I (i-J.length)else 0)) ⟨_,_,ms,rfl,s6,a7,a2,fun i=> ?_⟩ ?_ ?_ ?_⟩
     . rw [a0,Bu,mul_zero]
       split<;>simp
     . rintro I σ H2 ⟨Y,Z,M,rfl,s7,_⟩
       exact s7.tup hb
     . rintro I f af σ H2 p5 a8 ⟨Y,Z,M,rfl,s7,a3,W,O⟩ ag
       refine Jw (.of Ao) ?_
       have a4:=congrArg List.length a8
       rw [length_append,length_cons]at a4
       have fz:Sz n' f:=my f (by rw [a8];simp)
       have hj:J.length+I.length<M.length:=by omega
       have s8:=Same.upd ag (.tup [V.int (I.length:Nat),V.int f])
       have a9:=s8 _ _ a3
       repeat (first | done | simp only [<-natCast_add])
       refine Xo (.of a9) (Kz hj) ?_
       try done
       refine⟨ez.mulOk fz (by omega),?_⟩
       refine Abk a9 (by rw [length_map];exact hj) ?_
       try done
       rw [K8]
       refine⟨_,_,M.set (J.length+I.length) (M[J.length+I.length]+e*f),rfl,?_,Ao,by rw [length_set];exact W,fun i=> ?_⟩
       . intro c o hc
         rw [Cr (Cw hc ae)]
         exact s8 _ _ (s7 _ _ hc)
       . rw [Ql _ _ _ hj,Gi,O i]
         by_cases hi:i=J.length+I.length
         . subst hi
           rw [if_pos rfl,<-Cg hj,O,if_pos (by omega),if_pos (by omega),if_pos (by omega),show J.length+I.length-J.length=I.length by omega,Bl (p:=I) (le_refl _)]
           omega
         . rw [if_neg hi]
           by_cases a1:J.length<=i
           . rw [if_pos a1,if_pos a1,if_neg (by omega)]
           . rw [if_neg a1,if_neg a1]
     . rintro σ H2 ⟨Y,Z,M,rfl,s7,a3,W,O⟩
       try done
       exact⟨_,_,_,_,M,rfl,s7,a3,W,fun i=>by rw [Lw,O]⟩
 . rintro σ H' ⟨o1,o2,Y,Z,ms,rfl,s5,hm,a2,a0⟩
   try done
   have e:ms=tm p q:=by
    have tl:=T7 tp tq h1 h2
    refine ext_getElem (by omega) fun i g1 g2=> ?_
    rw [<-Cg g1,<-Cg g2,a0,Em]
   refine⟨l0,_,rfl,.inl ⟨.of hm,fun z U=>res z _ (s5.trans (Same.upd U _)) ?_⟩⟩
   rw [<-e]
   exact .of Ao
theorem Au9 {p:List Int}{l n:Nat} (tp:Tr p) (S:p.length<=l) (J:∀i,Sz n (co p i)):∀m,(pw p m).length<=m*l+1/\∀i,Sz (m*(n+l)+1) (co (pw p m) i)
 | 0=>⟨by simp [pw],fun i=>by
   rw [pw]
   refine Alz (by omega) (fun x I=> ?_) i
   have e:x=1:=by simpa using I
   subst e
   unfold Sz
   rw [Nat.zero_mul]
   decide⟩
 | m+1=>by
   obtain⟨h1,h2⟩:=Au9 tp S J m
   have U:(m+1)*l=m*l+l:=succ_mul _ _
   have W:(m+1)*(n+l)=m*(n+l)+(n+l):=succ_mul _ _
   refine⟨?_,fun i=> ?_⟩
   . rw [pw]
     by_cases M:p=[]
     . rw [M,Oi,T8]
       exact zero_le _
     . by_cases O:pw p m=[]
       . rw [O,T8]
         exact zero_le _
       . have:=T7 tp (Afy p m) M O
         omega
   . rw [pw,Em]
     exact(Amu h2 p (fun x I=>by
      obtain⟨i,hi,ei⟩:=getElem_of_mem I
      have z:=J i
      rw [Cg hi,ei]at z
      exact z) i).mono (by omega)
noncomputable def Ry (K:Frag):Sp:=fun vs H Q _=>∃(x0 x:V) (m M:Nat) (mi:Int) (p:List Int) (l n:Nat),vs=[x0,x,.int mi,.ref (cA K "p_times")]/\(mi=(m:Nat)\/mi<0/\m=0)/\(∃a,x0= .ref a/\SqT K H a [V.int 1])/\Po K H x p l n/\m<=M/\1<=M/\M*l+1<=500/\M*(n+l)+1<=20000000/\∀z H',Same H H'->Po K H' z (pw p m) (m*l+1) (m*(n+l)+1)->Q z H'
theorem Yx (F:Df K mg "repeated" Ob ["start","one","many","product"] f fd)  (I:mg "p_times"=some (.ref (cA K "p_times"))) (J:Cal P w K mg base 33 "p_times" ["one","other"] (Ja K)):Cal P w K mg base 34 "repeated" ["start","one","many","product"] (Ry K):=by
 refine F.cal (F.fn.ok Fq (fun vs H Q E h=> ?_) (fun a5 A outer s H vs Q E hr h=> ?_))
 . obtain⟨x0,x,m,M,mi,p,_,_,rfl,_⟩:=h
   rfl
 obtain⟨_,x,m,M,mi,p,l,n,rfl,a0,⟨S,rfl,a1⟩,hx,hm,hM,hl,hn,k⟩:=h
 have a2:=hx
 obtain⟨_,tp,lp,O⟩:=a2
 have bd:=Au9 tp lp O
 have sm:∀a,a<=M->a*l+1<=500/\a*(n+l)+1<=20000000:=fun a Z=>by
  have h1:a*l<=M*l:=mul_le_mul_right _ Z
  have h2:a*(n+l)<=M*(n+l):=mul_le_mul_right _ Z
  omega
 have U:∀(H':Hp) (z:V) (a b L N:Nat),Po K H' z (tm (pw p a) (pw p b)) L N->Po K H' z (pw p (a+b)) ((a+b)*l+1) ((a+b)*(n+l)+1):=fun H' z a b L N h=>by
  rw [Akz]at h
  exact⟨h.1,Afy _ _,bd (a+b)⟩
 refine Av ⟨_,(Ae (Aj 4 Fq.nd (Af 0))
  (Ae (Aj 5 Fq.nd (Af 1))
  (Ae (Aj 6 Fq.nd (Af 2))
  (Ae (Cq PassesOwn.never (Al Kc (Af 6) Ad (Ba _)) (Ae (Az (Al G4 (Ah Fb (Af 6) Ad) Ad (Ba _)) (Ag (Aj 4 Fq.nd (Zx J I (hr.mono (by decide)) (Af 3) (Aa (Af 4) (Aa (Af 5) Ac))))) Aw)
  (Ae (Aj 6 Fq.nd (Ah Cy (Af 6) Ad))
  (Ag (Az (Al Kc (Af 6) Ad (Ba _)) (Ag (Aj 5 Fq.nd (Zx J I (hr.mono (by decide)) (Af 3) (Aa (Af 5) (Aa (Af 5) Ac))))) Aw)))))
  (Ag (Ak (Af 4))))))),?_⟩
 done
 have s0:=Same.refl H
 have i1:Po K H (.ref S) (pw p 0) (0*l+1) (0*(n+l)+1):=⟨⟨S,rfl,a1⟩,Afy _ _,bd 0⟩
 have i2:Po K H x (pw p 1) (1*l+1) (1*(n+l)+1):=⟨by rw [Aq5 tp];exact hx.1,Afy _ _,bd 1⟩
 rcases a0 with rfl | ⟨a4,rfl⟩
 case inr=>
  refine Le (fun σ H'=>σ=[some (.ref S),some x,some (.int mi),some (.ref (cA K "p_times")),some (.ref S),some x,some (.int mi)]/\H'=H) (fun _ _=>0) ⟨rfl,rfl⟩ ?_
  rintro σ H' ⟨rfl,rfl⟩
  done
  rw [if_neg (by omega)]
  exact k _ _ s0 i1
 refine Le (fun σ H'=>∃(O zs:V) (a b t:Nat),σ=[some (.ref S),some x,some (.int (m:Nat)),some (.ref (cA K "p_times")),some O,some zs,some (.int (t:Nat))]/\Same H H'/\Po K H' O (pw p a) (a*l+1) (a*(n+l)+1)/\Po K H' zs (pw p b) (b*l+1) (b*(n+l)+1)/\a+b*t=m/\b<=M)
  (fun σ _=>match σ with | [_,_,_,_,_,_,some (.int t)]=>t.toNat | _=>0) ⟨_,_,0,1,m,rfl,s0,i1,i2,by omega,hM⟩ ?_
 rintro σ H' ⟨yp,ys,a,b,t,rfl,s1,ia,ib,a3,hb⟩
 done
 by_cases ht:(0:Int)<(t:Nat)
 . rw [if_pos ht]
   refine Ag5 ?_
   done
   refine⟨by decide,?_⟩
   have d2:((t:Nat):Int)/2=((t/2:Nat):Int):=by omega
   have Z:a<=M:=by omega
   have step:∀(H2:Hp) (z:V) (W:Nat),Same H' H2->Po K H2 z (pw p W) (W*l+1) (W*(n+l)+1)->W+2*b*(t/2)=m->
    Ahc (t:Nat) 2/\(if(0:Int)<((t:Nat):Int)/2 then Ja K [ys,ys] H2 (fun w H3=>(∃(O zs:V) (a b u:Nat),[some (.ref S),some x,some (.int (m:Nat)),some (.ref (cA K "p_times")),some z,some w,some (.int (((t:Nat):Int)/2))]=[some (.ref S),some x,some (.int (m:Nat)),some (.ref (cA K "p_times")),some O,some zs,some (.int (u:Nat))]/\Same H H3/\Po K H3 O (pw p a) (a*l+1) (a*(n+l)+1)/\Po K H3 zs (pw p b) (b*l+1) (b*(n+l)+1)/\a+b*u=m/\b<=M)/\(((t:Nat):Int)/2).toNat<((t:Nat):Int).toNat) E0
     else(∃(O zs:V) (a b u:Nat),[some (.ref S),some x,some (.int (m:Nat)),some (.ref (cA K "p_times")),some z,some ys,some (.int (((t:Nat):Int)/2))]=[some (.ref S),some x,some (.int (m:Nat)),some (.ref (cA K "p_times")),some O,some zs,some (.int (u:Nat))]/\Same H H2/\Po K H2 O (pw p a) (a*l+1) (a*(n+l)+1)/\Po K H2 zs (pw p b) (b*l+1) (b*(n+l)+1)/\a+b*u=m/\b<=M)/\(((t:Nat):Int)/2).toNat<((t:Nat):Int).toNat):=fun H2 z W Y iz e=>by
    rw [d2]
    refine⟨⟨by decide,by decide⟩,?_⟩
    by_cases h2:(0:Int)<((t/2:Nat):Int)
    . rw [if_pos h2]
      have a6:2*b<=2*b*(t/2):=Nat.le_mul_of_pos_right _ (by omega)
      have q1:=sm b hb
      refine⟨ys,ys,_,_,_,_,_,_,rfl,ib.mono Y,ib.mono Y,q1.1,q1.1,by omega,fun w H3 s3 iw=>⟨⟨z,w,W,b+b,t/2,rfl,(s1.trans Y).trans s3,iz.mono s3,U _ _ _ _ _ _ iw,?_,by omega⟩,by omega⟩⟩
      rw [<-Nat.two_mul]
      exact e
    . rw [if_neg h2]
      have t0:t/2=0:=by omega
      refine⟨⟨z,ys,W,b,t/2,rfl,s1.trans Y,iz,ib.mono Y,?_,hb⟩,by omega⟩
      rw [t0]at e ⊢
      simpa using e
   have e3:b*t=2*b*(t/2)+b*(t%2):=by
    have e:=div_add_mod t 2
    calc b*t=b*(2*(t/2)+t%2):=by rw [e]
     _=2*b*(t/2)+b*(t%2):=by rw [Nat.mul_add,<-Nat.mul_assoc,Nat.mul_comm b 2]
   have q1:=sm a Z
   have q2:=sm b hb
   by_cases ho:((t:Nat):Int)%2=1
   . rw [if_pos ho]
     have o1:t%2=1:=by omega
     refine⟨yp,ys,_,_,_,_,_,_,rfl,ia,ib,q1.1,q2.1,by omega,fun w H2 Y iw=>step H2 w (a+b) Y (U _ _ _ _ _ _ iw) ?_⟩
     rw [o1,Nat.mul_one]at e3
     omega
   . rw [if_neg ho]
     have o1:t%2=0:=by omega
     refine step H' yp a (Same.refl _) ia ?_
     rw [o1,Nat.mul_zero]at e3
     omega
 . rw [if_neg ht]
   have t0:t=0:=by omega
   subst t0
   have e:a=m:=by simpa using a3
   subst e
   exact k _ _ s1 ia
@[irreducible] noncomputable def LIM:Nat:=400000
theorem Ajs:LIM=400000:=by unfold LIM;rfl
@[irreducible] noncomputable def BIG:Nat:=60000000
theorem Ajn:BIG=60000000:=by unfold BIG;rfl
theorem at0 {α:Type} (x:α) (r:List α):atI (x::r) 0=some x:=Hq (j:=0) rfl
theorem at1 {α:Type} (x y:α) (r:List α):atI (x::y::r) 1=some y:=Hq (j:=1) rfl
theorem Hs {q:List Int} (z:q≠ []):atI (q.map V.int) (-1)=some (.int (co q (q.length-1))):=by
 obtain⟨I,c,rfl⟩:∃(i:List Int) (x:Int),q=i++ [x]:=⟨_,_,(dropLast_concat_getLast z).symm⟩
 rw [map_append,length_append,length_singleton,add_sub_cancel,Gi,if_pos rfl]
 exact O5 _ _
theorem Ad5:∀(p r:List Int),gl (p++r)=Int.gcd (gl p:Nat) (gl r:Nat)
 | [],r=>by rw [nil_append,gl];simp
 | a::p,r=>by rw [cons_append,gl,Ad5 p r,gl,Int.gcd_assoc]
theorem Ad8 (p:List Int) (e:Int):gl (p++ [e])=Int.gcd (gl p:Nat) e:=by
 rw [Ad5,gl,gl]
 simp [Int.gcd]
noncomputable def Avc (K:Frag):Sp:=fun vs H Q _=>∃(a:Addr) (ns:List Int),vs=[.ref a]/\SqT K H a (ns.map V.int)/\Q (.int (gl ns:Nat)) H
noncomputable def M9 (K:Frag):Sp:=Avc K
theorem U3 (F:Df K mg "divisor_of" Ke ["some"] f fd)   (z:Cal P w K mg base 33 "divisor" ["one","other"] (Iz K)):Cal P w K mg base 34 "divisor_of" ["some"] (M9 K):=by
 refine F.cal (F.fn.ok G7 (fun S H Q E h=> ?_) (fun U A outer s H S Q E W h=> ?_))
 . obtain⟨a,ns,rfl,_⟩:=h
   rfl
 obtain⟨a,ns,rfl,M,q⟩:=h
 refine Av ⟨_,(Ae (Aj 1 G7.nd Ad)
  (Ae (Ce PassesOwn.never rfl (Ho (Af 0)) (Ay 2 G7.nd) (Ae (Aj 1 G7.nd (Ai z W (Aa (Af 1) (Aa (Af 2) Ac))))
  (Ag (Az (Al G4 (Af 1) Ad (Ba _)) (Ag (Ak (Af 1))) Aw))))
  (Ag (Ak (Af 1))))),?_⟩
 done
 refine⟨⟨_,M⟩,Sd (es:=ns) (inj:=V.int) (fun I σ H'=>H'=H/\∃o,σ=[some (.ref a),some (.int (gl I:Nat)),o]) ⟨rfl,_,rfl⟩ ?_ ?_ ?_⟩
 . rintro I σ H' ⟨rfl,_⟩
   exact Vz M
 . rintro I e O σ H' Y ⟨rfl,o,rfl⟩
   done
   refine⟨_,_,rfl,?_⟩
   rw [<-Ad8]
   done
   split
   . rename_i h1
     have J:gl (I++ [e])=1:=by omega
     have Z:gl ns=gl (I++ [e]):=by
      rw [Y,<-List.singleton_append,<-append_assoc,Ad5,J]
      simp
     rw [<-Z]
     exact q
   . exact⟨_,rfl⟩
 . rintro σ H' ⟨rfl,o,rfl⟩
   done
   exact q
noncomputable def T3 (K:Frag):Sp:=Avc K
theorem Abx (F:Df K mg "content" Q9 ["one"] f fd)   (z:Cal P w K mg base 34 "divisor_of" ["some"] (M9 K)):Cal P w K mg base 35 "content" ["one"] (T3 K):=by
 refine F.cal (F.fn.ok Acg (fun I H Q E h=> ?_) (fun J A outer s H I Q E M h=> ?_))
 . obtain⟨a,ns,rfl,_⟩:=h
   rfl
 obtain⟨a,ns,rfl,O,q⟩:=h
 refine Av ⟨_,(Ag (Ak (Ai z M (Aa (Af 0) Ac)))),?_⟩
 done
 exact⟨a,ns,rfl,O,q⟩
noncomputable def Agn (K:Frag):Sp:=fun vs H Q _=>∃(a:Addr) (p:List Int),vs=[.ref a]/\SqT K H a (p.map V.int)/\∀H',Same H H'->Q (.int (un p)) H'
theorem Am3 (F:Df K mg "unit" Agb ["one"] f fd)   (z:Cal P w K mg base 35 "content" ["one"] (T3 K)):Cal P w K mg base 36 "unit" ["one"] (Agn K):=by
 refine F.cal (F.fn.ok An3 (fun W H Q E h=> ?_) (fun Y A outer s H W Q E M h=> ?_))
 . obtain⟨a,p,rfl,_⟩:=h
   rfl
 obtain⟨a,p,rfl,J,k⟩:=h
 refine Av ⟨_,(Ae (Az (Ec (Ip (Al (Afl M.units) (Af 0) (Bj Ac) (Ba _)) (G9 (Al Nx (Aq Bd (Af 0) (Br Dd Ad) (fun _ _=>rfl)) Ad (Ba _))))) (Ag (Ak (Br Dd (Ai z M (Aa (Af 0) Ac))))) Aw)
  (Ag (Ak (Ai z M (Aa (Af 0) Ac))))),?_⟩
 done
 refine⟨by decide,fun Z O=> ?_⟩
 have I:=Same.upd O (.tup [])
 refine Ez (ms:=[]) (I.tup J) (.of Ao) ?_
 by_cases S:p=[]
 . subst S
   try done
   exact⟨a,[],rfl,I.tup J,k _ I⟩
 . rw [decide_eq_false S]
   try done
   refine Bv (I.tup J) (Hs S) ?_
   try done
   split
   . rename_i U
     refine⟨a,p,rfl,I.tup J,?_⟩
     try done
     have:un p= -((gl p:Nat):Int):=if_pos U
     rw [<-this]
     exact k _ I
   . rename_i U
     refine⟨a,p,rfl,I.tup J,?_⟩
     try done
     have:un p=((gl p:Nat):Int):=if_neg U
     rw [<-this]
     exact k _ I
noncomputable def R3 (K:Frag):Sp:=fun vs H Q _=>∃(a:Addr) (p:List Int) (d:Int),vs=[.ref a,.int d]/\SqT K H a (p.map V.int)/\p.length<=1000/\(p≠ []->d≠0/\Sz LIM d)/\∀z H',Same H H'->SqT K H' z ((p.map fun x=>x.fdiv d).map V.int)->Q (.ref z) H'
theorem Afh (F:Df K mg "shrunk" Pq ["one","number"] f fd) (I:mg "tuple"=none) (py:Pyl P base)  :Cal P w K mg base 33 "shrunk" ["one","number"] (R3 K):=by
 refine F.cal (F.fn.ok Agi (fun S H Q E h=> ?_) (fun U A outer s H S Q E W h=> ?_))
 . obtain⟨a,p,d,rfl,_⟩:=h
   rfl
 obtain⟨a,p,d,rfl,M,Y,Z,k⟩:=h
 refine Av ⟨_,(Ag (Ak (Dj Ds rfl I boot_tuple (Aa (Ft (ts:=["weight"]) (fs:=[(1,"number")]) rfl (Dh.of (sc:=Ar Pq) (N:=["one","number"]) rfl rfl (by decide+kernel)) (Ho (Af 0)) (fun _ _ _=>(Ay 0 (show Nodup (["weight","number"]:List Str)by decide+kernel))) (fun _ _ _=>En) (fun _ _ _=>(Ah (G5 py (W.far (by decide)) rfl rfl rfl rfl rfl) (Af 0) (Af 1)))) Ac)))),?_⟩
 done
 refine⟨⟨_,M⟩,fun p1 J=>Jf (es:=p) (inj:=V.int) (fun x=> .int (x.fdiv d)) (le_trans Y (by decide)) J (Ud M) ?_ ?_⟩
 . intro e H2 R he O hR
   have:=Z (List.ne_nil_of_mem he)
   done
   exact⟨this.1,hR _ (Same.refl _)⟩
 intro H2 O h2
 try done
 have em:p.map (fun x=>V.int (x.fdiv d))=(p.map fun x=>x.fdiv d).map V.int:=by rw [map_map];rfl
 rw [em]at h2
 exact⟨p1,_,rfl,.inl ⟨.of h2,fun z hz=>k z _ (O.trans (Same.upd hz _)) (.of Ao)⟩⟩
noncomputable def Vr (K:Frag):Sp:=fun vs H Q _=>∃(x:V) (p:List Int) (l n:Nat),vs=[x]/\Po K H x p l n/\l<=100/\n<=400000/\∀z H',Same H H'->Po K H' z (pln p) l n->Q z H'
theorem At6 {p:List Int}{n:Nat} (I:Tr p) (h:p≠ []) (z:Sz n (co p (p.length-1))):Sz n (un p):=z.of_abs (le_of_dvd (natAbs_pos.mpr (I.lead h)) (natAbs_dvd_natAbs.mpr (Alf p _)))
theorem Aq1 {p:List Int}{n:Nat} (I:Tr p) (z:∀i,Sz n (co p i)) (i:Nat):Sz n (co (pln p) i):=by
 by_cases h:p=[]
 . subst h;exact z i
 . refine(z i).of_abs ?_
   have e:=Ow I h i
   by_cases J:co p i=0
   . have:co (pln p) i=0:=by
      rw [J]at e
      exact(mul_eq_zero.mp e).resolve_left (Zq I h)
     rw [this]
     exact zero_le _
   . exact le_of_dvd (natAbs_pos.mpr J) (natAbs_dvd_natAbs.mpr ⟨un p,by rw [mul_comm];exact e.symm⟩)
theorem Ail (F:Df K mg "plain" Zd ["one"] f fd)   (I:Cal P w K mg base 33 "shrunk" ["one","number"] (R3 K)) (J:Cal P w K mg base 36 "unit" ["one"] (Agn K)):Cal P w K mg base 37 "plain" ["one"] (Vr K):=by
 refine F.cal (F.fn.ok Ai5 (fun Y H Q E h=> ?_) (fun Z A outer s H Y Q E M h=> ?_))
 . obtain⟨x,p,_,_,rfl,_⟩:=h
   rfl
 obtain⟨x,p,l,n,rfl,⟨⟨a,rfl,O⟩,tp,lp,S⟩,hl,hn,k⟩:=h
 refine Av ⟨_,(Ag (Ak (Ai I M (Aa (Af 0) (Aa (Ai J M (Aa (Af 0) Ac)) Ac))))),?_⟩
 done
 refine⟨a,p,rfl,O,fun H1 U=> ?_⟩
 try done
 refine⟨a,p,un p,rfl,U.tup O,by omega,fun W=>⟨Zq tp W,(At6 tp W (S _)).mono (by rw [Ajs];exact hn)⟩,fun z H2 s2 h2=>k _ _ (U.trans s2) ⟨⟨z,rfl,h2⟩,Ol tp,by rw [Lx];exact lp,Aq1 tp S⟩⟩
theorem Aoj {H H1:Hp}{Q:VK}{E:XK}{x:V}{p:List Int}{l n:Nat} (I:Po K H1 x p l n) (J:Same H1 H) (M:l<=100) (O:n<=400000) (h:∀z H',Same H H'->Po K H' z (pln p) l n->Q z H'):Vr K [x] H Q E:=⟨x,p,l,n,rfl,I.mono J,M,O,h⟩
noncomputable def md (p:List Int) (m:Int):List Int:=trim (p.map (· %m))
theorem Abq (p:List Int) (m:Int) (i:Nat):co (md p m) i=co p i%m:=by
 rw [md,Bq]
 by_cases h:i<p.length
 . rw [Cg (by simpa using h),Cg h,List.getElem_map]
 . rw [Bl (by simpa using h),Bl (by omega),zero_emod]
theorem Ap5 (p:List Int) (m:Int):Tr (md p m):=Cp _
theorem Aki (p:List Int) (m:Int):(md p m).length<=p.length:=by
 have:=Nj (p.map (· %m))
 rw [length_map]at this
 exact this
theorem Art {k:Nat}{m:Int} (z:0<m) (I:Sz k m) (x:Int):Sz k (x%m):=by
 have J:=emod_nonneg x (Int.ne_of_gt z)
 have h1:=emod_lt_of_pos x z
 generalize x%m=y at*
 exact I.of_abs (by omega)
noncomputable def Gx (K:Frag):Sp:=fun vs H Q _=>∃(x:V) (m:Int) (p:List Int) (l n k:Nat),vs=[x,.int m]/\Po K H x p l n/\l<=500/\0<m/\Sz k m/\∀z H',Same H H'->Po K H' z (md p m) l k->Q z H'
theorem Wv (F:Df K mg "by_number" Jl ["one","m"] f fd)   (c_poly:Cal P w K mg base 33 "poly" ["weights"] (Ij K)):Cal P w K mg base 34 "by_number" ["one","m"] (Gx K):=by
 refine F.cal (F.fn.ok W7 (fun U H Q E h=> ?_) (fun W A outer s H U Q E Y h=> ?_))
 . obtain⟨x,m,p,_,_,_,rfl,_⟩:=h
   rfl
 obtain⟨x,m,p,l,n,k,rfl,⟨⟨a,rfl,J⟩,tp,M,zp⟩,Z,O,hk,q⟩:=h
 refine Av ⟨_,(Ag (Ak (Ai c_poly Y (Aa (Ft (ts:=["weight"]) (fs:=[(1,"m")]) rfl (Dh.of (sc:=Ar Jl) (N:=["one","m"]) rfl rfl (by decide+kernel)) (Ho (Af 0)) (fun _ _ _=>(Ay 0 (show Nodup (["weight","m"]:List Str)by decide+kernel))) (fun _ _ _=>En) (fun _ _ _=>(Ah Fb (Af 0) (Af 1)))) Ac)))),?_⟩
 done
 refine⟨⟨_,J⟩,fun p1 I=>Jf (es:=p) (inj:=V.int) (fun e=> .int (e%m)) (le_trans (le_trans M Z) (by decide)) I (Ud J) ?_ ?_⟩
 . intro e H2 R he S hR
   done
   exact⟨O,hR _ (Same.refl _)⟩
 intro H2 S h2
 try done
 have em:p.map (fun e=>V.int (e%m))=(p.map (· %m)).map V.int:=by rw [map_map];rfl
 rw [em]at h2
 refine Ag2 (.of h2) (by rw [length_map];omega) fun z H3 s3 h3=>q _ _ (S.trans s3) ⟨⟨z,rfl,h3⟩,Cp _,le_trans (Aki p m) M,fun i=> ?_⟩
 rw [Abq]
 exact Art O hk _
theorem R6 {H H1:Hp}{Q:VK}{E:XK}{x:V}{m:Int}{p:List Int}{l n k:Nat} (I:Po K H1 x p l n) (J:Same H1 H) (M:l<=500) (O:0<m) (S:Sz k m) (h:∀z H',Same H H'->Po K H' z (md p m) l k->Q z H'):Gx K [x,.int m] H Q E:=⟨x,m,p,l,n,k,rfl,I.mono J,M,O,S,h⟩
theorem Ad4 (g l:Int):Int.gcd l (g-g/l*l)=Int.gcd g l:=by
 rw [Int.gcd_sub_mul_right_right,gcd_comm]
noncomputable def Aoq (m g l x y:Int):Prop:=∃A B:Nat,((x=(A:Nat)/\y= -((B:Nat):Int))\/(x= -((A:Nat):Int)/\y=(B:Nat)))/\(B:Int)*g+(A:Int)*l=m
theorem Aoq.next {m g l x y:Int} (h:Aoq m g l x y) (z:0<=g) (I:0<l):Aoq m l (g-g/l*l) y (x-g/l*y):=by
 obtain⟨A,B,h,e⟩:=h
 have M:0<=g/l:=ediv_nonneg z (le_of_lt I)
 obtain⟨q,J⟩:∃q:Nat,g/l=q:=⟨(g/l).toNat,by omega⟩
 rw [J]
 refine⟨B,A+q*B,?_,?_⟩
 . rcases h with⟨rfl,rfl⟩ | ⟨rfl,rfl⟩
   . refine .inr ⟨rfl,?_⟩
     push_cast
     rw [mul_neg]
     omega
   . refine .inl ⟨rfl,?_⟩
     push_cast
     omega
 . push_cast
   rw [<-e]
   grind
theorem Aoq.here {m g l x y:Int} (h:Aoq m g l x y) (I:0<g) (z:0<=l):y.natAbs<=m.natAbs:=by
 obtain⟨A,B,h,e⟩:=h
 have h1:(B:Int)*1<=(B:Int)*g:=mul_le_mul_of_nonneg_left (by omega) (by omega)
 have h2:(0:Int)<=(A:Int)*l:=mul_nonneg (by omega) z
 rcases h with⟨_,rfl⟩ | ⟨_,rfl⟩<;>omega
noncomputable def Ii (K:Frag):Sp:=fun vs H Q E=>∃(a m:Int) (k:Nat),vs=[.int a,.int m]/\1<m/\Sz k m/\k<=8000/\(Int.gcd a m≠1->E (.ref (cA K "NoPart")) none H)/\(Int.gcd a m=1->∀r,0<=r->r<m->r*a%m=1->Q (.int r) H)
noncomputable def Nb (K:Frag):Sp:=fun vs H Q _=>∃(a m:Int) (k:Nat),vs=[.int a,.int m]/\1<m/\Sz k m/\k<=8000/\Int.gcd a m=1/\(∀r,0<=r->r<m->r*a%m=1->Q (.int r) H)
theorem Qv (K:Frag):∀z H Q E,Nb K z H Q E->Ii K z H Q E0:=by
 rintro z H Q E ⟨a,m,k,rfl,I,J,M,O,c⟩
 exact⟨a,m,k,rfl,I,J,M,fun h=>(h O).elim,fun _=>c⟩
theorem U4 (F:Df K mg "inverse_by" Kf ["number","m"] f fd)  (z:Xv K (cA K "NoPart")) (I:mg "NoPart"=some (.ref (cA K "NoPart")))  :Zu P w K mg base 33 "inverse_by" ["number","m"] (Ii K):=by
 refine F.calE (F.fn.okE Dy (fun vs H Q E h=> ?_) (fun a0 A outer s H vs Q E hr h=> ?_))
 . obtain⟨a,m,k,rfl,_⟩:=h
   rfl
 obtain⟨a,m,k,rfl,hm,O,h8,kE,kQ⟩:=h
 refine Av ⟨_,(Ae (Aj 2 Dy.nd (Af 1))
  (Ae (Aj 3 Dy.nd (Ah Fb (Af 0) (Af 1)))
  (Ae (Aj 4 Dy.nd Ad)
  (Ae (Aj 5 Dy.nd Ad)
  (Ae (V7 (Cq PassesOwn.never (Al S6 (Af 3) Ad (Ba _)) (Ae (Aj 6 Dy.nd (Ah Cy (Af 2) (Af 3)))
  (Ae (Gs (i:=2) (j:=3) rfl Dy.nd rfl rfl (by decide) rfl rfl (Aa (Af 3) (Aa (Ah Dw (Af 2) (Ah Bo (Af 6) (Af 3))) Ac)) rfl)
  (Ag (Gs (i:=4) (j:=5) rfl Dy.nd rfl rfl (by decide) rfl rfl (Aa (Af 5) (Aa (Ah Dw (Af 4) (Ah Bo (Af 6) (Af 5))) Ac)) rfl))))))
  (Ae (Az (Al S6 (Af 2) Ad (Ba _)) (Ag (Jd z I (Aa Im Ac))) Aw)
  (Ag (Ak (Ah Fb (Af 4) (Af 1)))))))))),?_⟩
 done
 have m0:=emod_nonneg a (by omega:m≠0)
 have m1:=emod_lt_of_pos a (by omega:0<m)
 refine⟨by omega,?_⟩
 refine Le (fun σ H'=>H'=H/\∃(g l x y:Int) (o:Option V),σ=[some (.int a),some (.int m),some (.int g),some (.int l),some (.int x),some (.int y),o]/\0<g/\g<=m/\0<=l/\l<=m/\Int.gcd g l=Int.gcd a m/\m∣x*a-g/\m∣y*a-l/\Aoq m g l x y)
  (fun σ _=>match σ with | [_,_,_,some (.int l),_,_,_]=>l.toNat | _=>0) ⟨rfl,m,a%m,0,1,_,rfl,by omega,Int.le_refl _,m0,by omega,?_,⟨-1,by omega⟩,⟨a/m,?_⟩,⟨0,1,.inr ⟨rfl,rfl⟩,by simp⟩⟩ ?_
 . have e:a%m=a-a/m*m:=by
    have:=mul_ediv_add_emod a m
    rw [mul_comm]at this
    omega
   rw [e]
   exact Ad4 a m
 . have:=mul_ediv_add_emod a m
   omega
 rintro σ H' ⟨rfl,g,l,x,y,o,rfl,g0,gm,S,lm,U,W,Y,Z⟩
 done
 by_cases J:l=0
 . rw [if_pos J]
   subst J
   have eg:((Int.gcd a m:Nat):Int)=g:=by
    rw [<-U,Int.gcd_zero_right]
    omega
   try done
   by_cases h1:g=1
   . rw [if_pos h1]
     subst h1
     try done
     refine⟨by omega,kQ (by omega) _ (emod_nonneg _ (by omega)) (emod_lt_of_pos _ (by omega)) ?_⟩
     obtain⟨c,hc⟩:=W
     have e:x%m*a=1+m*(c-x/m*a):=by
      have:=mul_ediv_add_emod x m
      have e2:x%m=x-m*(x/m):=by omega
      rw [e2]
      grind
     rw [e,Int.add_mul_emod_self_left]
     exact Int.emod_eq_of_lt (by decide) hm
   . rw [if_neg h1]
     try done
     exact kE (by omega)
 . rw [if_neg J]
   refine Ag5 ?_
   try done
   have M:0<l:=by omega
   have q0:0<=g/l:=ediv_nonneg (by omega) S
   have q1:g/l<=g:=Int.ediv_le_self _ (by omega)
   have zl:Sz k l:=O.of_abs (by omega)
   have zq:Sz k (g/l):=O.of_abs (by omega)
   have zy:Sz k y:=O.of_abs (Z.here g0 S)
   have e1:g-g/l*l=g%l:=by
    have:=mul_ediv_add_emod g l
    rw [mul_comm]at this
    omega
   have r0:=emod_nonneg g J
   have r1:=emod_lt_of_pos g M
   refine⟨⟨M,zl.log2 J (by omega)⟩,zq.mulOk zl (by omega),zq.mulOk zy (by omega),⟨_,_,_,_,_,rfl,M,lm,by omega,by omega,(Ad4 g l).trans U,Y,?_,Z.next (by omega) M⟩,by omega⟩
   obtain⟨c,hc⟩:=W
   obtain⟨d,hd⟩:=Y
   refine⟨c-g/l*d,?_⟩
   have ex:x*a=m*c+g:=by omega
   have ey:y*a=m*d+l:=by omega
   rw [Int.sub_mul,mul_assoc,ex,ey]
   grind
noncomputable def MpR (K:Frag) (m:Int) (p q:List Int) (k:Nat) (Q:VK) (H:Hp):Prop:=∀(z:Addr) (H':Hp) (c d:V) (u r:List Int),Same H H'->SqT K H' z [c,d]->Po K H' c u p.length k->Po K H' d r p.length k->
 (∀i,m∣co p i-(mu u (co q) i+co r i))->r.length<q.length->(∀i,0<=co u i/\co u i<m)->(∀i,0<=co r i/\co r i<m)->Q (.ref z) H'
noncomputable def Oq (K:Frag):Sp:=fun vs H Q E=>∃(x y:V) (m:Int) (p q:List Int) (l l' n n' k:Nat),vs=[x,y,.int m]/\Po K H x p l n/\Po K H y q l' n'/\l<=100/\l'<=100/\n'<=100000/\1<m/\Sz k m/\k<=8000/\(q=[]\/Int.gcd (co q (q.length-1)) m≠1->∀H',Same H H'->E (.ref (cA K "NoPart")) none H')/\(q≠ []->Int.gcd (co q (q.length-1)) m=1->MpR K m p q k Q H)
noncomputable def Rr (K:Frag):Sp:=fun vs H Q _=>∃(x y:V) (m:Int) (p q:List Int) (l l' n n' k:Nat),vs=[x,y,.int m]/\Po K H x p l n/\Po K H y q l' n'/\l<=100/\l'<=100/\n'<=100000/\1<m/\Sz k m/\k<=8000/\q≠ []/\Int.gcd (co q (q.length-1)) m=1/\MpR K m p q k Q H
theorem Uw (K:Frag):∀I H Q E,Rr K I H Q E->Oq K I H Q E0:=by
 rintro I H Q E ⟨x,y,m,p,q,l,J,n,M,k,rfl,O,S,h1,h2,U,Y,Z,h8,hq,hg,c⟩
 exact⟨x,y,m,p,q,l,J,n,M,k,rfl,O,S,h1,h2,U,Y,Z,h8,fun z=>by
  rcases z with z | z
  . exact(hq z).elim
  . exact(z hg).elim,fun _ _=>c⟩
theorem Yt (F:Df K mg "m_parted" N6 ["one","other","m"] f fd) (z_list:mg "list"=none) (a4:mg "range"=none) (ac:mg "max"=none) (z_len:mg "len"=none) (z_enumerate:mg "enumerate"=none) (a0:Xv K (cA K "NoPart")) (a1:mg "NoPart"=some (.ref (cA K "NoPart"))) (S:Zu P w K mg base 33 "inverse_by" ["number","m"] (Ii K)) (Z:Cal P w K mg base 34 "by_number" ["one","m"] (Gx K)) (c_poly:Cal P w K mg base 33 "poly" ["weights"] (Ij K)) (c_degree:Cal P w K mg base 33 "degree" ["one"] (Gf K)):Zu P w K mg base 35 "m_parted" ["one","other","m"] (Oq K):=by
 refine F.calE (F.fn.okE Eu (fun vs H Q E h=> ?_) (fun az A outer s H vs Q E hr h=> ?_))
 . obtain⟨x,y,m,p,q,_,_,_,_,_,rfl,_⟩:=h
   rfl
 obtain⟨x,y,m,p,q,l,l',n,n',k,rfl,hx,hy,b1,ax,b2,hm,hk,h8,k0,kq⟩:=h
 have my:=hy.mem
 obtain⟨⟨a,rfl,ha⟩,tp,lp,zp⟩:=id hx
 obtain⟨⟨b,rfl,hb⟩,tq,lq,zq⟩:=id hy
 refine Av ⟨_,(Ae (Az (Al (Ka hr.units) (Af 1) (Bj Ac) (Ba _)) (Ag (Jd a0 a1 (Aa Im Ac))) Aw)
  (Ae (Aj 3 Eu.nd (Xy S (hr.mono (by decide)) (Aa (Aq Bd (Af 1) (Br Dd Ad) (fun _ _=>rfl)) (Aa (Af 2) Ac))))
  (Ae (Aj 4 Eu.nd (Dj Es rfl z_list boot_list (Aa (Ai Z hr (Aa (Af 0) (Aa (Af 2) Ac))) Ac)))
  (Ae (Aj 5 Eu.nd (Ah Akq (Dk (Aa Ad Ac)) (Bk (Qh rfl) rfl ac boot_max (Aa (Ah Dc (Ah Dw (Bk Bc rfl z_len PySem.boot_len (Aa (Af 4) Ac)) (Bk Bc rfl z_len PySem.boot_len (Aa (Af 1) Ac))) Ad) (Aa Ad Ac)))))
  (Ae (V7 (Ce PassesOwn.never rfl (Np rfl a4 (Aa (Ah Dw (Bk Bc rfl z_len PySem.boot_len (Aa (Af 5) Ac)) Ad) (Aa (Br Dd Ad) (Aa (Br Dd Ad) Ac)))) (Ay 6 Eu.nd) (Ae (Aj 7 Eu.nd (Ah Fb (Ah Bo (Aq Ea (Af 4) (Ah Dc (Af 6) (Ai c_degree hr (Aa (Af 1) Ac))) (fun _ _=>rfl)) (Af 3)) (Af 2)))
  (Ae (Dp (Af 7) (Fy (Af 5) (Af 6) set_list))
  (Ag (Az (Al S6 (Af 7) Ad (Ba _)) (Ag (Ce PassesOwn.never rfl (Ky rfl z_enumerate (Aa (Af 1) Ac)) (Eh rfl (Bb (Ay 8 Eu.nd) (Bb (Ay 9 Eu.nd) Cz))) (Ag (Dp (Ah Fb (Ah Dw (Aq Ea (Af 4) (Ah Dc (Af 6) (Af 8)) (fun _ _=>rfl)) (Ah Bo (Af 7) (Af 9))) (Af 2)) (Fy (Af 4) (Ah Dc (Af 6) (Af 8)) set_list))))) Aw))))))
  (Ag (Ak (Bj (Aa (Ai c_poly hr (Aa (Af 5) Ac)) (Aa (Ai c_poly hr (Aa (Af 4) Ac)) Ac)))))))))),?_⟩
 refine Bt (fun I H'=>Same H H'/\q≠ []/\I=[some (.ref a),some (.ref b),some (.int m),none,none,none,none,none,none,none]) (fun N hN=> ?_) ?_
 . done
   refine⟨by decide,fun e0 aq=> ?_⟩
   have se:=Same.upd aq (.tup [])
   refine Ez (ms:=[]) (se.tup hb) (.of Ao) ?_
   try done
   split
   . rename_i h
     exact k0 (.inl h) _ se
   . rename_i h
     exact hN _ _ ⟨se,h,rfl⟩
 rintro σ H1 ⟨s1,hq,rfl⟩
 have b3:0<q.length:=length_pos_iff.mpr hq
 have b4:1000<=sizeLine:=by decide
 refine Bt (fun I H'=>H'=H1/\Int.gcd (co q (q.length-1)) m=1/\∃iv:Int,I=[some (.ref a),some (.ref b),some (.int m),some (.int iv),none,none,none,none,none,none]/\0<=iv/\iv<m/\iv*co q (q.length-1)%m=1) (fun N hN=> ?_) ?_
 . done
   refine Bv (s1.tup hb) (Hs hq) ?_
   try done
   exact⟨_,m,k,rfl,hm,hk,h8,fun hg=>k0 (.inr hg) _ s1,fun hg r r0 r1 hr=>hN _ _ ⟨rfl,hg,r,rfl,r0,r1,hr⟩⟩
 rintro σ H2 ⟨rfl,hg,iv,rfl,b5,b6,ah⟩
 replace kq:=kq hq hg
 refine Bt (fun I H'=>Same H H'/\∃O,I=[some (.ref a),some (.ref b),some (.int m),some (.int iv),some (.ref O),none,none,none,none,none]/\H O=none/\H' O=some (.lst ((md p m).map V.int))) (fun N hN=> ?_) ?_
 . done
   refine R6 hx s1 (by omega) (by omega) hk fun z H3 s3 i3=> ?_
   obtain⟨⟨c,rfl,hc⟩,_⟩:=i3
   try done
   exact⟨c,_,rfl,.inr hc,fun O J=>hN _ _ ⟨(s1.trans s3).trans (Same.upd J _),O,rfl,Same.free (s1.trans s3) J,Ao⟩⟩
 rintro σ H3 ⟨s3,O,rfl,nr,J⟩
 obtain⟨L,hL⟩:∃L,L=(md p m).length+1-q.length:=⟨_,rfl⟩
 have b7:=Aki p m
 have eL:(if(0:Int)>((md p m).length:Int)-(q.length:Int)+1 then(0:Int)else((md p m).length:Int)-(q.length:Int)+1)=(L:Int):=by
  subst hL
  split<;>omega
 refine Bt (fun I H'=>Same H H'/\∃W,I=[some (.ref a),some (.ref b),some (.int m),some (.int iv),some (.ref O),some (.ref W),none,none,none,none]/\H W=none/\W≠O/\H' W=some (.lst ((replicate L (0:Int)).map V.int))/\H' O=some (.lst ((md p m).map V.int))) (fun N hN=> ?_) ?_
 . done
   intro p3 ar
   have t3:=Same.upd ar (.lst [V.int 0])
   have u3:=s3.trans t3
   refine⟨O,_,rfl,.inl (.of (t3 _ _ J)),b,_,rfl,.inr (u3.tup hb),?_⟩
   repeat (first | done | simp only [length_map,eL])
   refine⟨p3,_,[V.int 0],rfl,rfl,Ao,by omega,by omega,by simp only [toNat_natCast,length_cons,length_nil];omega,fun W M=> ?_⟩
   rw [toNat_natCast,Qo]
   have t4:=t3.trans (Same.upd M (.lst ((replicate L (0:Int)).map V.int)))
   exact hN _ _ ⟨s3.trans t4,W,rfl,Same.free u3 M,Ne.symm (Cw (t3 _ _ J) M),Ao,t4 _ _ J⟩
 clear J s3
 rintro σ H4 ⟨s4,W,rfl,nq,ne,M,J⟩
 have a2:0<m:=by omega
 refine Bt (fun I H'=>Same H H'/\∃(Y rs:List Int) (o6 o7 o8 o9:Option V),I=[some (.ref a),some (.ref b),some (.int m),some (.int iv),some (.ref O),some (.ref W),o6,o7,o8,o9]/\H' W=some (.lst (Y.map V.int))/\H' O=some (.lst (rs.map V.int))/\Y.length=L/\rs.length=(md p m).length/\MV m p q Y rs 0) (fun N hN=> ?_) ?_
 . rw [Aol]
   done
   refine⟨W,_,rfl,.inl (.of M),?_⟩
   try done
   rw [length_map,length_replicate]
   refine⟨by omega,?_⟩
   refine Ama L (fun i=> .int ((L:Int)-1-(i:Nat))) (fun i I H'=>Same H H'/\∃(Y rs:List Int) (o6 o7 o8 o9:Option V),I=[some (.ref a),some (.ref b),some (.int m),some (.int iv),some (.ref O),some (.ref W),o6,o7,o8,o9]/\H' W=some (.lst (Y.map V.int))/\H' O=some (.lst (rs.map V.int))/\Y.length=L/\rs.length=(md p m).length/\MV m p q Y rs (L-i)) ?_ ?_ ?_ ?_
   . refine⟨s4,_,_,_,_,_,_,rfl,M,J,length_replicate,rfl,?_⟩
     rw [hL,sub_zero]
     refine MV.start a2 hq (fun t=> ?_) fun t=> ?_
     . rw [Abq]
       exact⟨co p t/m,by have:=mul_ediv_add_emod (co p t) m;omega⟩
     . rw [Abq]
       exact⟨emod_nonneg _ (by omega),emod_lt_of_pos _ a2⟩
   . intro i I H' _
     have e:((L:Int)-1- -1).toNat=L:=by omega
     rw [e]
     exact R7
   . clear M J s4
     rintro i I H5 hi ⟨s5,Y,rs,o6,o7,o8,o9,rfl,M,J,a7,ad,dv⟩
     obtain⟨j,hj⟩:∃j:Nat,j+1=L-i:=⟨L-i-1,by omega⟩
     have pj:(L:Int)-1-(i:Nat)=(j:Int):=by omega
     rw [<-hj]at dv
     rw [Zr,pj]
     simp only [set_cons_succ,set_cons_zero]
     obtain⟨d,hd⟩:∃d,d+1=q.length:=⟨q.length-1,by omega⟩
     have ai:q.length-1=d:=by omega
     have aj:j+d<rs.length:=by omega
     have ak:j<Y.length:=by omega
     have ix:(j:Int)+((q.length:Int)-1)=((j+d:Nat):Int):=by omega
     have er:rs[j+d]=co rs (j+d):=(Cg aj).symm
     rw [ai]at ah
     have zr:Sz k (co rs (j+d)):=hk.of_abs (by have:=dv.rr (j+d);omega)
     have au:Sz k iv:=hk.of_abs (by omega)
     obtain⟨fc,a8⟩:∃fc,fc=co rs (j+d)*iv%m:=⟨_,rfl⟩
     have f0:0<=fc:=by rw [a8];exact emod_nonneg _ (by omega)
     have f1:fc<m:=by rw [a8];exact emod_lt_of_pos _ a2
     have zf:Sz k fc:=hk.of_abs (by omega)
     have ef:m∣co rs (j+d)-fc*co q d:=by rw [a8];exact Ah8 ah hm
     refine Bt (fun I H'=>H'=H5/\I=[some (.ref a),some (.ref b),some (.int m),some (.int iv),some (.ref O),some (.ref W),some (.int j),some (.int fc),o8,o9]) (fun N hN=> ?_) ?_
     . done
       refine Ef hy s5 ?_
       repeat (first | done | simp only [ix])
       refine Xo (.of J) (Kz aj) ?_
       try done
       rw [er,<-a8]
       exact⟨zr.mulOk au (by omega),a2,hN _ _ ⟨rfl,rfl⟩⟩
     rintro I H6 ⟨rfl,rfl⟩
     refine Bt (fun I H'=>Same H H'/\I=[some (.ref a),some (.ref b),some (.int m),some (.int iv),some (.ref O),some (.ref W),some (.int j),some (.int fc),o8,o9]/\H' W=some (.lst ((Y.set j fc).map V.int))/\H' O=some (.lst (rs.map V.int))) (fun N hN=> ?_) ?_
     . done
       refine Abk M (by rw [length_map];exact ak) ?_
       rw [K8]
       exact hN _ _ ⟨s5.put nq,rfl,Ao,by rw [Cr (Ne.symm ne)];exact J⟩
     clear M J s5
     rintro I H8 ⟨s5,rfl,M,J⟩
     have am:∀(a5:List Int) (o8 o9:Option V) (H9:Hp),Same H H9->H9 W=some (.lst ((Y.set j fc).map V.int))->H9 O=some (.lst (a5.map V.int))->a5.length=rs.length->(∀k,co a5 k=(co rs k-(if j<=k then fc*co q (k-j)else 0))%m)->
      Same H H9/\∃(ae a6:List Int) (u6 u7 u8 u9:Option V),[some (V.ref a),some (.ref b),some (.int m),some (.int iv),some (.ref O),some (.ref W),some (.int j),some (.int fc),o8,o9]=[some (.ref a),some (.ref b),some (.int m),some (.int iv),some (.ref O),some (.ref W),u6,u7,u8,u9]/\H9 W=some (.lst (ae.map V.int))/\H9 O=some (.lst (a6.map V.int))/\ae.length=L/\a6.length=(md p m).length/\MV m p q ae a6 (L-(i+1)):=by
      intro a5 o8 o9 H9 s9 h1 h2 b8 a3
      refine⟨s9,_,a5,_,_,_,_,rfl,h1,h2,by rw [length_set];exact a7,by omega,?_⟩
      rw [show L-(i+1)=j by omega]
      exact dv.step a2 hq ak f0 f1 (by rw [ai];exact ef) a3
     done
     split
     . rename_i h0
       refine am rs _ _ _ s5 M J rfl fun t=> ?_
       rw [h0]
       have:=dv.rr t
       rw [show(if j<=t then 0*co q (t-j)else 0)=0 by split<;>simp,Int.sub_zero,Int.emod_eq_of_lt this.1 this.2]
     . refine⟨⟨_,s5.tup hb⟩,Ad0 (es:=q) (inj:=V.int) (fun U I H'=>Same H H'/\∃(u8 u9:Option V) (ms:List Int),I=[some (.ref a),some (.ref b),some (.int m),some (.int iv),some (.ref O),some (.ref W),some (.int j),some (.int fc),u8,u9]/\H' W=some (.lst ((Y.set j fc).map V.int))/\H' O=some (.lst (ms.map V.int))/\ms.length=rs.length/\∀t,co ms t=(co rs t-(if j<=t then fc*co U (t-j)else 0))%m) ⟨s5,_,_,rs,rfl,M,J,rfl,fun t=> ?_⟩ ?_ ?_ ?_⟩
       . have:=dv.rr t
         rw [Bu,show(if j<=t then fc*0 else 0)=0 by split<;>simp,Int.sub_zero,Int.emod_eq_of_lt this.1 this.2]
       . rintro U I H' ⟨s9,_⟩
         exact s9.tup hb
       . rintro U e ay I H9 p1 he ⟨s9,u8,u9,ms,rfl,h1,h2,af,a3⟩ av
         refine Jw (.of Ao) ?_
         have an:=congrArg List.length he
         rw [length_append,length_cons]at an
         have a9:j+U.length<ms.length:=by omega
         have ag:=Same.upd av (.tup [V.int (U.length:Nat),V.int e])
         have aw:=ag _ _ h1
         have ao:=ag _ _ h2
         have ze:Sz n' e:=my e (by rw [he];simp)
         repeat (first | done | simp only [<-natCast_add])
         refine Xo (.of ao) (Kz a9) ?_
         try done
         refine⟨zf.mulOk ze (by omega),a2,?_⟩
         refine Abk ao (by rw [length_map];exact a9) ?_
         try done
         rw [K8]
         refine⟨(s9.trans ag).put nr,_,_,ms.set (j+U.length) ((ms[j+U.length]-fc*e)%m),rfl,by rw [Cr ne];exact aw,Ao,by rw [length_set];exact af,fun t=> ?_⟩
         rw [Ql _ _ _ a9,Gi,a3 t]
         by_cases ht:t=j+U.length
         . subst ht
           rw [if_pos rfl,if_pos (by omega),if_pos (by omega),<-Cg a9,a3,if_pos (by omega),show j+U.length-j=U.length by omega,Bl (p:=U) (le_refl _),mul_zero,Int.sub_zero,Int.emod_sub_emod]
         . rw [if_neg ht]
           by_cases aa:j<=t
           . rw [if_pos aa,if_pos aa,if_neg (by omega)]
           . rw [if_neg aa,if_neg aa]
       . rintro I H9 ⟨s9,u8,u9,ms,rfl,h1,h2,af,a3⟩
         exact am ms u8 u9 H9 s9 h1 h2 af a3
   . rintro I H5 ⟨s5,Y,rs,o6,o7,o8,o9,rfl,M,J,a7,ad,dv⟩
     rw [sub_self]at dv
     exact hN _ _ ⟨s5,Y,rs,o6,o7,o8,o9,rfl,M,J,a7,ad,dv⟩
 rintro σ H5 ⟨s5,Y,rs,o6,o7,o8,o9,rfl,M,J,a7,ad,dv⟩
 done
 refine⟨W,Y,rfl,.inl (.of M),by omega,fun z1 H6 s6 h6=> ?_⟩
 try done
 refine⟨O,rs,rfl,.inl (.of (s6 _ _ J)),by omega,fun z2 H7 s7 h7=> ?_⟩
 try done
 intro z hz
 have s8:=Same.upd hz (.tup [V.ref z1,V.ref z2])
 have ap:∀(x:List Int),(∀t,0<=co x t/\co x t<m)->∀t,Sz k (co (trim x) t):=fun x hx t=>by
  rw [Bq]
  exact hk.of_abs (by have:=hx t;omega)
 have t1:=Nj Y
 have t2:=Nj rs
 refine kq z _ (.ref z1) (.ref z2) (trim Y) (trim rs) (((s5.trans s6).trans s7).trans s8) (.of Ao) ⟨⟨z1,rfl,s8.tup (s7.tup h6)⟩,Cp _,by omega,ap Y dv.rq⟩ ⟨⟨z2,rfl,s8.tup h7⟩,Cp _,by omega,ap rs dv.rr⟩ (fun t=> ?_) ?_ (fun t=>by rw [Bq];exact dv.rq t) (fun t=>by rw [Bq];exact dv.rr t)
 . rw [Cv (co q) (trim Y) Y fun i=>Bq Y i,Bq]
   exact dv.eq t
 . have:(trim rs).length<=q.length-1:=by
    have h:=(Cp rs).len (q:=rs.take (q.length-1)) fun t=>by
     rw [Bq,Jg]
     split
     . rfl
     . exact dv.top t (by omega)
    rw [length_take]at h
    omega
   omega
noncomputable def Xd (K:Frag):Sp:=fun vs H Q _=>∃(x y:V) (m:Int) (p q:List Int) (l l' n n' k:Nat),vs=[x,y,.int m]/\Po K H x p l n/\Po K H y q l' n'/\l<=100/\l'<=100/\n'<=100000/\1<m/\Sz k m/\k<=8000/\q≠ []/\Int.gcd (co q (q.length-1)) m=1/\∀(d:V) (H':Hp) (u r:List Int),Same H H'->Po K H' d r p.length k->(∀i,m∣co p i-(mu u (co q) i+co r i))->r.length<q.length->(∀i,0<=co r i/\co r i<m)->Q d H'
theorem Ae5 (F:Df K mg "m_rest" Ve ["one","other","m"] f fd)   (I:Cal P w K mg base 35 "m_parted" ["one","other","m"] (Rr K)):Cal P w K mg base 36 "m_rest" ["one","other","m"] (Xd K):=by
 refine F.cal (F.fn.ok Age (fun J H Q E h=> ?_) (fun M A outer s H J Q E O h=> ?_))
 . obtain⟨x,y,m,p,q,_,_,_,_,_,rfl,_⟩:=h
   rfl
 obtain⟨x,y,m,p,q,l,S,n,U,k,rfl,W,Y,h1,h2,Z,hm,hk,h8,hq,hg,c⟩:=h
 refine Av ⟨_,(Ag (Ak (Aq Bd (Ai I O (Aa (Af 0) (Aa (Af 1) (Aa (Af 2) Ac)))) Ad (fun _ _=>rfl)))),?_⟩
 done
 refine⟨x,y,m,p,q,l,S,n,U,k,rfl,W,Y,h1,h2,Z,hm,hk,h8,hq,hg,fun z H' a b u r s1 hz iu ir he hl ru rr=> ?_⟩
 exact Bv hz (at1 _ _ _) (c b H' u r s1 ir he hl rr)
theorem Ad3 {t x:Int} (I:Pr t) (J:0<=x) (h1:x<t) (M:x≠0):Int.gcd x t=1:=I.2 x fun z=>by
 have:=Int.le_of_dvd (by omega) z
 omega
theorem Adw (t:Int) (p:List Int) (d:List Int):Dm t d (md p t)↔Dm t d p:=by
 have e:∀i,t∣co (md p t) i-co p i:=fun i=>by
  rw [Abq]
  exact⟨-(co p i/t),by have:=mul_ediv_add_emod (co p i) t;rw [mul_neg];omega⟩
 exact⟨fun h=>h.congr fun i=>Uo (e i),fun h=>h.congr e⟩
theorem Aeq {t:Int} (z:0<t) (p:List Int) (i:Nat):0<=co (md p t) i/\co (md p t) i<t:=by
 rw [Abq]
 exact⟨emod_nonneg _ (by omega),emod_lt_of_pos _ z⟩
structure Sgl (t:Int) (p g:List Int):Prop where
 tr:Tr g
 rng:∀i,0<=co g i/\co g i<t
 dm:∀d,Dm t d g↔Dm t d p
 len:g.length=(md p t).length
 one:g≠ []->co g (g.length-1)=1
theorem An4 {t:Int} (I:0<t) {p:List Int} (h:md p t=[]):Sgl t p []:=⟨.inl rfl,fun i=>by rw [Bu];omega,fun d=>by rw [<-Adw t p d,h],by rw [h],fun z=>(z rfl).elim⟩
theorem Arl {t k:Int} (O:Pr t) {p:List Int} (h:md p t≠ []) (J:k*co (md p t) ((md p t).length-1)%t=1):Sgl t p (md (ng (md p t) k) t):=by
 have S:0<t:=by have:=O.1;omega
 have c:∀i,co (md (ng (md p t) k) t) i=co (md p t) i*k%t:=fun i=>by rw [Abq,Sq]
 have Y:=length_pos_iff.mpr h
 have top:co (md (ng (md p t) k) t) ((md p t).length-1)=1:=by rw [c,mul_comm];exact J
 have len:(md (ng (md p t) k) t).length=(md p t).length:=by
  refine le_antisymm ?_ ?_
  . refine le_of_not_lt fun z=> ?_
    have ne:md (ng (md p t) k) t≠ []:=fun y=>by rw [y]at z;exact absurd z (by simp)
    have:=(Ap5 (ng (md p t) k) t).lead ne
    rw [c,Bl (by omega)]at this
    simp at this
  . refine le_of_not_lt fun z=> ?_
    rw [Bl (by omega)]at top
    cases top
 refine⟨Ap5 _ _,Aeq S _,fun d=> ?_,len,fun _=>by rw [len];exact top⟩
 constructor
 . intro I
   rw [<-Adw t p d]
   refine I.by (k:=co (md p t) ((md p t).length-1)) fun i=> ?_
   rw [c]
   have Z:=mul_ediv_add_emod (co (md p t) i*k) t
   have M:=mul_ediv_add_emod (k*co (md p t) ((md p t).length-1)) t
   rw [J]at M
   generalize co (md p t) ((md p t).length-1)=l at*
   generalize co (md p t) i=x at*
   refine⟨l*(x*k/t)-x*(k*l/t),?_⟩
   have U:x*k%t=x*k-t*(x*k/t):=by omega
   rw [U]
   have W:l*(x*k)=x*(t*(k*l/t)+1):=by rw [M];grind
   have:l*(x*k-t*(x*k/t))=l*(x*k)-t*(l*(x*k/t)):=by grind
   rw [this,W]
   grind
 . intro I
   rw [<-Adw t p d]at I
   refine I.by (k:=k) fun i=> ?_
   rw [c,mul_comm]
   exact⟨-(k*co (md p t) i/t),by have:=mul_ediv_add_emod (k*co (md p t) i) t;rw [mul_neg];omega⟩
noncomputable def Xk (K:Frag):Sp:=fun vs H Q _=>∃(x:V) (t:Int) (p:List Int) (l n k:Nat),vs=[x,.int t]/\Po K H x p l n/\l<=100/\Pr t/\Sz k t/\k<=8000/\∀(d:V) (H':Hp) (g:List Int),Same H H'->Po K H' d g l k->Sgl t p g->Q d H'
theorem Afi (F:Df K mg "single" Vl ["one","t"] f fd)   (I:Cal P w K mg base 34 "by_number" ["one","m"] (Gx K)) (M:Cal P w K mg base 33 "scaled" ["one","factor"] (Ku K)) (J:Cal P w K mg base 33 "inverse_by" ["number","m"] (Nb K)):Cal P w K mg base 35 "single" ["one","t"] (Xk K):=by
 refine F.cal (F.fn.ok W9 (fun vs H Q E h=> ?_) (fun a3 A outer s H vs Q E O h=> ?_))
 . obtain⟨x,t,p,_,_,_,rfl,_⟩:=h
   rfl
 obtain⟨x,t,p,l,n,k,rfl,hx,hl,W,S,h8,c⟩:=h
 have Y:0<t:=by have:=W.1;omega
 refine Av ⟨_,(Ae (Aj 2 W9.nd (Ai I O (Aa (Af 0) (Aa (Af 1) Ac))))
  (Ae (Az (Al (Ka O.units) (Af 2) (Bj Ac) (Ba _)) (Ag (Ak (Bj Ac))) Aw)
  (Ag (Ak (Ai I O (Aa (Ai M O (Aa (Af 2) (Aa (Ai J O (Aa (Aq Bd (Af 2) (Br Dd Ad) (fun _ _=>rfl)) (Aa (Af 1) Ac))) Ac))) (Aa (Af 1) Ac))))))),?_⟩
 done
 refine R6 hx (Same.refl _) (by omega) Y S fun z H1 s1 i1=> ?_
 try done
 refine⟨by decide,fun e0 Z=> ?_⟩
 have U:=Same.upd Z (.tup [])
 obtain⟨⟨a,rfl,ha⟩,a0,lm,zm⟩:=id i1
 refine Ez (ms:=[]) (U.tup ha) (.of Ao) ?_
 try done
 split
 . rename_i h
   refine⟨by decide,fun e1 a1=> ?_⟩
   exact c _ _ [] ((s1.trans U).trans (Same.upd a1 _)) ⟨⟨e1,rfl,.of Ao⟩,.inl rfl,zero_le _,fun i=>by rw [Bu];exact S.of_abs (by simp)⟩ (An4 Y h)
 . rename_i h
   refine Bv (U.tup ha) (Hs h) ?_
   try done
   have r:=Aeq Y p ((md p t).length-1)
   refine⟨_,t,k,rfl,W.1,S,h8,Ad3 W r.1 r.2 (a0.lead h),fun iv a4 a5 a2=> ?_⟩
   try done
   refine⟨_,iv,_,l,k,k,rfl,i1.mono U,S.of_abs (by omega),by omega,by omega,fun w H2 s2 i2=> ?_⟩
   try done
   exact R6 i2 (Same.refl _) (by omega) Y S fun v H3 s3 i3=>c v H3 _ (((s1.trans U).trans s2).trans s3) i3 (Arl W h a2)
noncomputable def Rt (K:Frag):Sp:=fun vs H Q _=>∃(x y:V) (t:Int) (p q:List Int) (l l' n n' k:Nat),vs=[x,y,.int t]/\Po K H x p l n/\Po K H y q l' n'/\l<=100/\l'<=100/\Pr t/\Sz k t/\k<=8000/\∀(d:V) (H':Hp) (f g:List Int),Same H H'->Po K H' d g (max l l') k->Sgl t f g->Ali t f [] p q->Q d H'
theorem Yu (F:Df K mg "m_shared" N7 ["one","other","t"] f fd)   (z:Cal P w K mg base 34 "by_number" ["one","m"] (Gx K)) (I:Cal P w K mg base 35 "single" ["one","t"] (Xk K)) (J:Cal P w K mg base 36 "m_rest" ["one","other","m"] (Xd K)):Cal P w K mg base 37 "m_shared" ["one","other","t"] (Rt K):=by
 refine F.cal (F.fn.ok Js (fun vs H Q E h=> ?_) (fun a1 A outer s H vs Q E O h=> ?_))
 . obtain⟨x,y,t,p,q,_,_,_,_,_,rfl,_⟩:=h
   rfl
 obtain⟨x,y,t,p,q,l,l',n,n',k,rfl,hx,hy,hl,a2,Y,Z,h8,c⟩:=h
 have t0:0<t:=by have:=Y.1;omega
 refine Av ⟨_,(Ae (Aj 3 Js.nd (Ai z O (Aa (Af 0) (Aa (Af 2) Ac))))
  (Ae (Aj 4 Js.nd (Ai z O (Aa (Af 1) (Aa (Af 2) Ac))))
  (Ae (Cq PassesOwn.never (Al (Afl O.units) (Af 4) (Bj Ac) (Ba _)) (Ag (Gs (i:=3) (j:=4) rfl Js.nd rfl rfl (by decide) rfl rfl (Aa (Af 4) (Aa (Ai J O (Aa (Af 3) (Aa (Af 4) (Aa (Af 2) Ac)))) Ac)) rfl)))
  (Ag (Ak (Ai I O (Aa (Af 3) (Aa (Af 2) Ac)))))))),?_⟩
 done
 refine R6 hx (Same.refl _) (by omega) t0 Z fun z1 H1 s1 i1=> ?_
 try done
 refine R6 hy s1 (by omega) t0 Z fun z2 H2 s2 i2=> ?_
 try done
 refine Oj (fun m σ H'=>Same H H'/\∃(v w:V) (f g:List Int),σ=[some x,some y,some (.int t),some v,some w]/\m=g.length/\Po K H' v f (max l l') k/\Po K H' w g (max l l') k/\(∀i,0<=co g i/\co g i<t)/\Ali t f g p q) _
  ⟨s1.trans s2,z1,z2,_,_,rfl,rfl,⟨(i1.mono s2).1,i1.2.1,le_trans i1.2.2.1 (Nat.le_max_left ..),i1.2.2.2⟩,⟨i2.1,i2.2.1,le_trans i2.2.2.1 (Nat.le_max_right ..),i2.2.2.2⟩,Aeq t0 q,fun d=>by rw [Adw,Adw]⟩ ?_
 rintro m σ H' ⟨s3,v,w,f,g,rfl,rfl,iv,iw,rg,sm⟩
 done
 refine⟨by decide,fun e0 a0=> ?_⟩
 have M:=Same.upd a0 (.tup [])
 obtain⟨⟨b,rfl,hb⟩,tg,lg,zg⟩:=id iw
 refine Ez (ms:=[]) (M.tup hb) (.of Ao) ?_
 try done
 by_cases S:g=[]
 . rw [if_pos S]
   subst S
   try done
   exact⟨v,t,f,max l l',k,k,rfl,iv.mono M,by omega,Y,Z,h8,fun d H4 g s4 U hs=>c d H4 f g ((s3.trans M).trans s4) U hs sm⟩
 . rw [if_neg S]
   refine Acs ?_
   try done
   have r:=rg (g.length-1)
   refine⟨v,.ref b,t,f,g,_,_,_,_,k,rfl,iv.mono M,iw.mono M,by omega,by omega,by omega,Y.1,Z,h8,S,Ad3 Y r.1 r.2 (tg.lead S),fun d H4 u r s4 U he W rr=> ?_⟩
   try done
   refine⟨r.length,W,(s3.trans M).trans s4,.ref b,d,g,r,rfl,rfl,iw.mono (M.trans s4),⟨U.1,U.2.1,le_trans (Nat.le_of_lt W) lg,U.2.2.2⟩,rr,fun e=>(Acf he e).trans (sm e)⟩
noncomputable def Kv (K:Frag):Sp:=fun vs H Q _=>∃(x y:V) (p q:List Int) (l l' n n':Nat),vs=[x,y]/\Po K H x p l n/\Po K H y q l' n'/\l<=100/\l'<=100/\∀(b:Bool) (H':Hp),Same H H'->(b=true->Gc p q [1])->Q (.bl b) H'
theorem Q0 (F:Df K mg "surely_apart" Ie ["one","other"] f fd)  (I:∃u,mg "PRIME"=some u/\RelV (V.int 2305843009213693951) u) (c_degree:Cal P w K mg base 33 "degree" ["one"] (Gf K)) (J:Cal P w K mg base 37 "m_shared" ["one","other","t"] (Rt K)):Cal P w K mg base 38 "surely_apart" ["one","other"] (Kv K):=by
 refine F.cal (F.fn.ok Rm (fun vs H Q E h=> ?_) (fun a1 A outer s H vs Q E O h=> ?_))
 . obtain⟨x,y,p,q,_,_,_,_,rfl,_⟩:=h
   rfl
 obtain⟨x,y,p,q,l,l',n,n',rfl,hx,hy,hl,U,c⟩:=h
 obtain⟨⟨a,rfl,ha⟩,tp,lp,zp⟩:=id hx
 obtain⟨⟨b,rfl,hb⟩,tq,lq,zq⟩:=id hy
 refine Av ⟨_,(Ae (Az (Ec (Ep (Al (Ka O.units) (Af 0) (Bj Ac) (Ba _)) (Ep (Al (Ka O.units) (Af 1) (Bj Ac) (Ba _)) (Fg (Al G4 (Ah Fb (Aq Bd (Af 0) (Br Dd Ad) (fun _ _=>rfl)) (Gg (v:= .int 2305843009213693951) rfl I)) Ad (Ba _)))))) (Ag (Ak Ei)) Aw)
  (Ag (Ak (Ey G4 (Ai c_degree O (Aa (Ai J O (Aa (Af 0) (Aa (Af 1) (Aa (Gg (v:= .int 2305843009213693951) rfl I) Ac)))) Ac)) Ad (Ba _))))),?_⟩
 done
 refine⟨by decide,fun e0 W=> ?_⟩
 have s0:=Same.upd W (.tup [])
 refine Ez (ms:=[]) (s0.tup ha) (.of Ao) ?_
 try done
 by_cases S:p=[]
 . rw [if_pos S]
   exact c false _ s0 fun h=>nomatch h
 rw [if_neg S]
 refine⟨by decide,fun e1 Y=> ?_⟩
 have M:=s0.trans (Same.upd Y (.tup []))
 refine Ez (ms:=[]) (M.tup hb) (.of Ao) ?_
 try done
 by_cases hq:q=[]
 . rw [if_pos hq]
   exact c false _ M fun h=>nomatch h
 rw [if_neg hq]
 refine Bv (M.tup ha) (Hs S) ?_
 try done
 refine⟨by decide,?_⟩
 by_cases Z:co p (p.length-1)%2305843009213693951=0
 . rw [if_pos Z]
   exact c false _ M fun h=>nomatch h
 rw [if_neg Z]
 refine⟨_,_,_,p,q,l,l',n,n',61,rfl,hx.mono M,hy.mono M,hl,U,Akv,by unfold Sz;decide,by decide,fun d H4 f g s4 i4 hs sm=> ?_⟩
 try done
 refine Ef i4 (Same.refl _) ?_
 try done
 refine c _ _ (M.trans s4) fun hd=> ?_
 have a0:g.length=1:=by
  have:=of_decide_eq_true hd
  omega
 have g1:g=[1]:=by
  match g,a0 with
  | [k],_=>
    have:=hs.one (by simp)
    have e:k=1:=this
    rw [e]
 refine apart Akv tp S (fun z=>Z (Int.emod_eq_zero_of_dvd z)) fun e h1 h2=> ?_
 rw [<-g1,hs.dm]
 exact((sm e).mpr ⟨h1,h2⟩).1
noncomputable def Aa2 (K:Frag):Sp:=fun vs H Q _=>∃(x:V) (m M:Nat) (mi:Int) (p:List Int) (l n:Nat),vs=[x,.int mi]/\(mi=(m:Nat)\/mi<0/\m=0)/\Po K H x p l n/\m<=M/\1<=M/\M*l+1<=500/\M*(n+l)+1<=20000000/\∀z H',Same H H'->Po K H' z (pw p m) (m*l+1) (m*(n+l)+1)->Q z H'
theorem Aim (F:Df K mg "power" Ze ["one","many"] f fd)  (I:mg "p_times"=some (.ref (cA K "p_times"))) (J:Cal P w K mg base 34 "repeated" ["start","one","many","product"] (Ry K)):Cal P w K mg base 35 "power" ["one","many"] (Aa2 K):=by
 refine F.cal (F.fn.ok Ai6 (fun U H Q E h=> ?_) (fun W A outer s H U Q E Y h=> ?_))
 . obtain⟨x,m,M,Z,p,_,_,rfl,_⟩:=h
   rfl
 obtain⟨x,m,M,Z,p,l,n,rfl,O,hx,hm,hM,hl,hn,k⟩:=h
 refine Av ⟨_,(Ag (Ak (Ai J Y (Aa (Bj (Aa Ad Ac)) (Aa (Af 0) (Aa (Af 1) (Aa (S9 (v:= .ref (cA K "p_times")) rfl I rfl) Ac))))))),?_⟩
 done
 intro p0 S
 have s0:=Same.upd S (.tup [V.int 1])
 refine⟨_,x,m,M,_,p,l,n,rfl,O,⟨p0,rfl,.of Ao⟩,hx.mono s0,hm,hM,hl,hn,fun z H' s1 i1=>k _ _ (s0.trans s1) i1⟩
theorem Ak0 (b:Int) (z:b≠0):∀m:Nat,pw [b] m=[b^m]
 | 0=>by rw [pw,pow_zero]
 | m+1=>by
   rw [pw,Ak0 b z m]
   refine(Il _ _).ext (.inr ⟨by simp,by simp;exact Int.pow_ne_zero z⟩) fun i=> ?_
   rw [Em]
   cases i with
   | zero=>simp [mu,sh,Bp,pow_succ];exact mul_comm _ _
   | succ i=>cases i<;>simp [mu,sh,Bm,Bu]
noncomputable def Fj (K:Frag):Sp:=fun vs H Q _=>∃(b mi:Int) (m n:Nat),vs=[.int b,.int mi]/\(mi=(m:Nat)\/mi<0/\m=0)/\b≠0/\Sz n b/\n<=400000/\m<=40/\∀H',Same H H'->Q (.int (b^m)) H'
theorem Sy (F:Df K mg "whole_power" Jq ["number","many"] f fd)   (I:Cal P w K mg base 35 "power" ["one","many"] (Aa2 K)):Cal P w K mg base 36 "whole_power" ["number","many"] (Fj K):=by
 refine F.cal (F.fn.ok S7 (fun W H Q E h=> ?_) (fun Y A outer s H W Q E Z h=> ?_))
 . obtain⟨b,mi,m,n,rfl,_⟩:=h
   rfl
 obtain⟨b,mi,m,n,rfl,J,S,zb,hn,hm,k⟩:=h
 refine Av ⟨_,(Ag (Ak (Aq Bd (Ai I Z (Aa (Bj (Aa (Af 0) Ac)) (Aa (Af 1) Ac))) Ad (fun _ _=>rfl)))),?_⟩
 done
 intro M O
 have i0:Po K (upd H M (.tup [V.int b])) (.ref M) [b] 1 (n+1):=⟨⟨M,rfl,.of Ao⟩,.inr ⟨by simp,by simpa using S⟩,le_refl _,fun i=>Alz (by omega) (fun x hx=>by
  have e:x=b:=by simpa using hx
  rw [e];exact zb.mono (by omega)) i⟩
 refine⟨_,m,40,_,_,_,_,rfl,J,i0,hm,by decide,by decide,by omega,fun z H' s' i=> ?_⟩
 obtain⟨⟨c,rfl,U⟩,_⟩:=i
 rw [Ak0 b S]at U
 exact Bv U (at0 _ _) (k _ ((Same.upd O _).trans s'))
theorem Aa6 {H:Hp}{Q:VK}{E:XK}{b:Int}{m n:Nat}{z:Int} (e:z=(m:Nat)) (I:b≠0) (J:Sz n b) (M:n<=400000) (O:m<=40) (h:∀H',Same H H'->Q (.int (b^m)) H'):Fj K [.int b,.int z] H Q E:=⟨b,z,m,n,rfl,.inl e,I,J,M,O,h⟩
theorem Tn {n:Nat}{b:Int} (h:Sz n b):∀m:Nat,Sz (n*m+1) (b^m)
 | 0=>by
   rw [pow_zero,Nat.mul_zero]
   unfold Sz
   decide
 | m+1=>by
   rw [pow_succ,mul_succ]
   exact((Tn h m).mul h).mono (by omega)
noncomputable def rs (p:List Int) (m:Nat):List Int:=if p=[]then []else replicate m 0++p
noncomputable def Xj (K:Frag):Sp:=fun vs H Q _=>∃(x:V) (m:Nat) (p:List Int) (l n:Nat),vs=[x,.int (m:Nat)]/\Po K H x p l n/\m<=100/\l<=400/\∀z H',Same H H'->SqT K H' z ((rs p m).map V.int)->Q (.ref z) H'
theorem Afd (F:Df K mg "raised" Vj ["one","many"] f fd)    :Cal P w K mg base 33 "raised" ["one","many"] (Xj K):=by
 refine F.cal (F.fn.ok Agf (fun Y H Q E h=> ?_) (fun Z A outer s H Y Q E hr h=> ?_))
 . obtain⟨x,m,p,_,_,rfl,_⟩:=h
   rfl
 obtain⟨x,m,p,l,n,rfl,⟨⟨a,rfl,S⟩,tp,lp,zp⟩,hm,hl,k⟩:=h
 have a0:1000<=sizeLine:=by decide
 refine Av ⟨_,(Ae (Az (Al (Ka hr.units) (Af 0) (Bj Ac) (Ba _)) (Ag (Ak (Bj Ac))) Aw)
  (Ag (Ak (Ah Am4 (Ah Am9 (Bj (Aa Ad Ac)) (Af 1)) (Af 0))))),?_⟩
 done
 refine⟨by decide,fun p1 J=> ?_⟩
 have M:=Same.upd J (.tup [])
 refine Ez (ms:=[]) (M.tup S) (.of Ao) ?_
 try done
 by_cases h1:p=[]
 . rw [if_pos h1]
   refine⟨by decide,fun z I=>k z _ (M.trans (Same.upd I _)) ?_⟩
   rw [rs,if_pos h1]
   exact .of Ao
 rw [if_neg h1]
 intro p2 O
 have U:=M.trans (Same.upd O (.tup [V.int 0]))
 refine⟨p2,m,[V.int 0],rfl,rfl,.of Ao,by simp,by omega,by simp only [length_cons,length_nil];omega,fun z H2 W I=> ?_⟩
 rw [Qo]at I
 refine⟨z,a,_,_,rfl,rfl,I,(U.trans W).tup S,by rw [length_map,length_map,length_replicate];omega,fun z2 H3 s4 h4=>k z2 _ ((U.trans W).trans s4) ?_⟩
 rw [rs,if_neg h1,map_append]
 exact h4
theorem X8 (j:Nat) (p:List Int) (i:Nat):co (replicate j 0++p) i=if j<=i then co p (i-j)else 0:=by
 unfold co
 rw [getD_eq_getElem?_getD,getD_eq_getElem?_getD]
 by_cases h:j<=i
 . rw [if_pos h,getElem?_append_right (by rw [length_replicate];exact h),length_replicate]
 . rw [if_neg h,getElem?_append_left (by rw [length_replicate];omega),getElem?_replicate]
   split<;>rfl
theorem Anw (p:List Int) (m i:Nat):co (rs p m) i=if m<=i then co p (i-m)else 0:=by
 unfold rs
 split
 . rename_i h
   rw [h,Bu,Bu]
   split<;>rfl
 . exact X8 m p i
theorem Atj {p:List Int} (h:Tr p) (m:Nat):Tr (rs p m):=by
 unfold rs
 split
 . exact .inl rfl
 . rename_i n
   refine Tr.of (.inr ?_)
   rw [X8,length_append,length_replicate,if_pos (by have:=length_pos_iff.mpr n;omega)]
   have:=h.lead n
   rw [show m+p.length-1-m=p.length-1 by omega]
   exact this
theorem Arf (p:List Int) (m:Nat):(rs p m).length<=m+p.length:=by
 unfold rs
 split
 . simp
 . rw [length_append,length_replicate]
   exact le_refl _
theorem Aj7 (c:Int) (i:Nat):co [c] i=if i=0 then c else 0:=by
 cases i with
 | zero=>rw [Bp];rfl
 | succ i=>rw [Bm,Bu];rfl
theorem Aex (c:Int) (j:Nat) (q:List Int) (i:Nat):mu (rs (trim [c]) j) (co q) i=if j<=i then c*co q (i-j)else 0:=by
 have e:∀k,co (rs (trim [c]) j) k=co (replicate j 0++ [c]) k:=fun k=>by
  rw [Anw,X8]
  split
  . rw [Bq]
  . rfl
 rw [congrFun (Cv (co q) _ _ e) i,Lw,Tj,length_replicate,zero_add]
noncomputable def SdR (K:Frag) (p q:List Int) (l:Nat) (Q:VK) (H:Hp):Prop:=∀(z:Addr) (H':Hp) (c d:V) (u r:List Int),Same H H'->SqT K H' z [c,d]->Po K H' c u l BIG->Po K H' d r l BIG->
 (∀k,co q (q.length-1)^(p.length-q.length+1)*co p k=mu u (co q) k+co r k)->r.length<q.length->u.length<=p.length-q.length+1->Q (.ref z) H'
noncomputable def Hx (K:Frag):Sp:=fun vs H Q _=>∃(x y:V) (p q:List Int) (l n:Nat),vs=[x,y]/\Po K H x p l n/\Po K H y q l n/\l<=60/\n<=400000/\q≠ []/\q.length<=p.length/\SdR K p q l Q H
theorem Mx (F:Df K mg "scaled_division" Gj ["one","other"] f fd) (a0:mg "range"=none) (z_len:mg "len"=none)  (W:Cal P w K mg base 33 "raised" ["one","many"] (Xj K)) (Y:Cal P w K mg base 35 "p_plus" ["one","other"] (Ru K)) (S:Cal P w K mg base 36 "p_minus" ["one","other"] (Oe K)) (c_degree:Cal P w K mg base 33 "degree" ["one"] (Gf K)) (c_poly:Cal P w K mg base 33 "poly" ["weights"] (Ij K)) (M:Cal P w K mg base 33 "scaled" ["one","factor"] (Ku K)) (U:Cal P w K mg base 33 "p_times" ["one","other"] (Ja K)):Cal P w K mg base 37 "scaled_division" ["one","other"] (Hx K):=by
 refine F.cal (F.fn.ok Cm (fun vs H Q E h=> ?_) (fun ae A outer s H vs Q E hr h=> ?_))
 . obtain⟨x,y,p,q,_,_,rfl,_⟩:=h
   rfl
 obtain⟨x,y,p,q,l,n,rfl,hx,hy,hl,hn,hq,af,k⟩:=h
 obtain⟨⟨a,rfl,ha⟩,tp,lp,zp⟩:=id hx
 obtain⟨⟨b,rfl,hb⟩,tq,lq,zq⟩:=id hy
 have ag:0<q.length:=length_pos_iff.mpr hq
 have ad:=Ajn
 obtain⟨L,hL⟩:∃L,L=p.length-q.length+1:=⟨_,rfl⟩
 obtain⟨O,a1⟩:∃O,O=co q (q.length-1):=⟨_,rfl⟩
 obtain⟨B,hB⟩:∃B:Nat->Nat,B=fun i=>n+(n+l+4)*i:=⟨_,rfl⟩
 have B1:∀i,B (i+1)=B i+n+l+4:=fun i=>by rw [hB];show n+(n+l+4)*(i+1)=n+(n+l+4)*i+n+l+4;rw [mul_succ];omega
 have Bn:∀i,i<=60->B i<=56000000:=fun i hi=>by
  rw [hB]
  have:(n+l+4)*i<=(n+l+4)*60:=mul_le_mul_left _ hi
  show n+(n+l+4)*i<=56000000
  omega
 have B0:B 0=n:=by rw [hB];rfl
 refine Av ⟨_,(Ae (Aj 2 Cm.nd (Bj Ac))
  (Ae (Aj 3 Cm.nd (Af 0))
  (Ae (Ce PassesOwn.never rfl (Np rfl a0 (Aa (Ah Dw (Ai c_degree hr (Aa (Af 0) Ac)) (Ai c_degree hr (Aa (Af 1) Ac))) (Aa (Br Dd Ad) (Aa (Br Dd Ad) Ac)))) (Ay 4 Cm.nd) (Ae (Aj 5 Cm.nd (Gh (Al Nx (Ah Dc (Af 4) (Ai c_degree hr (Aa (Af 1) Ac))) (Bk Bc rfl z_len PySem.boot_len (Aa (Af 3) Ac)) (Ba _)) (Aq Bd (Af 3) (Ah Dc (Af 4) (Ai c_degree hr (Aa (Af 1) Ac))) (fun _ _=>rfl)) Ad))
  (Ae (Aj 6 Cm.nd (Ai W hr (Aa (Ai c_poly hr (Aa (Bj (Aa (Af 5) Ac)) Ac)) (Aa (Af 4) Ac))))
  (Ae (Aj 2 Cm.nd (Ai Y hr (Aa (Ai M hr (Aa (Af 2) (Aa (Aq Bd (Af 1) (Br Dd Ad) (fun _ _=>rfl)) Ac))) (Aa (Af 6) Ac))))
  (Ag (Aj 3 Cm.nd (Ai S hr (Aa (Ai M hr (Aa (Af 3) (Aa (Aq Bd (Af 1) (Br Dd Ad) (fun _ _=>rfl)) Ac))) (Aa (Ai U hr (Aa (Af 6) (Aa (Af 1) Ac))) Ac)))))))))
  (Ag (Ak (Bj (Aa (Af 2) (Aa (Af 3) Ac)))))))),?_⟩
 refine Bt (fun J H'=>Same H H'/\∃e0,J=[some (.ref a),some (.ref b),some (.ref e0),none,none,none,none]/\H' e0=some (.tup [])) (fun N Z=> ?_) ?_
 . done
   refine⟨by decide,fun e0 a9=>Z _ _ ⟨Same.upd a9 _,e0,rfl,Ao⟩⟩
 rintro σ H1 ⟨s1,e0,rfl,g0⟩
 refine Bt (fun J H'=>H'=H1/\J=[some (.ref a),some (.ref b),some (.ref e0),some (.ref a),none,none,none]) (fun N Z=> ?_) ?_
 . done
   exact Z _ _ ⟨rfl,rfl⟩
 rintro σ H2 ⟨rfl,rfl⟩
 refine Bt (fun J H'=>Same H H'/\∃(c d:V) (u r:List Int) (o4 o5 o6:Option V),J=[some (.ref a),some (.ref b),some c,some d,o4,o5,o6]/\Po K H' c u l (B L)/\Po K H' d r l (B L)/\(∀k,O^L*co p k=mu u (co q) k+co r k)/\(∀k,p.length-L<=k->co r k=0)/\∀k,L<=k->co u k=0) (fun N Z=> ?_) ?_
 . rw [Aol]
   done
   refine Ef hx s1 ?_
   try done
   refine Ef hy s1 ?_
   try done
   refine⟨by omega,?_⟩
   have en:((p.length:Int)-1-((q.length:Int)-1)- -1).toNat=L:=by omega
   refine Ama L (fun i=> .int ((p.length:Int)-1-((q.length:Int)-1)-(i:Nat))) (fun i J H'=>Same H H'/\∃(c d:V) (u r:List Int) (o4 o5 o6:Option V),J=[some (.ref a),some (.ref b),some c,some d,o4,o5,o6]/\Po K H' c u l (B i)/\Po K H' d r l (B i)/\(∀k,O^i*co p k=mu u (co q) k+co r k)/\(∀k,p.length-i<=k->co r k=0)/\∀k,L<=k->co u k=0) ?_ ?_ ?_ ?_
   . refine⟨s1,_,_,[],p,_,_,_,rfl,⟨⟨e0,rfl,.of g0⟩,.inl rfl,zero_le _,fun i=>by rw [Bu,B0];exact(zp p.length).of_abs (by simp)⟩,by rw [B0];exact hx.mono s1,fun t=> ?_,fun t ht=>Bl (by omega),fun t _=>Bu t⟩
     rw [pow_zero,Int.one_mul]
     show _=0+co p t
     omega
   . intro i J H' _
     rw [en]
     exact R7
   . rintro i J H5 hi ⟨s5,c,d,u,r,o4,o5,o6,rfl,ic,ir,he,a2,a3⟩
     obtain⟨j,hj⟩:∃j:Nat,j+1=L-i:=⟨L-i-1,by omega⟩
     have pj:(p.length:Int)-1-((q.length:Int)-1)-(i:Nat)=(j:Int):=by omega
     rw [Zr,pj]
     simp only [set_cons_succ,set_cons_zero]
     have ix:(j:Int)+((q.length:Int)-1)=((j+(q.length-1):Nat):Int):=by omega
     obtain⟨e,a6⟩:∃e,e=j+(q.length-1):=⟨_,rfl⟩
     rw [<-a6]at ix
     obtain⟨I,a4⟩:∃t,t=co r e:=⟨_,rfl⟩
     have Bi:=Bn i (by omega)
     have Bs:=B1 i
     have zt:Sz (B i) I:=by rw [a4];exact ir.2.2.2 e
     have zl:Sz n O:=by rw [a1];exact zq _
     refine Bt (fun J H'=>H'=H5/\J=[some (.ref a),some (.ref b),some c,some d,some (.int j),some (.int I),o6]) (fun N Z=> ?_) ?_
     . done
       refine Ef hy s5 ?_
       repeat (first | done | simp only [ix])
       obtain⟨⟨dr,rfl,a7⟩,_,lr,_⟩:=id ir
       refine⟨dr,_,rfl,.inr a7,?_⟩
       try done
       rw [length_map]
       split
       . rename_i h
         have h':e<r.length:=by omega
         refine Ef hy s5 ?_
         repeat (first | done | simp only [ix])
         refine Bv a7 (v:= .int I) (by rw [a4,Cg h'];exact Hq (Kz h')) ?_
         try done
         exact Z _ _ ⟨rfl,rfl⟩
       . rename_i h
         have:I=0:=by rw [a4];exact Bl (by omega)
         rw [this]at Z
         exact Z _ _ ⟨rfl,rfl⟩
     rintro J H6 ⟨rfl,rfl⟩
     refine Bt (fun J H'=>Same H6 H'/\∃tv:V,J=[some (.ref a),some (.ref b),some c,some d,some (.int j),some (.int I),some tv]/\Po K H' tv (rs (trim [I]) j) l (B i)) (fun N Z=> ?_) ?_
     . done
       intro p1 aa
       have s6:=Same.upd aa (.tup [V.int I])
       refine⟨p1,[I],rfl,.inr (.of Ao),by simp,fun z H7 s7 h7=> ?_⟩
       try done
       have it:Po K H7 (.ref z) (trim [I]) 1 (B i):=⟨⟨z,rfl,h7⟩,Cp _,le_trans (Nj _) (by simp),fun t=>by
        rw [Bq,Aj7]
        split
        . exact zt
        . exact zt.of_abs (by simp)⟩
       refine⟨_,j,_,1,B i,rfl,it,by omega,by decide,fun z2 H8 s8 h8=>Z _ _ ⟨(s6.trans s7).trans s8,_,rfl,⟨⟨z2,rfl,h8⟩,Atj (Cp _) j,?_,fun t=> ?_⟩⟩⟩
       . have h1:=Arf (trim [I]) j
         have h2:=it.2.2.1
         omega
       . rw [Anw]
         split
         . exact it.2.2.2 _
         . exact zt.of_abs (by simp)
     rintro J H7 ⟨s7,tv,rfl,it⟩
     have a5:=s5.trans s7
     refine Bt (fun J H'=>Same H7 H'/\∃cv:V,J=[some (.ref a),some (.ref b),some cv,some d,some (.int j),some (.int I),some tv]/\Po K H' cv (ta (ng u O) (rs (trim [I]) j)) l (B (i+1))) (fun N Z=> ?_) ?_
     . done
       refine Bv (a5.tup hb) (Hs hq) ?_
       rw [<-a1]
       try done
       refine⟨c,O,u,l,B i,n,rfl,ic.mono s7,zl,by omega,by omega,fun z H8 s8 i8=> ?_⟩
       try done
       refine⟨z,tv,_,_,l,l,B i+n,B i,rfl,i8,it.mono s8,by omega,by omega,trivial,fun w H9 s9 i9=>Z _ _ ⟨s8.trans s9,w,rfl,⟨i9.1,i9.2.1,le_trans i9.2.2.1 (by omega),fun t=>(i9.2.2.2 t).mono (by omega)⟩⟩⟩
     rintro J H8 ⟨s8,cv,rfl,ac⟩
     done
     refine Bv ((a5.trans s8).tup hb) (Hs hq) ?_
     rw [<-a1]
     try done
     refine⟨d,O,r,l,B i,n,rfl,ir.mono (s7.trans s8),zl,by omega,by omega,fun z H9 s9 i9=> ?_⟩
     try done
     refine⟨tv,.ref b,_,q,l,l,B i,n,rfl,it.mono (s8.trans s9),hy.mono ((a5.trans s8).trans s9),by omega,by omega,by omega,fun w Ha sa ia=> ?_⟩
     try done
     refine⟨z,w,_,_,l,l+l,B i+n,B i+n+l,rfl,i9.mono sa,ia,by omega,by omega,by omega,fun v Hb sb ib=> ?_⟩
     try done
     have a8:∀t,co (ta (ng r O) (ng (tm (rs (trim [I]) j) q) (-1))) t=co r t*O-(if j<=t then I*co q (t-j)else 0):=fun t=>by
      rw [R4,Sq,Sq,Em,Aex]
      omega
     have r0:∀t,p.length-(i+1)<=t->co (ta (ng r O) (ng (tm (rs (trim [I]) j) q) (-1))) t=0:=fun t ht=>by
      rw [a8,if_pos (by omega)]
      by_cases h:t=e
      . rw [h,<-a4,a6,show j+(q.length-1)-j=q.length-1 by omega,a1]
        omega
      . rw [a2 t (by omega),Bl (p:=q) (by omega)]
        simp
     refine⟨((((a5.trans s8).trans s9).trans sa).trans sb),cv,v,_,_,_,_,_,rfl,ac.mono ((s9.trans sa).trans sb),⟨ib.1,ib.2.1,?_,fun t=>(ib.2.2.2 t).mono (by omega)⟩,fun t=> ?_,r0,fun t ht=> ?_⟩
     . refine le_trans (ib.2.1.len (q:=(ta (ng r O) (ng (tm (rs (trim [I]) j) q) (-1))).take l) fun t=> ?_) (List.length_take_le _ _)
       rw [Jg]
       split
       . rfl
       . exact r0 t (by omega)
     . rw [a8,<-Em,pow_succ]
       have e1:co (tm (ta (ng u O) (rs (trim [I]) j)) q) t=mu u (co q) t*O+(if j<=t then I*co q (t-j)else 0):=by
        rw [Oi,At3,R4,Oi q (rs (trim [I]) j),Em (rs (trim [I]) j),Aex,Em,Gz]
        congr 1
        have e2:mu (ng u O) (co q) t=mu (u.map (O* ·)) (co q) t:=congrFun (Cv (co q) _ _ fun k=>by rw [Sq,Du,mul_comm]) t
        rw [e2,Mv,mul_comm]
       rw [e1]
       have:=he t
       have e3:O^i*O*co p t=(O^i*co p t)*O:=by grind
       rw [e3,this]
       grind
     . rw [R4,Sq,a3 t ht,Anw]
       split
       . rw [Bq,Aj7,if_neg (by omega)]
         simp
       . simp
   . rintro J H5 ⟨s5,c,d,u,r,o4,o5,o6,rfl,ic,ir,he,a2,a3⟩
     exact Z _ _ ⟨s5,c,d,u,r,o4,o5,o6,rfl,ic,ir,he,a2,a3⟩
 rintro σ H5 ⟨s5,c,d,u,r,o4,o5,o6,rfl,ic,ir,he,a2,a3⟩
 have BL:=Bn L (by omega)
 done
 intro z hz
 have s6:=Same.upd hz (.tup [c,d])
 have big:∀ {v:V}{f:List Int},Po K H5 v f l (B L)->Po K (upd H5 z (.tup [c,d])) v f l BIG:=fun h=>⟨(h.mono s6).1,h.2.1,h.2.2.1,fun t=>(h.2.2.2 t).mono (by omega)⟩
 refine k z _ c d u r (s5.trans s6) (.of Ao) (big ic) (big ir) (by rw [<-a1,<-hL];exact he) ?_ ?_
 . have h:=ir.2.1.len (q:=r.take (q.length-1)) fun t=>by
    rw [Jg]
    split
    . rfl
    . exact a2 t (by omega)
   rw [length_take]at h
   omega
 . have h:=ic.2.1.len (q:=u.take L) fun t=>by
    rw [Jg]
    split
    . rfl
    . exact a3 t (by omega)
   rw [length_take]at h
   omega
noncomputable def RwV (K:Frag) (H:Hp) (vs:List V) (fs:List (List Int)) (l n:Nat):Prop:=vs.length=fs.length/\∀c,c<fs.length->Po K H (vs.getD c .non) (fs.getD c []) l n
noncomputable def Rw (K:Frag) (H:Hp) (x:V) (fs:List (List Int)) (l n:Nat):Prop:=∃a vs,x= .ref a/\SqT K H a vs/\RwV K H vs fs l n
theorem RwV.mono {H H':Hp}{z:List V}{fs:List (List Int)}{l n:Nat} (h:RwV K H z fs l n) (s:Same H H'):RwV K H' z fs l n:=⟨h.1,fun c I=>(h.2 c I).mono s⟩
theorem Rw.mono {H H':Hp}{x:V}{fs:List (List Int)}{l n:Nat} (h:Rw K H x fs l n) (s:Same H H'):Rw K H' x fs l n:=by
 obtain⟨a,z,e,t,r⟩:=h
 exact⟨a,z,e,s.tup t,r.mono s⟩
theorem getD_at {z:List V}{j:Nat} (h:j<z.length):atI z ((j:Nat):Int)=some (z.getD j .non):=Hq (by rw [getD_eq_getElem?_getD,getElem?_eq_getElem h];rfl)
noncomputable def NrR (K:Frag) (fs gs:List (List Int)) (β:Int) (l:Nat) (Q:VK) (H:Hp):Prop:=∀(z:V) (H':Hp) (ts:List (List Int)) (u r:List Int),Same H H'->Rw K H' z ts (2*l) (2*BIG)->ts.length=fs.length->
 (∀k,co (gs.getD 0 []) ((gs.getD 0 []).length-1)^((fs.getD 0 []).length-(gs.getD 0 []).length+1)*co (fs.getD 0 []) k=mu u (co (gs.getD 0 [])) k+co r k)->r.length<(gs.getD 0 []).length->u.length<=(fs.getD 0 []).length-(gs.getD 0 []).length+1->
 (∀c,c<fs.length->∀i,co (gs.getD 0 []) ((gs.getD 0 []).length-1)^((fs.getD 0 []).length-(gs.getD 0 []).length+1)*co (fs.getD c []) i=β*co (ts.getD c []) i+mu u (co (gs.getD c [])) i)->Q z H'
noncomputable def NrE (fs gs:List (List Int)) (β:Int):Prop:=∀(u r:List Int),(∀k,co (gs.getD 0 []) ((gs.getD 0 []).length-1)^((fs.getD 0 []).length-(gs.getD 0 []).length+1)*co (fs.getD 0 []) k=mu u (co (gs.getD 0 [])) k+co r k)->r.length<(gs.getD 0 []).length->u.length<=(fs.getD 0 []).length-(gs.getD 0 []).length+1->
 ∀c,c<fs.length->∀i,β∣co (gs.getD 0 []) ((gs.getD 0 []).length-1)^((fs.getD 0 []).length-(gs.getD 0 []).length+1)*co (fs.getD c []) i-mu u (co (gs.getD c [])) i
noncomputable def Mi (K:Frag):Sp:=fun vs H Q _=>∃(x y:V) (β:Int) (fs gs:List (List Int)) (l n:Nat),vs=[x,y,.int β]/\Rw K H x fs l n/\Rw K H y gs l n/\gs.length=fs.length/\1<=fs.length/\fs.length<=3/\l<=60/\n<=400000/\gs.getD 0 []≠ []/\(gs.getD 0 []).length<=(fs.getD 0 []).length/\(fs.getD 0 []).length<=(gs.getD 0 []).length+38/\β≠0/\Sz LIM β/\NrE fs gs β/\NrR K fs gs β l Q H
theorem Nu {d:Int} (p:List Int) (i:Nat):co (p.map fun x=>x.fdiv d) i=(co p i).fdiv d:=Qk (f:=fun x=>x.fdiv d) (Int.zero_fdiv d) p i
theorem Ur {x d:Int} (z:d≠0) (h:d∣x):d*x.fdiv d=x:=by
 obtain⟨k,rfl⟩:=h
 rw [Int.mul_fdiv_cancel_left _ z]
theorem Yh {p:List Int}{d:Int} (I:d≠0) (tp:Tr p) (h:∀i,d∣co p i):Tr (p.map fun x=>x.fdiv d):=by
 by_cases n:p=[]
 . subst n;exact .inl rfl
 . refine Tr.of (.inr ?_)
   rw [length_map,Nu]
   intro z
   have:=Ur I (h (p.length-1))
   rw [z,mul_zero]at this
   exact tp.lead n this.symm
theorem Yg {n:Nat}{x d:Int} (I:d≠0) (h:d∣x) (z:Sz n x):Sz n (x.fdiv d):=z.of_abs (by
 have:=congrArg natAbs (Ur I h)
 rw [natAbs_mul]at this
 have J:=natAbs_pos.mpr I
 have:=le_mul_of_pos_left (x.fdiv d).natAbs J
 omega)
local macro_rules | `(tactic| omega) => `(tactic| omega (config := {}))
theorem Yw (F:Df K mg "next_row" Oa ["first","second","known"] f fd) (a8:mg "zip"=none) (a3:mg "tuple"=none)  (c_whole_power:Cal P w K mg base 36 "whole_power" ["number","many"] (Fj K)) (I:Cal P w K mg base 37 "scaled_division" ["one","other"] (Hx K)) (O:Cal P w K mg base 33 "shrunk" ["one","number"] (R3 K)) (c_degree:Cal P w K mg base 33 "degree" ["one"] (Gf K)) (S:Cal P w K mg base 36 "p_minus" ["one","other"] (Oe K)) (a1:Cal P w K mg base 33 "scaled" ["one","factor"] (Ku K)) (U:Cal P w K mg base 33 "p_times" ["one","other"] (Ja K)):Cal P w K mg base 38 "next_row" ["first","second","known"] (Mi K):=by
 refine F.cal (F.fn.ok Fp (fun vs H Q E h=> ?_) (fun b1 A outer s H vs Q E hr h=> ?_))
 . obtain⟨x,y,W,fs,M,_,_,rfl,_⟩:=h
   rfl
 obtain⟨x,y,W,fs,M,l,n,rfl,⟨a,vs,rfl,ha,b2,hv⟩,⟨b,ws,rfl,hb,b3,hw⟩,b4,b5,b6,hl,hn,a4,ai,ay,Y,aa,ex,k⟩:=h
 have az:=Ajn
 have p0:=hv 0 (by omega)
 have q0:=hw 0 (by omega)
 have b7:=a4
 have b8:0<(M.getD 0 []).length:=length_pos_iff.mpr a4
 obtain⟨L,hL⟩:∃L,L=co (M.getD 0 []) ((M.getD 0 []).length-1)^((fs.getD 0 []).length-(M.getD 0 []).length+1):=⟨_,rfl⟩
 have aj:co (M.getD 0 []) ((M.getD 0 []).length-1)≠0:=q0.2.1.lead a4
 obtain⟨⟨b0,ak,am⟩,_⟩:=id q0
 obtain⟨⟨a0,b9,ba⟩,_⟩:=id p0
 have ac:atI vs 0=some (vs.getD 0 .non):=getD_at (j:=0) (by omega)
 have a9:atI ws 0=some (ws.getD 0 .non):=getD_at (j:=0) (by omega)
 have LS:Sz (n*((fs.getD 0 []).length-(M.getD 0 []).length+1)+1) L:=by rw [hL];exact Tn (q0.2.2.2 _) _
 have hN:n*((fs.getD 0 []).length-(M.getD 0 []).length+1)<=400000*39:=mul_le_mul hn (by omega)
 refine Av ⟨_,(Ae (Aj 3 Fp.nd (Ai c_whole_power hr (Aa (Aq Bd (Aq Bd (Af 1) Ad (fun _ _=>rfl)) (Br Dd Ad) (fun _ _=>rfl)) (Aa (Ah Dc (Ah Dw (Ai c_degree hr (Aa (Aq Bd (Af 0) Ad (fun _ _=>rfl)) Ac)) (Ai c_degree hr (Aa (Aq Bd (Af 1) Ad (fun _ _=>rfl)) Ac))) Ad) Ac))))
  (Ae (Dp (Ai I hr (Aa (Aq Bd (Af 0) Ad (fun _ _=>rfl)) (Aa (Aq Bd (Af 1) Ad (fun _ _=>rfl)) Ac))) (Eh rfl (Bb (Ay 5 Fp.nd) (Bb (Ay 6 Fp.nd) Cz))))
  (Ae (Aj 4 Fp.nd (Dk (Aa (Ai O hr (Aa (Af 6) (Aa (Af 2) Ac))) Ac)))
  (Ae (Ce PassesOwn.never rfl (Nq true true rfl a8 (Aa (Er Zk (Af 0) (Fx Ad) Fw) (Aa (Er Zk (Af 1) (Fx Ad) Fw) Ac))) (Eh rfl (Bb (Ay 7 Fp.nd) (Bb (Ay 8 Fp.nd) Cz))) (Ag (Dn (Gm plainAttrs_list PySem.F.slot_list_append PySem.F.type_list_append Fi (Af 4) (Aa (Ai O hr (Aa (Ai S hr (Aa (Ai a1 hr (Aa (Af 7) (Aa (Af 3) Ac))) (Aa (Ai U hr (Aa (Af 5) (Aa (Af 8) Ac))) Ac))) (Aa (Af 2) Ac))) Ac)))))
  (Ag (Ak (Dj Ds rfl a3 boot_tuple (Aa (Af 4) Ac)))))))),?_⟩
 refine Bt (fun J H'=>Same H H'/\J=[some (.ref a),some (.ref b),some (.int W),some (.int L),none,none,none,none,none]) (fun N hN=> ?_) ?_
 . done
   refine Bv hb a9 ?_
   rw [ak]
   refine Bv am (Hs a4) ?_
   try done
   refine Bv ha ac ?_
   refine Ef p0 (Same.refl _) ?_
   try done
   refine Bv hb a9 ?_
   refine Ef q0 (Same.refl _) ?_
   try done
   refine Aa6 (m:=(fs.getD 0 []).length-(M.getD 0 []).length+1) (by omega) aj (q0.2.2.2 _) (by omega) (by omega) fun H' s'=> ?_
   rw [<-hL]
   exact hN _ _ ⟨s',rfl⟩
 rintro σ H1 ⟨s1,rfl⟩
 refine Bt (fun J H'=>Same H H'/\∃(c d:V) (u r:List Int),J=[some (.ref a),some (.ref b),some (.int W),some (.int L),none,some c,some d,none,none]/\Po K H' c u l BIG/\Po K H' d r l BIG/\(∀k,L*co (fs.getD 0 []) k=mu u (co (M.getD 0 [])) k+co r k)/\r.length<(M.getD 0 []).length/\u.length<=(fs.getD 0 []).length-(M.getD 0 []).length+1) (fun N hN=> ?_) ?_
 . done
   refine Bv (s1.tup ha) ac (Bv (s1.tup hb) a9 ?_)
   refine⟨_,_,fs.getD 0 [],M.getD 0 [],l,n,rfl,p0.mono s1,q0.mono s1,hl,by omega,a4,ai,fun z H2 c d u r s2 hz ic id he a6 a7=> ?_⟩
   refine Jw hz ?_
   exact hN _ _ ⟨s1.trans s2,c,d,u,r,rfl,ic,id,by rw [hL];exact he,a6,a7⟩
 rintro σ H2 ⟨s2,c,d,u,r,rfl,ic,ir,he,a6,a7⟩
 rw [hL]at he
 have ex':=ex u r he a6 a7
 rw [<-hL]at ex' he
 obtain⟨T,hT⟩:∃T:Nat->List Int,T=fun c=>(trim (al ((fs.getD c []).map (L* ·)) ((ml u (M.getD c [])).map (-1* ·)))).map fun x=>x.fdiv W:=⟨_,rfl⟩
 have R0:∀c i,co (trim (al ((fs.getD c []).map (L* ·)) ((ml u (M.getD c [])).map (-1* ·)))) i=L*co (fs.getD c []) i-mu u (co (M.getD c [])) i:=fun c i=>by
  rw [Bq,Hz,Du,Du,Qw]
  omega
 have an:∀c,c<fs.length->∀i,W*co (T c) i=L*co (fs.getD c []) i-mu u (co (M.getD c [])) i:=fun c hc i=>by
  rw [hT]
  show W*co (List.map _ _) i=_
  rw [Nu,R0]
  exact Ur Y (ex' c hc i)
 refine Bt (fun J H'=>Same H H'/\∃(Z:Addr) (z0:V),J=[some (.ref a),some (.ref b),some (.int W),some (.int L),some (.ref Z),some c,some d,none,none]/\H Z=none/\Po K H' c u l BIG/\H' Z=some (.lst [z0])/\Po K H' z0 (T 0) (2*l) (2*BIG)) (fun N hN=> ?_) ?_
 . done
   obtain⟨⟨dr,rfl,ao⟩,tr,lr,zr⟩:=id ir
   have er:r=trim (al ((fs.getD 0 []).map (L* ·)) ((ml u (M.getD 0 [])).map (-1* ·))):=tr.ext (Cp _) fun i=>by rw [R0,he];omega
   have dv:∀i,W∣co r i:=fun i=>by rw [er,R0];exact ex' 0 (by omega) i
   refine⟨dr,r,W,rfl,ao,by omega,fun _=>⟨Y,aa⟩,fun z H3 s3 h3=> ?_⟩
   try done
   intro Z ad
   have st:=Same.upd ad (.lst [V.ref z])
   have eT:T 0=r.map fun x=>x.fdiv W:=by rw [hT,er]
   refine hN _ _ ⟨(s2.trans s3).trans st,Z,_,rfl,Same.free (s2.trans s3) ad,ic.mono (s3.trans st),Ao,⟨⟨z,rfl,by rw [eT];exact st.tup h3⟩,by rw [eT];exact Yh Y tr dv,by rw [eT,length_map];omega,fun i=> ?_⟩⟩
   rw [eT,Nu]
   exact(Yg Y (dv i) (zr i)).mono (by omega)
 rintro σ H3 ⟨s3,Z,z0,rfl,ap,aq,g3,i0⟩
 refine Bt (fun J H'=>Same H H'/\∃(zs:List V) (o7 o8:Option V),J=[some (.ref a),some (.ref b),some (.int W),some (.int L),some (.ref Z),some c,some d,o7,o8]/\H' Z=some (.lst zs)/\zs.length=fs.length/\∀j,j<fs.length->Po K H' (zs.getD j .non) (T j) (2*l) (2*BIG)) (fun N hN=> ?_) ?_
 . done
   have ae:O6 vs (some 1) none=vs.drop 1:=by
    unfold O6
    rw [show(1:Int)=((1:Nat):Int)from rfl,HT.K4,HT.Ny,min_eq_left (by omega),take_of_length_le (by simp)]
   have af:O6 ws (some 1) none=ws.drop 1:=by
    unfold O6
    rw [show(1:Int)=((1:Nat):Int)from rfl,HT.K4,HT.Ny,min_eq_left (by omega),take_of_length_le (by simp)]
   refine⟨a,vs,rfl,s3.tup ha,fun ca H4 s4 h4=> ?_⟩
   try done
   refine⟨b,ws,rfl,(s3.trans s4).tup hb,fun cb H5 s5 h5=> ?_⟩
   rw [ae]at h4
   rw [af]at h5
   try done
   refine⟨ca,cb,rfl,⟨_,s5.tup h4⟩,⟨_,h5⟩,?_⟩
   refine Yi (xs:=vs.drop 1) (ys:=ws.drop 1) (fs.length-1) (by rw [length_drop,length_drop];omega) (fun i J H'=>Same H H'/\SqT K H' ca (vs.drop 1)/\SqT K H' cb (ws.drop 1)/\Po K H' c u l BIG/\∃(zs:List V) (o7 o8:Option V),J=[some (.ref a),some (.ref b),some (.int W),some (.int L),some (.ref Z),some c,some d,o7,o8]/\H' Z=some (.lst zs)/\zs.length=i+1/\∀j,j<i+1->Po K H' (zs.getD j .non) (T j) (2*l) (2*BIG)) ?_ ?_ ?_ ?_
   . refine⟨(s3.trans s4).trans s5,s5.tup h4,h5,aq.mono (s4.trans s5),[z0],_,_,rfl,(s4.trans s5) _ _ g3,rfl,fun j hj=> ?_⟩
     have:j=0:=by omega
     subst this
     exact i0.mono (s4.trans s5)
   . rintro i J H' ⟨_,x1,x2,_⟩
     exact⟨x1,x2⟩
   . rintro i J H6 p6 hi ⟨s6,x1,x2,ag,zs,o7,o8,rfl,g6,a2,hz⟩ ar
     refine Jw (.of Ao) ?_
     have s7:=Same.upd ar (.tup [(vs.drop 1).getD i .non,(ws.drop 1).getD i .non])
     have ev:(vs.drop 1).getD i .non=vs.getD (i+1) .non:=by
      rw [getD_eq_getElem?_getD,getD_eq_getElem?_getD,getElem?_drop,add_comm]
     have ew:(ws.drop 1).getD i .non=ws.getD (i+1) .non:=by
      rw [getD_eq_getElem?_getD,getD_eq_getElem?_getD,getElem?_drop,add_comm]
     rw [ev,ew]at s7 ⊢
     generalize upd H6 p6 (.tup [vs.getD (i+1) .non,ws.getD (i+1) .non])=H7 at*
     have iu:=(hv (i+1) (by omega)).mono (s6.trans s7)
     have iw:=(hw (i+1) (by omega)).mono (s6.trans s7)
     have g7:=s7 _ _ g6
     try done
     refine⟨.inl ⟨rfl,_,.of g7⟩,?_⟩
     refine⟨_,L,fs.getD (i+1) [],l,n,_,rfl,iu,LS,by omega,by omega,fun w1 H8 s8 i8=> ?_⟩
     try done
     refine⟨c,_,u,M.getD (i+1) [],l,l,BIG,n,rfl,ag.mono (s7.trans s8),iw.mono s8,by omega,by omega,by omega,fun w2 H9 s9 i9=> ?_⟩
     try done
     refine⟨w1,w2,_,_,_,_,_,_,rfl,i8.mono s9,i9,by omega,by omega,by omega,fun w3 Ha sa ia=> ?_⟩
     try done
     have er:ta (ng (fs.getD (i+1) []) L) (ng (tm u (M.getD (i+1) [])) (-1))=trim (al ((fs.getD (i+1) []).map (L* ·)) ((ml u (M.getD (i+1) [])).map (-1* ·))):=(Zo _ _).ext (Cp _) fun t=>by
      rw [R0,R4,Sq,Sq,Em]
      grind
     obtain⟨⟨wr,rfl,au⟩,tr,lr,zr⟩:=id ia
     have dv:∀t,W∣co (ta (ng (fs.getD (i+1) []) L) (ng (tm u (M.getD (i+1) [])) (-1))) t:=fun t=>by rw [er,R0];exact ex' (i+1) (by omega) t
     refine⟨wr,_,W,rfl,au,by omega,fun _=>⟨Y,aa⟩,fun z Hb sb av=> ?_⟩
     have t7:=((s8.trans s9).trans sa).trans sb
     have gb:=t7 _ _ g7
     try done
     refine⟨Z,_,_,rfl,rfl,gb,by rw [a2];exact lt_of_lt_of_le (show i+1<1000 by omega) (by decide),?_⟩
     have nT:=((s6.trans s7).trans t7)
     have ah:Same H (upd Hb Z (.lst (zs++ [V.ref z]))):=nT.put ap
     have a5:∀ {v:V}{f:List Int}{x y:Nat},Po K Hb v f x y->Po K (upd Hb Z (.lst (zs++ [V.ref z]))) v f x y:=fun h=>⟨by
      obtain⟨q,e,t⟩:=h.1
      exact⟨q,e,Vw t gb⟩,h.2⟩
     have eT:T (i+1)=(ta (ng (fs.getD (i+1) []) L) (ng (tm u (M.getD (i+1) [])) (-1))).map fun x=>x.fdiv W:=by rw [hT,er]
     refine⟨ah,Vw ((s7.trans t7).tup x1) gb,Vw ((s7.trans t7).tup x2) gb,a5 (ag.mono (s7.trans t7)),zs++ [V.ref z],_,_,rfl,Ao,by rw [length_append,a2];rfl,fun j hj=> ?_⟩
     by_cases aw:j=i+1
     . subst aw
       have e1:(zs++ [V.ref z]).getD (i+1) .non=V.ref z:=by
        rw [getD_eq_getElem?_getD,getElem?_append_right (by omega),a2,sub_self]
        rfl
       rw [e1]
       refine a5 ⟨⟨z,rfl,by rw [eT];exact av⟩,by rw [eT];exact Yh Y tr dv,by rw [eT,length_map];omega,fun t=> ?_⟩
       rw [eT,Nu]
       exact(Yg Y (dv t) (zr t)).mono (by omega)
     . have e1:(zs++ [V.ref z]).getD j .non=zs.getD j .non:=by
        rw [getD_eq_getElem?_getD,getElem?_append_left (by omega),<-getD_eq_getElem?_getD]
       rw [e1]
       exact a5 ((hz j (by omega)).mono (s7.trans t7))
   . rintro J H6 ⟨s6,_,_,_,zs,o7,o8,rfl,g6,a2,hz⟩
     exact hN _ _ ⟨s6,zs,o7,o8,rfl,g6,by omega,fun j hj=>hz j (by omega)⟩
 rintro σ H4 ⟨s4,zs,o7,o8,rfl,g4,a2,hz⟩
 done
 refine⟨Z,zs,rfl,.inl ⟨.of g4,fun z ax=> ?_⟩⟩
 have s5:=Same.upd ax (.tup zs)
 refine k _ _ ((List.range fs.length).map T) u r (s4.trans s5) ⟨z,zs,rfl,.of Ao,by rw [length_map,length_range];exact a2,fun j hj=> ?_⟩ (by rw [length_map,length_range]) (by rw [<-hL];exact he) a6 a7 fun j hj i=> ?_
 . rw [length_map,length_range]at hj
   have e:((List.range fs.length).map T).getD j []=T j:=by
    rw [getD_eq_getElem?_getD,getElem?_map,getElem?_range hj]
    rfl
   rw [e]
   exact(hz j hj).mono s5
 . have e:((List.range fs.length).map T).getD j []=T j:=by
    rw [getD_eq_getElem?_getD,getElem?_map,getElem?_range hj]
    rfl
   rw [e,<-hL,an j hj i]
   omega
noncomputable def Ly (fs:List (List Int)):Nat->Nat->Int:=fun c i=>co (fs.getD c []) i
noncomputable def Keeps (s:Nat) (B:List (List Int)->Prop):Prop:=∀(f g t:List (List Int)) (u:List Int) (L β:Int),β≠0->f.length=s->g.length=s->t.length=s->B f->B g->(∀c,c<s->∀i,L*co (f.getD c []) i=β*co (t.getD c []) i+mu u (co (g.getD c [])) i)->B t
noncomputable def LrR (K:Frag) (p q:List Int) (s l b:Nat) (B:List (List Int)->Prop) (Q:VK) (H:Hp):Prop:=∀(z:V) (H':Hp) (hs:List (List Int)),Same H H'->Rw K H' z hs (2*l) ((b+6)*(2*l)+1)->hs.length=s->Gc p q (pln (hs.getD 0 []))->B hs->Q z H'
noncomputable def Ato (K:Frag) (cnd:Nat->Nat->Prop):Sp:=fun vs H Q _=>∃(x y:V) (fs gs:List (List Int)) (l b:Nat) (B:List (List Int)->Prop),vs=[x,y]/\Rw K H x fs l b/\Rw K H y gs l b/\gs.length=fs.length/\1<=fs.length/\fs.length<=3/\l<=30/\1<=l/\1<=b/\(4*l+l*l)*(b+6)+4*l+10<=750000/\B fs/\B gs/\Keeps fs.length B/\cnd (fs.getD 0 []).length (gs.getD 0 []).length/\LrR K (fs.getD 0 []) (gs.getD 0 []) fs.length l b B Q H
noncomputable def Xc (K:Frag):Sp:=Ato K fun x y=>y<=x
noncomputable def Rp (K:Frag):Sp:=Ato K fun _ _=>True
local macro_rules | `(tactic| omega) => `(tactic| lia)
theorem RwV.weak {H:Hp}{I:List V}{fs:List (List Int)}{l n J n2:Nat} (h:RwV K H I fs l n) (h1:l<=J) (h2:n<=n2):RwV K H I fs J n2:=⟨h.1,fun c z=>⟨(h.2 c z).1,(h.2 c z).2.1,le_trans (h.2 c z).2.2.1 h1,fun i=>((h.2 c z).2.2.2 i).mono h2⟩⟩
theorem Rw.weak {H:Hp}{x:V}{fs:List (List Int)}{l n z n2:Nat} (h:Rw K H x fs l n) (h1:l<=z) (h2:n<=n2):Rw K H x fs z n2:=by
 obtain⟨a,I,e,t,r⟩:=h
 exact⟨a,I,e,t,r.weak h1 h2⟩
theorem Rw.abs {H:Hp}{x:V}{fs:List (List Int)}{l n:Nat} (h:Rw K H x fs l n) (c i:Nat):(Ly fs c i).natAbs<=2^n:=by
 obtain⟨a,I,e,t,r⟩:=h
 unfold Ly
 by_cases z:c<fs.length
 . exact Nat.le_of_lt ((r.2 c z).2.2.2 i)
 . rw [getD_eq_getElem?_getD,getElem?_eq_none (by omega)]
   show(co [] i).natAbs<=_
   rw [Bu]
   simp
theorem Rw.top {H:Hp}{x:V}{fs:List (List Int)}{l n:Nat} (h:Rw K H x fs l n) (c i:Nat) (hi:l<=i):Ly fs c i=0:=by
 obtain⟨a,I,e,t,r⟩:=h
 unfold Ly
 by_cases z:c<fs.length
 . exact Bl (le_trans (r.2 c z).2.2.1 hi)
 . rw [getD_eq_getElem?_getD,getElem?_eq_none (by omega)]
   exact Bu i
theorem Rw.first {H:Hp}{x:V}{fs:List (List Int)}{l n:Nat} (h:Rw K H x fs l n) (h1:1<=fs.length):∃a z,x= .ref a/\SqT K H a z/\atI z 0=some (z.getD 0 .non)/\Po K H (z.getD 0 .non) (fs.getD 0 []) l n:=by
 obtain⟨a,z,e,t,r⟩:=h
 exact⟨a,z,e,t,getD_at (j:=0) (by have:=r.1;omega),r.2 0 (by omega)⟩
theorem Va (fs:List (List Int)) {n:Nat} (h:(fs.getD 0 []).length<=n):Dg (Ly fs) n:=fun i hi=>Bl (by omega)
theorem Ams (u:List Int) (i:Nat):mu u (co []) i=0:=by
 have:mu u (fun _=>0) i=0:=congrFun (Jk u) i
 rw [<-this]
 exact J8 (fun k=>Bu k) u i
theorem U9 {fs:List (List Int)}{c:Nat} (h:fs.length<=c):fs.getD c []=[]:=by
 rw [getD_eq_getElem?_getD,getElem?_eq_none h]
 rfl
theorem Ard {f g t:List (List Int)}{u:List Int}{L z:Int}{s:Nat} (J:f.length=s) (M:g.length=s) (O:t.length=s) (h:∀c,c<s->∀i,L*co (f.getD c []) i=z*co (t.getD c []) i+mu u (co (g.getD c [])) i) (c i:Nat):L*Ly f c i=z*Ly t c i+mu u (Ly g c) i:=by
 by_cases I:c<s
 . exact h c I i
 . unfold Ly
   rw [U9 (fs:=f) (by omega),U9 (fs:=t) (by omega),U9 (fs:=g) (by omega),Bu,Ams]
   simp
theorem Wg {F1 F2:Nat->Nat->Int}{n1 n2:Nat}{f g:List (List Int)}{l h:Int}{s:Nat} (S:f.length=s) (U:g.length=s) (ch:Chn F1 n1 F2 n2 (Ly f) ((f.getD 0 []).length-1) (Ly g) ((g.getD 0 []).length-1) l h) (tg:Tr (g.getD 0 [])) (I:2<=(g.getD 0 []).length) (M:(g.getD 0 []).length<=(f.getD 0 []).length) {u r:List Int}
 (O:∀k,co (g.getD 0 []) ((g.getD 0 []).length-1)^((f.getD 0 []).length-(g.getD 0 []).length+1)*co (f.getD 0 []) k=mu u (co (g.getD 0 [])) k+co r k) (W:r.length<(g.getD 0 []).length) (Y:u.length<=(f.getD 0 []).length-(g.getD 0 []).length+1):
 ∃e,Sg e/\∀c i,co (g.getD 0 []) ((g.getD 0 []).length-1)^((f.getD 0 []).length-(g.getD 0 []).length+1)*Ly f c i-mu u (Ly g c) i=l*h^((f.getD 0 []).length-(g.getD 0 []).length)*(e*Sr ((g.getD 0 []).length-1-1) F1 n1 F2 n2 (c,i)):=by
 have ng:g.getD 0 []≠ []:=fun z=>by rw [z]at I;exact absurd I (by decide)
 have J:(f.getD 0 []).length-1-((g.getD 0 []).length-1)=(f.getD 0 []).length-(g.getD 0 []).length:=by omega
 have z:=ch.rest (R:=fun c i=>co (g.getD 0 []) ((g.getD 0 []).length-1)^((f.getD 0 []).length-(g.getD 0 []).length+1)*Ly f c i-mu u (Ly g c) i) (q:=u) (Va g (by omega)) (fun i hi=>by
  show _*co (f.getD 0 []) i-mu u (co (g.getD 0 [])) i=0
  rw [O,Bl (p:=r) (by omega)]
  omega) (by omega) (by omega) (by omega) (tg.lead ng) (fun c i=>by
  rw [J]
  show co (g.getD 0 []) ((g.getD 0 []).length-1)^_*_=_
  omega)
 rw [J]at z
 exact z
theorem Wm (F:Df K mg "last_row" K5 ["first","second"] f fd)  (py:Pyl P base) (c_degree:Cal P w K mg base 33 "degree" ["one"] (Gf K)) (c_next_row:Cal P w K mg base 38 "next_row" ["first","second","known"] (Mi K)) (c_whole_power:Cal P w K mg base 36 "whole_power" ["number","many"] (Fj K)):O4 P w K mg base CX0 39 f fd ["first","second"] (Xc K):=by
 refine F.fn.ok Bw (fun vs H Q E h=> ?_) (fun bm A outer s H vs Q E hr h=> ?_)
 . obtain⟨x,y,fs,S,_,_,_,rfl,_⟩:=h
   rfl
 obtain⟨x,y,fs,S,l,b,B,rfl,hx,hy,ar,bo,bp,bh,bq,br,au,bf,bg,Kp,ai,k⟩:=h
 obtain⟨ax,vx,ex,tx,b1,a8⟩:=hx.first (by omega)
 obtain⟨ay,vy,ey,ty,b2,a1⟩:=hy.first (by omega)
 refine Av ⟨_,(Ae (Az (Al Nx (Ai c_degree hr (Aa (Aq Bd (Af 0) Ad (fun _ _=>rfl)) Ac)) (Ai c_degree hr (Aa (Aq Bd (Af 1) Ad (fun _ _=>rfl)) Ac)) (Ba _)) (Ag Qg) Aw)
  (Ae (Aj 2 Bw.nd Ad)
  (Ae (Aj 3 Bw.nd Ad)
  (Ae (Cq PassesOwn.never (Al Kc (Ai c_degree hr (Aa (Aq Bd (Af 1) Ad (fun _ _=>rfl)) Ac)) Ad (Ba _)) (Ae (Aj 4 Bw.nd (Ah Dw (Ai c_degree hr (Aa (Aq Bd (Af 0) Ad (fun _ _=>rfl)) Ac)) (Ai c_degree hr (Aa (Aq Bd (Af 1) Ad (fun _ _=>rfl)) Ac))))
  (Ae (Aj 5 Bw.nd (Ah Bo (Af 2) (Ai c_whole_power hr (Aa (Af 3) (Aa (Af 4) Ac)))))
  (Ae (Aj 6 Bw.nd (Ai c_next_row hr (Aa (Af 0) (Aa (Af 1) (Aa (Af 5) Ac)))))
  (Ae (Aj 2 Bw.nd (Aq Bd (Aq Bd (Af 1) Ad (fun _ _=>rfl)) (Br Dd Ad) (fun _ _=>rfl)))
  (Ae (Az (Al Kc (Af 4) Ad (Ba _)) (Ag (Aj 3 Bw.nd (Ah (G5 py (hr.far (by decide)) rfl rfl rfl rfl rfl) (Ai c_whole_power hr (Aa (Af 2) (Aa (Af 4) Ac))) (Ai c_whole_power hr (Aa (Af 3) (Aa (Ah Dw (Af 4) Ad) Ac)))))) Aw)
  (Ag (Gs (i:=0) (j:=1) rfl Bw.nd rfl rfl (by decide) rfl rfl (Aa (Af 1) (Aa (Af 6) Ac)) rfl))))))))
  (Ag (Ak (Gh (Al (Ka hr.units) (Aq Bd (Af 1) Ad (fun _ _=>rfl)) (Bj Ac) (Ba _)) (Af 0) (Af 1)))))))),?_⟩
 refine Bt (fun I H'=>Same H H'/\I=[some x,some y,none,none,none,none,none]) (fun N hN=> ?_) ?_
 . done
   rw [ex,ey]at hN ⊢
   refine Bv tx b1 (Ef a8 (Same.refl _) ?_)
   try done
   refine Bv ty b2 (Ef a1 (Same.refl _) ?_)
   try done
   rw [if_neg (by have:(S.getD 0 []).length<=(fs.getD 0 []).length:=ai;omega)]
   exact hN _ _ ⟨Same.refl _,rfl⟩
 rintro σ H1 ⟨s1,rfl⟩
 clear ex ey tx ty
 obtain⟨N,hN⟩:∃N,N=(b+6)*(2*l)+1:=⟨_,rfl⟩
 have b3:N<=400000:=by
  have:(4*l)*(b+6)<=(4*l+l*l)*(b+6):=mul_le_mul_right _ (le_add_right _ _)
  have e:(4*l)*(b+6)=2*((b+6)*(2*l)):=by grind
  omega
 have kb:∀x st:Nat,x<=(fs.getD 0 []).length-1->st<=x->N+st*((b+6)*((fs.getD 0 []).length-1+((S.getD 0 []).length-1)-2*x)+1)+3<=400000:=fun x st hx b4=>by
  have lf:=(a8.2.2.1)
  have lg:=(a1.2.2.1)
  have z:=Abo (l:=l) (b:=b) (n1:=(fs.getD 0 []).length-1) (n2:=(S.getD 0 []).length-1) (x:=x) (s:=st) (by omega) (by omega) hx b4
  have e:(4*l+l*l)*(b+6)=2*((b+6)*(2*l))+l*l*(b+6):=by grind
  omega
 have LB:b<=N:=by
  have:(b+6)*1<=(b+6)*(2*l):=mul_le_mul_left _ (by omega)
  omega
 refine Bt (fun I H'=>H1=H'/\I=[some x,some y,some (.int 1),none,none,none,none]) (fun N hN=> ?_) ?_
 . done
   exact hN _ _ ⟨rfl,rfl⟩
 rintro σ H2 ⟨rfl,rfl⟩
 refine Bt (fun I H'=>H1=H'/\I=[some x,some y,some (.int 1),some (.int 1),none,none,none]) (fun N hN=> ?_) ?_
 . done
   exact hN _ _ ⟨rfl,rfl⟩
 rintro σ H2 ⟨rfl,rfl⟩
 refine Bt (fun I H'=>Same H1 H'/\∃(v w:V) (f g:List (List Int)) (o2 o3 o4 o5 o6:Option V),I=[some v,some w,o2,o3,o4,o5,o6]/\Rw K H' v f (2*l) N/\Rw K H' w g (2*l) N/\f.length=fs.length/\g.length=fs.length/\(g.getD 0 []).length<2/\Ln (f.getD 0 []) (g.getD 0 []) (fs.getD 0 []) (S.getD 0 [])/\B f/\B g) (fun M hM=> ?_) ?_
 . done
   refine Oj (fun m I H'=>Same H1 H'/\∃(v w:V) (f g:List (List Int)) (ld W:Int) (o4 o5 o6:Option V),I=[some v,some w,some (.int ld),some (.int W),o4,o5,o6]/\m=(g.getD 0 []).length/\Rw K H' v f (2*l) N/\Rw K H' w g (2*l) N/\f.length=fs.length/\g.length=fs.length/\(g.getD 0 []).length<=(f.getD 0 []).length/\(f.getD 0 []).length<=(fs.getD 0 []).length/\(g.getD 0 []).length<=(S.getD 0 []).length/\ld≠0/\Sz N ld/\W≠0/\Sz ((b+6)*((fs.getD 0 []).length-1+((S.getD 0 []).length-1)-2*((f.getD 0 []).length-1))+1) W/\
    (g.getD 0 []≠ []->Chn (Ly fs) ((fs.getD 0 []).length-1) (Ly S) ((S.getD 0 []).length-1) (Ly f) ((f.getD 0 []).length-1) (Ly g) ((g.getD 0 []).length-1) ld W)/\Ln (f.getD 0 []) (g.getD 0 []) (fs.getD 0 []) (S.getD 0 [])/\B f/\B g) _
    ⟨Same.refl _,x,y,fs,S,1,1,_,_,_,rfl,rfl,(hx.mono s1).weak (by omega) LB,(hy.mono s1).weak (by omega) LB,rfl,ar,ai,le_refl _,le_refl _,by decide,(show Sz 1 (1:Int)by unfold Sz;decide).mono (by omega),by decide,(show Sz 1 (1:Int)by unfold Sz;decide).mono (by omega),fun _=>Chn.start _ _ _ _,Ln.refl _ _,bf,bg⟩ ?_
   rintro m I H3 ⟨s3,v,w,f,g,ld,W,o4,o5,o6,rfl,rfl,iv,iw,lf,lg,aa,bt,bi,aj,ak,a2,a3,ch,sm,Bf,Bg⟩
   obtain⟨av,vv,rfl,tv,am,ac⟩:=iv.first (by omega)
   obtain⟨aw,vw,rfl,tw,a4,Y⟩:=iw.first (by omega)
   done
   refine Bv tw a4 (Ef Y (Same.refl _) ?_)
   try done
   by_cases ad:(0:Int)<((g.getD 0 []).length:Int)-1
   case neg=>
    rw [if_neg ad]
    exact hM _ _ ⟨s3,_,_,f,g,_,_,_,_,_,rfl,iv,iw,lf,lg,by omega,sm,Bf,Bg⟩
   rw [if_pos ad]
   have g2:2<=(g.getD 0 []).length:=by omega
   have gn:g.getD 0 []≠ []:=fun z=>by rw [z]at g2;exact absurd g2 (by decide)
   replace ch:=ch gn
   obtain⟨J,ae⟩:∃J,J=(f.getD 0 []).length-(g.getD 0 []).length:=⟨_,rfl⟩
   obtain⟨U,O⟩:∃x,x=co (g.getD 0 []) ((g.getD 0 []).length-1):=⟨_,rfl⟩
   have a5:U≠0:=by rw [O];exact Y.2.1.lead gn
   have bu:=a8.2.2.1
   have bits:=kb ((f.getD 0 []).length-1) J (by omega) (by omega)
   have pz:=Tn a3 J
   have bz:Sz LIM (ld*W^J):=(ak.mul pz).mono (by
    rw [Ajs]
    rw [Nat.mul_comm _ J]
    omega)
   have a6:ld*W^J≠0:=mul_ne_zero aj (Iu a2 _)
   have bv:(b+6)*((fs.getD 0 []).length-1+((S.getD 0 []).length-1)-2*((f.getD 0 []).length-1))<=(b+6)*(2*l):=mul_le_mul_left _ (by have:=a1.2.2.1;omega)
   refine Acs ?_
   refine Bt (fun I H'=>H'=H3/\I=[some (.ref av),some (.ref aw),some (.int ld),some (.int W),some (.int (J:Nat)),o5,o6]) (fun N hN=> ?_) ?_
   . done
     refine Bv tv am (Ef ac (Same.refl _) ?_)
     try done
     refine Bv tw a4 (Ef Y (Same.refl _) ?_)
     try done
     have e:((f.getD 0 []).length:Int)-1-(((g.getD 0 []).length:Int)-1)=(J:Nat):=by omega
     rw [e]
     exact hN _ _ ⟨rfl,rfl⟩
   rintro I H4 ⟨rfl,rfl⟩
   refine Bt (fun I H'=>Same H4 H'/\I=[some (.ref av),some (.ref aw),some (.int ld),some (.int W),some (.int (J:Nat)),some (.int (ld*W^J)),o6]) (fun M' Z=> ?_) ?_
   . done
     refine Aa6 rfl a2 a3 (by omega) (by omega) fun H' s'=> ?_
     try done
     exact⟨ak.mulOk pz (by rw [Nat.mul_comm _ J];omega),Z _ _ ⟨s',rfl⟩⟩
   rintro I H5 ⟨s5,rfl⟩
   refine Bt (fun I H'=>Same H4 H'/\∃(t:V) (ts:List (List Int)) (u r:List Int) (e:Int),I=[some (.ref av),some (.ref aw),some (.int ld),some (.int W),some (.int (J:Nat)),some (.int (ld*W^J)),some t]/\Rw K H' t ts (2*l) N/\ts.length=fs.length/\(ts.getD 0 []).length<(g.getD 0 []).length/\u.length<=J+1/\(∀c,c<fs.length->∀i,U^(J+1)*co (f.getD c []) i=ld*W^J*co (ts.getD c []) i+mu u (co (g.getD c [])) i)) (fun M' Z=> ?_) ?_
   . done
     refine⟨_,_,_,f,g,2*l,N,rfl,iv.mono s5,iw.mono s5,by omega,by omega,by omega,by omega,b3,gn,aa,by omega,a6,bz,fun u r he hr hu c hc i=> ?_,fun z H6 ts u r s6 iz lz he hr hu a0=> ?_⟩
     . obtain⟨e,_,a9⟩:=Wg lf lg ch Y.2.1 g2 aa he hr hu
       have:=a9 c i
       unfold Ly at this
       rw [this,<-ae]
       exact⟨_,rfl⟩
     . obtain⟨e,b5,a9⟩:=Wg lf lg ch Y.2.1 g2 aa he hr hu
       rw [<-ae,<-O]at a9 a0
       have Tv:∀c,c<fs.length->∀i,co (ts.getD c []) i=e*Sr ((g.getD 0 []).length-1-1) (Ly fs) ((fs.getD 0 []).length-1) (Ly S) ((S.getD 0 []).length-1) (c,i):=fun c hc i=>by
        have h1:U^(J+1)*co (f.getD c []) i-mu u (co (g.getD c [])) i=_:=a9 c i
        have h2:=a0 c (by omega) i
        refine eq_of_mul_eq_mul_left a6 (Eq.trans ?_ h1)
        omega
       have ab:∀c i,(Sr ((g.getD 0 []).length-1-1) (Ly fs) ((fs.getD 0 []).length-1) (Ly S) ((S.getD 0 []).length-1) (c,i)).natAbs<=2^((b+6)*(2*l)):=fun c i=>by
        have bj:=a1.2.2.1
        refine le_trans (Ago hx.abs hy.abs (by omega) (by omega) (by omega) (c,i)) (pow_le_pow_right (by decide) (mul_le_mul_left _ (by omega)))
       obtain⟨az,vz,rfl,tz,b6,an⟩:=iz
       refine Z _ _ ⟨s5.trans s6,_,ts,u,r,e,rfl,⟨az,vz,rfl,tz,b6,fun c hc=> ?_⟩,by omega,?_,by omega,fun c hc i=>a0 c (by omega) i⟩
       . have hp:=an c hc
         refine⟨hp.1,hp.2.1,?_,fun i=> ?_⟩
         . have h:=hp.2.1.len (q:=(ts.getD c []).take (2*l)) fun i=>by
            rw [Jg]
            split
            . rfl
            . rw [Tv c (by omega),Agp (l:=l) hx.top hy.top (by have:=a8.2.2.1;omega) (by have:=a1.2.2.1;omega) c i (by omega),mul_zero]
           rw [length_take]at h
           omega
         . rw [Tv c (by omega)]
           unfold Sz
           rw [natAbs_mul]
           have:e.natAbs=1:=by rcases b5 with rfl | rfl<;>rfl
           rw [this,one_mul,hN]
           exact lt_of_le_of_lt (ab c i) (pow_lt_pow_right (by decide) (by omega))
       . have hp:=(an 0 (by omega)).2.1
         have h:=hp.len (q:=(ts.getD 0 []).take r.length) fun i=>by
          rw [Jg]
          split
          . rfl
          . have h1:=a0 0 (by omega) i
            have h2:=he i
            rw [<-ae,<-O,Bl (p:=r) (by omega)]at h2
            have:ld*W^J*co (ts.getD 0 []) i=0:=by omega
            rcases mul_eq_zero.mp this with z | z
            . exact absurd z a6
            . exact z
         rw [length_take]at h
         omega
   rintro I H6 ⟨s6,t,ts,u,r,e,rfl,it,lt,b7,hu,a0⟩
   refine Bt (fun I H'=>H'=H6/\I=[some (.ref av),some (.ref aw),some (.int U),some (.int W),some (.int (J:Nat)),some (.int (ld*W^J)),some t]) (fun M' Z=> ?_) ?_
   . done
     obtain⟨⟨b0,af,ag⟩,_⟩:=id Y
     refine Bv (s6.tup tw) a4 ?_
     rw [af]
     refine Bv (s6.tup ag) (Hs gn) ?_
     try done
     rw [<-O]
     exact Z _ _ ⟨rfl,rfl⟩
   rintro I H7 ⟨rfl,rfl⟩
   have ao:Sz N U:=by rw [O];exact Y.2.2.2 _
   refine Bt (fun I H'=>Same H7 H'/\∃h':Int,I=[some (.ref av),some (.ref aw),some (.int U),some (.int h'),some (.int (J:Nat)),some (.int (ld*W^J)),some t]/\h'≠0/\Sz ((b+6)*((fs.getD 0 []).length-1+((S.getD 0 []).length-1)-2*((g.getD 0 []).length-1))+1) h'/\(((f.getD 0 []).length-1=(g.getD 0 []).length-1/\h'=W)\/((g.getD 0 []).length-1<(f.getD 0 []).length-1/\W^((f.getD 0 []).length-1-((g.getD 0 []).length-1)-1)*h'=U^((f.getD 0 []).length-1-((g.getD 0 []).length-1))))) (fun M' Z=> ?_) ?_
   . done
     by_cases ap:(0:Int)<(J:Nat)
     . rw [if_pos ap]
       obtain⟨e2,b8,hh⟩:=ch.height (Va g (by omega)) (by omega)
       have bl:=a1.2.2.1
       have b9:Sz ((b+6)*((fs.getD 0 []).length-1+((S.getD 0 []).length-1)-2*((g.getD 0 []).length-1))+1) (e2*Sr ((g.getD 0 []).length-1) (Ly fs) ((fs.getD 0 []).length-1) (Ly S) ((S.getD 0 []).length-1) (0,(g.getD 0 []).length-1)):=by
        unfold Sz
        rw [natAbs_mul]
        have:e2.natAbs=1:=by rcases b8 with rfl | rfl<;>rfl
        rw [this,one_mul]
        exact lt_of_le_of_lt (Ago hx.abs hy.abs (by omega) (by omega) (by omega) _) (pow_lt_pow_right (by decide) (by omega))
       generalize e2*Sr ((g.getD 0 []).length-1) (Ly fs) ((fs.getD 0 []).length-1) (Ly S) ((S.getD 0 []).length-1) (0,(g.getD 0 []).length-1)=h' at*
       have a7:W^((f.getD 0 []).length-1-((g.getD 0 []).length-1)-1)*h'=U^((f.getD 0 []).length-1-((g.getD 0 []).length-1)):=by rw [O];exact hh
       have ed:(f.getD 0 []).length-1-((g.getD 0 []).length-1)=J:=by omega
       have ah:h'≠0:=fun z=>by
        rw [z,mul_zero]at a7
        exact Iu a5 _ a7.symm
       have bw:=Tn a3 (J-1)
       have aq:=Iu a2 (J-1)
       have pb:(J-1)*((b+6)*((fs.getD 0 []).length-1+((S.getD 0 []).length-1)-2*((f.getD 0 []).length-1))+1)<=J*((b+6)*((fs.getD 0 []).length-1+((S.getD 0 []).length-1)-2*((f.getD 0 []).length-1))+1):=mul_le_mul_right _ (by omega)
       refine Aa6 rfl a5 ao (by omega) (by omega) fun Ha sa=> ?_
       try done
       refine Aa6 (m:=J-1) (by omega) a2 a3 (by omega) (by omega) fun Hb sb=> ?_
       try done
       refine⟨aq,?_⟩
       have ef:(U^J).fdiv (W^(J-1))=h':=by
        rw [ed]at a7
        rw [<-a7,Int.mul_fdiv_cancel_left _ aq]
       rw [ef]
       exact Z _ _ ⟨sa.trans sb,h',rfl,ah,b9,.inr ⟨by omega,a7⟩⟩
     . rw [if_neg ap]
       have el:(f.getD 0 []).length=(g.getD 0 []).length:=by omega
       refine Z _ _ ⟨Same.refl _,W,rfl,a2,?_,.inl ⟨by omega,rfl⟩⟩
       rw [<-el]
       exact a3
   rintro I H8 ⟨s8,h',rfl,ah,ba,hh⟩
   done
   refine⟨(ts.getD 0 []).length,b7,s3.trans (s6.trans s8),.ref aw,t,g,ts,U,h',_,_,_,rfl,rfl,iw.mono (s6.trans s8),it.mono s8,lg,lt,by omega,by omega,by omega,a5,ao,ah,ba,fun tn=> ?_,?_,Bg,?_⟩
   . have:=ch.next (T:=Ly ts) (k:=(ts.getD 0 []).length-1) (q:=u) (h':=h') (Va g (by omega)) (Va ts (by omega)) (by omega) (by omega) (by have:=length_pos_iff.mpr tn;omega) (by show co (g.getD 0 []) _≠0;rw [<-O];exact a5) aj a2 (fun c i=> ?_) (by
      rcases hh with z | z
      . exact .inl z
      . exact .inr ⟨z.1,by show _=co (g.getD 0 []) _^_;rw [<-O];exact z.2⟩)
     . show Chn _ _ _ _ (Ly g) _ (Ly ts) _ U h'
       rw [O]
       exact this
     . have ed:(f.getD 0 []).length-1-((g.getD 0 []).length-1)=J:=by omega
       rw [ed]
       show co (g.getD 0 []) _^_*_=_
       rw [<-O]
       exact Ard lf lg lt a0 c i
   . refine Ln.trans (Oc (Iu a5 (J+1)) a6 (a0 0 (by omega))) sm
   . exact Kp f g ts u _ _ a6 lf lg lt Bf Bg a0
 rintro σ H3 ⟨s3,v,w,f,g,o2,o3,o4,o5,o6,rfl,iv,iw,lf,lg,ad,sm,Bf,Bg⟩
 obtain⟨av,vv,rfl,tv,am,ac⟩:=iv.first (by omega)
 obtain⟨aw,vw,rfl,tw,a4,Y⟩:=iw.first (by omega)
 rw [hN]at iv iw
 done
 refine Bv tw a4 ?_
 try done
 refine⟨by decide,fun e0 bb=> ?_⟩
 have se:=Same.upd bb (.tup [])
 obtain⟨⟨b0,af,ag⟩,bc,_,_⟩:=id Y
 rw [af]
 refine Ez (ms:=[]) (se.tup ag) (.of Ao) ?_
 try done
 by_cases hg:g.getD 0 []=[]
 . rw [if_pos hg]
   rw [hg]at sm
   exact k _ _ f ((s1.trans s3).trans se) (iv.mono se) lf (Akd ac.2.1 sm) Bf
 . rw [if_neg hg]
   have bd:(g.getD 0 []).length=1:=by
    have:=length_pos_iff.mpr hg
    omega
   obtain⟨c,hc⟩:∃c,g.getD 0 []=[c]:=by
    match hm:g.getD 0 [],bd with
    | [c],_=>exact⟨c,rfl⟩
   have c0:c≠0:=by
    have:=bc.lead hg
    rw [hc]at this
    exact this
   rw [hc]at sm
   exact k _ _ g ((s1.trans s3).trans se) (iw.mono se) lg (by rw [hc];exact Ah3 c0 sm) Bg
theorem Amb {k:Nat}{f:Addr}{fd:FuncData}{ps:List Str}{I s2 J:Sp} (a:O4 P w K mg base CX0 k f fd ps I) (b:O4 P w K mg base CX0 k f fd ps s2) (h:∀z H Q E,J z H Q E->I z H Q E\/s2 z H Q E):O4 P w K mg base CX0 k f fd ps J:=
 ⟨fun z H Q E q=>(h _ _ _ _ q).elim (a.len z H Q E) (b.len z H Q E),fun A outer s H args M z Q E O S U hv hs=>(h _ _ _ _ hs).elim (a.run A outer s H args M z Q E O S U hv) (b.run A outer s H args M z Q E O S U hv)⟩
theorem Ys (F:Df K mg "last_row" K5 ["first","second"] f fd)  (py:Pyl P base) (c_degree:Cal P w K mg base 33 "degree" ["one"] (Gf K)) (c_next_row:Cal P w K mg base 38 "next_row" ["first","second","known"] (Mi K)) (c_whole_power:Cal P w K mg base 36 "whole_power" ["number","many"] (Fj K)):Cal P w K mg base 40 "last_row" ["first","second"] (Rp K):=by
 have fo:=Wm (P:=P) (w:=w) (base:=base) F (py:=py) (c_degree:=c_degree) (c_whole_power:=c_whole_power) (c_next_row:=c_next_row)
 have J:=F.cal fo
 refine F.cal (Amb (s2:=Ato K fun x y=>x<y) (fo.mono (by decide)) (F.fn.ok Bw (fun vs H Q E h=> ?_) (fun a5 A outer s H vs Q E O h=> ?_)) fun vs H Q E h=> ?_)
 . obtain⟨x,y,fs,gs,_,_,_,rfl,_⟩:=h
   rfl
 . obtain⟨x,y,fs,gs,l,b,B,rfl,hx,hy,S,Y,Z,M,U,W,I,bf,bg,Kp,a0,k⟩:=h
   obtain⟨ax,vx,ex,tx,a1,a2⟩:=hx.first (by omega)
   obtain⟨ay,vy,ey,ty,a3,a4⟩:=hy.first (by omega)
   refine Av ⟨_,(Ae (Az (Al Nx (Ai c_degree O (Aa (Aq Bd (Af 0) Ad (fun _ _=>rfl)) Ac)) (Ai c_degree O (Aa (Aq Bd (Af 1) Ad (fun _ _=>rfl)) Ac)) (Ba _)) (Ag (Ak (Ai J O (Aa (Af 1) (Aa (Af 0) Ac))))) Aw)
    (Ae (Aj 2 Bw.nd Ad)
    (Ae (Aj 3 Bw.nd Ad)
    (Ae (Cq PassesOwn.never (Al Kc (Ai c_degree O (Aa (Aq Bd (Af 1) Ad (fun _ _=>rfl)) Ac)) Ad (Ba _)) (Ae (Aj 4 Bw.nd (Ah Dw (Ai c_degree O (Aa (Aq Bd (Af 0) Ad (fun _ _=>rfl)) Ac)) (Ai c_degree O (Aa (Aq Bd (Af 1) Ad (fun _ _=>rfl)) Ac))))
    (Ae (Aj 5 Bw.nd (Ah Bo (Af 2) (Ai c_whole_power O (Aa (Af 3) (Aa (Af 4) Ac)))))
    (Ae (Aj 6 Bw.nd (Ai c_next_row O (Aa (Af 0) (Aa (Af 1) (Aa (Af 5) Ac)))))
    (Ae (Aj 2 Bw.nd (Aq Bd (Aq Bd (Af 1) Ad (fun _ _=>rfl)) (Br Dd Ad) (fun _ _=>rfl)))
    (Ae (Az (Al Kc (Af 4) Ad (Ba _)) (Ag (Aj 3 Bw.nd (Ah (G5 py (O.far (by decide)) rfl rfl rfl rfl rfl) (Ai c_whole_power O (Aa (Af 2) (Aa (Af 4) Ac))) (Ai c_whole_power O (Aa (Af 3) (Aa (Ah Dw (Af 4) Ad) Ac)))))) Aw)
    (Ag (Gs (i:=0) (j:=1) rfl Bw.nd rfl rfl (by decide) rfl rfl (Aa (Af 1) (Aa (Af 6) Ac)) rfl))))))))
    (Ag (Ak (Gh (Al (Ka O.units) (Aq Bd (Af 1) Ad (fun _ _=>rfl)) (Bj Ac) (Ba _)) (Af 0) (Af 1)))))))),?_⟩
   done
   rw [ex,ey]
   refine Bv tx a1 (Ef a2 (Same.refl _) ?_)
   try done
   refine Bv ty a3 (Ef a4 (Same.refl _) ?_)
   try done
   rw [if_pos (by omega),<-ex,<-ey]
   exact⟨y,x,gs,fs,l,b,B,rfl,hy,hx,by omega,by omega,by omega,M,U,W,I,bg,bf,by rw [S];exact Kp,by show(fs.getD 0 []).length<=_;omega,fun z H' hs s' iz lz gc Bh=>k z H' hs s' iz (by omega) gc.symm Bh⟩
 . obtain⟨x,y,fs,gs,l,b,B,e,hx,hy,S,Y,Z,M,U,W,I,bf,bg,Kp,_,k⟩:=h
   by_cases a0:(gs.getD 0 []).length<=(fs.getD 0 []).length
   . exact .inl ⟨x,y,fs,gs,l,b,B,e,hx,hy,S,Y,Z,M,U,W,I,bf,bg,Kp,a0,k⟩
   . exact .inr ⟨x,y,fs,gs,l,b,B,e,hx,hy,S,Y,Z,M,U,W,I,bf,bg,Kp,by omega,k⟩
theorem Ak3 {H:Hp}{a:Addr}{v:V}{p:List Int}{l n:Nat} (h:SqT K H a [v]) (z:Po K H v p l n):Rw K H (.ref a) [p] l n:=⟨a,[v],rfl,h,rfl,fun c I=>by
 have:c=0:=by simpa using I
 subst this
 exact z⟩
noncomputable def Few (l b:Nat):Prop:=l<=30/\1<=l/\1<=b/\(4*l+l*l)*(b+6)+4*l+10<=750000
theorem Few.bits {l b:Nat} (h:Few l b):(b+6)*(2*l)+1<=400000:=by
 obtain⟨_,_,_,h⟩:=h
 have:(4*l)*(b+6)<=(4*l+l*l)*(b+6):=mul_le_mul_right _ (le_add_right _ _)
 have e:(4*l)*(b+6)=2*((b+6)*(2*l)):=by grind
 omega
noncomputable def Rz (K:Frag):Sp:=fun vs H Q _=>∃(x y:V) (p q:List Int) (l b:Nat),vs=[x,y]/\Po K H x p l b/\Po K H y q l b/\Few l b/\∀z H' g,Same H H'->Po K H' z g (2*l) ((b+6)*(2*l)+1)->Gc p q g->Q z H'
theorem Afg (F:Df K mg "shared" Vk ["one","other"] f fd)   (I:Cal P w K mg base 38 "surely_apart" ["one","other"] (Kv K)) (M:Cal P w K mg base 37 "plain" ["one"] (Vr K)) (J:Cal P w K mg base 40 "last_row" ["first","second"] (Rp K)):Cal P w K mg base 41 "shared" ["one","other"] (Rz K):=by
 refine F.cal (F.fn.ok Agh (fun vs H Q E h=> ?_) (fun a4 A outer s H vs Q E hr h=> ?_))
 . obtain⟨x,y,p,q,_,_,rfl,_⟩:=h
   rfl
 obtain⟨x,y,p,q,l,b,rfl,hx,hy,O,k⟩:=h
 have fb:=O.bits
 obtain⟨f1,f2,f3,f4⟩:=O
 refine Av ⟨_,(Ae (Az (Dq (Ai I hr (Aa (Af 0) (Aa (Af 1) Ac)))) (Ag (Ak (Bj (Aa Ad Ac)))) Aw)
  (Ag (Ak (Ai M hr (Aa (Aq Bd (Ai J hr (Aa (Bj (Aa (Af 0) Ac)) (Aa (Bj (Aa (Af 1) Ac)) Ac))) Ad (fun _ _=>rfl)) Ac))))),?_⟩
 done
 refine⟨x,y,p,q,l,l,b,b,rfl,hx,hy,by omega,by omega,fun bb H1 s1 hb=> ?_⟩
 try done
 split
 . rename_i h
   intro z hz
   have sz:=Same.upd hz (.tup [V.int 1])
   refine k _ _ [1] (s1.trans sz) ⟨⟨z,rfl,.of Ao⟩,.inr ⟨by simp,by decide⟩,by simp;omega,fun i=>Alz (by omega) (fun x hx=>by
    have:x=1:=by simpa using hx
    subst this
    exact(show Sz 1 (1:Int)by unfold Sz;decide).mono (by omega)) i⟩ (hb h)
 . (intro q1 S;generalize U:upd _ q1 _=a5;obtain⟨a0,a1⟩:=nw S U;clear U S)
   (intro q2 W;generalize Y:upd _ q2 _=a6;obtain⟨Z,a2⟩:=nw W Y;clear Y W)
   have s2:=(s1.trans a0).trans Z
   refine⟨_,_,[p],[q],l,b,fun _=>True,rfl,Ak3 (.of (Z _ _ a1)) (hx.mono s2),Ak3 (.of a2) (hy.mono s2),rfl,le_refl 1,show 1<=3 by decide,f1,f2,f3,f4,trivial,trivial,fun _ _ _ _ _ _ _ _ _ _ _ _ _=>trivial,trivial,fun z H' hs s' iz lz gc _=> ?_⟩
   obtain⟨az,vz,rfl,tz,a3,pz⟩:=iz.first (by rw [lz];exact le_refl 1)
   refine Bv tz a3 ?_
   try done
   exact Aoj pz (Same.refl _) (by omega) fb fun w H2 s3 iw=>k w H2 _ ((s2.trans s').trans s3) iw gc
theorem Ajj {H H1 H2:Hp}{Q:VK}{E:XK}{x y:V}{p q:List Int}{l b:Nat} (I:Po K H1 x p l b) (J:Same H1 H) (M:Po K H2 y q l b) (s2:Same H2 H) (f:Few l b) (h:∀z H' g,Same H H'->Po K H' z g (2*l) ((b+6)*(2*l)+1)->Gc p q g->Q z H'):Rz K [x,y] H Q E:=⟨x,y,p,q,l,b,rfl,I.mono J,M.mono s2,f,h⟩
theorem Avi (xs:List V):O6 xs (some 1) none=xs.drop 1:=by
 unfold O6
 rw [HT.K4,show(some (1:Int))=some ((1:Nat):Int)from rfl,HT.Ny]
 cases xs with
 | nil=>rfl
 | cons x r=>
   rw [min_eq_left (by simp),take_of_length_le (by simp)]
noncomputable def K9 (K:Frag):Sp:=fun vs H Q _=>∃(x:V) (p:List Int) (l n:Nat),vs=[x]/\Po K H x p l n/\l<=200/\n<=100000/\∀z H',Same H H'->Po K H' z (dr p) l (n+8)->Q z H'
theorem Abz (F:Df K mg "derived" M5 ["one"] f fd) (z:mg "tuple"=none) (z_enumerate:mg "enumerate"=none)   :Cal P w K mg base 33 "derived" ["one"] (K9 K):=by
 refine F.cal (F.fn.ok Aci (fun Y H Q E h=> ?_) (fun Z A outer s H Y Q E hr h=> ?_))
 . obtain⟨x,p,_,_,rfl,_⟩:=h
   rfl
 obtain⟨x,p,l,n,rfl,O,hl,hn,k⟩:=h
 obtain⟨⟨a,rfl,S⟩,tp,lp,zp⟩:=id O
 refine Av ⟨_,(Ag (Ak (Dj Ds rfl z boot_tuple (Aa (Er Od (Ft (ts:=["place","weight"]) (fs:=[]) rfl (Dh.of (sc:=Ar M5) (N:=["one"]) rfl rfl (by decide+kernel)) (Ky rfl z_enumerate (Aa (Af 0) Ac)) (fun _ _ _=>(Abd K 2 rfl rfl (Bb (Ay 0 (show Nodup (["place","weight"]:List Str)by decide+kernel)) (Bb (Ay 1 (show Nodup (["place","weight"]:List Str)by decide+kernel)) Cz)))) (fun _ _ _=>En) (fun _ _ _=>(Ah Bo (Af 0) (Af 1)))) (Fx Ad) Fw) Ac)))),?_⟩
 done
 refine⟨⟨_,S⟩,fun p1 J=>Ao4 (es:=p) (inj:=V.int) (fun i e=> .int ((i:Int)*e)) (le_trans lp (le_trans hl (by decide))) J S ?_ ?_⟩
 . intro i e b H2 R U W hb hR
   have hi:i<p.length:=(List.getElem?_eq_some_iff.mp U).1
   have ze:Sz n e:=O.mem e (List.mem_of_getElem? U)
   refine Jw (.of Ao) ?_
   done
   exact⟨(show Sz 8 ((i:Nat):Int)by unfold Sz;omega).mulOk ze (by omega),hR _ (Same.upd hb _)⟩
 intro H2 W h2
 have em:(p.mapIdx fun i e=>V.int ((i:Int)*e))=(p.mapIdx fun i e=>(i:Int)*e).map V.int:=by
  apply List.ext_getElem?
  intro i
  rw [getElem?_map,List.getElem?_mapIdx,List.getElem?_mapIdx]
  cases p[i]? <;>rfl
 rw [em]at h2
 have ec:O6 ((p.mapIdx fun i e=>(i:Int)*e).map V.int) (some 1) none=(dr p).map V.int:=by
  rw [Avi,dr,List.map_drop]
 refine⟨p1,_,rfl,.of h2,fun p2 M=>⟨p2,_,rfl,.inl ⟨.of Ao,fun p3 I=> ?_⟩⟩⟩
 rw [ec]at I ⊢
 refine k _ _ ((W.trans (Same.upd M _)).trans (Same.upd I _)) ⟨⟨p3,rfl,.of Ao⟩,Al4 tp,by rw [G3];omega,fun i=> ?_⟩
 rw [Wj]
 by_cases hi:i+1<p.length
 . exact((show Sz 8 ((i:Nat)+1:Int)by unfold Sz;omega).mul (zp (i+1))).mono (by omega)
 . rw [Bl (by omega),mul_zero]
   exact Sz0 (by omega)
theorem Nk {H H1:Hp}{Q:VK}{E:XK}{x:V}{p:List Int}{l n:Nat} (I:Po K H1 x p l n) (J:Same H1 H) (M:l<=200) (O:n<=100000) (h:∀z H',Same H H'->Po K H' z (dr p) l (n+8)->Q z H'):K9 K [x] H Q E:=⟨x,p,l,n,rfl,I.mono J,M,O,h⟩
open Classical in
noncomputable def frB (p:List Int):Bool:=decide (p≠ []/\∃g,Gc p (dr p) g/\g.length=1)
open Classical in
theorem Akb {p g:List Int} (h:p≠ []) (I:Gc p (dr p) g):frB p=decide (g.length=1):=by
 unfold frB
 by_cases e:g.length=1
 . rw [decide_eq_true e]
   exact decide_eq_true ⟨h,g,I,e⟩
 . rw [decide_eq_false e]
   refine decide_eq_false ?_
   rintro⟨_,M,z,J⟩
   rw [z.uniq I]at J
   exact e J
open Classical in
theorem Ad2:frB []=false:=by
 unfold frB
 exact decide_eq_false fun h=>h.1 rfl
noncomputable def T5 (K:Frag):Sp:=fun vs H Q _=>∃(x:V) (p:List Int) (l b:Nat),vs=[x]/\Po K H x p l b/\Few l (b+8)/\b<=100000/\∀H',Same H H'->Q (.bl (frB p)) H'
theorem Ab1 (F:Df K mg "is_free" Rf ["one"] f fd)   (c_degree:Cal P w K mg base 33 "degree" ["one"] (Gf K)) (J:Cal P w K mg base 41 "shared" ["one","other"] (Rz K)) (I:Cal P w K mg base 33 "derived" ["one"] (K9 K)):Cal P w K mg base 42 "is_free" ["one"] (T5 K):=by
 refine F.cal (F.fn.ok Acj (fun vs H Q E h=> ?_) (fun a0 A outer s H vs Q E S h=> ?_))
 . obtain⟨x,p,_,_,rfl,_⟩:=h
   rfl
 obtain⟨x,p,l,b,rfl,Z,M,hb,k⟩:=h
 obtain⟨⟨a,rfl,ha⟩,tp,lp,zp⟩:=id Z
 refine Av ⟨_,(Ag (Ak (Qe (Ey (Afl S.units) (Af 0) (Bj Ac) (Ba _)) (Qf (Ey G4 (Ai c_degree S (Aa (Ai J S (Aa (Af 0) (Aa (Ai I S (Aa (Af 0) Ac)) Ac))) Ac)) Ad (Ba _)))))),?_⟩
 done
 refine⟨by decide,fun e0 U=> ?_⟩
 have O:=Same.upd U (.tup [])
 refine Ez (ms:=[]) (O.tup ha) (.of Ao) ?_
 by_cases W:p=[]
 . subst W
   try done
   rw [Ad2]at k
   exact k _ O
 . rw [decide_eq_false W]
   try done
   refine Nk Z O (by have:=M.1;omega) hb fun z H1 s1 i1=> ?_
   try done
   have Y:Po K H1 (.ref a) p l (b+8):=⟨⟨a,rfl,(O.trans s1).tup ha⟩,tp,lp,fun i=>(zp i).mono (by omega)⟩
   refine Ajj Y (Same.refl _) i1 (Same.refl _) M fun z2 H2 g s2 i2 gc=> ?_
   try done
   refine Ef i2 (Same.refl _) ?_
   try done
   have e:decide (((g.length:Nat):Int)-1=0)=frB p:=by
    rw [Akb W gc]
    exact decide_eq_decide.mpr ⟨fun h=>by omega,fun h=>by omega⟩
   rw [e]
   exact k _ ((O.trans s1).trans s2)
noncomputable def IsQ (K:Frag) (H:Hp) (v:V) (q:Rat):Prop:=∃a,v= .ref a/\SqT K H a [.int q.num,.int (q.den:Int)]
noncomputable def Szq (n:Nat) (q:Rat):Prop:=Sz n q.num/\Sz n (q.den:Int)
theorem IsQ.mono {H H':Hp}{v:V}{q:Rat} (h:IsQ K H v q) (s:Same H H'):IsQ K H' v q:=by
 obtain⟨a,e,t⟩:=h
 exact⟨a,e,s.tup t⟩
theorem Szq.of {n:Nat}{a b:Int} (h:Sz n a) (g:Sz n b) (z:b≠0):Szq n (divInt a b):=
 ⟨h.of_abs (Aqc a b),g.of_abs (by have:=Ao7 (a:=a) z;omega)⟩
theorem Mp (q:Rat):((q.den:Nat):Int)≠0:=by have:=q.den_nz;omega
noncomputable def Oo (K:Frag):Sp:=fun vs H Q E=>∃a b:Int,vs=[.int a,.int b]/\(b≠0->∀z H',Same H H'->IsQ K H' z (divInt a b)->Q z H')/\(b=0->E (.ref (cA K "NoPart")) none H)
noncomputable def Gk (K:Frag):Sp:=fun vs H Q _=>∃a b:Int,vs=[.int a,.int b]/\b≠0/\∀z H',Same H H'->IsQ K H' z (divInt a b)->Q z H'
theorem Uv (K:Frag):∀I H Q E,Gk K I H Q E->Oo K I H Q E0:=by
 rintro I H Q E ⟨a,b,rfl,J,q⟩
 exact⟨a,b,rfl,fun _=>q,fun z=>(J z).elim⟩
theorem Yq (F:Df K mg "fraction" Nz ["top","bottom"] f fd)  (py:Pyl P base) (O:mg "shared"=some (.ref (cA K "shared"))) (z:Xv K (cA K "NoPart")) (I:mg "NoPart"=some (.ref (cA K "NoPart"))) (J:Cal P w K mg base 33 "divisor" ["one","other"] (Iz K)):Zu P w K mg base 34 "fraction" ["top","bottom"] (Oo K):=by
 refine F.calE (F.fn.okE Mf (fun Z H Q E h=> ?_) (fun a0 A outer s H Z Q E W h=> ?_))
 . obtain⟨a,b,rfl,_⟩:=h
   rfl
 obtain⟨a,b,rfl,q,q0⟩:=h
 refine Av ⟨_,(Ae (Az (Al G4 (Af 1) Ad (Ba _)) (Ag (Jd z I (Aa Im Ac))) Aw)
  (Ae (Aj 2 Mf.nd (Ai J W (Aa (Af 0) (Aa (Af 1) Ac))))
  (Ae (Az (Al Nx (Af 1) Ad (Ba _)) (Ag (Aj 2 Mf.nd (Br Dd (Af 2)))) Aw)
  (Ag (Ak (Bj (Aa (Ah (G5 py (W.far (by decide)) rfl rfl rfl rfl rfl) (Af 0) (Af 2)) (Aa (Ah (G5 py (W.far (by decide)) rfl rfl rfl rfl rfl) (Af 1) (Af 2)) Ac)))))))),?_⟩
 done
 by_cases S:b=0
 . rw [if_pos S]
   exact q0 S
 rw [if_neg S]
 replace q:=q S
 refine⟨a,b,rfl,?_⟩
 done
 have U:((Int.gcd a b:Nat):Int)≠0:=by
  have:=Int.gcd_pos_of_ne_zero_right a S
  omega
 split
 . rename_i M
   refine⟨by omega,by omega,fun p Y=> ?_⟩
   rw [(Aag M).1,(Aag M).2]
   exact q _ _ (Same.upd Y _) ⟨p,rfl,.of Ao⟩
 . rename_i M
   have hpos:0<b:=by omega
   refine⟨U,U,fun p Y=> ?_⟩
   rw [(Pb hpos).1,(Pb hpos).2]
   exact q _ _ (Same.upd Y _) ⟨p,rfl,.of Ao⟩
theorem Ahs (q:Rat):(0:Int)<(q.den:Int):=by have:=q.den_pos;omega
noncomputable def Asn (f:Rat->Rat->Rat) (K:Frag):Sp:=fun vs H Q _=>∃(x y:V) (p q:Rat) (m n:Nat),vs=[x,y]/\IsQ K H x p/\IsQ K H y q/\Szq m p/\Szq n q/\m+n<=60000000/\∀z H',Same H H'->IsQ K H' z (f p q)->Q z H'
noncomputable def Rv (K:Frag):Sp:=Asn (fun p q=>p+q) K
noncomputable def Px (K:Frag):Sp:=Asn (fun p q=>p-q) K
noncomputable def Nh (K:Frag):Sp:=Asn (fun p q=>p*q) K
theorem Am1 (F:Df K mg "plus" Af9 ["one","other"] f fd)   (z:Cal P w K mg base 34 "fraction" ["top","bottom"] (Gk K)):Cal P w K mg base 35 "plus" ["one","other"] (Rv K):=by
 refine F.cal (F.fn.ok An2 (fun M H Q E h=> ?_) (fun O A outer s H M Q E S h=> ?_))
 . obtain⟨x,y,p,q,m,n,rfl,_⟩:=h
   rfl
 obtain⟨x,y,p,q,m,n,rfl,⟨a,rfl,I⟩,⟨b,rfl,J⟩,sp,sq,U,k⟩:=h
 refine Av ⟨_,(Ag (Ak (Ai z S (Aa (Ah Dc (Ah Bo (Aq Bd (Af 0) Ad (fun _ _=>rfl)) (Aq Bd (Af 1) Ad (fun _ _=>rfl))) (Ah Bo (Aq Bd (Af 1) Ad (fun _ _=>rfl)) (Aq Bd (Af 0) Ad (fun _ _=>rfl)))) (Aa (Ah Bo (Aq Bd (Af 0) Ad (fun _ _=>rfl)) (Aq Bd (Af 1) Ad (fun _ _=>rfl))) Ac))))),?_⟩
 done
 refine Bv I (at0 _ _) (Bv J (at1 _ _ _) ?_)
 done
 refine⟨sp.1.mulOk sq.2 (by omega),Bv J (at0 _ _) (Bv I (at1 _ _ _) ?_)⟩
 done
 refine⟨sq.1.mulOk sp.2 (by omega),Bv I (at1 _ _ _) (Bv J (at1 _ _ _) ?_)⟩
 done
 refine⟨sp.2.mulOk sq.2 (by omega),_,_,rfl,mul_ne_zero (Mp p) (Mp q),?_⟩
 rw [Avv]
 exact k
theorem Aij (F:Df K mg "minus" Zb ["one","other"] f fd)   (z:Cal P w K mg base 34 "fraction" ["top","bottom"] (Gk K)):Cal P w K mg base 35 "minus" ["one","other"] (Px K):=by
 refine F.cal (F.fn.ok Ai4 (fun M H Q E h=> ?_) (fun O A outer s H M Q E S h=> ?_))
 . obtain⟨x,y,p,q,m,n,rfl,_⟩:=h
   rfl
 obtain⟨x,y,p,q,m,n,rfl,⟨a,rfl,I⟩,⟨b,rfl,J⟩,sp,sq,U,k⟩:=h
 refine Av ⟨_,(Ag (Ak (Ai z S (Aa (Ah Dw (Ah Bo (Aq Bd (Af 0) Ad (fun _ _=>rfl)) (Aq Bd (Af 1) Ad (fun _ _=>rfl))) (Ah Bo (Aq Bd (Af 1) Ad (fun _ _=>rfl)) (Aq Bd (Af 0) Ad (fun _ _=>rfl)))) (Aa (Ah Bo (Aq Bd (Af 0) Ad (fun _ _=>rfl)) (Aq Bd (Af 1) Ad (fun _ _=>rfl))) Ac))))),?_⟩
 done
 refine Bv I (at0 _ _) (Bv J (at1 _ _ _) ?_)
 done
 refine⟨sp.1.mulOk sq.2 (by omega),Bv J (at0 _ _) (Bv I (at1 _ _ _) ?_)⟩
 done
 refine⟨sq.1.mulOk sp.2 (by omega),Bv I (at1 _ _ _) (Bv J (at1 _ _ _) ?_)⟩
 done
 refine⟨sp.2.mulOk sq.2 (by omega),_,_,rfl,mul_ne_zero (Mp p) (Mp q),?_⟩
 rw [Avw]
 exact k
theorem Aio (F:Df K mg "times" Zg ["one","other"] f fd)   (z:Cal P w K mg base 34 "fraction" ["top","bottom"] (Gk K)):Cal P w K mg base 35 "times" ["one","other"] (Nh K):=by
 refine F.cal (F.fn.ok Ai7 (fun M H Q E h=> ?_) (fun O A outer s H M Q E S h=> ?_))
 . obtain⟨x,y,p,q,m,n,rfl,_⟩:=h
   rfl
 obtain⟨x,y,p,q,m,n,rfl,⟨a,rfl,I⟩,⟨b,rfl,J⟩,sp,sq,U,k⟩:=h
 refine Av ⟨_,(Ag (Ak (Ai z S (Aa (Ah Bo (Aq Bd (Af 0) Ad (fun _ _=>rfl)) (Aq Bd (Af 1) Ad (fun _ _=>rfl))) (Aa (Ah Bo (Aq Bd (Af 0) Ad (fun _ _=>rfl)) (Aq Bd (Af 1) Ad (fun _ _=>rfl))) Ac))))),?_⟩
 done
 refine Bv I (at0 _ _) (Bv J (at0 _ _) ?_)
 done
 refine⟨sp.1.mulOk sq.1 (by omega),Bv I (at1 _ _ _) (Bv J (at1 _ _ _) ?_)⟩
 done
 refine⟨sp.2.mulOk sq.2 (by omega),_,_,rfl,mul_ne_zero (Mp p) (Mp q),?_⟩
 rw [Avb]
 exact k
noncomputable def Vq (K:Frag):Sp:=fun vs H Q _=>∃(x y:V) (p q:Rat) (n:Nat),vs=[x,y]/\IsQ K H x p/\IsQ K H y q/\Szq n p/\Szq n q/\n<=60000000/\Q (.bl (decide (p<q))) H
theorem Am0 (F:Df K mg "less" Af8 ["one","other"] f fd)    :Cal P w K mg base 33 "less" ["one","other"] (Vq K):=by
 refine F.cal (F.fn.ok An1 (fun J H Q E h=> ?_) (fun M A outer s H J Q E O h=> ?_))
 . obtain⟨x,y,p,q,_,rfl,_⟩:=h
   rfl
 obtain⟨x,y,p,q,n,rfl,⟨a,rfl,z⟩,⟨b,rfl,I⟩,sp,sq,S,k⟩:=h
 refine Av ⟨_,(Ag (Ak (Ey Nx (Ah Bo (Aq Bd (Af 0) Ad (fun _ _=>rfl)) (Aq Bd (Af 1) Ad (fun _ _=>rfl))) (Ah Bo (Aq Bd (Af 1) Ad (fun _ _=>rfl)) (Aq Bd (Af 0) Ad (fun _ _=>rfl))) (Ba _)))),?_⟩
 done
 refine Bv z (at0 _ _) (Bv I (at1 _ _ _) ?_)
 done
 refine⟨sp.1.mulOk sq.2 (by omega),Bv I (at0 _ _) (Bv z (at1 _ _ _) ?_)⟩
 done
 refine⟨sq.1.mulOk sp.2 (by omega),?_⟩
 simp only [Aia]
 exact k
theorem Amh {t b:Int}{n m:Nat} (z:Sz m t) (I:Sz m b):∀p:List Int,(∀x∈p,Sz n x)->Sz (n+(m+2)*p.length) (hv p t b)
 | [],_=>two_pow_pos _
 | w::r,h=>by
   have J:=Amh z I r fun x M=>h x (mem_cons_of_mem _ M)
   have O:=(h w (by simp)).mul (Tn I r.length)
   rw [hv]
   have e:(m+2)*r.length=m*r.length+2*r.length:=add_mul _ _ _
   have S:(m+2)*(r.length+1)=(m+2)*r.length+(m+2):=mul_succ _ _
   refine((J.mul z).add O).mono ?_
   rw [length_cons,S,e]
   generalize m*r.length=A
   omega
noncomputable def Gn (K:Frag):Sp:=fun vs H Q _=>∃(x y:V) (p:List Int) (q:Rat) (l n m:Nat),vs=[x,y]/\Po K H x p l n/\IsQ K H y q/\Szq m q/\n+(m+2)*l+m<=130000000/\Q (.int (hv p q.num q.den)) H
theorem S5 (F:Df K mg "whole_value" Jr ["one","point"] f fd) (I:mg "reversed"=none)   :Cal P w K mg base 33 "whole_value" ["one","point"] (Gn K):=by
 refine F.cal (F.fn.ok Di (fun vs H Q E h=> ?_) (fun a0 A outer s H vs Q E hr h=> ?_))
 . obtain⟨x,y,_,_,_,_,_,rfl,_⟩:=h
   rfl
 obtain⟨x,y,p,q,l,n,m,rfl,M,hy,⟨U,O⟩,hn,k⟩:=h
 obtain⟨⟨a,rfl,W⟩,tp,lp,zp⟩:=id M
 obtain⟨b,rfl,hb⟩:=id hy
 refine Av ⟨_,(Ae (Dp (Af 1) (Eh rfl (Bb (Ay 5 Di.nd) (Bb (Ay 6 Di.nd) Cz))))
  (Ae (Aj 2 Di.nd Ad)
  (Ae (Aj 3 Di.nd Ad)
  (Ae (Ce PassesOwn.never rfl (Ahg rfl I (Aa (Af 0) Ac)) (Ay 4 Di.nd) (Ae (Aj 2 Di.nd (Ah Dc (Ah Bo (Af 2) (Af 5)) (Ah Bo (Af 4) (Af 3))))
  (Ag (Aj 3 Di.nd (Ah Bo (Af 3) (Af 6))))))
  (Ag (Ak (Af 2))))))),?_⟩
 done
 refine Jw hb ?_
 done
 refine⟨_,W,?_⟩
 rw [length_map]
 refine Sd (es:=p.reverse) (inj:=V.int) (fun z σ H'=>H'=H/\∃o:Option V,σ=[some (.ref a),some (.ref b),some (.int (hv z.reverse q.num q.den)),some (.int (((q.den:Nat):Int)^z.length)),o,some (.int q.num),some (.int (q.den:Nat))]) ⟨rfl,_,rfl⟩ ?_ ?_ ?_
 . rintro z σ H' ⟨rfl,_⟩
   exact Aok W
 . rintro z e Y σ H' J ⟨rfl,o,rfl⟩
   have a1:z.length<=l:=by
    have:=congrArg List.length J
    simp at this
    omega
   have S:Sz n e:=M.mem e (by
    have:e∈p.reverse:=by rw [J];simp
    exact mem_reverse.mp this)
   have Z:=Amh U O z.reverse fun x hm=>M.mem x (by
    have:x∈p.reverse:=by rw [J];exact mem_append_left _ (mem_reverse.mp hm)
    exact mem_reverse.mp this)
   rw [length_reverse]at Z
   have z2:=Tn O z.length
   have e1:(m+2)*(z.length+1)<=(m+2)*l:=mul_le_mul_left _ (by have:=congrArg List.length J;simp at this;omega)
   have e2:(m+2)*(z.length+1)=(m+2)*z.length+(m+2):=mul_succ _ _
   have e3:(m+2)*z.length=m*z.length+2*z.length:=add_mul _ _ _
   have e4:z.length*m=m*z.length:=Nat.mul_comm _ _
   done
   refine⟨Z.mulOk U (by omega),S.mulOk z2 (by omega),z2.mulOk O (by omega),?_⟩
   try done
   refine⟨some (.int e),?_⟩
   rw [List.reverse_append,List.reverse_singleton,List.singleton_append,hv,length_reverse,length_append,length_singleton,pow_succ]
 . rintro σ H' ⟨rfl,o,rfl⟩
   done
   rw [List.reverse_reverse]
   exact k
noncomputable def sgI (n:Int):Int:=if n=0 then 0 else if 0<n then 1 else-1
theorem Aja (x:Int):sgI x=0↔x=0:=by
 unfold sgI
 split<;>(try split)<;>omega
noncomputable def Jz (_:Frag):Sp:=fun vs H Q _=>∃n:Int,vs=[.int n]/\Q (.int (sgI n)) H
theorem O1 (F:Df K mg "sign_of_whole" Ht ["number"] f fd)    :Cal P w K mg base 33 "sign_of_whole" ["number"] (Jz K):=by
 refine F.cal (F.fn.ok O2 (fun z H Q E h=> ?_) (fun I A outer s H z Q E J h=> ?_))
 . obtain⟨n,rfl,_⟩:=h
   rfl
 obtain⟨n,rfl,k⟩:=h
 refine Av ⟨_,(Ae (Az (Al G4 (Af 0) Ad (Ba _)) (Ag (Ak Ad)) Aw)
  (Ag (Ak (Gh (Al Kc (Af 0) Ad (Ba _)) Ad (Br Dd Ad))))),?_⟩
 done
 unfold sgI at k
 split
 . rename_i h
   rw [if_pos h]at k
   exact k
 . rename_i h
   rw [if_neg h]at k
   split
   . rename_i h'
     rw [if_pos h']at k
     exact k
   . rename_i h'
     rw [if_neg h']at k
     exact k
noncomputable def Og (K:Frag):Sp:=fun vs H Q _=>∃(x y:V) (p:List Int) (q:Rat) (l n m:Nat),vs=[x,y]/\Po K H x p l n/\IsQ K H y q/\Szq m q/\n+(m+2)*l+m<=130000000/\Q (.int (sgI (hv p q.num q.den))) H
theorem Ab6 (F:Df K mg "sign_at" Rj ["one","point"] f fd)   (z:Cal P w K mg base 33 "sign_of_whole" ["number"] (Jz K)) (I:Cal P w K mg base 33 "whole_value" ["one","point"] (Gn K)):Cal P w K mg base 34 "sign_at" ["one","point"] (Og K):=by
 refine F.cal (F.fn.ok Acl (fun M H Q E h=> ?_) (fun O A outer s H M Q E J h=> ?_))
 . obtain⟨x,y,_,_,_,_,_,rfl,_⟩:=h
   rfl
 obtain⟨x,y,p,q,l,n,m,rfl,S,U,⟨W,Y⟩,Z,k⟩:=h
 refine Av ⟨_,(Ag (Ak (Ai z J (Aa (Ai I J (Aa (Af 0) (Aa (Af 1) Ac))) Ac)))),?_⟩
 done
 exact⟨x,y,p,q,l,n,m,rfl,S,U,⟨W,Y⟩,Z,⟨_,rfl,k⟩⟩
noncomputable def Ng (_:Frag):Sp:=fun vs H Q _=>∃n:Int,vs=[.int n]/\0<=n/\Sz 200000 n/\∀r:Int,0<=r->Sz 200001 r->r*r<=n->n<(r+1)*(r+1)->Q (.int r) H
theorem U6 (F:Df K mg "root_floor" Kh ["number"] f fd) (J:mg "range"=none) (py:Pyl P base)  :Cal P w K mg base 33 "root_floor" ["number"] (Ng K):=by
 refine F.cal (F.fn.ok Ek (fun vs H Q E h=> ?_) (fun a1 A outer s H vs Q E hr h=> ?_))
 . obtain⟨n,rfl,_⟩:=h
   rfl
 obtain⟨n,rfl,hn,sn,q⟩:=h
 refine Av ⟨_,(Ae (Az (Al G4 (Af 0) Ad (Ba _)) (Ag (Ak Ad)) Aw)
  (Ae (Aj 1 Ek.nd Ad)
  (Ae (Ce PassesOwn.never rfl (Fv rfl J (Aa (Ah Cy (Ah Dc (Mj PySem.F.plainAttrs_int PySem.F.slot_int_bit_length PySem.F.type_int_bit_length Amr (Af 0)) Ad) Ad) Ac)) (Ay 2 Ek.nd) (Ag (Aj 1 Ek.nd (Ah Bo (Af 1) Ad))))
  (Ae (Aj 3 Ek.nd (Ah Cy (Ah Dc (Af 1) (Ah (Pg py (hr.far (by decide)) rfl rfl rfl rfl rfl) (Af 0) (Af 1))) Ad))
  (Ae (Cq PassesOwn.never (Al Nx (Af 3) (Af 1) (Ba _)) (Ae (Aj 1 Ek.nd (Af 3))
  (Ag (Aj 3 Ek.nd (Ah Cy (Ah Dc (Af 1) (Ah (Pg py (hr.far (by decide)) rfl rfl rfl rfl rfl) (Af 0) (Af 1))) Ad)))))
  (Ag (Ak (Af 1)))))))),?_⟩
 done
 by_cases S:n=0
 . rw [if_pos S]
   subst S
   exact q 0 (by decide) (Sz0 (by decide)) (by decide) (by decide)
 rw [if_neg S]
 refine⟨rfl,n,rfl,rfl,?_⟩
 have hB:Builtin.Int.intBits n<=200000:=PySem.intBits_le_iff.mpr sn
 have U:n.natAbs<2^Builtin.Int.intBits n:=PySem.intBits_le_iff.mp (le_refl _)
 generalize Builtin.Int.intBits n=B at*
 done
 refine⟨⟨by decide,by decide⟩,by omega,by omega,?_⟩
 have hj:(((B:Int)+1)/2).toNat=(B+1)/2:=by omega
 rw [hj]
 have pz:∀k:Nat,Sz (k+1) ((2:Int)^k):=fun k=>by
  unfold Sz
  rw [natAbs_pow]
  exact pow_lt_pow_right (by decide) (by omega)
 have pp:∀k:Nat,(0:Int)<2^k:=fun k=>pow_pos (by decide)
 refine Sd (es:=List.range ((B+1)/2)) (inj:=fun i=> .int (0+(i:Nat))) (fun I σ H'=>H'=H/\I.length<=100100/\∃o,σ=[some (.int n),some (.int (2^I.length)),o,none]) ⟨rfl,zero_le _,_,rfl⟩ ?_ ?_ ?_
 . rintro I σ H' _
   exact Hj
 . rintro I e a0 σ H' he ⟨rfl,hl,o,rfl⟩
   have O:=congrArg List.length he
   rw [length_range,length_append,length_cons]at O
   done
   refine⟨(pz I.length).mulOk (by unfold Sz;decide:Sz 2 (2:Int)) (by omega),?_⟩
   rw [length_append]
   refine⟨by simp only [length_cons,length_nil];omega,some (.int (0+(e:Int))),?_⟩
   rw [show I.length+ [e].length=I.length+1 from rfl,pow_succ]
 . rintro σ H' ⟨rfl,hl,o,rfl⟩
   rw [length_range]at*
   have g0:=pp ((B+1)/2)
   have gz:=(pz ((B+1)/2)).mono (show(B+1)/2+1<=100100 by omega)
   have gb:=Agq hn U
   generalize (2:Int)^((B+1)/2)=g1 at*
   done
   refine⟨g0,⟨by decide,by decide⟩,?_⟩
   refine Aa8 (fun σ H2=>H2=H'/\∃(g:Int) (o:Option V),σ=[some (.int n),some (.int g),o,some (.int ((g+n/g)/2))]/\0<g/\n<(g+1)*(g+1)/\Sz 100100 g)
    (fun σ _=>match σ with | [_,some (.int g),_,_]=>g.toNat | _=>0) ⟨rfl,_,_,rfl,g0,gb,gz⟩ ?_ ?_
   . rintro σ H2 ⟨rfl,g,o,rfl,W,Y,sg⟩
     done
     by_cases M:(g+n/g)/2<g
     . rw [if_pos M]
       have pos:0<(g+n/g)/2:=(Abu W (by omega)).resolve_right (fun z=>z M)
       have sz:Sz 100100 ((g+n/g)/2):=sg.of_abs (by omega)
       exact⟨pos,⟨by decide,by decide⟩,⟨_,_,rfl,pos,Aqb W hn,sz⟩,by omega⟩
     . rw [if_neg M]
       exact q g (by omega) (sg.mono (by decide)) (Abt W M) Y
   . intro σ H' Q1 Q2 Z
     simp only [Ag7,Aut]
     rintro⟨v,e1,u,e2,i,j,ei,ej,k,ek,h3⟩
     exact⟨v,e1,u,e2,i,j,ei,ej,k,ek,Z _ _ h3⟩
theorem Alj {n:Nat}:Sz n 0:=Nat.pow_pos (by decide)
theorem Zm {f:Int}{n u:Nat} (I:Sz u f):∀(k:Nat) (p:List Int) (s:Int),(∀x∈p,Sz n x)->Sz k s->∀x∈Gp f s p,Sz (n+k+u*p.length) x
 | _,[],_,_,_,x,z=>by simp [Gp]at z
 | k,w::r,s,h,hs,x,z=>by
   rw [Gp]at z
   rcases mem_cons.mp z with rfl | z
   . exact((h w (by simp)).mul hs).mono (by omega)
   . have:=Zm I (k+u) r (s*f) (fun y J=>h y (by simp [J])) (hs.mul I) x z
     rw [length_cons,mul_succ]
     exact this.mono (by omega)
theorem Amd {n:Nat}{l:List Int} (h:∀x∈l,Sz n x):Sz n (l.headD 0):=by
 cases l with
 | nil=>exact Alj
 | cons g z=>exact h g (by simp)
theorem Ah5 {y:Int}{n u:Nat} (J:Sz u y):∀(p:List Int),(∀x∈p,Sz n x)->∀x∈hs y p,Sz (n+(u+1)*p.length) x
 | [],_,x,I=>by simp [hs]at I
 | a::r,h,x,I=>by
   have M:=Ah5 J r fun z O=>h z (by simp [O])
   have S:=Amd M
   rw [length_cons,mul_succ]
   rw [hs]at I
   rcases mem_cons.mp I with rfl | I
   . exact((h a (by simp)).add (J.mul S)).mono (by omega)
   . exact(M x I).mono (by omega)
theorem Aqa {y:Int}{u:Nat} (M:Sz u y):∀(k n:Nat) (p:List Int),p.length<=12->(∀x∈p,Sz n x)->∀x∈mv y k p,Sz (n+12*(u+1)*k) x
 | 0,n,p,_,h,x,J=>(h x J).mono (by omega)
 | k+1,n,[],_,_,x,J=>by simp [mv]at J
 | k+1,n,a::r,hl,h,x,J=>by
   rw [length_cons]at hl
   have S:(u+1)*r.length<=12*(u+1):=by rw [Nat.mul_comm 12];exact mul_le_mul_left _ (by omega)
   have U:(u+1)*(r.length+1)<=12*(u+1):=by rw [Nat.mul_comm 12];exact mul_le_mul_left _ (by omega)
   have I:=Ah5 M (a::r) h
   rw [hs,length_cons]at I
   have e:12*(u+1)*(k+1)=12*(u+1)*k+12*(u+1):=mul_succ _ _
   rw [mv]at J
   rcases mem_cons.mp J with rfl | J
   . exact(I _ (by simp)).mono (by omega)
   . have:=Aqa M k (n+12*(u+1)) (hs y r) (by rw [Mr];omega) (fun z O=>(I z (by simp [O])).mono (by omega)) x J
     exact this.mono (by omega)
noncomputable def Jc (K:Frag):Sp:=fun vs H Q _=>∃(a:Addr) (ws:List Int) (f:Int) (n u:Nat),vs=[.ref a,.int f]/\SqI K H a ws/\ws.length<=12/\(∀x∈ws,Sz n x)/\Sz u f/\n+u*13<=130000000/\
 ∀z H',Same H H'->SqL K H' z ((Gp f 1 ws).map V.int)->(∀x∈Gp f 1 ws,Sz (n+1+u*12) x)->Q (.ref z) H'
theorem Vs {f:Int}{u:Nat} (z:Sz u f):∀m:Nat,Sz (u*m+1) (f^m)
 | 0=>by rw [pow_zero,Nat.mul_zero];unfold Sz;decide
 | m+1=>by
   rw [pow_succ,mul_succ]
   exact((Vs z m).mul z).mono (by omega)
theorem Afj (F:Df K mg "spread" Vn ["weights","factor"] f fd)    :Cal P w K mg base 33 "spread" ["weights","factor"] (Jc K):=by
 refine F.cal (F.fn.ok Ko (fun vs H Q E h=> ?_) (fun a2 A outer s H vs Q E hr h=> ?_))
 . obtain⟨a,U,f,_,_,rfl,_⟩:=h
   rfl
 obtain⟨a,U,f,n,u,rfl,Y,hl,hw,Z,hn,k⟩:=h
 refine Av ⟨_,(Ae (Aj 2 Ko.nd (Dk Ac))
  (Ae (Aj 3 Ko.nd Ad)
  (Ae (Ce PassesOwn.never rfl (Ac8 (Af 0)) (Ay 4 Ko.nd) (Ae (Dn (Gm plainAttrs_list PySem.F.slot_list_append PySem.F.type_list_append Fi (Af 2) (Aa (Ah Bo (Af 4) (Af 3)) Ac)))
  (Ag (Aj 3 Ko.nd (Ah Bo (Af 3) (Af 1))))))
  (Ag (Ak (Af 2)))))),?_⟩
 done
 refine⟨by decide,fun W a0=> ?_⟩
 have s0:=Same.upd a0 (.lst [])
 have M:H W=none:=a0
 have sw:∀ {x:Int}{m:Nat},x∈U->m<=12->IntMulOk x (f^m):=fun {x m} hx hm=>(hw x hx).mulOk (Vs Z m) (by have:u*m<=u*12:=mul_le_mul_left _ hm;omega)
 rcases Y with Y | Y
 . refine .inl ⟨⟨_,s0.seq Y⟩,?_⟩
   refine Sd (es:=U) (inj:=V.int) (fun z σ H'=>Same H H'/\H' W=some (.lst ((Gp f 1 z).map V.int))/\∃o:Option V,σ=[some (.ref a),some (.int f),some (.ref W),some (.int (f^z.length)),o]) ⟨s0,Ao,none,by simp⟩ (fun z σ H' O=> ?_) (fun z e a1 σ H' he O=> ?_) (fun σ H' O=> ?_)
   obtain⟨S,I,o,rfl⟩:=O
   exact R8 (S.seq Y)
   obtain⟨S,I,o,rfl⟩:=O
   have hm:e∈U:=by rw [he];simp
   have J:z.length<=12:=by have:=congrArg List.length he;simp at this;omega
   done
   refine⟨.inl ⟨rfl,_,SqL.of I⟩,sw hm J,W,_,_,rfl,rfl,I,by rw [length_map,Cd];exact lt_of_le_of_lt J (by decide),?_⟩
   try done
   refine⟨(Vs Z z.length).mulOk Z (by have:u*z.length<=u*12:=mul_le_mul_left _ J;omega),S.put M,?_,some (.int e),?_⟩
   . rw [Ao,Ni,map_append,Int.one_mul]
     rfl
   . rw [length_append,length_singleton,pow_succ]
   obtain⟨S,I,o,rfl⟩:=O
   done
   exact k W _ S (.of I) fun x hx=>(Zm Z 1 U 1 hw (by unfold Sz;decide) x hx).mono (by have:u*U.length<=u*12:=mul_le_mul_left _ hl;omega)
 . refine .inr ⟨⟨_,s0.tup Y⟩,?_⟩
   refine Sd (es:=U) (inj:=V.int) (fun z σ H'=>Same H H'/\H' W=some (.lst ((Gp f 1 z).map V.int))/\∃o:Option V,σ=[some (.ref a),some (.int f),some (.ref W),some (.int (f^z.length)),o]) ⟨s0,Ao,none,by simp⟩ (fun z σ H' O=> ?_) (fun z e a1 σ H' he O=> ?_) (fun σ H' O=> ?_)
   obtain⟨S,I,o,rfl⟩:=O
   exact Vz (S.tup Y)
   obtain⟨S,I,o,rfl⟩:=O
   have hm:e∈U:=by rw [he];simp
   have J:z.length<=12:=by have:=congrArg List.length he;simp at this;omega
   done
   refine⟨.inl ⟨rfl,_,SqL.of I⟩,sw hm J,W,_,_,rfl,rfl,I,by rw [length_map,Cd];exact lt_of_le_of_lt J (by decide),?_⟩
   try done
   refine⟨(Vs Z z.length).mulOk Z (by have:u*z.length<=u*12:=mul_le_mul_left _ J;omega),S.put M,?_,some (.int e),?_⟩
   . rw [Ao,Ni,map_append,Int.one_mul]
     rfl
   . rw [length_append,length_singleton,pow_succ]
   obtain⟨S,I,o,rfl⟩:=O
   done
   exact k W _ S (.of I) fun x hx=>(Zm Z 1 U 1 hw (by unfold Sz;decide) x hx).mono (by have:u*U.length<=u*12:=mul_le_mul_left _ hl;omega)
theorem P0 {H:Hp}{Q:VK}{E:XK}{a:Addr}{I:List Int}{f:Int}{n u:Nat} (J:SqI K H a I) (M:I.length<=12) (O:∀x∈I,Sz n x) (S:Sz u f) (U:n+u*13<=130000000)
 (h:∀z H',Same H H'->SqL K H' z ((Gp f 1 I).map V.int)->(∀x∈Gp f 1 I,Sz (n+1+u*12) x)->Q (.ref z) H'):Jc K [.ref a,.int f] H Q E:=⟨a,I,f,n,u,rfl,J,M,O,S,U,h⟩
theorem Zz {U R:List Int}{a:Int}:atI ((U++a::R).map V.int) (U.length:Nat)=some (.int a):=by
 refine Hq ?_
 rw [getElem?_map,getElem?_append_right (le_refl _),sub_self]
 rfl
theorem Alp {U R:List Int}{a b:Int}:atI ((U++a::b::R).map V.int) ((U.length:Nat)+1:Int)=some (.int b):=by
 have:=Zz (U:=U++ [a]) (R:=R) (a:=b)
 rw [append_assoc,length_append,length_singleton]at this
 exact this
theorem Aei {U R:List Int}{a:Int}:ixN ((U++a::R).map V.int).length ((U.length:Nat):Int)=some U.length:=by
 unfold ixN
 rw [if_pos (by omega),if_pos (by rw [length_map,length_append,length_cons];omega),toNat_natCast]
theorem Agl {U R:List Int}{a b:Int}:((U++a::R).map V.int).set U.length (.int b)=(U++b::R).map V.int:=by
 rw [map_append,map_append,List.set_append_right _ _ (by rw [length_map];exact le_refl _),length_map,sub_self]
 rfl
noncomputable def Py (K:Frag):Sp:=fun vs H Q _=>∃(a:Addr) (ws:List Int) (y:Int) (n u:Nat),vs=[.ref a,.int y]/\SqL K H a (ws.map V.int)/\ws.length<=12/\(∀x∈ws,Sz n x)/\Sz u y/\n+160*(u+1)<=130000000/\
 ∀z H',Same H H'->SqL K H' z ((mv y (ws.length-1) ws).map V.int)->Q (.ref z) H'
theorem Aik (F:Df K mg "moved" Zc ["weights","by"] f fd) (z_list:mg "list"=none) (I:mg "range"=none) (z_len:mg "len"=none)   :Cal P w K mg base 33 "moved" ["weights","by"] (Py K):=by
 refine F.cal (F.fn.ok Pu (fun vs H Q E h=> ?_) (fun a5 A outer s H vs Q E hr h=> ?_))
 . obtain⟨a,J,y,_,_,rfl,_⟩:=h
   rfl
 obtain⟨a,J,y,n,u,rfl,ha,hl,hw,hy,hn,k⟩:=h
 refine Av ⟨_,(Ae (Aj 2 Pu.nd (Dj Es rfl z_list boot_list (Aa (Af 0) Ac)))
  (Ae (Ce PassesOwn.never rfl (Fv rfl I (Aa (Ah Dw (Bk Bc rfl z_len PySem.boot_len (Aa (Af 2) Ac)) Ad) Ac)) (Ay 3 Pu.nd) (Ag (Ce PassesOwn.never rfl (Np rfl I (Aa (Ah Dw (Bk Bc rfl z_len PySem.boot_len (Aa (Af 2) Ac)) Ad) (Aa (Ah Dw (Af 3) Ad) (Aa (Br Dd Ad) Ac)))) (Ay 4 Pu.nd) (Ag (Dp (Ah Dc (Aq Ea (Af 2) (Af 4) (fun _ _=>rfl)) (Ah Bo (Af 1) (Aq Ea (Af 2) (Ah Dc (Af 4) Ad) (fun _ _=>rfl)))) (Fy (Af 2) (Af 4) set_list))))))
  (Ag (Ak (Af 2))))),?_⟩
 done
 refine⟨a,_,rfl,.inl ha,fun p0 a2=> ?_⟩
 have s0:=Same.upd a2 (.lst (J.map V.int))
 try done
 refine⟨p0,_,rfl,.inl (.of Ao),?_⟩
 rw [length_map]
 refine⟨by omega,by omega,?_⟩
 refine Ama (J.length-1) (fun i=> .int (0+(i:Nat))) (fun i σ H'=>Same H H'/\∃(U T:List Int) (o1 o2:Option V),σ=[some (.ref a),some (.int y),some (.ref p0),o1,o2]/\H' p0=some (.lst ((U++T).map V.int))/\U.length=i/\U.length+T.length=J.length/\U++mv y (J.length-1-i) T=mv y (J.length-1) J/\(∀x∈U++T,Sz (n+12*(u+1)*i) x)) ⟨s0,[],J,_,_,rfl,Ao,rfl,by simp,by simp,fun x O=>(hw x O).mono (by omega)⟩ ?_ ?_ ?_
 . intro i σ H' hp
   have e:((J.length:Int)-1).toNat=J.length-1:=by omega
   rw [e]
   exact Hj
 . rintro i σ H' hi ⟨s1,U,T,o1,o2,rfl,hp,hU,S,a1,hz⟩
   repeat (first | done | simp only [zero_add])
   refine⟨p0,_,rfl,.inl (.of hp),?_⟩
   try done
   have eN:(((U++T).map V.int).length:Int)=(J.length:Int):=by rw [length_map,length_append];omega
   rw [eN]
   refine⟨by omega,?_⟩
   have h6:(u+1)*T.length<=12*(u+1):=by rw [Nat.mul_comm 12];exact mul_le_mul_left _ (by omega)
   have e6:12*(u+1)*(i+1)=12*(u+1)*i+12*(u+1):=mul_succ _ _
   have e7:12*(u+1)*i<=12*(u+1)*12:=mul_le_mul_left _ (by omega)
   have zT:∀x∈T,Sz (n+12*(u+1)*i) x:=fun x O=>hz x (mem_append_right _ O)
   refine Ama (T.length-1) (fun j=> .int ((J.length:Int)-2-(j:Nat))) (fun j σ H2=>Same H H2/\∃(Z R:List Int) (o2:Option V),σ=[some (.ref a),some (.int y),some (.ref p0),some (.int (i:Nat)),o2]/\T=Z++R/\Z.length=T.length-1-j/\H2 p0=some (.lst ((U++(Z++hs y R)).map V.int))) ?_ ?_ ?_ ?_
   . have W:T≠ []:=fun z=>by rw [z]at S;simp at S;omega
     obtain⟨Y,c,rfl⟩:∃Y c,T=Y++ [c]:=⟨T.dropLast,T.getLast W,(dropLast_concat_getLast W).symm⟩
     refine⟨s1,Y,[c],_,rfl,rfl,by simp,?_⟩
     rw [hp]
     simp [hs]
   . intro j σ H2 h2
     have e:((J.length:Int)-2-((i:Int)-1)).toNat=T.length-1:=by omega
     rw [e]
     exact R7
   . rintro j σ H2 hj ⟨s2,Z,R,o2,rfl,hT,a0,M⟩
     have W:Z≠ []:=fun z=>by rw [z]at a0;simp at a0;omega
     obtain⟨T1,c,rfl⟩:∃Y c,Z=Y++ [c]:=⟨Z.dropLast,Z.getLast W,(dropLast_concat_getLast W).symm⟩
     have hR:R≠ []:=fun z=>by
      have:=congrArg List.length hT
      rw [z,append_nil]at this
      omega
     have a3:=congrArg List.length hT
     rw [length_append]at a3
     rw [length_append,length_singleton]at a0 a3
     obtain⟨g,gs,eg⟩:∃g gs,hs y R=g::gs:=by
      cases e:hs y R with
      | nil=>
        have:=Mr y R
        rw [e]at this
        exact absurd (eq_nil_of_length_eq_zero this.symm) hR
      | cons g gs=>exact⟨g,gs,rfl⟩
     have a4:U++((T1++ [c])++hs y R)=(U++T1)++c::g::gs:=by rw [eg];simp
     rw [a4]at M
     have pl:((J.length:Int)-2-(j:Nat))=(((U++T1).length:Nat):Int):=by rw [length_append];omega
     have zg:Sz (n+12*(u+1)*i+12*(u+1)) g:=(Ah5 hy R (fun x O=>zT x (by rw [hT];exact mem_append_right _ O)) g (by rw [eg];simp)).mono (by have:(u+1)*R.length<=(u+1)*T.length:=mul_le_mul_left _ (by omega);omega)
     repeat (first | done | simp only [pl])
     refine Lf (.of M) Zz ?_
     try done
     refine Lf (.of M) Alp ?_
     try done
     refine⟨hy.mulOk zg (by omega),p0,_,_,(U++T1).length,rfl,rfl,M,?_,s2.put a2,T1,c::R,_,rfl,by rw [hT];simp,by omega,?_⟩
     . exact Aei
     . rw [Ao,hs,eg,List.headD_cons,<-append_assoc,Agl]
   . rintro σ H2 ⟨s2,Z,R,o2,rfl,hT,a0,M⟩
     have e0:Z=[]:=eq_nil_of_length_eq_zero (by omega)
     subst e0
     rw [nil_append]at hT M
     subst hT
     cases T with
     | nil=>simp at S;omega
     | cons c r=>
       rw [length_cons]at S h6
       have hk:J.length-1-i=(J.length-1-(i+1))+1:=by omega
       refine⟨s2,U++ [c+y*(hs y r).headD 0],hs y r,_,_,rfl,?_,by rw [length_append,hU];rfl,by rw [length_append,length_singleton,Mr];omega,?_,?_⟩
       . rw [M,hs,append_assoc]
         rfl
       . rw [<-a1,hk,mv,append_assoc]
         rfl
       . intro x O
         rw [append_assoc]at O
         rcases mem_append.mp O with O | O
         . exact(hz x (mem_append_left _ O)).mono (by omega)
         . have:=Ah5 hy (c::r) zT x (by rw [hs];exact O)
           rw [length_cons]at this
           exact this.mono (by omega)
 . rintro σ H' ⟨s1,U,T,o1,o2,rfl,hp,hU,S,a1,hz⟩
   done
   refine k p0 _ s1 (.of ?_)
   rw [hp,<-a1,sub_self]
   rfl
theorem Ag1 {H:Hp}{Q:VK}{E:XK}{a:Addr}{I:List Int}{y:Int}{n u:Nat} (S:SqL K H a (I.map V.int)) (J:I.length<=12) (M:∀x∈I,Sz n x) (O:Sz u y) (U:n+160*(u+1)<=130000000)
 (h:∀z H',Same H H'->SqL K H' z ((mv y (I.length-1) I).map V.int)->(∀x∈mv y (I.length-1) I,Sz (n+150*(u+1)) x)->Q (.ref z) H'):Py K [.ref a,.int y] H Q E:=
 ⟨a,I,y,n,u,rfl,S,J,M,O,U,fun z H' s i=>h z H' s i fun x W=>(Aqa O _ n I J M x W).mono (by have:12*(u+1)*(I.length-1)<=12*(u+1)*12:=mul_le_mul_left _ (by omega);omega)⟩
theorem Yn {p:List Int}{n:Nat} (h:∀x∈p,Sz n x):∀x∈p.reverse,Sz n x:=fun x z=>h x (mem_reverse.mp z)
noncomputable def Jb (K:Frag):Sp:=fun vs H Q _=>∃(a:Addr) (p:List Int) (t b:Int) (n u:Nat),vs=[.ref a,.int t,.int b]/\SqT K H a (p.map V.int)/\p.length<=12/\(∀x∈p,Sz n x)/\Sz u t/\Sz u b/\n+1+u*13+160*(u+1)<=130000000/\
 ∀z H',Same H H'->SqL K H' z ((seen p t b).map V.int)->(∀x∈seen p t b,Sz (n+1+u*12+150*(u+1)) x)->Q (.ref z) H'
theorem Ab5 (F:Df K mg "seen_at" Ri ["p","top","bottom"] f fd)   (I:Cal P w K mg base 33 "spread" ["weights","factor"] (Jc K)) (J:Cal P w K mg base 33 "moved" ["weights","by"] (Py K)):Cal P w K mg base 34 "seen_at" ["p","top","bottom"] (Jb K):=by
 refine F.cal (F.fn.ok Tw (fun vs H Q E h=> ?_) (fun a3 A outer s H vs Q E hr h=> ?_))
 . obtain⟨a,p,t,b,_,_,rfl,_⟩:=h
   rfl
 obtain⟨a,p,t,b,n,u,rfl,ha,hl,hw,ht,hb,hn,k⟩:=h
 refine Av ⟨_,(Ae (Aj 3 Tw.nd (Ai I hr (Aa (Ac7 (Af 0) (Br Dd Ad)) (Aa (Af 2) Ac))))
  (Ag (Ak (Ai J hr (Aa (Nm (Af 3) (Br Dd Ad)) (Aa (Af 1) Ac)))))),?_⟩
 done
 refine⟨a,_,rfl,ha,?_⟩
 rw [<-map_reverse]
 (intro q1 M;generalize O:upd _ q1 _=a4;obtain⟨Z,a0⟩:=nw M O;clear O M)
 refine P0 (.inr (SqT.of a0)) (by rw [length_reverse];exact hl) (Yn hw) hb (by omega) fun z H2 s2 hz wz=> ?_
 try done
 refine⟨z,_,rfl,hz,?_⟩
 rw [<-map_reverse]
 (intro q2 S;generalize U:upd _ q2 _=a5;obtain⟨a1,a2⟩:=nw S U;clear U S)
 refine Ag1 (.of a2) (by rw [length_reverse,Cd,length_reverse];exact hl) (Yn wz) ht (by omega) fun z3 H3 s3 W Y=> ?_
 have e:mv t ((Gp b 1 p.reverse).reverse.length-1) (Gp b 1 p.reverse).reverse=seen p t b:=by
  rw [seen,length_reverse,Cd,length_reverse]
 rw [e]at W Y
 exact k z3 H3 (((Z.trans s2).trans a1).trans s3) W Y
theorem Ag4 {H H1:Hp}{Q:VK}{E:XK}{a:Addr}{p:List Int}{t b:Int}{n u:Nat} (I:SqT K H1 a (p.map V.int)) (J:Same H1 H) (M:p.length<=12) (O:∀x∈p,Sz n x) (S:Sz u t) (U:Sz u b) (W:n+1+u*13+160*(u+1)<=130000000)
 (h:∀z H',Same H H'->SqL K H' z ((seen p t b).map V.int)->(∀x∈seen p t b,Sz (n+1+u*12+150*(u+1)) x)->Q (.ref z) H'):Jb K [.ref a,.int t,.int b] H Q E:=⟨a,p,t,b,n,u,rfl,J.tup I,M,O,S,U,W,h⟩
noncomputable def Hi (K:Frag):Sp:=fun vs H Q _=>∃(a:Addr) (p:List Int),vs=[.ref a]/\SqT K H a (p.map V.int)/\Q (.int (chg p:Nat)) H
theorem An5 (a w:Int):(a*w<0)=((w<0/\0<a)\/(0<w/\a<0)):=by
 refine propext ⟨fun h=> ?_,fun h=> ?_⟩
 . rcases lt_trichotomy w 0 with q | q | q
   . rcases lt_trichotomy a 0 with r | r | r
     . exact absurd (Int.mul_pos_of_neg_of_neg r q) (by omega)
     . rw [r,zero_mul]at h;omega
     . exact .inl ⟨q,r⟩
   . rw [q,mul_zero]at h;omega
   . rcases lt_trichotomy a 0 with r | r | r
     . exact .inr ⟨q,r⟩
     . rw [r,zero_mul]at h;omega
     . exact absurd (mul_pos r q) (by omega)
 . rcases h with⟨q,r⟩ | ⟨q,r⟩
   . exact Int.mul_neg_of_pos_of_neg r q
   . exact Int.mul_neg_of_neg_of_pos r q
theorem Abw (F:Df K mg "changes" Q8 ["p"] f fd)    :Cal P w K mg base 33 "changes" ["p"] (Hi K):=by
 refine F.cal (F.fn.ok Hf (fun U H Q E h=> ?_) (fun W A outer s H U Q E Y h=> ?_))
 . obtain⟨a,p,rfl,_⟩:=h
   rfl
 obtain⟨a,p,rfl,I,k⟩:=h
 refine Av ⟨_,(Ae (Aj 1 Hf.nd Ad)
  (Ae (Aj 2 Hf.nd Ad)
  (Ae (Ce PassesOwn.never rfl (Ho (Af 0)) (Ay 3 Hf.nd) (Ae (Az (Ec (Ep (Ec (Ip (Al Nx (Af 3) Ad (Ba _)) (G9 (Al Kc (Af 2) Ad (Ba _))))) (Fg (Ec (Ip (Al Kc (Af 3) Ad (Ba _)) (G9 (Al Nx (Af 2) Ad (Ba _)))))))) (Ag (Aj 1 Hf.nd (Ah Dc (Af 1) Ad))) Aw)
  (Ag (Az (Al S6 (Af 3) Ad (Ba _)) (Ag (Aj 2 Hf.nd (Af 3))) Aw))))
  (Ag (Ak (Af 1)))))),?_⟩
 done
 refine⟨⟨_,I⟩,Sd (es:=p) (inj:=V.int) (fun z σ H'=>H'=H/\∃o:Option V,σ=[some (.ref a),some (.int (chg z:Nat)),some (.int (lnz z)),o]) ⟨rfl,_,rfl⟩ ?_ ?_ ?_⟩
 . rintro z σ H' ⟨rfl,_⟩
   exact Vz I
 . rintro z e J σ H' Z ⟨rfl,o,rfl⟩
   done
   rw [Aho,Aib]
   simp only [An5]
   by_cases h1:e<0<;>by_cases h2:0<lnz z<;>by_cases M:0<e<;>by_cases O:lnz z<0<;>by_cases S:e=0<;>first | omega | (simp [h1,h2,M,O,S];done) | (simp [h1,h2,M,O,S];omega)
 . rintro σ H' ⟨rfl,o,rfl⟩
   done
   exact k
noncomputable def Xb (_:Frag):Sp:=fun vs H Q _=>∃(a b:Int) (n:Nat),vs=[.int a,.int b]/\Sz n a/\Sz n b/\n<=60000000/\Q (.int (V1 a b)) H
theorem Ae3 (F:Df K mg "common" Vc ["one","other"] f fd) (I:mg "abs"=none) (py:Pyl P base) (z:Cal P w K mg base 33 "divisor" ["one","other"] (Iz K)):Cal P w K mg base 34 "common" ["one","other"] (Xb K):=by
 refine F.cal (F.fn.ok Agc (fun U H Q E h=> ?_) (fun W A outer s H U Q E M h=> ?_))
 . obtain⟨a,b,_,rfl,_⟩:=h
   rfl
 obtain⟨a,b,n,rfl,O,Y,hn,q⟩:=h
 refine Av ⟨_,(Ae (Az (Ec (Ep (Al G4 (Af 0) Ad (Ba _)) (Fg (Al G4 (Af 1) Ad (Ba _))))) (Ag (Ak Ad)) Aw)
  (Ag (Ak (Ah Bo (Ah (Pg py (M.far (by decide)) rfl rfl rfl rfl rfl) (Bk Je rfl I boot_abs (Aa (Af 0) Ac)) (Ai z M (Aa (Af 0) (Aa (Af 1) Ac)))) (Bk Je rfl I boot_abs (Aa (Af 1) Ac)))))),?_⟩
 repeat (first | done | simp only [abs_eq])
 by_cases J:a=0
 . subst J
   rw [if_pos rfl]
   exact(by simpa [V1]using q)
 by_cases S:b=0
 . subst S
   rw [if_neg J,if_pos rfl]
   exact(by simpa [V1]using q)
 rw [if_neg J,if_neg S]
 refine⟨a,b,rfl,?_⟩
 repeat (first | done | simp only [abs_eq])
 have g0:0<Int.gcd a b:=Int.gcd_pos_of_ne_zero_left b J
 have gz:Sz n ((Int.gcd a b:Nat):Int):=O.of_abs (by
  have:=le_of_dvd (by omega) (Int.gcd_dvd_natAbs_left a b)
  omega)
 have Z:Sz n ((a.natAbs:Int)/(Int.gcd a b:Int)):=O.of_abs (by
  rw [<-natCast_ediv,natAbs_natCast]
  exact div_le_self _ _)
 have bz:Sz n (b.natAbs:Int):=Y.of_abs (by rw [natAbs_natCast];exact le_refl _)
 refine⟨by omega,Z.mulOk bz (by omega),?_⟩
 have e:(a.natAbs:Int)/(Int.gcd a b:Int)*(b.natAbs:Int)=V1 a b:=by
  rw [<-natCast_ediv,<-natCast_mul]
  exact congrArg Int.ofNat (Nat.div_mul_right_comm (Int.gcd_dvd_natAbs_left a b) b.natAbs)
 rw [e]
 exact q
theorem lcm_pos {a b:Int} (z:0<a) (I:0<b):0<V1 a b:=by
 unfold V1
 have:=Nat.lcm_pos (show 0<a.natAbs by omega) (show 0<b.natAbs by omega)
 omega
theorem Ap1 {a b:Int}{m n:Nat} (z:Sz m a) (I:Sz n b) (J:0<a) (M:0<b):Sz (m+n) (V1 a b):=(z.mul I).of_abs (by
 unfold V1
 rw [natAbs_natCast,natAbs_mul]
 exact le_of_dvd (Nat.mul_pos (by omega) (by omega)) (Nat.lcm_dvd_mul _ _))
theorem Apa {a b:Int}{n:Nat} (J:Sz n a) (z:0<=a) (I:0<b):Sz n (a.fdiv b):=J.of_abs (by
 rw [fdiv_eq_ediv_of_nonneg _ (le_of_lt I)]
 have M:=ediv_nonneg z (le_of_lt I)
 have h1:=Int.ediv_le_self b z
 omega)
noncomputable def pq (q:Rat):Int × Int:=(q.num,(q.den:Int))
noncomputable def Row (K:Frag) (H:Hp) (z:V) (ws:List Int):Prop:=∃a,z= .ref a/\SqT K H a (ws.map V.int)
noncomputable def Hh (K:Frag):Sp:=fun vs H Q _=>∃(x u v:V) (p:List Int) (lo hi:Rat) (n m:Nat),vs=[x,u,v]/\Po K H x p 12 n/\IsQ K H u lo/\IsQ K H v hi/\Szq m lo/\Szq m hi/\n+600*(m+1)<=120000000/\∀z H' ws,Same H H'->Row K H' z ws->chg ws=chM p (pq lo) (pq hi)->Q z H'
theorem Abv (F:Df K mg "between" Q7 ["p","lo","hi"] f fd)  (py:Pyl P base) (J:Cal P w K mg base 34 "common" ["one","other"] (Xb K)) (M:Cal P w K mg base 33 "spread" ["weights","factor"] (Jc K)) (c_poly:Cal P w K mg base 33 "poly" ["weights"] (Ij K)) (I:Cal P w K mg base 34 "seen_at" ["p","top","bottom"] (Jb K)) (O:Cal P w K mg base 33 "moved" ["weights","by"] (Py K)):Cal P w K mg base 35 "between" ["p","lo","hi"] (Hh K):=by
 refine F.cal (F.fn.ok Iv (fun vs H Q E h=> ?_) (fun a6 A outer s H vs Q E S h=> ?_))
 . obtain⟨x,u,v,_,_,_,_,_,rfl,_⟩:=h
   rfl
 obtain⟨x,u,v,p,lo,hi,n,m,rfl,hx,⟨a1,rfl,h1⟩,⟨a2,rfl,h2⟩,z1,z2,hn,k⟩:=h
 obtain⟨⟨a,rfl,ha⟩,tp,lp,zp⟩:=id hx
 refine Av ⟨_,(Ae (Aj 3 Iv.nd (Ai J S (Aa (Aq Bd (Af 1) Ad (fun _ _=>rfl)) (Aa (Aq Bd (Af 2) Ad (fun _ _=>rfl)) Ac))))
  (Ae (Aj 4 Iv.nd (Ah Bo (Aq Bd (Af 1) Ad (fun _ _=>rfl)) (Ah (G5 py (S.far (by decide)) rfl rfl rfl rfl rfl) (Af 3) (Aq Bd (Af 1) Ad (fun _ _=>rfl)))))
  (Ae (Aj 5 Iv.nd (Ah Bo (Aq Bd (Af 2) Ad (fun _ _=>rfl)) (Ah (G5 py (S.far (by decide)) rfl rfl rfl rfl rfl) (Af 3) (Aq Bd (Af 2) Ad (fun _ _=>rfl)))))
  (Ae (Aj 6 Iv.nd (Ai M S (Aa (Ai I S (Aa (Af 0) (Aa (Af 4) (Aa (Af 3) Ac)))) (Aa (Ah Dw (Af 5) (Af 4)) Ac))))
  (Ag (Ak (Ai c_poly S (Aa (Nm (Ai O S (Aa (Nm (Af 6) (Br Dd Ad)) (Aa Ad Ac))) (Br Dd Ad)) Ac)))))))),?_⟩
 done
 refine Bv h1 (at1 _ _ _) ?_
 try done
 refine Bv h2 (at1 _ _ _) ?_
 try done
 have d1:=Ahs lo
 have d2:=Ahs hi
 refine⟨_,_,m,rfl,z1.2,z2.2,by omega,?_⟩
 have pB:=lcm_pos d1 d2
 have zB:Sz (2*m) (V1 (lo.den:Int) (hi.den:Int)):=(Ap1 z1.2 z2.2 d1 d2).mono (by omega)
 have ek:∀ws:List Int,chg ws=chg (Dr p (fst lo.num (lo.den:Int) (V1 (lo.den:Int) (hi.den:Int))) (fst hi.num (hi.den:Int) (V1 (lo.den:Int) (hi.den:Int))) (V1 (lo.den:Int) (hi.den:Int)))->chg ws=chM p (pq lo) (pq hi):=fun ws h=>h
 generalize V1 (lo.den:Int) (hi.den:Int)=B at*
 have y1:=Apa zB (le_of_lt pB) d1
 have y2:=Apa zB (le_of_lt pB) d2
 have zf:Sz (3*m) (fst lo.num (lo.den:Int) B):=(z1.1.mul y1).mono (by omega)
 have zl:Sz (3*m) (fst hi.num (hi.den:Int) B):=(z2.1.mul y2).mono (by omega)
 try done
 refine Bv h1 (at0 _ _) (Bv h1 (at1 _ _ _) ?_)
 try done
 refine⟨by omega,z1.1.mulOk y1 (by omega),Bv h2 (at0 _ _) (Bv h2 (at1 _ _ _) ?_)⟩
 try done
 refine⟨by omega,z2.1.mulOk y2 (by omega),?_⟩
 refine Ag4 ha (Same.refl _) lp (hx.mem) (show Sz (3*m) (fst lo.num (lo.den:Int) B)from zf) (zB.mono (by omega)) (by omega) fun z3 H1 s1 g1 w1=> ?_
 try done
 refine P0 (.inl g1) (by rw [El];exact lp) w1 (show Sz (3*m+1) (fst hi.num (hi.den:Int) B-fst lo.num (lo.den:Int) B)from(zl.sub zf).mono (by omega)) (by omega) fun z4 H2 s2 g2 w2=> ?_
 try done
 refine⟨z4,_,rfl,g2,?_⟩
 rw [<-map_reverse]
 (intro q1 U;generalize W:upd _ q1 _=a7;obtain⟨a0,a3⟩:=nw U W;clear W U)
 refine Ag1 (.of a3) (by rw [length_reverse,Cd,El];exact lp) (Yn w2) (show Sz 1 (1:Int)by unfold Sz;decide) (by omega) fun z5 H3 s3 g3 w3=> ?_
 try done
 refine⟨z5,_,rfl,g3,?_⟩
 rw [<-map_reverse]
 (intro q2 Y;generalize Z:upd _ q2 _=a8;obtain⟨a4,a5⟩:=nw Y Z;clear Z Y)
 refine⟨q2,_,rfl,.inl (.of a5),by rw [length_reverse,Wr,length_reverse,Cd,El];omega,fun z H4 s4 g4=> ?_⟩
 refine k _ _ _ ((((s1.trans s2).trans a0).trans s3).trans (a4.trans s4)) ⟨z,rfl,g4⟩ (ek _ ?_)
 rw [Ui,length_reverse,Cd,El]
 rfl
theorem Aji {H H1:Hp}{Q:VK}{E:XK}{x u v:V}{p:List Int}{lo hi:Rat}{n m:Nat} (J:Po K H1 x p 12 n) (M:IsQ K H u lo) (hv:IsQ K H v hi) (O:Same H1 H) (S:Szq m lo) (U:Szq m hi) (W:n+600*(m+1)<=120000000) (h:∀z H' I,Same H H'->Row K H' z I->chg I=chM p (pq lo) (pq hi)->Q z H'):Hh K [x,u,v] H Q E:=⟨x,u,v,p,lo,hi,n,m,rfl,J.mono O,M,hv,S,U,W,h⟩
theorem Acr {H:Hp}{Q:VK}{E:XK}{z:V}{I:List Int} (h:Row K H z I) (q:Q (.int (chg I:Nat)) H):Hi K [z] H Q E:=by
 obtain⟨a,rfl,J⟩:=h
 exact⟨a,I,rfl,J,q⟩
theorem Po.weak {H:Hp}{v:V}{p:List Int}{l n L N:Nat} (h:Po K H v p l n) (h1:l<=L) (h2:n<=N):Po K H v p L N:=⟨h.1,h.2.1,le_trans h.2.2.1 h1,fun i=>(h.2.2.2 i).mono h2⟩
@[irreducible] noncomputable def NB (l β:Nat):Nat:=22*(tau l β+β+3)+20
structure Par (K:Frag) (H:Hp) (x:V) (p:List Int) (l β F:Nat):Prop where
 pa:Pa p l β F
 po:Po K H x p l β
 l12:l<=12
 few:1900*NB l β+100000<=120000000
theorem Par.mono {H H':Hp}{x:V}{p:List Int}{l z F:Nat} (h:Par K H x p l z F) (s:Same H H'):Par K H' x p l z F:=⟨h.pa,h.po.mono s,h.l12,h.few⟩
theorem Par.p12 {H:Hp}{x:V}{p:List Int}{l z F:Nat} (h:Par K H x p l z F):Po K H x p 12 z:=h.po.weak h.l12 (le_refl _)
theorem Qc (l z:Nat):z+30<=NB l z/\22*(tau l z+z+3)+20=NB l z:=by
 unfold NB
 omega
theorem Ov.szq {q:Rat}{t:Int}{D F n z:Nat} (h:Ov q t D) (J:0<D) (I:D<2^n) (O:t.natAbs<=F*D) (M:F<2^(z+2)):Szq (n+z+2) q:=by
 have tl:t.natAbs<2^(n+z+2):=by
  have h1:F*D<=2^(z+2)*D:=mul_le_mul_right _ (Nat.le_of_lt M)
  have h2:2^(z+2)*D<2^(z+2)*2^n:=Nat.mul_lt_mul_of_pos_left I (two_pow_pos _)
  rw [<-pow_add]at h2
  rw [show n+z+2=z+2+n by omega]
  omega
 obtain⟨a,b⟩:=h.sz J I tl
 refine⟨a,?_⟩
 show((q.den:Nat):Int).natAbs<_
 rw [natAbs_natCast]
 exact lt_of_lt_of_le b (pow_le_pow_right (by decide) (by omega))
structure Wt (K:Frag) (H:Hp) (p:List Int) (l β F:Nat) (v:V) (lo hi:Rat) (many ν κ:Nat):Prop where
 st:∃f W D,Stc p l β F lo hi many ν κ f W D
 at':∃(a:Addr) (u w:V),v= .ref a/\SqT K H a [u,w,.int (many:Nat),.int (ν:Nat)]/\IsQ K H u lo/\IsQ K H w hi
theorem Wt.mono {H H':Hp}{p:List Int}{l z F:Nat}{v:V}{lo hi:Rat}{many I κ:Nat} (h:Wt K H p l z F v lo hi many I κ) (s:Same H H'):Wt K H' p l z F v lo hi many I κ:=by
 obtain⟨a,u,w,e,t,J,M⟩:=h.at'
 exact⟨h.st,a,u,w,e,s.tup t,J.mono s,M.mono s⟩
theorem Stc.szq {p:List Int}{l z F:Nat}{lo hi:Rat}{many O κ:Nat}{f:Int}{W D:Nat} (I:Pa p l z F) (h:Stc p l z F lo hi many O κ f W D):Szq (NB l z+z) lo/\Szq (NB l z+z) hi:=by
 have nb:=Qc l z
 have J:=h.ol.szq h.D0 h.sz h.fl I.hF
 have M:=h.oh.szq h.D0 h.sz h.fh I.hF
 refine⟨⟨J.1.mono (by omega),J.2.mono (by omega)⟩,⟨M.1.mono (by omega),M.2.mono (by omega)⟩⟩
theorem Stc.chM {p:List Int}{l z F:Nat}{lo hi:Rat}{many I κ:Nat}{f:Int}{W D:Nat} (J:Pa p l z F) (h:Stc p l z F lo hi many I κ f W D):Z.chM p (pq lo) (pq hi)=many:=by
 rw [h.mn]
 exact Aj3 J.ne h.D0 h.ol h.oh
noncomputable def Jt (K:Frag):Sp:=fun vs H Q _=>∃(x u v:V) (p:List Int) (lo hi:Rat) (c:Int) (l β F m:Nat),vs=[x,u,v,.int c]/\Par K H x p l β F/\IsQ K H u lo/\IsQ K H v hi/\Szq m lo/\Szq m hi/\m<=3*NB l β/\∀z H',Same H H'->SqT K H' z [u,v,.int (chM p (pq lo) (pq hi):Nat),.int c]->Q (.ref z) H'
theorem Yv (F:Df K mg "measured" N8 ["p","lo","hi","narrowing"] f fd)   (I:Cal P w K mg base 33 "changes" ["p"] (Hi K)) (J:Cal P w K mg base 35 "between" ["p","lo","hi"] (Hh K)):Cal P w K mg base 36 "measured" ["p","lo","hi","narrowing"] (Jt K):=by
 refine F.cal (F.fn.ok Zi (fun S H Q E h=> ?_) (fun U A outer s H S Q E M h=> ?_))
 . obtain⟨x,u,v,_,_,_,c,_,_,_,_,rfl,_⟩:=h
   rfl
 obtain⟨x,u,v,p,lo,hi,c,l,W,Fr,m,rfl,O,Y,hv,Z,zv,hm,k⟩:=h
 refine Av ⟨_,(Ag (Ak (Bj (Aa (Af 1) (Aa (Af 2) (Aa (Ai I M (Aa (Ai J M (Aa (Af 0) (Aa (Af 1) (Aa (Af 2) Ac)))) Ac)) (Aa (Af 3) Ac))))))),?_⟩
 done
 have nb:=Qc l W
 have fw:=O.few
 refine Aji O.p12 Y hv (Same.refl _) Z zv (by omega) fun z H1 ws s1 hw e=> ?_
 try done
 refine Acr hw ?_
 try done
 refine⟨by decide,fun z hz=> ?_⟩
 rw [e]
 exact k _ _ (s1.trans (Same.upd hz _)) (.of Ao)
noncomputable def Gy (K:Frag):Sp:=fun vs H Q _=>∃(x:V) (p:List Int) (l n:Nat),vs=[x]/\Po K H x p l n/\p≠ []/\l<=30/\n<=1000000/\∀(F:Nat) H',Same H H'->2<=F->F<2^(n+2)->(∀i,(co p i).natAbs<=(co p (p.length-1)).natAbs*(F-1))->Q (.int (F:Nat)) H'
theorem J9 (F:Df K mg "farther_than_roots" Ed ["p"] f fd) (I:mg "max"=none) (z:mg "abs"=none) (py:Pyl P base)  :Cal P w K mg base 33 "farther_than_roots" ["p"] (Gy K):=by
 refine F.cal (F.fn.ok Kl (fun Z H Q E h=> ?_) (fun a0 A outer s H Z Q E hr h=> ?_))
 . obtain⟨x,_,_,_,rfl,_⟩:=h
   rfl
 obtain⟨x,p,l,n,rfl,Y,np,hl,hn,k⟩:=h
 obtain⟨⟨a,rfl,J⟩,tp,lp,zp⟩:=id Y
 refine Av ⟨_,(Ag (Ak (Ah Dc (Ah (Pg py (hr.far (by decide)) rfl rfl rfl rfl rfl) (Bk (Adg rfl) rfl I boot_max (Aa (Ft (ts:=["weight"]) (fs:=[]) rfl (Dh.of (sc:=Ar Ed) (N:=["p"]) rfl rfl (by decide+kernel)) (Ho (Af 0)) (fun _ _ _=>(Ay 0 (show Nodup (["weight"]:List Str)by decide+kernel))) (fun _ _ _=>En) (fun _ _ _=>(Bk Je rfl z boot_abs (Aa (Af 0) Ac)))) Ac)) (Bk Je rfl z boot_abs (Aa (Aq Bd (Af 0) (Br Dd Ad) (fun _ _=>rfl)) Ac))) Ad))),?_⟩
 done
 have ne:p.map (fun x:Int=>(x.natAbs:Int))≠ []:=by simpa using np
 refine⟨⟨_,J⟩,fun p1 O=>Jf (es:=p) (inj:=V.int) (fun x=> .int (x.natAbs:Int)) (le_trans lp (le_trans hl (by decide))) O (Ud J) ?_ ?_⟩
 . intro e H2 R he S hR
   repeat (first | done | simp only [abs_eq])
   exact hR _ (Same.refl _)
 intro H2 S h2
 have em:p.map (fun x=>V.int (x.natAbs:Int))=(p.map fun x:Int=>(x.natAbs:Int)).map V.int:=by rw [map_map];rfl
 rw [em]at h2
 refine⟨p1,_,rfl,.inl (.of h2),ne,fun M hM U=> ?_⟩
 refine Bv (S.tup J) (Hs np) ?_
 repeat (first | done | simp only [abs_eq])
 have l0:=tp.lead np
 obtain⟨y,hy,rfl⟩:=mem_map.mp hM
 have yz:y.natAbs<2^n:=Y.mem y hy
 refine⟨by omega,?_⟩
 have e2:((y.natAbs:Nat):Int)/((co p (p.length-1)).natAbs:Int)+2=((y.natAbs/(co p (p.length-1)).natAbs+2:Nat):Int):=by
  rw [natCast_add,natCast_ediv]
  rfl
 rw [e2]
 have d1:=div_le_self y.natAbs (co p (p.length-1)).natAbs
 have W:0<(co p (p.length-1)).natAbs:=by omega
 have d2:=Nat.lt_mul_div_succ y.natAbs W
 generalize y.natAbs/(co p (p.length-1)).natAbs=q at*
 refine k _ _ S (by omega) ?_ fun i=> ?_
 . rw [pow_add]
   have:0<2^n:=two_pow_pos _
   omega
 . have b1:(co p i).natAbs<=y.natAbs:=by
    by_cases hi:i<p.length
    . rw [Cg hi]
      have:=U _ (mem_map.mpr ⟨p[i],getElem_mem hi,rfl⟩)
      omega
    . rw [Bl (by omega)]
      simp
   rw [show q+2-1=q+1 by omega]
   omega
theorem Ov.szn {q:Rat}{t:Int}{D n:Nat} (h:Ov q t D) (z:0<D) (I:D<2^n) (J:t.natAbs<2^n):Szq n q:=by
 obtain⟨a,b⟩:=h.sz z I J
 refine⟨a,?_⟩
 show((q.den:Nat):Int).natAbs<_
 rw [natAbs_natCast]
 exact b
theorem Aaj {H:Hp}{z:Addr}{a b:Int} (M:0<b) (g:Int.gcd a b=1) (h:SqT K H z [.int a,.int b]):IsQ K H (.ref z) (divInt a b):=by
 obtain⟨I,J⟩:=Pb (a:=a) M
 rw [g]at I J
 have O:a.fdiv ((1:Nat):Int)=a:=by rw [fdiv_eq_ediv_of_nonneg _ (by decide)];simp
 have S:b.fdiv ((1:Nat):Int)=b:=by rw [fdiv_eq_ediv_of_nonneg _ (by decide)];simp
 rw [O]at I
 rw [S]at J
 exact⟨z,rfl,by rw [<-I,<-J];exact h⟩
theorem Ana {lo hi:Rat}{f:Int}{W D:Nat} (h1:Ov lo f D) (h2:Ov hi (f+W) D) (L j:Nat) (z:0<L):Ov ((lo+hi)*divInt 1 2+(j:Rat)*((hi-lo)*divInt 1 (4*L:Nat))) (((8*L:Nat):Int)*f+(4*L+2*j:Nat)*W) (8*L*D):=by
 unfold Ov at*
 have S:(divInt 1 2:Rat)*2=1:=by rw [divInt_eq_div];grind
 have U:(L:Rat)≠0:=Yp z
 have Y:(divInt 1 ((4*L:Nat):Int):Rat)*(4*L)=1:=by
  rw [divInt_eq_div,intCast_natCast,Rat.natCast_mul]
  have:((4:Nat):Rat)=4:=rfl
  rw [this]
  grind
 rw [intCast_add,intCast_mul,intCast_mul]at*
 simp only [intCast_natCast,Rat.natCast_mul,Rat.natCast_add]at*
 have I:((8:Nat):Rat)=8:=rfl
 have M:((4:Nat):Rat)=4:=rfl
 have O:((2:Nat):Rat)=2:=rfl
 rw [I,M,O]
 generalize (divInt 1 2:Rat)=x at*
 generalize (divInt 1 _:Rat)=y at*
 generalize (L:Rat)=l at*
 generalize (j:Rat)=J at*
 generalize (D:Rat)=d at*
 generalize (f:Rat)=Z at*
 generalize (W:Rat)=w at*
 grind
structure V4 (K:Frag) (H:Hp) (p:List Int) (l β F:Nat) (u v:V) (lo hi:Rat) (f:Int) (W D:Nat):Prop where
 D0:0<D
 W0:0<W
 ol:Ov lo f D
 oh:Ov hi (f+W) D
 fl:f.natAbs<=F*D
 fh:(f+(W:Int)).natAbs<=F*D
 sz:D<2^(22*(tau l β+β+3)+10)
 iu:IsQ K H u lo
 iv:IsQ K H v hi
theorem V4.mono {H H':Hp}{p:List Int}{l z F:Nat}{u v:V}{lo hi:Rat}{f:Int}{W D:Nat} (h:V4 K H p l z F u v lo hi f W D) (s:Same H H'):V4 K H' p l z F u v lo hi f W D:=⟨h.D0,h.W0,h.ol,h.oh,h.fl,h.fh,h.sz,h.iu.mono s,h.iv.mono s⟩
theorem Stc.ends {H:Hp}{p:List Int}{l z F:Nat}{lo hi:Rat}{many I κ:Nat}{f:Int}{W D:Nat}{u v:V} (h:Stc p l z F lo hi many I κ f W D) (J:IsQ K H u lo) (hv:IsQ K H v hi):V4 K H p l z F u v lo hi f W D:=⟨h.D0,h.W0,h.ol,h.oh,h.fl,h.fh,h.sz,J,hv⟩
theorem Aj2 {l z F D E C:Nat}{t:Int} (J:D<2^(22*(tau l z+z+3)+10)) (M:E<=128) (O:F<2^(z+2)) (S:C<=128) (U:t.natAbs<=C*(F*(E*D))):E*D<2^(NB l z+z+20)/\t.natAbs<2^(NB l z+z+20):=by
 have nb:=(Qc l z).2
 have h1:E*D<2^8*2^(22*(tau l z+z+3)+10):=by
  have a:=mul_le_mul_right D M
  have b:=Nat.mul_lt_mul_of_pos_left J (show 0<2^8 by decide)
  have c:128*D<=2^8*D:=mul_le_mul_right _ (by decide)
  omega
 rw [<-pow_add]at h1
 constructor
 . exact lt_of_lt_of_le h1 (pow_le_pow_right (by decide) (by omega))
 . have h2:F*(E*D)<=2^(z+2)*2^(8+(22*(tau l z+z+3)+10)):=mul_le_mul (Nat.le_of_lt O) (Nat.le_of_lt h1)
   have I:C*(F*(E*D))<=2^7*(2^(z+2)*2^(8+(22*(tau l z+z+3)+10))):=mul_le_mul S h2
   rw [<-pow_add,<-pow_add]at I
   exact lt_of_le_of_lt (le_trans U I) (pow_lt_pow_right (by decide) (by omega))
theorem Asz {p:List Int}{q:Rat}{t:Int}{D:Nat} (np:p≠ []) (J:0<D) (h:Ov q t D):hv p t D=0↔hv p q.num q.den=0:=by
 obtain⟨⟨k,I⟩,e⟩:=h.den J
 have M:=q.den_pos
 have U:0<k:=pos_of_ne_zero fun z=>by rw [z]at I;omega
 rw [I,mul_div_cancel_left k M]at e
 obtain⟨n,O⟩:∃n,p.length=n+1:=⟨p.length-1,by have:=length_pos_iff.mpr np;omega⟩
 have S:hv p t D=(k:Int)^n*hv p q.num q.den:=by
  rw [<-Abn _ _ _ O,<-e,I,natCast_mul]
  congr 1<;>grind
 rw [S]
 constructor
 . intro z
   rcases mul_eq_zero.mp z with z | z
   . exact absurd z (Z.Iu (by omega) _)
   . exact z
 . intro z
   rw [z,mul_zero]
noncomputable def mid (p:List Int) (lo hi:Rat) (j:Nat):Rat:=(lo+hi)*divInt 1 2+(j:Rat)*((hi-lo)*divInt 1 (4*p.length:Nat))
theorem Aes {p:List Int}{lo hi:Rat}{f:Int}{W D:Nat} (np:p≠ []) (h1:Ov lo f D) (h2:Ov hi (f+W) D) (j:Nat):Ov (mid p lo hi j) (((8*p.length:Nat):Int)*f+(4*p.length+2*j:Nat)*W) (8*p.length*D):=Ana h1 h2 _ j (length_pos_iff.mpr np)
theorem Aid (p:List Int) (lo hi:Rat) (j:Nat):mid p lo hi j+(hi-lo)*divInt 1 (4*p.length:Nat)=mid p lo hi (j+1):=by
 unfold mid
 rw [Rat.natCast_add]
 have:((1:Nat):Rat)=1:=rfl
 rw [this]
 grind
theorem Amq {p:List Int}{lo hi:Rat}{f:Int}{W D:Nat} (tp:Tr p) (np:p≠ []) (z:0<D) (M:0<W) (h1:Ov lo f D) (h2:Ov hi (f+W) D) {j:Nat} (h:∀i,i<j->hv p (mid p lo hi i).num (mid p lo hi i).den=0):j<p.length:=by
 have O:=length_pos_iff.mpr np
 have E0:0<8*p.length*D:=Nat.mul_pos (by omega) z
 have:=Ah6 (p:=p) (E:=((8*p.length*D:Nat):Int)) tp np (xs:=(List.range j).map fun i=>((8*p.length:Nat):Int)*f+(4*p.length+2*i:Nat)*W) ?_ ?_
 . simpa using this
 . rw [List.nodup_iff_pairwise_ne,List.pairwise_map]
   refine Pairwise.imp ?_ List.nodup_range
   intro a b I e
   have:((4*p.length+2*a:Nat):Int)*W=((4*p.length+2*b:Nat):Int)*W:=by omega
   have:=Int.eq_of_mul_eq_mul_right (show(W:Int)≠0 by omega) this
   omega
 . intro x J
   obtain⟨i,hi,rfl⟩:=mem_map.mp J
   exact(Asz np E0 (Aes np h1 h2 i)).mpr (h i (mem_range.mp hi))
theorem Szq.mul {n m:Nat}{p q:Rat} (h:Szq n p) (g:Szq m q):Szq (n+m) (p*q):=by
 rw [<-Avb]
 exact .of (h.1.mul g.1) (h.2.mul g.2) (mul_ne_zero (Mp p) (Mp q))
theorem Szq.mono {n m:Nat}{q:Rat} (h:Szq n q) (l:n<=m):Szq m q:=⟨h.1.mono l,h.2.mono l⟩
theorem Ag3 {f:Rat->Rat->Rat}{H H1 H2:Hp}{Q:VK}{E:XK}{x y:V}{p q:Rat}{m n:Nat} (I:IsQ K H1 x p) (J:Same H1 H) (M:IsQ K H2 y q) (s2:Same H2 H) (O:Szq m p) (S:Szq n q) (U:m+n<=60000000) (h:∀z H',Same H H'->IsQ K H' z (f p q)->Q z H'):Asn f K [x,y] H Q E:=⟨x,y,p,q,m,n,rfl,I.mono J,M.mono s2,O,S,U,h⟩
theorem At4 {H H1 H2:Hp}{Q:VK}{E:XK}{x y:V}{p:List Int}{q:Rat}{l n m:Nat} (I:Po K H1 x p l n) (J:Same H1 H) (M:IsQ K H2 y q) (s2:Same H2 H) (z:Szq m q) (O:n+(m+2)*l+m<=130000000) (h:Q (.int (sgI (hv p q.num q.den))) H):Og K [x,y] H Q E:=⟨x,y,p,q,l,n,m,rfl,I.mono J,M.mono s2,z,O,h⟩
noncomputable def Kq (K:Frag):Sp:=fun vs H Q _=>∃(x u v:V) (p:List Int) (lo hi:Rat) (l β F:Nat) (f:Int) (W D:Nat),vs=[x,u,v]/\Par K H x p l β F/\V4 K H p l β F u v lo hi f W D/\∀z H' (j:Nat),Same H H'->IsQ K H' z (mid p lo hi j)->j<p.length->Q z H'
theorem Qy (F:Df K mg "clear_middle" Ia ["p","lo","hi"] f fd) (z_len:mg "len"=none)  (I:Cal P w K mg base 35 "times" ["one","other"] (Nh K)) (O:Cal P w K mg base 35 "plus" ["one","other"] (Rv K)) (S:Cal P w K mg base 35 "minus" ["one","other"] (Px K)) (J:Cal P w K mg base 34 "sign_at" ["one","point"] (Og K)):Cal P w K mg base 36 "clear_middle" ["p","lo","hi"] (Kq K):=by
 refine F.cal (F.fn.ok Gb (fun vs H Q E h=> ?_) (fun ae A outer s H vs Q E Z h=> ?_))
 . obtain⟨x,u,v,_,_,_,_,_,_,_,_,_,rfl,_⟩:=h
   rfl
 obtain⟨x,u,v,p,lo,hi,l,M,U,f,W,D,rfl,hx,z,k⟩:=h
 have pa:=hx.pa
 have fw:=hx.few
 have nb:=Qc l M
 have af:=hx.l12
 have lp:=pa.lp
 have l2:=pa.n2
 obtain⟨⟨a,rfl,ha⟩,_⟩:=id hx.po
 have S0:∀(q:Rat) (t:Int) (E C:Nat),Ov q t (E*D)->E<=128->0<E->C<=128->t.natAbs<=C*(U*(E*D))->Szq (NB l M+M+20) q:=fun q t E C h1 h2 h3 h4 h5=>by
  obtain⟨a1,a2⟩:=Aj2 z.sz h2 pa.hF h4 h5
  exact h1.szn (Nat.mul_pos h3 z.D0) a1 a2
 refine Av ⟨_,(Ae (Aj 3 Gb.nd (Ai I Z (Aa (Ai O Z (Aa (Af 1) (Aa (Af 2) Ac))) (Aa (Bj (Aa Ad (Aa Ad Ac))) Ac))))
  (Ae (Aj 4 Gb.nd (Ai I Z (Aa (Ai S Z (Aa (Af 2) (Aa (Af 1) Ac))) (Aa (Bj (Aa Ad (Aa (Ah Bo Ad (Bk Bc rfl z_len PySem.boot_len (Aa (Af 0) Ac))) Ac))) Ac))))
  (Ae (Cq PassesOwn.never (Al G4 (Ai J Z (Aa (Af 0) (Aa (Af 3) Ac))) Ad (Ba _)) (Ag (Aj 3 Gb.nd (Ai O Z (Aa (Af 3) (Aa (Af 4) Ac))))))
  (Ag (Ak (Af 3)))))),?_⟩
 done
 have N0:∀j,j<=p.length->Szq (NB l M+M+20) (mid p lo hi j):=fun j hj=>S0 _ _ (8*p.length) 16 (Aes pa.ne z.ol z.oh j) (by omega) (by omega) (by omega) (by
  have f1:=z.fl
  have f2:=z.fh
  have w1:W<=2*(U*D):=by omega
  have h1:=natAbs_add_le (((8*p.length:Nat):Int)*f) (((4*p.length+2*j:Nat):Int)*W)
  rw [natAbs_mul,natAbs_mul,natAbs_natCast,natAbs_natCast,natAbs_natCast]at h1
  have h2:=mul_le_mul_left (8*p.length) f1
  have h3:=mul_le_mul (show 4*p.length+2*j<=6*p.length by omega) w1
  have e1:16*(U*(8*p.length*D))=128*(p.length*(U*D)):=by grind
  have e2:8*p.length*(U*D)=8*(p.length*(U*D)):=by grind
  have e3:6*p.length*(2*(U*D))=12*(p.length*(U*D)):=by grind
  rw [e1]
  omega)
 have a0:Szq (NB l M+M+20) lo:=S0 lo f 1 1 (by rw [one_mul];exact z.ol) (by decide) (by decide) (by decide) (by have:=z.fl;rw [one_mul,one_mul];exact this)
 have a3:Szq (NB l M+M+20) hi:=S0 hi _ 1 1 (by rw [one_mul];exact z.oh) (by decide) (by decide) (by decide) (by have:=z.fh;rw [one_mul,one_mul];exact this)
 have zs:Szq (NB l M+M+20) (lo+hi):=S0 _ (f+(f+W)) 1 2 (by
  have h1:=z.ol
  have h2:=z.oh
  unfold Ov at*
  rw [one_mul,Rat.add_mul,h1,h2,<-intCast_add]) (by decide) (by decide) (by decide) (by have h1:=z.fl;have h2:=z.fh;rw [one_mul];omega)
 have ow:Ov (hi-lo) W D:=by
  have h1:=z.ol
  have h2:=z.oh
  unfold Ov at*
  have e:(hi-lo)*(D:Rat)=hi*D-lo*D:=by grind
  rw [e,h1,h2,<-Rat.intCast_sub]
  congr 1
  omega
 have zw:Szq (NB l M+M+20) (hi-lo):=S0 _ W 1 2 (by rw [one_mul];exact ow) (by decide) (by decide) (by decide) (by have h1:=z.fl;have h2:=z.fh;rw [one_mul];omega)
 have m0:(lo+hi)*divInt 1 2=mid p lo hi 0:=by
  unfold mid
  have:((0:Nat):Rat)=0:=rfl
  rw [this]
  grind
 refine Ag3 z.iu (Same.refl _) z.iv (Same.refl _) a0 a3 (by omega) fun z1 H1 s1 i1=> ?_
 try done
 (intro q1 a4;generalize a5:upd _ q1 _=ag;obtain⟨a6,ac⟩:=nw a4 a5;clear a5 a4)
 have t1:=s1.trans a6
 refine Ag3 i1 a6 (Aaj (by decide) (by decide) (.of ac)) (Same.refl _) zs (Szq.of (n:=3) (by unfold Sz;decide) (by unfold Sz;decide) (by decide)) (by omega) fun z2 H2 s2 i2=> ?_
 try done
 rw [m0]at i2
 have t2:=t1.trans s2
 refine Ag3 z.iv t2 z.iu t2 a3 a0 (by omega) fun z3 H3 s3 i3=> ?_
 try done
 have t3:=t2.trans s3
 refine⟨a,_,rfl,.inr (t3.tup ha),?_⟩
 rw [length_map]
 refine⟨(show Sz 3 (4:Int)by unfold Sz;decide).mulOk (show Sz 8 (p.length:Int)by unfold Sz;omega) (by decide),?_⟩
 (intro q4 a7;generalize a8:upd _ q4 _=ah;obtain⟨Y,a9⟩:=nw a7 a8;clear a8 a7)
 have e4:(4:Int)*(p.length:Int)=((4*p.length:Nat):Int):=by rw [natCast_mul];rfl
 rw [e4]at a9
 refine Ag3 i3 Y (Aaj (by omega) (by simp) (.of a9)) (Same.refl _) zw (Szq.of (n:=8) (by unfold Sz;decide) (by unfold Sz;omega) (by omega)) (by omega) fun z5 H5 s5 i5=> ?_
 try done
 have t5:=(t3.trans Y).trans s5
 have ad:Szq (NB l M+M+20+8) ((hi-lo)*divInt 1 (4*p.length:Nat)):=zw.mul (Szq.of (n:=8) (by unfold Sz;decide) (by unfold Sz;omega) (by omega))
 refine Oj (fun m aa H'=>∃(j:Nat) (v3:V),aa=[some (.ref a),some u,some v,some v3,some z5]/\m+j=p.length/\Same H5 H'/\IsQ K H' v3 (mid p lo hi j)/\∀i,i<j->hv p (mid p lo hi i).num (mid p lo hi i).den=0) p.length ⟨0,z2,rfl,rfl,Same.refl _,i2.mono ((s3.trans Y).trans s5),fun i hi=>absurd hi (by omega)⟩ ?_
 rintro m aa H6 ⟨j,v3,rfl,mj,s6,i6,all⟩
 have jl:=Amq pa.tp pa.ne z.D0 z.W0 z.ol z.oh all
 have zj:=N0 j (by omega)
 done
 refine At4 hx.p12 (t5.trans s6) i6 (Same.refl _) zj (by omega) ?_
 try done
 by_cases hz:sgI (hv p (mid p lo hi j).num (mid p lo hi j).den)=0
 case neg=>
  rw [if_neg hz]
  exact k _ _ j (t5.trans s6) i6 jl
 rw [if_pos hz]
 refine Acs ?_
 done
 refine Ag3 i6 (Same.refl _) i5 s6 zj ad (by omega) fun z7 H7 s7 i7=> ?_
 rw [Aid]at i7
 refine⟨m-1,by omega,j+1,z7,rfl,by omega,s6.trans s7,i7,fun i hi=> ?_⟩
 rcases lt_or_ge i j with h | h
 . exact all i h
 . rw [show i=j by omega]
   exact(Aja _).mp hz
theorem At5 {H H1 H2:Hp}{Q:VK}{E:XK}{x y:V}{p:List Int}{q:Rat}{l n m:Nat} (I:Po K H1 x p l n) (J:Same H1 H) (M:IsQ K H2 y q) (s2:Same H2 H) (z:Szq m q) (O:n+(m+2)*l+m<=130000000) (h:Sz (n+(m+2)*l) (hv p q.num q.den)->Q (.int (hv p q.num q.den)) H):Gn K [x,y] H Q E:=⟨x,y,p,q,l,n,m,rfl,I.mono J,M.mono s2,z,O,h ((Amh z.1 z.2 p I.mem).mono (by
 have:=mul_le_mul_left (m+2) I.2.2.1
 omega))⟩
theorem V4.sz4 {H:Hp}{p:List Int}{l z F:Nat}{u v:V}{lo hi:Rat}{f:Int}{W D:Nat} (S:Pa p l z F) (I:V4 K H p l z F u v lo hi f W D):Szq (NB l z+z+20) lo/\Szq (NB l z+z+20) hi/\Szq (NB l z+z+20) (lo+hi)/\Szq (NB l z+z+20) (hi-lo)/\Ov (hi-lo) W D:=by
 have J:∀(q:Rat) (t:Int) (C:Nat),Ov q t D->C<=128->t.natAbs<=C*(F*D)->Szq (NB l z+z+20) q:=fun q t C h1 U Y=>by
  obtain⟨M,Z⟩:=Aj2 (E:=1) I.sz (by decide) S.hF U (by rw [one_mul];exact Y)
  rw [one_mul]at M
  exact h1.szn I.D0 M Z
 have f1:=I.fl
 have f2:=I.fh
 have h1:=I.ol
 have h2:=I.oh
 have O:Ov (hi-lo) W D:=by
  unfold Ov at*
  have e:(hi-lo)*(D:Rat)=hi*D-lo*D:=by grind
  rw [e,h1,h2,<-Rat.intCast_sub]
  congr 1
  omega
 refine⟨J lo f 1 h1 (by decide) (by omega),J hi _ 1 h2 (by decide) (by omega),J _ (f+(f+W)) 2 ?_ (by decide) (by omega),J _ W 2 O (by decide) (by omega),O⟩
 unfold Ov at*
 rw [Rat.add_mul,h1,h2,<-intCast_add]
noncomputable def Lj (K:Frag):Sp:=fun vs H Q _=>∃(x u v:V) (p:List Int) (lo hi:Rat) (l β F:Nat) (f:Int) (W D c:Nat),vs=[x,u,v,.int (c:Nat)]/\Par K H x p l β F/\V4 K H p l β F u v lo hi f W D/\Sz (NB l β) (c:Nat)/\∀H',Same H H'->Q .non H'/\∀i:Int,Q (.int i) H'
theorem Sv (F:Df K mg "newton_cell" Jo ["p","lo","hi","cells"] f fd)  (py:Pyl P base) (U:Cal P w K mg base 35 "times" ["one","other"] (Nh K)) (Y:Cal P w K mg base 35 "minus" ["one","other"] (Px K)) (I:Cal P w K mg base 33 "whole_value" ["one","point"] (Gn K)) (a0:Cal P w K mg base 35 "plus" ["one","other"] (Rv K)) (J:Cal P w K mg base 33 "derived" ["one"] (K9 K)):Cal P w K mg base 36 "newton_cell" ["p","lo","hi","cells"] (Lj K):=by
 refine F.cal (F.fn.ok Eo (fun vs H Q E h=> ?_) (fun ac A outer s H vs Q E Z h=> ?_))
 . obtain⟨x,u,v,_,_,_,_,_,_,_,_,_,c,rfl,_⟩:=h
   rfl
 obtain⟨x,u,v,p,lo,hi,l,β,Fr,f,W,D,c,rfl,hx,he,hc,k⟩:=h
 have pa:=hx.pa
 have fw:=hx.few
 have nb:=Qc l β
 obtain⟨a3,a4,zs,zw,ow⟩:=he.sz4 pa
 refine Av ⟨_,(Ae (Aj 4 Eo.nd (Ai U Z (Aa (Ai a0 Z (Aa (Af 1) (Aa (Af 2) Ac))) (Aa (Bj (Aa Ad (Aa Ad Ac))) Ac))))
  (Ae (Aj 5 Eo.nd (Ai Y Z (Aa (Af 2) (Aa (Af 1) Ac))))
  (Ae (Aj 6 Eo.nd (Ai I Z (Aa (Af 0) (Aa (Af 4) Ac))))
  (Ae (Aj 7 Eo.nd (Ai I Z (Aa (Ai J Z (Aa (Af 0) Ac)) (Aa (Af 4) Ac))))
  (Ae (Aj 8 Eo.nd (Ah Dw (Ah Bo (Af 7) (Af 7)) (Ah Bo (Af 6) (Ai I Z (Aa (Ai J Z (Aa (Ai J Z (Aa (Af 0) Ac)) Ac)) (Aa (Af 4) Ac))))))
  (Ae (Az (Al G4 (Af 8) Ad (Ba _)) (Ag (Ak Hl)) Aw)
  (Ag (Ak (Ah Dw (Ah Cy (Af 3) Ad) (Ah (G5 py (Z.far (by decide)) rfl rfl rfl rfl rfl) (Ah Bo (Ah Bo (Ah Bo (Af 3) (Af 6)) (Af 7)) (Aq Bd (Af 5) Ad (fun _ _=>rfl))) (Ah Bo (Ah Bo (Af 8) (Aq Bd (Af 4) Ad (fun _ _=>rfl))) (Aq Bd (Af 5) Ad (fun _ _=>rfl))))))))))))),?_⟩
 refine Bt (fun O H'=>∃(vm:V) (q:Rat),O=[some x,some u,some v,some (.int (c:Nat)),some vm,none,none,none,none]/\Same H H'/\IsQ K H' vm q/\Szq (NB l β+β+23) q) (fun M hM=> ?_) ?_
 . done
   refine Ag3 he.iu (Same.refl _) he.iv (Same.refl _) a3 a4 (by omega) fun z1 H1 s1 i1=> ?_
   try done
   (intro q1 a5;generalize a6:upd _ q1 _=ad;obtain⟨a7,a9⟩:=nw a5 a6;clear a6 a5)
   have h3:Szq 3 (divInt 1 2):=Szq.of (by unfold Sz;decide) (by unfold Sz;decide) (by decide)
   refine Ag3 i1 a7 (Aaj (by decide) (by decide) (.of a9)) (Same.refl _) zs h3 (by omega) fun z2 H2 s2 i2=> ?_
   exact hM _ _ ⟨z2,(lo+hi)*divInt 1 2,rfl,(s1.trans a7).trans s2,i2,(zs.mul h3).mono (by omega)⟩
 rintro _ H1 ⟨vm,q,rfl,s1,im,zm⟩
 obtain⟨am,rfl,hm⟩:=id im
 refine Bt (fun O H'=>∃aw,O=[some x,some u,some v,some (.int (c:Nat)),some (.ref am),some (.ref aw),none,none,none]/\Same H1 H'/\SqT K H' aw [.int (hi-lo).num,.int ((hi-lo).den:Int)]) (fun M hM=> ?_) ?_
 . done
   refine Ag3 he.iv s1 he.iu s1 a4 a3 (by omega) fun z1 H2 s2 i2=> ?_
   obtain⟨aw,rfl,hw⟩:=i2
   exact hM _ _ ⟨aw,rfl,s2,hw⟩
 rintro _ H2 ⟨aw,rfl,s2,hw⟩
 have a1:=s1.trans s2
 obtain⟨B,hB⟩:∃B,B=β+16+(NB l β+β+23+2)*12:=⟨_,rfl⟩
 refine Bt (fun O H'=>∃h:Int,O=[some x,some u,some v,some (.int (c:Nat)),some (.ref am),some (.ref aw),some (.int h),none,none]/\H2=H'/\Sz B h) (fun M hM=> ?_) ?_
 . done
   refine At5 hx.p12 a1 im s2 zm (by omega) fun z=> ?_
   exact hM _ _ ⟨_,rfl,rfl,z.mono (by omega)⟩
 rintro _ _ ⟨h,rfl,rfl,zh⟩
 refine Bt (fun O H'=>∃sl:Int,O=[some x,some u,some v,some (.int (c:Nat)),some (.ref am),some (.ref aw),some (.int h),some (.int sl),none]/\Same H2 H'/\Sz B sl) (fun M hM=> ?_) ?_
 . done
   refine Nk hx.p12 a1 (by decide) (by omega) fun z H3 s3 i3=> ?_
   try done
   refine At5 i3 (Same.refl _) im (s2.trans s3) zm (by omega) fun z=> ?_
   exact hM _ _ ⟨_,rfl,s3,z.mono (by omega)⟩
 rintro _ H3 ⟨sl,rfl,s3,S⟩
 have a8:=a1.trans s3
 refine Bt (fun O H'=>∃b:Int,O=[some x,some u,some v,some (.int (c:Nat)),some (.ref am),some (.ref aw),some (.int h),some (.int sl),some (.int b)]/\Same H3 H'/\Sz (2*B+1) b) (fun M hM=> ?_) ?_
 . done
   refine⟨S.mulOk S (by omega),Nk hx.p12 a8 (by decide) (by omega) fun z H4 s4 i4=> ?_⟩
   try done
   refine Nk i4 (Same.refl _) (by decide) (by omega) fun z H5 s5 i5=> ?_
   try done
   refine At5 i5 (Same.refl _) im ((s2.trans s3).trans (s4.trans s5)) zm (by omega) fun z=> ?_
   try done
   have z':Sz B (hv (dr (dr p)) q.num q.den):=z.mono (by omega)
   exact⟨zh.mulOk z' (by omega),hM _ _ ⟨_,rfl,s4.trans s5,((S.mul S).sub (zh.mul z')).mono (by omega)⟩⟩
 rintro _ H4 ⟨b,rfl,s4,zb⟩
 have aa:=a8.trans s4
 have kk:=k _ aa
 done
 by_cases b0:b=0
 . rw [if_pos b0]
   exact kk.1
 rw [if_neg b0]
 have a2:=s3.trans s4
 refine⟨⟨by decide,by decide⟩,hc.mulOk zh (by omega),(hc.mul zh).mulOk S (by omega),Bv (a2.tup hw) (at1 _ _ _) ?_⟩
 try done
 refine⟨((hc.mul zh).mul S).mulOk zw.2 (by omega),Bv ((s2.trans a2).tup hm) (at1 _ _ _) ?_⟩
 try done
 refine⟨zb.mulOk zm.2 (by omega),Bv (a2.tup hw) (at0 _ _) ?_⟩
 try done
 have n0:(hi-lo).num≠0:=fun z=>by
  have e0:hi-lo=0:=Rat.num_eq_zero.mp z
  have:=ow
  unfold Ov at this
  rw [e0,Rat.zero_mul]at this
  have e1:((W:Int):Rat)=((0:Int):Rat):=this.symm
  have e2:(W:Int)=0:=by exact_mod_cast e1
  have:=he.W0
  omega
 exact⟨(zb.mul zm.2).mulOk zw.1 (by omega),mul_ne_zero (mul_ne_zero b0 (Mp q)) n0,kk.2 _⟩
theorem Afm {lo hi:Rat}{f:Int}{W D:Nat} (h1:Ov lo f D) (z:Ov (hi-lo) W D) (E a:Nat) (E0:0<E):Ov (lo+(hi-lo)*divInt (a:Nat) (E:Nat)) ((E:Int)*f+W*a) (E*D):=by
 unfold Ov at*
 have I:=Yp E0
 have J:(divInt (a:Nat) (E:Nat):Rat)*(E:Rat)=(a:Rat):=by
  rw [divInt_eq_div,intCast_natCast,intCast_natCast]
  grind
 rw [intCast_add,intCast_mul,intCast_mul]
 simp only [intCast_natCast,Rat.natCast_mul]at*
 generalize (divInt (a:Nat) (E:Nat):Rat)=y at*
 generalize hi-lo=w at*
 grind
theorem Aam {H H1:Hp}{R:VK}{O u:V}{p:List Int}{lo hi:Rat}{l I F:Nat}{E c:Nat} (pa:Pa p l I F) (fw:1900*NB l I+100000<=120000000) (Z:IsQ K H O (hi-lo)) (hu:IsQ K H1 u lo) (J:Same H1 H) (M:Szq (NB l I+I+20) lo) (S:Szq (NB l I+I+20) (hi-lo)) (a0:0<E) (cE:c<=E) (U:Sz (NB l I) (E:Nat)) (k:∀z H',Same H H'->IsQ K H' z (lo+(hi-lo)*divInt (c:Nat) (E:Nat))->R z H'):Gk K [.int (c:Nat),.int (E:Nat)] H (fun x5 H1=>Nh K [O,x5] H1 (fun x6 H1=>Rv K [u,x6] H1 R E0) E0) E0:=by
 have nb:=Qc l I
 have W:Szq (NB l I) (divInt (c:Nat) (E:Nat)):=Szq.of (U.of_abs (by omega)) U (by omega)
 refine⟨_,_,rfl,by omega,fun z1 H1 J i1=>Ag3 Z J i1 (Same.refl _) S W (by omega) fun z2 H2 Y i2=>Ag3 hu ((‹Same _ H›.trans J).trans Y) i2 (Same.refl _) M (S.mul W) (by omega) fun z3 H3 s3 i3=>k _ _ ((J.trans Y).trans s3) i3⟩
structure Nr (K:Frag) (H:Hp) (p:List Int) (lo hi:Rat) (many ν:Nat) (f:Int) (W D:Nat) (z:V) (a b:Nat) (lo' hi':Rat):Prop where
 at':∃(c:Addr) (u w:V),z= .ref c/\SqT K H c [u,w]/\IsQ K H u lo'/\IsQ K H w hi'
 ab:a<b
 b3:b<=a+3
 bc:b<=4*ν
 ol:Ov lo' (((4*ν:Nat):Int)*f+W*a) (4*ν*D)
 oh:Ov hi' (((4*ν:Nat):Int)*f+W*b) (4*ν*D)
 mn:chg (Dr p (((4*ν:Nat):Int)*f+W*a) (((4*ν:Nat):Int)*f+W*b) ((4*ν*D:Nat):Int))=many
noncomputable def Xe (K:Frag):Sp:=fun vs H Q _=>∃(x v:V) (p:List Int) (lo hi:Rat) (l β F many ν κ:Nat) (f:Int) (W D:Nat) (a:Addr) (u w:V),vs=[x,v]/\Par K H x p l β F/\Stc p l β F lo hi many ν κ f W D/\v= .ref a/\SqT K H a [u,w,.int (many:Nat),.int (ν:Nat)]/\IsQ K H u lo/\IsQ K H w hi/\∀H',Same H H'->Q .non H'/\∀z b c lo' hi',Nr K H' p lo hi many ν f W D z b c lo' hi'->Q z H'
theorem Ae6 (F:Df K mg "nearer" Vf ["p","stretch"] f fd) (a5:mg "max"=none) (a6:mg "min"=none)  (O:Cal P w K mg base 36 "newton_cell" ["p","lo","hi","cells"] (Lj K)) (a2:Cal P w K mg base 35 "minus" ["one","other"] (Px K)) (a0:Cal P w K mg base 35 "plus" ["one","other"] (Rv K)) (S:Cal P w K mg base 35 "times" ["one","other"] (Nh K)) (Y:Cal P w K mg base 33 "changes" ["p"] (Hi K)) (J:Cal P w K mg base 34 "fraction" ["top","bottom"] (Gk K)) (Z:Cal P w K mg base 35 "between" ["p","lo","hi"] (Hh K)):Cal P w K mg base 37 "nearer" ["p","stretch"] (Xe K):=by
 refine F.cal (F.fn.ok Ew (fun vs H Q E h=> ?_) (fun am A outer s H vs Q E hr h=> ?_))
 . obtain⟨x,v,_,_,_,_,_,_,_,_,_,_,_,_,_,_,_,rfl,_⟩:=h
   rfl
 obtain⟨x,v,p,lo,hi,l,U,Fr,many,I,κ,f,W,D,a,u,w,rfl,hx,st,rfl,ha,hu,hw,k⟩:=h
 have pa:=hx.pa
 have fw:=hx.few
 have nb:=Qc l U
 have he:=st.ends hu hw
 obtain⟨a7,ag,zs,zw,ow⟩:=he.sz4 pa
 have n4:=st.nu.1
 have nz:Sz (NB l U-2) (I:Nat):=by
  show((I:Nat):Int).natAbs<_
  rw [natAbs_natCast]
  exact lt_of_lt_of_le st.nu.2 (pow_le_pow_right (by decide) (by omega))
 have cz:Sz (NB l U) (((4*I:Nat):Int)):=by
  show(((4*I:Nat):Int)).natAbs<_
  rw [natAbs_natCast]
  have h1:4*I<2^2*2^(2*(tau l U+U+3)):=by have:=st.nu.2;omega
  rw [<-pow_add]at h1
  exact lt_of_lt_of_le h1 (pow_le_pow_right (by decide) (by omega))
 refine Av ⟨_,(Ae (Dp (Af 1) (Eh rfl (Bb (Ay 8 Ew.nd) (Bb (Ay 9 Ew.nd) (Bb (Ay 10 Ew.nd) (Bb (Ay 11 Ew.nd) Cz))))))
  (Ae (Aj 2 Ew.nd (Ah Bo Ad (Af 11)))
  (Ae (Aj 3 Ew.nd (Ai O hr (Aa (Af 0) (Aa (Af 8) (Aa (Af 9) (Aa (Af 2) Ac))))))
  (Ae (Az (Al Akp (Af 3) Hl (Ba _)) (Ag (Ak Hl)) Aw)
  (Ae (Aj 4 Ew.nd (Bk (Qh rfl) rfl a5 boot_max (Aa (Ah Dw (Af 3) Ad) (Aa Ad Ac))))
  (Ae (Aj 5 Ew.nd (Bk (Adh rfl) rfl a6 boot_min (Aa (Ah Dc (Af 3) Ad) (Aa (Af 2) Ac))))
  (Ae (Az (Al Am6 (Af 4) (Af 5) (Ba _)) (Ag (Ak Hl)) Aw)
  (Ae (Aj 6 Ew.nd (Ai a2 hr (Aa (Af 9) (Aa (Af 8) Ac))))
  (Ae (Aj 7 Ew.nd (Bj (Aa (Ai a0 hr (Aa (Af 8) (Aa (Ai S hr (Aa (Af 6) (Aa (Ai J hr (Aa (Af 4) (Aa (Af 2) Ac))) Ac))) Ac))) (Aa (Ai a0 hr (Aa (Af 8) (Aa (Ai S hr (Aa (Af 6) (Aa (Ai J hr (Aa (Af 5) (Aa (Af 2) Ac))) Ac))) Ac))) Ac))))
  (Ag (Ak (Gh (Al G4 (Ai Y hr (Aa (Ai Z hr (Aa (Af 0) (Aa (Aq Bd (Af 7) Ad (fun _ _=>rfl)) (Aa (Aq Bd (Af 7) Ad (fun _ _=>rfl)) Ac)))) Ac)) (Af 10) (Ba _)) (Af 7) Hl)))))))))))),?_⟩
 refine Bt (fun ah H'=>ah=[some x,some (.ref a),none,none,none,none,none,none,some u,some w,some (.int (many:Nat)),some (.int (I:Nat))]/\H=H') (fun M hM=> ?_) ?_
 . done
   refine⟨a,_,rfl,ha,rfl,u,_,rfl,w,_,rfl,_,_,rfl,_,_,rfl,rfl,?_⟩
   exact hM _ _ ⟨rfl,rfl⟩
 rintro _ _ ⟨rfl,rfl⟩
 done
 have e4:(4:Int)*((I:Nat):Int)=((4*I:Nat):Int):=by rw [natCast_mul];rfl
 rw [e4]
 have a3:0<4*I:=by omega
 refine⟨(show Sz 3 (4:Int)by unfold Sz;decide).mulOk nz (by omega),x,u,w,p,lo,hi,l,U,Fr,f,W,D,4*I,rfl,hx,he,cz,fun H1 s1=>⟨(k _ s1).1,fun i=> ?_⟩⟩
 try done
 rw [if_neg (by intro z;cases z)]
 by_cases a4:(if((4*I:Nat):Int)<i+2 then((4*I:Nat):Int)else i+2)<=(if 0>i-1 then 0 else i-1)
 . rw [if_pos a4]
   exact(k _ s1).1
 rw [if_neg a4]
 obtain⟨a1,h1⟩:∃a1:Nat,(if 0>i-1 then 0 else i-1)=((a1:Nat):Int):=⟨(if 0>i-1 then 0 else i-1).toNat,by split<;>omega⟩
 obtain⟨b1,h2⟩:∃b1:Nat,(if((4*I:Nat):Int)<i+2 then((4*I:Nat):Int)else i+2)=((b1:Nat):Int):=⟨(if((4*I:Nat):Int)<i+2 then((4*I:Nat):Int)else i+2).toNat,by split at a4<;>split at a4<;>split<;>omega⟩
 have ab:a1<b1:=by omega
 have bc:b1<=4*I:=by split at h2<;>omega
 have b3:b1<=a1+3:=by split at h1<;>split at h2<;>omega
 rw [h1,h2]
 clear a4 h1 h2
 refine Ag3 hw s1 hu s1 ag a7 (by omega) fun z4 H4 s4 i4=> ?_
 try done
 have t4:=s1.trans s4
 refine Aam pa fw i4 hu t4 a7 zw a3 (by omega) cz fun z5 H5 s5 i5=> ?_
 try done
 refine Aam pa fw (i4.mono s5) hu (t4.trans s5) a7 zw a3 bc cz fun z6 H6 s6 i6=> ?_
 try done
 have o1:=Afm st.ol ow (4*I) a1 a3
 have o2:=Afm st.ol ow (4*I) b1 a3
 have D0:=Nat.mul_pos a3 st.D0
 (intro q7 aa;generalize ac:upd _ q7 _=an;obtain⟨a8,a9⟩:=nw aa ac;clear ac aa)
 have ad:=i5.mono (s6.trans a8)
 have ae:=i6.mono a8
 have t7:=((t4.trans s5).trans s6).trans a8
 have fE:=Tg (E:=4*I) st.fl
 have gE:=Tg (E:=4*I) st.fh
 have wa:(0:Int)<=(W:Int)*a1:=mul_nonneg (by omega) (by omega)
 have ao:(W:Int)*a1<=W*b1:=mul_le_mul_of_nonneg_left (by omega) (by omega)
 have wb:(W:Int)*b1<=W*((4*I:Nat):Int):=mul_le_mul_of_nonneg_left (by omega) (by omega)
 have ee:((4*I:Nat):Int)*(f+W)=((4*I:Nat):Int)*f+W*((4*I:Nat):Int):=by grind
 rw [ee]at gE
 have af:4*I*D<2^(2*NB l U):=by
  have h1:4*I<2^NB l U:=by
   have:(((4*I:Nat):Int)).natAbs<2^NB l U:=cz
   rw [natAbs_natCast]at this
   exact this
  have h2:D<2^NB l U:=lt_of_lt_of_le st.sz (pow_le_pow_right (by decide) (by omega))
  rw [Nat.two_mul,pow_add]
  exact Nat.mul_lt_mul_of_lt_of_lt h1 h2
 have ai:=(o1.szq D0 af (Wo fE gE (by omega) (by omega)) pa.hF).mono (show 2*NB l U+U+2<=3*NB l U by omega)
 have aj:=(o2.szq D0 af (Wo fE gE (by omega) (by omega)) pa.hF).mono (show 2*NB l U+U+2<=3*NB l U by omega)
 refine Bv (.of a9) (at0 _ _) (Bv (.of a9) (at1 _ _ _) ?_)
 refine Aji hx.p12 ad ae t7 ai aj (by omega) fun z8 H8 ws s8 ak ew=> ?_
 try done
 refine Acr ak ?_
 try done
 have kk:=k _ (t7.trans s8)
 by_cases hm:chg ws=many
 . rw [if_pos (by rw [hm])]
   refine kk.2 _ a1 b1 _ _ ⟨⟨q7,z5,z6,rfl,s8.tup (.of a9),ad.mono s8,ae.mono s8⟩,ab,b3,bc,o1,o2,?_⟩
   rw [<-hm,ew]
   exact(Aj3 pa.ne D0 o1 o2).symm
 . rw [if_neg (fun z=>hm (by omega))]
   exact kk.1
theorem none_of {H H':Hp}{q:Addr} (s:Same H H') (h:H' q=none):H q=none:=by
 rcases e:H q with _ | o
 . rfl
 . rw [s _ _ e]at h
   cases h
theorem Oh {H:Hp}{q a:Addr}{I xs:List V}{o:HO} (h:SqT K H a xs) (J:H q=some (.lst I)):SqT K (upd H q o) a xs:=by
 rcases h with(h | ⟨o',h⟩) | h
 . exact .inl (.inl (by rw [Cr (Aig h J (by intro z;cases z))];exact h))
 . exact .inl (.inr ⟨o',by rw [Cr (Aig h J (by intro z;cases z))];exact h⟩)
 . exact .inr h
theorem IsQ.put {H:Hp}{q:Addr}{z:List V}{o:HO}{v:V}{r:Rat} (h:IsQ K H v r) (I:H q=some (.lst z)):IsQ K (upd H q o) v r:=by
 obtain⟨a,e,h⟩:=h
 exact⟨a,e,Oh h I⟩
theorem Wt.put {H:Hp}{q:Addr}{z:List V}{o:HO}{p:List Int}{l J F:Nat}{v:V}{lo hi:Rat}{many M κ:Nat} (h:Wt K H p l J F v lo hi many M κ) (I:H q=some (.lst z)):Wt K (upd H q o) p l J F v lo hi many M κ:=by
 obtain⟨a,u,w,e,t,O,S⟩:=h.at'
 exact⟨h.st,a,u,w,e,Oh t I,O.put I,S.put I⟩
inductive Cn (K:Frag) (H:Hp) (p:List Int) (l β F:Nat):Rat->List V->Rat->Nat->Prop
 | nil (q:Rat):Cn K H p l β F q [] q 0
 | cons {v:V}{vs:List V}{lo m hi:Rat}{many ν κ n:Nat} (h:Wt K H p l β F v m hi many ν κ) (t:Cn K H p l β F m vs lo n):Cn K H p l β F hi (v::vs) lo (ph many κ+n)
theorem Cn.mono {H H':Hp}{p:List Int}{l z F n:Nat}{lo hi:Rat}{I:List V} (h:Cn K H p l z F hi I lo n) (s:Same H H'):Cn K H' p l z F hi I lo n:=by
 induction h with
 | nil q=>exact .nil q
 | cons h _ J=>exact .cons (h.mono s) J
theorem Cn.put {H:Hp}{q:Addr}{z:List V}{o:HO}{p:List Int}{l I F n:Nat}{lo hi:Rat}{J:List V} (h:Cn K H p l I F hi J lo n) (M:H q=some (.lst z)):Cn K (upd H q o) p l I F hi J lo n:=by
 induction h with
 | nil q=>exact .nil q
 | cons h _ O=>exact .cons (h.put M) O
theorem Cn.app {H:Hp}{p:List Int}{l z F n k:Nat}{lo m hi:Rat}{I J:List V} (h:Cn K H p l z F hi I m n) (g:Cn K H p l z F m J lo k):Cn K H p l z F hi (I++J) lo (n+k):=by
 induction h with
 | nil q=>rw [Nat.zero_add];exact g
 | cons h _ M=>
   rw [Nat.add_assoc]
   exact .cons h (M g)
theorem Cn.one {H:Hp}{p:List Int}{l z F:Nat}{v:V}{lo hi:Rat}{many I κ:Nat} (h:Wt K H p l z F v lo hi many I κ):Cn K H p l z F hi [v] lo (ph many κ):= .cons h (.nil _)
theorem Cn.len {H:Hp}{p:List Int}{l I F n:Nat}{lo hi:Rat}{z:List V} (h:Cn K H p l I F hi z lo n):z.length<=n:=by
 induction h with
 | nil q=>exact zero_le _
 | @cons _ _ _ _ _ many _ κ _ h _ J=>
   have:=Akt many κ
   rw [length_cons]
   omega
theorem Cn.last {H:Hp}{p:List Int}{l z F n:Nat}{lo hi:Rat}{I:List V}{v:V} (h:Cn K H p l z F hi (I++ [v]) lo n):∃m many J κ k,Wt K H p l z F v lo m many J κ/\Cn K H p l z F hi I m k/\n=k+ph many κ:=by
 induction I generalizing hi n with
 | nil=>
   cases h with
   | cons h t=>
     cases t
     exact⟨_,_,_,_,_,h,.nil _,by omega⟩
 | cons x xs M=>
   cases h with
   | cons h t=>
     obtain⟨m,many,J,κ,k,a,b,c⟩:=M t
     exact⟨m,many,J,κ,_,a,.cons h b,by omega⟩
theorem Ov.inj {q r:Rat}{t:Int}{D:Nat} (h:Ov q t D) (g:Ov r t D) (z:0<D):q=r:=by
 unfold Ov at*
 have:=Yp z
 grind
theorem Ag0 {H H0:Hp}{R:VK}{x u v:V}{p:List Int}{lo hi:Rat}{J κ l I F many:Nat}{f:Int}{W D:Nat} (M:Par K H0 x p l I F) (s:Same H0 H) (S:IsQ K H u lo) (hv:IsQ K H v hi) (st:Stc p l I F lo hi many J κ f W D) (k:∀z H',Same H H'->Wt K H' p l I F z lo hi many J κ->R z H'):Jt K [x,u,v,.int (J:Nat)] H R E0:=by
 have nb:=Qc l I
 obtain⟨Y,Z⟩:=st.szq M.pa
 refine⟨x,u,v,p,lo,hi,_,l,I,F,_,rfl,M.mono s,S,hv,Y,Z,by omega,fun z H' O U=>k _ _ O ⟨⟨_,_,_,st⟩,z,u,v,rfl,?_,S.mono O,hv.mono O⟩⟩
 rw [st.chM M.pa]at U
 exact U
theorem Agz {H:Hp}{R:VK}{x y:V}{p q:Rat}{n:Nat} (z:IsQ K H x p) (I:IsQ K H y q) (J:Szq n p) (M:Szq n q) (O:n<=60000000) (h1:p<q->R (.bl true) H) (h2:¬p<q->R (.bl false) H):Vq K [x,y] H R E0:=by
 refine⟨x,y,p,q,n,rfl,z,I,J,M,O,?_⟩
 by_cases h:p<q
 . rw [decide_eq_true h]
   exact h1 h
 . rw [decide_eq_false h]
   exact h2 h
theorem Aey {lo hi J M:Rat}{f:Int}{W D I a b:Nat} (D0:0<D) (W0:0<W) (n4:4<=I) (bc:b<=4*I) (h1:Ov lo f D) (h2:Ov hi (f+W) D) (O:Ov J (((4*I:Nat):Int)*f+W*a) (4*I*D)) (U:Ov M (((4*I:Nat):Int)*f+W*b) (4*I*D)):(lo<J->0<a)/\(¬lo<J->J=lo)/\(M<hi->b<4*I)/\(¬M<hi->M=hi):=by
 have E0:0<4*I*D:=Nat.mul_pos (by omega) D0
 have Y:=h1.up (4*I)
 have S:=h2.up (4*I)
 have e1:((4*I:Nat):Int)*(f+W)=((4*I:Nat):Int)*f+W*(4*I:Nat):=by rw [mul_add,mul_comm (W:Int)]
 rw [e1]at S
 have Z:=Y.lt O E0
 have a2:=U.lt S E0
 have w1:0<a->0<(W:Int)*a:=fun h=>mul_pos (by omega) (by omega)
 have w2:b<4*I->(W:Int)*b<W*(4*I:Nat):=fun h=>Int.mul_lt_mul_of_pos_left (by omega) (by omega)
 refine⟨fun h=> ?_,fun h=> ?_,fun h=> ?_,fun h=> ?_⟩
 . refine pos_of_ne_zero fun z=> ?_
   subst z
   have:=Z.mp h
   simp at this
 . have z:a=0:=by
    rcases eq_zero_or_pos a with z | z
    . exact z
    . exact absurd (Z.mpr (by have:=w1 z;omega)) h
   subst z
   have e:((4*I:Nat):Int)*f+W*((0:Nat):Int)=((4*I:Nat):Int)*f:=by simp
   rw [e]at O
   exact O.inj Y E0
 . refine Nat.lt_of_le_of_ne bc fun z=> ?_
   subst z
   have:=a2.mp h
   omega
 . have z:b=4*I:=by
    rcases lt_or_ge b (4*I)with z | z
    . exact absurd (a2.mpr (by have:=w2 z;omega)) h
    . omega
   subst z
   exact U.inj S E0
structure Rq (K:Frag) (H:Hp) (q:Addr) (u w:V) (lo hi:Rat):Prop where
 h:SqT K H q [u,w]
 u:IsQ K H u lo
 w:IsQ K H w hi
noncomputable def Xf (K:Frag):Sp:=fun vs H Q _=>∃(x v:V) (p:List Int) (lo hi:Rat) (l β F many ν κ:Nat),vs=[x,v]/\Par K H x p l β F/\Wt K H p l β F v lo hi many ν κ/\2<=many/\∀z H' ws n,Same H H'->H' z=some (.lst ws)->Cn K H' p l β F hi ws lo n->n<ph many κ->Q (.ref z) H'
theorem Stc.mids {p:List Int}{l I F:Nat}{lo hi:Rat}{many ν κ:Nat}{f:Int}{W D:Nat} (J:Pa p l I F) (h:Stc p l I F lo hi many ν κ f W D) (M:2<=many) {j z:Nat} (jl:j<p.length) (n4:4<=z) (nn:z<=ν):∃a b O S U Y E,Stc p l I F lo (mid p lo hi j) a z (κ-1) O S E/\Stc p l I F (mid p lo hi j) hi b z (κ-1) U Y E/\ph b (κ-1)+ph a (κ-1)<ph many κ:=by
 have om:=Aes J.ne h.ol h.oh j
 have W0:=h.W0
 have e1:((8*p.length:Nat):Int)*(f+W)=((8*p.length:Nat):Int)*f+(8*p.length:Nat)*W:=mul_add _ _ _
 have m0:∀a b:Nat,a<b->(a:Int)*W<(b:Int)*W:=fun a b Z=>Int.mul_lt_mul_of_pos_right (by omega) (by omega)
 have m1:∀a b:Nat,a<=b->(a:Int)*W<=(b:Int)*W:=fun a b Z=>Int.mul_le_mul_of_nonneg_right (by omega) (by omega)
 have a1:=m0 0 (4*p.length+2*j) (by omega)
 have a2:=m0 (4*p.length+2*j) (8*p.length) (by omega)
 have a3:=m1 (4*(4*p.length+2*j)) (3*(8*p.length)) (by omega)
 have a4:=m1 (4*(8*p.length)) (3*(8*p.length)+4*(4*p.length+2*j)) (by omega)
 rw [natCast_mul,natCast_mul 3]at a3
 rw [natCast_add,natCast_mul,natCast_mul 3,natCast_mul 4 (4*p.length+2*j),Int.add_mul]at a4
 rw [mul_assoc,mul_assoc]at a3
 rw [mul_assoc,mul_assoc,mul_assoc]at a4
 have c0:((0:Nat):Int)*W=0:=by simp
 have c4:((4:Nat):Int)=4:=rfl
 have c3:((3:Nat):Int)=3:=rfl
 rw [c0]at a1
 rw [c4,c3]at a3 a4
 obtain⟨x,y,O,S,U,Y,s1,s2,le⟩:=h.half J M om n4 nn (by omega) (by rw [e1];omega) (by omega) (by rw [e1];omega)
 exact⟨x,y,O,S,U,Y,_,s1,s2,Aqu M (h.act J M).1 (by omega)⟩
theorem Ae8 (F:Df K mg "pieces" Vg ["p","stretch"] f fd) (a6:mg "max"=none) (I:∃u,mg "LEAST_NARROWING"=some u/\RelV (V.int 4) u) (a0:Cal P w K mg base 37 "nearer" ["p","stretch"] (Xe K)) (Z:Cal P w K mg base 33 "less" ["one","other"] (Vq K)) (O:Cal P w K mg base 36 "clear_middle" ["p","lo","hi"] (Kq K)) (S:Cal P w K mg base 33 "root_floor" ["number"] (Ng K)) (J:Cal P w K mg base 36 "measured" ["p","lo","hi","narrowing"] (Jt K)):Cal P w K mg base 38 "pieces" ["p","stretch"] (Xf K):=by
 refine F.cal (F.fn.ok Gd (fun vs H Q E h=> ?_) (fun ak A outer s H vs Q E hr h=> ?_))
 . obtain⟨x,v,_,_,_,_,_,_,_,_,_,rfl,_⟩:=h
   rfl
 obtain⟨x,v,p,lo,hi,l,β,Fr,many,ν,κ,rfl,hx,⟨⟨f,W,D,st⟩,a,u,w,rfl,ha,hu,hw⟩,m2,k⟩:=h
 refine Av ⟨_,(Ae (Dp (Af 1) (Eh rfl (Bb (Ay 4 Gd.nd) (Bb (Ay 5 Gd.nd) (Bb (Ay 6 Gd.nd) (Bb (Ay 7 Gd.nd) Cz))))))
  (Ae (Aj 2 Gd.nd (Ai a0 hr (Aa (Af 0) (Aa (Af 1) Ac))))
  (Ae (Az (Al Akp (Af 2) Hl (Ba _)) (Ae (Aj 8 Gd.nd (Bk (Qh rfl) rfl a6 boot_max (Aa (Ai S hr (Aa (Af 7) Ac)) (Aa (Gg (v:= .int 4) rfl I) Ac))))
  (Ae (Aj 9 Gd.nd (Ai O hr (Aa (Af 0) (Aa (Af 4) (Aa (Af 5) Ac)))))
  (Ag (Ak (Dk (Aa (Ai J hr (Aa (Af 0) (Aa (Af 9) (Aa (Af 5) (Aa (Af 8) Ac))))) (Aa (Ai J hr (Aa (Af 0) (Aa (Af 4) (Aa (Af 9) (Aa (Af 8) Ac))))) Ac))))))) Aw)
  (Ae (Aj 3 Gd.nd (Gh (Dq (Ai Z hr (Aa (Aq Bd (Af 2) Ad (fun _ _=>rfl)) (Aa (Af 5) Ac)))) (Dk (Aa (Ai J hr (Aa (Af 0) (Aa (Aq Bd (Af 2) Ad (fun _ _=>rfl)) (Aa (Af 5) (Aa (Gg (v:= .int 4) rfl I) Ac))))) Ac)) (Dk Ac)))
  (Ae (Dn (Gm plainAttrs_list PySem.F.slot_list_append PySem.F.type_list_append Fi (Af 3) (Aa (Bj (Aa (Aq Bd (Af 2) Ad (fun _ _=>rfl)) (Aa (Aq Bd (Af 2) Ad (fun _ _=>rfl)) (Aa (Af 6) (Aa (Ah Bo (Af 7) (Af 7)) Ac))))) Ac)))
  (Ae (Az (Dq (Ai Z hr (Aa (Af 4) (Aa (Aq Bd (Af 2) Ad (fun _ _=>rfl)) Ac)))) (Ag (Dn (Gm plainAttrs_list PySem.F.slot_list_append PySem.F.type_list_append Fi (Af 3) (Aa (Ai J hr (Aa (Af 0) (Aa (Af 4) (Aa (Aq Bd (Af 2) Ad (fun _ _=>rfl)) (Aa (Gg (v:= .int 4) rfl I) Ac))))) Ac)))) Aw)
  (Ag (Ak (Af 3))))))))),?_⟩
 refine Bt (fun U H'=>U=[some x,some (.ref a),none,none,some u,some w,some (.int (many:Nat)),some (.int (ν:Nat)),none,none]/\H=H') (fun M hM=> ?_) ?_
 . done
   refine⟨a,_,rfl,ha,rfl,u,_,rfl,w,_,rfl,_,_,rfl,_,_,rfl,rfl,?_⟩
   exact hM _ _ ⟨rfl,rfl⟩
 rintro _ _ ⟨rfl,rfl⟩
 refine Bt (fun U H'=>∃z:V,U=[some x,some (.ref a),some z,none,some u,some w,some (.int (many:Nat)),some (.int (ν:Nat)),none,none]/\Same H H'/\(z= .non\/∃b c a1 a2,Nr K H' p lo hi many ν f W D z b c a1 a2)) (fun M hM=> ?_) ?_
 . done
   exact⟨x,.ref a,p,lo,hi,l,β,Fr,many,ν,κ,f,W,D,a,u,w,rfl,hx,st,rfl,ha,hu,hw,fun H1 s1=>⟨hM _ _ ⟨_,rfl,s1,.inl rfl⟩,fun z b c a1 a2 nr=>hM _ _ ⟨_,rfl,s1,.inr ⟨_,_,_,_,nr⟩⟩⟩⟩
 rintro _ H1 ⟨z,rfl,s1,hz⟩
 have pa:=hx.pa
 have n4:=st.nu.1
 have fw:=hx.few
 have nb:=Qc l β
 have nz:Sz 200000 ((ν:Nat):Int):=by
  show((ν:Nat):Int).natAbs<_
  rw [natAbs_natCast]
  exact lt_of_lt_of_le st.nu.2 (pow_le_pow_right (by decide) (by omega))
 rcases hz with rfl | ⟨b,c,a1,a2,nr⟩
 . done
   refine⟨_,rfl,by omega,nz,fun r r0 _ rr _=> ?_⟩
   try done
   obtain⟨a4,h1⟩:∃a4:Nat,(if 4>r then 4 else r)=((a4:Nat):Int):=⟨(if 4>r then 4 else r).toNat,by split<;>omega⟩
   have rn:r<=(ν:Int):=by
    rcases Int.lt_or_le r 1 with h | h
    . omega
    . exact Int.le_trans (by have:=mul_le_mul_of_nonneg_left h r0;omega) rr
   have a8:4<=a4/\a4<=ν:=by split at h1<;>omega
   rw [h1]
   refine⟨x,u,w,p,lo,hi,l,β,Fr,f,W,D,rfl,hx.mono s1,(st.ends hu hw).mono s1,fun z2 H2 j s2 i2 jl=> ?_⟩
   try done
   obtain⟨y1,y2,_,_,_,_,_,t1,t2,lt⟩:=st.mids pa m2 jl a8.1 a8.2
   have r2:=s1.trans s2
   refine Ag0 hx r2 i2 (hw.mono r2) t2 fun z3 H3 s3 w3=> ?_
   try done
   have r3:=r2.trans s3
   refine Ag0 hx r3 (hu.mono r3) (i2.mono s3) t1 fun z4 H4 s4 w4=> ?_
   try done
   (intro q5 a9;generalize aa:upd _ q5 _=am;obtain⟨a7,ai⟩:=nw a9 aa;clear aa a9)
   exact k _ _ _ _ ((r3.trans s4).trans a7) ai (.cons (w3.mono (s4.trans a7)) (.one (w4.mono a7))) lt
 . obtain⟨⟨q,u',w',rfl,hq,ac,a5⟩,ab,b3,bc,ol,oh,mn⟩:=nr
   have ends:=Aey st.D0 st.W0 n4 bc st.ol st.oh ol oh
   obtain⟨⟨_,_,k1⟩,k2,k3⟩:=st.near pa m2 ab b3 bc ol oh mn
   have ad:=st.szq pa
   have ae:=k1.szq pa
   refine Bt (fun U H'=>U=[some x,some (.ref a),some (.ref q),none,some u,some w,some (.int (many:Nat)),some (.int (ν:Nat)),none,none]/\H1=H') (fun M hM=> ?_) ?_
   . done
     rw [if_neg (by intro z;cases z)]
     exact hM _ _ ⟨rfl,rfl⟩
   rintro _ _ ⟨rfl,rfl⟩
   refine Bt (fun U H'=>∃(q2:Addr) (ws:List V) (n:Nat),U=[some x,some (.ref a),some (.ref q),some (.ref q2),some u,some w,some (.int (many:Nat)),some (.int (ν:Nat)),none,none]/\Same H1 H'/\H q2=none/\H' q2=some (.lst ws)/\Cn K H' p l β Fr hi ws a2 n/\n<=1/\ws.length<=1) (fun M hM=> ?_) ?_
   . done
     refine Bv hq (at1 _ _ _) (Agz a5 (hw.mono s1) ae.2 ad.2 (by omega) (fun h=>⟨_,rfl,?_⟩) (fun h=>⟨_,rfl,?_⟩))
     . rw [if_pos rfl]
       obtain⟨_,_,k3⟩:=k3 (ends.2.2.1 h)
       refine Bv hq (at1 _ _ _) (Ag0 hx s1 a5 (hw.mono s1) k3 fun z2 H2 s2 w2=> ?_)
       intro q3 f3
       exact hM _ _ ⟨q3,_,_,rfl,s2.trans (Same.upd f3 _),none_of (s1.trans s2) f3,Ao,.one (w2.mono (Same.upd f3 _)),le_refl _,le_refl _⟩
     . rw [if_neg (by decide)]
       refine⟨by decide,fun q3 f3=>hM _ _ ⟨q3,_,_,rfl,Same.upd f3 _,none_of s1 f3,Ao,by rw [ends.2.2.2 h];exact .nil _,by decide,by decide⟩⟩
   rintro _ H2 ⟨q2,ws,n,rfl,s2,af,h2,cn,n1,wl⟩
   refine Bt (fun U H'=>∃(ws:List V) (n:Nat),U=[some x,some (.ref a),some (.ref q),some (.ref q2),some u,some w,some (.int (many:Nat)),some (.int (ν:Nat)),none,none]/\Same H H'/\Rq K H' q u' w' a1 a2/\H' q2=some (.lst ws)/\Cn K H' p l β Fr hi ws a1 n/\n<=1+ph many (κ-1)/\ws.length<=2) (fun M hM=> ?_) ?_
   . done
     refine⟨.inl ⟨rfl,_,.of h2⟩,Bv (s2.tup hq) (at0 _ _) (Bv (s2.tup hq) (at1 _ _ _) ⟨nz.mulOk nz (by omega),by decide,?_⟩)⟩
     (intro q3 a3;generalize ag:upd _ q3 _=an;obtain⟨Y,aj⟩:=nw a3 ag;clear ag a3)
     have h3:=Y _ _ h2
     refine⟨q2,_,_,rfl,rfl,h3,lt_of_le_of_lt wl (by decide),hM _ _ ⟨_,_,rfl,(((s1.trans s2).trans Y)).put af,⟨Oh ((s2.trans Y).tup hq) h3,(ac.mono (s2.trans Y)).put h3,(a5.mono (s2.trans Y)).put h3⟩,Ao,((cn.mono Y).app (.one ⟨⟨_,_,_,k1⟩,q3,u',w',rfl,?_,ac.mono (s2.trans Y),a5.mono (s2.trans Y)⟩)).put h3,by omega,by rw [length_append];exact Nat.succ_le_succ wl⟩⟩
     rw [natCast_mul]
     exact .of aj
   rintro _ H3 ⟨ws,n,rfl,s3,⟨a3,ah,ao⟩,h3,cn,n1,wl⟩
   done
   have lt:=Aiw m2 (st.act pa m2).1
   refine Bv a3 (at0 _ _) (Agz (hu.mono s3) ah ad.1 ae.1 (by omega) (fun h=>⟨_,rfl,?_⟩) (fun h=>⟨_,rfl,?_⟩))
   . rw [if_pos rfl]
     obtain⟨_,_,k2⟩:=k2 (ends.1 h)
     refine⟨.inl ⟨rfl,_,.of h3⟩,Bv a3 (at0 _ _) (Ag0 hx s3 (hu.mono s3) ah k2 fun z4 H4 s4 w4=> ?_)⟩
     have h4:=s4 _ _ h3
     refine⟨q2,_,_,rfl,rfl,h4,lt_of_le_of_lt wl (by decide),k _ _ _ _ ((s3.trans s4).put af) Ao (((cn.mono s4).app (.one w4)).put h4) ?_⟩
     have:ph 0 0=1:=rfl
     omega
   . rw [if_neg (by decide)]
     rw [ends.2.1 h]at cn
     exact k _ _ _ _ s3 h3 cn (by omega)
structure CC (p:List Int) (N:Nat) (qs:List Rat) (lo:Rat):Prop where
 hd:∃q0,qs[0]? =some q0/\chB p (pq q0)=0/\q0.num<=0
 la:qs[qs.length-1]? =some lo
 st:∀i a b,qs[i]? =some a->qs[i+1]? =some b->a<b/\chM p (pq a) (pq b)<=1
 sz:∀q∈qs,Szq N q
theorem CC.pos {p:List Int}{N:Nat}{z:List Rat}{lo:Rat} (h:CC p N z lo):1<=z.length:=by
 obtain⟨I,h,_⟩:=h.hd
 have:=(List.getElem?_eq_some_iff.mp h).1
 omega
theorem CC.snoc {p:List Int}{N:Nat}{M:List Rat}{lo m:Rat} (h:CC p N M lo) (lt:lo<m) (c:chM p (pq lo) (pq m)<=1) (z:Szq N m):CC p N (M++ [m]) m:=by
 have W:=h.pos
 refine⟨?_,?_,fun i a b J I=> ?_,fun q O=> ?_⟩
 . obtain⟨S,e,U⟩:=h.hd
   exact⟨S,by rw [getElem?_append_left (by omega)];exact e,U⟩
 . rw [length_append,length_singleton,add_sub_cancel,getElem?_append_right (le_refl _),sub_self]
   rfl
 . rcases lt_or_ge (i+1) M.length with hi | hi
   . rw [getElem?_append_left (by omega)]at J I
     exact h.st i a b J I
   . have e:i+1=M.length:=by
      have:=(List.getElem?_eq_some_iff.mp I).1
      rw [length_append,length_singleton]at this
      omega
     rw [getElem?_append_left (by omega),show i=M.length-1 by omega,h.la]at J
     rw [e,getElem?_append_right (le_refl _),sub_self]at I
     injection J with J
     injection I with I
     rw [<-J,<-I]
     exact⟨lt,c⟩
 . rcases mem_append.mp O with h1 | h1
   . exact h.sz q h1
   . rw [mem_singleton.mp h1]
     exact z
structure Cu (K:Frag) (H:Hp) (p:List Int) (N:Nat) (c:Addr) (ts:List (V × Rat)) (lo:Rat):Prop where
 h:H c=some (.lst (ts.map (·.1)))
 al:∀t∈ts,IsQ K H t.1 t.2
 cc:CC p N (ts.map (·.2)) lo
theorem Cu.mono {H H':Hp}{p:List Int}{N:Nat}{c:Addr}{ts:List (V × Rat)}{lo:Rat} (h:Cu K H p N c ts lo) (s:Same H H'):Cu K H' p N c ts lo:=⟨s _ _ h.h,fun t z=>(h.al t z).mono s,h.cc⟩
theorem Cu.put {H:Hp}{p:List Int}{N:Nat}{c q:Addr}{z:List V}{o:HO}{ts:List (V × Rat)}{lo:Rat} (h:Cu K H p N c ts lo) (I:H q=some (.lst z)) (n:c≠q):Cu K (upd H q o) p N c ts lo:=⟨by rw [Cr n];exact h.h,fun t J=>(h.al t J).put I,h.cc⟩
theorem Cu.snoc {H:Hp}{p:List Int}{N:Nat}{c:Addr}{ts:List (V × Rat)}{lo m:Rat}{v:V} (h:Cu K H p N c ts lo) (hv:IsQ K H v m) (lt:lo<m) (I:chM p (pq lo) (pq m)<=1) (z:Szq N m):Cu K (upd H c (.lst (ts.map (·.1)++ [v]))) p N c (ts++ [(v,m)]) m:=by
 refine⟨by rw [Ao,map_append];rfl,fun t J=> ?_,by rw [map_append];exact h.cc.snoc lt I z⟩
 rcases mem_append.mp J with h1 | h1
 . exact(h.al t h1).put h.h
 . rw [mem_singleton.mp h1]
   exact hv.put h.h
theorem IsQ.int {H:Hp}{a:Addr}{i:Int} (h:SqT K H a [.int i,.int 1]):IsQ K H (.ref a) (divInt i 1):=Aaj (by decide) (by simp) h
theorem O7 (i:Int):divInt i 1=(i:Rat):=by
 rw [divInt_eq_div]
 have:((1:Int):Rat)=1:=rfl
 grind
theorem Aku (i:Int):pq (divInt i 1)=(i,1):=by
 rw [O7]
 rfl
theorem Aa3 {p:List Int}{l z F:Nat} (I:Pa p l z F):Stc p l z F (divInt (-(F:Nat)) 1) (divInt (F:Nat) 1) (chg (Dr p (-(F:Nat)) (-(F:Nat)+(2*F:Nat)) ((1:Nat):Int))) 4 (3*(tau l z+z+4)) (-(F:Nat)) (2*F) 1:=by
 have F1:=I.F1
 have J:=I.hF
 have o:∀i:Int,Ov (divInt i 1) i 1:=fun i=>by
  unfold Ov
  rw [O7,show((1:Nat):Rat)=1 from rfl,Rat.mul_one]
 refine⟨by decide,by omega,o _,?_,by omega,by omega,rfl,fun _=>⟨by simp,?_⟩,⟨le_refl _,?_⟩,Nat.one_lt_two_pow (by omega)⟩
 . rw [show(-(F:Nat):Int)+(2*F:Nat)=(F:Nat)by omega]
   exact o _
 . have h1:2*F*2^tau l z<=2^(tau l z+z+4):=by
    have a:2*F*2^tau l z<=2^(z+4)*2^tau l z:=mul_le_mul_right _ (by rw [show z+4=(z+2)+2 by omega,pow_add];omega)
    rw [<-pow_add,show z+4+tau l z=tau l z+z+4 by omega]at a
    exact a
   rw [pow_mul,pow_mul,one_mul]
   generalize tau l z+z+4=M at*
   have e:2*F*(3^3)^M*2^tau l z=2*F*2^tau l z*(3^3)^M:=by rw [Nat.mul_assoc,Nat.mul_comm ((3^3)^M),<-Nat.mul_assoc]
   rw [e]
   refine le_trans (mul_le_mul_right _ h1) ?_
   rw [<-mul_pow]
   exact pow_le_pow_left (by decide) _
 . exact lt_of_lt_of_le (show 4<2^3 by decide) (pow_le_pow_right (by decide) (by omega))
theorem at2 {α:Type} (x y z:α) (r:List α):atI (x::y::z::r) 2=some z:=Hq (j:=2) rfl
theorem Ajv:∀p:List Int,adj p<=p.length
 | []=>zero_le _
 | [_]=>zero_le _
 | a::b::r=>by
   have:=Ajv (b::r)
   rw [adj,length_cons]
   split<;>omega
theorem Ao3 (p:List Int):chg p<=p.length:=le_trans (Ajv _) (List.length_filter_le _ _)
structure Sw (K:Frag) (H:Hp) (p:List Int) (l β F:Nat) (c w:Addr) (ts:List (V × Rat)) (ws:List V) (lo:Rat) (n N0:Nat):Prop where
 cu:Cu K H p (NB l β+β) c ts lo
 hw:H w=some (.lst ws)
 cn:Cn K H p l β F (divInt (F:Nat) 1) ws lo n
 le:ts.length+n<=N0
noncomputable def Kr (K:Frag):Sp:=fun vs H Q _=>∃(x:V) (p:List Int) (l β:Nat),vs=[x]/\Po K H x p l β/\p≠ []/\1<=β/\l<=12/\1900*NB l β+100000<=120000000/\Npt p (dr p)/\∀c H' ts lo,Same H H'->H c=none->Cu K H' p (NB l β+β) c ts lo->chA p (pq lo)=0->2<=ts.length->ts.length<=1000000->Q (.ref c) H'
theorem Qz (F:Df K mg "cuts_of_free" Ib ["p"] f fd) (z_len:mg "len"=none) (J:∃u,mg "LEAST_NARROWING"=some u/\RelV (V.int 4) u) (I:Cal P w K mg base 33 "farther_than_roots" ["p"] (Gy K)) (U:Cal P w K mg base 36 "measured" ["p","lo","hi","narrowing"] (Jt K)) (a0:Cal P w K mg base 38 "pieces" ["p","stretch"] (Xf K)):Cal P w K mg base 39 "cuts_of_free" ["p"] (Kr K):=by
 refine F.cal (F.fn.ok Et (fun Z H Q E h=> ?_) (fun aw A outer s H Z Q E hr h=> ?_))
 . obtain⟨x,p,_,_,rfl,_⟩:=h
   rfl
 obtain⟨x,p,l,Y,rfl,hx,np,b1,ak,fw,am,k⟩:=h
 refine Av ⟨_,(Ae (Aj 1 Et.nd (Ai I hr (Aa (Af 0) Ac)))
  (Ae (Aj 2 Et.nd (Dk (Aa (Bj (Aa (Br Dd (Af 1)) (Aa Ad Ac))) Ac)))
  (Ae (Aj 3 Et.nd (Dk (Aa (Ai U hr (Aa (Af 0) (Aa (Bj (Aa (Br Dd (Af 1)) (Aa Ad Ac))) (Aa (Bj (Aa (Af 1) (Aa Ad Ac))) (Aa (Gg (v:= .int 4) rfl J) Ac))))) Ac)))
  (Ae (Cq PassesOwn.never (Al Kc (Bk Bc rfl z_len PySem.boot_len (Aa (Af 3) Ac)) Ad (Ba _)) (Ae (Aj 4 Et.nd (Mj plainAttrs_list slot_list_pop type_list_pop Akj (Af 3)))
  (Ag (Az (Al Kc (Aq Bd (Af 4) Ad (fun _ _=>rfl)) Ad (Ba _)) (Ag (Dn (Gm plainAttrs_list PySem.F.slot_list_extend PySem.F.type_list_extend Aev (Af 3) (Aa (Ai a0 hr (Aa (Af 0) (Aa (Af 4) Ac))) Ac)))) (Ag (Dn (Gm plainAttrs_list PySem.F.slot_list_append PySem.F.type_list_append Fi (Af 2) (Aa (Aq Bd (Af 4) Ad (fun _ _=>rfl)) Ac))))))))
  (Ag (Ak (Af 2))))))),?_⟩
 have nb:=Qc l Y
 refine Bt (fun a2 H'=>∃O:Nat,a2=[some x,some (.int (O:Nat)),none,none,none]/\Same H H'/\2<=O/\O<2^(Y+2)/\∀i,(co p i).natAbs<=(co p (p.length-1)).natAbs*(O-1)) (fun M hM=> ?_) ?_
 . done
   exact⟨x,p,l,Y,rfl,hx,np,by omega,by omega,fun O H1 s1 f2 fb fc=>hM _ _ ⟨O,rfl,s1,f2,fb,fc⟩⟩
 rintro _ H1 ⟨O,rfl,s1,f2,fb,fc⟩
 have pa:Pa p l Y O:=⟨hx.2.1,length_pos_iff.mpr np,hx.2.2.1,by omega,b1,fun i=>Nat.le_of_lt (hx.2.2.2 i),am,by omega,fb⟩
 have a8:Par K H x p l Y O:=⟨pa,hx,ak,fw⟩
 obtain⟨far,near⟩:=Ao2 pa.tp np (show 1<=O by omega) fc
 done
 (intro q1 a9;generalize aa:upd _ q1 _=ax;obtain⟨ac,an⟩:=nw a9 aa;clear aa a9)
 (intro c ad;generalize ec:upd _ c _=Gc;obtain⟨sc,gc⟩:=nw ad ec;clear ec)
 (intro q3 ae;generalize af:upd _ q3 _=ay;obtain⟨a5,ao⟩:=nw ae af;clear af ae)
 (intro q4 ag;generalize ah:upd _ q4 _=az;obtain⟨a3,ap⟩:=nw ag ah;clear ah ag)
 have t4:=(((s1.trans ac).trans sc).trans a5).trans a3
 refine Ag0 a8 t4 ((IsQ.int (.of ao)).mono a3) (IsQ.int (.of ap)) (Aa3 pa) fun z5 H5 s5 w5=> ?_
 try done
 (intro w a4;generalize ew:upd _ w _=Gw;obtain⟨sw,gw⟩:=nw a4 ew;clear ew)
 have t5:=t4.trans s5
 have u5:=((a5.trans a3).trans s5).trans sw
 have cw:c≠w:=fun z=>by
  subst z
  rw [s5 _ _ (a3 _ _ (a5 _ _ gc))]at a4
  cases a4
 have fc:=none_of (s1.trans ac) ad
 have ai:=none_of t5 a4
 have aq:=(Aa3 pa).szq pa
 have c0:Cu K Gw p (NB l Y+Y) c [(.ref q1,divInt (-(O:Nat)) 1)] (divInt (-(O:Nat)) 1):=⟨u5 _ _ gc,fun t ht=>by
  rw [mem_singleton.mp ht]
  exact(IsQ.int (.of an)).mono (sc.trans u5),⟨⟨_,rfl,by rw [Aku];exact near,by rw [O7];show-((O:Nat):Int)<=0;omega⟩,rfl,fun i a b _ hb=>by simp at hb,fun q hq=>by rw [mem_singleton.mp hq];exact aq.1⟩⟩
 have n0:1+ph (chg (Dr p (-(O:Nat)) (-(O:Nat)+(2*O:Nat)) ((1:Nat):Int))) (3*(tau l Y+Y+4))<=1000000:=by
  have a:=Aiv (chg (Dr p (-(O:Nat)) (-(O:Nat)+(2*O:Nat)) ((1:Nat):Int))) (3*(tau l Y+Y+4))
  have b:=Ao3 (Dr p (-(O:Nat)) (-(O:Nat)+(2*O:Nat)) ((1:Nat):Int))
  rw [Gu]at b
  have lp:=hx.2.2.1
  have d:=mul_le_mul (show 2*(3*(tau l Y+Y+4))<=30000 by omega) (show _<=12 from le_trans b (by omega))
  omega
 refine Oj (fun m a2 H'=>∃ts ws lo o,a2=[some x,some (.int (O:Nat)),some (.ref c),some (.ref w),o]/\Same H H'/\Sw K H' p l Y O c w ts ws lo m (1+ph (chg (Dr p (-(O:Nat)) (-(O:Nat)+(2*O:Nat)) ((1:Nat):Int))) (3*(tau l Y+Y+4)))) _ ⟨_,_,_,_,rfl,t5.trans sw,c0,gw,.one (w5.mono sw),le_refl _⟩ ?_
 rintro m a2 H6 ⟨ts,ws,lo,o,rfl,s6,sv⟩
 done
 refine⟨w,_,rfl,.inl (.of sv.hw),?_⟩
 by_cases wl:0<(ws.length:Int)
 case neg=>
  rw [if_neg wl]
  have wn:ws=[]:=List.length_eq_zero_iff.mp (by omega)
  obtain⟨cu,_,cn,le⟩:=sv
  subst wn
  cases cn
  have l2:2<=ts.length:=by
   have l1:=cu.cc.pos
   rw [length_map]at l1
   refine Nat.lt_of_le_of_ne l1 fun z=> ?_
   obtain⟨q0,e0,_,n0⟩:=cu.cc.hd
   have e1:=cu.cc.la
   rw [length_map,<-z,sub_self,e0]at e1
   injection e1 with e1
   rw [e1,O7]at n0
   have:((O:Nat):Int)<=0:=n0
   omega
  refine k _ _ ts _ s6 fc cu (by rw [Aku];exact far) l2 (by omega)
 rw [if_pos wl]
 obtain⟨Z,v,rfl⟩:∃Z v,ws=Z++ [v]:=⟨ws.dropLast,ws.getLast (by intro z;rw [z]at wl;simp at wl),(dropLast_concat_getLast _).symm⟩
 obtain⟨mm,many,ν,κ,n',wt,cn,rfl⟩:=sv.cn.last
 refine Acs ?_
 done
 have S:=sv.hw
 obtain⟨⟨f,W,D,st⟩,a,u,v2,rfl,ha,hu,hv⟩:=id wt
 refine⟨.inl ⟨rfl,_,.of S⟩,w,_,.ref a,rfl,rfl,S,by simp,?_⟩
 rw [List.dropLast_concat]
 refine Bv (Oh ha S) (at2 _ _ _ _) ⟨_,_,rfl,rfl,_,rfl,?_⟩
 have a6:(upd H6 w (.lst Z)) w=some (.lst Z):=Ao
 have s7:Same H (upd H6 w (.lst Z)):=s6.put ai
 have a1:=sv.cu.put (o:= .lst Z) S cw
 have aj:=cn.put (o:= .lst Z) S
 have ar:=wt.put (o:= .lst Z) S
 have au:=hv.put (o:= .lst Z) S
 have av:=Oh (o:= .lst Z) ha S
 have le:=sv.le
 have vl:=cn.len
 have zl:1000000<sizeLine:=by decide
 clear wt cn ha hu hv S sv
 generalize upd H6 w (.lst Z)=H7 at*
 by_cases hm:2<=many
 . rw [if_pos (by rw [decide_eq_true_eq];omega)]
   refine⟨.inl ⟨rfl,_,.of a6⟩,x,_,p,lo,mm,l,Y,O,many,ν,κ,rfl,a8.mono s7,ar,hm,fun z H8 zs n8 s8 hz cz lt=> ?_⟩
   have a7:=s8 _ _ a6
   have b2:=cz.len
   refine⟨w,z,_,_,rfl,rfl,a7,hz,?_,n'+n8,by omega,ts,_,lo,_,rfl,(s7.trans s8).put ai,(a1.mono s8).put a7 cw,Ao,((aj.mono s8).app cz).put a7,by omega⟩
   exact Nat.le_of_lt (lt_of_le_of_lt (show _<=1000000 by omega) zl)
 . rw [if_neg (by rw [decide_eq_true_eq];omega)]
   have pp:=Akt many κ
   refine⟨.inl ⟨rfl,_,.of a1.h⟩,Bv av (at1 _ _ _) ⟨c,_,_,rfl,rfl,a1.h,?_,n',by omega,_,Z,mm,_,rfl,s7.put fc,a1.snoc au ((st.ol.lt st.oh st.D0).mpr (by have:=st.W0;omega)) (by rw [st.chM pa];omega) (st.szq pa).2,by rw [Cr (Ne.symm cw)];exact a6,aj.put a1.h,by rw [length_append,length_singleton];omega⟩⟩
   rw [length_map]
   exact lt_of_le_of_lt (show ts.length<=1000000 by omega) zl
theorem sqb {H:Hp}{a:Addr}{xs:List V} (h:SqL K H a xs):SqB false K H a xs:=by
 unfold SqB
 exact h
theorem Ul (xs:List V) (j:Nat) (h:j<=xs.length):O6 xs (some (j:Nat)) none=xs.drop j:=by
 unfold O6
 rw [HT.K4,HT.Ny]
 rw [min_eq_left h,take_of_length_le (by simp)]
theorem Ahr (xs:List V) (j:Nat) (h:j<=xs.length):O6 xs none (some (j:Nat))=xs.take j:=by
 unfold O6
 rw [HT.K4,HT.Ny]
 rw [min_eq_left h]
 simp
theorem Cu.pt {H:Hp}{p:List Int}{N i:Nat}{c:Addr}{ts:List (V × Rat)}{lo:Rat} (h:Cu K H p N c ts lo) (hi:i<ts.length):∃t,ts[i]? =some t/\(ts.map (·.1))[i]? =some t.1/\(ts.map (·.2))[i]? =some t.2/\IsQ K H t.1 t.2/\Szq N t.2:=by
 have e:=getElem?_eq_getElem hi
 have m:=List.mem_of_getElem? e
 exact⟨ts[i],e,by rw [getElem?_map,e];rfl,by rw [getElem?_map,e];rfl,h.al _ m,h.cc.sz _ (mem_map.mpr ⟨_,m,rfl⟩)⟩
theorem Cu.atl {H:Hp}{p:List Int}{N:Nat}{c:Addr}{ts:List (V × Rat)}{lo:Rat} (h:Cu K H p N c ts lo):∃v,(ts.map (·.1))[(ts.map (·.1)).length-1]? =some v/\IsQ K H v lo/\Szq N lo:=by
 have J:=h.cc.pos
 rw [length_map]at J
 obtain⟨t,_,M,O,i,z⟩:=h.pt (show ts.length-1<ts.length by omega)
 have I:=h.cc.la
 rw [length_map,O]at I
 injection I with I
 rw [I]at i z
 exact⟨_,by rw [length_map];exact M,i,z⟩
theorem X4 {I:List V}{v:V} (h:I[I.length-1]? =some v):atI I (-1)=some v:=by
 have ne:I≠ []:=fun z=>by rw [z]at h;simp at h
 obtain⟨J,y,rfl⟩:∃i y,I=i++ [y]:=⟨_,_,(dropLast_concat_getLast ne).symm⟩
 have:v=y:=by
  rw [length_append,length_singleton,add_sub_cancel,getElem?_append_right (le_refl _),sub_self]at h
  exact(Option.some.inj h).symm
 rw [this]
 exact O5 _ _
theorem Qx {H:Hp}{a b:Addr}{o:HO} (h:H a=none) (g:H b=some o):a≠b:=fun z=>by
 rw [z,g]at h
 cases h
theorem Ara {a b c:Rat} (h:a<b) (g:b<c):a<c:=by grind
theorem Us {z:List V}{i:Nat}{v:V} (h:z[i]? =some v):z.getD i .non=v:=by rw [getD_eq_getElem?_getD,h];rfl
structure Kp (K:Frag) (H:Hp) (p:List Int) (N:Nat) (q:Addr) (ks:List (V × Rat)) (k c:Rat) (i:Nat):Prop where
 cu:Cu K H p N q ks k
 lt:k<c
 ch:chM p (pq k) (pq c)<=1
 le:ks.length<=i+1
noncomputable def T6 (K:Frag):Sp:=fun vs H Q _=>∃(x:V) (c:Addr) (p:List Int) (ts:List (V × Rat)) (lo:Rat) (n N:Nat),vs=[x,.ref c]/\Po K H x p 12 n/\Cu K H p N c ts lo/\2<=ts.length/\ts.length<=1000000/\n+600*(N+1)<=120000000/\∀q H' ks,Same H H'->H q=none->Cu K H' p N q ks lo->ks.length<=1000000->Q (.ref q) H'
theorem Ab7 (F:Df K mg "thinned" Rk ["p","cuts"] f fd) (Y:mg "zip"=none)  (z:Cal P w K mg base 33 "changes" ["p"] (Hi K)) (I:Cal P w K mg base 35 "between" ["p","lo","hi"] (Hh K)):Cal P w K mg base 36 "thinned" ["p","cuts"] (T6 K):=by
 refine F.cal (F.fn.ok K7 (fun vs H Q E h=> ?_) (fun an A outer s H vs Q E hr h=> ?_))
 . obtain⟨x,c,_,_,_,_,_,rfl,_⟩:=h
   rfl
 obtain⟨x,c,p,ts,lo,n,N,rfl,hx,M,l2,lM,hn,k⟩:=h
 refine Av ⟨_,(Ae (Aj 2 K7.nd (Er Od (Af 1) Fw (Fx Ad)))
  (Ae (Ce PassesOwn.never rfl (Nq false false rfl Y (Aa (Er Od (Af 1) (Fx Ad) Fw) (Aa (Er Od (Af 1) (Fx Ad) Fw) Ac))) (Eh rfl (Bb (Ay 3 K7.nd) (Bb (Ay 4 K7.nd) Cz))) (Ag (Az (Al Kc (Ai z hr (Aa (Ai I hr (Aa (Af 0) (Aa (Aq Ea (Af 2) (Br Dd Ad) (fun _ _=>rfl)) (Aa (Af 4) Ac)))) Ac)) Ad (Ba _)) (Ag (Dn (Gm plainAttrs_list PySem.F.slot_list_append PySem.F.type_list_append Fi (Af 2) (Aa (Af 3) Ac)))) Aw)))
  (Ae (Dn (Gm plainAttrs_list PySem.F.slot_list_append PySem.F.type_list_append Fi (Af 2) (Aa (Aq Ea (Af 1) (Br Dd Ad) (fun _ _=>rfl)) Ac)))
  (Ag (Ak (Af 2)))))),?_⟩
 done
 have ll:(ts.map (·.1)).length=ts.length:=length_map ..
 refine⟨c,_,rfl,.of M.h,fun q hq=> ?_⟩
 rw [show(some (1:Int))=some ((1:Nat):Int)from rfl,Ahr _ 1 (by omega)]
 obtain⟨t0,e0,f0,g0,i0,z0⟩:=M.pt (show 0<ts.length by omega)
 have e1:(ts.map (·.1)).take 1=[t0.1]:=by
  cases ts with
  | nil=>cases e0
  | cons a r=>cases e0;rfl
 rw [e1]
 (generalize eq:upd _ q _=Gq;obtain⟨sq,gq⟩:=nw hq eq;clear eq)
 refine⟨c,_,rfl,.of (sq _ _ M.h),?_⟩
 rw [Ul _ 1 (by omega)]
 (intro a1 a3;generalize a4:upd _ a1 _=ao;obtain⟨U,a5⟩:=nw a3 a4;clear a4)
 refine⟨c,_,rfl,.of (U _ _ (sq _ _ M.h)),?_⟩
 rw [show(some (2:Int))=some ((2:Nat):Int)from rfl,Ul _ 2 (by omega)]
 (intro a2 a6;generalize a7:upd _ a2 _=a8;obtain⟨W,a9⟩:=nw a6 a7;clear a7)
 have t2:=(sq.trans U).trans W
 have u2:=U.trans W
 refine⟨a1,a2,rfl,⟨_,sqb (.of (W _ _ a5))⟩,⟨_,sqb (.of a9)⟩,?_⟩
 have aa:=M.mono t2
 have ac:∀i,i<ts.length->∃t,ts[i]? =some t/\(ts.map (·.1))[i]? =some t.1/\(ts.map (·.2))[i]? =some t.2/\IsQ K a8 t.1 t.2/\Szq N t.2:=fun i hi=>aa.pt hi
 have af:a1≠q:=Qx a3 gq
 have ag:a2≠q:=Qx a6 (U _ _ gq)
 have ah:((ts.map (·.1)).drop 1).length=ts.length-1:=by rw [length_drop,ll]
 have ai:((ts.map (·.1)).drop 2).length=ts.length-2:=by rw [length_drop,ll]
 obtain⟨t1,_,_,g1,_,_⟩:=ac 1 (by omega)
 have ad:=M.cc.st 0 _ _ g0 g1
 have d1:∀i v,(ts.map (·.1))[i+1]? =some v->((ts.map (·.1)).drop 1).getD i .non=v:=fun i v h=>Us (by rw [getElem?_drop,add_comm 1 i];exact h)
 have d2:∀i v,(ts.map (·.1))[i+2]? =some v->((ts.map (·.1)).drop 2).getD i .non=v:=fun i v h=>Us (by rw [getElem?_drop,add_comm 2 i];exact h)
 have k0:Cu K a8 p N q [t0] t0.2:=⟨u2 _ _ gq,fun t ht=>by rw [mem_singleton.mp ht];exact i0.mono t2,⟨by
  obtain⟨q0,e,h⟩:=M.cc.hd
  rw [g0]at e
  cases e
  exact⟨_,rfl,h⟩,rfl,fun i a b _ hb=>by simp at hb,fun r aj=>by rw [mem_singleton.mp aj];exact z0⟩⟩
 have ap:=aa.h
 have gc:∀ {H3:Hp},Same H H3->H3 c=some (.lst (ts.map (·.1))):=fun s=>s _ _ M.h
 have ae:=W _ _ a5
 refine Yi (xs:=(ts.map (·.1)).drop 1) (ys:=(ts.map (·.1)).drop 2) (ts.length-2) (by rw [ah,ai];omega) (fun i σ H'=>(∃o1 o2,σ=[some x,some (.ref c),some (.ref q),o1,o2])/\Same H H'/\(H' a1=some (.lst ((ts.map (·.1)).drop 1))/\H' a2=some (.lst ((ts.map (·.1)).drop 2)))/\∃ks kl t,ts[i+1]? =some t/\IsQ K H' t.1 t.2/\Kp K H' p N q ks kl t.2 i) ⟨⟨_,_,rfl⟩,t2,⟨ae,a9⟩,[t0],_,t1,‹_›,‹_›,k0,ad.1,ad.2,le_refl _⟩ ?_ ?_ ?_
 . rintro i σ H3 ⟨_,Z,⟨h1,h2⟩,_⟩
   exact⟨sqb (.of h1),sqb (.of h2)⟩
 . rintro i σ H3 q3 hi ⟨⟨o1,o2,rfl⟩,Z,⟨h1,h2⟩,ks,kl,t,et,it,J⟩ ak
   refine Jw (.of Ao) ?_
   obtain⟨b,eb,fb,gb,ib,zb⟩:=ac (i+2) (by omega)
   have ft:(ts.map (·.1))[i+1]? =some t.1:=by rw [getElem?_map,et];rfl
   have gt:(ts.map (·.2))[i+1]? =some t.2:=by rw [getElem?_map,et];rfl
   have s4:=Same.upd ak (.tup [t.1,b.1])
   rw [d1 i _ ft,d2 i _ fb]
   generalize upd H3 q3 (.tup [t.1,b.1])=H4 at*
   have st:=M.cc.st (i+1) _ _ gt gb
   have kc:=J.cu.mono s4
   obtain⟨v,ev,iv,zv⟩:=kc.atl
   obtain⟨a0,t4⟩:IsQ K H4 b.1 b.2/\Same H H4:=⟨(M.mono (Z.trans s4)).al b (List.mem_of_getElem? eb),Z.trans s4⟩
   done
   refine Lf (.of kc.h) (X4 ev) ?_
   try done
   refine Aji hx iv a0 t4 zv zb hn fun z5 H5 ws s5 am e5=> ?_
   try done
   refine Acr am ?_
   try done
   rw [e5]
   have O:=kc.mono s5
   have t5:=t4.trans s5
   have S:=s4.trans s5
   by_cases hm:1<((chM p (pq kl) (pq b.2):Nat):Int)
   . rw [if_pos hm]
     refine⟨.inl ⟨rfl,_,.of O.h⟩,q,_,_,rfl,rfl,O.h,?_,⟨_,_,rfl⟩,t5.put hq,⟨by rw [Cr af];exact S _ _ h1,by rw [Cr ag];exact S _ _ h2⟩,_,_,b,eb,(a0.mono s5).put O.h,O.snoc (it.mono S) J.lt J.ch (M.cc.sz _ (List.mem_of_getElem? gt)),st.1,st.2,?_⟩
     . rw [length_map]
       have:=J.le
       exact lt_of_le_of_lt (show ks.length<=1000000 by omega) (by decide)
     . rw [length_append,length_singleton]
       have:=J.le
       omega
   . rw [if_neg hm]
     exact⟨⟨_,_,rfl⟩,t5,⟨S _ _ h1,S _ _ h2⟩,ks,kl,b,eb,a0.mono s5,O,Ara J.lt st.1,by omega,Nat.le_succ_of_le J.le⟩
 . rintro σ H3 ⟨⟨o1,o2,rfl⟩,Z,⟨h1,h2⟩,ks,kl,t,et,it,J⟩
   done
   have e9:t.2=lo:=by
    have la:=M.cc.la
    rw [length_map,getElem?_map,show ts.length-1=ts.length-2+1 by omega,et]at la
    exact Option.some.inj la
   obtain⟨v,ev,iv,zv⟩:=(M.mono Z).atl
   refine⟨.inl ⟨rfl,_,.of J.cu.h⟩,Lf (.of (gc Z)) (X4 ev) ⟨q,_,_,rfl,rfl,J.cu.h,?_,k _ _ _ (Z.put hq) hq (J.cu.snoc iv (e9▸J.lt) (e9▸J.ch) zv) ?_⟩⟩
   . rw [length_map]
     have:=J.le
     exact lt_of_le_of_lt (show ks.length<=1000000 by omega) (by decide)
   . rw [length_append,length_singleton]
     have:=J.le
     omega
noncomputable def Aa0 (K:Frag):Sp:=fun vs H Q _=>∃(x v:V) (p:List Int) (q:Rat) (n m:Nat),vs=[x,v]/\Po K H x p 12 n/\IsQ K H v q/\Szq m q/\n+600*(m+1)<=120000000/\∀z H' ws,Same H H'->Row K H' z ws->chg ws=chA p (pq q)->Q z H'
noncomputable def Aa1 (K:Frag):Sp:=fun vs H Q _=>∃(x v:V) (p:List Int) (q:Rat) (n m:Nat),vs=[x,v]/\Po K H x p 12 n/\IsQ K H v q/\Szq m q/\n+600*(m+1)<=120000000/\∀z H' ws,Same H H'->Row K H' z ws->chg ws=chB p (pq q)->Q z H'
theorem Aih (F:Df K mg "above" Y9 ["p","c"] f fd)   (c_poly:Cal P w K mg base 33 "poly" ["weights"] (Ij K)) (J:Cal P w K mg base 33 "spread" ["weights","factor"] (Jc K)) (I:Cal P w K mg base 34 "seen_at" ["p","top","bottom"] (Jb K)):Cal P w K mg base 35 "above" ["p","c"] (Aa0 K):=by
 refine F.cal (F.fn.ok Ai2 (fun Z H Q E h=> ?_) (fun a0 A outer s H Z Q E M h=> ?_))
 . obtain⟨x,v,_,_,_,_,rfl,_⟩:=h
   rfl
 obtain⟨x,v,p,q,n,m,rfl,U,⟨c,rfl,O⟩,S,hn,k⟩:=h
 obtain⟨⟨a,rfl,ha⟩,tp,W,zp⟩:=id U
 refine Av ⟨_,(Ag (Ak (Ai c_poly M (Aa (Ai J M (Aa (Ai I M (Aa (Af 0) (Aa (Aq Bd (Af 1) Ad (fun _ _=>rfl)) (Aa (Aq Bd (Af 1) Ad (fun _ _=>rfl)) Ac)))) (Aa (Aq Bd (Af 1) Ad (fun _ _=>rfl)) Ac))) Ac)))),?_⟩
 done
 refine Bv O (at0 _ _) (Bv O (at1 _ _ _) ?_)
 try done
 refine Ag4 ha (Same.refl _) W U.mem S.1 S.2 (by omega) fun z1 H1 Y h1 w1=> ?_
 try done
 refine Bv (Y.tup O) (at1 _ _ _) ?_
 try done
 refine P0 (.inl h1) (by rw [El];exact W) w1 S.2 (by omega) fun z2 H2 s2 h2 w2=> ?_
 try done
 refine⟨z2,_,rfl,.inl h2,by rw [Cd,El];omega,fun z H3 s3 h3=>k _ _ _ ((Y.trans s2).trans s3) ⟨_,rfl,h3⟩ (Ui _)⟩
theorem Aii (F:Df K mg "below" Za ["p","c"] f fd)   (c_poly:Cal P w K mg base 33 "poly" ["weights"] (Ij K)) (J:Cal P w K mg base 33 "spread" ["weights","factor"] (Jc K)) (I:Cal P w K mg base 34 "seen_at" ["p","top","bottom"] (Jb K)):Cal P w K mg base 35 "below" ["p","c"] (Aa1 K):=by
 refine F.cal (F.fn.ok Ai3 (fun Z H Q E h=> ?_) (fun a0 A outer s H Z Q E M h=> ?_))
 . obtain⟨x,v,_,_,_,_,rfl,_⟩:=h
   rfl
 obtain⟨x,v,p,q,n,m,rfl,U,⟨c,rfl,O⟩,S,hn,k⟩:=h
 obtain⟨⟨a,rfl,ha⟩,tp,W,zp⟩:=id U
 refine Av ⟨_,(Ag (Ak (Ai c_poly M (Aa (Ai J M (Aa (Ai I M (Aa (Af 0) (Aa (Aq Bd (Af 1) Ad (fun _ _=>rfl)) (Aa (Aq Bd (Af 1) Ad (fun _ _=>rfl)) Ac)))) (Aa (Br Dd (Aq Bd (Af 1) Ad (fun _ _=>rfl))) Ac))) Ac)))),?_⟩
 done
 refine Bv O (at0 _ _) (Bv O (at1 _ _ _) ?_)
 try done
 refine Ag4 ha (Same.refl _) W U.mem S.1 S.2 (by omega) fun z1 H1 Y h1 w1=> ?_
 try done
 refine Bv (Y.tup O) (at1 _ _ _) ?_
 try done
 refine P0 (.inl h1) (by rw [El];exact W) w1 S.2.neg (by omega) fun z2 H2 s2 h2 w2=> ?_
 try done
 refine⟨z2,_,rfl,.inl h2,by rw [Cd,El];omega,fun z H3 s3 h3=>k _ _ _ ((Y.trans s2).trans s3) ⟨_,rfl,h3⟩ (Ui _)⟩
open Classical in
theorem Akm {p:List Int} (h:frB p=true):p≠ []/\Npt p (dr p):=by
 unfold frB at h
 obtain⟨np,g,I,J⟩:=of_decide_eq_true h
 refine⟨np,fun d M O S=> ?_⟩
 have:=(Dv.len M I.tr (fun z=>by rw [z]at J;simp at J) (I.all d O S)).2
 omega
noncomputable def Mh (K:Frag):Sp:=fun vs H Q E=>∃(x:V) (p:List Int) (l β:Nat),vs=[x]/\Po K H x p l β/\1<=β/\l<=12/\Few l (β+8)/\β<=100000/\1900*NB l β+100000<=120000000/\(frB p=true->∀q H' ks lo,Same H H'->H q=none->Cu K H' p (NB l β+β) q ks lo->chA p (pq lo)=0->ks.length<=1000000->Q (.ref q) H')/\(frB p=false->∀H',Same H H'->E (.ref (cA K "NoFree")) none H')
theorem Aby (F:Df K mg "cuts_of" Ra ["p"] f fd)  (I:Xv K (cA K "NoFree")) (J:mg "NoFree"=some (.ref (cA K "NoFree"))) (M:Cal P w K mg base 36 "thinned" ["p","cuts"] (T6 K)) (O:Cal P w K mg base 42 "is_free" ["one"] (T5 K)) (z:Cal P w K mg base 39 "cuts_of_free" ["p"] (Kr K)):Zu P w K mg base 43 "cuts_of" ["p"] (Mh K):=by
 refine F.calE (F.fn.okE Ach (fun vs H Q E h=> ?_) (fun a3 A outer s H vs Q E Y h=> ?_))
 . obtain⟨x,_,_,_,rfl,_⟩:=h
   rfl
 obtain⟨x,p,l,S,rfl,Z,b1,U,a0,bM,fw,k1,k2⟩:=h
 refine Av ⟨_,(Ae (Az (Fe (Dq (Ai O Y (Aa (Af 0) Ac)))) (Ag (Jd I J (Aa Im Ac))) Aw)
  (Ag (Ak (Ai M Y (Aa (Af 0) (Aa (Ai z Y (Aa (Af 0) Ac)) Ac)))))),?_⟩
 done
 refine⟨x,p,l,S,rfl,Z,a0,bM,fun H1 W=>⟨_,rfl,?_⟩⟩
 cases hf:frB p with
 | false=>
   rw [if_pos rfl]
   exact k2 hf _ W
 | true=>
   rw [if_neg (by decide)]
   obtain⟨np,a1⟩:=Akm hf
   have nb:=Qc l S
   refine⟨x,p,l,S,rfl,Z.mono W,np,b1,U,fw,a1,fun c H2 ts lo s2 f2 cu far l2 lM=> ?_⟩
   exact⟨x,c,p,ts,lo,S,NB l S+S,rfl,(Z.mono (W.trans s2)).weak U (le_refl _),cu,l2,lM,by omega,fun q H3 ks s3 f3 a2 l3=>k1 hf _ _ _ _ ((W.trans s2).trans s3) (none_of (W.trans s2) f3) a2 far l3⟩
inductive Wh (K:Frag) (H:Hp):V->Bool->Prop where
 | int (i:Int):Wh K H (.int i) true
 | bl (b:Bool):Wh K H (.bl b) false
 | non:Wh K H .non false
 | str (x:Str):Wh K H (.str x) false
 | tup {a:Addr}{xs:List V} (e:H a=some (.tup xs)):Wh K H (.ref a) false
 | lst {a:Addr}{xs:List V} (e:H a=some (.lst xs)):Wh K H (.ref a) false
noncomputable def Avx (K:Frag):Sp:=fun vs H Q _=>∃v b,vs=[v]/\Wh K H v b/\Q (.bl b) H
theorem isi {H:Hp}{z:Bool->Prop}{v:V}{t:Value}{T:String}{b:Bool} (O:Xp K H v t) (S:kitOne K t (.type T)=some b) (q:z b):
 ∃x I J M,[v,V.ty T]=[x,V.ty J]/\Xp K H x I/\kitOne K I (.type J)=some M/\z M:=⟨v,t,T,b,rfl,O,S,q⟩
theorem Ahb {T U:String}{b:Bool} (h:(if(Value.type T==Value.type U)=true then some true else if PySem.W.kitMeta U=true then subIn [] (.type T) (.type U)else none)=some b):kitOne K (.type T) (.type U)=some b:=h
theorem Apw:kitOne K (.type "int") (.type "int")=some true:=Ahb (by decide+kernel)
theorem Apv:kitOne K (.type "int") (.type "bool")=some false:=Ahb (by decide+kernel)
theorem Apu:kitOne K (.type "bool") (.type "int")=some true:=Ahb (by decide+kernel)
theorem Apt:kitOne K (.type "bool") (.type "bool")=some true:=Ahb (by decide+kernel)
theorem Apy:kitOne K (.type "NoneType") (.type "int")=some false:=Ahb (by decide+kernel)
theorem Apz:kitOne K (.type "str") (.type "int")=some false:=Ahb (by decide+kernel)
theorem Ap0:kitOne K (.type "tuple") (.type "int")=some false:=Ahb (by decide+kernel)
theorem Apx:kitOne K (.type "list") (.type "int")=some false:=Ahb (by decide+kernel)
noncomputable def Ro (K:Frag):Sp:=Avx K
theorem Yr (F:Df K mg "is_whole" N5 ["thing"] f fd) (z:mg "isinstance"=none) (J:mg "int"=none) (I:mg "bool"=none)   :Cal P w K mg base 33 "is_whole" ["thing"] (Ro K):=by
 refine F.cal (F.fn.ok Zh (fun M H Q E h=> ?_) (fun O A outer s H M Q E S h=> ?_))
 . obtain⟨v,b,rfl,_⟩:=h
   rfl
 obtain⟨v,b,rfl,hv,q⟩:=h
 refine Av ⟨_,(Ag (Ak (Qe (Bk Ml rfl z boot_isinstance (Aa (Af 0) (Aa (G8 (v:= .ty "int") rfl J boot_int rfl) Ac))) (Qf (Ac6 (Bk Ml rfl z boot_isinstance (Aa (Af 0) (Aa (G8 (v:= .ty "bool") rfl I boot_bool rfl) Ac)))))))),?_⟩
 done
 cases hv with
 | int i=>
   refine isi (.int i) Apw ?_
   done
   refine isi (.int i) Apv ?_
   done
   exact q
 | bl b=>
   refine isi (.bl b) Apu ?_
   done
   refine isi (.bl b) Apt ?_
   done
   exact q
 | non=>
   refine isi .non Apy ?_
   done
   exact q
 | str x=>
   refine isi (.str x) Apz ?_
   done
   exact q
 | tup e=>
   refine isi (.tup e) Ap0 ?_
   done
   exact q
 | lst e=>
   refine isi (.lst e) Apx ?_
   done
   exact q
theorem Akg:kitOne K (.type "tuple") (.type "tuple")=some true:=Ahb (by decide+kernel)
theorem Akf:kitOne K (.type "list") (.type "list")=some true:=Ahb (by decide+kernel)
inductive TyA (K:Frag) (H:Hp):V->Value->Prop where
 | of {v:V}{t:Value} (h:Xp K H v t):TyA K H v t
 | tup {a:Addr}{xs:List V} (h:SqT K H a xs):TyA K H (.ref a) (.type "tuple")
theorem Z5 {X:Cx}:Hv X (.builtin "isinstance") (fun xs H Q=>∃x t T b,xs=[x,.ty T]/\TyA X.K H x t/\kitOne X.K t (.type T)=some b/\Q (.bl b) H):=by
 intro pins s σ H xs J Q I r h
 obtain⟨x,t,T,b,rfl,z,M,q⟩:=h
 cases z with
 | of z=>exact Ml pins s σ H _ J Q I r ⟨x,t,T,b,rfl,z,M,q⟩
 | tup hs=>exact Ahl pins s σ H _ J Q I r ⟨_,_,T,b,rfl,hs,M,q⟩
theorem isa {H:Hp}{z:Bool->Prop}{v:V}{t:Value}{T:String}{b:Bool} (O:TyA K H v t) (S:kitOne K t (.type T)=some b) (q:z b):
 ∃x I J M,[v,V.ty T]=[x,V.ty J]/\TyA K H x I/\kitOne K I (.type J)=some M/\z M:=⟨v,t,T,b,rfl,O,S,q⟩
noncomputable def Li (K:Frag):Sp:=fun vs H Q _=>∃(v:V) (q:Rat),vs=[v]/\IsQ K H v q/\Q (.bl true) H
theorem Ss (F:Df K mg "is_fraction" Jm ["thing"] f fd) (I:mg "isinstance"=none) (M:mg "tuple"=none) (z_len:mg "len"=none)  (z:Cal P w K mg base 33 "is_whole" ["thing"] (Ro K)) (J:Cal P w K mg base 33 "divisor" ["one","other"] (Iz K)):Cal P w K mg base 34 "is_fraction" ["thing"] (Li K):=by
 refine F.cal (F.fn.ok Ig (fun S H Q E h=> ?_) (fun U A outer s H S Q E O h=> ?_))
 . obtain⟨v,b,rfl,_⟩:=h
   rfl
 obtain⟨v,q,rfl,⟨a,rfl,h⟩,k⟩:=h
 refine Av ⟨_,(Ae (Az (Ec (Ep (Fe (Dq (Bk Z5 rfl I boot_isinstance (Aa (Af 0) (Aa (G8 (v:= .ty "tuple") rfl M boot_tuple rfl) Ac))))) (Fg (Al S6 (Bk Bc rfl z_len PySem.boot_len (Aa (Af 0) Ac)) Ad (Ba _))))) (Ag (Ak Ei)) Aw)
  (Ae (Dp (Af 0) (Eh rfl (Bb (Ay 1 Ig.nd) (Bb (Ay 2 Ig.nd) Cz))))
  (Ae (Az (Ec (Ep (Fe (Dq (Ai z O (Aa (Af 1) Ac)))) (Fg (Fe (Dq (Ai z O (Aa (Af 2) Ac))))))) (Ag (Ak Ei)) Aw)
  (Ag (Ak (Qe (Ey Am6 (Af 2) Ad (Ba _)) (Qf (Ey G4 (Ai J O (Aa (Af 1) (Aa (Af 2) Ac))) Ad (Ba _))))))))),?_⟩
 done
 refine isa (.tup h) Akg ?_
 done
 refine⟨_,_,rfl,.inr h,?_⟩
 done
 refine Jw h ?_
 done
 refine⟨_,_,rfl,.int _,?_⟩
 done
 refine⟨_,_,rfl,.int _,?_⟩
 done
 have d:=Ahs q
 rw [if_pos (by omega)]
 refine⟨_,_,rfl,?_⟩
 done
 have r:Int.gcd q.num (q.den:Int)=1:=q.reduced
 rw [r]
 exact k
noncomputable def Ik (K:Frag):Sp:=fun vs H Q _=>∃(x:V) (c:Addr) (p:List Int) (ts:List (V × Rat)) (lo:Rat) (n N:Nat),vs=[x,.ref c]/\Po K H x p 12 n/\p≠ []/\Cu K H p N c ts lo/\chA p (pq lo)=0/\ts.length<=1000000/\n+600*(N+1)<=120000000/\∀H',Same H H'->Q (.bl true) H'
theorem Sx (F:Df K mg "roots_right" G6 ["p","cuts"] f fd) (a2:mg "zip"=none) (a3:mg "all"=none) (J:mg "isinstance"=none) (z_list:mg "list"=none) (z_len:mg "len"=none)  (z:Cal P w K mg base 33 "changes" ["p"] (Hi K)) (I:Cal P w K mg base 34 "is_fraction" ["thing"] (Li K)) (S:Cal P w K mg base 35 "below" ["p","c"] (Aa1 K)) (U:Cal P w K mg base 35 "above" ["p","c"] (Aa0 K)) (a0:Cal P w K mg base 33 "less" ["one","other"] (Vq K)) (O:Cal P w K mg base 35 "between" ["p","lo","hi"] (Hh K)):Cal P w K mg base 36 "roots_right" ["p","cuts"] (Ik K):=by
 refine F.cal (F.fn.ok Ih (fun vs H Q E h=> ?_) (fun ag A outer s H vs Q E hr h=> ?_))
 . obtain⟨x,c,_,_,_,_,_,rfl,_⟩:=h
   rfl
 obtain⟨x,c,p,ts,lo,n,N,rfl,hx,np,cu,far,lM,hn,k⟩:=h
 obtain⟨⟨a,rfl,ha⟩,tp,lp,zp⟩:=id hx
 have ll:(ts.map (·.1)).length=ts.length:=length_map ..
 have l1:=cu.cc.pos
 rw [length_map]at l1
 refine Av ⟨_,(Ae (Az (Ec (Ep (Al (Ka hr.units) (Af 0) (Bj Ac) (Ba _)) (Ep (Fe (Dq (Bk Ml rfl J boot_isinstance (Aa (Af 1) (Aa (G8 (v:= .ty "list") rfl z_list boot_list rfl) Ac))))) (Fg (Al G4 (Bk Bc rfl z_len PySem.boot_len (Aa (Af 1) Ac)) Ad (Ba _)))))) (Ag (Ak Ei)) Aw)
  (Ae (Az (Fe (Dq (Bk (Ahk rfl) rfl a3 boot_all (Aa (Ft (ts:=["cut"]) (fs:=[]) rfl (Dh.of (sc:=Ar G6) (N:=["p","cuts","lo","hi"]) rfl rfl (by decide+kernel)) (Io (Af 1)) (fun _ _ _=>(Ay 0 (show Nodup (["cut"]:List Str)by decide+kernel))) (fun _ _ _=>En) (fun _ _ _=>(Ai I hr (Aa (Af 0) Ac)))) Ac)))) (Ag (Ak Ei)) Aw)
  (Ae (Az (Ec (Ep (Al Kc (Ai z hr (Aa (Ai S hr (Aa (Af 0) (Aa (Aq Ea (Af 1) Ad (fun _ _=>rfl)) Ac))) Ac)) Ad (Ba _)) (Fg (Al Kc (Ai z hr (Aa (Ai U hr (Aa (Af 0) (Aa (Aq Ea (Af 1) (Br Dd Ad) (fun _ _=>rfl)) Ac))) Ac)) Ad (Ba _))))) (Ag (Ak Ei)) Aw)
  (Ae (Ce PassesOwn.never rfl (Nq false false rfl a2 (Aa (Af 1) (Aa (Er Od (Af 1) (Fx Ad) Fw) Ac))) (Eh rfl (Bb (Ay 2 Ih.nd) (Bb (Ay 3 Ih.nd) Cz))) (Ag (Az (Ec (Ep (Fe (Dq (Ai a0 hr (Aa (Af 2) (Aa (Af 3) Ac))))) (Fg (Al Kc (Ai z hr (Aa (Ai O hr (Aa (Af 0) (Aa (Af 2) (Aa (Af 3) Ac)))) Ac)) Ad (Ba _))))) (Ag (Ak Ei)) Aw)))
  (Ag (Ak Ei)))))),?_⟩
 refine Bt (fun W H'=>W=[some (.ref a),some (.ref c),none,none]/\Same H H') (fun M hM=> ?_) ?_
 . done
   refine⟨by decide,fun p0 a4=> ?_⟩
   have s0:=Same.upd a4 (.tup [])
   refine Ez (ms:=[]) (s0.tup ha) (.of Ao) ?_
   try done
   rw [if_neg np]
   refine isi (.lst (s0 _ _ cu.h)) Akf ?_
   try done
   refine⟨c,_,rfl,.inl (.of (s0 _ _ cu.h)),?_⟩
   rw [if_neg (by omega)]
   exact hM _ _ ⟨rfl,s0⟩
 rintro _ H1 ⟨rfl,s1⟩
 have a5:=cu.mono s1
 refine Bt (fun W H'=>W=[some (.ref a),some (.ref c),none,none]/\Same H H') (fun M hM=> ?_) ?_
 . done
   refine⟨⟨_,.of a5.h⟩,fun p0 a4=>Jf (es:=ts) (inj:=Prod.fst) (fun _=> .bl true) (le_trans lM (by decide)) a4 (V0 (.of a5.h)) ?_ ?_⟩
   . intro e H2 R he s2 hR
     done
     exact⟨_,_,rfl,(a5.al e he).mono s2,hR _ (Same.refl _)⟩
   . intro H2 s2 h2
     have em:ts.map (fun _=>V.bl true)=(ts.map fun _=>true).map V.bl:=by rw [map_map];rfl
     rw [em]at h2
     try done
     refine⟨p0,_,rfl,.of h2,?_⟩
     have e1:(ts.map fun _=>true).all id=true:=by simp
     rw [e1]
     try done
     exact hM _ _ ⟨rfl,s1.trans s2⟩
 rintro _ H2 ⟨rfl,s2⟩
 have Y:=cu.mono s2
 refine Bt (fun W H'=>W=[some (.ref a),some (.ref c),none,none]/\Same H H') (fun M hM=> ?_) ?_
 . obtain⟨t0,_,f0,g0,i0,z0⟩:=Y.pt (show 0<ts.length by omega)
   obtain⟨v,ev,iv,zv⟩:=Y.atl
   obtain⟨q0,e0,b0,_⟩:=Y.cc.hd
   rw [g0]at e0
   cases e0
   done
   refine Lf (.of Y.h) (Hq (j:=0) f0) ?_
   try done
   refine⟨_,_,p,_,n,N,rfl,hx.mono s2,i0,z0,hn,fun z3 H3 ws s3 aa e3=> ?_⟩
   try done
   refine Acr aa ?_
   try done
   rw [e3,b0,if_neg (by decide)]
   refine Lf (.of (s3 _ _ Y.h)) (X4 ev) ?_
   try done
   refine⟨_,_,p,_,n,N,rfl,hx.mono (s2.trans s3),iv.mono s3,zv,hn,fun z4 H4 ws s4 ac e4=> ?_⟩
   try done
   refine Acr ac ?_
   try done
   rw [e4,far,if_neg (by decide)]
   exact hM _ _ ⟨rfl,(s2.trans s3).trans s4⟩
 rintro _ H3 ⟨rfl,s3⟩
 have a1:=cu.mono s3
 done
 refine⟨c,_,rfl,.of a1.h,?_⟩
 rw [show(some (1:Int))=some ((1:Nat):Int)from rfl,Ul _ 1 (by omega)]
 (intro q4 a6;generalize a7:upd _ q4 _=ad;obtain⟨Z,a8⟩:=nw a6 a7;clear a7 a6)
 have a9:=Z _ _ a1.h
 refine⟨c,q4,rfl,⟨_,sqb (.of a9)⟩,⟨_,sqb (.of a8)⟩,?_⟩
 refine Yi (xs:=ts.map (·.1)) (ys:=(ts.map (·.1)).drop 1) (ts.length-1) (by rw [length_drop,ll];omega) (fun i σ H'=>Same ad H'/\∃o1 o2,σ=[some (.ref a),some (.ref c),o1,o2]) ⟨Same.refl _,_,_,rfl⟩ ?_ ?_ ?_
 . rintro i σ H5 ⟨s5,_⟩
   exact⟨sqb (.of (s5 _ _ a9)),sqb (.of (s5 _ _ a8))⟩
 . rintro i σ H5 q5 hi ⟨s5,o1,o2,rfl⟩ ae
   refine Jw (.of Ao) ?_
   obtain⟨t1,_,f1,g1,i1,z1⟩:=(a1.mono Z).pt (show i<ts.length by omega)
   obtain⟨t2,_,f2,g2,i2,z2⟩:=(a1.mono Z).pt (show i+1<ts.length by omega)
   have st:=cu.cc.st i _ _ g1 g2
   have e1:=Us f1
   have e2:((ts.map (·.1)).drop 1).getD i .non=t2.1:=Us (by rw [getElem?_drop,add_comm 1 i];exact f2)
   have s6:=Same.upd ae (.tup [t1.1,t2.1])
   rw [e1,e2]
   have t6:=s5.trans s6
   generalize upd H5 q5 (.tup [t1.1,t2.1])=H6 at*
   done
   refine Agz (i1.mono t6) (i2.mono t6) z1 z2 (by omega) (fun _=> ?_) (fun h=>absurd st.1 h)
   try done
   refine Aji hx (i1.mono t6) (i2.mono t6) ((s3.trans Z).trans t6) z1 z2 hn fun z7 H7 ws s7 af e7=> ?_
   try done
   refine Acr af ?_
   try done
   rw [e7,if_neg (by omega)]
   exact⟨t6.trans s7,_,_,rfl⟩
 . rintro σ H5 ⟨s5,o1,o2,rfl⟩
   done
   exact k _ ((s3.trans Z).trans s5)
theorem Abg {n:Nat}{a:Int} (h:Sz n a) (l:n<=64):Builtin.Int.intBits a<=64:=le_trans (PySem.intBits_le_iff.mpr h) l
noncomputable def Ou (_:Frag):Sp:=fun vs H Q _=>∃c k:Int,vs=[.int c,.int k]/\0<=k/\k<1000/\∀n:Int,Q (.int n) H
theorem Wy (F:Df K mg "_law_stirred" Ma ["_law_cell","_law_k"] f fd)    :Cal P w K mg base 33 "_law_stirred" ["_law_cell","_law_k"] (Ou K):=by
 refine F.cal (F.fn.ok Km (fun z H Q E h=> ?_) (fun I A outer s H z Q E W h=> ?_))
 . obtain⟨c,k,rfl,_⟩:=h
   rfl
 obtain⟨c,k,rfl,Y,Z,q⟩:=h
 refine Av ⟨_,(Ae (Aj 2 Km.nd (Ah Fb (Ah Bo (Ah Dc (Ah Dc (Af 0) (Ah Bo Ad (Af 1))) Ad) Ad) Ad))
  (Ae (Aj 2 Km.nd (Ah Fb (Ah Bo (Af 2) (Ah Dc (Ah Cy (Af 2) Ad) Ad)) Ad))
  (Ag (Ak (Ah Dc (Ah Bo (Ah Fb (Ah Bo (Af 2) (Ah Dc (Ah Cy (Af 2) Ad) Ad)) Ad) Ad) (Af 2)))))),?_⟩
 done
 have J:IntMulOk 7919 k:= .of_left (Abg (by unfold Sz;decide:Sz 13 (7919:Int)) (by decide))
 have M:IntMulOk (c+7919*k+1) 48271:= .of_right (Abg (by unfold Sz;decide:Sz 16 (48271:Int)) (by decide))
 have d0:=emod_nonneg ((c+7919*k+1)*48271) (by decide:(2147483647:Int)≠0)
 have d1:=emod_lt_of_pos ((c+7919*k+1)*48271) (by decide:(0:Int)<2147483647)
 generalize (c+7919*k+1)*48271%2147483647=d at*
 have O:IntMulOk d (d/1009+69621):= .of_left (Abg (by unfold Sz;omega:Sz 31 d) (by decide))
 have e0:=emod_nonneg (d*(d/1009+69621)) (by decide:(2147483647:Int)≠0)
 have e1:=emod_lt_of_pos (d*(d/1009+69621)) (by decide:(0:Int)<2147483647)
 generalize d*(d/1009+69621)%2147483647=e at*
 have S:IntMulOk e (e/2003+40692):= .of_left (Abg (by unfold Sz;omega:Sz 31 e) (by decide))
 have U:IntMulOk (e*(e/2003+40692)%2147483629) 2147483647:= .of_right (Abg (by unfold Sz;decide:Sz 31 (2147483647:Int)) (by decide))
 exact⟨J,M,by decide,⟨by decide,by decide⟩,O,by decide,⟨by decide,by decide⟩,S,by decide,U,q _⟩
noncomputable def Xg (K:Frag):Sp:=fun vs H Q _=>∃c:Int,vs=[.int c,.int 5]/\∀z H' p,Same H H'->SqT K H' z (p.map V.int)->p.length<=6->p≠ []->(∀x∈p,Sz 40 x)->(∀h:p≠ [],p.getLast h≠0)->Q (.ref z) H'
theorem Afa (F:Df K mg "_law_poly" Vh ["_law_cell","_law_most"] f fd) (W:mg "range"=none) (Y:mg "tuple"=none)  (M:Cal P w K mg base 33 "_law_stirred" ["_law_cell","_law_k"] (Ou K)):Cal P w K mg base 34 "_law_poly" ["_law_cell","_law_most"] (Xg K):=by
 refine F.cal (F.fn.ok Hu (fun vs H Q E h=> ?_) (fun a9 A outer s H vs Q E hr h=> ?_))
 . obtain⟨c,rfl,_⟩:=h
   rfl
 obtain⟨c,rfl,q⟩:=h
 refine Av ⟨_,(Ae (Aj 2 Hu.nd (Ah Fb (Af 0) (Ah Dc (Af 1) Ad)))
  (Ae (Aj 3 Hu.nd (Aq Ea (Dk (Aa Ad (Aa Ad (Aa Ad (Aa (Ah Dc (Ah Bo Ad (Ah Aqh Ad Ad)) Ad) Ac))))) (Ah Fb (Ah Cy (Af 0) Ad) Ad) (fun _ _=>rfl)))
  (Ae (Aj 4 Hu.nd (Ah Cy (Af 0) Ad))
  (Ae (Aj 5 Hu.nd (Dk Ac))
  (Ae (Ce PassesOwn.never rfl (Fv rfl W (Aa (Ah Dc (Af 2) Ad) Ac)) (Ay 6 Hu.nd) (Ag (Az (Ec (Ip (Al Kc (Af 4) Ad (Ba _)) (G9 (Al G4 (Ah Fb (Ah Cy (Af 0) Ad) Ad) Ad (Ba _))))) (Ae (Dn (Gm plainAttrs_list PySem.F.slot_list_append PySem.F.type_list_append Fi (Af 5) (Aa (Ah Dw (Ah Fb (Af 4) (Af 3)) (Ah Cy (Af 3) Ad)) Ac)))
  (Ag (Aj 4 Hu.nd (Ah Cy (Af 4) (Af 3))))) (Ag (Dn (Gm plainAttrs_list PySem.F.slot_list_append PySem.F.type_list_append Fi (Af 5) (Aa (Ah Dw (Ah Fb (Ai M hr (Aa (Af 0) (Aa (Af 6) Ac))) (Af 3)) (Ah Cy (Af 3) Ad)) Ac)))))))
  (Ae (Az (Al G4 (Aq Ea (Af 5) (Br Dd Ad) (fun _ _=>rfl)) Ad (Ba _)) (Ag (Dp Ad (Fy (Af 5) (Br Dd Ad) set_list))) Aw)
  (Ag (Ak (Dj Ds rfl Y boot_tuple (Aa (Af 5) Ac)))))))))),?_⟩
 done
 refine⟨by decide,⟨by decide,by decide,by decide⟩,.of_left (Abg (by unfold Sz;decide:Sz 2 (2:Int)) (by decide)),by decide,fun p1 a7=>⟨⟨by decide,by decide⟩,by decide,?_⟩⟩
 have s1:=Same.upd a7 (.lst [V.int 25,V.int 25,V.int 7,V.int (2*10^toNat 12+1)])
 have a3:∃v,atI [V.int 25,V.int 25,V.int 7,V.int (2*10^toNat 12+1)] (c/11%4)=some (.int v)/\0<v/\v<=2000000000001:=by
  have:c/11%4=0\/c/11%4=1\/c/11%4=2\/c/11%4=3:=by omega
  rcases this with h | h | h | h<;>rw [h]
  . exact⟨25,rfl,by decide,by decide⟩
  . exact⟨25,rfl,by decide,by decide⟩
  . exact⟨7,rfl,by decide,by decide⟩
  . exact⟨_,rfl,by decide,by decide⟩
 obtain⟨v,ev,v0,v1⟩:=a3
 refine Lf (.of Ao) ev ?_
 try done
 refine⟨⟨by decide,by decide⟩,by decide,fun p2 a4=>⟨by omega,by omega,?_⟩⟩
 have s2:=s1.trans (Same.upd a4 (.lst []))
 have a5:H p2=none:=Same.free s1 a4
 have wz:∀x:Int,Sz 40 (x%v-v/2):=fun x=>by
  have aa:(2:Nat)^40=1099511627776:=by decide
  have a0:=emod_nonneg x (Int.ne_of_gt v0)
  have a1:=emod_lt_of_pos x v0
  unfold Sz
  omega
 have vz:Ahc v 2:=⟨by decide,by decide⟩
 have vb:∀x:Int,Ahc x v:=fun x=>⟨v0,(by unfold Sz;omega:Sz 42 v).log2 (by omega) (by decide)⟩
 have ac:1000<=sizeLine:=by decide
 refine Sd (es:=List.range (c%(5+1)+1).toNat) (inj:=fun i=> .int (0+(i:Nat))) (fun Z σ H'=>∃(I:Int) (o:Option V) (ws:List Int),σ=[some (.int c),some (.int 5),some (.int (c%(5+1))),some (.int v),some (.int I),some (.ref p2),o]/\Same H H'/\H' p2=some (.lst (ws.map V.int))/\ws.length=Z.length/\∀x∈ws,Sz 40 x)
  ⟨_,_,[],rfl,s2,Ao,rfl,by simp⟩ ?_ ?_ ?_
 . rintro Z σ H' _
   exact Hj
 . rintro Z e a8 σ H' he ⟨I,o,ws,rfl,s3,hm,U,hw⟩
   have a6:=congrArg List.length he
   rw [length_range,length_append,length_cons]at a6
   have el:e<100:=by
    have:=mem_range.mp (show e∈List.range (c%(5+1)+1).toNat by rw [he];simp)
    omega
   have add:∀(w J:Int),Sz 40 w->∃(I:Int) (o:Option V) (S:List Int),[some (V.int c),some (.int 5),some (.int (c%(5+1))),some (.int v),some (.int J),some (.ref p2),some (.int (0+(e:Nat)))]=[some (.int c),some (.int 5),some (.int (c%(5+1))),some (.int v),some (.int I),some (.ref p2),o]/\Same H (upd H' p2 (.lst (ws.map V.int++ [.int w])))/\
    upd H' p2 (.lst (ws.map V.int++ [.int w])) p2=some (.lst (S.map V.int))/\S.length=(Z++ [e]).length/\∀x∈S,Sz 40 x:=fun w J a2=>by
    refine⟨_,_,ws++ [w],rfl,fun b u eb=> ?_,by rw [Ao,map_append];rfl,by rw [length_append,length_append,U];rfl,fun x hx=> ?_⟩
    . rw [Cr (Cw eb a5)]
      exact s3 _ _ eb
    . rcases mem_append.mp hx with hx | hx
      . exact hw x hx
      . have ex:x=w:=by simpa using hx
        subst ex
        exact a2
   have ap:∀(w J:Int),Sz 40 w->Afz (.ref p2) [.int w] H' (fun _ H1=>∃(I:Int) (o:Option V) (S:List Int),[some (V.int c),some (.int 5),some (.int (c%(5+1))),some (.int v),some (.int J),some (.ref p2),some (.int (0+(e:Nat)))]=[some (.int c),some (.int 5),some (.int (c%(5+1))),some (.int v),some (.int I),some (.ref p2),o]/\Same H H1/\
    H1 p2=some (.lst (S.map V.int))/\S.length=(Z++ [e]).length/\∀x∈S,Sz 40 x):=fun w J a2=>⟨p2,_,_,rfl,rfl,hm,by rw [length_map];omega,add w J a2⟩
   have ty:tyV K "list" (.ref p2) H':= .inl ⟨rfl,_,.of hm⟩
   done
   split
   . refine⟨⟨by decide,by decide⟩,by decide,?_⟩
     split
     . refine⟨ty,v0,vz,?_⟩
       exact⟨p2,_,_,rfl,rfl,hm,by rw [length_map];omega,vb I,add _ _ (wz I)⟩
     . refine⟨ty,c,_,rfl,by omega,by omega,fun n=> ?_⟩
       try done
       exact⟨v0,vz,ap _ _ (wz n)⟩
   . refine⟨ty,c,_,rfl,by omega,by omega,fun n=> ?_⟩
     try done
     exact⟨v0,vz,ap _ _ (wz n)⟩
 . rintro σ H' ⟨I,o,ws,rfl,s3,hm,U,hw⟩
   rw [length_range]at U
   have h0:ws≠ []:=fun z=>by rw [z]at U;simp only [length_nil]at U;omega
   obtain⟨O,d,rfl⟩:∃(i:List Int) (x:Int),ws=i++ [x]:=⟨_,_,(dropLast_concat_getLast h0).symm⟩
   have em:∀x:Int,(O++ [x]).map V.int=O.map V.int++ [V.int x]:=fun x=>by rw [map_append];rfl
   rw [em]at hm
   rw [length_append,length_singleton]at U
   done
   refine Lf (.of hm) (O5 _ _) ?_
   try done
   by_cases hd:d=0
   . rw [if_pos hd]
     refine⟨p2,_,-1,O.length,rfl,rfl,hm,?_,?_⟩
     . unfold ixN
       rw [if_neg (by decide),length_append,length_map,length_singleton,if_pos (by omega)]
       exact congrArg some (by omega)
     . have e:(O.map V.int++ [V.int d]).set O.length (.int 1)=(O++ [1]).map V.int:=by
        rw [em,List.set_append_right _ _ (by rw [length_map];exact le_refl _),length_map,sub_self]
        rfl
       rw [e]
       try done
       refine⟨p2,_,rfl,.inl ⟨.of Ao,fun z hz=>q z _ (O++ [1]) ?_ (.of Ao) ?_ (by simp) (fun x hx=> ?_) (fun h=>by rw [List.getLast_concat];decide)⟩⟩
       . refine Same.trans (fun b u eb=> ?_) (Same.upd hz _)
         rw [Cr (Cw eb a5)]
         exact s3 _ _ eb
       . rw [length_append,length_singleton]
         omega
       . rcases mem_append.mp hx with hx | hx
         . exact hw x (mem_append_left _ hx)
         . have ex:x=1:=by simpa using hx
           subst ex
           unfold Sz
           decide
   . rw [if_neg hd]
     refine⟨p2,_,rfl,.inl ⟨.of hm,fun z hz=>q z _ (O++ [d]) (s3.trans (Same.upd hz _)) (by rw [em];exact .of Ao) ?_ (by simp) hw (fun h=>by rw [List.getLast_concat];exact hd)⟩⟩
     rw [length_append,length_singleton]
     omega
theorem Aee (x y:Int):Int.gcd y (x.fmod y)=Int.gcd x y:=by
 have e:x.fmod y+y*(x.fdiv y)=x:=Int.fmod_add_mul_fdiv x y
 refine Nat.dvd_antisymm ?_ ?_
 . have h1:((Int.gcd y (x.fmod y):Nat):Int)∣y:=gcd_dvd_left ..
   have h2:((Int.gcd y (x.fmod y):Nat):Int)∣x.fmod y:=gcd_dvd_right ..
   have z:((Int.gcd y (x.fmod y):Nat):Int)∣x:=by
    have:=dvd_add h2 (dvd_trans h1 (dvd_mul_right y (x.fdiv y)))
    rwa [e]at this
   exact natCast_dvd_natCast.mp (Int.dvd_coe_gcd z h1)
 . have h1:((Int.gcd x y:Nat):Int)∣x:=gcd_dvd_left ..
   have h2:((Int.gcd x y:Nat):Int)∣y:=gcd_dvd_right ..
   have z:((Int.gcd x y:Nat):Int)∣x.fmod y:=by
    have:x.fmod y=x-y*(x.fdiv y):=by omega
    rw [this]
    exact Int.dvd_sub h1 (dvd_trans h2 (dvd_mul_right y (x.fdiv y)))
   exact natCast_dvd_natCast.mp (Int.dvd_coe_gcd h2 z)
theorem Ah1 (x:Int) {y:Int} (h:y≠0):(x.fmod y).natAbs<y.natAbs:=by
 rcases lt_or_gt_of_ne h with h | h
 . have e:(-x).fmod (-y)= -x.fmod y:=Int.neg_fmod_neg x y
   have h1:=Int.fmod_nonneg_of_pos (-x) (show 0< -y by omega)
   have h2:=Int.fmod_lt_of_pos (-x) (show 0< -y by omega)
   omega
 . have h1:=Int.fmod_nonneg_of_pos x h
   have h2:=Int.fmod_lt_of_pos x h
   omega
noncomputable def Pz (_:Frag):Sp:=fun vs H Q _=>∃a b:Int,vs=[.int a,.int b]/\Q (.int (Int.gcd a b:Nat)) H
theorem Ain (F:Df K mg "_law_gcd" Zf ["_law_one","_law_other"] f fd) (z:mg "abs"=none)   :Cal P w K mg base 33 "_law_gcd" ["_law_one","_law_other"] (Pz K):=by
 refine F.cal (F.fn.ok Aay (fun J H Q E h=> ?_) (fun M A outer s H J Q E O h=> ?_))
 . obtain⟨a,b,rfl,_⟩:=h
   rfl
 obtain⟨a,b,rfl,q⟩:=h
 refine Av ⟨_,(Ae (Cq PassesOwn.never (Al S6 (Af 1) Ad (Ba _)) (Ag (Gs (i:=0) (j:=1) rfl Aay.nd rfl rfl (by decide) rfl rfl (Aa (Af 1) (Aa (Ah Am8 (Af 0) (Af 1)) Ac)) rfl)))
  (Ag (Ak (Bk Je rfl z boot_abs (Aa (Af 0) Ac))))),?_⟩
 done
 refine Le (fun σ H'=>H'=H/\∃x y:Int,σ=[some (.int x),some (.int y)]/\Int.gcd x y=Int.gcd a b) (fun σ _=>match σ with | [_,some (.int y)]=>y.natAbs | _=>0) ⟨rfl,a,b,rfl,rfl⟩ ?_
 rintro σ H' ⟨rfl,x,y,rfl,e⟩
 done
 by_cases I:y=0
 . rw [if_pos I]
   subst I
   rw [Int.gcd_zero_right]at e
   repeat (first | done | simp only [abs_eq])
   rw [e]
   exact q
 . rw [if_neg I]
   refine Ag5 ?_
   done
   exact⟨I,⟨y,x.fmod y,rfl,by rw [Aee];exact e⟩,Ah1 x I⟩
noncomputable def Fz (n:Nat) (K:Frag) (H:Hp) (v:V) (t b:Int):Prop:=(∃a,v= .ref a/\SqT K H a [.int t,.int b])/\Sz n t/\Sz n b/\0<b
theorem Fz.mono {n:Nat}{H H':Hp}{v:V}{t b:Int} (h:Fz n K H v t b) (s:Same H H'):Fz n K H' v t b:=by
 obtain⟨⟨a,e,z⟩,r⟩:=h
 exact⟨⟨a,e,s.tup z⟩,r⟩
theorem Avy {n:Nat}{H H1:Hp}{Q:VK}{v:V}{t b:Int} (h:Fz n K H1 v t b) (s:Same H1 H) (q:Q (.int t) H):Aq8 K v (.int 0) H Q:=by
 obtain⟨⟨a,rfl,z⟩,_⟩:=h.mono s
 exact Bv z (at0 _ _) q
theorem Avz {n:Nat}{H H1:Hp}{Q:VK}{v:V}{t b:Int} (h:Fz n K H1 v t b) (s:Same H1 H) (q:Q (.int b) H):Aq8 K v (.int 1) H Q:=by
 obtain⟨⟨a,rfl,z⟩,_⟩:=h.mono s
 exact Bv z (at1 _ _ _) q
noncomputable def Nf (K:Frag):Sp:=fun vs H Q _=>∃(t b:Int) (n:Nat),vs=[.int t,.int b]/\Sz n t/\Sz n b/\n<=1000/\0<b/\∀z H' t' b',Same H H'->Fz n K H' z t' b'->t'.natAbs<=t.natAbs->b'<=b->t'*b=t*b'->Int.gcd t' b'=1->Q z H'
theorem U5 (F:Df K mg "_law_fraction" Kg ["_law_top","_law_bottom"] f fd)   (z:Cal P w K mg base 33 "_law_gcd" ["_law_one","_law_other"] (Pz K)):Cal P w K mg base 34 "_law_fraction" ["_law_top","_law_bottom"] (Nf K):=by
 refine F.cal (F.fn.ok M7 (fun U H Q E h=> ?_) (fun W A outer s H U Q E Y h=> ?_))
 . obtain⟨t,b,n,rfl,_⟩:=h
   rfl
 obtain⟨t,b,n,rfl,Z,J,hn,hb,k⟩:=h
 refine Av ⟨_,(Ae (Aj 2 M7.nd (Ai z Y (Aa (Af 0) (Aa (Af 1) Ac))))
  (Ag (Ak (Bj (Aa (Ah U7 (Af 0) (Af 2)) (Aa (Ah U7 (Af 1) (Af 2)) Ac)))))),?_⟩
 done
 refine⟨t,b,rfl,?_⟩
 have I:0<Int.gcd t b:=Int.gcd_pos_of_ne_zero_right t (by omega)
 have gz:Sz n ((Int.gcd t b:Nat):Int):=J.of_abs (by
  have:=le_of_dvd (by omega) (Int.gcd_dvd_natAbs_right t b)
  omega)
 have gd:((Int.gcd t b:Nat):Int)∣b:=gcd_dvd_right ..
 have gt:((Int.gcd t b:Nat):Int)∣t:=gcd_dvd_left ..
 generalize M:Int.gcd t b=g at*
 have O:∀x,Aot x (g:Int):=fun x=>⟨by omega,gz.log2 (by omega) (by omega)⟩
 try done
 refine⟨O _,O _,?_⟩
 rw [fdiv_eq_ediv_of_nonneg _ (by omega),fdiv_eq_ediv_of_nonneg _ (by omega)]
 obtain⟨c,rfl⟩:=gt
 obtain⟨d,rfl⟩:=gd
 have g1:(0:Int)<g:=by omega
 rw [Int.mul_ediv_cancel_left _ (by omega),Int.mul_ediv_cancel_left _ (by omega)]
 have d0:0<d:=pos_r g1 hb
 have S:c.natAbs<=((g:Int)*c).natAbs:=by
  rw [natAbs_mul,natAbs_natCast]
  exact le_mul_of_pos_left _ I
 have ad:d.natAbs<=((g:Int)*d).natAbs:=by
  rw [natAbs_mul,natAbs_natCast]
  exact le_mul_of_pos_left _ I
 intro q hq
 exact k _ _ c d (Same.upd hq _) ⟨⟨q,rfl,.of Ao⟩,Z.of_abs S,J.of_abs ad,d0⟩ S (by omega) (by grind) (by
  rw [Int.gcd_mul_left,natAbs_natCast]at M
  exact Nat.eq_of_mul_eq_mul_left I (by rw [M,Nat.mul_one]))
theorem Ap4 {u v:Int} (J:u≠0):∀(a:Int) (g:List Int),(g=[]->a≠0)->Tr g->Tr (lm u v a g)
 | a,[],h,_=> .inr ⟨by simp [lm],by simpa [lm]using mul_ne_zero J (h rfl)⟩
 | a,b::g,_,t=>by
   have M:∀g:List Int,∀b,lm u v b g≠ []:=fun g b z=>by
    have:=congrArg List.length z
    rw [Aeo]at this
    simp at this
   have I:Tr (lm u v b g):=Ap4 J b g (fun z=>by
    subst z
    rcases t with t | ⟨_,t⟩
    . cases t
    . simpa using t) (by
    rcases t with t | ⟨_,t⟩
    . cases t
    . by_cases z:g=[]
      . exact .inl z
      . exact .inr ⟨z,by rw [getLast_cons z]at t;exact t⟩)
   rcases I with I | ⟨O,I⟩
   . exact absurd I (M g b)
   . exact .inr ⟨by simp [lm],(getLast_cons (a:=u*a-v*b) O).symm▸I⟩
theorem Ap3 {u v:Int}{n:Nat} (I:Sz 2 u) (hv:Sz 3 v):∀(a:Int) (g:List Int),Sz n a->(∀x∈g,Sz n x)->∀x∈lm u v a g,Sz (n+4) x
 | a,[],ha,_,x,z=>by
   have e:x=u*a:=by simpa [lm]using z
   subst e
   exact(I.mul ha).mono (by omega)
 | a,b::r,ha,hg,x,z=>by
   have J:=hg b (by simp)
   rw [lm]at z
   rcases mem_cons.mp z with rfl | z
   . exact((I.mul ha).sub (hv.mul J)).mono (by omega)
   . exact Ap3 I hv b r J (fun y M=>hg y (by simp [M])) x z
noncomputable def Ot (K:Frag):Sp:=fun vs H Q _=>∃c:Int,vs=[.int c]/\∀z H' (p:List Int),Same H H'->SqT K H' z (p.map V.int)->Tr p->p≠ []->p.length<=6->(∀x∈p,Sz 40 x)->Q (.ref z) H'
theorem Wx (F:Df K mg "_law_product" Jp ["_law_cell"] f fd) (J:mg "range"=none) (O:mg "tuple"=none) (z_len:mg "len"=none)  (I:Cal P w K mg base 34 "_law_fraction" ["_law_top","_law_bottom"] (Nf K)):Cal P w K mg base 35 "_law_product" ["_law_cell"] (Ot K):=by
 refine F.cal (F.fn.ok Dz (fun vs H Q E h=> ?_) (fun ad A outer s H vs Q E hr h=> ?_))
 . obtain⟨c,rfl,_⟩:=h
   rfl
 obtain⟨c,rfl,k⟩:=h
 refine Av ⟨_,(Ae (Aj 1 Dz.nd (Bj (Aa (Ah Dc Ad (Ah Fb (Af 0) Ad)) Ac)))
  (Ae (Aj 2 Dz.nd (Ah Cy (Af 0) Ad))
  (Ae (Ce PassesOwn.never rfl (Fv rfl J (Aa (Ah Fb (Af 2) Ad) Ac)) (Ay 3 Dz.nd) (Ae (Aj 4 Dz.nd (Ai I hr (Aa (Ah Dw (Ah Fb (Ah Cy (Af 2) Ad) Ad) Ad) (Aa (Ah Dc Ad (Ah Fb (Ah Cy (Af 2) Ad) Ad)) Ac))))
  (Ae (Aj 2 Dz.nd (Ah Cy (Ah Cy (Af 2) Ad) Ad))
  (Ae (Aj 5 Dz.nd (Ah Aqf (Dk (Aa Ad Ac)) (Ft (ts:=["_law_weight"]) (fs:=[(4,"_law_root")]) rfl (Dh.of (sc:=Ar Jp) (N:=["_law_cell","_law_found","_law_part","_law_k","_law_root","_law_longer","_law_j"]) rfl rfl (by decide+kernel)) (Ho (Af 1)) (fun _ _ _=>(Ay 0 (show Nodup (["_law_weight","_law_root"]:List Str)by decide+kernel))) (fun _ _ _=>En) (fun _ _ _=>(Ah Bo (Af 0) (Aq (Aek K) (Af 1) Ad (fun _ _=>rfl)))))))
  (Ae (Ce PassesOwn.never rfl (Fv rfl J (Aa (Bk Bc rfl z_len PySem.boot_len (Aa (Af 1) Ac)) Ac)) (Ay 6 Dz.nd) (Ag (Dp (Ah Dw (Aq Ea (Af 5) (Af 6) (fun _ _=>rfl)) (Ah Bo (Aq Bd (Af 1) (Af 6) (fun _ _=>rfl)) (Aq Bd (Af 4) Ad (fun _ _=>rfl)))) (Fy (Af 5) (Af 6) set_list))))
  (Ag (Aj 1 Dz.nd (Dj Ds rfl O boot_tuple (Aa (Af 5) Ac)))))))))
  (Ag (Ak (Af 1)))))),?_⟩
 refine Bt (fun a3 H'=>Same H H'/\∃(A:Addr) (e:Int),0<e/\Sz 3 e/\a3=[some (.int c),some (.ref A),none,none,none,none,none]/\SqT K H' A ([e].map V.int)) (fun N hN=> ?_) ?_
 . done
   exact⟨by decide,fun p1 a4=>hN _ _ ⟨Same.upd a4 _,p1,1+c%5,by omega,by unfold Sz;omega,rfl,.of Ao⟩⟩
 rintro σ H2 ⟨s2,A0,e,e0,ez,rfl,a5⟩
 done
 refine⟨⟨by decide,by decide⟩,by decide,by omega,by omega,?_⟩
 refine Ama (c/5%5).toNat (fun i=> .int (0+(i:Nat))) (fun i σ H'=>Same H H'/\∃(A:Addr) (M:Int) (g:List Int) (o1 o2 o3 o4:Option V),σ=[some (.int c),some (.ref A),some (.int M),o1,o2,o3,o4]/\SqT K H' A (g.map V.int)/\g.length=i+1/\Tr g/\(∀x∈g,Sz (3+4*i) x))
  ⟨s2,A0,_,[e],_,_,_,_,rfl,a5,rfl,.inr ⟨by simp,by simpa using(show e≠0 by omega)⟩,fun x hx=>by
   have:x=e:=by simpa using hx
   subst this
   exact ez⟩ ?_ ?_ ?_
 . rintro i σ H' _
   exact Hj
 . rintro i σ H' hi ⟨s3,A,M,g,o1,o2,o3,o4,rfl,hA,lg,tg,hz⟩
   done
   refine⟨⟨by decide,by decide⟩,by decide,⟨by decide,by decide⟩,by decide,_,_,10,rfl,by unfold Sz;omega,by unfold Sz;omega,by decide,by omega,fun z H5 v u s4 hf av bu _ gc=> ?_⟩
   have a1:Sz 3 v:=by unfold Sz;omega
   have a2:Sz 2 u:=by have:=hf.2.2.2;unfold Sz;omega
   have u0:u≠0:=by have:=hf.2.2.2;omega
   try done
   refine⟨⟨by decide,by decide⟩,⟨by decide,by decide⟩,?_⟩
   have U:=s4.tup hA
   have s5:=s3.trans s4
   intro p6 a6
   have s6:=Same.upd a6 (.lst [V.int 0])
   have g6:(upd H5 p6 (.lst [V.int 0])) p6=some (.lst [V.int 0]):=Ao
   generalize upd H5 p6 (.lst [V.int 0])=H6 at*
   refine⟨⟨_,s6.tup U⟩,fun p7 a7=>Jf (es:=g) (inj:=V.int) (fun w=> .int (w*u)) (by rw [lg];exact le_trans (show i+1<=9 by omega) (by decide)) a7 (Ud (s6.tup U)) ?_ ?_⟩
   . intro w H7 R hw s7 a8
     done
     refine Avz (hf.mono s6) s7 ?_
     try done
     exact⟨(hz w hw).mulOk a2 (by omega),a8 _ (Same.refl _)⟩
   intro H7 s7 h7
   have e7:g.map (fun w=>V.int (w*u))=(g.map (u* ·)).map V.int:=by
    rw [map_map]
    exact map_congr_left fun w _=>congrArg V.int (mul_comm w u)
   rw [e7]at h7
   have sl:1000<=sizeLine:=by decide
   refine⟨p6,p7,_,_,rfl,rfl,s7 _ _ g6,h7,by rw [length_map,length_map,lg];show 1+(i+1)<=sizeLine;omega,fun p8 Y=> ?_⟩
   have W:=s6.trans s7
   try done
   refine⟨A,_,rfl,.inr ((W.trans (Same.upd Y _)).tup U),?_⟩
   rw [length_map,lg]
   refine⟨by omega,by omega,?_⟩
   rw [show(((i+1:Nat):Int)).toNat=i+1 by omega]
   refine Ama (i+1) (fun j=> .int (0+(j:Nat))) (fun j σ H'=>Same H7 H'/\∃(D g1 S:List Int) (a:Int) (o:Option V),σ=[some (.int c),some (.ref A),some (.int (M/5/39)),some (.int (0+(i:Nat))),some z,some (.ref p8),o]/\H' p8=some (.lst ((D++u*a::S.map (u* ·)).map V.int))/\g=g1++S/\g1.length=j/\D.length=j/\D++lm u v a S=lm u v 0 g)
    ⟨Same.upd Y _,[],[],g,0,_,rfl,by rw [Ao,mul_zero];rfl,rfl,rfl,rfl,rfl⟩ ?_ ?_ ?_
   . rintro j σ H' _
     exact Hj
   . rintro j σ H8 hj ⟨s8,D,g1,S,a,o,rfl,hm,hg,Z,hD,a0⟩
     cases S with
     | nil=>
       have:=congrArg List.length hg
       rw [append_nil]at this
       omega
     | cons y S=>
       repeat (first | done | simp only [zero_add])
       rw [map_cons]at hm
       have hy:y∈g:=by rw [hg];simp
       have a9:=(W.trans s8).tup U
       have i1:atI ((D++u*a::u*y::S.map (u* ·)).map V.int) ((j:Nat):Int)=some (.int (u*a)):=by
        rw [<-hD]
        exact Zz
       have i2:atI (g.map V.int) ((j:Nat):Int)=some (.int y):=by
        rw [hg,<-Z]
        exact Zz
       refine Lf (.of hm) i1 ?_
       try done
       refine Bv a9 i2 ?_
       try done
       refine Avy (hf.mono W) s8 ?_
       try done
       refine⟨(hz y hy).mulOk a1 (by omega),p8,_,_,j,rfl,rfl,hm,by rw [<-hD];exact Aei,s8.put Y,D++ [u*a-v*y],g1++ [y],S,y,_,rfl,?_,by rw [hg];simp,by simp [Z],by simp [hD],?_⟩
       . rw [Ao,<-hD,Agl,mul_comm y v,append_assoc]
         rfl
       . rw [<-a0,append_assoc]
         rfl
   . rintro σ H8 ⟨s8,D,g1,S,a,o,rfl,hm,hg,Z,hD,a0⟩
     cases S with
     | cons y S=>
       have:=congrArg List.length hg
       rw [length_append,length_cons]at this
       omega
     | nil=>
       done
       refine⟨p8,_,rfl,.inl ⟨.of hm,fun p9 aa=> ?_⟩⟩
       try done
       have s9:=s8.trans (Same.upd aa (.tup ((D++ [u*a]).map V.int)))
       have ac:=W.trans s9
       have e9:lm u v 0 g=D++ [u*a]:=a0.symm
       refine⟨s5.trans ac,p9,_,lm u v 0 g,_,_,_,_,rfl,by rw [e9];exact .of Ao,by rw [Aeo,lg],Ap4 u0 0 g (fun z0=>by rw [z0]at lg;simp at lg) tg,fun x hx=> ?_⟩
       have:=Ap3 a2 a1 0 g Alj hz x hx
       exact this.mono (by omega)
 . rintro σ H' ⟨s3,A,M,g,o1,o2,o3,o4,rfl,hA,lg,tg,hz⟩
   done
   exact k A _ g s3 hA tg (fun z=>by rw [z]at lg;simp at lg) (by omega) fun x hx=>(hz x hx).mono (by omega)
theorem Acp (p:List Int):trim (p++ [0])=trim p:=by
 refine Vv (Cp p) fun i=> ?_
 rw [Bq]
 unfold co
 rw [getD_eq_getElem?_getD,getD_eq_getElem?_getD]
 by_cases h:i<p.length
 . rw [getElem?_append_left h]
 . rw [getElem?_append_right (by omega),getElem?_eq_none (l:=p) (by omega)]
   cases h':i-p.length with
   | zero=>rfl
   | succ j=>rfl
theorem Aeu (c:Int) (f:Nat->Int):∀(d i:Nat),mu (replicate d 0++ [c]) f i=if d<=i then c*f (i-d)else 0
 | 0,i=>by
   show c*f i+sh (mu [] f) i=_
   rw [if_pos (zero_le i),sub_zero]
   cases i<;>simp [sh,mu]
 | d+1,0=>by
   rw [replicate_succ,cons_append,mu,if_neg (by omega)]
   simp [sh]
 | d+1,i+1=>by
   rw [replicate_succ,cons_append,mu]
   show 0*f (i+1)+mu (replicate d 0++ [c]) f i=_
   rw [Aeu c f d i,zero_mul,zero_add,Nat.add_sub_add_right]
   by_cases h:d<=i
   . rw [if_pos h,if_pos (by omega)]
   . rw [if_neg h,if_neg (by omega)]
noncomputable def RsE (f g p:List Int):Prop:=∃(L:Int) (u:List Int),L≠0/\∀i,L*co f i=co p i+mu u (co g) i
theorem RsE.start (f g:List Int):RsE f g f:=⟨1,[],by decide,fun i=>by
 show 1*co f i=co f i+0
 omega⟩
theorem RsE.step {f g p r:List Int} (h:RsE f g p) {c lead:Int} (z:c≠0) {d:Nat} (e:∀i,co r i=c*co p i-(if d<=i then lead*co g (i-d)else 0)):RsE f g r:=by
 obtain⟨L,u,I,h⟩:=h
 refine⟨c*L,al (u.map (c* ·)) (replicate d 0++ [lead]),mul_ne_zero z I,fun i=> ?_⟩
 rw [Sh]
 show c*L*co f i=co r i+(mu (u.map (c* ·)) (co g) i+mu (replicate d 0++ [lead]) (co g) i)
 rw [Mv,Aeu,e,mul_assoc,h i,mul_add]
 omega
theorem RsE.congr {f g p r:List Int} (h:RsE f g p) (e:∀i,co r i=co p i):RsE f g r:=by
 obtain⟨L,u,z,h⟩:=h
 exact⟨L,u,z,fun i=>by rw [e,h i]⟩
theorem Ajh {t:List Int}{m:Nat} (I:Tr t) (h:∀i,m<=i->co t i=0):t.length<=m:=by
 refine Classical.byContradiction fun n=> ?_
 have J:t≠ []:=fun z=>n (by rw [z];exact zero_le _)
 exact I.lead J (h _ (by omega))
structure RsI (K:Frag) (H H':Hp) (a1:Addr) (f g p:List Int) (n:Nat):Prop where
 sm:Same H H'
 it:H' a1=some (.lst (p.map V.int))
 e:RsE f g p
 tr:Tr p
 ne:p≠ []
 nw:H a1=none
structure RsZ (f g p:List Int) (n s:Nat):Prop where
 st:s+g.length<=f.length+1
 le:p.length+s<=f.length
 sz:∀i,Sz (n+s*(n+1)) (co p i)
noncomputable def RsR (f g:List Int) (N:Nat) (Q:VK) (H:Hp):Prop:=∀(z:Addr) (H':Hp) (t:List Int) (k:Int),Same H H'->H' z=some (.lst (t.map V.int))->Tr t->t.length<g.length->k≠0->RsE f g (t.map (k* ·))->(∀i,Sz N (co t i))->Q (.ref z) H'
noncomputable def Xh (K:Frag):Sp:=fun vs H Q _=>∃(a b:Addr) (f g:List Int) (n N:Nat),vs=[.ref a,.ref b]/\SqL K H a (f.map V.int)/\SqL K H b (g.map V.int)/\Tr f/\Tr g/\g≠ []/\g.length<=f.length/\f.length<=6/\(∀i,Sz n (co f i))/\(∀i,Sz n (co g i))/\n+(f.length-g.length+1)*(n+1)<=N/\N<=100000/\(g.length=1\/N<=8999)/\RsR f g N Q H
theorem Ap2 {p q:List Int} (h:p.length<=q.length) (n:p≠ []):q≠ []:=fun z=>n (eq_nil_of_length_eq_zero (by rw [z]at h;simpa using h))
theorem Alo {p:List Int}{j:Nat} (h:j<p.length):atI (p.map V.int) ((j:Nat):Int)=some (.int (co p j)):=Hq (by rw [getElem?_map,getElem?_eq_getElem h,Cg h];rfl)
structure RsJ (K:Frag) (H4 H':Hp) (a2:Addr) (g p P:List Int) (c lead:Int) (d j:Nat):Prop where
 sm:Same H4 H'
 it:H' a2=some (.lst (P.map V.int))
 len:P.length=p.length
 co:∀i,co P i=c*co p i-(if d<=i/\i<d+j then lead*Z.co g (i-d)else 0)
theorem RsJ.start {I z:Hp}{J:Addr}{g p:List Int}{c lead:Int}{d:Nat} (s:Same I z) (h:z J=some (.lst ((p.map (· *c)).map V.int))):RsJ K I z J g p (p.map (· *c)) c lead d 0:=⟨s,h,length_map _,fun i=>by
 rw [J4,if_neg (by omega),mul_comm]
 omega⟩
theorem RsJ.step {I H':Hp}{z:Addr}{g p P:List Int}{c lead:Int}{d j:Nat} (h:RsJ K I H' z g p P c lead d j) (nw:I z=none) (M:d+j<p.length):RsJ K I (upd H' z (.lst ((P.map V.int).set (d+j) (.int (Z.co P (d+j)-lead*Z.co g j))))) z g p (P.set (d+j) (Z.co P (d+j)-lead*Z.co g j)) c lead d (j+1):=by
 refine⟨h.sm.put nw,by rw [Ao,K8],by rw [length_set];exact h.len,fun i=> ?_⟩
 rw [Ql _ _ _ (by rw [h.len];exact M)]
 by_cases e:i=d+j
 . rw [if_pos e,e,h.co,if_neg (by omega),if_pos (by omega),Nat.add_sub_cancel_left]
   omega
 . rw [if_neg e,h.co]
   by_cases J:d<=i/\i<d+j
   . rw [if_pos J,if_pos (by omega)]
   . rw [if_neg J,if_neg (by omega)]
theorem RsJ.done {O H':Hp}{S:Addr}{f g p P:List Int}{c lead:Int}{d n s:Nat} (h:RsJ K O H' S g p P c lead d g.length) (I:c=Z.co g (g.length-1)) (J:lead=Z.co p (p.length-1)) (c0:c≠0) (hd:d+g.length=p.length) (g1:1<=g.length) (U:RsE f g p) (z:RsZ f g p n s) (M:∀i,Sz n (Z.co g i)):RsE f g P/\RsZ f g (trim P) n (s+1)/\(trim P).length<p.length:=by
 have e:∀i,Z.co P i=c*Z.co p i-(if d<=i then lead*Z.co g (i-d)else 0):=fun i=>by
  rw [h.co]
  by_cases h1:d<=i/\i<d+g.length
  . rw [if_pos h1,if_pos h1.1]
  . rw [if_neg h1]
    by_cases h2:d<=i
    . rw [if_pos h2,Bl (p:=g) (by omega),mul_zero]
    . rw [if_neg h2]
 have len:(trim P).length<=p.length-1:=Ajh (Cp P) fun i hi=>by
  rw [Bq,e,if_pos (by omega)]
  by_cases W:i=p.length-1
  . rw [W,show p.length-1-d=g.length-1 by omega,<-I,<-J,mul_comm]
    omega
  . rw [Bl (p:=p) (by omega),Bl (p:=g) (by omega)]
    omega
 have le:=z.le
 refine⟨U.step c0 e,⟨by omega,by omega,fun i=> ?_⟩,by omega⟩
 . rw [Bq,e]
   have Y:Sz (n+(n+s*(n+1))) (c*Z.co p i):=by rw [I];exact(M _).mul (z.sz i)
   have e2:n+(s+1)*(n+1)=n+(n+s*(n+1))+1:=by rw [succ_mul];omega
   rw [e2]
   have z2:Sz (n+(n+s*(n+1))) (if d<=i then lead*Z.co g (i-d)else 0):=by
    split
    . rw [J,add_comm n]
      exact(z.sz _).mul (M _)
    . exact Alj
   exact(Y.sub z2).mono (by omega)
theorem Afb (F:Df K mg "_law_rest" M6 ["_law_p","_law_q"] f fd) (z_list:mg "list"=none) (z_len:mg "len"=none) (a4:mg "range"=none)  (a5:Cal P w K mg base 33 "_law_gcd" ["_law_one","_law_other"] (Pz K)):Cal P w K mg base 34 "_law_rest" ["_law_p","_law_q"] (Xh K):=by
 refine F.cal (F.fn.ok Ge (fun vs H Q E h=> ?_) (fun ao A outer s H vs Q E hr h=> ?_))
 . obtain⟨a,b,_,_,_,_,rfl,_⟩:=h
   rfl
 obtain⟨a,b,f,g,n,N,rfl,ha,hb,tf,tg,a7,ai,ad,zf,zg,hN,ap,aj,k⟩:=h
 have c0:co g (g.length-1)≠0:=tg.lead a7
 have g1:1<=g.length:=length_pos_iff.mpr a7
 refine Av ⟨_,(Ae (Aj 0 Ge.nd (Dj Es rfl z_list boot_list (Aa (Af 0) Ac)))
  (Ae (Cq PassesOwn.never (Al Am6 (Bk Bc rfl z_len PySem.boot_len (Aa (Af 0) Ac)) (Bk Bc rfl z_len PySem.boot_len (Aa (Af 1) Ac)) (Ba _)) (Ae (Aj 4 Ge.nd (Aq Ea (Af 0) (Br Dd Ad) (fun _ _=>rfl)))
  (Ae (Tc (ts:=["_law_weight"]) (fs:=[(1,"_law_q")]) rfl (Dh.of (sc:=Ar M6) (N:=["_law_p","_law_q","_law_part","_law_weight","_law_lead","_law_j","_law_at"]) rfl rfl (by decide+kernel)) (Io (Af 0)) (fun _ _ _=>(Ay 0 (show Nodup (["_law_weight","_law_q"]:List Str)by decide+kernel))) (fun _ _ _=>En) (fun _ _ _=>(Ah Bo (Af 0) (Aq (Ah9 K) (Af 1) (Br Dd Ad) (fun _ _=>rfl)))) (Ay 0 Ge.nd))
  (Ae (Ce PassesOwn.never rfl (Fv rfl a4 (Aa (Bk Bc rfl z_len PySem.boot_len (Aa (Af 1) Ac)) Ac)) (Ay 5 Ge.nd) (Ae (Aj 6 Ge.nd (Ah Dc (Ah Dw (Bk Bc rfl z_len PySem.boot_len (Aa (Af 0) Ac)) (Bk Bc rfl z_len PySem.boot_len (Aa (Af 1) Ac))) (Af 5)))
  (Ag (Dp (Ah Dw (Aq Ea (Af 0) (Af 6) (fun _ _=>rfl)) (Ah Bo (Af 4) (Aq Ea (Af 1) (Af 5) (fun _ _=>rfl)))) (Fy (Af 0) (Af 6) set_list)))))
  (Ae (Cq PassesOwn.never (Ec (Ip (Al (Afk hr.units) (Af 0) (Dk Ac) (Ba _)) (G9 (Al G4 (Aq Ea (Af 0) (Br Dd Ad) (fun _ _=>rfl)) Ad (Ba _))))) (Ag (Dn (Mj plainAttrs_list slot_list_pop type_list_pop Akj (Af 0)))))
  (Ag (Az (Al (Ako hr.units) (Af 0) (Dk Ac) (Ba _)) (Ag (Ak (Af 0))) Aw)))))))
  (Ae (Aj 2 Ge.nd Ad)
  (Ae (Ce PassesOwn.never rfl (Io (Af 0)) (Ay 3 Ge.nd) (Ag (Aj 2 Ge.nd (Ai a5 hr (Aa (Af 2) (Aa (Af 3) Ac))))))
  (Ag (Ak (Ft (ts:=["_law_weight"]) (fs:=[(2,"_law_part")]) rfl (Dh.of (sc:=Ar M6) (N:=["_law_p","_law_q","_law_part","_law_weight","_law_lead","_law_j","_law_at"]) rfl rfl (by decide+kernel)) (Io (Af 0)) (fun _ _ _=>(Ay 0 (show Nodup (["_law_weight","_law_part"]:List Str)by decide+kernel))) (fun _ _ _=>En) (fun _ _ _=>(Ah U7 (Af 0) (Af 1)))))))))),?_⟩
 refine Bt (fun I H'=>∃O,I=[some (.ref O),some (.ref b),none,none,none,none,none]/\RsI K H H' O f g f n) (fun M W=> ?_) ?_
 . done
   exact⟨a,_,rfl,.inl ha,fun l hl=>W _ _ ⟨l,rfl,Same.upd hl _,Ao,.start f g,tf,Ap2 ai a7,hl⟩⟩
 rintro σ H1 ⟨O,rfl,i1⟩
 refine Bt (fun I H'=>∃(O:Addr) (p:List Int) (s:Nat) (o2 Y o4 S U:Option V),I=[some (.ref O),some (.ref b),o2,Y,o4,S,U]/\RsI K H H' O f g p n/\RsZ f g p n s/\p.length<g.length) (fun M W=> ?_) ?_
 . done
   refine Oj (fun m I H'=>∃(O:Addr) (p:List Int) (s:Nat) (o2 Y o4 S U:Option V),I=[some (.ref O),some (.ref b),o2,Y,o4,S,U]/\m=p.length/\RsI K H H' O f g p n/\RsZ f g p n s) _ ⟨O,f,0,_,_,_,_,_,rfl,rfl,i1,⟨by omega,le_refl _,fun i=>(zf i).mono (by omega)⟩⟩ ?_
   clear i1
   rintro m I H3 ⟨O,p,s,o2,Y,o4,S,U,rfl,rfl,i,z⟩
   have a6:SqL K H3 b (g.map V.int):=i.sm.seq hb
   done
   refine⟨O,_,rfl,.inl (.of i.it),b,_,rfl,.inl a6,?_⟩
   repeat (first | done | simp only [length_map])
   by_cases ae:((g.length:Nat):Int)<=((p.length:Nat):Int)
   case neg=>
    rw [if_neg ae]
    exact W _ _ ⟨O,p,s,_,_,_,_,_,rfl,i,z,by omega⟩
   rw [if_pos ae]
   have am:g.length<=p.length:=by omega
   refine Acs ?_
   obtain⟨lead,a0⟩:∃x,x=co p (p.length-1):=⟨_,rfl⟩
   obtain⟨c,hc⟩:∃x,x=co g (g.length-1):=⟨_,rfl⟩
   obtain⟨d,hd⟩:∃d,d+g.length=p.length:=⟨p.length-g.length,by omega⟩
   have p6:p.length<=6:=le_trans (le_trans (le_add_right _ _) z.le) ad
   have zz:n+(n+s*(n+1))<=100000:=by
    have:s+1<=f.length-g.length+1:=by have:=z.le;omega
    have:=mul_le_mul_right (n+1) this
    rw [succ_mul]at this
    omega
   refine Bt (fun I H'=>H'=H3/\I=[some (.ref O),some (.ref b),o2,Y,some (.int lead),S,U]) (fun M W=> ?_) ?_
   . done
     refine Lf (.of i.it) (Hs i.ne) ?_
     rw [<-a0]
     exact W _ _ ⟨rfl,rfl⟩
   rintro I H4 ⟨rfl,rfl⟩
   refine Bt (fun I H'=>∃J,H4 J=none/\I=[some (.ref J),some (.ref b),o2,Y,some (.int lead),S,U]/\RsJ K H4 H' J g p (p.map (· *c)) c lead d 0) (fun M W=> ?_) ?_
   . done
     refine⟨⟨_,.of i.it⟩,fun p7 a8=>Jf (es:=p) (inj:=V.int) (fun w=> .int (w*c)) (le_trans p6 (by decide)) a8 (V0 (.of i.it)) ?_ ?_⟩
     . intro w H7 R hw s7 aa
       done
       refine Lf (s7.seq a6) (Hs a7) ?_
       rw [<-hc]
       try done
       have zw:Sz (n+s*(n+1)) w:=by
        obtain⟨t,ht,et⟩:=getElem_of_mem hw
        have:=z.sz t
        rw [Cg ht,et]at this
        exact this
       have zc:Sz n c:=by rw [hc];exact zg _
       exact⟨zw.mulOk zc (by omega),aa _ (Same.refl _)⟩
     intro H7 s7 h7
     have e7:p.map (fun w=>V.int (w*c))=(p.map (· *c)).map V.int:=by rw [map_map];rfl
     rw [e7]at h7
     try done
     exact W _ _ ⟨p7,a8,rfl,.start s7 h7⟩
   rintro I H5 ⟨J,n2,rfl,j5⟩
   refine Bt (fun I H'=>∃(P:List Int) (S U:Option V),I=[some (.ref J),some (.ref b),o2,Y,some (.int lead),S,U]/\RsJ K H4 H' J g p P c lead d g.length) (fun M W=> ?_) ?_
   . done
     refine⟨b,_,rfl,.inl (j5.sm.seq a6),?_⟩
     repeat (first | done | simp only [length_map,toNat_natCast])
     refine⟨by omega,by omega,?_⟩
     refine Ama g.length (fun i=> .int (0+(i:Nat))) (fun j I H'=>∃(P:List Int) (S U:Option V),I=[some (.ref J),some (.ref b),o2,Y,some (.int lead),S,U]/\RsJ K H4 H' J g p P c lead d j) ⟨_,_,_,rfl,j5⟩ ?_ ?_ ?_
     . rintro j I H' _
       exact Hj
     . rintro j I H6 hj ⟨P,S,U,rfl,Z⟩
       repeat (first | done | simp only [zero_add])
       refine⟨J,_,rfl,.inl (.of Z.it),b,_,rfl,.inl (Z.sm.seq a6),?_⟩
       repeat (first | done | simp only [length_map,Z.len])
       rw [show((p.length:Nat):Int)-((g.length:Nat):Int)+((j:Nat):Int)=((d+j:Nat):Int)by omega]
       try done
       refine Lf (.of Z.it) (Alo (by rw [Z.len];omega)) ?_
       try done
       refine Lf (Z.sm.seq a6) (Alo hj) ?_
       try done
       have zl:Sz (n+s*(n+1)) lead:=by rw [a0];exact z.sz _
       refine⟨zl.mulOk (zg j) (by omega),?_⟩
       refine Abk (j:=d+j) Z.it (by rw [length_map,Z.len];omega) ?_
       exact⟨_,_,_,rfl,Z.step n2 (by omega)⟩
     . rintro I H6 ⟨P,S,U,rfl,Z⟩
       exact W _ _ ⟨P,S,U,rfl,Z⟩
   rintro I H6 ⟨P,af,ag,rfl,Z⟩
   obtain⟨eP,zP,lP⟩:=Z.done hc a0 (by rw [hc];exact c0) hd g1 i.e z zg
   have nH:H J=none:=Same.free i.sm n2
   refine Bt (fun I H'=>Same H H'/\H' J=some (.lst ((trim P).map V.int))/\I=[some (.ref J),some (.ref b),o2,Y,some (.int lead),af,ag]) (fun M W=> ?_) ?_
   . done
     refine Le (fun σ H'=>σ=[some (.ref J),some (.ref b),o2,Y,some (.int lead),af,ag]/\Same H H'/\∃ms:List Int,H' J=some (.lst (ms.map V.int))/\trim ms=trim P/\ms.length<=1000)
      (fun σ H'=>match H' J with | some (.lst xs)=>xs.length | _=>0) ⟨rfl,i.sm.trans Z.sm,P,Z.it,rfl,by rw [Z.len];omega⟩ ?_
     rintro σ H' ⟨rfl,s1,ms,hm,ht,ah⟩
     done
     refine⟨by decide,fun q hq=> ?_⟩
     have s2:=Same.upd hq (.lst [])
     have a3:upd H' q (.lst []) J=some (.lst (ms.map V.int)):=s2 _ _ hm
     refine Uq (ms:=[]) (.of a3) (.of Ao) ?_
     done
     by_cases h0:ms=[]
     . rw [if_pos h0]
       exact W _ _ ⟨s1.trans s2,by rw [<-ht,h0,a3,h0];rfl,rfl⟩
     . rw [if_neg h0]
       obtain⟨a9,x,rfl⟩:∃(i:List Int) (x:Int),ms=i++ [x]:=⟨_,_,(dropLast_concat_getLast h0).symm⟩
       have em:(a9++ [x]).map V.int=a9.map V.int++ [V.int x]:=by rw [map_append];rfl
       rw [em]at hm a3
       refine Lf (.of a3) (O5 _ _) ?_
       done
       by_cases hz:x=0
       . rw [if_pos hz]
         subst hz
         refine Ag5 ?_
         done
         refine⟨.inl ⟨rfl,_,.of a3⟩,J,_,.int 0,rfl,rfl,a3,by simp,?_⟩
         dsimp only
         rw [hm,Ao,List.dropLast_concat]
         refine⟨⟨(s1.trans s2).put nH,a9,rfl,(Acp a9).symm.trans ht,?_⟩,?_⟩
         . rw [length_append]at ah
           exact le_trans (le_add_right _ _) ah
         . simp
       . rw [if_neg hz]
         refine W _ _ ⟨s1.trans s2,?_,rfl⟩
         rw [a3,<-ht,Agu (.inr ⟨h0,by rw [List.getLast_concat];exact hz⟩),em]
   rintro I H7 ⟨s7,h7,rfl⟩
   done
   refine⟨by decide,fun q hq=> ?_⟩
   have s8:=Same.upd hq (.lst [])
   have h8:upd H7 q (.lst []) J=some (.lst ((trim P).map V.int)):=s8 _ _ h7
   refine Uq (ms:=[]) (.of h8) (.of Ao) ?_
   by_cases h0:trim P=[]
   . rw [decide_eq_true h0]
     try done
     rw [h0]at h8
     refine k J _ [] 1 (s7.trans s8) h8 (.inl rfl) (by rw [length_nil];omega) (by decide) (eP.congr fun i=> ?_) fun i=> ?_
     . have:=Bq P i
       rw [h0]at this
       rw [Du,<-this]
       omega
     . rw [Bu]
       exact Alj
   . rw [decide_eq_false h0]
     try done
     exact⟨_,lP,J,trim P,s+1,_,_,_,_,_,rfl,rfl,⟨s7.trans s8,h8,eP.congr fun i=>Bq P i,Cp P,h0,nH⟩,zP⟩
 clear i1
 rintro σ H2 ⟨O,p,s,o2,Y,o4,S,U,rfl,i,z,ak⟩
 have p6:p.length<=6:=le_trans (le_trans (le_add_right _ _) z.le) ad
 have zp:∀t,Sz N (co p t):=fun t=>(z.sz t).mono (by
  have:s<=f.length-g.length+1:=by have:=z.st;omega
  have:=mul_le_mul_right (n+1) this
  omega)
 refine Bt (fun I H'=>H'=H2/\I=[some (.ref O),some (.ref b),some (.int 0),Y,o4,S,U]) (fun M W=> ?_) ?_
 . done
   exact W _ _ ⟨rfl,rfl⟩
 rintro σ H3 ⟨rfl,rfl⟩
 refine Bt (fun I H'=>H'=H3/\∃Y:Option V,I=[some (.ref O),some (.ref b),some (.int (gl p:Nat)),Y,o4,S,U]) (fun M W=> ?_) ?_
 . done
   refine⟨⟨_,.of i.it⟩,Sd (es:=p) (inj:=V.int) (fun ac I H'=>H'=H3/\∃Y:Option V,I=[some (.ref O),some (.ref b),some (.int (gl ac:Nat)),Y,o4,S,U]) ⟨rfl,_,rfl⟩ ?_ ?_ ?_⟩
   . rintro ac I H' ⟨rfl,_⟩
     exact R8 (.of i.it)
   . rintro ac e an I H' he ⟨rfl,o,rfl⟩
     done
     refine⟨_,_,rfl,?_⟩
     rw [<-Ad8]
     try done
     exact⟨_,rfl⟩
   . rintro I H' ⟨rfl,o,rfl⟩
     exact W _ _ ⟨rfl,_,rfl⟩
 rintro σ H4 ⟨rfl,aq,rfl⟩
 have dv:∀t,((gl p:Nat):Int)∣co p t:=Ad6 p
 have gp:0<gl p:=Aah (i.tr.lead i.ne)
 have d0:((gl p:Nat):Int)≠0:=by omega
 have gz:Sz N ((gl p:Nat):Int):=(zp (p.length-1)).of_abs (by
  have:=le_of_dvd (natAbs_pos.mpr (i.tr.lead i.ne)) (natAbs_dvd_natAbs.mpr (dv (p.length-1)))
  exact this)
 have N9:N<=8999:=by
  rcases aj with h | h
  . have:=length_pos_iff.mpr i.ne
    omega
  . exact h
 done
 refine⟨⟨_,.of i.it⟩,fun p7 a8=>Jf (es:=p) (inj:=V.int) (fun w=> .int (w.fdiv (gl p:Nat))) (le_trans p6 (by decide)) a8 (V0 (.of i.it)) ?_ ?_⟩
 . intro w H7 R hw s7 aa
   done
   exact⟨⟨d0,gz.log2 d0 (by omega)⟩,aa _ (Same.refl _)⟩
 intro H7 s7 h7
 have e7:p.map (fun w=>V.int (w.fdiv (gl p:Nat)))=(p.map fun w=>w.fdiv (gl p:Nat)).map V.int:=by rw [map_map];rfl
 rw [e7]at h7
 refine k p7 _ _ (gl p:Nat) (i.sm.trans s7) h7 (Yh d0 i.tr dv) (by rw [length_map];exact ak) d0 (i.e.congr fun t=> ?_) fun t=> ?_
 . rw [Du,Nu,Ur d0 (dv t)]
 . rw [Nu]
   exact Yg d0 (dv t) (zp t)
noncomputable def nb:Nat->Nat
 | 0=>47519
 | 1=>7919
 | 2=>1583
 | 3=>395
 | 4=>131
 | _=>43
theorem As3 {f g t:Nat} (h1:1<=g) (h2:g<=f) (I:f<=6) (J:g<=5) (M:f=6->g=5) (O:t<g):nb g+(f-g+1)*(nb g+1)<=nb (g-1)/\nb (g-1)<=nb t/\nb g<=nb t:=by
 have:g=1\/g=2\/g=3\/g=4\/g=5:=by omega
 have z:t=0\/t=1\/t=2\/t=3\/t=4:=by omega
 rcases this with rfl | rfl | rfl | rfl | rfl<;>rcases z with rfl | rfl | rfl | rfl | rfl<;>simp only [nb]<;>omega
structure FrI (K:Frag) (H H':Hp) (a1 a2:Addr) (p f g:List Int):Prop where
 sm:Same H H'
 i1:H' a1=some (.lst (f.map V.int))
 i2:H' a2=some (.lst (g.map V.int))
 tf:Tr f
 tg:Tr g
 le:g.length<=f.length
 f5:f.length<=6
 g4:g.length<=5
 f6:f.length=6->g.length=5
 zf:∀i,Sz (nb g.length) (co f i)
 zg:∀i,Sz (nb g.length) (co g i)
 s2:Ln f g p (dr p)
theorem Aht (p:List Int):(List.range (p.length-1)).map (fun(i:Nat)=>V.int ((1+(i:Int))*co p (1+i)))=(dr p).map V.int:=by
 apply List.ext_getElem?
 intro i
 rw [getElem?_map,getElem?_map]
 by_cases h:i<p.length-1
 . rw [getElem?_range h,getElem?_eq_getElem (by rw [G3];exact h)]
   have e:=Wj p i
   rw [Cg (by rw [G3];exact h)]at e
   simp only [Option.map_some]
   rw [e,add_comm 1 i,Int.add_comm 1]
 . rw [getElem?_eq_none (by rw [length_range];omega),getElem?_eq_none (by rw [G3];omega)]
   rfl
noncomputable def Rx (K:Frag):Sp:=fun vs H Q _=>∃(a:Addr) (p:List Int),vs=[.ref a]/\SqT K H a (p.map V.int)/\Tr p/\p.length<=6/\(∀i,Sz 40 (co p i))/\∀H',Same H H'->Q (.bl (frB p)) H'
theorem Ae9 (F:Df K mg "_law_free" Pk ["_law_p"] f fd) (z_list:mg "list"=none) (z_len:mg "len"=none) (U:mg "range"=none)  (S:Cal P w K mg base 34 "_law_rest" ["_law_p","_law_q"] (Xh K)):Cal P w K mg base 35 "_law_free" ["_law_p"] (Rx K):=by
 refine F.cal (F.fn.ok M8 (fun vs H Q E h=> ?_) (fun a8 A outer s H vs Q E hr h=> ?_))
 . obtain⟨a,p,rfl,_⟩:=h
   rfl
 obtain⟨a,p,rfl,ha,tp,p5,zp,k⟩:=h
 refine Av ⟨_,(Ae (Az (Al (Ka hr.units) (Af 0) (Bj Ac) (Ba _)) (Ag (Ak Ei)) Aw)
  (Ae (Aj 1 M8.nd (Dj Es rfl z_list boot_list (Aa (Af 0) Ac)))
  (Ae (Tc (ts:=["_law_k"]) (fs:=[(0,"_law_p")]) rfl (Dh.of (sc:=Ar Pk) (N:=["_law_p","_law_one","_law_other"]) rfl rfl (by decide+kernel)) (V8 rfl U (Aa Ad (Aa (Bk Bc rfl z_len PySem.boot_len (Aa (Af 0) Ac)) Ac))) (fun _ _ _=>(Ay 0 (show Nodup (["_law_k","_law_p"]:List Str)by decide+kernel))) (fun _ _ _=>En) (fun _ _ _=>(Ah Bo (Af 0) (Aq (Aek K) (Af 1) (Af 0) (fun _ _=>rfl)))) (Ay 2 M8.nd))
  (Ae (Cq PassesOwn.never (Al (Afk hr.units) (Af 2) (Dk Ac) (Ba _)) (Ag (Gs (i:=1) (j:=2) rfl M8.nd rfl rfl (by decide) rfl rfl (Aa (Af 2) (Aa (Ai S hr (Aa (Af 1) (Aa (Af 2) Ac))) Ac)) rfl)))
  (Ag (Ak (Ey G4 (Bk Bc rfl z_len PySem.boot_len (Aa (Af 1) Ac)) Ad (Ba _)))))))),?_⟩
 refine Bt (fun I H'=>I=[some (.ref a),none,none]/\Same H H'/\p≠ []) (fun M Y=> ?_) ?_
 . done
   refine⟨by decide,fun e0 a3=> ?_⟩
   have se:=Same.upd a3 (.tup [])
   refine Ez (ms:=[]) (se.tup ha) (.of Ao) ?_
   try done
   by_cases W:p=[]
   . rw [if_pos W]
     subst W
     rw [Ad2]at k
     exact k _ se
   . rw [if_neg W]
     exact Y _ _ ⟨rfl,se,W⟩
 rintro _ H0 ⟨rfl,s0,np⟩
 have p2:1<=p.length:=length_pos_iff.mpr np
 refine Bt (fun I H'=>Same H H'/\∃J,I=[some (.ref a),some (.ref J),none]/\H' J=some (.lst (p.map V.int))) (fun M Y=> ?_) ?_
 . done
   exact⟨a,_,rfl,.inr (s0.tup ha),fun l hl=>Y _ _ ⟨s0.trans (Same.upd hl _),l,rfl,Ao⟩⟩
 rintro σ H1 ⟨s1,J,rfl,h1⟩
 refine Bt (fun I H'=>∃O,I=[some (.ref a),some (.ref J),some (.ref O)]/\FrI K H H' J O p p (dr p)) (fun M Y=> ?_) ?_
 . done
   refine⟨a,_,rfl,.inr (s1.tup ha),?_⟩
   repeat (first | done | simp only [length_map])
   have e1:(((p.length:Nat):Int)-1).toNat=p.length-1:=by omega
   rw [e1]
   refine⟨⟨by decide,by decide,by omega,by omega⟩,fun p7 a4=>Jf (es:=List.range (p.length-1)) (inj:=fun i=> .int (1+(i:Nat))) (fun i=> .int ((1+((i:Nat):Int))*co p (1+i))) (by rw [length_range];exact le_trans (show p.length-1<=6 by omega) (by decide)) a4 Aa9 ?_ ?_⟩
   . intro i H7 R hw s7 a5
     have hi:=mem_range.mp hw
     done
     have Z:atI (p.map V.int) (1+((i:Nat):Int))=some (.int (co p (1+i))):=by
      have:=Alo (p:=p) (j:=1+i) (by omega)
      rw [show((1+i:Nat):Int)=1+((i:Nat):Int)by omega]at this
      exact this
     refine Bv ((s1.trans s7).tup ha) Z ?_
     try done
     exact⟨(show Sz 3 (1+((i:Nat):Int))by unfold Sz;omega).mulOk (zp _) (by decide),a5 _ (Same.refl _)⟩
   intro H7 s7 h7
   rw [Aht]at h7
   try done
   have ld:(dr p).length<=5:=by rw [G3];omega
   have a6:43<=nb (dr p).length:=by
    generalize (dr p).length=x at ld
    have:x=0\/x=1\/x=2\/x=3\/x=4\/x=5:=by omega
    rcases this with rfl | rfl | rfl | rfl | rfl | rfl<;>decide
   refine Y _ _ ⟨p7,rfl,⟨s1.trans s7,s7 _ _ h1,h7,tp,Al4 tp,by rw [G3];omega,p5,ld,fun z=>by rw [G3];omega,fun i=>(zp i).mono (by omega),fun i=> ?_,Ln.refl _ _⟩⟩
   rw [Wj]
   by_cases hi:i+1<p.length
   . exact((show Sz 3 ((i:Nat)+1:Int)by unfold Sz;omega).mul (zp (i+1))).mono a6
   . rw [Bl (by omega),mul_zero]
     exact Alj
 clear h1 s1
 rintro σ H2 ⟨O,rfl,i2⟩
 refine Bt (fun I H'=>Same H H'/\∃(J O:Addr) (f:List Int),I=[some (.ref a),some (.ref J),some (.ref O)]/\H' J=some (.lst (f.map V.int))/\frB p=decide (f.length=1)) (fun M Y=> ?_) ?_
 . done
   refine Oj (fun m I H'=>∃(J O:Addr) (f g:List Int),I=[some (.ref a),some (.ref J),some (.ref O)]/\m=g.length/\FrI K H H' J O p f g) _ ⟨J,O,p,dr p,rfl,rfl,i2⟩ ?_
   clear i2
   rintro m I H3 ⟨J,O,f,g,rfl,rfl,i⟩
   done
   refine⟨by decide,fun q hq=> ?_⟩
   have sq:=Same.upd hq (.lst [])
   refine Uq (ms:=[]) (.of (sq _ _ i.i2)) (.of Ao) ?_
   by_cases W:g=[]
   . rw [decide_eq_true W]
     try done
     subst W
     refine Y _ _ ⟨i.sm.trans sq,J,O,f,rfl,sq _ _ i.i1,?_⟩
     rw [Akb np (Akd i.tf i.s2),Lx]
   . rw [decide_eq_false W]
     try done
     refine Acs ?_
     have g1:1<=g.length:=length_pos_iff.mpr W
     have ok:=fun {t:Nat} (ht:t<g.length)=>As3 g1 i.le i.f5 i.g4 i.f6 ht
     have a7:=ok (t:=g.length-1) (by omega)
     have a0:nb (g.length-1)<=100000/\(g.length=1\/nb (g.length-1)<=8999):=by
      have g4:=i.g4
      generalize g.length=x at g1 g4
      have:x=1\/x=2\/x=3\/x=4\/x=5:=by omega
      rcases this with rfl | rfl | rfl | rfl | rfl<;>exact⟨by decide,by decide⟩
     done
     refine⟨J,O,f,g,nb g.length,nb (g.length-1),rfl,.of (sq _ _ i.i1),.of (sq _ _ i.i2),i.tf,i.tg,W,i.le,by have:=i.f5;omega,i.zf,i.zg,a7.1,a0.1,a0.2,fun z H' t kk s' hz tt lt k0 re zt=> ?_⟩
     try done
     obtain⟨L,u,hL,he⟩:=re
     refine⟨_,lt,O,z,g,t,rfl,rfl,(i.sm.trans sq).trans s',(sq.trans s') _ _ i.i2,hz,i.tg,tt,by omega,by have:=i.g4;omega,by have:=i.g4;omega,fun z=>by have:=i.g4;omega,fun j=>(i.zg j).mono (ok lt).2.2,fun j=>(zt j).mono (ok lt).2.1,?_⟩
     exact(Oc (q:=u) hL k0 fun j=>by rw [he j,Du]).trans i.s2
 clear i2
 rintro σ H3 ⟨s3,J,O,f,rfl,h3,ef⟩
 done
 refine⟨J,_,rfl,.inl (.of h3),?_⟩
 repeat (first | done | simp only [length_map])
 rw [show decide (((f.length:Nat):Int)=1)=frB p by rw [ef];exact decide_eq_decide.mpr ⟨fun h=>by omega,fun h=>by omega⟩]
 exact k _ s3
theorem Asq:1900*NB 6 40+100000<=120000000:=by
 unfold NB tau
 decide
theorem Apb:Few 6 48:=by
 unfold Few
 decide
noncomputable def T4 (K:Frag):Sp:=fun vs H Q _=>∃(x:V) (p:List Int),vs=[x]/\Po K H x p 6 40/\frB p=true/\∀q H' ks lo,Same H H'->H q=none->Cu K H' p (NB 6 40+40) q ks lo->chA p (pq lo)=0->ks.length<=1000000->Q (.ref q) H'
theorem Wq (K:Frag):∀I H Q E,T4 K I H Q E->Mh K I H Q E0:=by
 rintro I H Q E ⟨x,p,rfl,J,M,k⟩
 exact⟨x,p,6,40,rfl,J,by decide,by decide,Apb,by decide,Asq,fun _=>k,fun z=>by rw [M]at z;cases z⟩
noncomputable def Xi (K:Frag):Sp:=fun vs H Q _=>∃(x:V) (p:List Int),vs=[x]/\Po K H x p 6 40/\(frB p=true->∀q H' ks lo,Same H H'->H q=none->Cu K H' p (NB 6 40+40) q ks lo->chA p (pq lo)=0->ks.length<=1000000->Q (.ref q) H')/\(frB p=false->∀H',Same H H'->Q (.str "refused") H')
theorem Afc (F:Df K mg "_law_told" Vi ["_law_p"] f fd) (M:mg "isinstance"=none) (S:Xv K (cA K "NoFree")) (U:mg "NoFree"=some (.ref (cA K "NoFree"))) (Y:Acy K (cA K "NoFree")) (J:mg "CourtError"=some (.ref (cA K "CourtError"))) (I:kitOne K (.ref (cA K "NoFree")) (.ref (cA K "CourtError"))=some true) (O:Zu P w K mg base 43 "cuts_of" ["p"] (Mh K)):Cal P w K mg base 44 "_law_told" ["_law_p"] (Xi K):=by
 refine F.cal (F.fn.ok Iw (fun vs H Q E h=> ?_) (fun a0 A outer s H vs Q E hr h=> ?_))
 . obtain⟨x,_,rfl,_⟩:=h
   rfl
 obtain⟨x,p,rfl,hx,k1,k2⟩:=h
 refine Av ⟨_,(Ae (Aj 1 Iw.nd Hl)
  (Ae (Aj 2 Iw.nd Ei)
  (Ae (Xz (i:=3) O (hr.mono (by decide)) (Aa (Af 0) Ac) (Xx (i:=1) Iw.nd rfl (Or.inl rfl)) S U (fun x oe hc=>(Ag (Aj 2 Iw.nd (Bk (Adf (mem_cons_self ..) hc Y) rfl M boot_isinstance (Aa (Af 3) (Aa (S9 (v:= .ref (cA K "CourtError")) rfl J rfl) Ac)))))) Iw.nd rfl)
  (Ae (Az (Dq (Af 2)) (Ag (Ak Im)) Aw)
  (Ag (Ak (Af 1))))))),?_⟩
 done
 refine⟨x,p,6,40,rfl,hx,by decide,by decide,Apb,by decide,Asq,fun Z q H' ks lo s f cu far l=> ?_,fun Z H1 s1=>⟨rfl,fun z oe hc=> ?_⟩⟩
 . exact k1 Z _ _ _ _ s f cu far l
 . try done
   refine⟨true,.inl ⟨_,rfl,I⟩,?_⟩
   try done
   exact k2 Z _ s1
theorem Ao6 {p:List Int}{n:Nat} (h:∀x∈p,Sz n x) (i:Nat):Sz n (co p i):=by
 by_cases hi:i<p.length
 . rw [Cg hi]
   exact h _ (getElem_mem hi)
 . rw [Bl (by omega)]
   exact Alj
theorem Ave {H H0:Hp}{R:VK}{x:V}{p:List Int}{c:Addr}{ks:List (V × Rat)}{lo:Rat} (z:Po K H0 x p 6 40) (s:Same H0 H) (np:p≠ []) (I:Cu K H p (NB 6 40+40) c ks lo) (far:chA p (pq lo)=0) (J:ks.length<=1000000) (h:∀H',Same H H'->R (.bl true) H'):Ik K [x,.ref c] H R E0:=by
 have nb:=Asq
 have e:40+600*((NB 6 40+40)+1)<=120000000:=by
  generalize NB 6 40=N at nb
  omega
 clear nb
 refine⟨x,c,p,ks,lo,40,NB 6 40+40,rfl,(z.mono s).weak (by decide) (le_refl _),np,I,far,J,e,h⟩
theorem Apc (F:Df K mg "law" W6 ["_law_script"] f fd) (O:mg "isinstance"=none) (z_list:mg "list"=none) (a0:mg "tuple"=none) (z_len:mg "len"=none)  (W:Cal P w K mg base 34 "_law_poly" ["_law_cell","_law_most"] (Xg K)) (Y:Cal P w K mg base 44 "_law_told" ["_law_p"] (Xi K)) (S:Cal P w K mg base 35 "_law_product" ["_law_cell"] (Ot K)) (Z:Cal P w K mg base 35 "_law_free" ["_law_p"] (Rx K)) (J:Cal P w K mg base 36 "roots_right" ["p","cuts"] (Ik K)) (I:Cal P w K mg base 33 "_law_cell_at" ["_law_script","_law_k"] (Ks K)) (U:Cal P w K mg base 43 "cuts_of" ["p"] (T4 K)) (a1:Cal P w K mg base 33 "_law_gcd" ["_law_one","_law_other"] (Pz K)):O4 P w K mg base CX0 45 f fd ["_law_script"] (Ajc K):=by
 refine F.fn.ok Tt (fun vs H Q E h=> ?_) (fun ag A outer s H vs Q E hr h=> ?_)
 . obtain⟨a,ns,rfl,_⟩:=h
   rfl
 obtain⟨a,ns,rfl,hS,ah,k⟩:=h
 refine Av ⟨_,(Ae (Aj 1 Tt.nd (Ai W hr (Aa (Ah Cy (Ai I hr (Aa (Af 0) (Aa Ad Ac))) Ad) (Aa Ad Ac))))
  (Ae (Az (Al G4 (Ah Fb (Ai I hr (Aa (Af 0) (Aa Ad Ac))) Ad) Ad (Ba _)) (Ag (Aj 1 Tt.nd (Ai S hr (Aa (Ah Cy (Ai I hr (Aa (Af 0) (Aa Ad Ac))) Ad) Ac)))) Aw)
  (Ae (Az (Al G4 (Ah Fb (Ai I hr (Aa (Af 0) (Aa Ad Ac))) Ad) Ad (Ba _)) (Ag (Aj 1 Tt.nd (Bj Ac))) Aw)
  (Ae (Aj 2 Tt.nd (Ai Y hr (Aa (Af 1) Ac)))
  (Ae (Az (Fe (Dq (Ai Z hr (Aa (Af 1) Ac)))) (Ag (Ak (Ey G4 (Af 2) Im (Ba _)))) Aw)
  (Ae (Az (Fe (Dq (Bk Ml rfl O boot_isinstance (Aa (Af 2) (Aa (G8 (v:= .ty "list") rfl z_list boot_list rfl) Ac))))) (Ag (Ak Ei)) Aw)
  (Ae (Ce PassesOwn.never rfl (Io (Af 2)) (Ay 3 Tt.nd) (Ag (Az (Ec (Ep (Fe (Dq (Bk Z5 rfl O boot_isinstance (Aa (Af 3) (Aa (G8 (v:= .ty "tuple") rfl a0 boot_tuple rfl) Ac))))) (Ep (Al S6 (Bk Bc rfl z_len PySem.boot_len (Aa (Af 3) Ac)) Ad (Ba _)) (Ep (Al Nx (Aq Bd (Af 3) Ad (fun _ _=>rfl)) Ad (Ba _)) (Fg (Al S6 (Ai a1 hr (Aa (Aq Bd (Af 3) Ad (fun _ _=>rfl)) (Aa (Aq Bd (Af 3) Ad (fun _ _=>rfl)) Ac))) Ad (Ba _))))))) (Ag (Ak Ei)) Aw)))
  (Ae (Az (Al Am7 (Ai J hr (Aa (Af 1) (Aa (Dj Es rfl z_list boot_list (Aa (Af 2) Ac)) Ac))) Ei (Ba _)) (Ag (Ak Ei)) Aw)
  (Ae (Dn (Mj plainAttrs_list PySem.F.slot_list_clear PySem.F.type_list_clear Aie (Af 2)))
  (Ag (Ak (Ey Aqg (Ai J hr (Aa (Af 1) (Aa (Ai U hr (Aa (Af 1) Ac)) Ac))) Ei (Ba _))))))))))))),?_⟩
 refine Bt (fun a2 H'=>∃(x:V) (p:List Int),a2=[some (.ref a),some x,none,none]/\Same H H'/\Po K H' x p 6 40) (fun M hM=> ?_) ?_
 . done
   refine Aa5 hS (Same.refl _) (by decide) ?_
   try done
   refine⟨⟨by decide,by decide⟩,_,rfl,fun z H1 p s1 h1 l6 np zp tp=>hM _ _ ⟨_,p,rfl,s1,⟨_,rfl,h1⟩,.inr ⟨np,tp np⟩,l6,Ao6 zp⟩⟩
 rintro _ H1 ⟨x,p,rfl,s1,hx⟩
 refine Bt (fun a2 H'=>∃(x:V) (p:List Int),a2=[some (.ref a),some x,none,none]/\Same H H'/\Po K H' x p 6 40) (fun M hM=> ?_) ?_
 . done
   refine Aa5 hS s1 (by decide) ?_
   try done
   refine⟨by decide,?_⟩
   split
   . refine Aa5 hS s1 (by decide) ?_
     try done
     exact⟨⟨by decide,by decide⟩,_,rfl,fun z H2 p s2 h1 tp np l6 zp=>hM _ _ ⟨_,p,rfl,s1.trans s2,⟨_,rfl,h1⟩,tp,l6,Ao6 zp⟩⟩
   . exact hM _ _ ⟨x,p,rfl,s1,hx⟩
 clear s1 hx x p H1
 rintro _ H1 ⟨x,p,rfl,s1,hx⟩
 refine Bt (fun a2 H'=>∃(x:V) (p:List Int),a2=[some (.ref a),some x,none,none]/\Same H H'/\Po K H' x p 6 40) (fun M hM=> ?_) ?_
 . done
   refine Aa5 hS s1 (by decide) ?_
   try done
   refine⟨by decide,?_⟩
   split
   . refine⟨by decide,fun q hq=>hM _ _ ⟨_,[],rfl,s1.trans (Same.upd hq _),⟨q,rfl,.of Ao⟩,.inl rfl,by decide,fun i=>by rw [Bu];exact Alj⟩⟩
   . exact hM _ _ ⟨x,p,rfl,s1,hx⟩
 clear s1 hx x p H1
 rintro _ H1 ⟨x,p,rfl,s1,hx⟩
 obtain⟨⟨b,rfl,hb⟩,tp,lp,zp⟩:=id hx
 have free:∀ {H2:Hp}{R:VK},Same H1 H2->(∀H',Same H2 H'->R (.bl (frB p)) H')->Rx K [.ref b] H2 R E0:=fun s2 h=>⟨b,p,rfl,s2.tup hb,tp,lp,zp,h⟩
 cases hf:frB p with
 | false=>
   rw [hf]at free
   done
   refine⟨_,p,rfl,hx,(fun z=>absurd (hf.symm.trans z) (by decide)),fun _ H2 s2=>free s2 fun H3 s3=> ?_⟩
   try done
   refine⟨rfl,?_⟩
   rw [decide_eq_true rfl]
   exact k _
 | true=>
   rw [hf]at free
   done
   refine⟨_,p,rfl,hx,fun _ q H2 ks lo s2 nq cu far lM=>free s2 fun H3 s3=> ?_,fun z=>absurd (hf.symm.trans z) (by decide)⟩
   try done
   have a3:=cu.mono s3
   refine isi (.lst a3.h) Akf ?_
   try done
   refine⟨⟨_,.of a3.h⟩,?_⟩
   refine Sd (es:=ks) (inj:=Prod.fst) (fun a7 σ H'=>Same H3 H'/\∃o,σ=[some (.ref a),some (.ref b),some (.ref q),o]) ⟨Same.refl _,_,rfl⟩ ?_ ?_ ?_
   . rintro a7 σ H4 ⟨s4,_⟩
     exact R8 (.of (s4 _ _ a3.h))
   . rintro a7 e af σ H4 he ⟨s4,o,rfl⟩
     obtain⟨c,ec,hc⟩:=(a3.mono s4).al e (by rw [he];simp)
     rw [ec]
     have d:=Ahs e.2
     have r:Int.gcd e.2.num (e.2.den:Int)=1:=e.2.reduced
     done
     refine isa (.tup hc) Akg ?_
     try done
     refine⟨_,_,rfl,.inr hc,?_⟩
     try done
     rw [if_pos (by decide)]
     refine Bv hc (at1 _ _ _) ?_
     try done
     rw [if_neg (by omega)]
     refine Bv hc (at0 _ _) (Bv hc (at1 _ _ _) ?_)
     try done
     refine⟨_,_,rfl,?_⟩
     try done
     rw [r]
     try done
     exact⟨s4,_,rfl⟩
   . rintro σ H4 ⟨s4,o,rfl⟩
     have a4:=a3.mono s4
     have t4:=(s2.trans s3).trans s4
     have np:=(Akm hf).1
     done
     refine⟨q,_,rfl,.inl (.of a4.h),?_⟩
     (intro q5 a8;generalize a9:upd _ q5 _=ai;obtain⟨a5,ad⟩:=nw a8 a9;clear a9 a8)
     refine Ave hx (t4.trans a5) np ⟨ad,(a4.mono a5).al,a4.cc⟩ far lM fun H6 s6=>⟨true,true,rfl,rfl,?_⟩
     rw [if_neg (by decide)]
     have a6:=(a4.mono a5).mono s6
     refine⟨.inl ⟨rfl,_,.of a6.h⟩,q,_,rfl,rfl,a6.h,?_⟩
     have aa:Po K (upd H6 q (.lst [])) (.ref b) p 6 40:=⟨⟨b,rfl,Oh (((t4.trans a5).trans s6).tup hb) a6.h⟩,tp,lp,zp⟩
     refine⟨_,p,rfl,aa,hf,fun q8 H8 aj ak s8 n8 ae ac l8=>Ave aa s8 np ae ac l8 fun H9 s9=>⟨true,true,rfl,rfl,k _⟩⟩
end
noncomputable abbrev Fd (K:Frag) (x:Str) (st:Stmt):Prop:=∃(f:Addr) (od an:Option Addr) (sl:Array (Option Value)) (oc kV dc pm cd ct:Value),PySem.W.nsIn K mainGlobals x=some (some (.ref f))/\K.lookup f=some ⟨oc,od,.func (PySem.W.fnOf x x (Lr st) (Jh st) (Ar st) .none kV dc pm an cd ct),sl⟩/\PySem.W.codeIn K cd x=true/\keepIn K (.ref f)=true
theorem us1 {P:List Value->Prop} (h:∀a,P [a]) (z:List Value) (I:z.length=1):P z:=match z,I with | [_],_=>h _
theorem us2 {P:List Value->Prop} (h:∀a b,P [a,b]) (z:List Value) (I:z.length=2):P z:=match z,I with | [_,_],_=>h _ _
theorem us3 {P:List Value->Prop} (h:∀a b c,P [a,b,c]) (z:List Value) (I:z.length=3):P z:=match z,I with | [_,_,_],_=>h _ _ _
theorem us4 {P:List Value->Prop} (h:∀a b c d,P [a,b,c,d]) (z:List Value) (I:z.length=4):P z:=match z,I with | [_,_,_,_],_=>h _ _ _ _
theorem Ck {K:Frag}{h:Heap}{mg:Str->Option Value}{x:Str}{st:Stmt} (X:K.In h) (G:h.Ns mainGlobals mg) (d:Fd K x st) (ps:List Str) (M:∀(kV z pm:Value) (O:Option Addr) (I ct:Value) (J:List Value),J.length=ps.length->bindArgs (PySem.W.fnOf x x (Lr st) (Jh st) (Ar st) .none kV z pm O I ct) ⟨J,[]⟩=pure (ps.zip J):=by first | exact(fun _ _ _ _ _ _=>us1 fun _=>rfl) | exact(fun _ _ _ _ _ _=>us2 fun _ _=>rfl) | exact(fun _ _ _ _ _ _=>us3 fun _ _ _=>rfl) | exact(fun _ _ _ _ _ _=>us4 fun _ _ _ _=>rfl)):∃f fd,Df K mg x st ps f fd:=by
 obtain⟨f,_,_,_,_,_,_,_,_,_,a,l,c,k⟩:=d
 have F:=Akc (st:=st) l c k
 exact⟨_,_,F,F.binds M,mg_of X G a⟩
theorem all_mk {l:PySem.W.OpenLaw}{w:World}{K:Frag}{h:Heap}{mg:Str->Option Value}{fa:Addr} (X:K.In h) (G:h.Ns mainGlobals mg) (ej:mg "law"=some (.ref fa))
 (d1:Fd K "_law_stirred" Ma) (d2:Fd K "_law_poly" Vh) (d3:Fd K "changes" Q8) (d4:Fd K "divisor" Rb) (d5:Fd K "common" Vc) (d6:Fd K "spread" Vn) (d7:Fd K "poly" Aga) (d8:Fd K "moved" Zc) (d9:Fd K "seen_at" Ri) (ek:Fd K "between" Q7) (em:Fd K "thinned" Rk) (en:Fd K "degree" Vd) (eo:Fd K "by_number" Jl) (ep:Fd K "scaled" Pn) (eq:Fd K "inverse_by" Kf) (er:Fd K "single" Vl) (et:Fd K "m_parted" N6) (eu:Fd K "m_rest" Ve) (ew:Fd K "m_shared" N7) (ey:Fd K "surely_apart" Ie) (ez:Fd K "shrunk" Pq) (f0:Fd K "divisor_of" Ke) (f1:Fd K "content" Q9) (f2:Fd K "unit" Agb) (f3:Fd K "plain" Zd) (e5:Fd K "p_times" Rh) (f4:Fd K "repeated" Ob) (f5:Fd K "power" Ze) (f6:Fd K "whole_power" Jq) (f7:Fd K "raised" Vj) (f8:Fd K "p_plus" Pj) (f9:Fd K "p_minus" Rg) (fb:Fd K "scaled_division" Gj) (fc:Fd K "next_row" Oa) (fe:Fd K "last_row" K5) (e6:Fd K "shared" Vk) (ff:Fd K "derived" M5) (fg:Fd K "is_free" Rf) (fh:Fd K "farther_than_roots" Ed) (fi:Fd K "measured" N8) (fj:Fd K "fraction" Nz) (fk:Fd K "times" Zg) (fm:Fd K "minus" Zb) (fn:Fd K "whole_value" Jr) (fo:Fd K "plus" Af9) (fp:Fd K "newton_cell" Jo) (fq:Fd K "nearer" Vf) (ft:Fd K "less" Af8) (fu:Fd K "sign_of_whole" Ht) (fv:Fd K "sign_at" Rj) (fw:Fd K "clear_middle" Ia) (fy:Fd K "root_floor" Kh) (fz:Fd K "pieces" Vg) (g0:Fd K "cuts_of_free" Ib) (g1:Fd K "cuts_of" Ra) (g2:Fd K "_law_told" Vi) (g3:Fd K "_law_gcd" Zf) (g4:Fd K "_law_fraction" Kg) (g5:Fd K "_law_product" Jp) (g6:Fd K "_law_rest" M6) (g7:Fd K "_law_free" Pk) (g8:Fd K "is_whole" N5) (g9:Fd K "is_fraction" Jm) (ga:Fd K "below" Za) (gb:Fd K "above" Y9) (gc:Fd K "roots_right" G6) (gd:Fd K "_law_cell_at" Lz) (ge:Fd K "law" W6)
 {c4:Addr} (c5:PySem.W.nsIn K mainGlobals "NoPart"=some (some (.ref c4)))
 {M:Addr} (c6:PySem.W.nsIn K mainGlobals "NoFree"=some (some (.ref M)))
 {ap:Addr} (aq:PySem.W.nsIn K mainGlobals "CourtError"=some (some (.ref ap)))
 {du:Tok}
 {ar:Tok}
 (cu:excIn K c4 [.type "ValueError",.type "Exception",.type "BaseException",.type "object"] "ValueError.__new__"=true)
 (dk:PySem.W.nsIn K mainGlobals "PRIME"=some (some (.int 2305843009213693951 du)))
 (ah:PySem.W.nsIn K mainGlobals "LEAST_NARROWING"=some (some (.int 4 ar)))
 (cv:excIn K M [.type "ValueError",.type "Exception",.type "BaseException",.type "object"] "ValueError.__new__"=true)
 (a7:findIn K (.ref M) "__getattribute__"=some (some (.builtin "BaseException.__getattribute__")))
 (aw:findIn K (.ref M) "__getattr__"=some none)
 (b6:findIn K (.ref M) "__class__"=some (some (.builtin "object.__class__")))
 (b2:mroIn K M (.type "object")=some true)
 (a0:mroIn K M (.type "BaseException")=some true)
 (ag:kitOne K (.ref M) (.ref ap)=some true)
 (dv:PySem.W.nsIn K mainGlobals "range"=some none) (dw:PySem.W.nsIn K mainGlobals "tuple"=some none) (e7:PySem.W.nsIn K mainGlobals "abs"=some none) (e8:PySem.W.nsIn K mainGlobals "len"=some none) (e0:PySem.W.nsIn K mainGlobals "list"=some none) (e9:PySem.W.nsIn K mainGlobals "zip"=some none) (ea:PySem.W.nsIn K mainGlobals "max"=some none) (c7:PySem.W.nsIn K mainGlobals "enumerate"=some none) (ci:PySem.W.nsIn K mainGlobals "reversed"=some none) (eb:PySem.W.nsIn K mainGlobals "min"=some none) (bt:PySem.W.nsIn K mainGlobals "isinstance"=some none) (ec:PySem.W.nsIn K mainGlobals "int"=some none) (e1:PySem.W.nsIn K mainGlobals "bool"=some none) (ed:PySem.W.nsIn K mainGlobals "all"=some none):
 ∃fd:FuncData,(∀(s:Shared) (v:Value),BindsTo s fd ⟨[v],[]⟩ [("_law_script",v)])/\∀base:Heap,Pyl l.prog base->O4 l.prog w K mg base CX0 45 fa fd ["_law_script"] (Ajc K):=by
 obtain⟨ie,_,an,sl,oc,kV,dc,pm,cd,ct,ee,gf,gg,gh⟩:=ge
 obtain⟨ig,_,_,_,_,_,_,_,_,_,ef,_⟩:=id e5
 obtain⟨ih,_,_,_,_,_,_,_,_,_,eg,_⟩:=id e6
 have e:=ej.symm.trans (mg_of X G ee)
 cases e
 have O:=mg_none_of X G dv
 have I:=mg_none_of X G dw
 have bu:=mg_none_of X G e7
 have z:=mg_none_of X G e8
 have a1:=mg_none_of X G e0
 have cj:=mg_none_of X G e9
 have bv:=mg_none_of X G ea
 have U:=mg_none_of X G c7
 have c8:=mg_none_of X G ci
 have e2:=mg_none_of X G eb
 have J:=mg_none_of X G bt
 have e3:=mg_none_of X G ec
 have dy:=mg_none_of X G e1
 have e4:=mg_none_of X G ed
 have c9:=Ade c5
 have au:=Ade c6
 have av:=Ade aq
 have cw:=Ade ef
 have dl:=Ade eg
 have ai:Xv K (cA K "NoPart"):=by rw [c9];exact cu
 have aj:mg "NoPart"=some (.ref (cA K "NoPart")):=by rw [c9];exact mg_of X G c5
 have cy:∃u,mg "PRIME"=some u/\RelV (V.int 2305843009213693951) u:=⟨_,mg_of X G dk,⟨_,rfl⟩⟩
 have ay:mg "p_times"=some (.ref (cA K "p_times")):=by rw [cw];exact mg_of X G ef
 have ck:mg "shared"=some (.ref (cA K "shared")):=by rw [dl];exact mg_of X G eg
 have S:∃u,mg "LEAST_NARROWING"=some u/\RelV (V.int 4) u:=⟨_,mg_of X G ah,⟨_,rfl⟩⟩
 have b7:Xv K (cA K "NoFree"):=by rw [au];exact cv
 have b8:mg "NoFree"=some (.ref (cA K "NoFree")):=by rw [au];exact mg_of X G c6
 have cl:Acy K (cA K "NoFree"):=by rw [au];exact⟨a7,aw,b6,b2,a0⟩
 have b9:mg "CourtError"=some (.ref (cA K "CourtError")):=by rw [av];exact mg_of X G aq
 have a8:kitOne K (.ref (cA K "NoFree")) (.ref (cA K "CourtError"))=some true:=by rw [au];rw [av];exact ag
 obtain⟨_,_,D1⟩:=Ck X G d1 ["_law_cell","_law_k"]
 obtain⟨_,_,D2⟩:=Ck X G d2 ["_law_cell","_law_most"]
 obtain⟨_,_,D3⟩:=Ck X G d3 ["p"]
 obtain⟨_,_,D4⟩:=Ck X G d4 ["one","other"]
 obtain⟨_,_,D5⟩:=Ck X G d5 ["one","other"]
 obtain⟨_,_,D6⟩:=Ck X G d6 ["weights","factor"]
 obtain⟨_,_,D7⟩:=Ck X G d7 ["weights"]
 obtain⟨_,_,D8⟩:=Ck X G d8 ["weights","by"]
 obtain⟨_,_,D9⟩:=Ck X G d9 ["p","top","bottom"]
 obtain⟨_,_,gi⟩:=Ck X G ek ["p","lo","hi"]
 obtain⟨_,_,gj⟩:=Ck X G em ["p","cuts"]
 obtain⟨_,_,gk⟩:=Ck X G en ["one"]
 obtain⟨_,_,gm⟩:=Ck X G eo ["one","m"]
 obtain⟨_,_,gn⟩:=Ck X G ep ["one","factor"]
 obtain⟨_,_,go⟩:=Ck X G eq ["number","m"]
 obtain⟨_,_,gp⟩:=Ck X G er ["one","t"]
 obtain⟨_,_,gq⟩:=Ck X G et ["one","other","m"]
 obtain⟨_,_,gr⟩:=Ck X G eu ["one","other","m"]
 obtain⟨_,_,gs⟩:=Ck X G ew ["one","other","t"]
 obtain⟨_,_,gt⟩:=Ck X G ey ["one","other"]
 obtain⟨_,_,gu⟩:=Ck X G ez ["one","number"]
 obtain⟨_,_,gv⟩:=Ck X G f0 ["some"]
 obtain⟨_,_,gx⟩:=Ck X G f1 ["one"]
 obtain⟨_,_,gy⟩:=Ck X G f2 ["one"]
 obtain⟨_,_,gz⟩:=Ck X G f3 ["one"]
 obtain⟨_,_,h0⟩:=Ck X G e5 ["one","other"]
 obtain⟨_,_,h3⟩:=Ck X G f4 ["start","one","many","product"]
 obtain⟨_,_,h4⟩:=Ck X G f5 ["one","many"]
 obtain⟨_,_,h5⟩:=Ck X G f6 ["number","many"]
 obtain⟨_,_,h6⟩:=Ck X G f7 ["one","many"]
 obtain⟨_,_,h7⟩:=Ck X G f8 ["one","other"]
 obtain⟨_,_,h8⟩:=Ck X G f9 ["one","other"]
 obtain⟨_,_,h9⟩:=Ck X G fb ["one","other"]
 obtain⟨_,_,ha⟩:=Ck X G fc ["first","second","known"]
 obtain⟨_,_,hb⟩:=Ck X G fe ["first","second"]
 obtain⟨_,_,hc⟩:=Ck X G e6 ["one","other"]
 obtain⟨_,_,hd⟩:=Ck X G ff ["one"]
 obtain⟨_,_,he⟩:=Ck X G fg ["one"]
 obtain⟨_,_,hf⟩:=Ck X G fh ["p"]
 obtain⟨_,_,hg⟩:=Ck X G fi ["p","lo","hi","narrowing"]
 obtain⟨_,_,hh⟩:=Ck X G fj ["top","bottom"]
 obtain⟨_,_,hj⟩:=Ck X G fk ["one","other"]
 obtain⟨_,_,hk⟩:=Ck X G fm ["one","other"]
 obtain⟨_,_,hm⟩:=Ck X G fn ["one","point"]
 obtain⟨_,_,hn⟩:=Ck X G fo ["one","other"]
 obtain⟨_,_,ho⟩:=Ck X G fp ["p","lo","hi","cells"]
 obtain⟨_,_,hp⟩:=Ck X G fq ["p","stretch"]
 obtain⟨_,_,hq⟩:=Ck X G ft ["one","other"]
 obtain⟨_,_,hr⟩:=Ck X G fu ["number"]
 obtain⟨_,_,ht⟩:=Ck X G fv ["one","point"]
 obtain⟨_,_,hu⟩:=Ck X G fw ["p","lo","hi"]
 obtain⟨_,_,hw⟩:=Ck X G fy ["number"]
 obtain⟨_,_,hx⟩:=Ck X G fz ["p","stretch"]
 obtain⟨_,_,hy⟩:=Ck X G g0 ["p"]
 obtain⟨_,_,hz⟩:=Ck X G g1 ["p"]
 obtain⟨_,_,i0⟩:=Ck X G g2 ["_law_p"]
 obtain⟨_,_,i1⟩:=Ck X G g3 ["_law_one","_law_other"]
 obtain⟨_,_,i2⟩:=Ck X G g4 ["_law_top","_law_bottom"]
 obtain⟨_,_,i3⟩:=Ck X G g5 ["_law_cell"]
 obtain⟨_,_,i4⟩:=Ck X G g6 ["_law_p","_law_q"]
 obtain⟨_,_,i5⟩:=Ck X G g7 ["_law_p"]
 obtain⟨_,_,i6⟩:=Ck X G g8 ["thing"]
 obtain⟨_,_,i7⟩:=Ck X G g9 ["thing"]
 obtain⟨_,_,i8⟩:=Ck X G ga ["p","c"]
 obtain⟨_,_,i9⟩:=Ck X G gb ["p","c"]
 obtain⟨_,_,ia⟩:=Ck X G gc ["p","cuts"]
 obtain⟨_,_,ib⟩:=Ck X G gd ["_law_script","_law_k"]
 have eh:=Akc (st:=W6) gf gg gh
 have ic:Df K mg "law" W6 ["_law_script"] _ _:=⟨eh,eh.binds (ps:=["_law_script"]) fun _ _ _ _ _ _ us hl=>match us,hl with | [_],_=>rfl,mg_of X G ee⟩
 refine⟨PySem.W.fnOf "law" "law" (Lr W6) (Jh W6) (Ar W6) .none kV dc pm an cd ct,fun s v=> .of_eq rfl,fun base py=> ?_⟩
 have bw:= @Wy l.prog w K mg base _ _ D1
 have cz:=Afa D2 O I bw
 have a2:= @Abw l.prog w K mg base _ _ D3
 have a3:= @Ab0 l.prog w K mg base _ _ D4 bu
 have d0:=Ae3 D5 bu py a3
 have ae:= @Afj l.prog w K mg base _ _ D6
 have a4:= @Am2 l.prog w K mg base _ _ D7 z I
 have ca:= @Aik l.prog w K mg base _ _ D8 a1 O z
 have ak:=Ab5 D9 ae ca
 have a5:=Abv gi py d0 ae a4 ak ca
 have cm:=Ab7 gj cj a2 a5
 have Y:= @Ae4 l.prog w K mg base _ _ gk z
 have a6:=Wv gm a4
 have af:= @Afe l.prog w K mg base _ _ gn I
 have aa:= @U4 l.prog w K mg base _ _ go ai aj
 have bl:=aa.calm (Qv K)
 have da:=Afi gp a6 af bl
 have bx:=Yt gq a1 O bv z U ai aj aa a6 a4 Y
 have cb:=bx.calm (Uw K)
 have db:=Ae5 gr cb
 have cc:=Yu gs a6 da db
 have b3:=Q0 gt cy Y cc
 have bq:= @Afh l.prog w K mg base _ _ gu I py
 have bm:=U3 gv a3
 have cn:=Abx gx bm
 have dz:=Am3 gy cn
 have dm:=Ail gz bq dz
 have am:= @Ab4 l.prog w K mg base _ _ h0 U I z
 have ce:=Yx h3 ay am
 have dp:=Aim h4 ay ce
 have ac:=Sy h5 dp
 have dd:= @Afd l.prog w K mg base _ _ h6
 have br:=Ae7 h7 a1 U z a4
 have ba:=Ab2 h8 br af
 have ao:=Mx h9 O z dd br ba Y a4 af am
 have cf:=Yw ha cj I ac ao bq Y ba af am
 have cg:=Ys hb py Y cf ac
 have de:=Afg hc b3 dm cg
 have bb:= @Abz l.prog w K mg base _ _ hd I U
 have cp:=Ab1 he Y de bb
 have a9:= @J9 l.prog w K mg base _ _ hf bv bu py
 have az:=Yv hg a2 a5
 have bz:=Yq hh py ck ai aj a3
 have Z:=bz.calm (Uv K)
 have bc:=Aio hj Z
 have bd:=Aij hk Z
 have ad:= @S5 l.prog w K mg base _ _ hm c8
 have c1:=Am1 hn Z
 have bg:=Sv ho py bc bd ad c1 bb
 have df:=Ae6 hp bv e2 bg bd c1 bc a2 Z a5
 have cs:= @Am0 l.prog w K mg base _ _ hq
 have ax:= @O1 l.prog w K mg base _ _ hr
 have cq:=Ab6 ht ax ad
 have b4:=Qy hu z bc c1 bd cq
 have bo:= @U6 l.prog w K mg base _ _ hw O py
 have dg:=Ae8 hx bv S df cs b4 bo az
 have b5:=Qz hy z S a9 az dg
 have b1:=Aby hz b7 b8 cm cp b5
 have cr:=b1.calm (Wq K)
 have dh:=Afc i0 J b7 b8 cl b9 a8 b1
 have bh:= @Ain l.prog w K mg base _ _ i1 bu
 have bp:=U5 i2 bh
 have c2:=Wx i3 O I z bp
 have di:=Afb i4 a1 z O bh
 have dj:=Ae9 i5 a1 z O di
 have ch:= @Yr l.prog w K mg base _ _ i6 J e3 dy
 have bi:=Ss i7 J I z ch a3
 have dq:=Aii i8 a4 ae ak
 have dt:=Aih i9 a4 ae ak
 have bj:=Sx ia cj e4 J a1 z a2 bi dq dt cs a5
 have c3:= @Ww l.prog w K mg base _ _ ib z
 exact @Apc l.prog w K mg base _ _ ic J a1 I z cz dh c2 dj bj c3 cr bh
theorem walk {l:PySem.W.OpenLaw}{q:Program}{I:List Str}{Y:(Str->Option Value)->Heap->Prop}{S:World->Heap->Prop}{d:DefRec}{K:Params->Frag} (Z:l.most=some 63) (J:d.params.defaults=[]) (M:PyProof.Rows.importsNone q=true) (O:l.prog.given.tree=none)
 (hY:∀(w:World) (h:Heap),S w h->(K w.params).In h)
 (F:∀(w:World) (mg:Str->Option Value) (U:Addr) (h:Heap),(K w.params).In h->h.Ns mainGlobals mg->mg d.name=some (.ref U)->
   ∃fd:FuncData,(∀(s:Shared) (u:Value),BindsTo s fd ⟨[u],[]⟩ [("_law_script",u)])/\∀base:Heap,Pyl l.prog base->O4 l.prog w (K w.params) mg base CX0 45 U fd ["_law_script"] (Ajc (K w.params))):
 PySem.W.WalkO q I Y S l.row.toRowW d [] (fun f vs=>PySem.call f vs):=
 L2.Ajk (n:=63) (k:=45) (x:="_law_script") (sp:=Ajc) Z (by decide) J ⟨rfl,by decide,by decide⟩ M O hY F (fun _ _ a ns hl hS=>⟨a,ns,rfl,hS,hl,fun _=>rfl⟩) fun _ _ _ _ z=>z
end Z
namespace PySem.W.Fast
noncomputable def tw100776892045931647:=()
noncomputable def tw1007787475023011734:=()
noncomputable def tw10197934948921356163:=()
noncomputable def tw10383770683878838407:=()
noncomputable def tw10459911801501523847:=()
noncomputable def tw10463312878854189788:=()
noncomputable def tw10477852424947754162:=()
noncomputable def tw10531330258837725450:=()
noncomputable def tw10606403268191123688:=()
noncomputable def tw10740313841042504682:=()
noncomputable def tw10784371127291652734:=()
noncomputable def tw10820027265955586281:=()
noncomputable def tw10897220839834426838:=()
noncomputable def tw11054105900595574920:=()
noncomputable def tw11199337261518556997:=()
noncomputable def tw11316536336298314769:=()
noncomputable def tw11406898900742485091:=()
noncomputable def tw11492138249642741056:=()
noncomputable def tw11519398691022221286:=()
noncomputable def tw11640006366993493583:=()
noncomputable def tw11887524982019784955:=()
noncomputable def tw12220350403748257344:=()
noncomputable def tw12342605160879749292:=()
noncomputable def tw12387500564893719868:=()
noncomputable def tw12462180388910120158:=()
noncomputable def tw12567255801405937064:=()
noncomputable def tw12613636482738923744:=()
noncomputable def tw12964179119824623743:=()
noncomputable def tw13238095437818461212:=()
noncomputable def tw13343885501903600180:=()
noncomputable def tw13477694797993428766:=()
noncomputable def tw13514299274272521308:=()
noncomputable def tw13573533525130375551:=()
noncomputable def tw13695326141785802705:=()
noncomputable def tw13811607723415832184:=()
noncomputable def tw14187943461529782124:=()
noncomputable def tw14217396706126428953:=()
noncomputable def tw14231500167890733796:=()
noncomputable def tw14305277951224214927:=()
noncomputable def tw14333767460640291385:=()
noncomputable def tw14450950592327321714:=()
noncomputable def tw14479202130393295764:=()
noncomputable def tw14489170076961170953:=()
noncomputable def tw14646019613777349734:=()
noncomputable def tw14709608963703578287:=()
noncomputable def tw14805761282708681914:=()
noncomputable def tw14845176049825049967:=()
noncomputable def tw14874223541058369206:=()
noncomputable def tw14931664382027651752:=()
noncomputable def tw14988058834574171330:=()
noncomputable def tw15023579086854593912:=()
noncomputable def tw15080309041677910041:=()
noncomputable def tw15111444505728367281:=()
noncomputable def tw15187997382250567540:=()
noncomputable def tw15298628131575155275:=()
noncomputable def tw1539916609715026365:=()
noncomputable def tw1551645576255957603:=()
noncomputable def tw15521109226283111448:=()
noncomputable def tw15582825156289757921:=()
noncomputable def tw1559129871126608203:=()
noncomputable def tw15694396842037942473:=()
noncomputable def tw15720576350953643862:=()
noncomputable def tw15953536200570123463:=()
noncomputable def tw16101159618016742862:=()
noncomputable def tw16127624874992958070:=()
noncomputable def tw16205443819588133921:=()
noncomputable def tw16224434604013526100:=()
noncomputable def tw16338387081923492730:=()
noncomputable def tw16387393025208595910:=()
noncomputable def tw16681283247545992293:=()
noncomputable def tw16902746426986595068:=()
noncomputable def tw17110630294867760557:=()
noncomputable def tw17138986525023932912:=()
noncomputable def tw17247492477138062910:=()
noncomputable def tw173192235651302947:=()
noncomputable def tw17471320045334583388:=()
noncomputable def tw1754945290852029751:=()
noncomputable def tw17569989972462210371:=()
noncomputable def tw17574337715330646839:=()
noncomputable def tw17625379428203863169:=()
noncomputable def tw1767724460431442496:=()
noncomputable def tw17785200200579285272:=()
noncomputable def tw17870007352763870440:=()
noncomputable def tw17874164265996022622:=()
noncomputable def tw17940091396401169736:=()
noncomputable def tw17985009443734582277:=()
noncomputable def tw1823676347238590946:=()
noncomputable def tw1857329784907559201:=()
noncomputable def tw1866140286385462755:=()
noncomputable def tw1970671463114514804:=()
noncomputable def tw2215793487376003432:=()
noncomputable def tw2627723792868253661:=()
noncomputable def tw2825613762827375747:=()
noncomputable def tw3130590458847728964:=()
noncomputable def tw3132532544314530825:=()
noncomputable def tw3208674293626330146:=()
noncomputable def tw3456668546322126016:=()
noncomputable def tw3520873039997998836:=()
noncomputable def tw3583251574720393497:=()
noncomputable def tw3642898546697378935:=()
noncomputable def tw3671848968351463014:=()
noncomputable def tw3836032336589502689:=()
noncomputable def tw3988856745957352062:=()
noncomputable def tw4122630967535234510:=()
noncomputable def tw413040425592864945:=()
noncomputable def tw415148143483650233:=()
noncomputable def tw4415491134077913856:=()
noncomputable def tw4479505427488094153:=()
noncomputable def tw4500469960068696538:=()
noncomputable def tw4533867322076491249:=()
noncomputable def tw4913172464882967160:=()
noncomputable def tw5012918974251983691:=()
noncomputable def tw5178974124227458710:=()
noncomputable def tw5358800165568883751:=()
noncomputable def tw5772645921623678595:=()
noncomputable def tw5862943582196527491:=()
noncomputable def tw5867923717959941260:=()
noncomputable def tw6153195383695159535:=()
noncomputable def tw6195397642891597698:=()
noncomputable def tw6216541917187166345:=()
noncomputable def tw6317994478323815321:=()
noncomputable def tw6511499362694092495:=()
noncomputable def tw7041757918666277294:=()
noncomputable def tw7081725064688714861:=()
noncomputable def tw7131750900400413210:=()
noncomputable def tw726006061301022302:=()
noncomputable def tw7328286876143398132:=()
noncomputable def tw7370993106314533880:=()
noncomputable def tw7566276025273049765:=()
noncomputable def tw7580095237449923181:=()
noncomputable def tw7593825588730181129:=()
noncomputable def tw7629427694302472412:=()
noncomputable def tw7656699222370550356:=()
noncomputable def tw7711414764101502619:=()
noncomputable def tw779680440127950469:=()
noncomputable def tw7846049428579329338:=()
noncomputable def tw8099178007321539865:=()
noncomputable def tw8339085279061375912:=()
noncomputable def tw8376893221377638783:=()
noncomputable def tw8397414344428475957:=()
noncomputable def tw8462739638662823322:=()
noncomputable def tw8672236200925336910:=()
noncomputable def tw8748158921065986377:=()
noncomputable def tw8898771065826294538:=()
noncomputable def tw9006317577574060227:=()
noncomputable def tw9031637713504248831:=()
noncomputable def tw9233804969314164962:=()
noncomputable def tw9308377010130351453:=()
noncomputable def tw9383594464604483069:=()
noncomputable def tw9594272304540878688:=()
noncomputable def tw9650210399355028885:=()
noncomputable def tw9667288505900413825:=()
noncomputable def tw9756309854185236621:=()
noncomputable def tw9806636297587966269:=()
noncomputable def tw9855283370893471491:=()
noncomputable def tw10074461163005440401:=()
noncomputable def tw10143878978458680727:=()
noncomputable def tw10177307693547994512:=()
noncomputable def tw10250299530781064802:=()
noncomputable def tw10250574727324977602:=()
noncomputable def tw10302231095340217960:=()
noncomputable def tw10304746863387565892:=()
noncomputable def tw10357377256169071720:=()
noncomputable def tw10381695903638864978:=()
noncomputable def tw10387593727103687430:=()
noncomputable def tw10390355750783922249:=()
noncomputable def tw10460100975769043413:=()
noncomputable def tw10533188037672267679:=()
noncomputable def tw10550144048922074134:=()
noncomputable def tw10554010385636867426:=()
noncomputable def tw10643602858042187465:=()
noncomputable def tw10691553912676653290:=()
noncomputable def tw107050782187718222:=()
noncomputable def tw1078431883958240399:=()
noncomputable def tw1091527140453786595:=()
noncomputable def tw10965386281475088055:=()
noncomputable def tw10974015107586771949:=()
noncomputable def tw11012001984475528569:=()
noncomputable def tw1102389726112990185:=()
noncomputable def tw11053503414948638959:=()
noncomputable def tw11094053234708935802:=()
noncomputable def tw11113971188903725117:=()
noncomputable def tw11131152434679112047:=()
noncomputable def tw11143644205477220447:=()
noncomputable def tw1117214646510198265:=()
noncomputable def tw11211695175096283307:=()
noncomputable def tw11216924355572955847:=()
noncomputable def tw11337611470547523167:=()
noncomputable def tw11363939739006208974:=()
noncomputable def tw11416698653547882702:=()
noncomputable def tw11478549167682291232:=()
noncomputable def tw11559557967513481738:=()
noncomputable def tw11565866563689219061:=()
noncomputable def tw1162534205512345035:=()
noncomputable def tw11653393253392680915:=()
noncomputable def tw1166460972405989816:=()
noncomputable def tw11787582804025268841:=()
noncomputable def tw11828004356266540401:=()
noncomputable def tw11836796469015402870:=()
noncomputable def tw11899770819412503492:=()
noncomputable def tw1196634604287670635:=()
noncomputable def tw12077946853849183876:=()
noncomputable def tw12150532240892985194:=()
noncomputable def tw12220614719055438367:=()
noncomputable def tw12298179689371604791:=()
noncomputable def tw12321058333633021114:=()
noncomputable def tw12380558254504292892:=()
noncomputable def tw12386769099565620999:=()
noncomputable def tw12409083365316411680:=()
noncomputable def tw12492546375636528394:=()
noncomputable def tw12601202001938555097:=()
noncomputable def tw12772726362385611690:=()
noncomputable def tw12805061618416420442:=()
noncomputable def tw12826867094048485129:=()
noncomputable def tw12878387371225565800:=()
noncomputable def tw12979688946985067407:=()
noncomputable def tw13015708629168946211:=()
noncomputable def tw13116144711915560422:=()
noncomputable def tw13176950834770353602:=()
noncomputable def tw13193907232579702361:=()
noncomputable def tw132216995820265062:=()
noncomputable def tw13246857294252250526:=()
noncomputable def tw13356878662687103996:=()
noncomputable def tw13541725508479621155:=()
noncomputable def tw1354845364631875905:=()
noncomputable def tw13585950918512955428:=()
noncomputable def tw13734805389839584690:=()
noncomputable def tw1375058491869250554:=()
noncomputable def tw13812903062330488527:=()
noncomputable def tw13835679232982297464:=()
noncomputable def tw13931381416430668727:=()
noncomputable def tw13961874503812993647:=()
noncomputable def tw13992158532815211591:=()
noncomputable def tw14066400661679751448:=()
noncomputable def tw14067373692132259542:=()
noncomputable def tw14111759693483661998:=()
noncomputable def tw14149948378187323923:=()
noncomputable def tw14152703508782702577:=()
noncomputable def tw14169955781827594100:=()
noncomputable def tw14198147458892361579:=()
noncomputable def tw14277286675574676746:=()
noncomputable def tw1431401493976376270:=()
noncomputable def tw14318927237951149142:=()
noncomputable def tw1441746956598747247:=()
noncomputable def tw1445520937377738664:=()
noncomputable def tw14460542843590860440:=()
noncomputable def tw14503257045626689348:=()
noncomputable def tw14518173571655782250:=()
noncomputable def tw14567829510491758045:=()
noncomputable def tw14591673360898115272:=()
noncomputable def tw14596362263567060813:=()
noncomputable def tw14772733754782825318:=()
noncomputable def tw14953197511480425074:=()
noncomputable def tw15076011204045382400:=()
noncomputable def tw15099420000760229978:=()
noncomputable def tw15106294697567610691:=()
noncomputable def tw15206380064039664814:=()
noncomputable def tw15248610137885942685:=()
noncomputable def tw15258310640781609548:=()
noncomputable def tw15271571794766207197:=()
noncomputable def tw15284572963329899613:=()
noncomputable def tw154683333527142060:=()
noncomputable def tw1556395190794717300:=()
noncomputable def tw15569300581126177754:=()
noncomputable def tw15590144533522064343:=()
noncomputable def tw15641155922385357060:=()
noncomputable def tw156575264970187623:=()
noncomputable def tw1573661398602500291:=()
noncomputable def tw15934972303718987445:=()
noncomputable def tw15941622544569336947:=()
noncomputable def tw15986084485951672195:=()
noncomputable def tw16087077287526843499:=()
noncomputable def tw16097002637310341403:=()
noncomputable def tw16105800027570381162:=()
noncomputable def tw16275182752525714781:=()
noncomputable def tw16312635326201267550:=()
noncomputable def tw16387662865811070477:=()
noncomputable def tw16481385238466568695:=()
noncomputable def tw16499147784740672930:=()
noncomputable def tw16631351675332503761:=()
noncomputable def tw16732710615161194942:=()
noncomputable def tw16831395673040927512:=()
noncomputable def tw16855346213633568109:=()
noncomputable def tw16867647921381611798:=()
noncomputable def tw16876801600658218282:=()
noncomputable def tw16905674199110224951:=()
noncomputable def tw16920034383610715403:=()
noncomputable def tw16920489635295017842:=()
noncomputable def tw17104702013247311493:=()
noncomputable def tw17151396269302745186:=()
noncomputable def tw17214133943730699748:=()
noncomputable def tw17231667245764509978:=()
noncomputable def tw17238862482108614693:=()
noncomputable def tw17468427683233395949:=()
noncomputable def tw17481353555057754300:=()
noncomputable def tw17573243218890203714:=()
noncomputable def tw17574804653937200532:=()
noncomputable def tw17579376749914739477:=()
noncomputable def tw17588689264356514660:=()
noncomputable def tw17605241905279574316:=()
noncomputable def tw17678469259682244167:=()
noncomputable def tw1770240160917883975:=()
noncomputable def tw17724222643649355595:=()
noncomputable def tw17739893061713259871:=()
noncomputable def tw17816619944763129945:=()
noncomputable def tw17872192258992812844:=()
noncomputable def tw17876918730534690502:=()
noncomputable def tw1792521645543672290:=()
noncomputable def tw1802416916758434782:=()
noncomputable def tw18165110674715128289:=()
noncomputable def tw1820274549820040831:=()
noncomputable def tw18219262045447071736:=()
noncomputable def tw18273849094517979926:=()
noncomputable def tw18289108743490497162:=()
noncomputable def tw18335734519447449216:=()
noncomputable def tw18357261928669645487:=()
noncomputable def tw18394715780151929604:=()
noncomputable def tw18404041944619724880:=()
noncomputable def tw1851310488327077606:=()
noncomputable def tw1893232877574965914:=()
noncomputable def tw2014117262171752645:=()
noncomputable def tw2015320641527610107:=()
noncomputable def tw2047093080555541883:=()
noncomputable def tw2052286010665793592:=()
noncomputable def tw2072839538102930017:=()
noncomputable def tw208573003604896651:=()
noncomputable def tw2093558178749974397:=()
noncomputable def tw2155509781282100861:=()
noncomputable def tw2155859219404316463:=()
noncomputable def tw2204201173010272144:=()
noncomputable def tw2221935013694383855:=()
noncomputable def tw2277392917728461767:=()
noncomputable def tw2395931969338476372:=()
noncomputable def tw2437539194386554033:=()
noncomputable def tw2455529171034694807:=()
noncomputable def tw2494526821445115761:=()
noncomputable def tw2528429345233363969:=()
noncomputable def tw256973651747672204:=()
noncomputable def tw2584461857638880964:=()
noncomputable def tw2584795891097164025:=()
noncomputable def tw2679573451490474857:=()
noncomputable def tw2720028768800740154:=()
noncomputable def tw2770274451343840307:=()
noncomputable def tw2833100714023528991:=()
noncomputable def tw2890216130874121801:=()
noncomputable def tw2917405934694158280:=()
noncomputable def tw296187944963491038:=()
noncomputable def tw3089966994985043474:=()
noncomputable def tw3109393294281932549:=()
noncomputable def tw3111383324512875863:=()
noncomputable def tw3232395812167818956:=()
noncomputable def tw3235098928583754592:=()
noncomputable def tw3247687989644815133:=()
noncomputable def tw3273110904993983250:=()
noncomputable def tw3370755423371785025:=()
noncomputable def tw3383835769596821439:=()
noncomputable def tw3401264548282584544:=()
noncomputable def tw3431414687451743120:=()
noncomputable def tw348843947119210920:=()
noncomputable def tw3606576036757876218:=()
noncomputable def tw3628663233455092309:=()
noncomputable def tw3632120785089395853:=()
noncomputable def tw3638002377594234532:=()
noncomputable def tw3779449516857976154:=()
noncomputable def tw3793333217593243854:=()
noncomputable def tw3837400238338978385:=()
noncomputable def tw3902702063377439264:=()
noncomputable def tw3987860911151751221:=()
noncomputable def tw4006612578768810482:=()
noncomputable def tw4024560183695769263:=()
noncomputable def tw4041882578966192818:=()
noncomputable def tw4092536230029065713:=()
noncomputable def tw4147057489610067324:=()
noncomputable def tw4197616486426553357:=()
noncomputable def tw4353596724017860012:=()
noncomputable def tw4477782758255880411:=()
noncomputable def tw4496468507962777679:=()
noncomputable def tw4563879702048170359:=()
noncomputable def tw4656609646809651212:=()
noncomputable def tw4676218842703000039:=()
noncomputable def tw4731287302052180986:=()
noncomputable def tw4742844398640061:=()
noncomputable def tw4766459798543708977:=()
noncomputable def tw4845867510095802426:=()
noncomputable def tw4853350006383857665:=()
noncomputable def tw4896370017714757513:=()
noncomputable def tw4919956923880894445:=()
noncomputable def tw5023921332891045822:=()
noncomputable def tw517353784188534763:=()
noncomputable def tw5190129158781638849:=()
noncomputable def tw5251065383579509666:=()
noncomputable def tw531119639911801372:=()
noncomputable def tw5387057945001842250:=()
noncomputable def tw5408898701763469416:=()
noncomputable def tw5430091822911742447:=()
noncomputable def tw5440933128379722644:=()
noncomputable def tw5450145608887392828:=()
noncomputable def tw5498773031360193542:=()
noncomputable def tw5581593466090220291:=()
noncomputable def tw5621858879450963193:=()
noncomputable def tw5645467944923526076:=()
noncomputable def tw5698437653440055175:=()
noncomputable def tw5705602409173588605:=()
noncomputable def tw5741614900265101126:=()
noncomputable def tw5757852751805023783:=()
noncomputable def tw5778515170648676892:=()
noncomputable def tw5845813933790456101:=()
noncomputable def tw5867940621472432411:=()
noncomputable def tw5889697027458158707:=()
noncomputable def tw5971198616311324019:=()
noncomputable def tw6070828380197691752:=()
noncomputable def tw6122316892636542754:=()
noncomputable def tw6168140795964353578:=()
noncomputable def tw6175821313867679468:=()
noncomputable def tw6197962168410925238:=()
noncomputable def tw6271305494586973401:=()
noncomputable def tw6283554704490220070:=()
noncomputable def tw6304161684364992122:=()
noncomputable def tw6306969419461141159:=()
noncomputable def tw6332472182662805201:=()
noncomputable def tw6403210791105642510:=()
noncomputable def tw6467885581337893702:=()
noncomputable def tw6472951575102959749:=()
noncomputable def tw6552341093331147684:=()
noncomputable def tw6552644165447669887:=()
noncomputable def tw6588223498088604439:=()
noncomputable def tw6614526486766504972:=()
noncomputable def tw667757626270976558:=()
noncomputable def tw6696683166548378155:=()
noncomputable def tw6706208885365640579:=()
noncomputable def tw6713932878035533252:=()
noncomputable def tw6786963459271280004:=()
noncomputable def tw6845896823641707365:=()
noncomputable def tw6852350319563368517:=()
noncomputable def tw6909485155814464115:=()
noncomputable def tw6913943479558060133:=()
noncomputable def tw698631330659216441:=()
noncomputable def tw6999714017520788124:=()
noncomputable def tw7004538022029488279:=()
noncomputable def tw7161271989776785956:=()
noncomputable def tw7194675078598077036:=()
noncomputable def tw737887936174954883:=()
noncomputable def tw7520382703244647164:=()
noncomputable def tw7561734419301089305:=()
noncomputable def tw7563027400257191232:=()
noncomputable def tw7658947132177597770:=()
noncomputable def tw7723310480118131162:=()
noncomputable def tw7766863517443669065:=()
noncomputable def tw7814847872122198406:=()
noncomputable def tw8054929664829161376:=()
noncomputable def tw8096038081628382198:=()
noncomputable def tw8212282488254166900:=()
noncomputable def tw8423841161060705127:=()
noncomputable def tw8448912394614077769:=()
noncomputable def tw845337526991235930:=()
noncomputable def tw8495346942969972581:=()
noncomputable def tw853729850252290697:=()
noncomputable def tw8562879848454560144:=()
noncomputable def tw8564581245434469615:=()
noncomputable def tw859131551373705080:=()
noncomputable def tw8703277401528321304:=()
noncomputable def tw8705441650931907031:=()
noncomputable def tw8709989681187300114:=()
noncomputable def tw896086125081101424:=()
noncomputable def tw8972304823349959065:=()
noncomputable def tw9024531705821764584:=()
noncomputable def tw9034567252410090137:=()
noncomputable def tw9092314173859231208:=()
noncomputable def tw9171430935909615358:=()
noncomputable def tw9269130148912499081:=()
noncomputable def tw9274504513041311316:=()
noncomputable def tw9370501978368127572:=()
noncomputable def tw9371333374651673679:=()
noncomputable def tw9397880097266491362:=()
noncomputable def tw9406540634203155502:=()
noncomputable def tw9441118728641195806:=()
noncomputable def tw9483377396296897542:=()
noncomputable def tw9488630882261454223:=()
noncomputable def tw951018343673157991:=()
noncomputable def tw9557850897514526478:=()
noncomputable def tw9562200125698533555:=()
noncomputable def tw9659320324481345975:=()
noncomputable def tw9734701604370159078:=()
noncomputable def tw9741684033917924650:=()
noncomputable def tw9974258708343004309:=()
noncomputable def tw9977235280728177607:=()
noncomputable def tw9987608801027073691:=()
noncomputable def tw9987797645277415930:=()
end PySem.W.Fast
open PySem PySem.W PyProof.Rows
set_option maxRecDepth 100000 in
set_option maxHeartbeats 0 in
theorem PySem.Challenge.cw_rootcourt_k20_cuts_told_holds : PySem.Challenge.rw_rootcourt_k20_cuts_told.Holds := by
 w_on;o_law;k_head;(case hw=>w_witness2)
 k_fill
 refine Z.walk (l:=PySem.Challenge.rw_rootcourt_k20_cuts_told) rfl rfl (by decide+kernel) rfl (fun w h Y=>kIn_of Y) ?F
 case F=>
  intro w mg J h I G z
  refine' Z.all_mk I G z ?d1 ?d2 ?d3 ?d4 ?d5 ?d6 ?d7 ?d8 ?d9 ?d10 ?d11 ?d12 ?d13 ?d14 ?d15 ?d16 ?d17 ?d18 ?d19 ?d20 ?d21 ?d22 ?d23 ?d24 ?d25 ?d26 ?d27 ?d28 ?d29 ?d30 ?d31 ?d32 ?d33 ?d34 ?d35 ?d36 ?d37 ?d38 ?d39 ?d40 ?d41 ?d42 ?d43 ?d44 ?d45 ?d46 ?d47 ?d48 ?d49 ?d50 ?d51 ?d52 ?d53 ?d54 ?d55 ?d56 ?d57 ?d58 ?d59 ?d60 ?d61 ?d62 ?d63 ?d64 ?d65 ?d66 ?d67 ?d68 ?aNoPart ?aNoFree ?aCourtError ?xkNoPart ?xcPRIME ?xcLEAST_NARROWING ?xkNoFree ?xigetattributeNoFree ?xigetattrNoFree ?xiclassNoFree ?xiobjectNoFree ?xiBaseExceptionNoFree ?kiNoFreeCourtError ?zrange ?ztuple ?zabs ?zlen ?zlist ?zzip ?zmax ?zenumerate ?zreversed ?zmin ?zisinstance ?zint ?zbool ?zall
  (case aNoPart=>k_is);(case aNoFree=>k_is);(case aCourtError=>k_is);(case xkNoPart=>k_exc);(case xcPRIME=>k_is);(case xcLEAST_NARROWING=>k_is);(case xkNoFree=>k_exc);(case xigetattributeNoFree=>k_is);(case xigetattrNoFree=>k_is);(case xiclassNoFree=>k_is);(case xiobjectNoFree=>k_is);(case xiBaseExceptionNoFree=>k_is);(case kiNoFreeCourtError=>kit_is)
  all_goals first | k_is | exact⟨_,_,_,_,_,_,_,_,_,_,by k_is,by k_is,by k_is,by k_is⟩
