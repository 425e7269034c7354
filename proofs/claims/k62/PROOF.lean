import PyProof.Rows.All
import Wide.All
import OpenK.AllK
import Wide.FinOn
import Lean
import PyProof.EqAt
import PyProof.EqKinds
import PyProof.TupleCall
import PySem.Challenge.RW_rootcourt_k62_any_quotient_paper
set_option maxHeartbeats 4000000
set_option Elab.async false
set_option linter.all false
set_option maxRecDepth 100000
namespace L2
open PySem PySem.Spec PyProof.Rows
abbrev Key := Sum Int Str
def Ahd : Key -> Value -> Bool
  | .inl k, v => Value.isInt k v
  | .inr x, v => Value.isStrOf x v
def Akn (w : World) : Key -> Int
  | .inl k => hashInt k
  | .inr x => hashStr w x
theorem Ec : ∀ {k : Key} {v : Value}, Ahd k v = true -> (∃ i t, k = Sum.inl i /\ v = Value.int i t) \/ (∃ x t, k = Sum.inr x /\ v = Value.str x t)
  | .inl i, v, h => by
    obtain ⟨t, e⟩ := Value.isInt_shape (k := i) (v := v) h
    exact .inl ⟨i, t, rfl, e⟩
  | .inr x, v, h => by
    obtain ⟨t, e⟩ := Value.isStrOf_shape (x := x) (v := v) h
    exact .inr ⟨x, t, rfl, e⟩
theorem Aim (a b : Int) : decide ((Sum.inl a : Key) = Sum.inl b) = (a == b) := by
  by_cases e : a = b
  . subst e; simp
  . have h : ¬ (Sum.inl a : Key) = Sum.inl b := fun q => e (Sum.inl.inj q)
    rw [decide_eq_false h]
    exact (beq_eq_false_iff_ne.mpr e).symm
theorem Ah1 (a b : Str) : decide ((Sum.inr a : Key) = Sum.inr b) = decide (a = b) := by
  by_cases e : a = b
  . subst e; simp
  . have h : ¬ (Sum.inr a : Key) = Sum.inr b := fun q => e (Sum.inr.inj q)
    rw [decide_eq_false h, decide_eq_false e]
theorem Ahz (a : Int) (b : Str) : decide ((Sum.inl a : Key) = Sum.inr b) = false := decide_eq_false (fun q => nomatch q)
theorem Ail (a : Str) (b : Int) : decide ((Sum.inr a : Key) = Sum.inl b) = false := decide_eq_false (fun q => nomatch q)
def Aal (prog : Program) (w : World) : PySem.KeyKind prog w Key where
  is := Ahd
  hash := Akn w
  inj := fun v a b ha hb => by
    rcases Ec ha with ⟨i, t, rfl, rfl⟩ | ⟨x, t, rfl, rfl⟩
    . rcases Ec hb with ⟨j, u, rfl, e⟩ | ⟨y, u, rfl, e⟩
      . injection e with e1 _; rw [e1]
      . exact nomatch e
    . rcases Ec hb with ⟨j, u, rfl, e⟩ | ⟨y, u, rfl, e⟩
      . exact nomatch e
      . injection e with e1 _; rw [e1]
  byValue := fun k v h => by
    rcases Ec h with ⟨i, t, rfl, rfl⟩ | ⟨x, t, rfl, rfl⟩ <;> rfl
  pyHash := fun hv h => by
    rcases Ec hv with ⟨i, t, rfl, rfl⟩ | ⟨x, t, rfl, rfl⟩
    . exact wpAny_pyHash_int h
    . exact wpAny_pyHash_str h
  eqBool := fun hu hv h => by
    rcases Ec hu with ⟨i, t, rfl, rfl⟩ | ⟨x, t, rfl, rfl⟩
    . rcases Ec hv with ⟨j, u, rfl, rfl⟩ | ⟨y, u, rfl, rfl⟩
      . rw [Aim] at h; exact wpAny_eqBool_int h
      . rw [Ahz] at h; exact SeqAt.EqAt.int_str i t y u _ _ _ _ h
    . rcases Ec hv with ⟨j, u, rfl, rfl⟩ | ⟨y, u, rfl, rfl⟩
      . rw [Ail] at h; exact SeqAt.EqAt.str_int x t j u _ _ _ _ h
      . rw [Ah1] at h; exact wpAny_eqBool_str h
  «strs» := fun k x t v h => by
    rcases Ec h with ⟨i, u, rfl, e⟩ | ⟨y, u, rfl, e⟩
    . exact nomatch e
    . injection e with e1 _
      subst e1
      cases v <;> rfl
end L2
namespace L2
open PySem PySem.Spec PyProof.Rows
inductive V where
  | non | bl (b : Bool) | int (i : Int) | str (x : Str) | byt (b : Array UInt8) | flt (b : UInt64) | ref (a : Addr) | ty (n : String)
  deriving DecidableEq
def RelV : V -> Value -> Prop
  | .non, u => u = Value.none
  | .bl b, u => u = Value.bool b
  | .int i, u => ∃ t, u = Value.int i t
  | .str x, u => ∃ t, u = Value.str x t
  | .byt b, u => ∃ t, u = Value.bytes b t
  | .flt b, u => ∃ t, u = Value.float b t
  | .ref a, u => u = Value.ref a
  | .ty n, u => u = Value.type n
abbrev Vals : List V -> List Value -> Prop := Paired RelV
theorem Vals.length {xs : List V} {us : List Value} (r : Vals xs us) : xs.length = us.length := Paired.length r
theorem Vals.get : ∀ {xs : List V} {us : List Value} {i : Nat} {x : V}, Vals xs us -> xs[i]? = some x -> ∃ u, us[i]? = some u /\ RelV x u
  | _, _, _, _, .nil, e => by simp at e
  | _, _, 0, _, .cons r _, e => by simp at e; subst e; exact ⟨_, rfl, r⟩
  | _, _, i + 1, x, .cons _ t, e => by
    obtain ⟨u, h1, h2⟩ := Vals.get (i := i) (x := x) t (by simpa using e)
    exact ⟨u, by simpa using h1, h2⟩
theorem Vals.set {x : V} {u : Value} (r : RelV x u) : ∀ {xs : List V} {us : List Value} (i : Nat), Vals xs us -> Vals (xs.set i x) (us.set i u)
  | _, _, _, .nil => .nil
  | _, _, 0, .cons _ t => .cons r t
  | _, _, i + 1, .cons q t => .cons q (Vals.set r i t)
theorem Vals.append : ∀ {xs ys : List V} {us ws : List Value}, Vals xs us -> Vals ys ws -> Vals (xs ++ ys) (us ++ ws)
  | _, _, _, _, .nil, s => s
  | _, _, _, _, .cons r t, s => .cons r (Vals.append t s)
theorem Vals.take : ∀ {xs : List V} {us : List Value} (n : Nat), Vals xs us -> Vals (xs.take n) (us.take n)
  | _, _, 0, _ => .nil
  | _, _, _ + 1, .nil => .nil
  | _, _, n + 1, .cons r t => .cons r (Vals.take n t)
theorem Vals.drop : ∀ {xs : List V} {us : List Value} (n : Nat), Vals xs us -> Vals (xs.drop n) (us.drop n)
  | _, _, 0, r => r
  | _, _, _ + 1, .nil => .nil
  | _, _, n + 1, .cons _ t => Vals.drop n t
def Ajc : Option V -> Option Value -> Prop
  | some v, some u => RelV v u
  | none, none => True
  | _, _ => False
def KV {κ : Type} : List (κ × V) -> List (κ × Value) -> Prop := Paired fun (p : κ × V) (q : κ × Value) => p.1 = q.1 /\ RelV p.2 q.2
def kV : Key -> V
  | .inl i => .int i
  | .inr x => .str x
inductive HO where
  | lst (xs : List V)
  | tup (xs : List V)
  | dK (kvs : List (Key × V)) | dT (kvs : List (List Key × V))
  | set (S : Int -> Bool) (n : Nat)
  | ins (C dx : Addr) (fs : List (Str × V))
  | own (x : Addr)
  | xd (fs : List (Str × V))
  | met (f x : Addr)
  | rng (lo hi : Int)
  | frz (o : Obj) (u : HO)
  | tbl (ps : Array Value)
  | ext (φ : Heap -> Prop)
abbrev Hp := Addr -> Option HO
def upd (H : Hp) (a : Addr) (o : HO) : Hp := fun b => if b = a then some o else H b
theorem Ae {H : Hp} {a : Addr} {o : HO} : upd H a o a = some o := by unfold upd; rw [if_pos rfl]
theorem Cp {H : Hp} {a b : Addr} {o : HO} (h : b ≠ a) : upd H a o b = H b := by unfold upd; rw [if_neg h]
theorem U4 {H : Hp} {a : Addr} {o u : HO} : upd (upd H a o) a u = upd H a u := by
  funext b; unfold upd; split <;> rfl
theorem Ah6 {H : Hp} {a b : Addr} {o u : HO} (h : H a = some o) (h' : H b = some u) (d : o ≠ u) : a ≠ b := by
  intro e; subst e; rw [h] at h'; exact d (Option.some.inj h')
theorem Ce {H : Hp} {a b : Addr} {o : HO} (h : H a = some o) (h' : H b = none) : a ≠ b := by
  intro e; subst e; rw [h] at h'; cases h'
section
variable (P : Program) (w : World)
def Jh (H : Hp) (h : Heap) (a : Addr) : HO -> Prop
  | .lst xs => xs.length <= sizeLine /\ ∃ (its : List Value) (n : Nat), Vals xs its /\ h.get? a = some { cls := .type "list", data := .seq its.toArray n }
  | .tup xs => xs.length <= sizeLine /\ ∃ its : List Value, Vals xs its /\ IsTup h a its.toArray
  | .dK kvs => kvs.length <= sizeLine /\ (a == sysModules) = false /\ ∃ vs, KV kvs vs /\ h.DictOf (Aal P w) a vs
  | .dT kvs => kvs.length <= sizeLine /\ (a == sysModules) = false /\ ∃ xs : List (List Key × Addr × Value),
      Paired (fun (p : List Key × V) (q : List Key × Addr × Value) => p.1 = q.1 /\ H q.2.1 = some (.tup (p.1.map kV)) /\ RelV p.2 q.2.2) kvs xs /\
      ∃ o es ep, h.get? a = some o /\ o.ExactDict /\ o.data = .dict es ep /\ es.toList = xs.map (entryOfKey (tupleKind (Aal P w))) /\ (xs.map (·.1)).Nodup
  | .set S n => h.SetOf (intKind P w) a S n
  | .ins C dx fs => H dx = some (.own a) /\ fs.length <= 1000 /\ dx ≠ a /\ h.get? a = some (PySem.W.instObj C dx) /\
      ∃ mA, h.Ns1 dx mA /\ (∀ f, Ajc (fs.lookup f) (mA f)) /\ PySem.Within mA (fs.map (·.1))
  | .own _ => ∃ o, h.get? a = some o
  | .xd fs => ∃ mA, h.Ns1 a mA /\ ∀ f, Ajc (fs.lookup f) (mA f)
  | .rng lo hi => ∃ t u v, h.get? a = some { cls := .type "range", data := .fields #[.int lo t, .int hi u, .int 1 v] }
  | .frz o u => h.get? a = some o /\ Jh H h a u
  | .tbl ps => h.get? a = some { cls := .none, data := .fields ps }
  | .met f x => h.get? a = some (PySem.W.methodObj (.ref f) (.ref x))
  | .ext φ => φ h /\ (∃ o, h.get? a = some o) /\ ∀ h1 h2 : Heap, φ h1 -> (∀ o, h1.get? a = some o -> h2.get? a = some o) -> φ h2
def HOk (H : Hp) (h : Heap) : Prop := ∀ a o, H a = some o -> Jh P w H h a o
end
section
variable {P : Program} {w : World} {H H' : Hp} {h h' : Heap} {a : Addr} {o : HO}
theorem Jh.lt (x : Jh P w H h a o) : a < h.objs.size := by
  cases o with
  | lst xs => obtain ⟨_, _, _, _, e⟩ := x; exact Heap.lt_size e
  | tup xs => obtain ⟨_, _, _, p⟩ := x; exact p.lt
  | dK kvs => obtain ⟨_, _, _, _, o, _, _, e, _⟩ := x; exact Heap.lt_size e
  | dT kvs => obtain ⟨_, _, _, _, o, _, _, e, _⟩ := x; exact Heap.lt_size e
  | set S n => obtain ⟨o, _, _, _, e, _⟩ := x; exact Heap.lt_size e
  | ins C dx fs => obtain ⟨_, _, _, e, _⟩ := x; exact Heap.lt_size e
  | own y => obtain ⟨_, e⟩ := x; exact Heap.lt_size e
  | xd fs => obtain ⟨_, ⟨_, _, _, e, _⟩, _⟩ := x; exact Heap.lt_size e
  | rng lo hi => obtain ⟨_, _, _, e⟩ := x; exact Heap.lt_size e
  | frz ob u => obtain ⟨e, _⟩ := x; exact Heap.lt_size e
  | tbl ps => exact Heap.lt_size (show h.get? a = some _ from x)
  | met f y => exact Heap.lt_size (show h.get? a = some _ from x)
  | ext φ => obtain ⟨_, ⟨_, e⟩, _⟩ := x; exact Heap.lt_size e
theorem Paired.mapP {α β : Type} {F G : α -> β -> Prop} : ∀ {l₁ : List α} {l₂ : List β}, Paired F l₁ l₂ -> (∀ a b, F a b -> G a b) -> Paired G l₁ l₂
  | _, _, .nil, _ => .nil
  | _, _, .cons r t, f => .cons (f _ _ r) (Paired.mapP t f)
theorem Jh.stay (x : Jh P w H h a o) (k : ∀ b u, (b = a \/ H b = some (.own a)) -> h.get? b = some u -> h'.get? b = some u)
    (ho : ∀ b, H b = some (.own a) -> H' b = some (.own a)) (ht : ∀ b xs, H b = some (.tup xs) -> H' b = some (.tup xs)) : Jh P w H' h' a o := by
  induction o with
  | lst xs => obtain ⟨z, its, n, r, e⟩ := x; exact ⟨z, its, n, r, k _ _ (.inl rfl) e⟩
  | tup xs => obtain ⟨z, its, r, ob, e, c⟩ := x; exact ⟨z, its, r, ob, k _ _ (.inl rfl) e, c⟩
  | dK kvs => obtain ⟨z, y, vs, r, ob, es, ep, e, c⟩ := x; exact ⟨z, y, vs, r, ob, es, ep, k _ _ (.inl rfl) e, c⟩
  | dT kvs =>
    obtain ⟨z, y, xs, r, ob, es, ep, e, c⟩ := x
    exact ⟨z, y, xs, Paired.mapP r fun p q z => ⟨z.1, ht _ _ z.2.1, z.2.2⟩, ob, es, ep, k _ _ (.inl rfl) e, c⟩
  | set S n => obtain ⟨ob, es, ep, t, e, c⟩ := x; exact ⟨ob, es, ep, t, k _ _ (.inl rfl) e, c⟩
  | ins C dx fs =>
    obtain ⟨d, z, ne, e, mA, ⟨od, es, ep, e2, c⟩, r⟩ := x
    exact ⟨ho _ d, z, ne, k _ _ (.inl rfl) e, mA, ⟨od, es, ep, k _ _ (.inr d) e2, c⟩, r⟩
  | own y => obtain ⟨ob, e⟩ := x; exact ⟨ob, k _ _ (.inl rfl) e⟩
  | xd fs => obtain ⟨mA, ⟨od, es, ep, e, c⟩, r⟩ := x; exact ⟨mA, ⟨od, es, ep, k _ _ (.inl rfl) e, c⟩, r⟩
  | rng lo hi => obtain ⟨t, u, v, e⟩ := x; exact ⟨t, u, v, k _ _ (.inl rfl) e⟩
  | frz ob u ih => obtain ⟨e, q⟩ := x; exact ⟨k _ _ (.inl rfl) e, ih q⟩
  | tbl ps =>
    have e : h.get? a = some { cls := .none, data := .fields ps } := x
    show h'.get? a = some { cls := .none, data := .fields ps }
    exact k a _ (.inl rfl) e
  | met f y =>
    have e : h.get? a = some (PySem.W.methodObj (.ref f) (.ref y)) := x
    show h'.get? a = some (PySem.W.methodObj (.ref f) (.ref y))
    exact k a _ (.inl rfl) e
  | ext φ => obtain ⟨p, ⟨o, e⟩, st⟩ := x; exact ⟨st _ _ p fun o q => k _ _ (.inl rfl) q, ⟨o, k _ _ (.inl rfl) e⟩, st⟩
theorem HOk.lt (x : HOk P w H h) (e : H a = some o) : a < h.objs.size := (x a o e).lt
theorem HOk.fresh (x : HOk P w H h) (e : h.objs.size <= a) : H a = none := by
  cases q : H a with
  | none => rfl
  | some u => exact absurd (Nat.lt_of_lt_of_le (x.lt q) e) (Nat.lt_irrefl _)
theorem HOk.kept (x : HOk P w H h) (k : ∀ b u, h.get? b = some u -> h'.get? b = some u) : HOk P w H h' := fun a o e =>
  (x a o e).stay (fun b u _ q => k b u q) (fun _ q => q) fun _ _ q => q
theorem HOk.laid (x : HOk P w H h) (k : ∀ b u, h.get? b = some u -> h'.get? b = some u) (hp : h.objs.size <= a) (new : Jh P w (upd H a o) h' a o) : HOk P w (upd H a o) h' := fun b u e => by
  have hn := x.fresh hp
  by_cases hb : b = a
  . subst hb; rw [Ae] at e; cases e; exact new
  . rw [Cp hb] at e
    exact (x b u e).stay (fun c v _ q => k c v q) (fun c q => by rw [Cp (Ce q hn)]; exact q) fun c xs q => by rw [Cp (Ce q hn)]; exact q
end
def Rd (H : Hp) (a : Addr) (u : HO) : Prop := H a = some u \/ ∃ o, H a = some (.frz o u)
theorem Rd.of {H : Hp} {a : Addr} {u : HO} (h : H a = some u) : Rd H a u := .inl h
theorem Rd.ok {P : Program} {w : World} {H : Hp} {h : Heap} {a : Addr} {u : HO} (r : Rd H a u) (x : HOk P w H h) : Jh P w H h a u := by
  rcases r with r | ⟨o, r⟩
  . exact x a u r
  . obtain ⟨_, q⟩ := x a _ r
    exact q
def Mut : Option HO -> Prop
  | some (.lst _) => True
  | some (.dK _) => True
  | some (.dT _) => True
  | some (.set _ _) => True
  | some (.ins _ _ _) => True
  | some (.ext _) => True
  | _ => False
section
variable {P : Program} {w : World} {H : Hp} {h h' : Heap} {x e : Addr} {o' : HO}
theorem HOk.write (ok : HOk P w H h) (mu : Mut (H x)) (he : e = x \/ H e = some (.own x)) (k : ∀ b u, b ≠ e -> h.get? b = some u -> h'.get? b = some u) (heo : ∃ u, h'.get? e = some u)
    (new : Jh P w (upd H x o') h' x o') : HOk P w (upd H x o') h' := fun b u q => by
  have nown : ∀ c y, H c = some (.own y) -> c ≠ x := fun c y r z => by subst z; rw [r] at mu; exact mu
  have ntup : ∀ c xs, H c = some (.tup xs) -> c ≠ x := fun c xs r z => by subst z; rw [r] at mu; exact mu
  by_cases hb : b = x
  . subst hb; rw [Ae] at q; cases q; exact new
  . rw [Cp hb] at q
    by_cases hbe : b = e
    . have q' : H b = some (.own x) := by
        rcases he with z | z
        . exact absurd (hbe.trans z) hb
        . rw [hbe]; exact z
      rw [q] at q'; cases q'
      obtain ⟨v, hv⟩ := heo
      exact ⟨v, by rw [hbe]; exact hv⟩
    . refine (ok b u q).stay (fun c v hc r => k c v ?_ r) (fun c r => by rw [Cp (nown c b r)]; exact r) fun c xs r => by rw [Cp (ntup c xs r)]; exact r
      rcases hc with rfl | hc
      . exact hbe
      . rintro rfl
        rcases he with z | z
        . exact nown c b hc z
        . rw [hc] at z; cases z; exact hb rfl
end
structure Un (fs ex : List Addr) (H H' : Hp) (h h' : Heap) : Prop where
  keep : ∀ b o, h.get? b = some o -> H b = none -> b ∉ fs -> b ∉ ex -> h'.get? b = some o
  slot : ∀ b o, h.get? b = some o -> H b = none -> b ∈ fs -> b ∉ ex -> ∃ sl, h'.get? b = some { o with slots := sl }
  free : ∀ b o, h.get? b = some o -> H b = none -> b ∉ ex -> H' b = none
  there : ∀ b o, h.get? b = some o -> b ∉ ex -> ∃ o', h'.get? b = some o'
  tups : ∀ b xs, H b = some (.tup xs) -> H' b = some (.tup xs)
  frzs : ∀ b o u, H b = some (.frz o u) -> H' b = some (.frz o u)
  tbls : ∀ b ps, H b = some (.tbl ps) -> ∃ more, H' b = some (.tbl (ps ++ more))
section
variable {fs fs' ex ex' : List Addr} {H H1 H2 : Hp} {h h1 h2 h' : Heap} {a x e : Addr} {o : HO}
theorem Un.any (u : Un fs ex H H1 h h1) {b : Addr} {ob : Obj} (q : h.get? b = some ob) (n : H b = none) (hx : b ∉ ex) : ∃ sl, h1.get? b = some { ob with slots := sl } := by
  by_cases hb : b ∈ fs
  . exact u.slot b ob q n hb hx
  . exact ⟨ob.slots, u.keep b ob q n hb hx⟩
theorem Un.trans (a : Un fs ex H H1 h h1) (b : Un fs ex H1 H2 h1 h2) : Un fs ex H H2 h h2 where
  keep := fun c ob q n hc hx => b.keep c ob (a.keep c ob q n hc hx) (a.free c ob q n hx) hc hx
  slot := fun c ob q n hc hx => by
    obtain ⟨sl, e1⟩ := a.slot c ob q n hc hx
    obtain ⟨sl', e2⟩ := b.slot c _ e1 (a.free c ob q n hx) hc hx
    exact ⟨sl', e2⟩
  free := fun c ob q n hx => by
    obtain ⟨o', e1⟩ := a.there c ob q hx
    exact b.free c o' e1 (a.free c ob q n hx) hx
  there := fun c ob q hx => by
    obtain ⟨o', e1⟩ := a.there c ob q hx
    exact b.there c o' e1 hx
  tups := fun c xs q => b.tups c xs (a.tups c xs q)
  frzs := fun c ob xs q => b.frzs c ob xs (a.frzs c ob xs q)
  tbls := fun c ps q => by
    obtain ⟨m1, e1⟩ := a.tbls c ps q
    obtain ⟨m2, e2⟩ := b.tbls c _ e1
    exact ⟨m1 ++ m2, by rw [e2, Array.append_assoc]⟩
theorem Un.kept (k : ∀ b u, h.get? b = some u -> h'.get? b = some u) : Un fs ex H H h h' :=
  ⟨fun b ob q _ _ _ => k b ob q, fun b ob q _ _ _ => ⟨ob.slots, k b ob q⟩, fun _ _ _ n _ => n, fun b ob q _ => ⟨ob, k b ob q⟩, fun _ _ q => q, fun _ _ _ q => q, fun _ ps q => ⟨#[], by rw [q]; simp⟩⟩
theorem Un.refl : Un fs ex H H h h := Un.kept fun _ _ q => q
theorem Un.laid (k : ∀ b u, h.get? b = some u -> h'.get? b = some u) (hp : h.objs.size <= a) (hn : H a = none) : Un fs ex H (upd H a o) h h' where
  keep := fun b u q _ _ _ => k b u q
  slot := fun b u q _ _ _ => ⟨u.slots, k b u q⟩
  free := fun b u q n _ => by rw [Cp (Nat.ne_of_lt (Nat.lt_of_lt_of_le (Heap.lt_size q) hp))]; exact n
  there := fun b u q _ => ⟨u, k b u q⟩
  tups := fun b xs q => by rw [Cp (Ce q hn)]; exact q
  frzs := fun b u xs q => by rw [Cp (Ce q hn)]; exact q
  tbls := fun b ps q => ⟨#[], by rw [Cp (Ce q hn), q]; simp⟩
theorem Un.write (mu : Mut (H x)) (he : e = x \/ H e = some (.own x)) (k : ∀ b u, b ≠ e -> h.get? b = some u -> h'.get? b = some u) (heo : ∃ u, h'.get? e = some u) : Un fs ex H (upd H x o) h h' := by
  have hx : ∀ b, H b = none -> b ≠ x := fun b n z => by subst z; rw [n] at mu; exact mu
  have hb : ∀ b, H b = none -> b ≠ e := fun b n z => by
    subst z
    rcases he with r | r
    . exact hx b n r
    . rw [n] at r; cases r
  have hm : ∀ b u, H b = some u -> ¬ Mut (some u) -> b ≠ x := fun b u q nm z => by subst z; rw [q] at mu; exact nm mu
  refine ⟨fun b u q n _ _ => k b u (hb b n) q, fun b u q n _ _ => ⟨u.slots, k b u (hb b n) q⟩, fun b u q n _ => by rw [Cp (hx b n)]; exact n, fun b u q _ => ?_,
    fun b xs q => by rw [Cp (hm b _ q fun z => z)]; exact q, fun b u xs q => by rw [Cp (hm b _ q fun z => z)]; exact q, fun b ps q => ⟨#[], by rw [Cp (hm b _ q fun z => z), q]; simp⟩⟩
  by_cases hbe : b = e
  . subst hbe; exact heo
  . exact ⟨u, k b u hbe q⟩
theorem Un.mono (u : Un fs ex H H1 h h1) (hs : ∀ b ∈ fs, b ∈ fs') (hx : ∀ b ∈ ex, b ∈ ex') : Un fs' ex' H H1 h h1 :=
  ⟨fun b ob q n hb he => u.keep b ob q n (fun z => hb (hs b z)) fun z => he (hx b z), fun _ _ q n _ he => u.any q n fun z => he (hx _ z), fun b ob q n he => u.free b ob q n fun z => he (hx b z), fun b ob q he => u.there b ob q fun z => he (hx b z), u.tups, u.frzs, u.tbls⟩
end
def trk (h : Heap) (H : Hp) : List Addr := (List.range h.objs.size).filter fun a => (H a).isSome
def Ad0 (h : Heap) (H : Hp) : Heap := PySem.W.hideAll h (trk h H)
theorem Aa2 (h : Heap) (H : Hp) : (Ad0 h H).objs.size = h.objs.size := PySem.W.hideAll_size _ _
theorem Adg {h : Heap} {H : Hp} {b : Addr} {o : Obj} (e : h.get? b = some o) (n : H b = none) : (Ad0 h H).get? b = some o :=
  PySem.W.hideAll_get _ e fun hm => by
    have q : (H b).isSome = true := (List.mem_filter.mp hm).2
    rw [n] at q; simp at q
theorem Agx {h : Heap} {H : Hp} {b : Addr} {o : Obj} (e : (Ad0 h H).get? b = some o) : h.get? b = some o /\ H b = none := by
  have e' : h.get? b = some o := PySem.W.of_hideAll (trk h H) e
  refine ⟨e', ?_⟩
  cases q : H b with
  | none => rfl
  | some x =>
    have hm : b ∈ trk h H := List.mem_filter.mpr ⟨List.mem_range.mpr (Heap.lt_size e'), by simp [q]⟩
    have z : (Ad0 h H).get? b = none := PySem.W.hideAll_none (trk h H) hm
    rw [z] at e; cases e
def Agz (g h : Heap) (L : Addr) : List (Addr × Obj) := (List.range h.objs.size).filterMap fun a => if a = L \/ (g.get? a).isSome = true then none else (h.get? a).map fun o => (a, o)
def rest (g h : Heap) (L d : Addr) : List (Addr × Obj) := (Agz g h L).filter fun p => decide (p.1 ≠ d)
end L2
namespace L2
open PySem PySem.Spec PyProof.Rows
structure Mod (K : PySem.W.Frag) (mg : Str -> Option Value) (base : Heap) : Prop where
  kin : K.In base
  glob : base.Ns mainGlobals mg
  blt : ∃ mb, base.Ns builtinsNs mb /\ ∀ x : Str, x ≠ "__name__" -> mb x = bootBuiltins x
  nolimit : base.NoLimit
structure Cx where
  prog : Program
  w : World
  K : PySem.W.Frag
  mg : Str -> Option Value
  base : Heap
  A : Around
  N : List Str
  s₀ : Shared
  H₀ : Hp
  env : Env
  outer : List Env
  stack : List Env
  ex : List Addr
  fn : Str -> Bool
  calm : Bool
  pn : List (Addr × Obj)
  xe : Value -> Shared -> Prop
def frs (l : List Env) : List Addr := l.filterMap (·.frame)
abbrev Cx.fs (X : Cx) : List Addr := frs X.outer
def Vis (sc : Scope) (x : Str) : Prop := sc.names.lookup x = some .local \/ sc.names.lookup x = some .cell \/ sc.names.lookup x = some .free
def Loc (sc : Scope) (x : Str) : Prop := sc.names.lookup x = some .local \/ sc.names.lookup x = some .cell
def Look (env : Env) (h : Heap) (m : Str -> Option Value) (x : Str) (u : Value) : Prop :=
  (env.kindOf x = some .local /\ m x = some u) \/ ((env.kindOf x = some .cell \/ env.kindOf x = some .free) /\ ∃ c, env.cells.lookup x = some c /\ h.IsCell c (some u))
structure Cx.Ok (X : Cx) : Prop where
  mod : Mod X.K X.mg X.base
  kind : X.env.scope.kind = .function
  glob : X.env.globals = mainGlobals
  blt : X.env.builtins = builtinsNs
  above : X.s₀.heap.objs.size <= X.env.locals
  inj : ∀ x y c, X.env.cells.lookup x = some c -> X.env.cells.lookup y = some c -> x = y
  has : ∀ x, (X.env.kindOf x = some .cell \/ X.env.kindOf x = some .free) -> ∃ c, X.env.cells.lookup x = some c
  cab : ∀ x c, X.fn x = true -> X.env.cells.lookup x = some c -> X.s₀.heap.objs.size <= c
  hd : X.calm = true -> X.A.handled = none
  frames : X.A.frames = some X.stack
  stk : X.stack = X.outer \/ (X.stack = X.env :: X.outer /\ X.env.frame = some X.env.locals)
  exf : ∀ b ∈ X.ex, b ≠ X.env.locals /\ ∀ x c, X.env.cells.lookup x = some c -> c ≠ b
  bs : ∀ b o, X.base.get? b = some o -> X.s₀.heap.get? b = some o /\ X.H₀ b = none
  bsz : X.base.objs.size <= X.s₀.heap.objs.size
  noex : ∀ b o, X.base.get? b = some o -> b ∉ X.ex
  exfs : ∀ b ∈ X.ex, b ∉ X.fs
  funs : X.s₀.heap.FunFrames X.base X.outer
  frf : ∀ b ∈ X.fs, X.H₀ b = none
structure Inv (X : Cx) (pins : List (Addr × Obj)) (σ : List (Option V)) (H : Hp) (s : Shared) : Prop where
  ok : X.Ok
  os : s.os = X.s₀.os
  bare : AllBare s.gens
  base : Un X.fs X.ex X.H₀ H X.s₀.heap s.heap
  loc : ∃ m, s.heap.Ns X.env.locals m /\ ∀ (i : Nat) (x : Str) (v : V), X.N[i]? = some x -> σ[i]? = some (some v) -> Vis X.env.scope x -> ∃ u, RelV v u /\ Look X.env s.heap m x u
  cell : ∀ x c, X.env.cells.lookup x = some c -> ∃ v, s.heap.IsCell c v
  free : H X.env.locals = none
  freeC : ∀ x c, X.env.cells.lookup x = some c -> H c = none
  pin : ∀ p ∈ X.pn ++ pins, s.heap.get? p.1 = some p.2 /\ H p.1 = none /\ p.1 ≠ X.env.locals /\ p.1 ∉ X.fs /\ ∀ v, p.2.data ≠ .cell v
  hok : HOk X.prog X.w H s.heap
  len : σ.length = X.N.length
section
variable {X : Cx} {pins : List (Addr × Obj)} {σ : List (Option V)} {H H' : Hp} {s : Shared} {h' : Heap}
theorem Cx.Ok.nofr (ok : X.Ok) {b : Addr} {o : Obj} (e : X.base.get? b = some o) : b ∉ X.fs := fun hb => by
  have := (ok.funs.mem hb).1
  rw [e] at this; cases this
theorem Inv.bs (I : Inv X pins σ H s) : ∀ b o, X.base.get? b = some o -> s.heap.get? b = some o /\ H b = none := fun b o e =>
  ⟨I.base.keep b o (I.ok.bs b o e).1 (I.ok.bs b o e).2 (I.ok.nofr e) (I.ok.noex b o e), I.base.free b o (I.ok.bs b o e).1 (I.ok.bs b o e).2 (I.ok.noex b o e)⟩
theorem Inv.bk (I : Inv X pins σ H s) : ∀ b o, X.base.get? b = some o -> s.heap.get? b = some o := fun b o e => (I.bs b o e).1
theorem Inv.mod (I : Inv X pins σ H s) : Mod X.K X.mg X.base := I.ok.mod
theorem Inv.kIn (I : Inv X pins σ H s) : X.K.In s.heap := I.ok.mod.kin.keeps I.bk
theorem Inv.nolimit (I : Inv X pins σ H s) : s.heap.NoLimit := I.ok.mod.nolimit.keeps I.bk
theorem Inv.fr (I : Inv X pins σ H s) : ∃ m, Fr X.base X.env.locals s.heap m :=
  let ⟨m, hn, _⟩ := I.loc
  ⟨m, hn, I.bk, Nat.le_trans I.ok.bsz I.ok.above⟩
theorem Inv.lt (I : Inv X pins σ H s) : X.env.locals < s.heap.objs.size := let ⟨_, hn, _⟩ := I.loc; hn.lt
theorem Inv.sz (I : Inv X pins σ H s) : X.s₀.heap.objs.size <= s.heap.objs.size := Nat.le_trans I.ok.above (Nat.le_of_lt I.lt)
theorem Inv.nofs (I : Inv X pins σ H s) {a : Addr} (h : s.heap.objs.size <= a) : a ∉ X.fs := fun hb => by
  obtain ⟨_, o, ho, _⟩ := I.ok.funs.mem hb
  exact absurd (Nat.lt_of_lt_of_le (Heap.lt_size ho) (Nat.le_trans I.sz h)) (Nat.lt_irrefl _)
theorem Inv.cne (I : Inv X pins σ H s) : ∀ x c, X.env.cells.lookup x = some c -> c ≠ X.env.locals := fun x c e z => by
  obtain ⟨v, o, ho, hd⟩ := I.cell x c e
  obtain ⟨m, ⟨o', es, ep, ho', hd', _⟩, _⟩ := I.loc
  rw [z, ho'] at ho; cases ho; rw [hd'] at hd; cases hd
theorem Inv.funs (I : Inv X pins σ H s) : s.heap.FunFrames X.base X.outer := by
  have all : ∀ (l : List Env), (∀ b ∈ frs l, b ∈ X.fs) -> X.s₀.heap.FunFrames X.base l -> s.heap.FunFrames X.base l := by
    intro l
    induction l with
    | nil => intro _ _; trivial
    | cons env r ih =>
      intro hs hl
      obtain ⟨hk, ⟨L, o, hf, hn, ho, hd⟩, hr⟩ := hl
      have hL : L ∈ X.fs := hs L (by unfold frs; rw [List.filterMap_cons, hf]; exact List.mem_cons_self)
      obtain ⟨sl, e⟩ := I.base.slot L o ho (I.ok.frf L hL) hL fun z => I.ok.exfs L z hL
      exact ⟨hk, ⟨L, _, hf, hn, e, hd⟩, ih (fun b hb => hs b (by unfold frs; rw [List.filterMap_cons, hf]; exact List.mem_cons_of_mem _ hb)) hr⟩
  exact all X.outer (fun _ hb => hb) I.ok.funs
theorem Inv.stack (I : Inv X pins σ H s) : s.heap.FunFrames X.base X.stack := by
  rcases I.ok.stk with e | ⟨e, hf⟩
  . rw [e]; exact I.funs
  . rw [e]
    obtain ⟨m, hn, _⟩ := I.loc
    refine .cons (by rw [I.ok.kind]; decide) hf hn ?_ I.funs
    exact Heap.get?_none_of_le (Nat.le_trans I.ok.bsz I.ok.above)
theorem Inv.stkSub (I : Inv X pins σ H s) : ∀ b ∈ frs X.stack, b ∈ X.env.locals :: X.fs := fun b hb => by
  rcases I.ok.stk with e | ⟨e, hf⟩
  . rw [e] at hb; exact List.mem_cons_of_mem _ hb
  . rw [e] at hb
    unfold frs at hb
    rw [List.filterMap_cons, hf] at hb
    exact hb
theorem Inv.stkFree (I : Inv X pins σ H s) : ∀ b ∈ frs X.stack, H b = none := fun b hb => by
  rcases List.mem_cons.mp (I.stkSub b hb) with e | hb
  . rw [e]; exact I.free
  . obtain ⟨_, o, ho, _⟩ := I.ok.funs.mem hb
    exact I.base.free b o ho (I.ok.frf b hb) fun z => I.ok.exfs b z hb
theorem Inv.step {g' : Array GenState} {t' : Nat} {d' : Drawn} {ch : List Addr} (I : Inv X pins σ H s)
    (hch : ∀ b ∈ ch, (b ∈ X.ex \/ X.s₀.heap.objs.size <= b) /\ b ≠ X.env.locals /\ (∀ x c, X.env.cells.lookup x = some c -> c ≠ b) /\ ∀ p ∈ X.pn ++ pins, p.1 ≠ b)
    (keep : ∀ b o, b ≠ X.env.locals -> b ∉ X.fs -> b ∉ ch -> s.heap.get? b = some o -> H b = none -> h'.get? b = some o)
    (slot : ∀ b o, b ≠ X.env.locals -> b ∈ X.fs -> b ∉ ch -> s.heap.get? b = some o -> H b = none -> ∃ sl, h'.get? b = some { o with slots := sl }) (free : ∀ b o, b ∉ ch -> s.heap.get? b = some o -> H b = none -> H' b = none)
    (there : ∀ b o, b ∉ ch -> s.heap.get? b = some o -> ∃ o', h'.get? b = some o')
    (tups : ∀ b xs, H b = some (.tup xs) -> H' b = some (.tup xs)) (frzs : ∀ b o u, H b = some (.frz o u) -> H' b = some (.frz o u)) (tbls : ∀ b ps, H b = some (.tbl ps) -> ∃ more, H' b = some (.tbl (ps ++ more)))
    (ns : ∀ m, s.heap.Ns X.env.locals m -> h'.Ns X.env.locals m) (hok : HOk X.prog X.w H' h') (hg : AllBare g') :
    Inv X pins σ H' { s with heap := h', gens := g', drawn := d', toks := t' } := by
  have neL : ∀ b o, X.s₀.heap.get? b = some o -> b ≠ X.env.locals := fun b o e => Nat.ne_of_lt (Nat.lt_of_lt_of_le (Heap.lt_size e) I.ok.above)
  have neC : ∀ b o, X.s₀.heap.get? b = some o -> b ∉ X.ex -> b ∉ ch := fun b o e hx hb => by
    rcases (hch b hb).1 with z | z
    . exact hx z
    . exact absurd (Nat.lt_of_lt_of_le (Heap.lt_size e) z) (Nat.lt_irrefl _)
  have cellK : ∀ x c, X.env.cells.lookup x = some c -> ∀ v, s.heap.IsCell c v -> h'.IsCell c v := fun x c e v ⟨o, ho, hd⟩ => by
    have nch : c ∉ ch := fun z => (hch c z).2.2.1 x c e rfl
    by_cases hc : c ∈ X.fs
    . obtain ⟨sl, q⟩ := slot c o (I.cne x c e) hc nch ho (I.freeC x c e)
      exact ⟨_, q, hd⟩
    . exact ⟨o, keep c o (I.cne x c e) hc nch ho (I.freeC x c e), hd⟩
  refine ⟨I.ok, I.os, hg, ⟨fun b o e n hb hx => ?_, fun b o e n hb hx => ?_, fun b o e n hx => ?_, fun b o e hx => ?_, fun b xs e => tups b xs (I.base.tups b xs e), fun b o xs e => frzs b o xs (I.base.frzs b o xs e), fun b ps e => ?_⟩, ?_, fun x c e => ?_, ?_, fun x c e => ?_, fun p hp => ?_, hok, I.len⟩
  . exact keep b o (neL b o e) hb (neC b o e hx) (I.base.keep b o e n hb hx) (I.base.free b o e n hx)
  . obtain ⟨sl, e1⟩ := I.base.slot b o e n hb hx
    obtain ⟨sl', e2⟩ := slot b _ (neL b o e) hb (neC b o e hx) e1 (I.base.free b o e n hx)
    exact ⟨sl', e2⟩
  . obtain ⟨o', e1⟩ := I.base.there b o e hx
    exact free b o' (neC b o e hx) e1 (I.base.free b o e n hx)
  . obtain ⟨o', e1⟩ := I.base.there b o e hx
    exact there b o' (neC b o e hx) e1
  . obtain ⟨m1, e1⟩ := I.base.tbls b ps e
    obtain ⟨m2, e2⟩ := tbls b _ e1
    exact ⟨m1 ++ m2, by rw [e2, Array.append_assoc]⟩
  . obtain ⟨m, hn, hl⟩ := I.loc
    refine ⟨m, ns m hn, fun i x v e1 e2 e3 => ?_⟩
    obtain ⟨u, r, l⟩ := hl i x v e1 e2 e3
    refine ⟨u, r, ?_⟩
    rcases l with l | ⟨k, c, e, z⟩
    . exact .inl l
    . exact .inr ⟨k, c, e, cellK x c e _ z⟩
  . obtain ⟨v, z⟩ := I.cell x c e
    exact ⟨v, cellK x c e v z⟩
  . obtain ⟨m, ⟨o, _, _, ho, _⟩, _⟩ := I.loc
    exact free _ o (fun z => (hch _ z).2.1 rfl) ho I.free
  . obtain ⟨v, o, ho, hd⟩ := I.cell x c e
    exact free c o (fun z => (hch c z).2.2.1 x c e rfl) ho (I.freeC x c e)
  . obtain ⟨e, n, ne, nf, d⟩ := I.pin p hp
    have nch : p.1 ∉ ch := fun z => (hch p.1 z).2.2.2 p hp rfl
    exact ⟨keep p.1 p.2 ne nf nch e n, free p.1 p.2 nch e n, ne, nf, d⟩
theorem Inv.un {t' : Nat} (I : Inv X pins σ H s) (u : Un X.fs [] H H' s.heap h') (hok : HOk X.prog X.w H' h') : Inv X pins σ H' { s with heap := h', toks := t' } := by
  obtain ⟨m, ⟨o, es, ep, ho, r⟩, _⟩ := id I.loc
  obtain ⟨sl, hL⟩ := u.any ho I.free (by simp)
  exact I.step (g' := s.gens) (d' := s.drawn) (ch := []) (fun _ z => nomatch z) (fun b o _ hb _ e n => u.keep b o e n hb (by simp)) (fun b o _ hb _ e n => u.slot b o e n hb (by simp)) (fun b o _ e n => u.free b o e n (by simp)) (fun b o _ e => u.there b o e (by simp)) u.tups u.frzs u.tbls (fun m' hm => by
    obtain ⟨o', es', ep', ho', r'⟩ := hm
    rw [ho] at ho'; cases ho'
    exact ⟨_, es', ep', hL, r'⟩) hok I.bare
theorem Inv.call {g' : Array GenState} {t' : Nat} {d' : Drawn} {ch : List Addr} (I : Inv X pins σ H s) (u : Un (frs X.stack) ch H H' s.heap h') (hok : HOk X.prog X.w H' h') (hg : AllBare g')
    (hch : ∀ b ∈ ch, (b ∈ X.ex \/ X.s₀.heap.objs.size <= b) /\ b ≠ X.env.locals /\ (∀ x c, X.env.cells.lookup x = some c -> c ≠ b) /\ ∀ p ∈ X.pn ++ pins, p.1 ≠ b) :
    Inv X pins σ H' { s with heap := h', gens := g', drawn := d', toks := t' } := by
  obtain ⟨m, ⟨o, es, ep, ho, r⟩, _⟩ := id I.loc
  obtain ⟨sl, hL⟩ := u.any ho I.free fun z => (hch _ z).2.1 rfl
  exact I.step (ch := ch) hch (fun b o hL hb hc e n => u.keep b o e n (fun z => (List.mem_cons.mp (I.stkSub b z)).elim hL hb) hc) (fun b o _ _ hc e n => u.any e n hc) (fun b o hc e n => u.free b o e n hc) (fun b o hc e => u.there b o e hc) u.tups u.frzs u.tbls (fun m' hm => by
    obtain ⟨o', es', ep', ho', r'⟩ := hm
    rw [ho] at ho'; cases ho'
    exact ⟨_, es', ep', hL, r'⟩) hok hg
theorem Inv.turned {t' : Nat} {it : Addr} (I : Inv X pins σ H s) (k : ∀ b o, b ≠ it -> s.heap.get? b = some o -> h'.get? b = some o) (hn : H it = none) (hL : it ≠ X.env.locals)
    (h1 : it ∈ X.ex \/ X.s₀.heap.objs.size <= it) (h2 : ∀ x c, X.env.cells.lookup x = some c -> c ≠ it) (h3 : ∀ p ∈ X.pn ++ pins, p.1 ≠ it) : Inv X pins σ H { s with heap := h', toks := t' } := by
  have nit : ∀ b u, H b = some u -> b ≠ it := fun b u e z => by rw [z, hn] at e; cases e
  refine I.step (g' := s.gens) (d' := s.drawn) (ch := [it]) (fun b hb => ?_) (fun b o _ _ hc e _ => k b o (fun z => hc (by simp [z])) e) (fun b o _ _ hc e _ => ⟨o.slots, k b o (fun z => hc (by simp [z])) e⟩) (fun _ _ _ _ n => n)
    (fun b o hc e => ⟨o, k b o (fun z => hc (by simp [z])) e⟩) (fun _ _ e => e) (fun _ _ _ e => e) (fun b ps e => ⟨#[], by rw [e]; simp⟩) (fun m hm => ?_) (fun b u e => ?_) I.bare
  . have e : b = it := by simpa using hb
    subst e
    exact ⟨h1, hL, h2, h3⟩
  . obtain ⟨o, es, ep, ho, r⟩ := hm
    exact ⟨o, es, ep, k _ o (Ne.symm hL) ho, r⟩
  . refine (I.hok b u e).stay (fun c v hc q => k c v ?_ q) (fun _ q => q) fun _ _ q => q
    rcases hc with z | z
    . rw [z]; exact nit b u e
    . exact nit c _ z
theorem Inv.tok (I : Inv X pins σ H s) (t : Nat) : Inv X pins σ H { s with toks := t } := I.un (h' := s.heap) (t' := t) Un.refl I.hok
theorem Inv.kept {t' : Nat} (I : Inv X pins σ H s) (k : ∀ b u, s.heap.get? b = some u -> h'.get? b = some u) : Inv X pins σ H { s with heap := h', toks := t' } := I.un (Un.kept k) (I.hok.kept k)
theorem Inv.laid {a : Addr} {o : HO} {t' : Nat} (I : Inv X pins σ H s) (k : ∀ b u, s.heap.get? b = some u -> h'.get? b = some u) (hp : s.heap.objs.size <= a) (new : Jh X.prog X.w (upd H a o) h' a o) :
    Inv X pins σ (upd H a o) { s with heap := h', toks := t' } := I.un (Un.laid k hp (I.hok.fresh hp)) (I.hok.laid k hp new)
theorem Inv.write {x e : Addr} {o : HO} {t' : Nat} (I : Inv X pins σ H s) (mu : Mut (H x)) (he : e = x \/ H e = some (.own x)) (k : ∀ b u, b ≠ e -> s.heap.get? b = some u -> h'.get? b = some u) (heo : ∃ u, h'.get? e = some u)
    (new : Jh X.prog X.w (upd H x o) h' x o) : Inv X pins σ (upd H x o) { s with heap := h', toks := t' } := I.un (Un.write mu he k heo) (I.hok.write mu he k heo new)
theorem Inv.weak {σ' : List (Option V)} (I : Inv X pins σ H s) (hl : σ'.length = σ.length) (w : ∀ (i : Nat) v, σ'[i]? = some (some v) -> σ[i]? = some (some v)) : Inv X pins σ' H s :=
  ⟨I.ok, I.os, I.bare, I.base, let ⟨m, hn, hl'⟩ := I.loc; ⟨m, hn, fun i x v e1 e2 e3 => hl' i x v e1 (w i v e2) e3⟩, I.cell, I.free, I.freeC, I.pin, I.hok, hl.trans I.len⟩
theorem Inv.pins_of {pins' : List (Addr × Obj)} (I : Inv X pins σ H s) (h : ∀ p ∈ pins', s.heap.get? p.1 = some p.2 /\ H p.1 = none /\ p.1 ≠ X.env.locals /\ p.1 ∉ X.fs /\ ∀ v, p.2.data ≠ .cell v) : Inv X pins' σ H s :=
  ⟨I.ok, I.os, I.bare, I.base, I.loc, I.cell, I.free, I.freeC, fun p hp => (List.mem_append.mp hp).elim (fun z => I.pin p (List.mem_append_left _ z)) (h p), I.hok, I.len⟩
theorem Xx {N : List Str} (hN : N.Nodup) {i j : Nat} {x : Str} (a : N[i]? = some x) (b : N[j]? = some x) : i = j := by
  obtain ⟨h1, e1⟩ := List.getElem?_eq_some_iff.mp a
  obtain ⟨h2, e2⟩ := List.getElem?_eq_some_iff.mp b
  exact (List.getElem_inj hN).mp (e1.trans e2.symm)
theorem Aco {M : Model} {A : Around} {E : Value -> Shared -> Prop} {i : Nat} {x : Str} {v : V} {u : Value} {Q : Unit -> Shared -> Prop} (I : Inv X pins σ H s) (hN : X.N.Nodup) (hi : X.N[i]? = some x) (hx : Loc X.env.scope x) (r : RelV v u)
    (h : ∀ s', Inv X pins (σ.set i (some v)) H s' -> (∃ a, Heap.SameBut a s.heap s'.heap /\ (a = X.env.locals \/ X.env.cells.lookup x = some a)) -> Q () s') (hf : X.fn x = true \/ X.env.scope.names.lookup x = some .local := by first | exact .inl rfl | exact .inr rfl | assumption) : wpAny M A (storeName X.env x u) Q E s := by
  obtain ⟨m, hn, hl⟩ := id I.loc
  have hcls : (X.env.scope.kind == .class || (X.env.scope.kind == .module && X.env.locals != X.env.globals)) = false := by rw [I.ok.kind]; rfl
  have hiσ : i < σ.length := by rw [I.len]; exact (List.getElem?_eq_some_iff.mp hi).1
  have cne := I.cne
  have tracked : ∀ {a : Addr} {h' : Heap}, (∃ o, s.heap.get? a = some o /\ H a = none) -> Heap.SameBut a s.heap h' -> HOk X.prog X.w H h' := fun {a h'} ha hs b ob e => by
    obtain ⟨_, _, hfree⟩ := ha
    refine (I.hok b ob e).stay (fun c w' hc q => (hs.2 c ?_).trans q) (fun _ q => q) fun _ _ q => q
    rintro rfl
    rcases hc with rfl | hc
    . rw [hfree] at e; cases e
    . rw [hfree] at hc; cases hc
  rcases hx with hk | hk
  . refine wpAny_storeName_local hk hn (fun h' hn' hs => ?_) hcls
    obtain ⟨oL, _, _, hoL, _⟩ := id hn
    refine h _ ⟨I.ok, I.os, I.bare, ⟨fun b o e n hb hx => ?_, fun b o e n hb hx => ?_, I.base.free, fun b o e hx => ?_, I.base.tups, I.base.frzs, I.base.tbls⟩, ⟨_, hn', fun j y v' e1 e2 e3 => ?_⟩, fun y c e => ?_, I.free, I.freeC, fun p hp => ?_, tracked ⟨oL, hoL, I.free⟩ hs, by simpa using I.len⟩ ⟨_, hs, .inl rfl⟩
    . exact (hs.2 b (Nat.ne_of_lt (Nat.lt_of_lt_of_le (Heap.lt_size e) I.ok.above))).trans (I.base.keep b o e n hb hx)
    . obtain ⟨sl, e1⟩ := I.base.slot b o e n hb hx
      exact ⟨sl, (hs.2 b (Nat.ne_of_lt (Nat.lt_of_lt_of_le (Heap.lt_size e) I.ok.above))).trans e1⟩
    . obtain ⟨o', e1⟩ := I.base.there b o e hx
      exact ⟨o', (hs.2 b (Nat.ne_of_lt (Nat.lt_of_lt_of_le (Heap.lt_size e) I.ok.above))).trans e1⟩
    . by_cases hj : j = i
      . subst hj
        rw [hi] at e1; cases e1
        rw [List.getElem?_set_self hiσ] at e2
        cases e2
        exact ⟨u, r, .inl ⟨hk, by simp⟩⟩
      . rw [List.getElem?_set_ne (Ne.symm hj)] at e2
        obtain ⟨u', r', q⟩ := hl j y v' e1 e2 e3
        refine ⟨u', r', ?_⟩
        rcases q with ⟨k, e⟩ | ⟨k, c, e, z⟩
        . refine .inl ⟨k, ?_⟩
          have : y ≠ x := fun e => hj (Xx hN e1 (e ▸ hi))
          simp [this, e]
        . exact .inr ⟨k, c, e, z.sameBut hs (cne y c e)⟩
    . obtain ⟨w', z⟩ := I.cell y c e
      exact ⟨w', z.sameBut hs (cne y c e)⟩
    . obtain ⟨e, n, ne, nf, d⟩ := I.pin p hp
      exact ⟨(hs.2 p.1 ne).trans e, n, ne, nf, d⟩
  . have hfn : X.fn x = true := by
      rcases hf with z | z
      . exact z
      . rw [z] at hk; cases hk
    obtain ⟨c, hc⟩ := I.ok.has x (.inl hk)
    obtain ⟨w', z⟩ := I.cell x c hc
    refine wpAny_storeName_cell I.ok.kind hk hc z (fun h' hc' hs => ?_)
    obtain ⟨oc, hoc, hocd⟩ := id z
    refine h { s with heap := h' } ⟨I.ok, I.os, I.bare, ⟨fun b o e n hb hx => ?_, fun b o e n hb hx => ?_, I.base.free, fun b o e hx => ?_, I.base.tups, I.base.frzs, I.base.tbls⟩, ⟨m, hn.sameBut hs (Ne.symm (cne x c hc)), fun j y v' e1 e2 e3 => ?_⟩, fun y c' e => ?_, I.free, I.freeC, fun p hp => ?_, tracked ⟨oc, hoc, I.freeC x c hc⟩ hs, by simpa using I.len⟩ ⟨c, hs, .inr hc⟩
    . exact (hs.2 b (Nat.ne_of_lt (Nat.lt_of_lt_of_le (Heap.lt_size e) (I.ok.cab x c hfn hc)))).trans (I.base.keep b o e n hb hx)
    . obtain ⟨sl, e1⟩ := I.base.slot b o e n hb hx
      exact ⟨sl, (hs.2 b (Nat.ne_of_lt (Nat.lt_of_lt_of_le (Heap.lt_size e) (I.ok.cab x c hfn hc)))).trans e1⟩
    . obtain ⟨o', e1⟩ := I.base.there b o e hx
      exact ⟨o', (hs.2 b (Nat.ne_of_lt (Nat.lt_of_lt_of_le (Heap.lt_size e) (I.ok.cab x c hfn hc)))).trans e1⟩
    . by_cases hj : j = i
      . subst hj
        rw [hi] at e1; cases e1
        rw [List.getElem?_set_self hiσ] at e2
        cases e2
        exact ⟨u, r, .inr ⟨.inl hk, c, hc, hc'⟩⟩
      . rw [List.getElem?_set_ne (Ne.symm hj)] at e2
        obtain ⟨u', r', q⟩ := hl j y v' e1 e2 e3
        refine ⟨u', r', ?_⟩
        rcases q with q | ⟨k, c', e, z'⟩
        . exact .inl q
        . refine .inr ⟨k, c', e, z'.sameBut hs ?_⟩
          rintro rfl
          exact hj (Xx hN e1 (I.ok.inj _ _ _ e hc ▸ hi))
    . by_cases hcc : c' = c
      . subst hcc; exact ⟨_, hc'⟩
      . obtain ⟨w2, z2⟩ := I.cell y c' e
        exact ⟨w2, z2.sameBut hs hcc⟩
    . obtain ⟨e, n, ne, nf, d⟩ := I.pin p hp
      refine ⟨(hs.2 p.1 ?_).trans e, n, ne, nf, d⟩
      intro q
      rw [q, hoc] at e
      have q' : oc = p.2 := Option.some.inj e
      exact d w' (by rw [<- q']; exact hocd)
theorem P0 {M : Model} {A : Around} {E : Value -> Shared -> Prop} {i : Nat} {x : Str} {v : V} {u : Value} {Q : Unit -> Shared -> Prop} (I : Inv X pins σ H s) (hN : X.N.Nodup) (hi : X.N[i]? = some x) (hx : Loc X.env.scope x) (r : RelV v u)
    (h : ∀ s', Inv X pins (σ.set i (some v)) H s' -> Q () s') (hf : X.fn x = true \/ X.env.scope.names.lookup x = some .local := by first | exact .inl rfl | exact .inr rfl | assumption) : wpAny M A (storeName X.env x u) Q E s :=
  Aco I hN hi hx r (fun s' I' _ => h s' I') hf
theorem Inv.call' {s' : Shared} {ch : List Addr} (I : Inv X pins σ H s) (ho : s'.os = s.os) (u : Un (frs X.stack) ch H H' s.heap s'.heap) (hok : HOk X.prog X.w H' s'.heap) (hg : AllBare s'.gens)
    (hch : ∀ b ∈ ch, (b ∈ X.ex \/ X.s₀.heap.objs.size <= b) /\ b ≠ X.env.locals /\ (∀ x c, X.env.cells.lookup x = some c -> c ≠ b) /\ ∀ p ∈ X.pn ++ pins, p.1 ≠ b) : Inv X pins σ H' s' := by
  obtain ⟨h', g', d', t', o'⟩ := s'
  have e : o' = s.os := ho
  subst e
  exact I.call (g' := g') (t' := t') (d' := d') u hok hg hch
end
abbrev XK := Value -> Option Addr -> Hp -> Prop
abbrev St := List (Option V)
abbrev VK := V -> Hp -> Prop
abbrev TE := St -> Hp -> VK -> Prop
abbrev TT := St -> Hp -> (Bool -> Hp -> Prop) -> Prop
abbrev TA := St -> Hp -> (List V -> Hp -> Prop) -> Prop
structure Ends where
  nx : St -> Hp -> Prop
  rt : VK
  bk : St -> Hp -> Prop := fun _ _ => False
  ct : St -> Hp -> Prop := fun _ _ => False
abbrev TS := Ends -> St -> Hp -> Prop
def EP (X : Cx) (pins : List (Addr × Obj)) (σ : St) (Q : VK) (u : Value) (s' : Shared) : Prop := ∃ v H', Inv X pins σ H' s' /\ RelV v u /\ Q v H'
def TP (X : Cx) (pins : List (Addr × Obj)) (σ : St) (Q : Bool -> Hp -> Prop) (b : Bool) (s' : Shared) : Prop := ∃ H', Inv X pins σ H' s' /\ Q b H'
def AP (X : Cx) (pins : List (Addr × Obj)) (σ : St) (Q : List V -> Hp -> Prop) (us : List Value) (s' : Shared) : Prop := ∃ vs H', Inv X pins σ H' s' /\ Vals vs us /\ Q vs H'
def SP (X : Cx) (pins : List (Addr × Obj)) (D : Ends) (f : Flow) (s' : Shared) : Prop :=
  match f with
  | .next => ∃ σ' H', Inv X pins σ' H' s' /\ D.nx σ' H'
  | .brk => ∃ σ' H', Inv X pins σ' H' s' /\ D.bk σ' H'
  | .cont => ∃ σ' H', Inv X pins σ' H' s' /\ D.ct σ' H'
  | .ret u => ∃ v σ' H', Inv X pins σ' H' s' /\ RelV v u /\ D.rt v H'
def PE (X : Cx) (e : Expr) (t : TE) : Prop :=
  ∀ (pins : List (Addr × Obj)) (s : Shared) (σ : St) (H : Hp) (Q : VK), Inv X pins σ H s -> t σ H Q -> wpAny (model X.prog X.w) X.A (eval e X.env) (EP X pins σ Q) X.xe s
def PT (X : Cx) (e : Expr) (t : TT) : Prop :=
  ∀ (pins : List (Addr × Obj)) (s : Shared) (σ : St) (H : Hp) (Q : Bool -> Hp -> Prop), Inv X pins σ H s -> t σ H Q -> wpAny (model X.prog X.w) X.A (isTrue e X.env (eval e X.env)) (TP X pins σ Q) X.xe s
def PW (X : Cx) (e : Expr) (t : TT) : Prop :=
  ∀ (whole : Sem Value) (pins : List (Addr × Obj)) (s : Shared) (σ : St) (H : Hp) (Q : Bool -> Hp -> Prop), Inv X pins σ H s -> t σ H Q -> wpAny (model X.prog X.w) X.A (isTrue e X.env whole) (TP X pins σ Q) X.xe s
theorem PW.pt {X : Cx} {e : Expr} {t : TT} (h : PW X e t) : PT X e t := h _
def PA (X : Cx) (es : List Expr) (t : TA) : Prop :=
  ∀ (pos : Pos) (pins : List (Addr × Obj)) (s : Shared) (σ : St) (H : Hp) (Q : List V -> Hp -> Prop), Inv X pins σ H s -> t σ H Q -> wpAny (model X.prog X.w) X.A (spliced (backTo pos (starEach es X.env))) (AP X pins σ Q) X.xe s
def PS (X : Cx) (st : Stmt) (t : TS) : Prop :=
  ∀ (pins : List (Addr × Obj)) (s : Shared) (σ : St) (H : Hp) (D : Ends), Inv X pins σ H s -> t D σ H -> wpAny (model X.prog X.w) X.A (exec st X.env) (SP X pins D) X.xe s
def PSs (X : Cx) (st : List Stmt) (t : TS) : Prop :=
  ∀ (pins : List (Addr × Obj)) (s : Shared) (σ : St) (H : Hp) (D : Ends), Inv X pins σ H s -> t D σ H -> wpAny (model X.prog X.w) X.A (execs st X.env) (SP X pins D) X.xe s
theorem thn {α : Type} {t : Sem α} {Q Q' : α -> Shared -> Prop} {M : Model} {A : Around} {E : Value -> Shared -> Prop} {s : Shared} (h : wpAny M A t Q E s) (hQ : ∀ a s, Q a s -> Q' a s) : wpAny M A t Q' E s := wpAny_mono h hQ fun _ _ x => x
end L2
namespace L2
open PySem PySem.Spec PyProof.Rows
section
variable {X : Cx}
def Aeo (i : Nat) : TE := fun σ H Q => ∃ v, σ[i]? = some (some v) /\ Q v H
def tC (v : V) : TE := fun _ H Q => Q v H
theorem Ain {i : Nat} {x : Str} {pos : Pos} (hN : X.N[i]? = some x) (hv : Vis X.env.scope x) (hd : (x == ("__debug__" : Str)) = false := by decide) (hcd : (x == ("__classdict__" : Str)) = false := by decide) : PE X (.Name x pos) (Aeo i) := by
  intro pins s σ H Q I h
  obtain ⟨v, e, h⟩ := h
  obtain ⟨m, hn, hl⟩ := I.loc
  obtain ⟨u, r, l⟩ := hl i x v hN e hv
  have fin : EP X pins σ Q u s := ⟨v, H, I, r, h⟩
  rcases l with ⟨hk, hm⟩ | ⟨hk, c, hc, hcell⟩
  . exact wpAny_Name (wpAny_loadName_local I.ok.kind hk hn hm fin) hd
  . rcases hk with hk | hk
    . exact wpAny_Name (wpAny_loadName_cell I.ok.kind hk hc hcell fin) hd
    . exact wpAny_Name (wpAny_loadName_free I.ok.kind hk hc hcell fin hcd) hd
theorem Ad {i j pos} : PE X (.Constant (.int i) j pos) (tC (.int i)) := fun _ _ _ H _ I h => wpAny_Constant_int ⟨.int i, H, I.tok _, ⟨_, rfl⟩, h⟩
theorem Ia {b j pos} : PE X (.Constant (.bool b) j pos) (tC (.bl b)) := fun _ _ _ H _ I h => Constant_bool ⟨.bl b, H, I, rfl, h⟩
theorem Mu {j pos} : PE X (.Constant .none j pos) (tC .non) := fun _ _ _ H _ I h => Constant_none ⟨.non, H, I, rfl, h⟩
theorem O9 {x j pos} : PE X (.Constant (.str x) j pos) (tC (.str x)) := fun _ _ _ H _ I h => Calls.Constant_str ⟨.str x, H, I.tok _, ⟨_, rfl⟩, h⟩
def Gl (X : Cx) (x : Str) : Prop := X.env.kindOf x = some .globalImplicit
theorem Wx {E : Value -> Shared -> Prop} {pins : List (Addr × Obj)} {s : Shared} {σ : St} {H : Hp} {x : Str} {u : Value} {pos : Pos} {Q : Value -> Shared -> Prop} (I : Inv X pins σ H s) (hg : Gl X x) (hm : X.mg x = some u) (h : Q u s)
    (hd : (x == ("__debug__" : Str)) = false := by decide) : wpAny (model X.prog X.w) X.A (eval (.Name x pos) X.env) Q E s :=
  Calls.Name_function_global I.ok.kind hg (Calls.loadGlobal_global (by rw [I.ok.glob]; exact I.mod.glob.keeps I.bk) hm h) hd
theorem O7 {E : Value -> Shared -> Prop} {pins : List (Addr × Obj)} {s : Shared} {σ : St} {H : Hp} {x : Str} {u : Value} {pos : Pos} {Q : Value -> Shared -> Prop} (I : Inv X pins σ H s) (hg : Gl X x) (hm : X.mg x = none) (hv : bootBuiltins x = some u) (h : Q u s)
    (hn : x ≠ "__name__" := by decide) (hd : (x == ("__debug__" : Str)) = false := by decide) : wpAny (model X.prog X.w) X.A (eval (.Name x pos) X.env) Q E s := by
  obtain ⟨mb, h1, h2⟩ := I.mod.blt
  exact Calls.Name_function_global I.ok.kind hg (Calls.loadGlobal_builtin (by rw [I.ok.glob]; exact I.mod.glob.keeps I.bk) hm (by rw [I.ok.blt]; exact h1.keeps I.bk) ((h2 x hn).trans hv) h) hd
theorem Ro {x : Str} {v : V} {u : Value} {pos : Pos} (hg : Gl X x) (hm : X.mg x = some u) (r : RelV v u) (hd : (x == ("__debug__" : Str)) = false := by decide) : PE X (.Name x pos) (tC v) :=
  fun _ _ _ H _ I h => Wx I hg hm ⟨v, H, I, r, h⟩ hd
theorem Hg {x : Str} {v : V} {u : Value} {pos : Pos} (hg : Gl X x) (hm : X.mg x = none) (hv : bootBuiltins x = some u) (r : RelV v u) (hn : x ≠ "__name__" := by decide) (hd : (x == ("__debug__" : Str)) = false := by decide) : PE X (.Name x pos) (tC v) :=
  fun _ _ _ H _ I h => O7 I hg hm hv ⟨v, H, I, r, h⟩ hn hd
variable {a b : Expr} {ta tb : TE} {pos : Pos}
def tB (t : TE) : TT := fun σ H Q => t σ H fun x H1 => ∃ c, x = .bl c /\ Q c H1
theorem G9 {e : Expr} {t : TE} (h : PE X e t) (he : ∀ whole, isTrue e X.env whole = (do let v <- whole; standAt e.pos; holding [v] (truthy v)) := by intro _; rfl) : PT X e (tB t) := by
  intro pins s σ H Q I hw
  refine isTrue_plain (thn (h pins s σ H _ I hw) fun v s1 ⟨x, H1, I1, r1, q1⟩ => ?_) (he _)
  obtain ⟨d, rfl, q⟩ := q1
  cases r1
  exact wpAny_truthy_bool ⟨H1, I1, q⟩
variable {tA tB' : TT} {rest : List Expr}
def Ajw (t u : TT) : TT := fun σ H Q => t σ H fun c H1 => if c = true then u σ H1 Q else Q false H1
def tOr (t u : TT) : TT := fun σ H Q => t σ H fun c H1 => if c = true then Q true H1 else u σ H1 Q
def Ajk (t : TT) : TT := fun σ H Q => t σ H fun c H1 => Q (!c) H1
theorem Qt (ha : PT X a tA) : PW X (.BoolOp .And [a] pos) tA := by
  intro wh pins s σ H Q I h
  refine isTrue_and (thn (ha pins s σ H Q I h) fun c s1 e => ?_)
  cases c with
  | true => exact isTrue_and_nil e
  | false => exact e
theorem Ig (ha : PT X a tA) : PW X (.BoolOp .Or [a] pos) tA := by
  intro wh pins s σ H Q I h
  refine isTrue_or (thn (ha pins s σ H Q I h) fun c s1 e => ?_)
  cases c with
  | false => exact isTrue_or_nil e
  | true => exact e
theorem Wc (ha : PT X a tA) (hb : PW X (.BoolOp .And (b :: rest) pos) tB') : PW X (.BoolOp .And (a :: b :: rest) pos) (Ajw tA tB') := by
  intro wh pins s σ H Q I h
  refine isTrue_and (thn (ha pins s σ H _ I h) fun c s1 ⟨H1, I1, q1⟩ => ?_)
  cases c with
  | true => exact hb wh pins s1 σ H1 Q I1 q1
  | false => exact ⟨H1, I1, q1⟩
theorem Jf (ha : PT X a tA) (hb : PW X (.BoolOp .Or (b :: rest) pos) tB') : PW X (.BoolOp .Or (a :: b :: rest) pos) (tOr tA tB') := by
  intro wh pins s σ H Q I h
  refine isTrue_or (thn (ha pins s σ H _ I h) fun c s1 ⟨H1, I1, q1⟩ => ?_)
  cases c with
  | true => exact ⟨H1, I1, q1⟩
  | false => exact hb wh pins s1 σ H1 Q I1 q1
theorem Jk (ha : PT X a tA) : PT X (.UnaryOp .Not a pos) (Ajk tA) := by
  intro pins s σ H Q I h
  exact isTrue_not (ha pins s σ H (fun c H1 => Q (!c) H1) I h)
def Af6 (ta tb : TE) : TE := fun σ H Q => ta σ H fun x H1 => ∃ c, x = .bl c /\ if c = true then tb σ H1 Q else Q (.bl false) H1
def Ai0 (ta tb : TE) : TE := fun σ H Q => ta σ H fun x H1 => ∃ c, x = .bl c /\ if c = true then Q (.bl true) H1 else tb σ H1 Q
def Agd (ta : TE) : TE := fun σ H Q => ta σ H fun x H1 => ∃ c, x = .bl c /\ Q (.bl (!c)) H1
theorem Tc {op} {t : TE} (h : PE X a t) : PE X (.BoolOp op [a] pos) t := fun pins s σ H Q I hw => BoolOp_one (h pins s σ H Q I hw)
theorem U5 (ha : PE X a ta) (hb : PE X (.BoolOp .And (b :: rest) pos) tb) : PE X (.BoolOp .And (a :: b :: rest) pos) (Af6 ta tb) := by
  intro pins s σ H Q I h
  refine BoolOp_and (thn (ha pins s σ H _ I h) fun v s1 ⟨x, H1, I1, r1, q1⟩ => ?_)
  obtain ⟨c, rfl, q1⟩ := q1
  cases r1
  refine wpAny_truthy_bool ?_
  cases c with
  | true => exact hb pins s1 σ H1 Q I1 q1
  | false => exact ⟨.bl false, H1, I1, rfl, q1⟩
theorem Adl (ha : PE X a ta) (hb : PE X (.BoolOp .Or (b :: rest) pos) tb) : PE X (.BoolOp .Or (a :: b :: rest) pos) (Ai0 ta tb) := by
  intro pins s σ H Q I h
  refine BoolOp_or (thn (ha pins s σ H _ I h) fun v s1 ⟨x, H1, I1, r1, q1⟩ => ?_)
  obtain ⟨c, rfl, q1⟩ := q1
  cases r1
  refine wpAny_truthy_bool ?_
  cases c with
  | false => exact hb pins s1 σ H1 Q I1 q1
  | true => exact ⟨.bl true, H1, I1, rfl, q1⟩
theorem Abb (ha : PE X a ta) : PE X (.UnaryOp .Not a pos) (Agd ta) := by
  intro pins s σ H Q I h
  refine UnaryOp_ (thn (ha pins s σ H _ I h) fun v s1 ⟨x, H1, I1, r1, q1⟩ => ?_)
  obtain ⟨c, rfl, q1⟩ := q1
  cases r1
  exact not_of (wpAny_truthy_bool ⟨.bl (!c), H1, I1, rfl, q1⟩)
def tIf (t : TT) (ta tb : TE) : TE := fun σ H Q => t σ H fun c H1 => if c = true then ta σ H1 Q else tb σ H1 Q
theorem N6 {c : Expr} (hc : PT X c tA) (ha : PE X a ta) (hb : PE X b tb) : PE X (.IfExp c a b pos) (tIf tA ta tb) := by
  intro pins s σ H Q I h
  refine wpAny_IfExp (thn (hc pins s σ H _ I h) fun d s1 ⟨H1, I1, q1⟩ => ?_)
  cases d with
  | true => exact ha pins s1 σ H1 Q I1 q1
  | false => exact hb pins s1 σ H1 Q I1 q1
end
end L2
namespace L2
open PySem PySem.Spec PyProof.Rows
def SqL (K : PySem.W.Frag) (H : Hp) (a : Addr) (xs : List V) : Prop :=
  Rd H a (.lst xs) \/
    ∃ (o : Obj) (its : Array Value) (n : Nat), K.lookup a = some o /\ o.cls = .type "list" /\ o.dict = none /\ o.data = .seq its n /\ its.size <= sizeLine /\ Vals xs its.toList
def SqT (K : PySem.W.Frag) (H : Hp) (a : Addr) (xs : List V) : Prop :=
  Rd H a (.tup xs) \/
    ∃ (o : Obj) (its : Array Value) (n : Nat), K.lookup a = some o /\ o.cls = .type "tuple" /\ o.data = .seq its n /\ its.size <= sizeLine /\ Vals xs its.toList
def Akr : Value -> Option V
  | .none => some .non
  | .bool b => some (.bl b)
  | .int i _ => some (.int i)
  | .str x _ => some (.str x)
  | .bytes b _ => some (.byt b)
  | .float b _ => some (.flt b)
  | .ref a => some (.ref a)
  | .type n => some (.ty n)
  | _ => none
theorem RelV.abs {x : V} {u : Value} (r : RelV x u) : Akr u = some x := by
  cases x with
  | non => cases r; rfl
  | bl _ => cases r; rfl
  | int _ => obtain ⟨t, rfl⟩ := r; rfl
  | str _ => obtain ⟨t, rfl⟩ := r; rfl
  | byt _ => obtain ⟨t, rfl⟩ := r; rfl
  | flt _ => obtain ⟨t, rfl⟩ := r; rfl
  | ref _ => cases r; rfl
  | ty _ => cases r; rfl
theorem RelV.inj {x y : V} {u : Value} (r : RelV x u) (q : RelV y u) : x = y := Option.some.inj (r.abs.symm.trans q.abs)
theorem Vals.inj : ∀ {xs ys : List V} {us : List Value}, Vals xs us -> Vals ys us -> xs = ys
  | _, _, _, .nil, .nil => rfl
  | _, _, _, .cons r t, .cons r' t' => by rw [r.inj r', Vals.inj t t']
section
variable {X : Cx} {pins : List (Addr × Obj)} {σ : St} {H : Hp} {s : Shared} {a : Addr} {xs ys : List V}
theorem SqL.of {K : PySem.W.Frag} (h : H a = some (.lst xs)) : SqL K H a xs := .inl (.inl h)
theorem SqT.of {K : PySem.W.Frag} (h : H a = some (.tup xs)) : SqT K H a xs := .inl (.inl h)
theorem Inv.list (I : Inv X pins σ H s) (h : SqL X.K H a xs) : ∃ its : List Value, Vals xs its /\ PlainL s.heap a its.toArray /\ xs.length <= sizeLine := by
  rcases h with h | ⟨o, its, n, hk, hc, hd, hs, hz, r⟩
  . obtain ⟨z, its, n, r, e⟩ := h.ok I.hok
    exact ⟨its, r, ⟨_, n, e, rfl, rfl, rfl⟩, z⟩
  . refine ⟨its.toList, r, ⟨o, n, I.kIn a o hk, hc, hd, by simpa using hs⟩, ?_⟩
    have e := r.length
    simp only [Array.length_toList] at e
    omega
theorem Inv.tuple (I : Inv X pins σ H s) (h : SqT X.K H a xs) : ∃ its : List Value, Vals xs its /\ IsTup s.heap a its.toArray /\ xs.length <= sizeLine := by
  rcases h with h | ⟨o, its, n, hk, hc, hs, hz, r⟩
  . obtain ⟨z, its, r, p⟩ := h.ok I.hok
    exact ⟨its, r, p, z⟩
  . refine ⟨its.toList, r, ⟨o, I.kIn a o hk, hc, n, by simpa using hs⟩, ?_⟩
    have e := r.length
    simp only [Array.length_toList] at e
    omega
theorem Inv.list_inj (I : Inv X pins σ H s) (h : SqL X.K H a xs) (h' : SqL X.K H a ys) : xs = ys := by
  obtain ⟨its, r, ⟨o, n, e, _, _, d⟩, _⟩ := I.list h
  obtain ⟨its', r', ⟨o', n', e', _, _, d'⟩, _⟩ := I.list h'
  rw [e] at e'; cases e'
  rw [d] at d'
  injection d' with d1 _
  have : its = its' := by simpa using congrArg Array.toList d1
  subst this
  exact r.inj r'
theorem Inv.tuple_inj (I : Inv X pins σ H s) (h : SqT X.K H a xs) (h' : SqT X.K H a ys) : xs = ys := by
  obtain ⟨its, r, ⟨o, e, _, n, d⟩, _⟩ := I.tuple h
  obtain ⟨its', r', ⟨o', e', _, n', d'⟩, _⟩ := I.tuple h'
  rw [e] at e'; cases e'
  rw [d] at d'
  injection d' with d1 _
  have : its = its' := by simpa using congrArg Array.toList d1
  subst this
  exact r.inj r'
end
abbrev Cx.wish (X : Cx) (E : Value -> Shared -> Prop) : Cx := { X with xe := E }
abbrev Cx.nox (X : Cx) : Cx := X.wish fun _ _ => False
theorem Cx.Ok.wish {X : Cx} (ok : X.Ok) (E : Value -> Shared -> Prop) : (X.wish E).Ok :=
  ⟨ok.mod, ok.kind, ok.glob, ok.blt, ok.above, ok.inj, ok.has, ok.cab, ok.hd, ok.frames, ok.stk, ok.exf, ok.bs, ok.bsz, ok.noex, ok.exfs, ok.funs, ok.frf⟩
theorem Cx.Ok.unwish {X : Cx} {E : Value -> Shared -> Prop} (ok : (X.wish E).Ok) : X.Ok :=
  ⟨ok.mod, ok.kind, ok.glob, ok.blt, ok.above, ok.inj, ok.has, ok.cab, ok.hd, ok.frames, ok.stk, ok.exf, ok.bs, ok.bsz, ok.noex, ok.exfs, ok.funs, ok.frf⟩
section
variable {X : Cx} {pins : List (Addr × Obj)} {σ : St} {H : Hp} {s : Shared} {E : Value -> Shared -> Prop}
theorem Inv.wish (I : Inv X pins σ H s) (E : Value -> Shared -> Prop) : Inv (X.wish E) pins σ H s := ⟨I.ok.wish E, I.os, I.bare, I.base, I.loc, I.cell, I.free, I.freeC, I.pin, I.hok, I.len⟩
theorem Inv.unwish (I : Inv (X.wish E) pins σ H s) : Inv X pins σ H s := ⟨I.ok.unwish, I.os, I.bare, I.base, I.loc, I.cell, I.free, I.freeC, I.pin, I.hok, I.len⟩
theorem SP.unwish {D : Ends} {f : Flow} {s' : Shared} (h : SP (X.wish E) pins D f s') : SP X pins D f s' := by
  cases f with
  | next => obtain ⟨σ', H', I, q⟩ := h; exact ⟨σ', H', I.unwish, q⟩
  | brk => obtain ⟨σ', H', I, q⟩ := h; exact ⟨σ', H', I.unwish, q⟩
  | cont => obtain ⟨σ', H', I, q⟩ := h; exact ⟨σ', H', I.unwish, q⟩
  | ret u => obtain ⟨v, σ', H', I, r, q⟩ := h; exact ⟨v, σ', H', I.unwish, r, q⟩
theorem PE.nox {e : Expr} {t : TE} (h : PE X.nox e t) : PE X e t := fun pins s σ H Q I hw =>
  wpAny_mono (h pins s σ H Q (I.wish _) hw) (fun _ _ ⟨v, H', I', r, q⟩ => ⟨v, H', I'.unwish, r, q⟩) fun _ _ z => False.elim z
theorem PT.nox {e : Expr} {t : TT} (h : PT X.nox e t) : PT X e t := fun pins s σ H Q I hw =>
  wpAny_mono (h pins s σ H Q (I.wish _) hw) (fun _ _ ⟨H', I', q⟩ => ⟨H', I'.unwish, q⟩) fun _ _ z => False.elim z
theorem PSs.nox {st : List Stmt} {t : TS} (h : PSs X.nox st t) : PSs X st t := fun pins s σ H D I hw =>
  wpAny_mono (h pins s σ H D (I.wish _) hw) (fun _ _ q => q.unwish) fun _ _ z => False.elim z
end
section
variable {X : Cx} {st : Stmt} {rest : List Stmt} {t u : TS} {e : Expr} {te : TE} {pos : Pos}
def Ag4 : TS := fun D σ H => D.nx σ H
def Aiw (t u : TS) : TS := fun D σ H => t { D with nx := u D } σ H
theorem Av : PSs X [] Ag4 := fun _ _ σ H _ I h => wpAny_execs_nil ⟨σ, H, I, h⟩
theorem Ac (h1 : PS X st t) (h2 : PSs X rest u) : PSs X (st :: rest) (Aiw t u) := by
  intro pins s σ H D I h
  refine wpAny_execs_cons (thn (h1 pins s σ H { D with nx := u D } I h) fun f s1 q => ?_)
  cases f with
  | next =>
    obtain ⟨σ', H', I', q⟩ := q
    exact h2 pins s1 σ' H' D I' q
  | ret v => exact q
  | brk => exact q
  | cont => exact q
theorem Af (h1 : PS X st t) : PSs X [st] t := by
  intro pins s σ H D I h
  refine wpAny_execs_cons (thn (h1 pins s σ H D I h) fun f s1 q => ?_)
  cases f with
  | next => exact wpAny_execs_nil q
  | ret v => exact q
  | brk => exact q
  | cont => exact q
theorem Inv.quiet {pins : List (Addr × Obj)} {σ : St} {H : Hp} {s : Shared} (I : Inv X pins σ H s) : interactive X.env = false := by simp [interactive, I.ok.kind]
def Afw (te : TE) : TS := fun D σ H => te σ H fun _ H1 => D.nx σ H1
theorem Lz (he : PE X e te) (hs : swapsWith e none pos.line X.env = pure false := by rfl) : PS X (.Expr e pos) (Afw te) := by
  intro pins s σ H D I h
  exact wpAny_Expr_any (thn (he pins s σ H _ I h) fun v s1 ⟨x, H1, I1, r1, q1⟩ => ⟨σ, H1, I1, q1⟩) I.quiet hs
def Aj2 (te : TE) : TS := fun D σ H => te σ H D.rt
theorem Aq (he : PE X e te) : PS X (.Return (some e) pos) (Aj2 te) := by
  intro pins s σ H D I h
  exact wpAny_Return_some (thn (he pins s σ H _ I h) fun v s1 ⟨x, H1, I1, r1, q1⟩ => ⟨x, σ, H1, I1, r1, q1⟩)
def Ajt (c : TT) (t u : TS) : TS := fun D σ H => c σ H fun b H1 => if b = true then t D σ H1 else u D σ H1
theorem Bv {c : Expr} {a b : List Stmt} {tc : TT} (hc : PT X c tc) (ha : PSs X a t) (hb : PSs X b u) : PS X (.If c a b pos) (Ajt tc t u) := by
  intro pins s σ H D I h
  refine wpAny_If (thn (hc pins s σ H _ I h) fun d s1 ⟨H1, I1, q1⟩ => ?_)
  cases d with
  | true => exact ha pins s1 σ H1 D I1 q1
  | false => exact hb pins s1 σ H1 D I1 q1
def Afa : TS := fun _ _ _ => False
theorem Qc : PS X st Afa := fun _ _ _ _ _ _ h => h.elim
end
abbrev TG := V -> St -> Hp -> (St -> Hp -> Prop) -> Prop
abbrev TGs := List V -> St -> Hp -> (St -> Hp -> Prop) -> Prop
def PG (X : Cx) (target : Expr) (t : TG) : Prop :=
  ∀ (pins : List (Addr × Obj)) (s : Shared) (σ : St) (H : Hp) (v : V) (u : Value) (Q : St -> Hp -> Prop), Inv X pins σ H s -> RelV v u -> t v σ H Q ->
    wpAny (model X.prog X.w) X.A (assign target X.env u) (fun _ s' => ∃ σ' H', Inv X pins σ' H' s' /\ Q σ' H') X.xe s
def PGs (X : Cx) (ts : List Expr) (t : TGs) : Prop :=
  ∀ (pins : List (Addr × Obj)) (s : Shared) (σ : St) (H : Hp) (vs : List V) (us : List Value) (Q : St -> Hp -> Prop), Inv X pins σ H s -> Vals vs us -> t vs σ H Q ->
    wpAny (model X.prog X.w) X.A (assignInOrder ((assignEach ts X.env).map (·.2)) us) (fun _ s' => ∃ σ' H', Inv X pins σ' H' s' /\ Q σ' H') X.xe s
abbrev Aif := V -> V -> V -> Hp -> (Hp -> Prop) -> Prop
def Ajn (X : Cx) (t : Aif) : Prop :=
  ∀ (pins : List (Addr × Obj)) (s : Shared) (σ : St) (H : Hp) (o i v : V) (ov iv u : Value) (Q : Hp -> Prop), Inv X pins σ H s -> RelV o ov -> RelV i iv -> RelV v u -> t o i v H Q ->
    wpAny (model X.prog X.w) X.A (setItem ov iv u) (fun _ s' => ∃ H', Inv X pins σ H' s' /\ Q H') X.xe s
section
variable {X : Cx} {pos : Pos}
def Nb (i : Nat) : TG := fun v σ H Q => Q (σ.set i (some v)) H
theorem Am {i : Nat} {x : Str} (hN : X.N.Nodup) (hi : X.N[i]? = some x) (hx : Loc X.env.scope x) (hf : X.fn x = true \/ X.env.scope.names.lookup x = some .local := by first | exact .inl rfl | exact .inr rfl | assumption) : PG X (.Name x pos) (Nb i) := by
  intro pins s σ H v u Q I r h
  exact wpAny_assign_Name (P0 I hN hi hx r (fun s' I' => ⟨_, H, I', h⟩) hf)
def Ac5 : TGs := fun vs σ H Q => vs = [] /\ Q σ H
def Mr (t : TG) (u : TGs) : TGs := fun vs σ H Q => ∃ v r, vs = v :: r /\ t v σ H fun σ' H' => u r σ' H' Q
theorem Ed : PGs X [] Ac5 := by
  intro pins s σ H vs us Q I r h
  obtain ⟨e, h⟩ := h
  subst e
  cases r
  exact assignInOrder_nil ⟨σ, H, I, h⟩
theorem Ar {e : Expr} {es : List Expr} {t : TG} {u : TGs} (h1 : PG X e t) (h2 : PGs X es u)
    (hs : (assignEach (e :: es) X.env).map (·.2) = assign e X.env :: (assignEach es X.env).map (·.2) := by rfl) : PGs X (e :: es) (Mr t u) := by
  intro pins s σ H vs us Q I r h
  obtain ⟨v, vr, e1, h⟩ := h
  subst e1
  cases r with
  | cons r rr =>
    rw [hs]
    refine assignInOrder_cons (thn (h1 pins s σ H _ _ _ I r h) fun _ s1 ⟨σ1, H1, I1, q1⟩ => ?_)
    exact h2 pins s1 σ1 H1 _ _ Q I1 rr q1
def Ahb (K : PySem.W.Frag) (n : Nat) (t : TGs) : TG := fun v σ H Q => ∃ a xs, v = .ref a /\ SqT K H a xs /\ xs.length = n /\ t xs σ H Q
theorem Gz {es : List Expr} {k : Nat} {t : TGs} {n : Nat} (hc : X.calm = true) (h : PGs X es t)
    (hn : (assignEach es X.env).length = n := by rfl) (hst : (assignEach es X.env).findIdx? (·.1) = none := by rfl) : PG X (.Tuple es k pos) (Ahb X.K n t) := by
  intro pins s σ H v u Q I r hw
  obtain ⟨a, xs, e1, hq, hl, hw⟩ := hw
  subst e1
  cases r
  obtain ⟨its, rv, ht, hz⟩ := I.tuple hq
  refine assign_Tuple_tuple (I.ok.hd hc) ht (by simp [hn, <- hl, rv.length]) hst fun h' hx => ?_
  have I1 : Inv X pins σ H { s with heap := h' } := I.kept (t' := s.toks) fun b o e => hx b o (Nat.ne_of_lt (Heap.lt_size e)) e
  exact h pins _ σ H xs _ Q I1 (by simpa using rv) hw
def Agm (to ti : TE) (t : Aif) : TG := fun v σ H Q => to σ H fun o H1 => ti σ H1 fun i H2 => t o i v H2 fun H3 => Q σ H3
theorem Ji {o i : Expr} {to ti : TE} {t : Aif} (ho : PE X o to) (hi : PE X i ti) (hs : Ajn X t)
    (ha : ∀ v, assign (.Subscript o i pos) X.env v = (do
      let ov <- holding [v] (eval o X.env)
      let iv <- holding [v, ov] (eval i X.env)
      standAt pos
      holding [v, ov, iv] (setItem ov iv v)
      release [v, ov, iv] []) := by intro _; rfl) : PG X (.Subscript o i pos) (Agm to ti t) := by
  intro pins s σ H v u Q I r h
  rw [ha]
  refine wpAny_bind (wpAny_holding (thn (ho pins s σ H _ I h) fun ov s1 ⟨x, H1, I1, r1, q1⟩ => ?_))
  refine wpAny_bind (wpAny_holding (thn (hi pins s1 σ H1 _ I1 q1) fun iv s2 ⟨y, H2, I2, r2, q2⟩ => ?_))
  refine wpAny_bind (wpAny_standAt (wpAny_bind (wpAny_holding (thn (hs pins s2 σ H2 x y v ov iv u _ I2 r1 r2 r q2) fun _ s3 ⟨H3, I3, q3⟩ => ?_))))
  exact wpAny_release ⟨σ, H3, I3, q3⟩
def Agy (te : TE) (g : TG) : TS := fun D σ H => te σ H fun x H1 => g x σ H1 D.nx
theorem El {tg e : Expr} {te : TE} {g : TG} (he : PE X e te) (hg : PG X tg g) (hs : swapsWithSole [tg] e pos.line X.env = pure false := by rfl) (hw : swappedStores [tg] e X.env = pure none := by rfl)
    (h1 : (assignEach [tg] X.env).map (·.2) = [assign tg X.env] := by rfl) : PS X (.Assign [tg] e pos) (Agy te g) := by
  intro pins s σ H D I h
  refine wpAny_Assign_stores (thn (he pins s σ H _ I h) fun v s1 ⟨x, H1, I1, r1, q1⟩ => ?_) hs hw
  rw [h1]
  exact thn (hg pins s1 σ H1 x v _ I1 r1 q1) fun _ s2 q => q
theorem Aj {i : Nat} {x : Str} {e : Expr} {te : TE} {pos' : Pos} (hN : X.N.Nodup) (hi : X.N[i]? = some x) (hx : Loc X.env.scope x) (he : PE X e te) (hs : swapsWith e (some (.Name x pos')) pos.line X.env = pure false := by rfl) (hf : X.fn x = true \/ X.env.scope.names.lookup x = some .local := by first | exact .inl rfl | exact .inr rfl | assumption) :
    PS X (.Assign [.Name x pos'] e pos) (Agy te (Nb i)) := by
  intro pins s σ H D I h
  refine wpAny_Assign_Name (thn (he pins s σ H _ I h) fun v s1 ⟨y, H1, I1, r1, q1⟩ => ?_) hs
  exact P0 I1 hN hi hx r1 (fun s2 I2 => ⟨_, H1, I2, q1⟩) hf
def Ajj (i j : Nat) (ta : TA) : TS := fun D σ H => ta σ H fun vs H1 => ∃ v w, vs = [v, w] /\ D.nx ((σ.set i (some v)).set j (some w)) H1
theorem Mt {i j : Nat} {x y : Str} {a b : Expr} {ta : TA} {px py pt : Pos} {kt k2 pt2} (hc : X.calm = true) (hN : X.N.Nodup) (hi : X.N[i]? = some x) (hj : X.N[j]? = some y) (hij : i ≠ j)
    (hx : X.env.scope.names.lookup x = some .local) (hy : X.env.scope.names.lookup y = some .local) (ha : PA X [a, b] ta)
    (hw : swappedStores [.Tuple [.Name x px, .Name y py] kt pt] (.Tuple [a, b] k2 pt2) X.env = pure (some [x, y]))
    (hs : swapsWithSole [.Tuple [.Name x px, .Name y py] kt pt] (.Tuple [a, b] k2 pt2) pos.line X.env = pure false := by rfl) :
    PS X (.Assign [.Tuple [.Name x px, .Name y py] kt pt] (.Tuple [a, b] k2 pt2) pos) (Ajj i j ta) := by
  intro pins s σ H D I h
  rw [exec_Assign_arm]
  refine wpAny_bind (wpAny_standAt ?_)
  rw [hs]
  refine wpAny_bind (wpAny_pure ?_)
  rw [if_neg (by decide)]
  refine wpAny_bind (Tuple_ (thn (ha _ pins s σ H _ I h) fun us s1 ⟨vs, H1, I1, r1, q1⟩ => ?_))
  obtain ⟨v, w, e1, q1⟩ := q1
  subst e1
  obtain ⟨u1, u2, rfl, rv, rw'⟩ : ∃ u1 u2, us = [u1, u2] /\ RelV v u1 /\ RelV w u2 := by
    cases r1 with
    | cons p q =>
      cases q with
      | cons p' q' =>
        cases q'
        exact ⟨_, _, rfl, p, p'⟩
  refine wpAny_newObj_type ?_ (by show 2 <= sizeLine; decide)
  have I2 : Inv X pins σ H1 { s1 with heap := s1.heap.push { cls := .type "tuple", data := .seq [u1, u2].toArray } } := I1.kept (t' := s1.toks) fun b o e => Heap.get?_push_of_some _ e
  rw [hw]
  refine wpAny_bind (wpAny_pure ?_)
  show wpAny (model X.prog X.w) X.A (do rule "assign.swapped-stores"; let items <- unpackItems (.ref s1.heap.objs.size) 2 none; assignInOrder [fun v => bindName X.env y v, fun v => bindName X.env x v] items.reverse; pure Flow.next) _ _ _
  refine wpAny_bind (wpAny_rule (wpAny_bind (unpackItems_tuple (items := #[u1, u2]) (I.ok.hd hc) (IsTup.new s1.heap _) fun h' hx' => ?_)))
  have I3 := I2.kept (h' := h') (t' := s1.toks) fun b o e => hx' b o (Nat.ne_of_lt (Heap.lt_size e)) e
  show wpAny _ _ (assignInOrder [fun v => bindName X.env y v, fun v => bindName X.env x v] [u2, u1] >>= fun _ => pure Flow.next) _ _ _
  refine wpAny_bind (assignInOrder_cons (wpAny_bindName (P0 I3 hN hj (.inl hy) rw' (fun s2 I4 => ?_) (.inr hy))))
  refine assignInOrder_cons (wpAny_bindName (P0 I4 hN hi (.inl hx) rv (fun s3 I5 => assignInOrder_nil (wpAny_pure ?_)) (.inr hx)))
  rw [List.set_comm _ _ (Ne.symm hij)] at I5
  exact ⟨_, H1, I5, q1⟩
end
section
variable {X : Cx} {pos : Pos}
def V0 (c : TT) (tb : TS) : TS := fun D σ H => ∃ W : Nat -> St -> Hp -> Prop, (∃ m, W m σ H) /\ ∀ m σ H, W m σ H ->
  c σ H fun b H1 => if b = true then ∃ N : St -> Hp -> Prop, (∀ σ' H', N σ' H' -> ∃ m', m' < m /\ W m' σ' H') /\ tb { D with nx := N, ct := N, bk := D.nx } σ H1 else D.nx σ H1
theorem Hu {c : Expr} {body : List Stmt} {tc : TT} {tb : TS} (hp : PassesOwn (model X.prog X.w) X.A X.env X.xe) (hc : PT X c tc) (hb : PSs X body tb) : PS X (.While c body [] pos) (V0 tc tb) := by
  intro pins s σ H D I h
  obtain ⟨W, ⟨m0, w0⟩, turn⟩ := h
  refine wpAny_While (codeAny_whileLoop (fun n s' => ∃ σ' H', Inv X pins σ' H' s' /\ W n σ' H') ?_ m0 ⟨σ, H, I, w0⟩)
  rintro n s1 ⟨σ1, H1, I1, w1⟩
  refine wpAny_passesOwn hp (thn (hc pins s1 σ1 H1 _ I1 (turn n σ1 H1 w1)) fun b s2 ⟨H2, I2, q2⟩ => ?_)
  cases b with
  | true =>
    obtain ⟨N, hN, q2⟩ := q2
    rw [if_pos rfl]
    refine wpAny_passesOwn hp (thn (hb pins s2 σ1 H2 _ I2 q2) fun f s3 q3 => ?_)
    cases f with
    | next =>
      obtain ⟨σ3, H3, I3, n3⟩ := q3
      obtain ⟨m', hm, w3⟩ := hN σ3 H3 n3
      exact ⟨m', hm, σ3, H3, I3, w3⟩
    | cont =>
      obtain ⟨σ3, H3, I3, n3⟩ := q3
      obtain ⟨m', hm, w3⟩ := hN σ3 H3 n3
      exact ⟨m', hm, σ3, H3, I3, w3⟩
    | brk => exact q3
    | ret v => exact q3
  | false =>
    rw [if_neg Bool.false_ne_true]
    exact wpAny_execs_nil ⟨σ1, H2, I2, q2⟩
end
structure It where
  go : Nat -> Hp -> Prop
  yld : Nat -> Hp -> V -> Hp -> Prop
  stop : Nat -> Hp -> Prop
def Wj (X : Cx) (pins : List (Addr × Obj)) (H : Hp) (b : Addr) : Prop :=
  H b = none /\ b ≠ X.env.locals /\ b ∉ X.fs /\ (b ∈ X.ex \/ X.s₀.heap.objs.size <= b) /\ (∀ x c, X.env.cells.lookup x = some c -> c ≠ b) /\ ∀ p ∈ X.pn ++ pins, p.1 ≠ b
theorem Inv.fpOk {X : Cx} {pins : List (Addr × Obj)} {σ : St} {H H' : Hp} {s : Shared} {b : Addr} (I : Inv X pins σ H s) (hb : s.heap.objs.size <= b) (hn : H' b = none) : Wj X pins H' b := by
  refine ⟨hn, Nat.ne_of_gt (Nat.lt_of_lt_of_le I.lt hb), I.nofs hb, .inr (Nat.le_trans I.sz hb), fun x c e z => ?_, fun p hp z => ?_⟩
  . obtain ⟨v, q⟩ := I.cell x c e
    exact absurd (Nat.lt_of_lt_of_le q.lt (by rw [z]; exact hb)) (Nat.lt_irrefl _)
  . exact absurd (Nat.lt_of_lt_of_le (Heap.lt_size (I.pin p hp).1) (by rw [z]; exact hb)) (Nat.lt_irrefl _)
structure Turn (P : Program) (w : World) (K : PySem.W.Frag) (tg : Expr) (J : It) (fp : List Addr) (it : Addr) (tn : Nat -> Heap -> Prop) : Prop where
  mem : it ∈ fp
  obj : ∀ i h, tn i h -> ∀ b ∈ fp, ∃ o, h.get? b = some o /\ ∀ v, o.data ≠ .cell v
  keep : ∀ i h h', tn i h -> (∀ b ∈ fp, ∀ o, h.get? b = some o -> h'.get? b = some o) -> tn i h'
  item : ∀ (X : Cx), X.prog = P -> X.w = w -> X.K = K -> X.calm = true -> ∀ (i : Nat) (pins : List (Addr × Obj)) (s : Shared) (σ : St) (H : Hp) (E : Value -> Shared -> Prop), Inv X pins σ H s -> (∀ b ∈ fp, Wj X pins H b) -> tn i s.heap -> J.go i H ->
    wpAny (model P w) X.A (pyNext (.ref it)) (fun r s1 => ∃ u, r = some u /\
      wpAny (model P w) X.A (letOwnedTupleGo tg (.ref it) u) (fun _ s2 => ∃ x H', Inv X pins σ H' s2 /\ RelV x u /\ J.yld i H x H' /\ tn (i + 1) s2.heap /\ ∀ b ∈ fp, H' b = none) E s1) E s
  done : ∀ (X : Cx), X.prog = P -> X.w = w -> X.K = K -> X.calm = true -> ∀ (i : Nat) (pins : List (Addr × Obj)) (s : Shared) (σ : St) (H : Hp) (E : Value -> Shared -> Prop), Inv X pins σ H s -> (∀ b ∈ fp, Wj X pins H b) -> tn i s.heap -> J.stop i H ->
    wpAny (model P w) X.A (pyNext (.ref it)) (fun r s1 => r = none /\ Inv X pins σ H s1) E s
  self : ∀ (A : Around) (i : Nat) (s : Shared) (Q : Value -> Shared -> Prop) (E : Value -> Shared -> Prop), tn i s.heap -> Q (.ref it) s -> wpAny (model P w) A (pyIter (.ref it)) Q E s
abbrev TI := St -> Hp -> (It -> Hp -> Prop) -> Prop
def PIE (X : Cx) (pins : List (Addr × Obj)) (σ : St) (tg : Expr) (R : It -> Hp -> Prop) (itv : Value) (s2 : Shared) : Prop :=
  ∃ (it : Addr) (fp : List Addr) (tn : Nat -> Heap -> Prop) (J : It) (H' : Hp), itv = .ref it /\ Inv X pins σ H' s2 /\ Turn X.prog X.w X.K tg J fp it tn /\ tn 0 s2.heap /\ (∀ b ∈ fp, Wj X pins H' b) /\ R J H'
def PI (X : Cx) (tg iter : Expr) (wi : TI) : Prop :=
  ∀ (pins : List (Addr × Obj)) (s : Shared) (σ : St) (H : Hp) (R : It -> Hp -> Prop), Inv X pins σ H s -> wi σ H R ->
    wpAny (model X.prog X.w) X.A (eval iter X.env) (fun v s1 => wpAny (model X.prog X.w) X.A (pyIter v) (PIE X pins σ tg R) X.xe s1) X.xe s
theorem Ac7 {M : Model} {A : Around} {E : Value -> Shared -> Prop} {s : Shared} {tg : Expr} {it : Addr} {u : Value} {o : Obj} {n : String} {vs : Array Value} {Q : Unit -> Shared -> Prop} (ho : s.heap.get? it = some o) (hc : o.cls = .type n) (hd : o.data = .fields vs)
    (hn : ["enumerate", "zip", "dict_itemiterator", "dict_reverseitemiterator", "odict_iterator", "itertools.zip_longest", "itertools.pairwise"].contains n = false) (hQ : Q () s) : wpAny M A (letOwnedTupleGo tg (.ref it) u) Q E s := by
  unfold letOwnedTupleGo
  cases tg <;> first
    | exact wpAny_pure hQ
    | (cases u <;> first
        | exact wpAny_pure hQ
        | (refine wpAny_bind (wpAny_load ho ?_)
           rw [hc, hd]
           show wpAny M A (if (["enumerate", "zip", "dict_itemiterator", "dict_reverseitemiterator", "odict_iterator", "itertools.zip_longest", "itertools.pairwise"].contains n && vs[0]? == some (rawInt _)) = true then _ else _) Q E s
           rw [if_neg (by intro h; rw [hn, Bool.false_and] at h; cases h)]
           exact wpAny_pure hQ))
def Itl (K : PySem.W.Frag) (a : Addr) : It :=
  ⟨fun i H => ∃ xs x, SqL K H a xs /\ xs[i]? = some x, fun i H x H' => H' = H /\ ∀ xs, SqL K H a xs -> xs[i]? = some x, fun i H => ∃ xs, SqL K H a xs /\ xs.length <= i⟩
def Itt (K : PySem.W.Frag) (a : Addr) : It :=
  ⟨fun i H => ∃ xs x, SqT K H a xs /\ xs[i]? = some x, fun i H x H' => H' = H /\ ∀ xs, SqT K H a xs -> xs[i]? = some x, fun i H => ∃ xs, SqT K H a xs /\ xs.length <= i⟩
def Itr (lo : Int) (n : Nat) : It := ⟨fun i _ => i < n, fun i H x H' => H' = H /\ x = .int (lo + i), fun i _ => n <= i⟩
theorem Aaa {P : Program} {w : World} {K : PySem.W.Frag} {tg : Expr} (a it : Addr) : Turn P w K tg (Itl K a) [it] it (fun i h => h.IsListIter it a i) where
  mem := by simp
  obj := fun i h st b hb => by
    have e : b = it := by simpa using hb
    subst e
    obtain ⟨o, e, c, d⟩ := st
    exact ⟨o, e, fun v z => by rw [d] at z; cases z⟩
  keep := fun i h h' st k => st.at fun o e => k it (by simp) o e
  item := by
    intro X hP hw hK hc i pins s σ H E I hf st hg
    subst hP hw hK
    obtain ⟨xs, x, hq, hx⟩ := hg
    obtain ⟨its, rv, p, hz⟩ := I.list hq
    obtain ⟨u, hu, ru⟩ := rv.get hx
    obtain ⟨f0, f1, f2, f3, f4, f5⟩ := hf it (by simp)
    refine wpAny_pyNext_list_item st p.isList (x := u) (by simpa using hu) fun h' st' sb => ?_
    have I1 : Inv X pins σ H { s with heap := h' } := I.turned (t' := s.toks) (fun b o hb e => (sb.2 b hb).trans e) f0 f1 f3 f4 f5
    obtain ⟨o, e, c, d⟩ := id st'
    exact ⟨u, rfl, Ac7 (s := { s with heap := h' }) e c d (by decide) ⟨x, H, I1, ru, ⟨rfl, fun ys hy => by rw [I.list_inj hy hq]; exact hx⟩, st', fun b hb => (hf b hb).1⟩⟩
  done := by
    intro X hP hw hK hc i pins s σ H E I hf st hg
    subst hP hw hK
    obtain ⟨xs, hq, hx⟩ := hg
    obtain ⟨its, rv, p, hz⟩ := I.list hq
    obtain ⟨f0, f1, f2, f3, f4, f5⟩ := hf it (by simp)
    have hl := rv.length
    exact wpAny_pyNext_list_end (I.ok.hd hc) st p.isList (by simp; omega) fun h' eb => ⟨rfl, I.turned (t' := s.toks) (fun b o hb e => eb b o hb e) f0 f1 f3 f4 f5⟩
  self := fun _ _ _ _ _ st h => wpAny_pyIter_listiter st h
theorem Zn {P : Program} {w : World} {K : PySem.W.Frag} {tg : Expr} (a it : Addr) : Turn P w K tg (Itt K a) [it] it (fun i h => h.IsTupleIter it a i) where
  mem := by simp
  obj := fun i h st b hb => by
    have e : b = it := by simpa using hb
    subst e
    obtain ⟨o, e, c, d⟩ := st
    exact ⟨o, e, fun v z => by rw [d] at z; cases z⟩
  keep := fun i h h' st k => st.at fun o e => k it (by simp) o e
  item := by
    intro X hP hw hK hc i pins s σ H E I hf st hg
    subst hP hw hK
    obtain ⟨xs, x, hq, hx⟩ := hg
    obtain ⟨its, rv, p, hz⟩ := I.tuple hq
    obtain ⟨u, hu, ru⟩ := rv.get hx
    obtain ⟨f0, f1, f2, f3, f4, f5⟩ := hf it (by simp)
    refine wpAny_pyNext_tuple_item st (show s.heap.IsTuple a its.toArray from p) (x := u) (by simpa using hu) fun h' st' sb => ?_
    have I1 : Inv X pins σ H { s with heap := h' } := I.turned (t' := s.toks) (fun b o hb e => (sb.2 b hb).trans e) f0 f1 f3 f4 f5
    obtain ⟨o, e, c, d⟩ := id st'
    exact ⟨u, rfl, Ac7 (s := { s with heap := h' }) e c d (by decide) ⟨x, H, I1, ru, ⟨rfl, fun ys hy => by rw [I.tuple_inj hy hq]; exact hx⟩, st', fun b hb => (hf b hb).1⟩⟩
  done := by
    intro X hP hw hK hc i pins s σ H E I hf st hg
    subst hP hw hK
    obtain ⟨xs, hq, hx⟩ := hg
    obtain ⟨its, rv, p, hz⟩ := I.tuple hq
    obtain ⟨f0, f1, f2, f3, f4, f5⟩ := hf it (by simp)
    have hl := rv.length
    exact wpAny_pyNext_tuple_end (I.ok.hd hc) st (show s.heap.IsTuple a its.toArray from p) (by simp; omega) fun h' eb => ⟨rfl, I.turned (t' := s.toks) (fun b o hb e => eb b o hb e) f0 f1 f3 f4 f5⟩
  self := fun _ _ _ _ _ st h => wpAny_pyIter_tupleiter st h
theorem Y0 {P : Program} {w : World} {K : PySem.W.Frag} {tg : Expr} (it : Addr) (lo : Int) (n : Nat) : Turn P w K tg (Itr lo n) [it] it (fun i h => IsRangeIter h it (lo + (i : Nat) * 1) ((n : Int) - (i : Nat)) 1) where
  mem := by simp
  obj := fun i h st b hb => by
    have e : b = it := by simpa using hb
    subst e
    exact ⟨_, st, fun v z => by
      have z' : Data.fields _ = Data.cell v := z
      cases z'⟩
  keep := fun i h h' st k => k it (by simp) _ st
  item := by
    intro X hP hw hK hc i pins s σ H E I hf st hg
    subst hP hw hK
    obtain ⟨f0, f1, f2, f3, f4, f5⟩ := hf it (by simp)
    have W := Walks.range (prog := X.prog) (w := X.w) (I.ok.hd hc) it lo 1 n
    refine W.item i s _ _ hg st fun v h' tk hv st' kk => ?_
    obtain ⟨t, rfl⟩ := hv
    have I1 : Inv X pins σ H { s with heap := h', toks := tk } := I.turned (fun b o hb e => kk b o (by simpa using hb) e) f0 f1 f3 f4 f5
    refine ⟨_, rfl, Ac7 (s := { s with heap := h', toks := tk }) (n := "range_iterator") st' rfl rfl (by decide) ⟨.int (lo + i), H, I1, ⟨t, ?_⟩, ⟨rfl, rfl⟩, st', fun b hb => (hf b hb).1⟩⟩
    rw [Int.mul_one]
  done := by
    intro X hP hw hK hc i pins s σ H E I hf st hg
    subst hP hw hK
    obtain ⟨f0, f1, f2, f3, f4, f5⟩ := hf it (by simp)
    exact wpAny_pyNext_range_end (I.ok.hd hc) st (by have : n <= i := hg; omega) fun h' eb => ⟨rfl, I.turned (t' := s.toks) (fun b o hb e => eb b o hb e) f0 f1 f3 f4 f5⟩
  self := fun _ _ _ _ _ st h => wpAny_pyIter_rangeiter st h
end L2
namespace L2
open PySem PySem.Spec PyProof.Rows
section
variable {X : Cx} {tg : Expr}
def Ag5 (K : PySem.W.Frag) (tl : TE) : TI := fun σ H R => tl σ H fun x H1 => ∃ a, x = .ref a /\ (∃ xs, SqL K H1 a xs) /\ R (Itl K a) H1
def Ajm (K : PySem.W.Frag) (tl : TE) : TI := fun σ H R => tl σ H fun x H1 => ∃ a, x = .ref a /\ (∃ xs, SqT K H1 a xs) /\ R (Itt K a) H1
theorem M7 {l : Expr} {tl : TE} (hl : PE X l tl) : PI X tg l (Ag5 X.K tl) := by
  intro pins s σ H R I h
  refine thn (hl pins s σ H _ I h) fun v s1 ⟨x, H1, I1, r1, q1⟩ => ?_
  obtain ⟨a, e, ⟨xs, hq⟩, q⟩ := q1
  subst e
  cases r1
  obtain ⟨its, rv, p, hz⟩ := I1.list hq
  refine wpAny_pyIter_list p.isList ?_
  refine ⟨s1.heap.objs.size, [s1.heap.objs.size], _, _, H1, rfl, I1.kept (t' := s1.toks) fun b o e => Heap.get?_push_of_some _ e, Aaa a _, ⟨_, Heap.get?_push_size _ rfl, rfl, rfl⟩, fun b hb => ?_, q⟩
  have e : b = s1.heap.objs.size := by simpa using hb
  subst e
  exact I1.fpOk (Nat.le_refl _) (I1.hok.fresh (Nat.le_refl _))
theorem Ln {l : Expr} {tl : TE} (hl : PE X l tl) : PI X tg l (Ajm X.K tl) := by
  intro pins s σ H R I h
  refine thn (hl pins s σ H _ I h) fun v s1 ⟨x, H1, I1, r1, q1⟩ => ?_
  obtain ⟨a, e, ⟨xs, hq⟩, q⟩ := q1
  subst e
  cases r1
  obtain ⟨its, rv, p, hz⟩ := I1.tuple hq
  refine wpAny_pyIter_tuple (show s1.heap.IsTuple a its.toArray from p) ?_
  refine ⟨s1.heap.objs.size, [s1.heap.objs.size], _, _, H1, rfl, I1.kept (t' := s1.toks) fun b o e => Heap.get?_push_of_some _ e, Zn a _, ⟨_, Heap.get?_push_size _ rfl, rfl, rfl⟩, fun b hb => ?_, q⟩
  have e : b = s1.heap.objs.size := by simpa using hb
  subst e
  exact I1.fpOk (Nat.le_refl _) (I1.hok.fresh (Nat.le_refl _))
theorem Yh {pins : List (Addr × Obj)} {σ : St} {H : Hp} {s : Shared} {R : It -> Hp -> Prop} {E : Value -> Shared -> Prop} {lo hi : Int} {t u v : Tok} {tk : Nat} (I : Inv X pins σ H s) (h1 : -(2 ^ 62) <= lo) (h2 : lo < 2 ^ 62) (h3 : -(2 ^ 62) <= hi) (h4 : hi < 2 ^ 62)
    (q : R (Itr lo (hi - lo).toNat) H) : wpAny (model X.prog X.w) X.A (pyIter (.ref s.heap.objs.size)) (PIE X pins σ tg R) E { s with heap := s.heap.push { cls := .type "range", data := .fields #[.int lo t, .int hi u, .int 1 v] }, toks := tk } := by
  refine wpAny_pyIter_range (IsRange.new ..) (small_one h1 h2 h3 h4) ?_
  have I1 : Inv X pins σ H { s with heap := s.heap.push { cls := .type "range", data := .fields #[.int lo t, .int hi u, .int 1 v] }, toks := tk } := I.kept fun b o e => Heap.get?_push_of_some _ e
  refine ⟨(s.heap.push { cls := .type "range", data := .fields #[.int lo t, .int hi u, .int 1 v] }).objs.size, [(s.heap.push { cls := .type "range", data := .fields #[.int lo t, .int hi u, .int 1 v] }).objs.size], _, _, H, rfl,
    I1.kept (t' := tk) fun b o e => Heap.get?_push_of_some _ e, Y0 _ lo (hi - lo).toNat, ?_, fun b hb => ?_, q⟩
  . have e1 : lo + ((0 : Nat) : Int) * 1 = lo := by simp
    have e2 : (((hi - lo).toNat : Nat) : Int) - ((0 : Nat) : Int) = Builtin.Range.rangeSize lo hi 1 := by rw [rangeSize_one]; split <;> omega
    show IsRangeIter _ _ (lo + ((0 : Nat) : Int) * 1) ((((hi - lo).toNat : Nat) : Int) - ((0 : Nat) : Int)) 1
    rw [e1, e2]
    exact Heap.get?_push_size _ rfl
  . have e : b = (s.heap.push { cls := .type "range", data := .fields #[.int lo t, .int hi u, .int 1 v] }).objs.size := by simpa using hb
    subst e
    exact I1.fpOk (Nat.le_refl _) (I1.hok.fresh (Nat.le_refl _))
def Afy (ta : TA) : TI := fun σ H R => ta σ H fun vs H1 => ∃ j : Int, vs = [.int j] /\ -(2 ^ 62) <= j /\ j < 2 ^ 62 /\ R (Itr 0 j.toNat) H1
def Agk (ta : TA) : TI := fun σ H R => ta σ H fun vs H1 => ∃ i j : Int, vs = [.int i, .int j] /\ (-(2 ^ 62) <= i /\ i < 2 ^ 62 /\ -(2 ^ 62) <= j /\ j < 2 ^ 62) /\ R (Itr i (j - i).toNat) H1
theorem Nk {a : Expr} {ta : TA} {p pos : Pos} (hg : Gl X "range") (hm : X.mg "range" = none) (ha : PA X [a] ta) (hs : starEach [a] X.env = [(false, eval a X.env)] := by rfl) : PI X tg (.Call (.Name "range" p) [a] [] pos) (Afy ta) := by
  intro pins s σ H R I h
  refine Call_ (O7 I hg hm boot_range (PyProof.Rows.callWith_type1 (thn (ha pos pins s σ H _ I h) fun us s1 ⟨vs, H1, I1, r1, q1⟩ => ?_) hs rfl))
  obtain ⟨j, e, q1, q2, q⟩ := q1
  subst e
  cases r1 with
  | cons r rr =>
    cases rr
    obtain ⟨t, rfl⟩ := r
    exact call_range_1 (Yh I1 (by omega) (by omega) q1 q2 (by simpa using q))
theorem Mi {a b : Expr} {ta : TA} {p pos : Pos} (hg : Gl X "range") (hm : X.mg "range" = none) (ha : PA X [a, b] ta) (hs : starEach [a, b] X.env = [(false, eval a X.env), (false, eval b X.env)] := by rfl) (hs2 : starEach [b] X.env = [(false, eval b X.env)] := by rfl) :
    PI X tg (.Call (.Name "range" p) [a, b] [] pos) (Agk ta) := by
  intro pins s σ H R I h
  refine Call_ (O7 I hg hm boot_range (PyProof.Rows.callWith_type1 (thn (ha pos pins s σ H _ I h) fun us s1 ⟨vs, H1, I1, r1, q1⟩ => ?_) (by rw [hs, hs2]) (by rw [hs2]; rfl)))
  obtain ⟨i, j, e, ⟨q1, q2, q3, q4⟩, q⟩ := q1
  subst e
  cases r1 with
  | cons r rr =>
    cases rr with
    | cons r' rr =>
      cases rr
      obtain ⟨t, rfl⟩ := r
      obtain ⟨t', rfl⟩ := r'
      exact call_range_2 (Yh I1 q1 q2 q3 q4 q)
def Ajd (wi : TI) (g : TG) (tb : TS) : TS := fun D σ H => wi σ H fun J H1 => ∃ W : Nat -> Nat -> St -> Hp -> Prop, (∃ m, W 0 m σ H1) /\ ∀ i m σ H, W i m σ H ->
  (J.stop i H /\ D.nx σ H) \/ (J.go i H /\ ∃ N : St -> Hp -> Prop, (∀ σ' H', N σ' H' -> ∃ m', m' < m /\ W (i + 1) m' σ' H') /\ ∀ x H', J.yld i H x H' -> g x σ H' fun σ2 H2 => tb { D with nx := N, ct := N, bk := D.nx } σ2 H2)
def Vr (fp : List Addr) (h : Heap) : List (Addr × Obj) := fp.filterMap fun b => (h.get? b).map fun o => (b, o)
theorem K4 {fp : List Addr} {h : Heap} {b : Addr} {o : Obj} (hb : b ∈ fp) (e : h.get? b = some o) : (b, o) ∈ Vr fp h := List.mem_filterMap.mpr ⟨b, hb, by rw [e]; rfl⟩
theorem Abu {fp : List Addr} {h : Heap} {p : Addr × Obj} (hp : p ∈ Vr fp h) : p.1 ∈ fp /\ h.get? p.1 = some p.2 := by
  obtain ⟨b, hb, e⟩ := List.mem_filterMap.mp hp
  cases q : h.get? b with
  | none => rw [q] at e; cases e
  | some o =>
    rw [q] at e
    have e' : (b, o) = p := Option.some.inj e
    subst e'
    exact ⟨hb, q⟩
theorem Inv.pinned {pins : List (Addr × Obj)} {σ : St} {H : Hp} {s : Shared} {fp : List Addr} (I : Inv X pins σ H s) (hf : ∀ b ∈ fp, Wj X pins H b) (ho : ∀ b ∈ fp, ∃ o, s.heap.get? b = some o /\ ∀ v, o.data ≠ .cell v) : Inv X (pins ++ Vr fp s.heap) σ H s :=
  I.pins_of fun p hp => (List.mem_append.mp hp).elim (fun z => I.pin p (List.mem_append_right _ z)) fun z => by
    obtain ⟨hb, e⟩ := Abu z
    obtain ⟨f0, f1, f2, _⟩ := hf p.1 hb
    obtain ⟨o, e', d⟩ := ho p.1 hb
    rw [e] at e'; cases e'
    exact ⟨e, f0, f1, f2, d⟩
theorem Inv.unpinned {pins pl : List (Addr × Obj)} {σ : St} {H : Hp} {s : Shared} (I : Inv X (pins ++ pl) σ H s) : Inv X pins σ H s := I.pins_of fun p hp => I.pin p (List.mem_append_right _ (List.mem_append_left _ hp))
theorem Hf {iter : Expr} {body : List Stmt} {wi : TI} {g : TG} {tb : TS} {pos : Pos} (hp : PassesOwn (model X.prog X.w) X.A X.env X.xe) (hc : X.calm = true) (hi : PI X tg iter wi) (hg : PG X tg g) (hb : PSs X body tb)
    (hs : ∀ x, foldedSetIterable iter X.env x = pure x := by intro _; rfl) : PS X (.For tg iter body [] pos) (Ajd wi g tb) := by
  intro pins s σ H D I h
  refine wpAny_For (thn (hi pins s σ H _ I h) fun v s1 h1 => thn h1 fun itv s2 h2 => ?_) hs
  obtain ⟨it, fp, tn, J, H2, e, I2, T, st2, f2, W, ⟨m0, w0⟩, turn⟩ := h2
  subst e
  have stat : ∀ {H' : Hp}, (∀ b ∈ fp, H' b = none) -> ∀ b ∈ fp, Wj X pins H' b := fun hn b hb => ⟨hn b hb, (f2 b hb).2⟩
  refine codeAny_forLoop_any (fun n s' => ∃ i σ' H', Inv X pins σ' H' s' /\ tn i s'.heap /\ (∀ b ∈ fp, H' b = none) /\ W i n σ' H') ?_ m0 ⟨0, σ, H2, I2, st2, fun b hb => (f2 b hb).1, w0⟩
  rintro n s3 ⟨i, σ3, H3, I3, st3, fr3, w3⟩
  rcases turn i n σ3 H3 w3 with ⟨stop, qn⟩ | ⟨go, N, hN, step⟩
  . refine wpAny_passesOwn hp (thn (T.done X rfl rfl rfl hc i pins s3 σ3 H3 X.xe I3 (stat fr3) st3 stop) fun r s4 ⟨hr, I4⟩ => ?_)
    subst hr
    exact wpAny_execs_nil ⟨σ3, H3, I4, qn⟩
  . refine wpAny_passesOwn hp (thn (T.item X rfl rfl rfl hc i pins s3 σ3 H3 X.xe I3 (stat fr3) st3 go) fun r s4 ⟨u, hr, h4⟩ => ?_)
    subst hr
    refine wpAny_passesOwn hp (thn h4 fun _ s5 ⟨x, H5, I5, r5, y5, st5, fr5⟩ => ?_)
    have I5' := I5.pinned (stat fr5) (T.obj _ _ st5)
    refine wpAny_passesOwn hp (thn (hg _ s5 σ3 H5 x u _ I5' r5 (step x H5 y5)) fun _ s6 ⟨σ6, H6, I6, q6⟩ => ?_)
    refine wpAny_passesOwn hp (thn (hb _ s6 σ6 H6 _ I6 q6) fun f s7 q7 => ?_)
    have again : ∀ {σ7 : St} {H7 : Hp}, Inv X (pins ++ Vr fp s5.heap) σ7 H7 s7 -> N σ7 H7 -> ∃ m, m < n /\ ∃ i σ' H', Inv X pins σ' H' s7 /\ tn i s7.heap /\ (∀ b ∈ fp, H' b = none) /\ W i m σ' H' := fun {σ7 H7} I7 n7 => by
      obtain ⟨m', hm, w7⟩ := hN σ7 H7 n7
      refine ⟨m', hm, i + 1, σ7, H7, I7.unpinned, T.keep _ _ _ st5 fun b hb o e => (I7.pin (b, o) (List.mem_append_right _ (List.mem_append_right _ (K4 hb e)))).1, fun b hb => ?_, w7⟩
      obtain ⟨o, e, d⟩ := T.obj _ _ st5 b hb
      exact (I7.pin (b, o) (List.mem_append_right _ (List.mem_append_right _ (K4 hb e)))).2.1
    cases f with
    | next => obtain ⟨σ7, H7, I7, n7⟩ := q7; exact again I7 n7
    | cont => obtain ⟨σ7, H7, I7, n7⟩ := q7; exact again I7 n7
    | brk => obtain ⟨σ7, H7, I7, q7⟩ := q7; exact ⟨σ7, H7, I7.unpinned, q7⟩
    | ret v => obtain ⟨x7, σ7, H7, I7, r7, q7⟩ := q7; exact ⟨x7, σ7, H7, I7.unpinned, r7, q7⟩
end
theorem Ad6 {c : TT} {tb : TS} {D : Ends} {σ : St} {H : Hp} (Pv : St -> Hp -> Prop) (μ : St -> Hp -> Nat) (h0 : Pv σ H)
    (hs : ∀ σ H, Pv σ H -> c σ H fun b H1 => if b = true then tb { D with nx := fun σ' H' => Pv σ' H' /\ μ σ' H' < μ σ H, ct := fun σ' H' => Pv σ' H' /\ μ σ' H' < μ σ H, bk := D.nx } σ H1 else D.nx σ H1)
    (mono : ∀ σ H Q Q', (∀ b H1, Q b H1 -> Q' b H1) -> c σ H Q -> c σ H Q') : V0 c tb D σ H := by
  refine ⟨fun m σ H => m = μ σ H /\ Pv σ H, ⟨_, rfl, h0⟩, ?_⟩
  rintro m σ H ⟨rfl, p⟩
  refine mono σ H _ _ (fun b H1 q => ?_) (hs σ H p)
  cases b with
  | true => exact ⟨_, fun σ' H' ⟨p', l⟩ => ⟨_, l, rfl, p'⟩, q⟩
  | false => exact q
end L2
namespace L2
open PySem PySem.Spec PyProof.Rows
abbrev R2 := V -> V -> Hp -> VK -> Prop
def OpR (X : Cx) (f : Value -> Value -> Sem Value) (r : R2) : Prop :=
  ∀ (pins : List (Addr × Obj)) (s : Shared) (σ : St) (H : Hp) (x y : V) (v u : Value) (Q : VK), Inv X pins σ H s -> RelV x v -> RelV y u -> r x y H Q ->
    wpAny (model X.prog X.w) X.A (f v u) (EP X pins σ Q) X.xe s
def UnR (X : Cx) (f : Value -> Sem Value) (r : V -> Hp -> VK -> Prop) : Prop :=
  ∀ (pins : List (Addr × Obj)) (s : Shared) (σ : St) (H : Hp) (x : V) (v : Value) (Q : VK), Inv X pins σ H s -> RelV x v -> r x H Q ->
    wpAny (model X.prog X.w) X.A (f v) (EP X pins σ Q) X.xe s
def Kg (X : Cx) (f : Value) (r : List V -> Hp -> VK -> Prop) : Prop :=
  ∀ (pins : List (Addr × Obj)) (s : Shared) (σ : St) (H : Hp) (xs : List V) (us : List Value) (Q : VK), Inv X pins σ H s -> Vals xs us -> r xs H Q ->
    wpAny (model X.prog X.w) X.A (call f us) (EP X pins σ Q) X.xe s
def tOp (r : R2) (ta tb : TE) : TE := fun σ H Q => ta σ H fun x H1 => tb σ H1 fun y H2 => r x y H2 Q
def tUn (r : V -> Hp -> VK -> Prop) (ta : TE) : TE := fun σ H Q => ta σ H fun x H1 => r x H1 Q
def rI (C : Int -> Int -> Prop) (g : Int -> Int -> V) : R2 := fun x y H Q => ∃ i j, x = .int i /\ y = .int j /\ C i j /\ Q (g i j) H
def rI0 (g : Int -> Int -> V) : R2 := fun x y H Q => ∃ i j, x = .int i /\ y = .int j /\ Q (g i j) H
def rU (g : Int -> V) : V -> Hp -> VK -> Prop := fun x H Q => ∃ i, x = .int i /\ Q (g i) H
section
variable {X : Cx} {a b c : Expr} {ta tb tc : TE} {pos : Pos}
theorem Ai1 (ha : PE X a ta) (hb : PE X b tb) {pins : List (Addr × Obj)} {s : Shared} {σ : St} {H : Hp} {R : V -> V -> Hp -> Prop} (I : Inv X pins σ H s)
    (h : ta σ H fun x H1 => tb σ H1 fun y H2 => R x y H2) {Q : Value -> Shared -> Prop} {f : Value -> Value -> Sem Value}
    (hf : ∀ v u s2 x y H2, Inv X pins σ H2 s2 -> RelV x v -> RelV y u -> R x y H2 -> wpAny (model X.prog X.w) X.A (f v u) Q X.xe s2) :
    wpAny (model X.prog X.w) X.A (eval a X.env) (fun v s₁ => wpAny (model X.prog X.w) X.A (eval b X.env) (fun u s₂ => wpAny (model X.prog X.w) X.A (f v u) Q X.xe s₂) X.xe s₁) X.xe s := by
  refine thn (ha pins s σ H _ I h) fun v s1 ⟨x, H1, I1, r1, q1⟩ => ?_
  refine thn (hb pins s1 σ H1 _ I1 q1) fun u s2 ⟨y, H2, I2, r2, q2⟩ => ?_
  exact hf v u s2 x y H2 I2 r1 r2 q2
theorem Ak {op : Operator} {r : R2} (ho : OpR X (binaryOp op) r) (ha : PE X a ta) (hb : PE X b tb) : PE X (.BinOp a op b pos) (tOp r ta tb) := by
  intro pins s σ H Q I h
  exact wpAny_BinOp (Ai1 ha hb I h fun v u s2 x y H2 I2 rx ry q => ho pins s2 σ H2 x y v u Q I2 rx ry q)
theorem Eb {op : UnaryOp} {r : V -> Hp -> VK -> Prop} (ho : UnR X (unaryOp op) r) (ha : PE X a ta) : PE X (.UnaryOp op a pos) (tUn r ta) := by
  intro pins s σ H Q I h
  exact UnaryOp_ (thn (ha pins s σ H _ I h) fun v s1 ⟨x, H1, I1, r1, q1⟩ => ho pins s1 σ H1 x v Q I1 r1 q1)
theorem opI {f : Value -> Value -> Sem Value} {C : Int -> Int -> Prop} {g : Int -> Int -> Int}
    (rule : ∀ (i j : Int) (t u : Tok) (s : Shared) (Q : Value -> Shared -> Prop) (E : Value -> Shared -> Prop), C i j -> Q (.int (g i j) s.toks) { s with toks := s.toks + 1 } -> wpAny (model X.prog X.w) X.A (f (.int i t) (.int j u)) Q E s) :
    OpR X f (rI C fun i j => .int (g i j)) := by
  intro pins s σ H x y v u Q I rx ry h
  obtain ⟨i, j, rfl, rfl, hc, q⟩ := h
  obtain ⟨t, rfl⟩ := rx
  obtain ⟨t', rfl⟩ := ry
  exact rule i j t t' s _ _ hc ⟨.int (g i j), H, I.tok _, ⟨_, rfl⟩, q⟩
theorem Ake {f : Value -> Value -> Sem Value} {g : Int -> Int -> Int}
    (rule : ∀ (i j : Int) (t u : Tok) (s : Shared) (Q : Value -> Shared -> Prop) (E : Value -> Shared -> Prop), Q (.int (g i j) s.toks) { s with toks := s.toks + 1 } -> wpAny (model X.prog X.w) X.A (f (.int i t) (.int j u)) Q E s) :
    OpR X f (rI0 fun i j => .int (g i j)) := by
  intro pins s σ H x y v u Q I rx ry h
  obtain ⟨i, j, rfl, rfl, q⟩ := h
  obtain ⟨t, rfl⟩ := rx
  obtain ⟨t', rfl⟩ := ry
  exact rule i j t t' s _ _ ⟨.int (g i j), H, I.tok _, ⟨_, rfl⟩, q⟩
theorem Aka {f : Value -> Value -> Sem Value} {g : Int -> Int -> Bool}
    (rule : ∀ (i j : Int) (t u : Tok) (s : Shared) (Q : Value -> Shared -> Prop) (E : Value -> Shared -> Prop), Q (.bool (g i j)) s -> wpAny (model X.prog X.w) X.A (f (.int i t) (.int j u)) Q E s) :
    OpR X f (rI0 fun i j => .bl (g i j)) := by
  intro pins s σ H x y v u Q I rx ry h
  obtain ⟨i, j, rfl, rfl, q⟩ := h
  obtain ⟨t, rfl⟩ := rx
  obtain ⟨t', rfl⟩ := ry
  exact rule i j t t' s _ _ ⟨.bl (g i j), H, I, rfl, q⟩
def Aj3 (i j : Int) : Prop := (-(2 ^ 64) < i /\ i < 2 ^ 64) \/ (-(2 ^ 64) < j /\ j < 2 ^ 64)
theorem Aj3.ok {i j : Int} (h : Aj3 i j) : IntMulOk i j := by
  rcases h with ⟨h1, h2⟩ | ⟨h1, h2⟩
  . exact .of_left (intBits_le_64 h1 h2)
  . exact .of_right (intBits_le_64 h1 h2)
theorem Cz : OpR X (binaryOp .Add) (rI0 fun i j => .int (i + j)) := Ake fun _ _ _ _ _ _ _ q => add_int q
theorem Et : OpR X (binaryOp .Sub) (rI0 fun i j => .int (i - j)) := Ake fun _ _ _ _ _ _ _ q => sub_int q
theorem Ci : OpR X (binaryOp .Mod) (rI (fun _ j => 0 < j) fun i j => .int (i % j)) := opI fun i j _ _ _ _ _ hc q => by
  have h1 : (0 : Int) < j := hc
  exact mod_int' (by omega) (by rw [Int.fmod_eq_emod_of_nonneg i (by omega)]; exact q)
theorem unI {f : Value -> Sem Value} {g : Int -> Int}
    (rule : ∀ (i : Int) (t : Tok) (s : Shared) (Q : Value -> Shared -> Prop) (E : Value -> Shared -> Prop), Q (.int (g i) s.toks) { s with toks := s.toks + 1 } -> wpAny (model X.prog X.w) X.A (f (.int i t)) Q E s) :
    UnR X f (rU fun i => .int (g i)) := by
  intro pins s σ H x v Q I rx h
  obtain ⟨i, rfl, q⟩ := h
  obtain ⟨t, rfl⟩ := rx
  exact rule i t s _ _ ⟨.int (g i), H, I.tok _, ⟨_, rfl⟩, q⟩
theorem Cd : UnR X (unaryOp .USub) (rU fun i => .int (-i)) := unI fun _ _ _ _ _ q => neg_int q
end
def Ag8 : V -> V -> Bool
  | .non, .non => true | .non, .int _ => true | .int _, .non => true | .non, .bl _ => true | .bl _, .non => true | .non, .str _ => true | .str _, .non => true
  | .int _, .int _ => true | .bl _, .bl _ => true | .str _, .str _ => true | .byt _, .byt _ => true
  | .int _, .str _ => true | .str _, .int _ => true | .bl _, .str _ => true | .str _, .bl _ => true
  | _, _ => false
def rEq : R2 := fun x y H Q => Ag8 x y = true /\ Q (.bl (decide (x = y))) H
def rNe : R2 := fun x y H Q => Ag8 x y = true /\ Q (.bl (!decide (x = y))) H
theorem Ab4 {i j : Int} : decide (V.int i = V.int j) = (i == j) := by
  rw [Bool.eq_iff_iff]
  simp
theorem Aes {i j : Bool} : decide (V.bl i = V.bl j) = (i == j) := by
  rw [Bool.eq_iff_iff]
  simp
theorem Abm {i j : Str} : decide (V.str i = V.str j) = (i == j) := by
  rw [Bool.eq_iff_iff]
  simp
theorem Aam {i j : Array UInt8} : decide (V.byt i = V.byt j) = (i.toList == j.toList) := by
  rw [Bool.eq_iff_iff]
  cases i
  cases j
  simp
section
variable {X : Cx} {a b c : Expr} {ta tb tc : TE} {pos : Pos}
theorem Cw {pins : List (Addr × Obj)} {σ : St} {H : Hp} {s : Shared} {Q : VK} {k k' : Bool} (I : Inv X pins σ H s) (q : Q (.bl k) H) (e : k = k') : EP X pins σ Q (.bool k') s := by
  subst e
  exact ⟨.bl k, H, I, rfl, q⟩
theorem Jd : OpR X (compareOp .Eq) rEq := by
  intro pins s σ H x y v u Q I rx ry h
  obtain ⟨hs, q⟩ := h
  cases x with
  | non =>
    cases rx
    cases y with
    | non => cases ry; exact PySem.EqNone.eq_none_none (Cw I q (by simp))
    | bl j => cases ry; exact PySem.EqNone.eq_none_bool (Cw I q (by simp))
    | int j => obtain ⟨t', rfl⟩ := ry; exact PySem.EqNone.eq_none_int (Cw I q (by simp))
    | str j => obtain ⟨t', rfl⟩ := ry; exact PySem.EqNone.eq_none_str (Cw I q (by simp))
    | _ => exact absurd (show false = true from hs) Bool.false_ne_true
  | bl i =>
    cases rx
    cases y with
    | non => cases ry; exact PySem.EqNone.eq_bool_none (Cw I q (by simp))
    | bl j => cases ry; exact eq_bool (Cw I q Aes)
    | str j => obtain ⟨t', rfl⟩ := ry; exact PySem.EqMixed.eq_bool_str (Cw I q (by simp))
    | _ => exact absurd (show false = true from hs) Bool.false_ne_true
  | int i =>
    obtain ⟨t, rfl⟩ := rx
    cases y with
    | non => cases ry; exact PySem.EqNone.eq_int_none (Cw I q (by simp))
    | int j => obtain ⟨t', rfl⟩ := ry; exact eq_int (Cw I q Ab4)
    | str j => obtain ⟨t', rfl⟩ := ry; exact PySem.EqMixed.eq_int_str (Cw I q (by simp))
    | _ => exact absurd (show false = true from hs) Bool.false_ne_true
  | str i =>
    obtain ⟨t, rfl⟩ := rx
    cases y with
    | non => cases ry; exact PySem.EqNone.eq_str_none (Cw I q (by simp))
    | bl j => cases ry; exact PySem.EqMixed.eq_str_bool (Cw I q (by simp))
    | int j => obtain ⟨t', rfl⟩ := ry; exact PySem.EqMixed.eq_str_int (Cw I q (by simp))
    | str j => obtain ⟨t', rfl⟩ := ry; exact eq_str (Cw I q Abm)
    | _ => exact absurd (show false = true from hs) Bool.false_ne_true
  | byt i =>
    obtain ⟨t, rfl⟩ := rx
    cases y with
    | byt j => obtain ⟨t', rfl⟩ := ry; exact PySem.W.eq_bytes (Cw I q Aam)
    | _ => exact absurd (show false = true from hs) Bool.false_ne_true
  | _ => cases y <;> exact absurd (show false = true from hs) Bool.false_ne_true
theorem Oe : OpR X (compareOp .NotEq) rNe := by
  intro pins s σ H x y v u Q I rx ry h
  obtain ⟨hs, q⟩ := h
  cases x with
  | non =>
    cases rx
    cases y with
    | non => cases ry; exact PySem.EqNone.ne_none_none (Cw I q (by simp))
    | bl j => cases ry; exact PySem.EqNone.ne_none_bool (Cw I q (by simp))
    | int j => obtain ⟨t', rfl⟩ := ry; exact PySem.EqNone.ne_none_int (Cw I q (by simp))
    | str j => obtain ⟨t', rfl⟩ := ry; exact PySem.EqNone.ne_none_str (Cw I q (by simp))
    | _ => exact absurd (show false = true from hs) Bool.false_ne_true
  | bl i =>
    cases rx
    cases y with
    | non => cases ry; exact PySem.EqNone.ne_bool_none (Cw I q (by simp))
    | bl j => cases ry; exact ne_bool (Cw I q (congrArg not Aes))
    | str j => obtain ⟨t', rfl⟩ := ry; exact PySem.EqMixed.ne_bool_str (Cw I q (by simp))
    | _ => exact absurd (show false = true from hs) Bool.false_ne_true
  | int i =>
    obtain ⟨t, rfl⟩ := rx
    cases y with
    | non => cases ry; exact PySem.EqNone.ne_int_none (Cw I q (by simp))
    | int j => obtain ⟨t', rfl⟩ := ry; exact ne_int (Cw I q (congrArg not Ab4))
    | str j => obtain ⟨t', rfl⟩ := ry; exact PySem.EqMixed.ne_int_str (Cw I q (by simp))
    | _ => exact absurd (show false = true from hs) Bool.false_ne_true
  | str i =>
    obtain ⟨t, rfl⟩ := rx
    cases y with
    | non => cases ry; exact PySem.EqNone.ne_str_none (Cw I q (by simp))
    | bl j => cases ry; exact PySem.EqMixed.ne_str_bool (Cw I q (by simp))
    | int j => obtain ⟨t', rfl⟩ := ry; exact PySem.EqMixed.ne_str_int (Cw I q (by simp))
    | str j => obtain ⟨t', rfl⟩ := ry; exact ne_str (Cw I q (congrArg not Abm))
    | _ => exact absurd (show false = true from hs) Bool.false_ne_true
  | byt i =>
    obtain ⟨t, rfl⟩ := rx
    cases y with
    | byt j => obtain ⟨t', rfl⟩ := ry; exact PySem.W.ne_bytes (Cw I q (congrArg not Aam))
    | _ => exact absurd (show false = true from hs) Bool.false_ne_true
  | _ => cases y <;> exact absurd (show false = true from hs) Bool.false_ne_true
theorem S6 : OpR X (compareOp .Lt) (rI0 fun i j => .bl (decide (i < j))) := Aka fun _ _ _ _ _ _ _ q => lt_int q
theorem Ux : OpR X (compareOp .Gt) (rI0 fun i j => .bl (decide (j < i))) := Aka fun _ _ _ _ _ _ _ q => gt_int q
theorem Ae6 : OpR X (compareOp .Is) (fun x y H Q => y = .non /\ Q (.bl (decide (x = .non))) H) := by
  intro pins s σ H x y v u Q I rx ry h
  obtain ⟨rfl, q⟩ := h
  cases ry
  refine is_none_gen (Cw I q ?_)
  cases x <;> first
    | (cases rx; rfl)
    | (obtain ⟨t, rfl⟩ := rx; rfl)
theorem OpR.or {f : Value -> Value -> Sem Value} {r r' : R2} (h : OpR X f r) (h' : OpR X f r') : OpR X f (fun x y H Q => r x y H Q \/ r' x y H Q) := by
  intro pins s σ H x y v u Q I rx ry q
  rcases q with q | q
  . exact h pins s σ H x y v u Q I rx ry q
  . exact h' pins s σ H x y v u Q I rx ry q
theorem Ao (b : Expr) {op : CmpOp} (h : op ≠ .In := by decide) (h2 : op ≠ .NotIn := by decide) : behindInMarks op b = false := by
  have e1 : (op == CmpOp.In) = false := by cases op <;> first | rfl | exact absurd rfl h
  have e2 : (op == CmpOp.NotIn) = false := by cases op <;> first | rfl | exact absurd rfl h2
  cases b <;> simp [behindInMarks, e1, e2]
theorem Il {op : CmpOp} {r : R2} (ho : OpR X (compareOp op) r) (ha : PE X a ta) (hb : PE X b tb) (hm : behindInMarks op b = false) : PE X (.Compare a [op] [b] pos) (tOp r ta tb) := by
  intro pins s σ H Q I h
  exact wpAny_Compare1 (Ai1 ha hb I h fun v u s2 x y H2 I2 rx ry q => ho pins s2 σ H2 x y v u Q I2 rx ry q) hm
def Afg (t : TE) : TT := fun σ H Q => t σ H fun x H' => ∃ k, x = .bl k /\ Q k H'
theorem Ah {op : CmpOp} {r : R2} (ho : OpR X (compareOp op) r) (ha : PE X a ta) (hb : PE X b tb) (hm : behindInMarks op b = false) : PT X (.Compare a [op] [b] pos) (Afg (tOp r ta tb)) := by
  intro pins s σ H Q I h
  refine wpAny_isTrue_Compare1 (thn (ha pins s σ H _ I h) fun v s1 ⟨x, H1, I1, r1, q1⟩ => thn (hb pins s1 σ H1 _ I1 q1) fun u s2 ⟨y, H2, I2, r2, q2⟩ =>
    thn (ho pins s2 σ H2 x y v u _ I2 r1 r2 q2) fun c s3 ⟨z, H3, I3, r3, k, e, q3⟩ => ?_) hm
  subst e
  cases r3
  exact wpAny_truthy_bool ⟨H3, I3, q3⟩
def Aia (r r' : R2) (ta tb tc : TE) : TE := fun σ H Q => ta σ H fun x H1 => tb σ H1 fun y H2 => r x y H2 fun z H3 => ∃ k, z = .bl k /\
  (if k = true then tc σ H3 fun w' H4 => r' y w' H4 Q else Q (.bl false) H3)
theorem Ym : (sizeLine : Nat) < 2 ^ 63 := by rw [sizeLine_eq]; decide
theorem vals1 {x : V} {us : List Value} (r : Vals [x] us) : ∃ u, us = [u] /\ RelV x u := by
  cases r with
  | cons r1 r2 => cases r2; exact ⟨_, rfl, r1⟩
theorem vals2 {x y : V} {us : List Value} (r : Vals [x, y] us) : ∃ u w', us = [u, w'] /\ RelV x u /\ RelV y w' := by
  cases r with
  | cons r1 r2 =>
    cases r2 with
    | cons r3 r4 => cases r4; exact ⟨_, _, rfl, r1, r3⟩
theorem Qa : Kg X (.builtin "abs") (fun xs H Q => ∃ i, xs = [.int i] /\ Q (.int (if i < 0 then -i else i)) H) := by
  intro pins s σ H xs us Q I r h
  obtain ⟨i, rfl, q⟩ := h
  obtain ⟨u, rfl, t, rfl⟩ := vals1 r
  exact call_abs_int fun u tk => ⟨.int (if i < 0 then -i else i), H, I.tok _, ⟨_, rfl⟩, q⟩
theorem Vn (hc : X.calm = true) : Kg X (.builtin "max") (fun xs H Q => ∃ i j, xs = [.int i, .int j] /\ Q (.int (if j > i then j else i)) H) := by
  intro pins s σ H xs us Q I r h
  obtain ⟨i, j, rfl, q⟩ := h
  obtain ⟨u, w', rfl, ⟨t, rfl⟩, ⟨t', rfl⟩⟩ := vals2 r
  refine max_two_ints (I.ok.hd hc) fun h' tk k => ⟨_, H, I.kept k, ?_, q⟩
  by_cases hj : j > i
  . rw [if_pos hj, if_pos hj]; exact ⟨_, rfl⟩
  . rw [if_neg hj, if_neg hj]; exact ⟨_, rfl⟩
end
end L2
namespace L2
open PySem PySem.Spec PyProof.Rows
structure Ajv (h : Heap) (x dx C : Addr) (mA : Str -> Option Value) : Prop where
  obj : h.get? x = some (PySem.W.instObj C dx)
  ns : h.Ns1 dx mA
  ne : dx ≠ x
theorem Abi {h : Heap} {dx : Addr} {mA : Str -> Option Value} (n : h.Ns1 dx mA) : ∃ od, h.get? dx = some od /\ ∀ name, PySem.W.lookIn name od = some (mA name) := by
  obtain ⟨o, es, ep, ho, hd, hk, _, hm⟩ := n
  refine ⟨o, ho, fun name => ?_⟩
  have e := hm name
  unfold nsFind findBy at e
  rw [<- Array.find?_toList] at e
  unfold PySem.W.lookIn
  rw [hd]
  dsimp only
  split
  . rename_i y q
    rw [q] at e
    exact congrArg some e
  . rename_i q
    rw [q] at e
    have a : es.toList.any (·.refKey) = false := by
      rw [List.any_eq_false]
      intro y hy
      obtain ⟨z, t, hkey⟩ := hk y (Array.mem_toList_iff.mp hy)
      simp [DictEntry.refKey, hkey]
    have a' : ¬ es.toList.any (·.refKey) = true := by rw [a]; exact Bool.false_ne_true
    rw [if_neg a']
    exact congrArg some e
theorem Ajv.look {h : Heap} {x dx C : Addr} {mA : Str -> Option Value} (I : Ajv h x dx C mA) : ∃ od, PySem.W.InstAt h x (PySem.W.instObj C dx) C (some od) /\ ∀ name, PySem.W.lookIn name od = some (mA name) :=
  let ⟨od, ho, hl⟩ := Abi I.ns
  ⟨od, ⟨I.obj, rfl, rfl, ho⟩, hl⟩
section
variable {P : Program} {w : World} {H H' : Hp} {h h' : Heap} {a C dx : Addr} {fs fs' : List (Str × V)}
theorem Af9 (hok : HOk P w H h) (e : H a = some (.ins C dx fs)) : ∃ mA, Ajv h a dx C mA /\ (∀ f, Ajc (fs.lookup f) (mA f)) /\ PySem.Within mA (fs.map (·.1)) /\ fs.length <= 1000 /\ H dx = some (.own a) := by
  obtain ⟨d, z, ne, ob, mA, n, r, q⟩ := (show Jh P w H h a (.ins C dx fs) from hok a _ e)
  exact ⟨mA, ⟨ob, n, ne⟩, r, q, z, d⟩
end
structure Cls (K : PySem.W.Frag) (C : Addr) : Prop where
  pg : PySem.W.plainGet K C Str.empty = true
  hd : PySem.W.hasDictIn K C = true
  po : PySem.W.plainOver K C = true
  sa : PySem.W.findIn K (.ref C) "__setattr__" = some (some (.builtin "object.__setattr__"))
theorem Cls.get {K : PySem.W.Frag} {C : Addr} (c : Cls K C) (f : Str) : PySem.W.plainGet K C f = true := c.pg
structure Con (K : PySem.W.Frag) (C : Addr) (f : Str) (v : V) (u : Value) : Prop where
  at_ : PySem.W.findIn K (.ref C) f = some (some u)
  rel : RelV v u
  get : PySem.W.specialIn K u "__get__" = some none
  cp : PySem.W.copiedNames.contains f = false
structure Meth (K : PySem.W.Frag) (C : Addr) (m : Str) (f : Addr) : Prop where
  at_ : PySem.W.findIn K (.ref C) m = some (some (.ref f))
  fn : PySem.W.isFn K (.ref f) = true
  kp : PySem.W.keepIn K (.ref f) = true
section
variable {X : Cx} {pins : List (Addr × Obj)} {σ : St} {H : Hp} {s : Shared} {A : Around} {E : Value -> Shared -> Prop} {Q : Value -> Shared -> Prop} {c : Value} {b : Bool}
inductive V7 (K : PySem.W.Frag) (H : Hp) : V -> Value -> Prop where
  | non : V7 K H .non (.type "NoneType")
  | bl (x : Bool) : V7 K H (.bl x) (.type "bool")
  | int (i : Int) : V7 K H (.int i) (.type "int")
  | str (x : Str) : V7 K H (.str x) (.type "str")
  | flt (x : UInt64) : V7 K H (.flt x) (.type "float")
  | lst {a : Addr} {xs : List V} (e : H a = some (.lst xs)) : V7 K H (.ref a) (.type "list")
  | frz {a : Addr} {o : Obj} {xs : List V} (e : H a = some (.frz o (.lst xs))) : V7 K H (.ref a) (.type "list")
  | tup {a : Addr} {xs : List V} (e : H a = some (.tup xs)) : V7 K H (.ref a) (.type "tuple")
  | dK {a : Addr} {kvs : List (Key × V)} (e : H a = some (.dK kvs)) : V7 K H (.ref a) (.type "dict")
  | dT {a : Addr} {kvs : List (List Key × V)} (e : H a = some (.dT kvs)) : V7 K H (.ref a) (.type "dict")
  | ins {a C dx : Addr} {fs : List (Str × V)} (e : H a = some (.ins C dx fs)) (cl : Cls K C) (ha : PySem.W.findIn K (.ref C) "__class__" = some (some (.builtin "object.__class__")))
      (hn : PySem.W.specialIn K (.builtin "object.__class__") "__get__" = some (some (.builtin "getset_descriptor.__get__"))) (htk : PySem.W.takesIn K (.builtin "object.__class__") = some true)
      (hm : PySem.W.mroIn K C (.type "object") = some true) : V7 K H (.ref a) (.ref C)
theorem Abo {x : V} {u t : Value} (I : Inv X pins σ H s) (rx : RelV x u) (ty : V7 X.K H x t) (e : PySem.W.kitOne X.K t c = some b) (h : ∀ tk, Q (.bool b) { s with toks := tk }) :
    wpAny (model X.prog X.w) A (call (.builtin "isinstance") [u, c]) Q E s := by
  cases ty with
  | non => cases (show u = Value.none from rx); exact PySem.W.kia_one PySem.W.kitx_none I.kIn True.intro e (fun z => nomatch z) h
  | bl y => cases (show u = Value.bool y from rx); exact PySem.W.kia_one PySem.W.kitx_bool I.kIn True.intro e (fun z => nomatch z) h
  | int i => obtain ⟨t, q⟩ := (show ∃ t, u = Value.int i t from rx); cases q; exact PySem.W.kia_one PySem.W.kitx_int I.kIn True.intro e (fun z => nomatch z) h
  | str y => obtain ⟨t, q⟩ := (show ∃ t, u = Value.str y t from rx); cases q; exact PySem.W.kia_one PySem.W.kitx_str I.kIn True.intro e (fun z => nomatch z) h
  | flt y => obtain ⟨t, q⟩ := (show ∃ t, u = Value.float y t from rx); cases q; exact PySem.W.kia_one PySem.W.kitx_float I.kIn True.intro e (fun z => nomatch z) h
  | @lst a xs ea =>
    cases (show u = Value.ref a from rx)
    obtain ⟨_, _, n, _, h1⟩ := (show Jh X.prog X.w H s.heap a (.lst xs) from I.hok a _ ea)
    exact PySem.W.kia_one PySem.W.kitx_list I.kIn ⟨_, h1, rfl⟩ e (fun z => nomatch z) h
  | @frz a ob xs ea =>
    cases (show u = Value.ref a from rx)
    obtain ⟨_, _, _, n, _, h1⟩ := (show Jh X.prog X.w H s.heap a (.frz ob (.lst xs)) from I.hok a _ ea)
    exact PySem.W.kia_one PySem.W.kitx_list I.kIn ⟨_, h1, rfl⟩ e (fun z => nomatch z) h
  | @tup a xs ea =>
    cases (show u = Value.ref a from rx)
    obtain ⟨_, _, _, p⟩ := (show Jh X.prog X.w H s.heap a (.tup xs) from I.hok a _ ea)
    obtain ⟨o, h1, h2, _⟩ := p
    exact PySem.W.kia_one PySem.W.kitx_tuple I.kIn ⟨o, h1, h2⟩ e (fun z => nomatch z) h
  | @dK a kvs ea =>
    cases (show u = Value.ref a from rx)
    obtain ⟨_, _, vs, _, p⟩ := (show Jh X.prog X.w H s.heap a (.dK kvs) from I.hok a _ ea)
    obtain ⟨o, es, ep, h1, h2, _⟩ := p
    exact PySem.W.kia_one PySem.W.kitx_dict I.kIn ⟨o, h1, h2.1⟩ e (fun z => nomatch z) h
  | @dT a kvs ea =>
    cases (show u = Value.ref a from rx)
    obtain ⟨_, _, xs, _, o, es, ep, h1, h2, _⟩ := (show Jh X.prog X.w H s.heap a (.dT kvs) from I.hok a _ ea)
    exact PySem.W.kia_one PySem.W.kitx_dict I.kIn ⟨o, h1, h2.1⟩ e (fun z => nomatch z) h
  | @ins a C dx fs ea cl ha hn htk hm =>
    cases (show u = Value.ref a from rx)
    obtain ⟨mA, O, _⟩ := Af9 I.hok ea
    obtain ⟨od, J, _⟩ := O.look
    exact PySem.W.kia_one (PySem.W.kitx_own (cl.get _) cl.hd ha hn htk hm) I.kIn J e (fun z => nomatch z) h
end
end L2
namespace L2
open PySem PySem.Spec PyProof.Rows
structure M9 (k : Nat) (A : Around) : Prop where
  hd : A.handled = none
  dp : A.depth + 3 * k + 5 < recursionLimit
  un : A.units + 16 * k + 200 < cLine
theorem M9.mono {j k : Nat} {A : Around} (r : M9 k A) (h : j <= k) : M9 j A := ⟨r.hd, by have := r.dp; omega, by have := r.un; omega⟩
theorem M9.deeper {k : Nat} {A : Around} (r : M9 (k + 1) A) (env : Env) : M9 k (A.deeper env) :=
  ⟨r.hd, by have := r.dp; show A.depth + 1 + 3 * k + 5 < _; omega, by have := r.un; show A.units + 3 + 16 * k + 200 < _; omega⟩
theorem M9.in1 {k : Nat} {A : Around} (r : M9 (k + 1) A) : M9 k A.in1 :=
  ⟨r.hd, by have := r.dp; show A.depth + 3 * k + 5 < _; omega, by have := r.un; show A.units + 1 + 16 * k + 200 < _; omega⟩
theorem Zt {A : Around} {C : Addr} {us : List Value} {kw : List (Str × Value)} : (A.under (.builtin "type.__call__" ⟨.ref C :: us, kw⟩)).depth = A.depth + 1 := by
  first | rfl | simp [Around.under, Code.weight, Code.isCreation, Code.isGuard, Code.isCaller, Code.frames, Code.isFrame, guardIds]
theorem Zd {A : Around} {C : Addr} {us : List Value} {kw : List (Str × Value)} : (A.under (.builtin "type.__call__" ⟨.ref C :: us, kw⟩)).units = A.units + 1 := by
  first | rfl | simp [Around.under, Code.cUnits, Code.frames, Code.isFrame]
theorem M9.make {k : Nat} {A : Around} (r : M9 (k + 1) A) (C : Addr) (us : List Value) (kw : List (Str × Value)) : M9 k (A.under (.builtin "type.__call__" ⟨.ref C :: us, kw⟩)) :=
  ⟨r.hd, by have := r.dp; rw [Zt]; omega, by have := r.un; rw [Zd]; omega⟩
theorem M9.depth {k : Nat} {A : Around} (r : M9 k A) : A.depth < recursionLimit := by have := r.dp; omega
theorem M9.units {k : Nat} {A : Around} (r : M9 k A) : A.units + 64 < cLine := by have := r.un; omega
def Ajs : TA := fun _ H Q => Q [] H
def Ac1 (ta : TE) (tr : TA) : TA := fun σ H Q => ta σ H fun x H1 => tr σ H1 fun xs H2 => Q (x :: xs) H2
section
variable {X : Cx} {e : Expr} {es : List Expr} {te : TE} {t : TA} {pos : Pos}
theorem Ab : PA X [] Ajs := fun _ _ _ _ H Q I h => Calls.spliced_nil ⟨[], H, I, .nil, h⟩
theorem Afx (ha : PE X e te) (hr : PA X es t) (hs : starEach (e :: es) X.env = (false, eval e X.env) :: starEach es X.env := by rfl) : PA X (e :: es) (Ac1 te t) := by
  intro pos pins s σ H Q I h
  rw [hs]
  show wpAny _ _ (spliced ((false, eval e X.env) :: backTo pos (starEach es X.env))) _ _ s
  refine Calls.spliced_cons (thn (ha pins s σ H _ I h) fun u s1 ⟨x, H1, I1, r1, q1⟩ => ?_)
  exact thn (hr pos pins s1 σ H1 _ I1 q1) fun us s2 ⟨xs, H2, I2, r2, q2⟩ => ⟨x :: xs, H2, I2, .cons r1 r2, q2⟩
def Ajr (t : TA) : TE := fun σ H Q => t σ H fun xs H1 => xs.length <= sizeLine /\ ∀ p, H1 p = none -> Q (.ref p) (upd H1 p (.tup xs))
def Aiz (t : TA) : TE := fun σ H Q => t σ H fun xs H1 => xs.length <= sizeLine /\ ∀ p, H1 p = none -> Q (.ref p) (upd H1 p (.lst xs))
theorem Az {x1} (h : PA X es t) : PE X (.Tuple es x1 pos) (Ajr t) := by
  intro pins s σ H Q I hq
  refine wpAny_Tuple_spliced (thn (h pos pins s σ H _ I hq) fun us s1 ⟨xs, H1, I1, r, z, q⟩ => ⟨by rw [<- r.length]; exact z, ?_⟩)
  have hf : H1 s1.heap.objs.size = none := I1.hok.fresh (Nat.le_refl _)
  refine ⟨.ref s1.heap.objs.size, upd H1 s1.heap.objs.size (.tup xs), I1.laid (t' := s1.toks) (fun b u e => Heap.get?_push_of_some _ e) (Nat.le_refl _) ?_, rfl, q _ hf⟩
  exact ⟨z, us, r, ⟨_, Heap.get?_push_size _ rfl, rfl, _, rfl⟩⟩
theorem G7 (h : PA X es t) : PE X (.List es pos) (Aiz t) := by
  intro pins s σ H Q I hq
  refine wpAny_List_spliced (thn (h pos pins s σ H _ I hq) fun us s1 ⟨xs, H1, I1, r, z, q⟩ => ⟨by rw [<- r.length]; exact z, ?_⟩)
  have hf : H1 s1.heap.objs.size = none := I1.hok.fresh (Nat.le_refl _)
  refine ⟨.ref s1.heap.objs.size, upd H1 s1.heap.objs.size (.lst xs), I1.laid (t' := s1.toks) (fun b u e => Heap.get?_push_of_some _ e) (Nat.le_refl _) ?_, rfl, q _ hf⟩
  exact ⟨z, us, 0, r, Heap.get?_push_size _ rfl⟩
end
abbrev Sp := List V -> Hp -> VK -> XK -> Prop
abbrev CXT := List Env -> Hp -> Shared -> XK -> Value -> Shared -> Prop
structure Acw (P : Program) (w : World) (K : PySem.W.Frag) (mg : Str -> Option Value) (base : Heap) (A : Around) (outer : List Env) (s : Shared) (H : Hp) : Prop where
  frames : A.frames = some outer
  mod : Mod K mg base
  bs : ∀ b o, base.get? b = some o -> s.heap.get? b = some o /\ H b = none
  bsz : base.objs.size <= s.heap.objs.size
  funs : s.heap.FunFrames base outer
  frf : ∀ b ∈ frs outer, H b = none
  hok : HOk P w H s.heap
  bare : AllBare s.gens
def CE (outer : List Env) (P : Program) (w : World) (H : Hp) (s : Shared) (Q : VK) (u : Value) (s' : Shared) : Prop :=
  ∃ v H', s'.os = s.os /\ AllBare s'.gens /\ Un (frs outer) [] H H' s.heap s'.heap /\ HOk P w H' s'.heap /\ RelV v u /\ Q v H'
def CR (CX : CXT) (outer : List Env) (P : Program) (w : World) (H : Hp) (s : Shared) (Q : VK) (E : XK) (r : Result) (s' : Shared) : Prop :=
  match r with
  | .ok (.ret u) => CE outer P w H s Q u s'
  | .ok _ => False
  | .error e => CX outer H s E e s'
structure Qi (P : Program) (w : World) (K : PySem.W.Frag) (mg : Str -> Option Value) (base : Heap) (CX : CXT) (k : Nat) (f : Addr) (fd : FuncData) (ps : List Str) (sp : Sp) : Prop where
  len : ∀ vs H Q E, sp vs H Q E -> vs.length = ps.length
  run : ∀ (A : Around) (outer : List Env) (s : Shared) (H : Hp) (args : Args) (us : List Value) (vs : List V) (Q : VK) (E : XK), M9 k A -> Acw P w K mg base A outer s H -> BindsTo s fd args (ps.zip us) -> Vals vs us -> sp vs H Q E ->
    codeAny (model P w) A (.call (.ref f) args) (CR CX outer P w H s Q E) s
theorem Qi.mono {P : Program} {w : World} {K : PySem.W.Frag} {mg : Str -> Option Value} {base : Heap} {CX : CXT} {j k : Nat} {f : Addr} {fd : FuncData} {ps : List Str} {sp : Sp} (F : Qi P w K mg base CX j f fd ps sp) (h : j <= k) :
    Qi P w K mg base CX k f fd ps sp := ⟨F.len, fun A outer s H args us vs Q E hr => F.run A outer s H args us vs Q E (hr.mono h)⟩
theorem Qi.imp {P : Program} {w : World} {K : PySem.W.Frag} {mg : Str -> Option Value} {base : Heap} {CX : CXT} {k : Nat} {f : Addr} {fd : FuncData} {ps : List Str} {sp sp' : Sp} (F : Qi P w K mg base CX k f fd ps sp)
    (h : ∀ vs H Q E, sp' vs H Q E -> sp vs H Q E) : Qi P w K mg base CX k f fd ps sp' :=
  ⟨fun vs H Q E q => F.len vs H Q E (h _ _ _ _ q), fun A outer s H args us vs Q E hr he hb hv hs => F.run A outer s H args us vs Q E hr he hb hv (h _ _ _ _ hs)⟩
theorem Acw.make {P : Program} {w : World} {K : PySem.W.Frag} {mg : Str -> Option Value} {base : Heap} {A : Around} {outer : List Env} {s : Shared} {H : Hp} (e : Acw P w K mg base A outer s H) (C : Addr) (us : List Value) (kw : List (Str × Value)) :
    Acw P w K mg base (A.under (.builtin "type.__call__" ⟨.ref C :: us, kw⟩)) outer s H := ⟨by first | exact e.frames | (simpa [Around.under, Code.envs, Code.isFrame, pushEnvs] using e.frames), e.mod, e.bs, e.bsz, e.funs, e.frf, e.hok, e.bare⟩
theorem Acw.in1 {P : Program} {w : World} {K : PySem.W.Frag} {mg : Str -> Option Value} {base : Heap} {A : Around} {outer : List Env} {s : Shared} {H : Hp} (e : Acw P w K mg base A outer s H) :
    Acw P w K mg base A.in1 outer s H := ⟨e.frames, e.mod, e.bs, e.bsz, e.funs, e.frf, e.hok, e.bare⟩
section
variable {X : Cx} {pins : List (Addr × Obj)} {σ : St} {H : Hp} {s s' : Shared}
theorem Inv.env0 (I : Inv X pins σ H s) : Acw X.prog X.w X.K X.mg X.base X.A X.stack s H :=
  ⟨I.ok.frames, I.ok.mod, I.bs, Nat.le_trans I.ok.bsz I.sz, I.stack, I.stkFree, I.hok, I.bare⟩
theorem Inv.after {Q : VK} {u : Value} (I : Inv X pins σ H s) (h : CE X.stack X.prog X.w H s Q u s') : EP X pins σ Q u s' := by
  obtain ⟨v, H', os, bare, un, hok, r, q⟩ := h
  obtain ⟨hh, g, d, t, os'⟩ := s'
  obtain rfl : os' = s.os := os
  exact ⟨v, H', I.call (h' := hh) (g' := g) (d' := d) (t' := t) (ch := []) un hok bare (fun b z => absurd z (by simp)), r, q⟩
end
def W4 (sp : Sp) (dvs : List V) (E : XK) (t : TA) : TE := fun σ H Q => t σ H fun vs H1 => sp (vs ++ dvs) H1 Q E
def Binds (K : PySem.W.Frag) (fd : FuncData) (ps : List Str) (ds : List Value) : Prop :=
  ∀ (s : Shared) (us : List Value), K.In s.heap -> (us ++ ds).length = ps.length -> BindsTo s fd ⟨us, []⟩ (ps.zip (us ++ ds))
theorem Binds.all {K : PySem.W.Frag} {fd : FuncData} {ps : List Str} (h : ∀ us : List Value, us.length = ps.length -> bindArgs fd ⟨us, []⟩ = pure (ps.zip us)) : Binds K fd ps [] := fun s us _ hl => by
  rw [List.append_nil] at hl ⊢
  exact .of_eq (h us hl)
def Passes (CX : CXT) (X : Cx) (E : XK) : Prop := ∀ (pins : List (Addr × Obj)) (σ : St) (H : Hp) (s : Shared) (e : Value) (s' : Shared), Inv X pins σ H s -> CX X.stack H s E e s' -> X.xe e s'
section
variable {X : Cx} {CX : CXT} {k : Nat} {f C : Addr} {fd : FuncData} {ps : List Str} {sp : Sp} {dvs : List V} {ds : List Value} {E : XK} {x m : Str} {p pos apos : Pos} {e o : Expr} {es : List Expr} {ta : TE} {t : TA}
theorem Ae2 {pins : List (Addr × Obj)} {σ : St} {H : Hp} {s : Shared} {Q : VK} {us : List Value} {vs : List V} (F : Qi X.prog X.w X.K X.mg X.base CX k f fd ps sp) (hr : M9 k X.A) (hb : Binds X.K fd ps ds) (hd : Vals dvs ds) (hx : Passes CX X E)
    (I : Inv X pins σ H s) (r : Vals vs us) (h : sp (vs ++ dvs) H Q E) : wpAny (model X.prog X.w) X.A (call (.ref f) us) (EP X pins σ Q) X.xe s := by
  have r2 : Vals (vs ++ dvs) (us ++ ds) := r.append hd
  have hl : (us ++ ds).length = ps.length := by rw [<- r2.length]; exact F.len _ _ _ _ h
  refine wpAny_call (codeAny_mono (F.run X.A X.stack s H ⟨us, []⟩ (us ++ ds) (vs ++ dvs) Q E hr I.env0 (hb s us I.kIn hl) r2 h) fun r s' hq => ?_)
  cases r with
  | error e => exact hx pins σ H s e s' I hq
  | ok fl =>
    cases fl with
    | ret u => exact I.after hq
    | next => exact False.elim hq
    | brk => exact False.elim hq
    | cont => exact False.elim hq
theorem Aat (F : Qi X.prog X.w X.K X.mg X.base CX k f fd ps sp) (hr : M9 k X.A) (hg : Gl X x) (hm : X.mg x = some (.ref f)) (hk : PySem.W.keepIn X.K (.ref f) = true) (hb : Binds X.K fd ps ds) (hd : Vals dvs ds) (hx : Passes CX X E)
    (ha : PA X (e :: es) t) (hdb : (x == ("__debug__" : Str)) = false := by decide) (he : starEach (e :: es) X.env = (false, eval e X.env) :: starEach es X.env := by rfl) (hpl : (backTo pos (starEach es X.env)).any (·.1) = false := by rfl) :
    PE X (.Call (.Name x p) (e :: es) [] pos) (W4 sp dvs E t) := by
  intro pins s σ H Q I h
  refine wpAny_Call_Name_kw (Wx I hg hm ?_ hdb)
  refine PySem.W.callWith_K (h₀ := X.base) I.ok.mod.kin hk (thn (ha pos pins s σ H _ I h) fun us s1 ⟨vs, H1, I1, r, q⟩ => ⟨I1.kIn, ?_⟩) he hpl
  exact Ae2 F hr hb hd hx I1 r q
structure Mk (K : PySem.W.Frag) (C f : Addr) : Prop where
  makes : PySem.W.makesIn K C = true
  init : PySem.W.findIn K (.ref C) "__init__" = some (some (.ref f))
  fn : PySem.W.isFn K (.ref f) = true
  kp : PySem.W.keepIn K (.ref C) = true
end
section
variable {X : Cx} {CX : CXT} {k : Nat} {f C : Addr} {fd : FuncData} {ps ks : List Str} {sp : Sp} {E : XK} {x m : Str} {p pos apos kpos : Pos} {e o : Expr} {es : List Expr} {kws : List Keyword} {te ta : TE} {t tk : TA} {nm : Option Str}
structure Aj4 (K : PySem.W.Frag) (fd : FuncData) (ps ks : List Str) (g : List Value -> List Value -> List Value) (gV : List V -> List V -> List V) : Prop where
  to : ∀ (s : Shared) (us ws : List Value), K.In s.heap -> (g us ws).length = ps.length -> BindsTo s fd ⟨us, ks.zip ws⟩ (ps.zip (g us ws))
  rel : ∀ {vs : List V} {us : List Value} {zs : List V} {ws : List Value}, Vals vs us -> Vals zs ws -> Vals (gV vs zs) (g us ws)
variable {g : List Value -> List Value -> List Value} {gV : List V -> List V -> List V}
end
structure Ay (N P : List Str) (sc : Scope) : Prop where
  kind : sc.kind = .function
  co : sc.isCoroutine = false
  gen : sc.isGenerator = false
  nd : N.Nodup
  pre : N.take P.length = P
  par : ∀ x ∈ P, sc.names.lookup x = some .local \/ sc.names.lookup x = some .cell
  nofree : ∀ y ∈ sc.names, y.2 ≠ .free
theorem V6 {kindOf : Str -> Option NameKind} {x : Str} : ∀ {binds : List (Str × Value)} {m : Str -> Option Value}, (∀ v, (x, v) ∉ binds) -> bindL kindOf binds m x = m x
  | [], _, _ => rfl
  | (n, v) :: r, m, h => by
    unfold bindL
    rw [V6 fun w hw => h w (List.mem_cons_of_mem _ hw)]
    split
    . have : x ≠ n := by rintro rfl; exact h v List.mem_cons_self
      simp [this]
    . rfl
theorem Wi {kindOf : Str -> Option NameKind} {x : Str} : ∀ {binds : List (Str × Value)} {m : Str -> Option Value}, (∀ v, (x, v) ∉ binds) -> bindC kindOf binds m x = m x
  | [], _, _ => rfl
  | (n, v) :: r, m, h => by
    unfold bindC
    rw [Wi fun w hw => h w (List.mem_cons_of_mem _ hw)]
    split
    . rfl
    . have : x ≠ n := by rintro rfl; exact h v List.mem_cons_self
      simp [this]
theorem Vm {kindOf : Str -> Option NameKind} {x : Str} {v : Value} : ∀ {P : List Str} {vs : List Value} {i : Nat} {m : Str -> Option Value}, P.Nodup -> P[i]? = some x -> vs[i]? = some v -> kindOf x = some .local ->
    bindL kindOf (P.zip vs) m x = some v
  | [], _, _, _, _, h, _, _ => by simp at h
  | _ :: _, [], _, _, _, _, h, _ => by simp at h
  | p :: P, w :: vs, 0, m, nd, h1, h2, hk => by
    simp at h1 h2; subst h1; subst h2
    show bindL kindOf ((p, w) :: P.zip vs) m p = _
    unfold bindL
    rw [V6 fun v hv => (List.nodup_cons.mp nd).1 (List.of_mem_zip hv).1, if_pos hk]
    simp
  | p :: P, w :: vs, i + 1, m, nd, h1, h2, hk => by
    show bindL kindOf ((p, w) :: P.zip vs) m x = _
    unfold bindL
    exact Vm (i := i) (List.nodup_cons.mp nd).2 (by simpa using h1) (by simpa using h2) hk
theorem Vb {kindOf : Str -> Option NameKind} {x : Str} {v : Value} : ∀ {P : List Str} {vs : List Value} {i : Nat} {m : Str -> Option Value}, P.Nodup -> P[i]? = some x -> vs[i]? = some v -> kindOf x ≠ some .local ->
    bindC kindOf (P.zip vs) m x = some v
  | [], _, _, _, _, h, _, _ => by simp at h
  | _ :: _, [], _, _, _, _, h, _ => by simp at h
  | p :: P, w :: vs, 0, m, nd, h1, h2, hk => by
    simp at h1 h2; subst h1; subst h2
    show bindC kindOf ((p, w) :: P.zip vs) m p = _
    unfold bindC
    rw [Wi fun v hv => (List.nodup_cons.mp nd).1 (List.of_mem_zip hv).1, if_neg hk]
    simp
  | p :: P, w :: vs, i + 1, m, nd, h1, h2, hk => by
    show bindC kindOf ((p, w) :: P.zip vs) m x = _
    unfold bindC
    exact Vb (i := i) (List.nodup_cons.mp nd).2 (by simpa using h1) (by simpa using h2) hk
def start (N : List Str) (vs : List V) : St := vs.map some ++ List.replicate (N.length - vs.length) none
def Rk (CX : CXT) (P : Program) (w : World) (K : PySem.W.Frag) (mg : Str -> Option Value) (base : Heap) (N : List Str) (qual : Str) (scope : Scope) (f : Addr) (cd : Value) (A : Around) (outer : List Env) (s : Shared) (H : Hp) (E : XK) : Cx where
  prog := P
  w := w
  K := K
  mg := mg
  base := base
  A := A.deeper (envOfC qual scope s.heap.objs.size f cd)
  N := N
  s₀ := s
  H₀ := H
  env := envOfC qual scope s.heap.objs.size f cd
  outer := outer
  stack := envOfC qual scope s.heap.objs.size f cd :: outer
  ex := []
  calm := true
  fn := fun _ => true
  pn := []
  xe := fun e s' => wpAny (model P w) (A.deeper (envOfC qual scope s.heap.objs.size f cd)) (leaving (envOfC qual scope s.heap.objs.size f cd) e) (fun _ s'' => CX outer H s E e s'') (fun e' s'' => CX outer H s E e' s'') s'
theorem Xu {sc : Scope} {n : Nat} {x : Str} (h : sc.names.lookup x = some .cell) : ∃ c, (cellsFrom n sc.names []).lookup x = some c := by
  have q := PySem.W.cellsFrom_some sc.names n [] (.inl h)
  exact Option.isSome_iff_exists.mp q
theorem Abs {CX : CXT} {P : Program} {w : World} {K : PySem.W.Frag} {mg : Str -> Option Value} {base : Heap} {N ps : List Str} {qual : Str} {scope : Scope} {f : Addr} {cd : Value} {A : Around} {outer : List Env} {s s1 : Shared} {H : Hp} {E : XK} {us : List Value} {vs : List V}
    (S : Ay N ps scope) (hd : A.handled = none) (e0 : Acw P w K mg base A outer s H) (hl : vs.length = ps.length) (r : Vals vs us)
    (x : InCallC s s.heap.objs.size (bindL (envOfC qual scope s.heap.objs.size f cd).kindOf (ps.zip us) fun _ => none) (cellsFrom (s.heap.objs.size + 1) scope.names []) (bindC (envOfC qual scope s.heap.objs.size f cd).kindOf (ps.zip us) fun _ => none) s1) :
    Inv (Rk CX P w K mg base N qual scope f cd A outer s H E) [] (start N vs) H s1 := by
  have hpl : ps.length <= N.length := by have := congrArg List.length S.pre; rw [List.length_take] at this; omega
  obtain ⟨h1, tk, rfl, hk⟩ := x.done
  have noA : ∀ b : Addr, b ∉ (Rk CX P w K mg base N qual scope f cd A outer s H E).ex := fun b z => absurd (show b ∈ ([] : List Addr) from z) (by simp)
  refine ⟨⟨e0.mod, S.kind, rfl, rfl, Nat.le_refl _, fun y z c h1 h2 => ?_, fun y hy => ?_, fun y c _ h => ?_, fun _ => hd, Around.frames_deeper e0.frames, .inr ⟨rfl, rfl⟩, fun b z => absurd z (noA b), e0.bs, e0.bsz, fun b _ _ => noA b, fun b z => absurd z (noA b), e0.funs, e0.frf⟩,
    rfl, e0.bare, Un.kept hk, ⟨_, x.toInCall.ns, fun i y v h1 h2 h3 => ?_⟩, fun y c h => ⟨_, x.cell y c h⟩, e0.hok.fresh (Nat.le_refl _), fun y c h => ?_, fun p hp => absurd (show p ∈ ([] : List (Addr × Obj)) from hp) (by simp), e0.hok.kept hk, ?_⟩
  . exact name_of_addr x.apart (PySem.mem_of_lookup h1) (PySem.mem_of_lookup h2)
  . have hy : scope.names.lookup y = some .cell \/ scope.names.lookup y = some .free := hy
    rcases hy with hy | hy
    . exact Xu hy
    . exact absurd rfl (S.nofree _ (PySem.mem_of_lookup hy))
  . exact Nat.le_of_lt (x.above y c (PySem.mem_of_lookup h))
  . have hi : i < vs.length := by
      unfold start at h2
      by_cases hi : i < vs.length
      . exact hi
      . rw [List.getElem?_append_right (by simpa using hi)] at h2
        rw [List.getElem?_replicate] at h2
        split at h2 <;> cases h2
    have ha : vs[i]? = some v := by
      unfold start at h2
      rw [List.getElem?_append_left (by simpa using hi), List.getElem?_map] at h2
      cases e : vs[i]? with
      | none => rw [e] at h2; cases h2
      | some a => rw [e] at h2; cases h2; rfl
    obtain ⟨u, hu, rv⟩ := r.get ha
    have hp : ps[i]? = some y := by
      rw [<- S.pre, List.getElem?_take_of_lt (by omega)]; exact h1
    have ndP : ps.Nodup := by rw [<- S.pre]; exact S.nd.sublist (List.take_sublist _ _)
    refine ⟨u, rv, ?_⟩
    rcases S.par y (List.mem_of_getElem? hp) with k | k
    . exact .inl ⟨k, Vm ndP hp hu k⟩
    . obtain ⟨c, e⟩ := Xu (n := s.heap.objs.size + 1) k
      refine .inr ⟨.inl k, c, e, ?_⟩
      have q := x.cell y c e
      rw [Vb ndP hp hu (by show scope.names.lookup y ≠ _; rw [k]; decide)] at q
      exact q
  . exact e0.hok.fresh (Nat.le_of_lt (x.above y c (PySem.mem_of_lookup h)))
  . unfold start
    show _ = N.length
    rw [List.length_append, List.length_map, List.length_replicate]
    omega
theorem Ahm {CX : CXT} {P : Program} {w : World} {K : PySem.W.Frag} {mg : Str -> Option Value} {base : Heap} {k : Nat} {f : Addr} {name qual : Str} {params : Arguments} {body : List Stmt} {scope : Scope} {dV kV doc pm cdv ct oc : Value} {an od : Option Addr}
    {osl : Array (Option Value)} {N ps : List Str} {sp : Sp} (lk : K.lookup f = some ⟨oc, od, .func (PySem.W.fnOf name qual params body scope dV kV doc pm an cdv ct), osl⟩) (hcd : PySem.W.codeIn K cdv qual = true) (S : Ay N ps scope)
    (len : ∀ vs H Q E, sp vs H Q E -> vs.length = ps.length)
    (hbody : ∀ (A : Around) (outer : List Env) (s : Shared) (H : Hp) (vs : List V) (Q : VK) (E : XK), M9 k (A.deeper (envOfC qual scope s.heap.objs.size f cdv)) -> sp vs H Q E ->
      ∃ t, PSs (Rk CX P w K mg base N qual scope f cdv A outer s H E) body t /\ t { nx := fun _ H' => Q .non H', rt := Q } (start N vs) H) :
    Qi P w K mg base CX (k + 1) f (PySem.W.fnOf name qual params body scope dV kV doc pm an cdv ct) ps sp := by
  refine ⟨len, fun A outer s H args us vs Q E hr e0 hb r hsp => ?_⟩
  have hl := len _ _ _ _ hsp
  have KX : K.In s.heap := e0.mod.kin.keeps fun b o e => (e0.bs b o e).1
  have lim : s.heap.NoLimit := e0.mod.nolimit.keeps fun b o e => (e0.bs b o e).1
  have hkind : ∀ y ∈ ps.zip us, scope.names.lookup y.1 = some .local \/ (scope.names.lookup y.1 = some .cell /\ ((cellsFrom (s.heap.objs.size + 1) scope.names []).lookup y.1).isSome = true) := fun ⟨n, v⟩ hy => by
    rcases S.par n (List.of_mem_zip hy).1 with q | q
    . exact .inl q
    . exact .inr ⟨q, PySem.W.cellsFrom_some _ _ _ (.inl q)⟩
  refine codeAny_call_function hr.depth (KX _ _ lk) rfl S.co S.gen rfl (PySem.W.codeRec_of KX hcd) (hb _ _ _ _ ?_)
  refine wpAny_newFunctionEnv_cells S.kind hkind fun env he s1 x => ?_
  subst he
  refine ⟨lim.keeps x.toInCall.keep, codeAny_func ?_⟩
  obtain ⟨t, ht, hq⟩ := hbody A outer s H vs Q E (hr.deeper _) hsp
  have I : Inv (Rk CX P w K mg base N qual scope f cdv A outer s H E) [] (start N vs) H s1 := Abs S hr.hd e0 hl r x
  refine wpAny_mono (ht [] s1 (start N vs) H _ I hq) (fun fl s' hs => ?_) fun e s' hs => hs
  have fin : ∀ {σ' : St} {H' : Hp} {v : V} {u : Value}, Inv (Rk CX P w K mg base N qual scope f cdv A outer s H E) [] σ' H' s' -> RelV v u -> Q v H' -> CE outer P w H s Q u s' :=
    fun {σ' H' v u} J rv q => ⟨v, H', J.os, J.bare, J.base, J.hok, rv, q⟩
  cases fl with
  | ret u =>
    obtain ⟨v, σ', H', J, rv, q⟩ := hs
    exact fin J rv q
  | next =>
    obtain ⟨σ', H', J, q⟩ := hs
    exact fin (v := V.non) (u := Value.none) J rfl q
  | brk =>
    obtain ⟨_, _, _, q⟩ := hs
    exact False.elim q
  | cont =>
    obtain ⟨_, _, _, q⟩ := hs
    exact False.elim q
end L2
namespace L2
open PySem PySem.Spec PyProof.Rows
section
variable {X : Cx} {x : Str} {p pos : Pos} {e : Expr} {es : List Expr} {t : TA} {id T : String} {r : List V -> Hp -> VK -> Prop}
def tCB (r : List V -> Hp -> VK -> Prop) (t : TA) : TE := fun σ H Q => t σ H fun vs H1 => r vs H1 Q
theorem Ac2 (hc : Kg X (.builtin id) r) (hg : Gl X x) (hm : X.mg x = none) (hv : bootBuiltins x = some (.builtin id)) (ha : PA X (e :: es) t) (hn : x ≠ "__name__" := by decide) (hdb : (x == ("__debug__" : Str)) = false := by decide)
    (he : starEach (e :: es) X.env = (false, eval e X.env) :: starEach es X.env := by rfl) (hpl : (backTo pos (starEach es X.env)).any (·.1) = false := by rfl) : PE X (.Call (.Name x p) (e :: es) [] pos) (tCB r t) := by
  intro pins s σ H Q I h
  refine wpAny_Call_Name_kw (O7 I hg hm hv ?_ hn hdb)
  exact PyProof.Rows.callWith_builtin1 (thn (ha pos pins s σ H _ I h) fun us s1 ⟨vs, H1, I1, r1, q1⟩ => hc pins s1 σ H1 vs us Q I1 r1 q1) he hpl
theorem Ab5 (hc : Kg X (.type T) r) (hg : Gl X x) (hm : X.mg x = none) (hv : bootBuiltins x = some (.type T)) (ha : PA X (e :: es) t) (hn : x ≠ "__name__" := by decide) (hdb : (x == ("__debug__" : Str)) = false := by decide)
    (he : starEach (e :: es) X.env = (false, eval e X.env) :: starEach es X.env := by rfl) (hpl : (backTo pos (starEach es X.env)).any (·.1) = false := by rfl) : PE X (.Call (.Name x p) (e :: es) [] pos) (tCB r t) := by
  intro pins s σ H Q I h
  refine wpAny_Call_Name_kw (O7 I hg hm hv ?_ hn hdb)
  exact PyProof.Rows.callWith_type1 (thn (ha pos pins s σ H _ I h) fun us s1 ⟨vs, H1, I1, r1, q1⟩ => hc pins s1 σ H1 vs us Q I1 r1 q1) he hpl
end
end L2
namespace HT
open PySem PyProof.Rows
section
variable {prog : Program} {w : World} {A : Around} {E : Value -> Shared -> Prop} {s : Shared}
theorem Af5 {t b : Addr} {vs ws : List Value} {Q : Value -> Shared -> Prop} (ht : IsTup s.heap t vs.toArray) (hb : IsTup s.heap b ws.toArray) (hv : vs ≠ [])
    (h1 : ws = [] -> Q (.ref t) s) (h2 : ws ≠ [] -> Q (.ref s.heap.objs.size) { s with heap := s.heap.push { cls := .type "tuple", data := .seq (vs ++ ws).toArray } })
    (hsz : vs.length + ws.length <= sizeLine) : wpAny (model prog w) A (binaryOp .Add (.ref t) (.ref b)) Q E s := by
  obtain ⟨⟨cls, dd, data, sl⟩, ho, hc, n, hd⟩ := id ht
  obtain ⟨⟨cls2, dd2, data2, sl2⟩, ho2, hc2, n2, hd2⟩ := id hb
  simp only at hc hd hc2 hd2
  subst hc hd hc2 hd2
  have e : vs.toArray ++ ws.toArray = (vs ++ ws).toArray := by simp
  by_cases hw : ws = []
  . exact concat_meets ⟨_, ho, rfl⟩ ⟨_, ho2, rfl⟩ noFill_tuple_add seq_tuple_add PySem.F.slot_tuple_add PySem.F.entry_tuple_add (PySem.F.args_tuple_add_2 _ _)
      (tuple_addW1 t b vs.toArray ws.toArray n n2 dd dd2 sl sl2 (by simpa using hv) (by simp [hw])) ⟨ho, ho2, h1 hw⟩
  . refine concat_meets ⟨_, ho, rfl⟩ ⟨_, ho2, rfl⟩ noFill_tuple_add seq_tuple_add PySem.F.slot_tuple_add PySem.F.entry_tuple_add (PySem.F.args_tuple_add_2 _ _)
      (tuple_addW2 t b vs.toArray ws.toArray n n2 dd dd2 sl sl2 (by simpa using hv) (by simpa using hw) (by rw [List.size_toArray, List.size_toArray]; exact hsz)) ⟨ho, ho2, ?_⟩
    rw [e]
    exact h2 hw
def sIx (n d : Nat) : Option Int -> Nat
  | none => d
  | some v => if v < 0 then (v + (n : Int)).toNat else min v.toNat n
theorem N8 (n d : Nat) : sIx n d none = d := rfl
theorem Ra (n d k : Nat) : sIx n d (some (k : Int)) = min k n := by
  show (if (k : Int) < 0 then ((k : Int) + (n : Int)).toNat else min (k : Int).toNat n) = min k n
  rw [if_neg (by omega), Int.toNat_natCast]
theorem Ahp (n d : Nat) (hd : d <= n) (o : Option Int) : sIx n d o <= n := by
  cases o with
  | none => exact hd
  | some v =>
    show (if v < 0 then (v + (n : Int)).toNat else min v.toNat n) <= n
    by_cases hv : v < 0
    . rw [if_pos hv]; omega
    . rw [if_neg hv]; exact Nat.min_le_right _ _
theorem Aae (v : Int) (n d : Nat) : (if v < 0 then max (v + (n : Int)) 0 else min v (n : Int)) = ((sIx n d (some v) : Nat) : Int) := by
  show (if v < 0 then max (v + (n : Int)) 0 else min v (n : Int)) = (((if v < 0 then (v + (n : Int)).toNat else min v.toNat n) : Nat) : Int)
  by_cases hv : v < 0
  . simp only [if_pos hv]; omega
  . simp only [if_neg hv]; omega
theorem Zf (lo hi : Option Int) (n : Nat) : Builtin.Slice.sliceAdjust lo hi 1 (n : Int) = (((sIx n 0 lo : Nat) : Int), ((sIx n n hi : Nat) : Int)) := by
  have h1 : ¬ ((1 : Int) < 0) := by omega
  unfold Builtin.Slice.sliceAdjust
  simp only [h1, if_false]
  refine Prod.ext ?_ ?_
  . cases lo with
    | none => rfl
    | some v => exact Aae v n 0
  . cases hi with
    | none => rfl
    | some v => exact Aae v n n
theorem Za (i j : Nat) : Builtin.Slice.slicePlaces (i : Int) (j : Int) 1 = j - i := by
  unfold Builtin.Slice.slicePlaces
  have h1 : (1 : Int) > 0 := by omega
  simp only [h1, if_true, Int.ediv_one]
  split <;> omega
theorem S7 {v : Value} {o : Option Int} {Q : Option Int -> Shared -> Prop} (p : IsPart v o) (h : Q o s) : wpAny (model prog w) A (Builtin.Slice.slicePartIndex v) Q E s := by
  cases p with
  | none => exact slicePart_none h
  | int i t => exact slicePart_int h
theorem Lh {sl : Addr} {vl vu : Value} {lo hi : Option Int} {n : Nat} {Q : Int × Int × Nat -> Shared -> Prop} (hs : s.heap.IsSliceOf sl vl vu .none) (pl : IsPart vl lo) (pu : IsPart vu hi)
    (h : Q (((sIx n 0 lo : Nat) : Int), 1, sIx n n hi - sIx n 0 lo) s) : wpAny (model prog w) A (Builtin.Slice.sliceApplied (.ref sl) (pure (n : Int))) Q E s := by
  obtain ⟨os, hos, hcs, hds⟩ := id hs
  unfold Builtin.Slice.sliceApplied Builtin.Slice.sliceFields
  refine wpAny_bind (wpAny_bind (wpAny_field hos hds (x := vl) rfl (wpAny_bind (wpAny_field hos hds (x := vu) rfl (wpAny_bind (wpAny_field hos hds (x := .none) rfl (wpAny_pure ?_)))))))
  refine wpAny_bind (slicePart_none ?_)
  show wpAny _ _ (if ((1 : Int) == 0) = true then _ else _) _ _ s
  rw [if_neg (by decide)]
  refine wpAny_bind (S7 pl (wpAny_bind (S7 pu (wpAny_bind (wpAny_pure ?_)))))
  show wpAny _ _ (match Builtin.Slice.sliceAdjust lo hi 1 (n : Int) with | (lo, hi) => pure (lo, (1 : Int), Builtin.Slice.slicePlaces lo hi 1)) _ _ s
  rw [Zf lo hi n]
  show wpAny _ _ (pure (((sIx n 0 lo : Nat) : Int), (1 : Int), Builtin.Slice.slicePlaces ((sIx n 0 lo : Nat) : Int) ((sIx n n hi : Nat) : Int) 1)) _ _ s
  rw [Za]
  exact wpAny_pure h
theorem Adn (xs : Array Value) (i k : Nat) : ((List.range k).filterMap fun (m : Nat) => xs[((i : Int) + (m : Int) * 1).toNat]?).toArray = ((xs.toList.drop i).take k).toArray := by
  have e : (fun (m : Nat) => xs[((i : Int) + (m : Int) * 1).toNat]?) = fun m => xs[i + m]? := by
    funext m
    have : ((i : Int) + (m : Int) * 1).toNat = i + m := by omega
    rw [this]
  rw [e]
  have := pick_run xs i k
  rw [List.filterMap_map] at this
  have e2 : ((fun x => xs[x]?) ∘ fun x => i + x) = fun m => xs[i + m]? := rfl
  rw [e2] at this
  rw [this]
theorem Ot {t sl : Addr} {items : Array Value} {vl vu : Value} {lo hi : Option Int} {Q : Value -> Shared -> Prop} (ht : IsTup s.heap t items) (hs : s.heap.IsSliceOf sl vl vu .none) (pl : IsPart vl lo) (pu : IsPart vu hi)
    (hw : ¬ (sIx items.size 0 lo = 0 /\ sIx items.size items.size hi = items.size))
    (h : Q (.ref s.heap.objs.size) { s with heap := s.heap.push { cls := .type "tuple", data := .seq ((items.toList.drop (sIx items.size 0 lo)).take (sIx items.size items.size hi - sIx items.size 0 lo)).toArray } })
    (hsz : items.size <= sizeLine) : wpAny (model prog w) A (getItem (.ref t) (.ref sl)) Q E s := by
  have htake : sizeOk (.seq ((items.toList.drop (sIx items.size 0 lo)).take (sIx items.size items.size hi - sIx items.size 0 lo)).toArray) := by
    show ((items.toList.drop (sIx items.size 0 lo)).take (sIx items.size items.size hi - sIx items.size 0 lo)).toArray.size <= sizeLine
    rw [List.size_toArray, List.length_take, List.length_drop, Array.length_toList]
    omega
  have hj : sIx items.size items.size hi <= items.size := Ahp _ _ (Nat.le_refl _) hi
  obtain ⟨os, hos, hcs, hds⟩ := id hs
  have hTs : s.TypeIs (.ref sl) "slice" := ⟨os, hos, hcs⟩
  unfold getItem
  try with_reducible refine wpAny_holding ?_
  first | refine wpAny_bind (wpAny_pure ?_) | skip
  refine wpAny_bind (wpAny_sequenceKey ht.typeIs (by decide) ?_)
  refine wpAny_bind (wpAny_callSpecial?_slot (name := Str.ofString "__getitem__") ht.typeIs PyProof.Rows.slot_tuple_getitem
    (wpAny_call_entry PyProof.Rows.slot_tuple_getitem ht.typeIs entry_tuple_getitem ?_ (args_tuple_getitem _ _)))
  show wpAny _ _ (Builtin.Tuple.tupleItemsOf (.ref t) >>= _) _ _ s
  refine wpAny_bind (tupleItemsOf_ ht ?_)
  refine wpAny_bind (wpAny_typeOf hTs ?_)
  rw [if_pos (by decide)]
  refine wpAny_bind (Lh hs pl pu ?_)
  have hno : ¬ ((((sIx items.size 0 lo : Nat) : Int) == 0 && (1 : Int) == 1 && (sIx items.size items.size hi - sIx items.size 0 lo) == items.size) = true) := by
    intro q
    rw [Bool.and_eq_true, Bool.and_eq_true] at q
    have q1 : ((sIx items.size 0 lo : Nat) : Int) = 0 := eq_of_beq q.1.1
    have q2 : sIx items.size items.size hi - sIx items.size 0 lo = items.size := eq_of_beq q.2
    exact hw ⟨by omega, by omega⟩
  show wpAny _ _ (if (((sIx items.size 0 lo : Nat) : Int) == 0 && (1 : Int) == 1 && (sIx items.size items.size hi - sIx items.size 0 lo) == items.size) = true then _ else _) _ _ s
  rw [if_neg hno, Adn]
  first
    | exact wpAny_bind (m := Builtin.Tuple.tupleExact _) (wpAny_newObj_type (wpAny_pure ⟨_, rfl, wpAny_pure h⟩) htake)
    | exact wpAny_bind (m := Builtin.Tuple.tupleExact _) (wpAny_newObj_type (wpAny_bind (wpAny_pure (wpAny_pure ⟨_, rfl, wpAny_pure h⟩))) htake)
    | exact wpAny_bind (wpAny_bind (m := Builtin.Tuple.tupleExact _) (wpAny_newObj_type (wpAny_pure (wpAny_pure ⟨_, rfl, wpAny_pure h⟩)) htake))
    | exact wpAny_bind (wpAny_bind (m := Builtin.Tuple.tupleExact _) (wpAny_newObj_type (wpAny_pure ⟨_, rfl, wpAny_pure h⟩) htake))
end
end HT
namespace L2
open PySem PySem.Spec PyProof.Rows
abbrev TO := St -> Hp -> (Option Int -> Hp -> Prop) -> Prop
def PO (X : Cx) (e : Option Expr) (t : TO) : Prop :=
  ∀ (pins : List (Addr × Obj)) (s : Shared) (σ : St) (H : Hp) (Q : Option Int -> Hp -> Prop), Inv X pins σ H s -> t σ H Q ->
    wpAny (model X.prog X.w) X.A (evalPart e X.env) (fun u s' => ∃ o H', Inv X pins σ H' s' /\ IsPart u o /\ Q o H') X.xe s
def Xj : TO := fun _ H Q => Q none H
def Afq (t : TE) : TO := fun σ H Q => t σ H fun x H1 => ∃ i, x = .int i /\ Q (some i) H1
section
variable {X : Cx} {e : Expr} {te : TE} {lo hi : Option Expr} {tl th : TO} {pos p2 : Pos}
theorem Ej : PO X none Xj := by
  intro pins s σ H Q I h
  rw [evalPart_none]
  exact wpAny_pure ⟨none, H, I, .none, h⟩
theorem Em (h : PE X e te) : PO X (some e) (Afq te) := by
  intro pins s σ H Q I hw
  rw [evalPart_some]
  refine thn (h pins s σ H _ I hw) fun u s1 ⟨x, H1, I1, r1, q1⟩ => ?_
  obtain ⟨i, rfl, q⟩ := q1
  obtain ⟨t, rfl⟩ := r1
  exact ⟨some i, H1, I1, .int i t, q⟩
def SlR (X : Cx) (r : V -> Option Int -> Option Int -> Hp -> VK -> Prop) : Prop :=
  ∀ (pins : List (Addr × Obj)) (s : Shared) (σ : St) (H : Hp) (x : V) (v vl vu : Value) (lo hi : Option Int) (sl : Addr) (Q : VK), Inv X pins σ H s -> RelV x v -> s.heap.IsSliceOf sl vl vu .none -> IsPart vl lo -> IsPart vu hi -> r x lo hi H Q ->
    ∃ T id, typeLookup (.type T) "__getitem__" = pure (some (.builtin id)) /\ s.TypeIs v T /\ wpAny (model X.prog X.w) X.A (getItem v (.ref sl)) (EP X pins σ Q) X.xe s
theorem SlR.or {r r' : V -> Option Int -> Option Int -> Hp -> VK -> Prop} (h : SlR X r) (h' : SlR X r') : SlR X (fun x lo hi H Q => r x lo hi H Q \/ r' x lo hi H Q) := by
  intro pins s σ H x v vl vu lo hi sl Q I rx hs pl pu q
  rcases q with q | q
  . exact h pins s σ H x v vl vu lo hi sl Q I rx hs pl pu q
  . exact h' pins s σ H x v vl vu lo hi sl Q I rx hs pl pu q
def tSl (r : V -> Option Int -> Option Int -> Hp -> VK -> Prop) (te : TE) (tl th : TO) : TE := fun σ H Q => te σ H fun x H1 => tl σ H1 fun l H2 => th σ H2 fun u H3 => r x l u H3 Q
theorem Dh {r : V -> Option Int -> Option Int -> Hp -> VK -> Prop} (hr : SlR X r) (he : PE X e te) (hl : PO X lo tl) (hu : PO X hi th) : PE X (.Subscript e (.Slice lo hi none p2) pos) (tSl r te tl th) := by
  intro pins s σ H Q I h
  refine Subscript_ (thn (he pins s σ H _ I h) fun v s1 ⟨x, H1, I1, r1, q1⟩ => ?_)
  refine wpAny_Slice (thn (hl pins s1 σ H1 _ I1 q1) fun vl s2 ⟨l, H2, I2, pl, q2⟩ => thn (hu pins s2 σ H2 _ I2 q2) fun vu s3 ⟨u, H3, I3, pu, q3⟩ => ?_)
  rw [evalPart_none]
  refine wpAny_pure ?_
  have I4 : Inv X pins σ H3 { s3 with heap := s3.heap.push { cls := .type "slice", data := .fields #[vl, vu, .none] } } := I3.kept (t' := s3.toks) fun b ob q => Heap.get?_push_of_some _ q
  obtain ⟨T, id, hT, ht, hg⟩ := hr pins { s3 with heap := s3.heap.push { cls := .type "slice", data := .fields #[vl, vu, .none] } } σ H3 x v vl vu l u s3.heap.objs.size Q I4 r1 (Heap.IsSliceOf.new ..) pl pu q3
  show wpAny (model X.prog X.w) X.A (subscriptTail e (.Slice lo hi none p2) v (.ref s3.heap.objs.size)) (EP X pins σ Q) X.xe { s3 with heap := s3.heap.push { cls := .type "slice", data := .fields #[vl, vu, .none] } }
  exact tail_any (ops := [.ref s3.heap.objs.size, v]) ht hT hg (by with_unfolding_all rfl)
def Nh (xs : List V) (lo hi : Option Int) : List V := (xs.drop (HT.sIx xs.length 0 lo)).take (HT.sIx xs.length xs.length hi - HT.sIx xs.length 0 lo)
theorem Ry (xs : List V) (lo hi : Option Int) : (Nh xs lo hi).length <= xs.length := by
  unfold Nh
  rw [List.length_take, List.length_drop]
  omega
def Akz (K : PySem.W.Frag) : V -> Option Int -> Option Int -> Hp -> VK -> Prop := fun x lo hi H Q => ∃ a xs, x = .ref a /\ SqT K H a xs /\
  ¬ (HT.sIx xs.length 0 lo = 0 /\ HT.sIx xs.length xs.length hi = xs.length) /\ ∀ p, H p = none -> Q (.ref p) (upd H p (.tup (Nh xs lo hi)))
theorem Air : SlR X (Akz X.K) := by
  intro pins s σ H x v vl vu lo hi sl Q I rx hs pl pu h
  obtain ⟨a, xs, rfl, hx, hw, q⟩ := h
  cases rx
  obtain ⟨its, r, ht, hz⟩ := I.tuple hx
  have hlen : its.toArray.size = xs.length := by rw [List.size_toArray]; exact r.length.symm
  refine ⟨"tuple", _, PyProof.Rows.slot_tuple_getitem.lookup, ht.typeIs, ?_⟩
  refine HT.Ot ht hs pl pu (by rw [hlen]; exact hw) ?_ (by rw [hlen]; exact hz)
  rw [hlen]
  refine ⟨.ref s.heap.objs.size, _, I.laid (t' := s.toks) (o := .tup (Nh xs lo hi)) (fun b ob q => Heap.get?_push_of_some _ q) (Nat.le_refl _) ?_, rfl, q _ (I.hok.fresh (Nat.le_refl _))⟩
  exact ⟨Nat.le_trans (Ry xs lo hi) hz, _, (r.drop (HT.sIx xs.length 0 lo)).take (HT.sIx xs.length xs.length hi - HT.sIx xs.length 0 lo), IsTup.new _ _⟩
def Aix (K : PySem.W.Frag) : R2 := fun x y H Q => ∃ a b xs ys, x = .ref a /\ y = .ref b /\ SqT K H a xs /\ SqT K H b ys /\ xs ≠ [] /\ xs.length + ys.length <= sizeLine /\
  (ys = [] -> Q (.ref a) H) /\ (ys ≠ [] -> ∀ p, H p = none -> Q (.ref p) (upd H p (.tup (xs ++ ys))))
theorem Vals.nil_iff {xs : List V} {us : List Value} (r : Vals xs us) : us = [] ↔ xs = [] := by
  cases r with
  | nil => simp
  | cons _ _ => simp
theorem Afj : OpR X (binaryOp .Add) (Aix X.K) := by
  intro pins s σ H x y v u Q I rx ry h
  obtain ⟨a, b, xs, ys, rfl, rfl, ha, hb, hx, hz, q1, q2⟩ := h
  cases rx
  cases ry
  obtain ⟨its, r1, p1, _⟩ := I.tuple ha
  obtain ⟨its2, r2, p2, _⟩ := I.tuple hb
  refine HT.Af5 p1 p2 (fun z => hx (r1.nil_iff.mp z)) (fun z => ⟨.ref a, H, I, rfl, q1 (r2.nil_iff.mp z)⟩) (fun z => ?_) (by rw [<- r1.length, <- r2.length]; exact hz)
  refine ⟨.ref s.heap.objs.size, _, I.laid (t' := s.toks) (o := .tup (xs ++ ys)) (fun b ob q => Heap.get?_push_of_some _ q) (Nat.le_refl _) ?_, rfl, q2 (fun w => z (r2.nil_iff.mpr w)) _ (I.hok.fresh (Nat.le_refl _))⟩
  exact ⟨by rw [List.length_append]; exact hz, _, r1.append r2, IsTup.new _ _⟩
end
end L2
namespace L2
open PySem PySem.Spec PyProof.Rows
def ixN (n : Nat) (i : Int) : Option Nat := if 0 <= i then (if i < n then some i.toNat else none) else if -(n : Int) <= i then some (i + n).toNat else none
def atI {α : Type} (xs : List α) (i : Int) : Option α := (ixN xs.length i).bind fun j => xs[j]?
theorem Abw {n : Nat} {i : Int} {j : Nat} (h : ixN n i = some j) : seqIndex? i n = some j /\ j < n /\ -(n : Int) <= i /\ i < n := by
  unfold ixN at h
  by_cases h0 : 0 <= i
  . rw [if_pos h0] at h
    by_cases h1 : i < n
    . rw [if_pos h1] at h
      have e : i.toNat = j := Option.some.inj h
      exact ⟨by rw [seqIndex_of h0 h1, e], by omega, by omega, h1⟩
    . rw [if_neg h1] at h; cases h
  . rw [if_neg h0] at h
    by_cases h1 : -(n : Int) <= i
    . rw [if_pos h1] at h
      have e : (i + n).toNat = j := Option.some.inj h
      exact ⟨by rw [seqIndex_neg (by omega) h1, e], by omega, h1, by omega⟩
    . rw [if_neg h1] at h; cases h
theorem Acf {α : Type} {xs : List α} {i : Int} {v : α} (h : atI xs i = some v) : ∃ j, seqIndex? i xs.length = some j /\ xs[j]? = some v /\ j < xs.length /\ -(xs.length : Int) <= i /\ i < xs.length := by
  unfold atI at h
  cases e : ixN xs.length i with
  | none => rw [e] at h; cases h
  | some j =>
    rw [e] at h
    obtain ⟨h1, h2, h3, h4⟩ := Abw e
    exact ⟨j, h1, h, h2, h3, h4⟩
theorem Mg {α : Type} {xs : List α} {j : Nat} {v : α} (h : xs[j]? = some v) : atI xs (j : Int) = some v := by
  have hj : j < xs.length := (List.getElem?_eq_some_iff.mp h).1
  have e : ixN xs.length (j : Int) = some j := by
    unfold ixN
    rw [if_pos (by omega), if_pos (by omega)]; simp
  unfold atI; rw [e]; exact h
theorem Ur {α : Type} (xs : List α) (v : α) : atI (xs ++ [v]) (-1) = some v := by
  have hl : (xs ++ [v]).length = xs.length + 1 := by simp
  have e : ixN (xs ++ [v]).length (-1) = some xs.length := by
    unfold ixN
    rw [hl, if_neg (by decide), if_pos (by omega)]
    congr 1
    omega
  unfold atI
  rw [e]
  show (xs ++ [v])[xs.length]? = some v
  simp
def Abv (b : Expr) : Prop := ∀ o i, subscripted b false o i = operate [o, i] (getItem o i)
def IxR (X : Cx) (r : R2) : Prop :=
  ∀ (value slice : Expr) (pins : List (Addr × Obj)) (s : Shared) (σ : St) (H : Hp) (x y : V) (v u : Value) (Q : VK), Inv X pins σ H s -> RelV x v -> RelV y u -> r x y H Q ->
    subscripted slice false v u = operate [v, u] (getItem v u) -> wpAny (model X.prog X.w) X.A (subscriptTail value slice v u) (EP X pins σ Q) X.xe s
def MtR (X : Cx) (id : String) (r : V -> List V -> Hp -> VK -> Prop) : Prop :=
  ∀ (pins : List (Addr × Obj)) (s : Shared) (σ : St) (H : Hp) (x : V) (xs : List V) (v : Value) (us : List Value) (Q : VK), Inv X pins σ H s -> RelV x v -> Vals xs us -> r x xs H Q ->
    wpAny (model X.prog X.w) X.A (call (.builtin id) (v :: us)) (EP X pins σ Q) X.xe s
section
variable {X : Cx} {a b : Expr} {ta tb : TE} {pos : Pos}
theorem IxR.or {r r' : R2} (h : IxR X r) (h' : IxR X r') : IxR X (fun x y H Q => r x y H Q \/ r' x y H Q) := by
  intro value slice pins s σ H x y v u Q I rx ry q hs
  rcases q with q | q
  . exact h value slice pins s σ H x y v u Q I rx ry q hs
  . exact h' value slice pins s σ H x y v u Q I rx ry q hs
theorem MtR.or {id : String} {r r' : V -> List V -> Hp -> VK -> Prop} (h : MtR X id r) (h' : MtR X id r') : MtR X id (fun x xs H Q => r x xs H Q \/ r' x xs H Q) := by
  intro pins s σ H x xs v us Q I rx rs q
  rcases q with q | q
  . exact h pins s σ H x xs v us Q I rx rs q
  . exact h' pins s σ H x xs v us Q I rx rs q
theorem Bt {r : R2} (hr : IxR X r) (ha : PE X a ta) (hb : PE X b tb) (hs : Abv b) : PE X (.Subscript a b pos) (tOp r ta tb) := by
  intro pins s σ H Q I h
  exact Subscript_ (Ai1 ha hb I h fun v u s2 x y H2 I2 rx ry q => hr a b pins s2 σ H2 x y v u Q I2 rx ry q (hs _ _))
def Aie (K : PySem.W.Frag) : R2 := fun x y H Q => ∃ p xs i v, x = .ref p /\ y = .int i /\ SqL K H p xs /\ atI xs i = some v /\ Q v H
def Aj5 (K : PySem.W.Frag) : R2 := fun x y H Q => ∃ p xs i v, x = .ref p /\ y = .int i /\ SqT K H p xs /\ atI xs i = some v /\ Q v H
theorem Dp : IxR X (Aie X.K) := by
  intro value slice pins s σ H x y v u Q I rx ry h hs
  obtain ⟨p, xs, i, z, rfl, rfl, hq, he, q⟩ := h
  cases rx
  obtain ⟨t, rfl⟩ := ry
  obtain ⟨its, r, pl, hz⟩ := I.list hq
  obtain ⟨j, h1, h2, h3, h4, h5⟩ := Acf he
  obtain ⟨w, ew, rw'⟩ := r.get h2
  have hl := r.length
  have hn := Ym
  have fin : EP X pins σ Q w s := ⟨z, H, I, rw', q⟩
  by_cases h0 : 0 <= i
  . have hj : i.toNat = j := by
      rw [seqIndex_of h0 h5] at h1
      exact Option.some.inj h1
    exact item_listR pl.isList h0 (by omega) (by rw [hj]; simpa using ew) fin hs
  . have hj : (i + (its.toArray.size : Int)).toNat = j := by
      rw [seqIndex_neg (by omega) h4] at h1
      rw [List.size_toArray, <- hl]
      exact Option.some.inj h1
    exact subscriptTail_builtinR (x := w) pl.isList.typeIs slot_list_getitem.lookup
      (wpAny_getItem_list_neg (Q := fun r s' => r = w /\ EP X pins σ Q r s') pl.isList (by omega) (by rw [List.size_toArray] <;> omega) (by omega) (by rw [hj]; simpa using ew) ⟨rfl, fin⟩) hs
theorem Bu : IxR X (Aj5 X.K) := by
  intro value slice pins s σ H x y v u Q I rx ry h hs
  obtain ⟨p, xs, i, z, rfl, rfl, hq, he, q⟩ := h
  cases rx
  obtain ⟨t, rfl⟩ := ry
  obtain ⟨its, r, pl, hz⟩ := I.tuple hq
  obtain ⟨j, h1, h2, h3, h4, h5⟩ := Acf he
  obtain ⟨w, ew, rw'⟩ := r.get h2
  have hl := r.length
  have hn := Ym
  have fin : EP X pins σ Q w s := ⟨z, H, I, rw', q⟩
  exact subscriptTail_builtinR (x := w) pl.typeIs slot_tuple_getitem.lookup
    (getItem_tuple (j := j) (Q := fun r s' => r = w /\ EP X pins σ Q r s') pl (by omega) (by omega) (by rw [List.size_toArray, <- hl]; exact h1) (by simpa using ew) ⟨rfl, fin⟩) hs
theorem Yr (its : List Value) (n j : Nat) (u : Value) : Obj.mapSeq (·.setIfInBounds j u) { cls := .type "list", data := .seq its.toArray n } = { cls := .type "list", data := .seq (its.set j u).toArray n } := by
  simp [Obj.mapSeq]
theorem Inv.lst {pins : List (Addr × Obj)} {σ : St} {H : Hp} {s : Shared} {p : Addr} {xs : List V} (I : Inv X pins σ H s) (h : H p = some (.lst xs)) :
    ∃ (its : List Value) (n : Nat), Vals xs its /\ s.heap.get? p = some { cls := .type "list", data := .seq its.toArray n } /\ xs.length <= sizeLine := by
  obtain ⟨z, its, n, r, e⟩ := I.hok p _ h
  exact ⟨its, n, r, e, z⟩
theorem Inv.lstUpd {pins : List (Addr × Obj)} {σ : St} {H : Hp} {s : Shared} {p : Addr} {xs ys : List V} {its its' : List Value} {n n' : Nat} {f : Obj -> Obj} (I : Inv X pins σ H s) (h : H p = some (.lst xs))
    (ho : s.heap.get? p = some { cls := .type "list", data := .seq its.toArray n }) (hf : f { cls := .type "list", data := .seq its.toArray n } = { cls := .type "list", data := .seq its'.toArray n' }) (r : Vals ys its') (hz : ys.length <= sizeLine) (t : Nat) :
    Inv X pins σ (upd H p (.lst ys)) { s with heap := s.heap.update p f, toks := t } := by
  have e : (s.heap.update p f).get? p = some { cls := .type "list", data := .seq its'.toArray n' } := by
    rw [Heap.get?_update_self f ho (by rw [hf] <;> rfl), hf]
  refine I.write (x := p) (e := p) (by rw [h]; trivial) (.inl rfl) (fun b u hb q => (Heap.get?_update_other _ _ (Ne.symm hb)).trans q) ⟨_, e⟩ ?_
  exact ⟨hz, its', n', r, e⟩
def Afl : V -> V -> V -> Hp -> (Hp -> Prop) -> Prop := fun o i v H Q => ∃ p xs k j, o = .ref p /\ i = .int k /\ H p = some (.lst xs) /\ ixN xs.length k = some j /\ Q (upd H p (.lst (xs.set j v)))
theorem set_list : Ajn X Afl := by
  intro pins s σ H o i v ov iv u Q I ro ri rv h
  obtain ⟨p, xs, k, j, rfl, rfl, hp, hj, q⟩ := h
  cases ro
  obtain ⟨t, rfl⟩ := ri
  obtain ⟨its, n, r, ho, hz⟩ := I.lst hp
  obtain ⟨h1, h2, h3, h4⟩ := Abw hj
  have hl := r.length
  have hn := Ym
  have I' : Inv X pins σ (upd H p (.lst (xs.set j v))) { s with heap := s.heap.update p (Obj.mapSeq (·.setIfInBounds j u)) } :=
    I.lstUpd hp ho (Yr its n j u) (r.set rv j) (by rw [List.length_set]; exact hz) s.toks
  by_cases h0 : 0 <= k
  . have hk : k.toNat = j := by
      rw [seqIndex_of h0 h4] at h1
      exact Option.some.inj h1
    exact PySem.W.ki_setAt ho h0 (by omega) (by rw [List.size_toArray, <- hl]; exact h4) (by rw [hk]; exact ⟨_, I', q⟩)
  . have hk : (k + (its.toArray.size : Int)).toNat = j := by
      rw [seqIndex_neg (by omega) h3] at h1
      rw [List.size_toArray, <- hl]
      exact Option.some.inj h1
    exact PySem.W.ki_setBack ho (by omega) (by rw [List.size_toArray, <- hl]; exact h3) (by omega) (by rw [hk]; exact ⟨_, I', q⟩)
theorem V4 (lo hi : Option Int) (n : Nat) : (sliceBounds lo hi none n).1 = ((HT.sIx n 0 lo : Nat) : Int) /\ (sliceBounds lo hi none n).2.1 = ((HT.sIx n n hi : Nat) : Int) /\ (sliceBounds lo hi none n).2.2 = 1 := by
  refine ⟨?_, ?_, rfl⟩
  . cases lo with
    | none => simp [sliceBounds, HT.sIx]
    | some i =>
      simp only [sliceBounds, HT.sIx, Option.getD_none, show (1 : Int) > 0 by decide, if_true]
      by_cases h : i < 0
      . simp only [h, if_true] <;> omega
      . simp only [h, if_false] <;> omega
  . cases hi with
    | none => simp [sliceBounds, HT.sIx]
    | some i =>
      simp only [sliceBounds, HT.sIx, Option.getD_none, show (1 : Int) > 0 by decide, if_true]
      by_cases h : i < 0
      . simp only [h, if_true] <;> omega
      . simp only [h, if_false] <;> omega
theorem Uv (its : List Value) (lo hi : Option Int) : slicePick its.toArray lo hi none = ((its.drop (HT.sIx its.length 0 lo)).take (HT.sIx its.length its.length hi - HT.sIx its.length 0 lo)).toArray := by
  obtain ⟨h1, h2, h3⟩ := V4 lo hi its.toArray.size
  unfold slicePick
  rw [h1, h2, h3]
  simp only [sliceRange_one, pick_run, List.size_toArray] <;> rfl
def Akq (K : PySem.W.Frag) : V -> Option Int -> Option Int -> Hp -> VK -> Prop := fun x lo hi H Q => ∃ a xs, x = .ref a /\ SqL K H a xs /\ ∀ p, H p = none -> Q (.ref p) (upd H p (.lst (Nh xs lo hi)))
theorem Wv : SlR X (Akq X.K) := by
  intro pins s σ H x v vl vu lo hi sl Q I rx hs pl pu h
  obtain ⟨a, xs, rfl, hx, q⟩ := h
  cases rx
  obtain ⟨its, r, ht, hz⟩ := I.list hx
  have hlen := r.length
  refine ⟨"list", _, slot_list_getitem.lookup, ht.isList.typeIs, ?_⟩
  refine wpAny_getItem_list_slice ht.isList hs pl pu .none (by simp) ?_ (by rw [List.size_toArray] <;> omega)
  rw [Uv, <- hlen]
  refine ⟨.ref s.heap.objs.size, _, I.laid (t' := s.toks) (o := .lst (Nh xs lo hi)) (fun b ob q => Heap.get?_push_of_some _ q) (Nat.le_refl _) ?_, rfl, q _ (I.hok.fresh (Nat.le_refl _))⟩
  exact ⟨Nat.le_trans (Ry xs lo hi) hz, _, 0, (r.drop (HT.sIx xs.length 0 lo)).take (HT.sIx xs.length xs.length hi - HT.sIx xs.length 0 lo), Heap.get?_push_size _ rfl⟩
theorem Bc : Kg X (.builtin "len") (fun xs H Q => ∃ p ys, xs = [.ref p] /\ (SqL X.K H p ys \/ SqT X.K H p ys) /\ Q (.int ys.length) H) := by
  intro pins s σ H xs us Q I r h
  obtain ⟨p, ys, rfl, hq, q⟩ := h
  obtain ⟨u, rfl, rx⟩ := vals1 r
  cases rx
  have hn := Ym
  rcases hq with hq | hq
  . obtain ⟨its, r', pl, hz⟩ := I.list hq
    have hlen := r'.length
    exact Calls.call_len_list pl.isList (by simp only [List.size_toArray] <;> omega) ⟨.int ys.length, H, I.tok _, ⟨s.toks + 1, by rw [List.size_toArray, hlen]⟩, q⟩
  . obtain ⟨its, r', pl, hz⟩ := I.tuple hq
    have hlen := r'.length
    exact len_tuple pl (by simp only [List.size_toArray] <;> omega) ⟨.int ys.length, H, I.tok _, ⟨s.toks + 1, by rw [List.size_toArray, hlen]⟩, q⟩
theorem Kg.or {f : Value} {r r' : List V -> Hp -> VK -> Prop} (h : Kg X f r) (h' : Kg X f r') : Kg X f (fun xs H Q => r xs H Q \/ r' xs H Q) := by
  intro pins s σ H xs us Q I rs q
  rcases q with q | q
  . exact h pins s σ H xs us Q I rs q
  . exact h' pins s σ H xs us Q I rs q
theorem Dz : Kg X (.type "list") (fun xs H Q => ∃ p ys, xs = [.ref p] /\ (SqL X.K H p ys \/ SqT X.K H p ys) /\ ∀ l, H l = none -> Q (.ref l) (upd H l (.lst ys))) := by
  intro pins s σ H xs us Q I r h
  obtain ⟨p, ys, rfl, hq, q⟩ := h
  obtain ⟨u, rfl, rx⟩ := vals1 r
  cases rx
  have fin : ∀ (its : List Value), Vals ys its -> ys.length <= sizeLine -> ∀ (h' : Heap) (c' : Nat), (∀ b o', s.heap.get? b = some o' -> h'.get? b = some o') ->
      h'.get? s.heap.objs.size = some { cls := .type "list", dict := none, data := .seq its.toArray c', slots := #[] } -> EP X pins σ Q (.ref s.heap.objs.size) { s with heap := h' } := fun its r' hz h' c' kp e =>
    ⟨.ref s.heap.objs.size, _, I.laid (t' := s.toks) kp (Nat.le_refl _) (show Jh X.prog X.w _ h' _ (.lst ys) from ⟨hz, its, c', r', e⟩), rfl, q _ (I.hok.fresh (Nat.le_refl _))⟩
  rcases hq with hq | hq
  . obtain ⟨its, r', pl, hz⟩ := I.list hq
    have hlen := r'.length
    obtain ⟨o, ho, hc, n, hd⟩ := pl.isList
    exact call_list_seq p (.inl rfl) ho hc hd (fun h' c' kp e => fin its r' hz h' c' kp e) (by simp only [List.size_toArray] <;> omega)
  . obtain ⟨its, r', pl, hz⟩ := I.tuple hq
    have hlen := r'.length
    obtain ⟨o, ho, hc, n, hd⟩ := pl
    exact call_list_seq p (.inr rfl) ho hc hd (fun h' c' kp e => fin its r' hz h' c' kp e) (by simp only [List.size_toArray] <;> omega)
theorem Ep : Kg X (.type "tuple") (fun xs H Q => ∃ p ys, xs = [.ref p] /\ ((SqL X.K H p ys /\ ∀ l, H l = none -> Q (.ref l) (upd H l (.tup ys))) \/ (SqT X.K H p ys /\ Q (.ref p) H))) := by
  intro pins s σ H xs us Q I r h
  obtain ⟨p, ys, rfl, h⟩ := h
  obtain ⟨u, rfl, rx⟩ := vals1 r
  cases rx
  rcases h with ⟨hq, q⟩ | ⟨hq, q⟩
  . obtain ⟨its, r', pl, hz⟩ := I.list hq
    have hlen := r'.length
    refine call_tuple_list pl.isList (fun h' kp => ?_) (by simp only [List.size_toArray] <;> omega)
    have I1 : Inv X pins σ H { s with heap := h' } := I.kept (t' := s.toks) kp
    have I2 : Inv X pins σ (upd H h'.objs.size (.tup ys)) { s with heap := h'.push { cls := .type "tuple", data := .seq its.toArray } } :=
      I1.laid (t' := s.toks) (fun b o e => Heap.get?_push_of_some _ e) (Nat.le_refl _) (show Jh X.prog X.w _ _ _ (.tup ys) from ⟨hz, its, r', IsTup.new _ _⟩)
    exact ⟨.ref h'.objs.size, _, I2, rfl, q _ (I1.hok.fresh (Nat.le_refl _))⟩
  . obtain ⟨its, r', pl, hz⟩ := I.tuple hq
    exact call_tuple_same pl ⟨.ref p, H, I, rfl, q⟩
def tyV (K : PySem.W.Frag) (T : String) (x : V) (H : Hp) : Prop := match x with
  | .str _ => T = "str"
  | .int _ => T = "int"
  | .ref p => (T = "list" /\ ∃ xs, SqL K H p xs) \/ (T = "tuple" /\ ∃ o, K.lookup p = some o /\ o.cls = .type "tuple" /\ o.dict = none) \/
      (T = "dict" /\ ((∃ kvs, H p = some (.dK kvs)) \/ ∃ kvs, H p = some (.dT kvs))) \/ (T = "set" /\ ∃ S n, H p = some (.set S n))
  | _ => False
theorem Ah8 {pins : List (Addr × Obj)} {σ : St} {H : Hp} {s : Shared} {T : String} {x : V} {v : Value} (I : Inv X pins σ H s) (r : RelV x v) (ty : tyV X.K T x H) :
    s.TypeIs v T /\ ∀ a, v = .ref a -> ∃ ob, s.heap.get? a = some ob /\ ob.dict = none := by
  cases x with
  | str z =>
    obtain ⟨t, rfl⟩ := r
    cases (show T = "str" from ty)
    exact ⟨typeIs_str s z t, fun _ e => nomatch e⟩
  | int i =>
    obtain ⟨t, rfl⟩ := r
    cases (show T = "int" from ty)
    exact ⟨typeIs_int s i t, fun _ e => nomatch e⟩
  | ref p =>
    cases r
    rcases ty with ⟨rfl, xs, hq⟩ | ⟨rfl, o, hk, hc, hd⟩ | ⟨rfl, hk⟩ | ⟨rfl, S, n, hk⟩
    . obtain ⟨its, _, pl, _⟩ := I.list hq
      refine ⟨pl.isList.typeIs, fun a e => ?_⟩
      cases e
      obtain ⟨o, n, e, c, hd, _⟩ := pl
      exact ⟨o, e, hd⟩
    . refine ⟨⟨o, I.kIn p o hk, hc⟩, fun a e => ?_⟩
      cases e
      exact ⟨o, I.kIn _ o hk, hd⟩
    . have z : ∃ o, s.heap.get? p = some o /\ o.ExactDict := by
        rcases hk with ⟨kvs, hk⟩ | ⟨kvs, hk⟩
        . obtain ⟨_, _, _, _, o, _, _, e, ex, _⟩ := I.hok p _ hk
          exact ⟨o, e, ex⟩
        . obtain ⟨_, _, _, _, o, _, _, e, ex, _⟩ := I.hok p _ hk
          exact ⟨o, e, ex⟩
      obtain ⟨o, e, ex⟩ := z
      refine ⟨⟨o, e, ex.1⟩, fun a e2 => ?_⟩
      cases e2
      exact ⟨o, e, ex.2.1⟩
    . obtain ⟨o, _, _, _, e, ex, _⟩ := I.hok p _ hk
      refine ⟨⟨o, e, ex.1⟩, fun a e2 => ?_⟩
      cases e2
      exact ⟨o, e, ex.2.1⟩
  | _ => exact False.elim ty
def Aky (K : PySem.W.Frag) (T : String) (r : V -> List V -> Hp -> VK -> Prop) (to : TE) : TE := fun σ H Q => to σ H fun x H1 => tyV K T x H1 /\ r x [] H1 Q
def tBM (K : PySem.W.Frag) (T : String) (r : V -> List V -> Hp -> VK -> Prop) (to : TE) (t : TA) : TE := fun σ H Q => to σ H fun x H1 => tyV K T x H1 /\ t σ H1 fun xs H2 => r x xs H2 Q
variable {o e : Expr} {es : List Expr} {to : TE} {t : TA} {name : Str} {apos cpos : Pos} {T id : String} {r : V -> List V -> Hp -> VK -> Prop}
theorem Pn (pa : PlainAttrs T) (slot : Slot T name id) (hty : typeOf (.builtin id) = pure (.type "method_descriptor")) (hm : MtR X id r) (ho : PE X o to) (ha : PA X (e :: es) t)
    (hbase : attributeBase o name X.env (eval o X.env) = eval o X.env := by rfl)
    (hfew : ((backTo cpos (starEach (e :: es) X.env)).all (fun x => !x.1) && (backToKw cpos (keywordEach [] X.env)).all (fun x => x.1.isSome)
      && decide ((e :: es).length + ([] : List Keyword).length + (if ([] : List Keyword).isEmpty then 0 else 1) < 30)) = true := by rfl)
    (hline : (apos.endLine == cpos.line) = true := by rfl) (hs : starEach (e :: es) X.env = (false, eval e X.env) :: starEach es X.env := by rfl) (hplain : (backTo cpos (starEach es X.env)).any (·.1) = false := by rfl) :
    PE X (.Call (.Attribute o name apos) (e :: es) [] cpos) (tBM X.K T r to t) := by
  intro pins s σ H Q I h
  refine wpAny_Call_method_late hbase hfew hline rfl (thn (ho pins s σ H _ I h) fun v s1 ⟨x, H1, I1, r1, ty, q1⟩ => ?_)
  obtain ⟨h1, h2⟩ := Ah8 I1 r1 ty
  refine ⟨T, id, pa, slot, hty, h1, h2, ?_⟩
  have hA := ha cpos pins s1 σ H1 _ I1 q1
  rw [hs] at hA ⊢
  refine Calls.callWith_builtin (by show (false || (backTo cpos (starEach es X.env)).any (·.1)) = false; rw [hplain] <;> rfl) (Calls.evalArgs_plain ?_)
  exact thn hA fun us s2 ⟨vs, H2, I2, r2, q2⟩ => hm pins s2 σ H2 x vs v us Q I2 r1 r2 q2
/- xs.append(e), list.index on a module's tuple .. are MtR facts of 06m -/
end
end L2
namespace L2
open PySem PySem.Spec PyProof.Rows
def MtM (X : Cx) (id : String) (r : V -> List V -> Hp -> VK -> Prop) : Prop :=
  ∀ (pins : List (Addr × Obj)) (s : Shared) (σ : St) (H : Hp) (x : V) (xs : List V) (v : Value) (us : List Value) (Q : VK), Inv X pins σ H s -> RelV x v -> Vals xs us -> r x xs H Q ->
    wpAny (model X.prog X.w) X.A (call (.builtin id) (v :: us)) (EP X pins σ Q) X.xe s
theorem Vals.one : ∀ {x : V} {us : List Value}, Vals [x] us -> ∃ u, us = [u] /\ RelV x u
  | _, _, .cons r .nil => ⟨_, rfl, r⟩
theorem Vals.two : ∀ {x y : V} {us : List Value}, Vals [x, y] us -> ∃ u v, us = [u, v] /\ RelV x u /\ RelV y v
  | _, _, _, .cons r (.cons q .nil) => ⟨_, _, rfl, r, q⟩
theorem Vals.zero : ∀ {us : List Value}, Vals [] us -> us = []
  | _, .nil => rfl
theorem Vals.reverse {xs : List V} {us : List Value} (h : Vals xs us) : Vals xs.reverse us.reverse := by
  induction h with
  | nil => exact .nil
  | cons r t ih => rw [List.reverse_cons, List.reverse_cons]; exact Vals.append ih (.cons r .nil)
theorem Vals.rep {xs : List V} {us : List Value} (h : Vals xs us) : ∀ k : Nat, Vals (List.replicate k xs).flatten (List.replicate k us).flatten
  | 0 => .nil
  | k + 1 => by
    rw [List.replicate_succ, List.replicate_succ, List.flatten_cons, List.flatten_cons]
    exact Vals.append h (Vals.rep h k)
theorem foldl_rep (its : List Value) : ∀ (k : Nat) (acc : List Value),
    List.foldl (fun x1 x2 => x1 ++ x2) acc.toArray (List.replicate k its.toArray) = (acc ++ (List.replicate k its).flatten).toArray
  | 0, acc => by simp
  | k + 1, acc => by
    have e : acc.toArray ++ its.toArray = (acc ++ its).toArray := by simp
    have e2 : (acc ++ its) ++ (List.replicate k its).flatten = acc ++ (List.replicate (k + 1) its).flatten := by
      rw [List.replicate_succ, List.flatten_cons, List.append_assoc]
    rw [<- e2, <- foldl_rep its k (acc ++ its), <- e, List.replicate_succ, List.foldl_cons]
section
variable {X : Cx} {pins : List (Addr × Obj)} {σ : St} {H : Hp} {s : Shared} {l b : Addr} {xs ys zs : List V}
theorem Inv.lset {its its' : List Value} {n : Nat} {f : Array Value -> Array Value} {t' : Nat} (I : Inv X pins σ H s) (hH : H l = some (.lst xs))
    (e : s.heap.get? l = some { cls := .type "list", data := .seq its.toArray n }) (hf : f its.toArray = its'.toArray) (hv : Vals ys its') (hz : ys.length <= sizeLine) :
    Inv X pins σ (upd H l (.lst ys)) { s with heap := s.heap.update l (Obj.mapSeq f), toks := t' } := by
  have q := PySem.IsL.update e f
  rw [hf] at q
  refine I.write (x := l) (e := l) (by rw [hH]; exact trivial) (.inl rfl) (fun b' u hb hu => (Heap.get?_update_other s.heap (Obj.mapSeq f) (Ne.symm hb)).trans hu) ⟨_, q⟩ ?_
  exact ⟨hz, its', _, hv, q⟩
theorem Inv.lnew {its : List Value} {t' : Nat} (I : Inv X pins σ H s) (hv : Vals ys its) (hz : ys.length <= sizeLine) :
    Inv X pins σ (upd H s.heap.objs.size (.lst ys)) { s with heap := s.heap.push { cls := .type "list", data := .seq its.toArray }, toks := t' } :=
  I.laid (fun _ _ q => Heap.get?_push_of_some _ q) (Nat.le_refl _) ⟨hz, its, 0, hv, Heap.get?_push_size _ rfl⟩
theorem Inv.fresh (I : Inv X pins σ H s) : H s.heap.objs.size = none := I.hok.fresh (Nat.le_refl _)
theorem Inv.lstM (I : Inv X pins σ H s) (hH : H l = some (.lst xs)) : xs.length <= sizeLine /\ ∃ (its : List Value) (n : Nat), Vals xs its /\ xs.length = its.length /\ s.heap.get? l = some { cls := .type "list", data := .seq its.toArray n } := by
  obtain ⟨z, its, n, r, e⟩ := I.hok l _ hH
  exact ⟨z, its, n, r, r.length, e⟩
theorem Adb {n : Nat} (h : n <= sizeLine) : Builtin.List.listTooLong n = false := by
  unfold Builtin.List.listTooLong
  exact decide_eq_false (by omega)
end
section
variable {X : Cx}
def Afh : V -> List V -> Hp -> VK -> Prop := fun x vs H Q => ∃ l xs y, x = .ref l /\ vs = [y] /\ H l = some (.lst xs) /\ xs.length < sizeLine /\ Q .non (upd H l (.lst (xs ++ [y])))
theorem K1 : MtM X "list.append" Afh := by
  intro pins s σ H x vs v us Q I rx rv h
  obtain ⟨l, xs, y, rfl, rfl, hH, hz, q⟩ := h
  cases rx
  obtain ⟨u, rfl, ru⟩ := rv.one
  obtain ⟨z, its, n, r, hl, e⟩ := I.lstM hH
  refine call_meets F.slot_list_append ⟨_, e, rfl⟩ F.entry_list_append (F.args_list_append_2 _ _) (PySem.list_append l its.toArray n u (by rw [List.size_toArray]; omega)) ⟨e, ?_⟩
  refine ⟨.non, _, I.lset (its' := its ++ [u]) hH e (by simp) (r.append (.cons ru .nil)) ?_, rfl, q⟩
  rw [List.length_append, List.length_singleton]
  omega
def Aks : R2 := fun x y H Q => ∃ l b xs zs, x = .ref l /\ y = .ref b /\ H l = some (.lst xs) /\ H b = some (.lst zs) /\ xs.length + zs.length <= sizeLine /\ ∀ p, H p = none -> Q (.ref p) (upd H p (.lst (xs ++ zs)))
theorem Aao : OpR X (binaryOp .Add) Aks := by
  intro pins s σ H x y v u Q I rx ry h
  obtain ⟨l, b, xs, zs, rfl, rfl, hH, hB, hz, q⟩ := h
  cases rx
  cases ry
  obtain ⟨z, its, n, r, hl, e⟩ := I.lstM hH
  obtain ⟨z2, its2, n2, r2, hl2, e2⟩ := I.lstM hB
  refine PySem.P.add_list e e2 ?_ (by rw [List.size_toArray, List.size_toArray]; omega)
  have ea : its.toArray ++ its2.toArray = (its ++ its2).toArray := by simp
  rw [ea]
  exact ⟨.ref _, _, I.lnew (t' := s.toks) (r.append r2) (by rw [List.length_append]; omega), rfl, q _ I.fresh⟩
def Akm : R2 := fun x y H Q => ∃ l k xs, x = .ref l /\ y = .int k /\ H l = some (.lst xs) /\ -(2 ^ 63) <= k /\ k < 2 ^ 63 /\ xs.length * k.toNat <= sizeLine /\
  ∀ p, H p = none -> Q (.ref p) (upd H p (.lst (List.replicate k.toNat xs).flatten))
theorem len_rep {α : Type} (xs : List α) (k : Nat) : (List.replicate k xs).flatten.length = k * xs.length := by
  induction k with
  | zero => simp
  | succ k ih => rw [List.replicate_succ, List.flatten_cons, List.length_append, ih, Nat.succ_mul, Nat.add_comm]
theorem Aah : OpR X (binaryOp .Mult) Akm := by
  intro pins s σ H x y v u Q I rx ry h
  obtain ⟨l, k, xs, rfl, rfl, hH, h1, h2, hz, q⟩ := h
  cases rx
  obtain ⟨t, rfl⟩ := ry
  obtain ⟨z, its, n, r, hl, e⟩ := I.lstM hH
  have hlen : its.toArray.size * k.toNat <= sizeLine := by rw [List.size_toArray, <- hl]; exact hz
  have hcap : ¬ its.toArray.size * k.toNat > (2 ^ 63 - 1) / 8 := by
    have : (sizeLine : Nat) <= (2 ^ 63 - 1) / 8 := by decide
    omega
  have hfit : ¬ (!Builtin.List.listFitsIndex k) = true := by
    rw [fitsIndex_both h1 h2]
    exact Bool.false_ne_true
  have hlong : ¬ Builtin.List.listTooLong (its.toArray.size * k.toNat) = true := by
    rw [Adb hlen]
    exact Bool.false_ne_true
  have hnew : List.foldl (fun x1 x2 => x1 ++ x2) #[] (List.replicate (if its.toArray.isEmpty = true then 0 else k.toNat) its.toArray) = (List.replicate k.toNat its).flatten.toArray := by
    have f0 : ∀ m : Nat, List.foldl (fun x1 x2 => x1 ++ x2) #[] (List.replicate m its.toArray) = (List.replicate m its).flatten.toArray := fun m => by
      have := foldl_rep its m []
      rw [List.nil_append] at this
      exact this
    rw [f0]
    cases its with
    | nil => simp
    | cons a r' => rw [if_neg (by simp)]
  refine wpAny_binaryOp_repeat_ref (T := "list") (U := "int") (by decide) ⟨_, e, rfl⟩ (fun s' => typeIs_int s' k t) noFill_list_mul F.fills_int_mul F.slot_int_rmul repeat_list F.slot_int_index.lookup
    (call_meets F.slot_int_rmul (typeIs_int s k t) F.entry_int_rmul (F.args_int_rmul_2 _ _) (int___rmul___int_list k t l its.toArray n)
      ⟨e, rfl, ⟨_, e, rfl⟩, call_meets F.slot_list_mul ⟨_, e, rfl⟩ F.entry_list_mul (F.args_list_mul_2 _ _) (AutoListH.list___mul___list_int_3 l its.toArray n k t hfit hcap hlong) ⟨e, ?_⟩⟩)
  rw [hnew]
  exact ⟨.ref _, _, I.lnew (t' := s.toks) (r.rep k.toNat) (by rw [len_rep, Nat.mul_comm]; exact hz), rfl, q _ I.fresh⟩
end
end L2
namespace Att
open PySem PySem.W PySem.Calls PyProof.Rows
theorem Qq {P : Params} {h : Heap} : ∀ (ns : List Int) (vs : List Value), WellAll P h vs (ns.map WData.int) -> IntsAre vs ns := by
  intro ns
  induction ns with
  | nil =>
    intro vs w
    rw [List.map_nil] at w
    cases w
    exact .nil
  | cons n ns ih =>
    intro vs w
    rw [List.map_cons] at w
    cases w with
    | cons a b =>
      cases a
      exact .cons _ _ (ih _ b)
theorem Ab3 {l : OpenLaw} {n : Nat} (hn : l.most = some n) {P : Params} {h : Heap} {args : List WData} {vals : List Value}
    (hpre : l.row.toRowW.claim.pre args = true) (hwl : WellAll P h vals args) :
    ∃ a vs ns, vals = [Value.ref a] /\ args = [WData.list (ns.map WData.int)] /\ h.get? a = some { cls := .type "list", data := .seq vs.toArray } /\ IntsAre vs ns /\ ns.length <= n := by
  have hsh : WShape.hasAll [] args [.list .int] = true := (pre_splitW hpre).1
  have hc : l.pre.holds [] { args := args } = true := (pre_splitW hpre).2
  obtain ⟨d, r, rfl, h1, h2⟩ := hasAllW_cons hsh
  obtain rfl := hasAllW_nil h2
  obtain ⟨xs, rfl, h3⟩ := hasW_list h1
  obtain ⟨ns, rfl⟩ := items_int h3
  have hlen : ns.length <= n := by
    unfold OpenLaw.pre at hc
    have h4 : (WTm.not (.lt (.lit (.int (n : Int))) (.len (.arg 0)))).holds [] { args := [.list (ns.map .int)] } = true := by
      have h4 := (holds_andW hc).1
      rw [hn] at h4
      exact h4
    have h5 := condW_of h4 (w_not (w_lt w_lit (w_len_list (w_arg rfl))))
    rw [List.length_map] at h5
    refine Nat.le_of_not_lt fun q => ?_
    have q' : (n : Int) < ((ns.length : Nat) : Int) := by omega
    first
      | (rw [decide_eq_true q'] at h5; exact absurd h5 (by decide))
      | (simp at h5; omega)
  cases hwl with
  | cons w1 w2 =>
    cases w2
    cases w1 with
    | list ho hall => exact ⟨_, _, ns, rfl, rfl, ho, Qq ns _ hall, hlen⟩
theorem Aa9 (l : OpenLaw) (args : List WData) : l.row.toRowW.claim.post args (.bool true) args = true :=
  postW_of (r := l.row.toRowW) (X := (true == true))
    (show WShape.has [] (.bool true) .bool = true by first | rfl | decide | simp [WShape.has, WShape.arms, WShape.armsAll])
    (show (WTm.eq .res (.lit (.bool true))).value [] { args := args, res := some (.bool true), after := args } = some (.bool (true == true)) from w_eq_bool (w_res rfl) w_lit) rfl
theorem Xk {l : OpenLaw} {n : Nat} {q : Program} {loose : List Str} {XP : (Str -> Option Value) -> Heap -> Prop} {YP : World -> Heap -> Prop} {d : DefRec}
    (hn : l.most = some n) (hdf : d.params.defaults = [])
    (call : ∀ (w : World) (s₀ s₁ : Shared) (mg mb : Str -> Option Value) (fa : Addr) (o : Obj) (pm cd doc : Value) (a : Addr) (vs : List Value) (ns : List Int),
      Ground q loose [] XP w s₀ mg mb s₁.heap -> YP w s₁.heap ->
      s₁.heap.get? fa = some o -> o.data = .func (docDef d.name d.params d.body d.scope pm cd doc) -> s₁.heap.CodeRec cd d.name -> mg d.name = some (.ref fa) ->
      s₁.heap.get? a = some { cls := .type "list", data := .seq vs.toArray } -> IntsAre vs ns -> ns.length <= n -> s₁.gens = #[] ->
      codeAny (model l.prog w) callerA (.call (.ref fa) ⟨[.ref a], []⟩) (fun r s' => r = .ok (.ret (.bool true)) /\ OldK s₁.heap s'.heap /\ s'.os = s₁.os /\ AllBare s'.gens) s₁) :
    WalkO q loose XP YP l.row.toRowW d [] (fun f vs => PySem.call f vs) := by
  intro w s₀ s₁ mg mb G Y fa o pm cd doc dV kV ho hd hcd hD hmg hg args vals as hpre hlay hrd hwl hlo
  obtain rfl : dV = .none := Dflts.none hD hdf
  obtain rfl : kV = .none := Dflts.noKw hD
  obtain ⟨a, vs, ns, rfl, rfl, hobj, hints, hlen⟩ := Ab3 hn hpre hwl
  refine enter_call (codeAny_mono (call w s₀ s₁ mg mb fa o pm cd doc a vs ns G Y ho (fd_plain hd) hcd hmg hobj hints hlen hg) fun r s' hq => ?_)
  obtain ⟨rfl, h2, h3, h4⟩ := hq
  exact ⟨.inl ⟨.bool true, .bool true, [], rfl, fun _ => rfl, .bool true, Aa9 l _, fun _ => ⟨List.Pairwise.nil, fun _ hm => (nomatch hm)⟩⟩, h2, h3, h4⟩
end Att
namespace L2
open PySem PySem.Spec PyProof.Rows
theorem Vg : ∀ {vs : List Value} {ns : List Int}, IntsAre vs ns -> Vals (ns.map V.int) vs
  | _, _, .nil => .nil
  | _, _, .cons n t h => .cons ⟨t, rfl⟩ (Vg h)
def Only (H : Hp) : Prop := ∀ b, H b = none \/ ∃ o xs, H b = some (.frz o (.lst xs))
theorem Ads {P : Program} {w : World} {K : PySem.W.Frag} {mg mb : Str -> Option Value} {CX : CXT} {k : Nat} {fa a : Addr} {fd : FuncData} {x : Str} {sp : Sp} {s₁ : Shared} {vs : List Value} {ns : List Int}
    (KX : K.In s₁.heap) (hns : s₁.heap.Ns mainGlobals mg) (hb : s₁.heap.Ns builtinsNs mb) (hbb : ∀ x : Str, x ≠ "__name__" -> mb x = bootBuiltins x) (hlim : s₁.heap.NoLimit) (hg : s₁.gens = #[])
    (ha : s₁.heap.get? a = some { cls := .type "list", data := .seq vs.toArray }) (hi : IntsAre vs ns) (hl : ns.length <= sizeLine) (hr : M9 k callerA)
    (F : ∀ base : Heap, K.In base -> base.Ns mainGlobals mg -> Qi P w K mg base CX k fa fd [x] sp) (hbind : ∀ (s : Shared) (u : Value), BindsTo s fd ⟨[u], []⟩ [(x, u)])
    (hsp : ∀ H : Hp, Only H -> SqL K H a (ns.map V.int) -> sp [.ref a] H (fun v _ => v = .bl true) fun _ _ _ => False)
    (hCX : ∀ H e s', CX [] H s₁ (fun _ _ _ => False) e s' -> False) :
    codeAny (model P w) callerA (.call (.ref fa) ⟨[.ref a], []⟩) (fun r s' => r = .ok (.ret (.bool true)) /\ OldK s₁.heap s'.heap /\ s'.os = s₁.os /\ AllBare s'.gens) s₁ := by
  have rv := Vg hi
  have lenV := hi.length
  have core : ∀ H : Hp, Only H -> SqL K H a (ns.map V.int) -> HOk P w H s₁.heap -> (∀ b, H b ≠ none -> b = a) -> (H a ≠ none -> K.lookup a = none) ->
      codeAny (model P w) callerA (.call (.ref fa) ⟨[.ref a], []⟩) (fun r s' => r = .ok (.ret (.bool true)) /\ OldK s₁.heap s'.heap /\ s'.os = s₁.os /\ AllBare s'.gens) s₁ := by
    intro H hO hS hok hA hK
    have base_of : ∀ {b : Addr} {o : Obj}, s₁.heap.get? b = some o -> H b = none -> (Ad0 s₁.heap H).get? b = some o := fun e n => Adg e n
    have noA : ∀ {b : Addr} {o : Obj} {es : Array DictEntry} {ep : Nat}, s₁.heap.get? b = some o -> o.data = .dict es ep -> H b = none := fun {b o es ep} e d => by
      cases q : H b with
      | none => rfl
      | some u =>
        have e' : b = a := hA b (by rw [q]; simp)
        subst e'
        rw [ha] at e; cases e
        have d' : Data.seq vs.toArray _ = Data.dict es ep := d
        cases d'
    have nsK : ∀ {b : Addr} {m : Str -> Option Value}, s₁.heap.Ns b m -> (Ad0 s₁.heap H).Ns b m := fun {b m} ⟨o, es, ep, e, d, r⟩ => ⟨o, es, ep, base_of e (noA e d), d, r⟩
    have hKb : K.In (Ad0 s₁.heap H) := fun b o e => base_of (KX b o e) (by
      cases q : H b with
      | none => rfl
      | some u =>
        have e' : b = a := hA b (by rw [q]; simp)
        subst e'
        rw [hK (by rw [q]; simp)] at e; cases e)
    have hM : Mod K mg (Ad0 s₁.heap H) := ⟨hKb, nsK hns, ⟨mb, nsK hb, hbb⟩, let ⟨mc, h1, h2⟩ := hlim; ⟨mc, nsK h1, h2⟩⟩
    have e0 : Acw P w K mg (Ad0 s₁.heap H) callerA [] s₁ H := ⟨rfl, hM, fun b o e => Agx e, Nat.le_of_eq (Aa2 _ _), trivial, fun b hb => absurd (show b ∈ ([] : List Addr) from hb) (by simp), hok, .of_eq hg⟩
    refine codeAny_mono ((F _ hKb (nsK hns)).run callerA [] s₁ H ⟨[.ref a], []⟩ [.ref a] [.ref a] _ _ hr e0 (hbind s₁ (.ref a)) (.cons rfl .nil) (hsp H hO hS)) fun r s' h => ?_
    cases r with
    | error e => exact (hCX H e s' h).elim
    | ok fl =>
      cases fl with
      | next => exact False.elim h
      | brk => exact False.elim h
      | cont => exact False.elim h
      | ret u =>
        obtain ⟨v, H', os, bare, un, hok', r', q⟩ := h
        have q' : v = .bl true := q
        subst q'
        obtain rfl : u = Value.bool true := r'
        refine ⟨rfl, OldK.of_keep fun b o e => ?_, os, bare⟩
        cases q : H b with
        | none => exact un.keep b o e q (by intro z; exact absurd (show b ∈ ([] : List Addr) from z) (by simp)) (by simp)
        | some u =>
          rcases hO b with z | ⟨ob, xs, z⟩
          . rw [q] at z; cases z
          . have z2 := un.frzs b ob _ z
            obtain ⟨e1, _⟩ := hok b _ z
            obtain ⟨e2, _⟩ := hok' b _ z2
            rw [e] at e1; cases e1
            exact e2
  cases hk : K.lookup a with
  | some o =>
    have e := KX a o hk
    rw [ha] at e
    cases e
    refine core (fun _ => none) (fun _ => .inl rfl) (.inr ⟨_, vs.toArray, _, hk, rfl, rfl, rfl, by rw [List.size_toArray, lenV]; exact hl, by simpa using rv⟩) (fun b u z => by have z' : (none : Option HO) = some u := z; cases z') (fun b z => absurd rfl z) fun z => absurd rfl z
  | none =>
    refine core (fun b => if b = a then some (.frz { cls := .type "list", data := .seq vs.toArray } (.lst (ns.map V.int))) else none) (fun b => ?_) (.inl (.inr ⟨{ cls := .type "list", data := .seq vs.toArray }, if_pos rfl⟩)) (fun b u z => ?_) (fun b z => ?_) fun _ => hk
    . by_cases hb : b = a
      . exact .inr ⟨_, _, if_pos hb⟩
      . exact .inl (if_neg hb)
    . by_cases hb : b = a
      . have z' := (if_pos hb).symm.trans z
        cases z'
        subst hb
        exact ⟨ha, by rw [List.length_map]; exact hl, vs, _, rv, ha⟩
      . have z' := (if_neg hb).symm.trans z
        cases z'
    . by_cases hb : b = a
      . exact hb
      . exact absurd (if_neg hb) z
end L2
namespace L2
open PySem PySem.Spec PyProof.Rows
theorem Aaz {l : PySem.W.OpenLaw} {n k : Nat} {q : Program} {loose : List Str} {XP : (Str -> Option Value) -> Heap -> Prop} {YP : World -> Heap -> Prop} {d : DefRec} {K : Params -> PySem.W.Frag} {CX : World -> CXT} {sp : World -> Sp} {x : Str}
    (hn : l.most = some n) (hn2 : n <= sizeLine) (hdf : d.params.defaults = []) (hr : M9 k callerA)
    (hY : ∀ (w : World) (h : Heap), YP w h -> (K w.params).In h)
    (F : ∀ (w : World) (mg : Str -> Option Value) (fa : Addr) (h : Heap), (K w.params).In h -> h.Ns mainGlobals mg -> mg d.name = some (.ref fa) ->
      ∃ fd : FuncData, (∀ (s : Shared) (u : Value), BindsTo s fd ⟨[u], []⟩ [(x, u)]) /\
        ∀ base : Heap, (K w.params).In base -> base.Ns mainGlobals mg -> Qi l.prog w (K w.params) mg base (CX w) k fa fd [x] (sp w))
    (hsp : ∀ (w : World) (H : Hp) (a : Addr) (ns : List Int), ns.length <= n -> Only H -> SqL (K w.params) H a (ns.map V.int) -> sp w [.ref a] H (fun v _ => v = .bl true) fun _ _ _ => False)
    (hCX : ∀ (w : World) (H : Hp) (s : Shared) (e : Value) (s' : Shared), CX w [] H s (fun _ _ _ => False) e s' -> False) :
    PySem.W.WalkO q loose XP YP l.row.toRowW d [] (fun f vs => PySem.call f vs) := by
  refine Att.Xk hn hdf fun w s₀ s₁ mg mb fa o pm cd doc a vs ns G Y ho hd hcd hmg hobj hints hlen hg => ?_
  have KX := hY w _ Y
  obtain ⟨fd, hb, hF⟩ := F w mg fa _ KX G.T.g hmg
  exact Ads KX G.T.g G.T.b G.T.builtins G.T.nolimit hg hobj hints (Nat.le_trans hlen hn2) hr hF hb (fun H hO hS => hsp w H a ns hlen hO hS) fun H e s' => hCX w H s₁ e s'
end L2
/- THE LAST THEOREM (shape; LID, My.* are yours):
   My.Adr: a structure of the addresses that your layer names (classes, functions); My.Txt K t: a structure (Prop) of the equations over K;
   My.txt_mk : {K} {implicit addresses ..} (e1 : nsIn K mainGlobals "law" = some (some (.ref f))) (e2 : K.lookup f = some ⟨oc, od, .func (fnOf "law" "law" params body scope dV kV doc pm an cdv ct), sl⟩) (e3 : codeIn K cdv "law" = true) .. : ∃ t, My.Txt K t
set_option maxRecDepth 100000 in
set_option maxHeartbeats 0 in
theorem PySem.Challenge.cw_LID_holds : PySem.Challenge.rw_LID.Holds := by
  w_on; o_law; k_head; (case hw => w_witness2)
  k_fill
  refine L2.Aaz (l := PySem.Challenge.rw_LID) (n := 63) (k := 40) (x := "script") (CX := fun w => ..) (sp := fun _ => My.sp_law) rfl (by decide) rfl ⟨rfl, by decide, by decide⟩ (fun w h Y => PySem.W.kIn_of Y) ?F ?S ?C
  case F =>
    intro w mg fa h KX G hmg
    have T : ∃ t, My.Txt (L2.KOf KX) t := by
      dsimp only [L2.KOf]                          -- K must stand as «<heap const> w.params» for k_is
      refine' My.txt_mk ?e1 ?e2 ?e3 ..
      (case e1 => PySem.W.k_is)                    -- in the order: a name -> its address -> its object -> its parts
      (case e2 => PySem.W.k_is)
      ..
    obtain ⟨t, T⟩ := T
    have e0 := hmg.symm.trans (PySem.W.mg_of KX G T.law)
    cases e0                                       -- fa is the law's own address
    exact ⟨_, fun s u => .of_eq rfl, fun base kb nb => My.law_fn T kb nb⟩     -- if «.of_eq rfl» comes too early: refine' ⟨_, ?b, fun base kb nb => My.law_fn T kb nb⟩; exact fun s u => .of_eq rfl
  case S => exact fun w H a ns hl hO hS => ..
  case C => exact ..
(the tactic k_is has no namespace: write k_is) -/
namespace L2
open PySem PySem.Spec PyProof.Rows
def M5 (s : Stmt) : Arguments := match s with
  | .FunctionDef _ a _ _ _ _ _ _ _ _ => a
  | _ => { posonlyargs := [], args := [], vararg := none, kwonlyargs := [], kw_defaults := [], kwarg := none, defaults := [] }
def K7 (s : Stmt) : List Stmt := match s with
  | .FunctionDef _ _ b _ _ _ _ _ _ _ => b
  | _ => []
def Ag (s : Stmt) : Scope := match s with
  | .FunctionDef _ _ _ _ _ _ sc _ _ _ => sc
  | _ => { kind := .function, names := [], isGenerator := false, isCoroutine := false }
abbrev CX0 : CXT := fun _ _ _ _ _ _ => False
abbrev E0 : XK := fun _ _ _ => False
theorem Aip {X : Cx} : Passes CX0 X E0 := fun _ _ _ _ _ _ _ h => h.elim
structure Fun (K : PySem.W.Frag) (x qual : Str) (st : Stmt) (f : Addr) (fd : FuncData) : Prop where
  ex : ∃ (oc : Value) (od : Option Addr) (kV doc pm : Value) (an : Option Addr) (cdv ct : Value) (osl : Array (Option Value)),
    fd = PySem.W.fnOf x qual (M5 st) (K7 st) (Ag st) .none kV doc pm an cdv ct /\ K.lookup f = some ⟨oc, od, .func fd, osl⟩ /\ PySem.W.codeIn K cdv qual = true
  kp : PySem.W.keepIn K (.ref f) = true
section
variable {P : Program} {w : World} {K : PySem.W.Frag} {mg : Str -> Option Value} {base : Heap}
theorem Fun.ok {x qual : Str} {st : Stmt} {f : Addr} {fd : FuncData} {N ps : List Str} {k : Nat} {sp : Sp} (F : Fun K x qual st f fd) (S : Ay N ps (Ag st)) (len : ∀ vs H Q E, sp vs H Q E -> vs.length = ps.length)
    (hbody : ∀ (cdv : Value) (A : Around) (outer : List Env) (s : Shared) (H : Hp) (vs : List V) (Q : VK) (E : XK), M9 k (A.deeper (envOfC qual (Ag st) s.heap.objs.size f cdv)) -> sp vs H Q E ->
      ∃ t, PSs (Rk CX0 P w K mg base N qual (Ag st) f cdv A outer s H E).nox (K7 st) t /\ t { nx := fun _ H' => Q .non H', rt := Q } (start N vs) H) : Qi P w K mg base CX0 (k + 1) f fd ps sp := by
  obtain ⟨oc, od, kV, doc, pm, an, cdv, ct, osl, rfl, lk, hcd⟩ := F.ex
  refine Ahm lk hcd S len fun A outer s H vs Q E hr hsp => ?_
  obtain ⟨t, h, q⟩ := hbody cdv A outer s H vs Q E hr hsp
  exact ⟨t, h.nox, q⟩
theorem Fun.binds {x qual : Str} {st : Stmt} {f : Addr} {fd : FuncData} {ps : List Str} (F : Fun K x qual st f fd)
    (h : ∀ (kV doc pm : Value) (an : Option Addr) (cdv ct : Value) (us : List Value), us.length = ps.length -> bindArgs (PySem.W.fnOf x qual (M5 st) (K7 st) (Ag st) .none kV doc pm an cdv ct) ⟨us, []⟩ = pure (ps.zip us)) : Binds K fd ps [] := by
  obtain ⟨oc, od, kV, doc, pm, an, cdv, ct, osl, rfl, lk, hcd⟩ := F.ex
  exact .all (h kV doc pm an cdv ct)
theorem Aef {x qual : Str} {st : Stmt} {f : Addr} {oc : Value} {od an : Option Addr} {osl : Array (Option Value)} {kV doc pm cdv ct : Value} (l : K.lookup f = some ⟨oc, od, .func (PySem.W.fnOf x qual (M5 st) (K7 st) (Ag st) .none kV doc pm an cdv ct), osl⟩)
    (c : PySem.W.codeIn K cdv qual = true) (k : PySem.W.keepIn K (.ref f) = true) : Fun K x qual st f (PySem.W.fnOf x qual (M5 st) (K7 st) (Ag st) .none kV doc pm an cdv ct) := ⟨⟨oc, od, kV, doc, pm, an, cdv, ct, osl, rfl, l, c⟩, k⟩
end
section
variable {X : Cx}
theorem pv (i : Nat) {x : Str} {pos : Pos} (hN : X.N[i]? = some x := by rfl) (hv : Vis X.env.scope x := by first | exact Or.inl rfl | exact Or.inr (Or.inl rfl) | exact Or.inr (Or.inr rfl)) (hd : (x == ("__debug__" : Str)) = false := by decide)
    (hcd : (x == ("__classdict__" : Str)) = false := by decide) : PE X (.Name x pos) (Aeo i) := Ain hN hv hd hcd
end
def Same (H H' : Hp) : Prop := ∀ b o, H b = some o -> H' b = some o
theorem Same.refl (H : Hp) : Same H H := fun _ _ h => h
theorem Same.trans {H H1 H2 : Hp} (a : Same H H1) (b : Same H1 H2) : Same H H2 := fun c o h => b c o (a c o h)
theorem Same.free {H H' : Hp} (e : Same H H') {l : Addr} (h : H' l = Option.none) : H l = Option.none := by
  cases q : H l with
  | none => rfl
  | some o =>
    rw [e l o q] at h
    cases h
theorem Same.seq {K : PySem.W.Frag} {H H' : Hp} {a : Addr} {xs : List V} (e : Same H H') (h : SqL K H a xs) : SqL K H' a xs := by
  rcases h with (h | ⟨o, h⟩) | h
  . exact .inl (.inl (e _ _ h))
  . exact .inl (.inr ⟨o, e _ _ h⟩)
  . exact .inr h
end L2
namespace L2
open PySem PySem.Spec PyProof.Rows
def Cal (P : Program) (w : World) (K : PySem.W.Frag) (mg : Str -> Option Value) (base : Heap) (k : Nat) (x : Str) (ps : List Str) (sp : Sp) : Prop :=
  ∃ f fd, Qi P w K mg base CX0 k f fd ps sp /\ mg x = some (.ref f) /\ PySem.W.keepIn K (.ref f) = true /\ Binds K fd ps []
structure Df (K : PySem.W.Frag) (mg : Str -> Option Value) (x : Str) (st : Stmt) (ps : List Str) (f : Addr) (fd : FuncData) : Prop where
  fn : Fun K x x st f fd
  bd : Binds K fd ps []
  at' : mg x = some (.ref f)
theorem Df.cal {P : Program} {w : World} {K : PySem.W.Frag} {mg : Str -> Option Value} {base : Heap} {k : Nat} {x : Str} {st : Stmt} {ps : List Str} {f : Addr} {fd : FuncData} {sp : Sp}
    (F : Df K mg x st ps f fd) (G : Qi P w K mg base CX0 k f fd ps sp) : Cal P w K mg base k x ps sp := ⟨f, fd, G, F.at', F.fn.kp, F.bd⟩
theorem Cal.imp {P : Program} {w : World} {K : PySem.W.Frag} {mg : Str -> Option Value} {base : Heap} {k : Nat} {x : Str} {ps : List Str} {sp sp' : Sp}
    (C : Cal P w K mg base k x ps sp) (h : ∀ vs H Q E, sp' vs H Q E -> sp vs H Q E) : Cal P w K mg base k x ps sp' := by
  obtain ⟨f, fd, G, a, b, c⟩ := C
  exact ⟨f, fd, G.imp h, a, b, c⟩
theorem Adj {X : Cx} {k : Nat} {x : Str} {ps : List Str} {sp : Sp} {p pos : Pos} {e : Expr} {es : List Expr} {t : TA}
    (C : Cal X.prog X.w X.K X.mg X.base k x ps sp) (hr : M9 k X.A) (ha : PA X (e :: es) t) (hg : Gl X x := by rfl) (hdb : (x == ("__debug__" : Str)) = false := by decide)
    (he : starEach (e :: es) X.env = (false, eval e X.env) :: starEach es X.env := by rfl) (hpl : (backTo pos (starEach es X.env)).any (·.1) = false := by rfl) :
    PE X (.Call (.Name x p) (e :: es) [] pos) (W4 sp [] E0 t) := by
  obtain ⟨f, fd, G, a, b, c⟩ := C
  exact Aat G hr hg a b c .nil Aip ha hdb he hpl
def Sz (n : Nat) (a : Int) : Prop := a.natAbs < 2 ^ n
theorem Sz.mono {m n : Nat} {a : Int} (h : Sz m a) (l : m <= n) : Sz n a := Nat.lt_of_lt_of_le h (Nat.pow_le_pow_right (by decide) l)
theorem Sz.mul {m n : Nat} {a b : Int} (h : Sz m a) (g : Sz n b) : Sz (m + n) (a * b) := by
  unfold Sz at *
  rw [Int.natAbs_mul, Nat.pow_add]
  exact Nat.mul_lt_mul'' h g
theorem Sz.add {m n : Nat} {a b : Int} (h : Sz m a) (g : Sz n b) : Sz (max m n + 1) (a + b) := by
  have h1 : Sz (max m n) a := h.mono (Nat.le_max_left _ _)
  have h2 : Sz (max m n) b := g.mono (Nat.le_max_right _ _)
  unfold Sz at *
  have := Int.natAbs_add_le a b
  rw [Nat.pow_succ]
  omega
theorem Sz.neg {n : Nat} {a : Int} (h : Sz n a) : Sz n (-a) := by
  unfold Sz at *
  rw [Int.natAbs_neg]
  exact h
theorem Sz.sub {m n : Nat} {a b : Int} (h : Sz m a) (g : Sz n b) : Sz (max m n + 1) (a - b) := by
  rw [Int.sub_eq_add_neg]
  exact h.add g.neg
theorem Sz.of_abs {n : Nat} {a b : Int} (h : Sz n b) (l : a.natAbs <= b.natAbs) : Sz n a := Nat.lt_of_le_of_lt l h
theorem Sz.mulOk {m n : Nat} {a b : Int} (h : Sz m a) (g : Sz n b) (l : m + n <= 134217728) : IntMulOk a b :=
  IntMulOk.of_le (PySem.intBits_le_iff.mpr h) (PySem.intBits_le_iff.mpr g) l
theorem Sz.log2 {n : Nat} {a : Int} (h : Sz n a) (h0 : a ≠ 0) (l : n <= 9000) : a.natAbs.log2 < 9000 :=
  Nat.lt_of_lt_of_le ((Nat.log2_lt (by omega)).mpr h) l
section
variable {X : Cx} {a b : Expr} {ta tb : TE} {pos : Pos}
theorem Dy : OpR X (binaryOp .Mult) (rI IntMulOk fun i j => .int (i * j)) := opI fun _ _ _ _ _ _ _ hc q => mul_int q hc
def Ai6 (_ j : Int) : Prop := j ≠ 0 /\ j.natAbs.log2 < 9000
theorem N7 : OpR X (binaryOp .FloorDiv) (rI Ai6 fun i j => .int (i.fdiv j)) := opI fun _ _ _ _ _ _ _ hc q => floordiv_int hc.1 q (.inl (PyProof.noPylong_of_log2 hc.2))
end
mutual
inductive RdD (K : PySem.W.Frag) (H : Hp) : V -> PyData -> Prop where
  | non : RdD K H .non .none
  | bl (b : Bool) : RdD K H (.bl b) (.bool b)
  | int (i : Int) : RdD K H (.int i) (.int i)
  | str (x : Str) : RdD K H (.str x) (.str x)
  | tup {a : Addr} {xs : List V} {ds : List PyData} : SqT K H a xs -> Vo K H xs ds -> RdD K H (.ref a) (.tuple ds)
  | lst {a : Addr} {xs : List V} {ds : List PyData} : SqL K H a xs -> Vo K H xs ds -> RdD K H (.ref a) (.list ds)
inductive Vo (K : PySem.W.Frag) (H : Hp) : List V -> List PyData -> Prop where
  | nil : Vo K H [] []
  | cons {x : V} {d : PyData} {xs : List V} {ds : List PyData} : RdD K H x d -> Vo K H xs ds -> Vo K H (x :: xs) (d :: ds)
end
section
variable {X : Cx} {pins : List (Addr × Obj)} {σ : St} {H : Hp} {s : Shared}
mutual
theorem RdD.reads (I : Inv X pins σ H s) : ∀ {x : V} {d : PyData} {u : Value}, RdD X.K H x d -> RelV x u -> ∃ as, Reads s.heap u d as
  | _, _, _, .non, r => by cases r; exact ⟨_, .none⟩
  | _, _, _, .bl b, r => by cases r; exact ⟨_, .bool b⟩
  | _, _, _, .int i, r => by obtain ⟨t, rfl⟩ := r; exact ⟨_, .int i t⟩
  | _, _, _, .str x, r => by obtain ⟨t, rfl⟩ := r; exact ⟨_, .str x t⟩
  | _, _, _, .tup hq hr, r => by
    cases r
    obtain ⟨its, rv, pl, hz⟩ := I.tuple hq
    obtain ⟨as, q⟩ := Vo.reads I hr rv
    obtain ⟨o, ho, hc, n, hd⟩ := pl
    exact ⟨_, .tuple ho hc hd (by simpa using q)⟩
  | _, _, _, .lst hq hr, r => by
    cases r
    obtain ⟨its, rv, pl, hz⟩ := I.list hq
    obtain ⟨as, q⟩ := Vo.reads I hr rv
    obtain ⟨o, ho, hc, n, hd⟩ := pl.isList
    exact ⟨_, .list ho hc hd (by simpa using q)⟩
theorem Vo.reads (I : Inv X pins σ H s) : ∀ {xs : List V} {ds : List PyData} {us : List Value}, Vo X.K H xs ds -> Vals xs us -> ∃ as, ReadsAll s.heap us ds as
  | _, _, _, .nil, r => by cases r; exact ⟨_, .nil⟩
  | _, _, _, .cons h t, r => by
    cases r with
    | cons r1 r2 =>
      obtain ⟨as, q⟩ := RdD.reads I h r1
      obtain ⟨bs, p⟩ := Vo.reads I t r2
      exact ⟨_, .cons q p⟩
end
end
theorem Vo.ints {K : PySem.W.Frag} {H : Hp} : ∀ ns : List Int, Vo K H (ns.map V.int) (ns.map PyData.int)
  | [] => .nil
  | n :: r => .cons (.int n) (Vo.ints r)
theorem Vo.bls {K : PySem.W.Frag} {H : Hp} : ∀ ns : List Bool, Vo K H (ns.map V.bl) (ns.map PyData.bool)
  | [] => .nil
  | n :: r => .cons (.bl n) (Vo.bls r)
theorem RdD.ints {K : PySem.W.Frag} {H : Hp} {a : Addr} {ns : List Int} (h : SqT K H a (ns.map V.int)) : RdD K H (.ref a) (.tuple (ns.map PyData.int)) := .tup h (.ints ns)
theorem RdD.lints {K : PySem.W.Frag} {H : Hp} {a : Addr} {ns : List Int} (h : SqL K H a (ns.map V.int)) : RdD K H (.ref a) (.list (ns.map PyData.int)) := .lst h (.ints ns)
theorem Nm : ∀ ns ms : List Int, PyData.eqvAll (ns.map PyData.int) (ms.map PyData.int) = decide (ns = ms)
  | [], [] => by simp [PyData.eqvAll]
  | [], _ :: _ => by simp [PyData.eqvAll]
  | _ :: _, [] => by simp [PyData.eqvAll]
  | a :: r, b :: t => by
    simp only [List.map_cons, PyData.eqvAll, PyData.eqv, Nm r t]
    by_cases h : a = b <;> by_cases h' : r = t <;> simp [h, h']
theorem Z0 : ∀ ns ms : List Bool, PyData.eqvAll (ns.map PyData.bool) (ms.map PyData.bool) = decide (ns = ms)
  | [], [] => by simp [PyData.eqvAll]
  | [], _ :: _ => by simp [PyData.eqvAll]
  | _ :: _, [] => by simp [PyData.eqvAll]
  | a :: r, b :: t => by
    simp only [List.map_cons, PyData.eqvAll, PyData.eqv, Z0 r t]
    by_cases h : a = b <;> by_cases h' : r = t <;> simp [h, h']
theorem shaped_ints (ns : List Int) : SeqAt.shaped (.tuple (ns.map PyData.int)) = true := by
  simp [SeqAt.shaped, PyData.canLay0, PyData.depth, PySem.W.ke_canLayAll0, PySem.W.ke_depthAll]
section
variable {X : Cx}
def Ag7 (K : PySem.W.Frag) (f : Bool -> Bool) : R2 := fun x y H Q => ∃ d e, RdD K H x d /\ RdD K H y e /\ SeqAt.shaped d = true /\ SeqAt.shaped e = true /\ Q (.bl (f (PyData.eqv d e))) H
theorem Ahq (hu : X.A.units + 64 < cLine) : OpR X (compareOp .Eq) (Ag7 X.K fun b => b) := by
  intro pins s σ H x y v u Q I rx ry h
  obtain ⟨d, e, hd, he, s1, s2, q⟩ := h
  obtain ⟨as, r1⟩ := RdD.reads I hd rx
  obtain ⟨bs, r2⟩ := RdD.reads I he ry
  exact eq_dataH r1 r2 s1 s2 hu ⟨.bl _, H, I, rfl, q⟩
theorem Tt (hu : X.A.units + 64 < cLine) : OpR X (compareOp .NotEq) (Ag7 X.K fun b => !b) := by
  intro pins s σ H x y v u Q I rx ry h
  obtain ⟨d, e, hd, he, s1, s2, q⟩ := h
  obtain ⟨as, r1⟩ := RdD.reads I hd rx
  obtain ⟨bs, r2⟩ := RdD.reads I he ry
  exact ne_dataH r1 r2 s1 s2 hu ⟨.bl _, H, I, rfl, q⟩
def Ajy (K : PySem.W.Frag) (f : Bool -> Bool) : R2 := fun x y H Q => ∃ (a b : Addr) (ns ms : List Int), x = .ref a /\ y = .ref b /\ SqT K H a (ns.map V.int) /\ SqT K H b (ms.map V.int) /\ Q (.bl (f (decide (ns = ms)))) H
theorem Hj (hu : X.A.units + 64 < cLine) : OpR X (compareOp .Eq) (Ajy X.K fun b => b) := by
  intro pins s σ H x y v u Q I rx ry h
  obtain ⟨a, b, ns, ms, rfl, rfl, ha, hb, q⟩ := h
  exact Ahq hu pins s σ H _ _ v u Q I rx ry ⟨_, _, .ints ha, .ints hb, shaped_ints _, shaped_ints _, by rw [PyData.eqv, Nm]; exact q⟩
theorem Tn (hu : X.A.units + 64 < cLine) : OpR X (compareOp .NotEq) (Ajy X.K fun b => !b) := by
  intro pins s σ H x y v u Q I rx ry h
  obtain ⟨a, b, ns, ms, rfl, rfl, ha, hb, q⟩ := h
  exact Tt hu pins s σ H _ _ v u Q I rx ry ⟨_, _, .ints ha, .ints hb, shaped_ints _, shaped_ints _, by rw [PyData.eqv, Nm]; exact q⟩
theorem Lb : Kg X (.builtin "isinstance") (fun xs H Q => ∃ x t T b, xs = [x, .ty T] /\ V7 X.K H x t /\ PySem.W.kitOne X.K t (.type T) = some b /\ Q (.bl b) H) := by
  intro pins s σ H xs us Q I r h
  obtain ⟨x, t, T, b, rfl, ht, hk, q⟩ := h
  obtain ⟨u, c, rfl, ru, rc⟩ := vals2 r
  cases rc
  exact Abo I ru ht hk fun tk => ⟨.bl b, H, I.tok tk, rfl, q⟩
end
theorem Same.tup {K : PySem.W.Frag} {H H' : Hp} {a : Addr} {xs : List V} (e : Same H H') (h : SqT K H a xs) : SqT K H' a xs := by
  rcases h with (h | ⟨o, h⟩) | h
  . exact .inl (.inl (e _ _ h))
  . exact .inl (.inr ⟨o, e _ _ h⟩)
  . exact .inr h
theorem Same.upd {H : Hp} {p : Addr} (h : H p = none) (o : HO) : Same H (upd H p o) := fun b u q => by
  rw [Cp (Ce q h)]
  exact q
end L2
namespace L2
open PySem PySem.Spec PyProof.Rows
section
variable {X : Cx} {K : PySem.W.Frag} {σ : St} {H : Hp} {Q : VK} {D : Ends} {B : Bool -> Hp -> Prop}
theorem J8 {t u : TS} : Aiw t u D σ H = t { D with nx := u D } σ H := rfl
theorem Fy : Ag4 D σ H = D.nx σ H := rfl
theorem Jz {c : TT} {t u : TS} : Ajt c t u D σ H = c σ H (fun b H1 => if b = true then t D σ H1 else u D σ H1) := rfl
theorem Kq {te : TE} : Aj2 te D σ H = te σ H D.rt := rfl
theorem Fw {te : TE} : Afw te D σ H = te σ H (fun _ H1 => D.nx σ H1) := rfl
theorem Kr {te : TE} {g : TG} : Agy te g D σ H = te σ H (fun x H1 => g x σ H1 D.nx) := rfl
theorem Cv {i : Nat} {v : V} {R : St -> Hp -> Prop} : Nb i v σ H R = R (σ.set i (some v)) H := rfl
theorem Kv {i j : Nat} {ta : TA} : Ajj i j ta D σ H = ta σ H (fun vs H1 => ∃ v w, vs = [v, w] /\ D.nx ((σ.set i (some v)).set j (some w)) H1) := rfl
theorem Fl {v : V} {r : St} : Aeo 0 (some v :: r) H Q = Q v H := propext ⟨fun ⟨_, e, h⟩ => by cases e; exact h, fun h => ⟨v, rfl, h⟩⟩
theorem Ga {i : Nat} {o : Option V} {r : St} : Aeo (i + 1) (o :: r) H Q = Aeo i r H Q := rfl
theorem z_c {v : V} : tC v σ H Q = Q v H := rfl
theorem R4 {r : R2} {ta tb : TE} : tOp r ta tb σ H Q = ta σ H (fun x H1 => tb σ H1 fun y H2 => r x y H2 Q) := rfl
theorem Sh {r : V -> Hp -> VK -> Prop} {ta : TE} : tUn r ta σ H Q = ta σ H (fun x H1 => r x H1 Q) := rfl
theorem Sd {C : Int -> Int -> Prop} {g : Int -> Int -> V} {i j : Int} : rI C g (.int i) (.int j) H Q = (C i j /\ Q (g i j) H) :=
  propext ⟨fun ⟨_, _, e, f, h⟩ => by cases e; cases f; exact h, fun h => ⟨i, j, rfl, rfl, h⟩⟩
theorem J1 {g : Int -> Int -> V} {i j : Int} : rI0 g (.int i) (.int j) H Q = Q (g i j) H :=
  propext ⟨fun ⟨_, _, e, f, h⟩ => by cases e; cases f; exact h, fun h => ⟨i, j, rfl, rfl, h⟩⟩
theorem R6 {g : Int -> V} {i : Int} : rU g (.int i) H Q = Q (g i) H := propext ⟨fun ⟨_, e, h⟩ => by cases e; exact h, fun h => ⟨i, rfl, h⟩⟩
theorem Jw {i j : Int} : rEq (.int i) (.int j) H Q = Q (.bl (decide (i = j))) H := by
  unfold rEq
  simp only [Ag8, V.int.injEq, true_and]
theorem Ka {i j : Int} : rNe (.int i) (.int j) H Q = Q (.bl (!decide (i = j))) H := by
  unfold rNe
  simp only [Ag8, V.int.injEq, true_and]
theorem Jm {i j : Bool} : rEq (.bl i) (.bl j) H Q = Q (.bl (decide (i = j))) H := by
  unfold rEq
  simp only [Ag8, V.bl.injEq, true_and]
theorem Ku {i j : Bool} : rNe (.bl i) (.bl j) H Q = Q (.bl (!decide (i = j))) H := by
  unfold rNe
  simp only [Ag8, V.bl.injEq, true_and]
theorem Es {t : TE} : Afg t σ H B = t σ H (fun x H' => ∃ k, x = .bl k /\ B k H') := rfl
theorem R8 {t : TE} : tB t σ H B = t σ H (fun x H' => ∃ k, x = .bl k /\ B k H') := rfl
theorem Kf {b : Bool} {p : Bool -> Prop} : (∃ k, V.bl b = .bl k /\ p k) = p b := propext ⟨fun ⟨_, e, h⟩ => by cases e; exact h, fun h => ⟨b, rfl, h⟩⟩
theorem J3 {b : Int} {p : Int -> Prop} : (∃ k, V.int b = .int k /\ p k) = p b := propext ⟨fun ⟨_, e, h⟩ => by cases e; exact h, fun h => ⟨b, rfl, h⟩⟩
theorem Ko {a b : V} {p : V -> V -> Prop} : (∃ v w, [a, b] = [v, w] /\ p v w) = p a b := propext ⟨fun ⟨_, _, e, h⟩ => by cases e; exact h, fun h => ⟨a, b, rfl, h⟩⟩
theorem Fj {b : Int} {p : Int -> Prop} : (∃ k, [V.int b] = [.int k] /\ p k) = p b := propext ⟨fun ⟨_, e, h⟩ => by cases e; exact h, fun h => ⟨b, rfl, h⟩⟩
theorem Ey {a b : Int} {p : Int -> Int -> Prop} : (∃ i j, [V.int a, V.int b] = [.int i, .int j] /\ p i j) = p a b := propext ⟨fun ⟨_, _, e, h⟩ => by cases e; exact h, fun h => ⟨a, b, rfl, h⟩⟩
theorem J6 {t : TT} : Ajk t σ H B = t σ H (fun c H1 => B (!c) H1) := rfl
theorem Kw {t u : TT} : Ajw t u σ H B = t σ H (fun c H1 => if c = true then u σ H1 B else B false H1) := rfl
theorem S5 {t u : TT} : tOr t u σ H B = t σ H (fun c H1 => if c = true then B true H1 else u σ H1 B) := rfl
theorem Fb {ta tb : TE} : Af6 ta tb σ H Q = ta σ H (fun x H1 => ∃ c, x = .bl c /\ if c = true then tb σ H1 Q else Q (.bl false) H1) := rfl
theorem Jp {ta tb : TE} : Ai0 ta tb σ H Q = ta σ H (fun x H1 => ∃ c, x = .bl c /\ if c = true then Q (.bl true) H1 else tb σ H1 Q) := rfl
theorem Gn {ta : TE} : Agd ta σ H Q = ta σ H (fun x H1 => ∃ c, x = .bl c /\ Q (.bl (!c)) H1) := rfl
theorem Sq {t : TT} {ta tb : TE} : tIf t ta tb σ H Q = t σ H (fun c H1 => if c = true then ta σ H1 Q else tb σ H1 Q) := rfl
theorem Ge {sp : Sp} {dvs : List V} {E : XK} {t : TA} : W4 sp dvs E t σ H Q = t σ H (fun vs H1 => sp (vs ++ dvs) H1 Q E) := rfl
theorem J2 {R : List V -> Hp -> Prop} : Ajs σ H R = R [] H := rfl
theorem Fz {te : TE} {t : TA} {R : List V -> Hp -> Prop} : Ac1 te t σ H R = te σ H (fun x H1 => t σ H1 fun xs H2 => R (x :: xs) H2) := rfl
theorem Sy {r : List V -> Hp -> VK -> Prop} {t : TA} : tCB r t σ H Q = t σ H (fun vs H1 => r vs H1 Q) := rfl
theorem J0 {t : TA} : Ajr t σ H Q = t σ H (fun xs H1 => xs.length <= sizeLine /\ ∀ p, H1 p = none -> Q (.ref p) (upd H1 p (.tup xs))) := rfl
theorem J7 {t : TA} : Aiz t σ H Q = t σ H (fun xs H1 => xs.length <= sizeLine /\ ∀ p, H1 p = none -> Q (.ref p) (upd H1 p (.lst xs))) := rfl
theorem Dw {r r' : R2} {ta tb tc : TE} : Aia r r' ta tb tc σ H Q = ta σ H (fun x H1 => tb σ H1 fun y H2 => r x y H2 fun z H3 => ∃ k, z = .bl k /\ (if k = true then tc σ H3 fun w' H4 => r' y w' H4 Q else Q (.bl false) H3)) := rfl
theorem Ei {a : Addr} {xs : List V} {i : Int} {v : V} (h : SqT K H a xs) (e : atI xs i = some v) (q : Q v H) : Aj5 K (.ref a) (.int i) H Q := ⟨a, xs, i, v, rfl, rfl, h, e, q⟩
theorem Jo {a : Addr} {xs : List V} {i : Int} {v : V} (h : SqL K H a xs) (e : atI xs i = some v) (q : Q v H) : Aie K (.ref a) (.int i) H Q := ⟨a, xs, i, v, rfl, rfl, h, e, q⟩
end
def Afe (_ j : Int) : Prop := 0 < j /\ j.natAbs.log2 < 9000
theorem Bw {X : Cx} : OpR X (binaryOp .FloorDiv) (rI Afe fun i j => .int (i / j)) := opI fun i j _ _ _ _ _ hc q => by
  have h : j ≠ 0 := by have := hc.1; omega
  refine floordiv_int h ?_ (.inl (PyProof.noPylong_of_log2 hc.2))
  rw [Int.fdiv_eq_ediv_of_nonneg _ (Int.le_of_lt hc.1)]
  exact q
theorem Fe : (1 : Nat) <= sizeLine := by decide
theorem Ez : (2 : Nat) <= sizeLine := by decide
end L2
namespace L2
open PySem PySem.Spec PyProof.Rows
def clF (env : Env) (cs : List (Str × Addr)) (x : Str × NameKind) : List (Str × Addr) := if x.2 == .free then (x.1, (env.cells.lookup x.1).getD 0) :: cs else cs
theorem Y4 {scope : Scope} {env : Env} (h : ∀ x ∈ scope.names, x.2 = .free -> ∃ c, env.cells.lookup x.1 = some c) : closureFor scope env = pure (scope.names.foldl (clF env) []) := by
  unfold closureFor
  have key : ∀ (names : List (Str × NameKind)) (init : List (Str × Addr)), (∀ x ∈ names, x.2 = .free -> ∃ c, env.cells.lookup x.1 = some c) ->
      (forIn names init (fun (x : Str × NameKind) (cs : List (Str × Addr)) => (if x.2 == .free then (do let c <- cellOf env x.1; pure (ForInStep.yield ((x.1, c) :: cs))) else pure (ForInStep.yield cs) : Sem (ForInStep (List (Str × Addr)))))) = (pure (names.foldl (clF env) init) : Sem (List (Str × Addr))) := by
    intro names
    induction names with
    | nil => intro init _; rfl
    | cons x r ih =>
      intro init hx
      rw [List.forIn_cons, List.foldl_cons]
      by_cases hf : x.2 = .free
      . obtain ⟨c, hc⟩ := hx x List.mem_cons_self hf
        have e1 : cellOf env x.1 = pure c := by unfold cellOf; rw [hc]
        have e2 : clF env init x = (x.1, c) :: init := by unfold clF; rw [hf, hc]; rfl
        rw [e2, <- ih _ fun y hy => hx y (List.mem_cons_of_mem _ hy)]
        rw [hf, e1]
        rfl
      . have e0 : (x.2 == NameKind.free) = false := by simpa using hf
        have e2 : clF env init x = init := by unfold clF; rw [e0]; rfl
        rw [e2, <- ih _ fun y hy => hx y (List.mem_cons_of_mem _ hy), e0]
        rfl
  exact (congrArg (fun m => m >>= fun r => pure r) (key scope.names [] h)).trans (by rfl)
theorem X5 {env : Env} : ∀ (names : List (Str × NameKind)) (init : List (Str × Addr)) (y : Str) (c : Addr), (∀ x ∈ names, x.2 = .free -> ∃ c, env.cells.lookup x.1 = some c) -> (names.foldl (clF env) init).lookup y = some c -> init.lookup y = some c \/ env.cells.lookup y = some c
  | [], _, _, _, _, h => .inl h
  | x :: r, init, y, c, hx, h => by
    rw [List.foldl_cons] at h
    rcases X5 r _ y c (fun z hz => hx z (List.mem_cons_of_mem _ hz)) h with h1 | h1
    . unfold clF at h1
      by_cases hf : x.2 = .free
      . obtain ⟨d, hd⟩ := hx x List.mem_cons_self hf
        rw [hf, hd] at h1
        change List.lookup y ((x.1, d) :: init) = some c at h1
        rw [List.lookup_cons] at h1
        cases hy : y == x.1 with
        | true =>
          rw [hy] at h1
          have : y = x.1 := by simpa using hy
          subst this
          exact .inr (hd.trans h1)
        | false =>
          rw [hy] at h1
          exact .inl h1
      . have e0 : (x.2 == NameKind.free) = false := by simpa using hf
        rw [e0] at h1
        exact .inl h1
    . exact .inr h1
theorem W7 {env : Env} : ∀ (names : List (Str × NameKind)) (init : List (Str × Addr)) (y : Str), ((∃ x ∈ names, x.2 = .free /\ x.1 = y) \/ ∃ c, init.lookup y = some c) -> ∃ c, (names.foldl (clF env) init).lookup y = some c
  | [], _, _, h => by
    rcases h with ⟨_, h, _⟩ | h
    . cases h
    . exact h
  | x :: r, init, y, h => by
    rw [List.foldl_cons]
    apply W7 r
    rcases h with ⟨z, hz, hf, rfl⟩ | ⟨c, hc⟩
    . rcases List.mem_cons.mp hz with rfl | hz
      . refine .inr ⟨(env.cells.lookup z.1).getD 0, ?_⟩
        unfold clF
        rw [hf]
        show List.lookup z.1 ((z.1, _) :: init) = _
        rw [List.lookup_cons]
        simp
      . exact .inl ⟨z, hz, hf, rfl⟩
    . refine .inr ?_
      unfold clF
      by_cases hf : x.2 = .free
      . rw [hf]
        show ∃ c, List.lookup y ((x.1, _) :: init) = some c
        rw [List.lookup_cons]
        cases y == x.1 with
        | true => exact ⟨_, rfl⟩
        | false => exact ⟨c, hc⟩
      . have e0 : (x.2 == NameKind.free) = false := by simpa using hf
        rw [e0]
        exact ⟨c, hc⟩
theorem Vl {prog : Program} {w : World} {A : Around} {R : Result -> Shared -> Prop} {s : Shared} {elt target iter : Expr} {ifs : List Expr} {scope : Scope} {pos : Pos} {it acc : Value} {env : Env} (I : Nat -> Shared -> Prop)
    (turn : ∀ n s, I n s -> wpAny (model prog w) A (pyNext it) (fun r s₁ => match r with
      | none => R (.ok .next) s₁
      | some v => wpAny (model prog w) A (letOwnedTupleGo target it v) (fun _ s₀ => wpAny (model prog w) A (assign target env v) (fun _ s₂ =>
          wpAny (model prog w) A (forIn ifs true fun c r => if r = true then do let ok <- isTrue c env (eval c env); pure (ForInStep.yield ok) else pure (ForInStep.yield r)) (fun ok s₃ =>
            if ok = true then wpAny (model prog w) A (eval elt env) (fun x s₄ =>
              wpAny (model prog w) A (call (.builtin "list.append") [acc, x]) (fun _ s₅ => ∃ m, m < n /\ I m s₅) (fun _ _ => False) s₄) (fun _ _ => False) s₃
            else ∃ m, m < n /\ I m s₃) (fun _ _ => False) s₂) (fun _ _ => False) s₀) (fun _ _ => False) s₁) (fun _ _ => False) s)
    (n : Nat) (h : I n s) :
    codeAny (model prog w) A (.compLoop (.ListComp elt [⟨target, iter, ifs, 0⟩] scope pos) 0 it acc env) R s := by
  have no : ∀ (x : Value) (s' : Shared), False -> notedBy (model prog w) A env (fun e s' => R (.error e) s') x s' := fun _ _ z => z.elim
  refine codeAny_loop rfl I (fun n s hI => ?_) n h
  show wpAny _ A ((compTurn (.ListComp elt [⟨target, iter, ifs, 0⟩] scope pos) 0 it acc env).onRaise (fun x => do noteFrame x env; theTreesLotGoes x)) _ _ s
  refine wpAny_noted ?_
  rw [compTurn_list]
  refine wpAny_bind (wpAny_standAt (wpAny_bind (wpAny_mono (turn n s hI) (fun r s₁ h₁ => ?_) no)))
  cases r with
  | none => exact wpAny_pure h₁
  | some v =>
    refine wpAny_bind (wpAny_mono h₁ (fun _ s₀ h₀ => ?_) no)
    refine wpAny_bind (wpAny_mono h₀ (fun _ s₂ h₂ => wpAny_bind (wpAny_mono h₂ (fun ok s₃ h₃ => ?_) no)) no)
    cases ok with
    | false => exact wpAny_pure ⟨rfl, h₃⟩
    | true =>
      exact wpAny_bind (wpAny_bind (wpAny_mono h₃ (fun x s₄ h₄ => wpAny_bind (wpAny_mono h₄ (fun _ s₅ h₅ => wpAny_pure (wpAny_pure ⟨rfl, h₅⟩)) no)) no))
def cxC (X : Cx) (N : List Str) (scope : Scope) (ex : List Addr) (s : Shared) (H : Hp) : Cx where
  prog := X.prog
  w := X.w
  K := X.K
  mg := X.mg
  base := X.base
  A := X.A
  N := N
  s₀ := s
  H₀ := H
  env := compEnvC scope (scope.names.foldl (clF X.env) []) s.heap.objs.size X.env
  outer := X.stack
  stack := X.stack
  ex := ex
  fn := fun _ => false
  calm := X.calm
  pn := []
  xe := fun _ _ => False
structure Cu (X : Cx) (ts : List Str) (fs : List (Nat × Str)) (scope : Scope) : Prop where
  kind : scope.kind = .function
  cell : ∀ y ∈ scope.names, y.2 ≠ .cell
  names : ∀ y ∈ scope.names, y.2 = .local -> scope.names.lookup y.1 = some .local
  free : ∀ y ∈ scope.names, y.2 = .free -> X.env.kindOf y.1 = some .cell \/ X.env.kindOf y.1 = some .free
  at' : ∀ p ∈ fs, X.N[p.1]? = some p.2 /\ (p.2, NameKind.free) ∈ scope.names /\ ((relabel scope X.env).names.lookup p.2 = some .cell \/ (relabel scope X.env).names.lookup p.2 = some .free)
def rlb (sc scope : Scope) : List (Str × NameKind) := scope.names.map fun (n, k) => if (k == NameKind.free && sc.kind == .function && sc.names.lookup n == some .cell) then (n, NameKind.cell) else (n, k)
def Akd (sc : Scope) (N : List Str) (fs : List (Nat × Str)) (scope : Scope) : Bool :=
  (scope.kind == .function) && (scope.names.all fun y => y.2 != .cell) && (scope.names.all fun y => y.2 != .local || scope.names.lookup y.1 == some .local) &&
  (scope.names.all fun y => y.2 != .free || (sc.names.lookup y.1 == some .cell || sc.names.lookup y.1 == some .free)) &&
  fs.all fun p => N[p.1]? == some p.2 && (scope.names.contains (p.2, NameKind.free) && ((rlb sc scope).lookup p.2 == some .cell || (rlb sc scope).lookup p.2 == some .free))
theorem Cu.of {X : Cx} {ts : List Str} {fs : List (Nat × Str)} {scope sc : Scope} {N : List Str} (e1 : X.env.scope = sc) (e2 : X.N = N) (h : Akd sc N fs scope = true) : Cu X ts fs scope := by
  unfold Akd at h
  simp only [Bool.and_eq_true, List.all_eq_true, Bool.or_eq_true, bne_iff_ne, beq_iff_eq, List.contains_iff_mem] at h
  obtain ⟨⟨⟨⟨h1, h2⟩, h3⟩, h4⟩, h5⟩ := h
  refine ⟨h1, h2, fun y hy e => ?_, fun y hy e => ?_, fun p hp => ?_⟩
  . rcases h3 y hy with z | z
    . exact absurd e z
    . exact z
  . rcases h4 y hy with z | z
    . exact absurd e z
    . show X.env.scope.names.lookup y.1 = _ \/ X.env.scope.names.lookup y.1 = _
      rw [e1]
      exact z
  . obtain ⟨a, b, c⟩ := h5 p hp
    refine ⟨by rw [e2]; exact a, b, ?_⟩
    subst e1
    exact c
def cpN (ts : List Str) (fs : List (Nat × Str)) : List Str := ts ++ fs.map (·.2)
def cpσ (n : Nat) (fs : List (Nat × Str)) (σ : St) : St := List.replicate n none ++ fs.map fun p => (σ[p.1]?).join
theorem Lk {env : Env} {x : Str} {k' : NameKind} : ∀ {names : List (Str × NameKind)}, (names.map fun (n, k) => if (k == NameKind.free && env.scope.kind == .function && env.kindOf n == some .cell) then (n, NameKind.cell) else (n, k)).lookup x = some k' ->
    ∃ k, (x, k) ∈ names /\ (k' = k \/ (k = .free /\ k' = .cell))
  | [], h => by simp at h
  | (n, k) :: r, h => by
    rw [List.map_cons] at h
    dsimp only at h
    by_cases hc : (k == NameKind.free && env.scope.kind == .function && env.kindOf n == some .cell) = true
    . rw [if_pos hc, List.lookup_cons] at h
      cases hx : x == n with
      | true =>
        rw [hx] at h
        have e : x = n := by simpa using hx
        subst e
        have hk : k = .free := by
          rw [Bool.and_eq_true, Bool.and_eq_true] at hc
          simpa using hc.1.1
        exact ⟨k, List.mem_cons_self, .inr ⟨hk, (Option.some.inj h).symm⟩⟩
      | false =>
        rw [hx] at h
        obtain ⟨k2, h1, h2⟩ := Lk h
        exact ⟨k2, List.mem_cons_of_mem _ h1, h2⟩
    . rw [if_neg hc, List.lookup_cons] at h
      cases hx : x == n with
      | true =>
        rw [hx] at h
        have e : x = n := by simpa using hx
        subst e
        exact ⟨k, List.mem_cons_self, .inl (Option.some.inj h).symm⟩
      | false =>
        rw [hx] at h
        obtain ⟨k2, h1, h2⟩ := Lk h
        exact ⟨k2, List.mem_cons_of_mem _ h1, h2⟩
def PTs (X : Cx) (ifs : List Expr) (t : TT) : Prop :=
  ∀ (pins : List (Addr × Obj)) (s : Shared) (σ : St) (H : Hp) (B : Bool -> Hp -> Prop), Inv X pins σ H s -> t σ H B ->
    wpAny (model X.prog X.w) X.A (forIn ifs true fun c r => if r = true then do let ok <- isTrue c X.env (eval c X.env); pure (ForInStep.yield ok) else pure (ForInStep.yield r)) (TP X pins σ B) X.xe s
def Adq : TT := fun _ H B => B true H
theorem J4 {X : Cx} : PTs X [] Adq := fun _ _ _ H _ I h => wpAny_pure ⟨H, I, h⟩
theorem Ul {X : Cx} {c : Expr} {t : TT} (h : PT X c t) : PTs X [c] t := by
  intro pins s σ H B I hw
  rw [List.forIn_cons]
  simp only [if_true]
  refine wpAny_bind (wpAny_bind (thn (h pins s σ H B I hw) fun b s1 q => wpAny_pure ?_))
  exact wpAny_pure q
def Kp (σ σ' : St) : Prop := σ'.length = σ.length /\ ∀ (i : Nat) v, σ[i]? = some (some v) -> σ'[i]? = some (some v)
def cIn (J : It) (cσ : St) (g : TG) (tt : TT) (te : TE) (Q : VK) (H1 : Hp) (p : Addr) : Prop := ∃ W : Nat -> Nat -> List V -> Hp -> Prop, (∃ m, W 0 m [] (upd H1 p (.lst []))) /\ ∀ i m acc H2, W i m acc H2 ->
  (J.stop i H2 /\ Q (.ref p) H2) \/ (J.go i H2 /\ ∀ x H3, J.yld i H2 x H3 -> g x cσ H3 fun σ4 H4 => Kp cσ σ4 /\ tt σ4 H4 fun b H5 =>
    if b = true then te σ4 H5 fun y H6 => H6 p = some (.lst acc) /\ acc.length < sizeLine /\ ∃ m', m' < m /\ W (i + 1) m' (acc ++ [y]) (upd H6 p (.lst (acc ++ [y]))) else ∃ m', m' < m /\ W (i + 1) m' acc H5)
def Ys (n : Nat) (fs : List (Nat × Str)) (wi : TI) (g : TG) (tt : TT) (te : TE) : TE := fun σ H Q => wi σ H fun J H1 => ∀ p, H1 p = none -> cIn J (cpσ n fs σ) g tt te Q H1 p
section
variable {X : Cx} {elt tg iter : Expr} {ifs : List Expr} {scope : Scope} {pos : Pos} {wi : TI} {g : TG} {tt : TT} {te : TE} {ts : List Str} {fs : List (Nat × Str)}
theorem Cu.clos (S : Cu X ts fs scope) (ok : X.Ok) : ∀ x ∈ scope.names, x.2 = .free -> ∃ c, X.env.cells.lookup x.1 = some c := fun x hx hf => ok.has x.1 (S.free x hx hf)
theorem Cu.sub (S : Cu X ts fs scope) (ok : X.Ok) {y : Str} {c : Addr} (h : (scope.names.foldl (clF X.env) []).lookup y = some c) : X.env.cells.lookup y = some c := by
  rcases X5 scope.names [] y c (S.clos ok) h with z | z
  . simp at z
  . exact z
theorem Yu {pins : List (Addr × Obj)} {σ : St} {H : Hp} {s3 s4 : Shared} {ex : List Addr} (S : Cu X ts fs scope) (I : Inv X pins σ H s3)
    (hex : ∀ b ∈ ex, Wj X pins H b /\ ∃ o, s3.heap.get? b = some o) (hos : s4.os = s3.os) (hg : s4.gens = s3.gens) (hk : ∀ b u, s3.heap.get? b = some u -> s4.heap.get? b = some u)
    (hn : s4.heap.Ns s3.heap.objs.size fun _ => none) : Inv (cxC X (cpN ts fs) scope ex s3 H) [] (cpσ ts.length fs σ) H s4 := by
  have ok := I.ok
  have noC : ∀ b ∈ ex, b ≠ s3.heap.objs.size := fun b hb => by
    obtain ⟨_, o, ho⟩ := hex b hb
    exact Nat.ne_of_lt (Heap.lt_size ho)
  refine ⟨⟨ok.mod, S.kind, ok.glob, ok.blt, Nat.le_refl _, fun y z c h1 h2 => ok.inj y z c (S.sub ok h1) (S.sub ok h2), fun y hy => ?_, fun y c h _ => absurd h (by intro z; cases z), ok.hd, ok.frames, .inl rfl, fun b hb => ⟨noC b hb, fun x c e => (hex b hb).1.2.2.2.2.1 x c (S.sub ok e)⟩,
    I.bs, Nat.le_trans ok.bsz I.sz, fun b o e hb => ?_, fun b hb => ?_, I.stack, I.stkFree⟩, hos, by rw [hg]; exact I.bare, Un.kept hk, ⟨_, hn, fun i x v h1 h2 h3 => ?_⟩, fun y c e => ?_, I.hok.fresh (Nat.le_refl _), fun y c e => I.freeC y c (S.sub ok e),
    fun p hp => absurd (show p ∈ ([] : List (Addr × Obj)) from hp) (by simp), I.hok.kept hk, ?_⟩
  . have z : ∃ k', (k' = NameKind.cell \/ k' = .free) /\ (scope.names.map fun (n, k) => if (k == NameKind.free && X.env.scope.kind == .function && X.env.kindOf n == some .cell) then (n, NameKind.cell) else (n, k)).lookup y = some k' := by
      rcases hy with hy | hy
      . exact ⟨_, .inl rfl, hy⟩
      . exact ⟨_, .inr rfl, hy⟩
    obtain ⟨k', hk', hl⟩ := z
    obtain ⟨k, hm, h2⟩ := Lk hl
    have hf : k = .free := by
      rcases h2 with e | ⟨e, _⟩
      . subst e
        rcases hk' with e | e
        . exact absurd e (S.cell _ hm)
        . exact e
      . exact e
    exact W7 scope.names [] y (.inl ⟨_, hm, hf, rfl⟩)
  . rcases (hex b hb).1.2.2.2.1 with z | z
    . exact ok.noex b o e z
    . exact absurd (Nat.lt_of_lt_of_le (Heap.lt_size e) (Nat.le_trans ok.bsz z)) (Nat.lt_irrefl _)
  . intro hb2
    rcases List.mem_cons.mp (I.stkSub b hb2) with e | e
    . exact (hex b hb).1.2.1 e
    . exact (hex b hb).1.2.2.1 e
  . unfold cpσ at h2
    by_cases hi : i < ts.length
    . rw [List.getElem?_append_left (by simpa using hi), List.getElem?_replicate] at h2
      split at h2 <;> cases h2
    . rw [List.getElem?_append_right (by simpa using hi), List.length_replicate] at h2
      have h1' : (cpN ts fs)[i]? = some x := h1
      unfold cpN at h1'
      rw [List.getElem?_append_right (by omega)] at h1'
      rw [List.getElem?_map] at h1' h2
      cases e : fs[i - ts.length]? with
      | none => rw [e] at h1'; cases h1'
      | some p =>
        rw [e] at h1' h2
        have ex' : p.2 = x := Option.some.inj h1'
        have e2 : (σ[p.1]?).join = some v := Option.some.inj h2
        have e3 : σ[p.1]? = some (some v) := by
          cases q : σ[p.1]? with
          | none => rw [q] at e2; cases e2
          | some o => rw [q] at e2; cases o with | none => cases e2 | some v' => cases e2; rfl
        obtain ⟨a1, a2, a3⟩ := S.at' p (List.mem_of_getElem? e)
        obtain ⟨m, _, hl⟩ := I.loc
        have kd := S.free _ a2 rfl
        have vis : Vis X.env.scope p.2 := by
          rcases kd with z | z
          . exact .inr (.inl z)
          . exact .inr (.inr z)
        obtain ⟨u, r, l⟩ := hl p.1 p.2 v a1 e3 vis
        refine ⟨u, r, ?_⟩
        rcases l with ⟨z, _⟩ | ⟨_, c, hc, hcell⟩
        . rcases kd with q | q
          . rw [q] at z; cases z
          . rw [q] at z; cases z
        . obtain ⟨c', hc'⟩ := W7 (env := X.env) scope.names [] p.2 (.inl ⟨_, a2, rfl, rfl⟩)
          have ec : c' = c := Option.some.inj ((S.sub ok hc').symm.trans hc)
          subst ec
          subst ex'
          refine .inr ⟨?_, c', hc', ?_⟩
          . exact a3
          . obtain ⟨o, ho, hd⟩ := hcell
            exact ⟨o, hk _ _ ho, hd⟩
  . obtain ⟨v, o, ho, hd⟩ := I.cell y c (S.sub ok e)
    exact ⟨v, o, hk _ _ ho, hd⟩
  . unfold cpσ
    show _ = (cpN ts fs).length
    unfold cpN
    simp
theorem X6 {pins : List (Addr × Obj)} {σ σ' : St} {H H' : Hp} {s3 s5 : Shared} {h' : Heap} {ex : List Addr} (S : Cu X ts fs scope) (I : Inv X pins σ H s3) (hex : ∀ b ∈ ex, Wj X pins H b)
    (J : Inv (cxC X (cpN ts fs) scope ex s3 H) [] σ' H' s5) (sb : Heap.SameBut s3.heap.objs.size s5.heap h') : Inv X pins σ H' { s5 with heap := h' } := by
  have nC : H' s3.heap.objs.size = none := J.free
  have old : ∀ b o, b ≠ s3.heap.objs.size -> s5.heap.get? b = some o -> h'.get? b = some o := fun b o hb e => sb.extBut b o hb e
  have lt : ∀ b o, s3.heap.get? b = some o -> b ≠ s3.heap.objs.size := fun b o e => Nat.ne_of_lt (Heap.lt_size e)
  have u : Un (frs X.stack) ex H H' s3.heap s5.heap := J.base
  have u2 : Un (frs X.stack) ex H H' s3.heap h' :=
    ⟨fun b o e n hb hx => old b o (lt b o e) (u.keep b o e n hb hx), fun b o e n hb hx => by
      obtain ⟨sl, q⟩ := u.slot b o e n hb hx
      exact ⟨sl, old b _ (lt b o e) q⟩, u.free, fun b o e hx => by
      obtain ⟨o', q⟩ := u.there b o e hx
      exact ⟨o', old b o' (lt b o e) q⟩, u.tups, u.frzs, u.tbls⟩
  have hok : HOk X.prog X.w H' h' := fun b o e => by
    have nb : b ≠ s3.heap.objs.size := fun z => by rw [z, nC] at e; cases e
    refine (J.hok b o e).stay (fun c v hc q => old c v ?_ q) (fun _ q => q) fun _ _ q => q
    rcases hc with z | z
    . rw [z]; exact nb
    . intro z2; rw [z2, nC] at z; cases z
  exact I.call' (s' := { s5 with heap := h' }) (ch := ex) J.os u2 hok J.bare fun b hb => ⟨(hex b hb).2.2.2.1, (hex b hb).2.1, (hex b hb).2.2.2.2.1, (hex b hb).2.2.2.2.2⟩
theorem Inv.fade {pins : List (Addr × Obj)} {σ σ' : St} {H : Hp} {s : Shared} (I : Inv X pins σ' H s) (k : Kp σ σ') : Inv X pins σ H s := by
  refine ⟨I.ok, I.os, I.bare, I.base, ?_, I.cell, I.free, I.freeC, I.pin, I.hok, k.1.symm.trans I.len⟩
  obtain ⟨m, hn, hl⟩ := I.loc
  exact ⟨m, hn, fun i x v h1 h2 h3 => hl i x v h1 (k.2 i v h2) h3⟩
theorem Adt {pins : List (Addr × Obj)} {σ : St} {H3 : Hp} {s3 s4 : Shared} {Q : VK} {R : Result -> Shared -> Prop} {fp : List Addr} {it p : Addr} {tn : Nat -> Heap -> Prop} {J : It} {W : Nat -> Nat -> List V -> Hp -> Prop} {m0 : Nat} (hc : X.calm = true) (S : Cu X ts fs scope)
    (hg : ∀ ex s H, PG (cxC X (cpN ts fs) scope ex s H) tg g) (ht : ∀ ex s H, PTs (cxC X (cpN ts fs) scope ex s H) ifs tt) (he : ∀ ex s H, PE (cxC X (cpN ts fs) scope ex s H) elt te)
    (I3 : Inv X pins σ H3 s3) (T : Turn X.prog X.w X.K tg J fp it tn) (hex : ∀ b ∈ fp, Wj X pins H3 b) (lt : ∀ b ∈ fp, b < s3.heap.objs.size)
    (I4 : Inv (cxC X (cpN ts fs) scope fp s3 H3) [] (cpσ ts.length fs σ) H3 s4) (st4 : tn 0 s4.heap) (w0 : W 0 m0 [] H3)
    (fin : ∀ H5 s6, Inv (cxC X (cpN ts fs) scope fp s3 H3) [] (cpσ ts.length fs σ) H5 s6 -> Q (.ref p) H5 -> R (.ok .next) s6)
    (turn : ∀ i m acc H2, W i m acc H2 -> (J.stop i H2 /\ Q (.ref p) H2) \/ (J.go i H2 /\ ∀ x H3, J.yld i H2 x H3 -> g x (cpσ ts.length fs σ) H3 fun σ4 H4 => Kp (cpσ ts.length fs σ) σ4 /\ tt σ4 H4 fun b H5 =>
      if b = true then te σ4 H5 fun y H6 => H6 p = some (.lst acc) /\ acc.length < sizeLine /\ ∃ m', m' < m /\ W (i + 1) m' (acc ++ [y]) (upd H6 p (.lst (acc ++ [y]))) else ∃ m', m' < m /\ W (i + 1) m' acc H5)) :
    codeAny (model X.prog X.w) X.A (.compLoop (.ListComp elt [⟨tg, iter, ifs, 0⟩] scope pos) 0 (.ref it) (.ref p) (cxC X (cpN ts fs) scope fp s3 H3).env) R s4 := by
  have stat : ∀ {H' : Hp}, (∀ b ∈ fp, H' b = none) -> ∀ b ∈ fp, Wj (cxC X (cpN ts fs) scope fp s3 H3) [] H' b := fun hn b hb =>
    ⟨hn b hb, Nat.ne_of_lt (lt b hb), fun z => (List.mem_cons.mp (I3.stkSub b z)).elim (hex b hb).2.1 (hex b hb).2.2.1, .inl hb, fun x c e => (hex b hb).2.2.2.2.1 x c (S.sub I3.ok e), fun q hq => absurd (show q ∈ ([] : List (Addr × Obj)) from hq) (by simp)⟩
  refine Vl (fun n s' => ∃ i acc H', Inv (cxC X (cpN ts fs) scope fp s3 H3) [] (cpσ ts.length fs σ) H' s' /\ tn i s'.heap /\ (∀ b ∈ fp, H' b = none) /\ W i n acc H') ?_ m0 ⟨0, [], H3, I4, st4, fun b hb => (hex b hb).1, w0⟩
  rintro n s5 ⟨i, acc, H5, I5, st5, fr5, w5⟩
  rcases turn i n acc H5 w5 with ⟨stop, q⟩ | ⟨go, step⟩
  . refine thn (T.done (cxC X (cpN ts fs) scope fp s3 H3) rfl rfl rfl hc i [] s5 _ H5 _ I5 (stat fr5) st5 stop) fun r s6 ⟨hr, I6⟩ => ?_
    subst hr
    exact fin H5 s6 I6 q
  . refine thn (T.item (cxC X (cpN ts fs) scope fp s3 H3) rfl rfl rfl hc i [] s5 _ H5 _ I5 (stat fr5) st5 go) fun r s6 ⟨u, hr, h6⟩ => ?_
    subst hr
    refine thn h6 fun _ s7 ⟨x, H7, I7, r7, y7, st7, fr7⟩ => ?_
    have I7' := I7.pinned (stat fr7) (T.obj _ _ st7)
    refine thn (hg fp s3 H3 _ s7 _ H7 x u _ I7' r7 (step x H7 y7)) fun _ s8 ⟨σ8, H8, I8, kp, q8⟩ => ?_
    have again : ∀ {H9 : Hp} {s9 : Shared} {acc' : List V} {m' : Nat}, Inv (cxC X (cpN ts fs) scope fp s3 H3) ([] ++ Vr fp s7.heap) σ8 H9 s9 -> m' < n -> W (i + 1) m' acc' H9 ->
        ∃ m, m < n /\ ∃ i acc H', Inv (cxC X (cpN ts fs) scope fp s3 H3) [] (cpσ ts.length fs σ) H' s9 /\ tn i s9.heap /\ (∀ b ∈ fp, H' b = none) /\ W i m acc H' := fun {H9 s9 acc' m'} I9 hm w9 => by
      refine ⟨m', hm, i + 1, acc', H9, (I9.fade kp).unpinned, T.keep _ _ _ st7 fun b hb o e => (I9.pin (b, o) (List.mem_append_right _ (List.mem_append_right _ (K4 hb e)))).1, fun b hb => ?_, w9⟩
      obtain ⟨o, e, d⟩ := T.obj _ _ st7 b hb
      exact (I9.pin (b, o) (List.mem_append_right _ (List.mem_append_right _ (K4 hb e)))).2.1
    refine thn (ht fp s3 H3 _ s8 σ8 H8 _ I8 q8) fun ok s9 ⟨H9, I9, q9⟩ => ?_
    cases ok with
    | false =>
      rw [if_neg Bool.false_ne_true] at q9 ⊢
      obtain ⟨m', hm, w9⟩ := q9
      exact again I9 hm w9
    | true =>
      rw [if_pos rfl] at q9 ⊢
      refine thn (he fp s3 H3 _ s9 σ8 H9 _ I9 q9) fun y s10 ⟨yv, H10, I10, r10, hp10, hlen, m', hm, w10⟩ => ?_
      exact thn (K1 _ s10 σ8 H10 (.ref p) [yv] (.ref p) [y] _ I10 rfl (.cons r10 .nil) ⟨p, acc, yv, rfl, rfl, hp10, hlen, w10⟩) fun _ s11 ⟨_, H11, I11, _, w11⟩ => again I11 hm w11
set_option maxHeartbeats 2000000 in
theorem Td {pos' : Pos} {pins : List (Addr × Obj)} {σ : St} {H : Hp} {s : Shared} {Q : VK} {QQ : Value -> Shared -> Prop} {use : Option (Value -> Sem Unit)} (hc : X.calm = true) (S : Cu X ts fs scope) (hi : PI X tg iter wi) (hg : ∀ ex s H, PG (cxC X (cpN ts fs) scope ex s H) tg g) (ht : ∀ ex s H, PTs (cxC X (cpN ts fs) scope ex s H) ifs tt)
    (he : ∀ ex s H, PE (cxC X (cpN ts fs) scope ex s H) elt te) (hs : ∀ x, foldedSetIterable iter X.env x = pure x) (I : Inv X pins σ H s) (h : Ys ts.length fs wi g tt te σ H Q)
    (fin : ∀ (H3 : Hp) (s3 : Shared) (fp : List Addr) (p : Addr) (H5 : Hp) (s6 : Shared), Inv X pins σ H3 s3 -> (∀ b ∈ fp, Wj X pins H3 b) -> Inv (cxC X (cpN ts fs) scope fp s3 H3) [] (cpσ ts.length fs σ) H5 s6 -> Q (.ref p) H5 -> compPost (model X.prog X.w) X.A X.xe use QQ (.ref p) s3.heap.objs.size (.ok .next) s6) :
    wpAny (model X.prog X.w) X.A (comprehension (.ListComp elt [⟨tg, iter, ifs, 0⟩] scope pos) scope X.env pos' (newList []) false (eval iter X.env) use) QQ X.xe s := by
  refine wpAny_comprehension_free (use := use) rfl hs (Y4 (S.clos I.ok)) S.kind S.names (thn (hi pins s σ H _ I h) fun v s1 h1 => thn h1 fun itv s2 h2 => ?_)
  obtain ⟨it, fp, tn, J, H2, rfl, I2, T, st2, f2, hw⟩ := h2
  refine wpAny_newObj_type (wpAny_newFunctionEnv S.cell (by intro y hy; simp at hy) (fun h₁ hns₁ hsb₁ => ?_) S.kind)
  dsimp only at hns₁ hsb₁ ⊢
  have I3 := I2.lnew (its := []) (ys := []) (t' := s2.toks) .nil (Nat.zero_le _)
  have hD : H2 s2.heap.objs.size = none := I2.fresh
  obtain ⟨W, ⟨m0, w0⟩, turn⟩ := hw _ hD
  have up : ∀ b o, s2.heap.get? b = some o -> (s2.heap.push { cls := .type "list", data := .seq ([] : List Value).toArray }).get? b = some o := fun b o e => Heap.get?_push_of_some _ e
  have hex : ∀ b ∈ fp, Wj X pins (upd H2 s2.heap.objs.size (.lst [])) b /\ ∃ o, (s2.heap.push { cls := .type "list", data := .seq ([] : List Value).toArray }).get? b = some o := fun b hb => by
    obtain ⟨o, ho, _⟩ := T.obj _ _ st2 b hb
    have nb : b ≠ s2.heap.objs.size := Nat.ne_of_lt (Heap.lt_size ho)
    exact ⟨⟨by rw [Cp nb]; exact (f2 b hb).1, (f2 b hb).2⟩, o, up b o ho⟩
  have hk4 : ∀ b u, (s2.heap.push { cls := .type "list", data := .seq ([] : List Value).toArray }).get? b = some u -> h₁.get? b = some u := fun b u e =>
    hsb₁.extBut b u (Nat.ne_of_lt (Heap.lt_size e)) (Heap.get?_push_of_some _ e)
  have I4 := Yu (s4 := { s2 with heap := h₁, toks := s2.toks }) S I3 hex rfl rfl hk4 hns₁
  have st4 : tn 0 h₁ := T.keep _ _ _ st2 fun b _ o e => hk4 b o (up b o e)
  have run := Adt (elt := elt) (iter := iter) (pos := pos) hc S hg ht he I3 T (fun b hb => (hex b hb).1) (fun b hb => Heap.lt_size (hex b hb).2.choose_spec) I4 st4 w0 (fun H5 s6 I6 q => fin _ _ fp _ H5 s6 I3 (fun b hb => (hex b hb).1) I6 q) turn
  exact codeAny_compStart_list run (T.self X.A 0 _ _ _ st4 run)
theorem Jg (hc : X.calm = true) (S : Cu X ts fs scope) (hi : PI X tg iter wi) (hg : ∀ ex s H, PG (cxC X (cpN ts fs) scope ex s H) tg g) (ht : ∀ ex s H, PTs (cxC X (cpN ts fs) scope ex s H) ifs tt)
    (he : ∀ ex s H, PE (cxC X (cpN ts fs) scope ex s H) elt te) (hs : ∀ x, foldedSetIterable iter X.env x = pure x := by intro _; rfl) :
    PE X (.ListComp elt [⟨tg, iter, ifs, 0⟩] scope pos) (Ys ts.length fs wi g tt te) := by
  intro pins s σ H Q I h
  rw [eval_ListComp]
  refine Td (use := none) hc S hi hg ht he hs I h fun H3 s3 fp p H5 s6 I3 hex I6 q => ?_
  obtain ⟨m, hn, _⟩ := I6.loc
  exact ⟨m, hn, fun h' sb => ⟨.ref p, H5, X6 S I3 hex I6 sb, rfl, q⟩⟩
theorem Oh {g' : TG} {y : Str} {py spos : Pos} (hc : X.calm = true) (S : Cu X ts fs scope) (hi : PI X tg iter wi) (hg : ∀ ex s H, PG (cxC X (cpN ts fs) scope ex s H) tg g) (ht : ∀ ex s H, PTs (cxC X (cpN ts fs) scope ex s H) ifs tt)
    (he : ∀ ex s H, PE (cxC X (cpN ts fs) scope ex s H) elt te) (hn : PG X (.Name y py) g') (hsw : swapsWith (.ListComp elt [⟨tg, iter, ifs, 0⟩] scope pos) (some (.Name y py)) spos.line X.env = pure true := by rfl) (hs : ∀ x, foldedSetIterable iter X.env x = pure x := by intro _; rfl) :
    PS X (.Assign [.Name y py] (.ListComp elt [⟨tg, iter, ifs, 0⟩] scope pos) spos) (Agy (Ys ts.length fs wi g tt te) g') := by
  intro pins s σ H D I h
  rw [exec_Assign_Name_used _ _ _ _ hsw]
  refine wpAny_bind (wpAny_standAt (wpAny_bind ?_))
  show wpAny _ X.A (do let _ <- comprehension (.ListComp elt [⟨tg, iter, ifs, 0⟩] scope pos) scope X.env _ (newList []) false (eval iter X.env) (some (assign (.Name y py) X.env))) _ _ s
  refine wpAny_bind (wpAny_mono (Td (use := some (assign (.Name y py) X.env)) (QQ := fun _ s' => SP X pins D .next s') hc S hi hg ht he hs I h fun H3 s3 fp p H5 s6 I3 hex I6 q => ?_) (fun _ s' hq => wpAny_pure (wpAny_pure hq)) fun _ _ e => e)
  have J : Inv X pins σ H5 s6 := X6 S I3 hex I6 (Heap.SameBut.refl _ _)
  obtain ⟨m, ⟨o, es, ep, ho, hd, hsk, hf⟩, _⟩ := I6.loc
  have ho' : s6.heap.get? s3.heap.objs.size = some o := ho
  have fC : Wj X pins H5 s3.heap.objs.size := I3.fpOk (Nat.le_refl _) I6.free
  have J' := J.pinned (fp := [s3.heap.objs.size]) (fun b hb => by
    have e : b = s3.heap.objs.size := by simpa using hb
    subst e
    exact fC) (fun b hb => by
    have e : b = s3.heap.objs.size := by simpa using hb
    subst e
    exact ⟨o, ho', fun v z => by rw [hd] at z; cases z⟩)
  refine thn (hn _ s6 σ H5 (.ref p) (.ref p) _ J' rfl q) fun _ s7 ⟨σ7, H7, I7, q7⟩ => ?_
  have pC := I7.pin (s3.heap.objs.size, o) (List.mem_append_right _ (List.mem_append_right _ (K4 (by simp) ho')))
  exact ⟨m, ⟨o, es, ep, pC.1, hd, hsk, hf⟩, fun h' sb => ⟨σ7, H7, I7.unpinned.turned (t' := s7.toks) (fun b o hb e => sb.extBut b o hb e) pC.2.1 fC.2.1 fC.2.2.2.1 fC.2.2.2.2.1 fC.2.2.2.2.2, q7⟩⟩
end
section
variable {K : PySem.W.Frag} {H1 : Hp} {p : Addr} {cσ : St} {g : TG} {te : TE} {Q : VK} {α : Type} {es : List α} {inj : α -> V}
def Wk (J : It) (H1 : Hp) (es : List α) (inj : α -> V) : Prop := ∀ i H', Same H1 H' -> (es[i]? = none -> J.stop i H') /\ ∀ e, es[i]? = some e -> J.go i H' /\ ∀ x H3, J.yld i H' x H3 -> H3 = H' /\ x = inj e
theorem Us {a : Addr} (h : SqL K H1 a (es.map inj)) : Wk (Itl K a) H1 es inj := fun i H' s => by
  have h' := s.seq h
  refine ⟨fun e => ⟨_, h', ?_⟩, fun e he => ⟨⟨_, inj e, h', by rw [List.getElem?_map, he]; rfl⟩, fun x H3 ⟨e1, e2⟩ => ⟨e1, ?_⟩⟩⟩
  . rw [List.length_map]
    exact List.getElem?_eq_none_iff.mp e
  . have z := e2 _ h'
    rw [List.getElem?_map, he] at z
    exact (Option.some.inj z).symm
theorem Ly {a : Addr} (h : SqT K H1 a (es.map inj)) : Wk (Itt K a) H1 es inj := fun i H' s => by
  have h' := s.tup h
  refine ⟨fun e => ⟨_, h', ?_⟩, fun e he => ⟨⟨_, inj e, h', by rw [List.getElem?_map, he]; rfl⟩, fun x H3 ⟨e1, e2⟩ => ⟨e1, ?_⟩⟩⟩
  . rw [List.length_map]
    exact List.getElem?_eq_none_iff.mp e
  . have z := e2 _ h'
    rw [List.getElem?_map, he] at z
    exact (Option.some.inj z).symm
theorem Ad1 {lo : Int} {n : Nat} : Wk (Itr lo n) H1 (List.range n) (fun i => .int (lo + (i : Nat))) := fun i H' s => by
  refine ⟨fun e => ?_, fun e he => ?_⟩
  . have := List.getElem?_eq_none_iff.mp e
    show n <= i
    simpa using this
  . obtain ⟨h, z⟩ := List.getElem?_eq_some_iff.mp he
    have hi : i < n := by simpa using h
    have z' : i = e := by simpa using z
    subst z'
    exact ⟨hi, fun x H3 ⟨e1, e2⟩ => ⟨e1, e2⟩⟩
theorem Jy {J : It} (f : α -> V) (hz : es.length <= sizeLine) (hp : H1 p = none) (hJ : Wk J H1 es inj)
    (step : ∀ e H' R, e ∈ es -> Same H1 H' -> (∀ H6, Same H' H6 -> R (f e) H6) -> g (inj e) cσ H' fun σ4 H4 => Kp cσ σ4 /\ te σ4 H4 R)
    (done : ∀ H', Same H1 H' -> H' p = some (.lst (es.map f)) -> Q (.ref p) H') : cIn J cσ g Adq te Q H1 p := by
  have su : ∀ {H' : Hp} {o : HO}, Same H1 H' -> Same H1 (upd H' p o) := fun {H' o} s b u e => by
    rw [Cp (Ce e hp)]
    exact s b u e
  refine ⟨fun i m acc H' => m = es.length - i /\ i <= es.length /\ acc = (es.take i).map f /\ H' p = some (.lst acc) /\ Same H1 H', ⟨es.length, by simp, Nat.zero_le _, by simp, Ae, su (Same.refl _)⟩, ?_⟩
  rintro i m acc H' ⟨rfl, hi, rfl, hH, s⟩
  cases he : es[i]? with
  | none =>
    have hl := List.getElem?_eq_none_iff.mp he
    have e : i = es.length := Nat.le_antisymm hi hl
    subst e
    rw [List.take_length] at hH
    exact .inl ⟨(hJ _ _ s).1 he, done _ s hH⟩
  | some e =>
    obtain ⟨go, yl⟩ := (hJ _ _ s).2 e he
    refine .inr ⟨go, fun x H3 y => ?_⟩
    obtain ⟨rfl, rfl⟩ := yl x H3 y
    obtain ⟨hlt, e'⟩ := List.getElem?_eq_some_iff.mp he
    have tk : es.take (i + 1) = es.take i ++ [e] := by rw [List.take_succ, he]; rfl
    have q := step e H3 (fun y H6 => H6 p = some (.lst ((es.take i).map f)) /\ ((es.take i).map f).length < sizeLine /\ ∃ m', m' < es.length - i /\ m' = es.length - (i + 1) /\ i + 1 <= es.length /\ (es.take i).map f ++ [y] = (es.take (i + 1)).map f /\
        upd H6 p (.lst ((es.take i).map f ++ [y])) p = some (.lst ((es.take i).map f ++ [y])) /\ Same H1 (upd H6 p (.lst ((es.take i).map f ++ [y])))) (List.mem_of_getElem? he) s
      (fun H6 s6 => ⟨s6 _ _ hH, by rw [List.length_map, List.length_take]; omega, _, by omega, rfl, hlt, by rw [tk, List.map_append]; rfl, Ae, su (s.trans s6)⟩)
    have eq : ∀ (R : VK) (B : Hp -> Prop), (fun σ4 H4 => Kp cσ σ4 /\ Adq σ4 H4 fun b H5 => if b = true then te σ4 H5 R else B H5) = (fun σ4 H4 => Kp cσ σ4 /\ te σ4 H4 R) := fun R B => by
      funext σ4 H4
      show (Kp cσ σ4 /\ if true = true then te σ4 H4 R else B H4) = _
      rw [if_pos rfl]
    rw [eq]
    exact q
end
section
variable {X : Cx} {K : PySem.W.Frag} {σ : St} {H : Hp} {Q : VK} {R : It -> Hp -> Prop}
theorem Gg {n : Nat} {fs : List (Nat × Str)} {wi : TI} {g : TG} {tt : TT} {te : TE} : Ys n fs wi g tt te σ H Q = wi σ H (fun J H1 => ∀ p, H1 p = none -> cIn J (cpσ n fs σ) g tt te Q H1 p) := rfl
theorem Gk {ta : TA} : Afy ta σ H R = ta σ H (fun vs H1 => ∃ j : Int, vs = [.int j] /\ -(2 ^ 62) <= j /\ j < 2 ^ 62 /\ R (Itr 0 j.toNat) H1) := rfl
theorem Gj {ta : TA} : Agk ta σ H R = ta σ H (fun vs H1 => ∃ i j : Int, vs = [.int i, .int j] /\ (-(2 ^ 62) <= i /\ i < 2 ^ 62 /\ -(2 ^ 62) <= j /\ j < 2 ^ 62) /\ R (Itr i (j - i).toNat) H1) := rfl
theorem Dq {tl : TE} : Ag5 K tl σ H R = tl σ H (fun x H1 => ∃ a, x = .ref a /\ (∃ xs, SqL K H1 a xs) /\ R (Itl K a) H1) := rfl
theorem Fg {tl : TE} : Ajm K tl σ H R = tl σ H (fun x H1 => ∃ a, x = .ref a /\ (∃ xs, SqT K H1 a xs) /\ R (Itt K a) H1) := rfl
theorem Jq {a : Addr} {p : Addr -> Prop} : (∃ b, V.ref a = .ref b /\ p b) = p a := propext ⟨fun ⟨_, e, h⟩ => by cases e; exact h, fun h => ⟨a, rfl, h⟩⟩
theorem Km {v : Option V} {r : St} : Kp (none :: r) (v :: r) = True := by
  refine eq_true ⟨rfl, fun i u e => ?_⟩
  cases i with
  | zero => cases e
  | succ i => exact e
theorem Kd {v v' : Option V} {r : St} : Kp (none :: none :: r) (v :: v' :: r) = True := by
  refine eq_true ⟨rfl, fun i u e => ?_⟩
  cases i with
  | zero => cases e
  | succ i =>
    cases i with
    | zero => cases e
    | succ i => exact e
theorem Gs {k : Bool} {p : Int -> Prop} {q : Bool -> Prop} : ((∃ i, [V.bl k] = [V.int i] /\ p i) \/ ∃ k', [V.bl k] = [V.bl k'] /\ q k') = q k :=
  propext ⟨fun h => h.elim (fun ⟨_, e, _⟩ => by cases e) fun ⟨_, e, h⟩ => by cases e; exact h, fun h => .inr ⟨k, rfl, h⟩⟩
end
end L2
namespace L2
open PySem PySem.Spec PyProof.Rows
def FI (J : It) (g : TG) (tb : TS) (D : Ends) (σ : St) (H : Hp) : Prop := ∃ W : Nat -> Nat -> St -> Hp -> Prop, (∃ m, W 0 m σ H) /\ ∀ i m σ H, W i m σ H ->
  (J.stop i H /\ D.nx σ H) \/ (J.go i H /\ ∃ N : St -> Hp -> Prop, (∀ σ' H', N σ' H' -> ∃ m', m' < m /\ W (i + 1) m' σ' H') /\ ∀ x H', J.yld i H x H' -> g x σ H' fun σ2 H2 => tb { D with nx := N, ct := N, bk := D.nx } σ2 H2)
theorem Io {wi : TI} {g : TG} {tb : TS} {D : Ends} {σ : St} {H : Hp} : Ajd wi g tb D σ H = wi σ H (fun J H1 => FI J g tb D σ H1) := rfl
section
variable {K : PySem.W.Frag} {σ : St} {H : Hp} {g : TG} {tb : TS} {D : Ends} {α : Type} {es : List α} {inj : α -> V}
def Agu (J : It) (H : Hp) (es : List α) (inj : α -> V) : Prop := ∀ i, (es[i]? = none -> J.stop i H) /\ ∀ e, es[i]? = some e -> J.go i H /\ ∀ x H3, J.yld i H x H3 -> H3 = H /\ x = inj e
theorem Aby {a : Addr} (h : SqL K H a (es.map inj)) : Agu (Itl K a) H es inj := fun i => Us h i H (Same.refl _)
theorem Yn {a : Addr} (h : SqT K H a (es.map inj)) : Agu (Itt K a) H es inj := fun i => Ly h i H (Same.refl _)
theorem S8 {lo : Int} {n : Nat} : Agu (Itr lo n) H (List.range n) (fun i => .int (lo + (i : Nat))) := fun i => Ad1 i H (Same.refl _)
theorem Acp {J : It} (Pv : List α -> St -> Hp -> Prop) (h0 : Pv [] σ H) (hw : ∀ pre σ H, Pv pre σ H -> Agu J H es inj)
    (hs : ∀ pre e post σ H, es = pre ++ e :: post -> Pv pre σ H -> g (inj e) σ H fun σ2 H2 => tb { D with nx := Pv (pre ++ [e]), ct := Pv (pre ++ [e]), bk := D.nx } σ2 H2) (hd : ∀ σ H, Pv es σ H -> D.nx σ H) : FI J g tb D σ H := by
  refine ⟨fun i m σ H => m = es.length - i /\ i <= es.length /\ Pv (es.take i) σ H, ⟨es.length, by simp, Nat.zero_le _, h0⟩, ?_⟩
  rintro i m σ H ⟨rfl, hi, p⟩
  have w := hw _ _ _ p i
  cases he : es[i]? with
  | none =>
    have e : i = es.length := Nat.le_antisymm hi (List.getElem?_eq_none_iff.mp he)
    subst e
    rw [List.take_length] at p
    exact .inl ⟨w.1 he, hd _ _ p⟩
  | some e =>
    obtain ⟨hlt, ee⟩ := List.getElem?_eq_some_iff.mp he
    have tk : es.take (i + 1) = es.take i ++ [e] := by rw [List.take_succ, he]; rfl
    have sp : es = es.take i ++ e :: es.drop (i + 1) := by
      rw [<- ee, <- List.drop_eq_getElem_cons hlt, List.take_append_drop]
    refine .inr ⟨(w.2 e he).1, Pv (es.take i ++ [e]), fun σ' H' q => ⟨es.length - (i + 1), by omega, rfl, hlt, by rw [tk]; exact q⟩, fun x H' y => ?_⟩
    obtain ⟨rfl, rfl⟩ := (w.2 e he).2 x H' y
    exact hs _ e _ σ H' sp p
end
end L2
namespace L2
open PySem PySem.Spec PyProof.Rows
section
variable {K : PySem.W.Frag} {σ : St} {H : Hp} {Q : VK}
theorem Sw {r : V -> Option Int -> Option Int -> Hp -> VK -> Prop} {te : TE} {tl th : TO} : tSl r te tl th σ H Q = te σ H (fun x H1 => tl σ H1 fun l H2 => th σ H2 fun u H3 => r x l u H3 Q) := rfl
theorem Cg {R : Option Int -> Hp -> Prop} : Xj σ H R = R none H := rfl
theorem Gd {t : TE} {R : Option Int -> Hp -> Prop} : Afq t σ H R = t σ H (fun x H1 => ∃ i, x = .int i /\ R (some i) H1) := rfl
theorem Kh {T : String} {r : V -> List V -> Hp -> VK -> Prop} {to : TE} : Aky K T r to σ H Q = to σ H (fun x H1 => tyV K T x H1 /\ r x [] H1 Q) := rfl
theorem Sx {T : String} {r : V -> List V -> Hp -> VK -> Prop} {to : TE} {t : TA} : tBM K T r to t σ H Q = to σ H (fun x H1 => tyV K T x H1 /\ t σ H1 fun xs H2 => r x xs H2 Q) := rfl
end
section
variable {CX : CXT} {P : Program} {w : World} {K : PySem.W.Frag} {mg : Str -> Option Value} {base : Heap} {N : List Str} {qual : Str} {scope : Scope} {f : Addr} {cd : Value} {A : Around} {outer : List Env} {s : Shared} {H H1 H2 : Hp} {E : XK} {Q : VK} {a b : Addr} {ns ms : List Int} {g : Bool -> Bool}
theorem Js : (Rk CX P w K mg base N qual scope f cd A outer s H E).K = K := rfl
theorem Ft : (Rk CX P w K mg base N qual scope f cd A outer s H E).nox.K = K := rfl
theorem Pb (ns : List Int) : SeqAt.shaped (.list (ns.map PyData.int)) = true := by
  simp [SeqAt.shaped, PyData.canLay0, PyData.depth, PySem.W.ke_canLayAll0, PySem.W.ke_depthAll]
theorem S9 : ∀ bs : List Bool, PyData.canLayAll0 (bs.map PyData.bool) = true
  | [] => rfl
  | b :: r => by
    rw [List.map_cons]
    simp only [PyData.canLayAll0, PyData.canLay0, S9 r, Bool.and_self]
theorem Vj : ∀ bs : List Bool, PyData.depthAll (bs.map PyData.bool) <= 1
  | [] => by decide
  | b :: r => by
    rw [List.map_cons]
    have := Vj r
    simp only [PyData.depthAll, PyData.depth]
    omega
theorem Q7 (bs : List Bool) : SeqAt.shaped (.list (bs.map PyData.bool)) = true := by
  have h := Vj bs
  simp [SeqAt.shaped, PyData.canLay0, PyData.depth, S9]
  omega
theorem Ac6 (ha : SqL K H a (ns.map V.int)) (hb : SqL K H b (ms.map V.int)) (h : Q (.bl (g (decide (ns = ms)))) H) : Ag7 K g (.ref a) (.ref b) H Q :=
  ⟨_, _, .lints ha, .lints hb, Pb _, Pb _, by rw [PyData.eqv, Nm]; exact h⟩
theorem Aga {bs cs : List Bool} (ha : SqL K H a (bs.map V.bl)) (hb : SqL K H b (cs.map V.bl)) (h : Q (.bl (g (decide (bs = cs)))) H) : Ag7 K g (.ref a) (.ref b) H Q :=
  ⟨_, _, .lst ha (.bls bs), .lst hb (.bls cs), Q7 _, Q7 _, by rw [PyData.eqv, Z0]; exact h⟩
end
end L2
namespace L2
open PySem PySem.Spec PyProof.Rows
section
variable {c : TT} {tb : TS} {D : Ends} {σ : St} {H : Hp}
def WB (Pv : St -> Hp -> Prop) (μ : St -> Hp -> Nat) (tb : TS) (D : Ends) (n : Nat) (σ : St) (H : Hp) : Prop :=
  ∃ N : St -> Hp -> Prop, (∀ σ' H', N σ' H' -> ∃ m', m' < n /\ (m' = μ σ' H' /\ Pv σ' H')) /\ tb { D with nx := N, ct := N, bk := D.nx } σ H
theorem Ags {Pv : St -> Hp -> Prop} {μ : St -> Hp -> Nat} {n : Nat} (h : tb { D with nx := fun σ' H' => Pv σ' H' /\ μ σ' H' < n, ct := fun σ' H' => Pv σ' H' /\ μ σ' H' < n, bk := D.nx } σ H) : WB Pv μ tb D n σ H :=
  ⟨_, fun _ _ ⟨p, l⟩ => ⟨_, l, rfl, p⟩, h⟩
theorem Qe (Pv : St -> Hp -> Prop) (μ : St -> Hp -> Nat) (h0 : Pv σ H) (hs : ∀ σ H, Pv σ H -> c σ H fun b H1 => if b = true then WB Pv μ tb D (μ σ H) σ H1 else D.nx σ H1) : V0 c tb D σ H := by
  refine ⟨fun m σ H => m = μ σ H /\ Pv σ H, ⟨_, rfl, h0⟩, ?_⟩
  rintro m σ H ⟨rfl, p⟩
  exact hs σ H p
end
theorem Gh {a : Addr} {p : Addr -> Prop} : (∃ b, [V.ref a] = [.ref b] /\ p b) = p a := propext ⟨fun ⟨_, e, h⟩ => by cases e; exact h, fun h => ⟨a, rfl, h⟩⟩
section
variable {K : PySem.W.Frag} {σ : St} {H : Hp} {Q : St -> Hp -> Prop} {R : VK} {p a b : Addr} {v w : V} {i j : Nat} {xs : List V} {ns ms : List Int} {f : Bool -> Bool}
theorem N5 (h : SqT K H p [v, w]) (q : Q ((σ.set i (some v)).set j (some w)) H) : Ahb K 2 (Mr (Nb i) (Mr (Nb j) Ac5)) (.ref p) σ H Q := ⟨p, _, rfl, h, rfl, v, _, rfl, w, _, rfl, rfl, q⟩
theorem Gq {to ti : TE} {t : Aif} : Agm to ti t v σ H Q = to σ H (fun o H1 => ti σ H1 fun i H2 => t o i v H2 fun H3 => Q σ H3) := rfl
theorem Wo {G : Hp -> Prop} (hp : H p = some (.lst xs)) (hj : j < xs.length) (q : G (upd H p (.lst (xs.set j v)))) : Afl (.ref p) (.int (j : Nat)) v H G := by
  refine ⟨p, xs, j, j, rfl, rfl, hp, ?_, q⟩
  unfold ixN
  rw [if_pos (by omega), if_pos (by omega), Int.toNat_natCast]
theorem O8 (h : SqL K H a xs) (e : xs[j]? = some v) (q : R v H) : Aie K (.ref a) (.int (j : Nat)) H R := Jo h (Mg e) q
theorem Bx (ha : SqT K H a (ns.map V.int)) (hb : SqT K H b (ms.map V.int)) (h : R (.bl (f (decide (ns = ms)))) H) : Ajy K f (.ref a) (.ref b) H R := ⟨a, b, ns, ms, rfl, rfl, ha, hb, h⟩
theorem K8 (ns : List Int) (j : Nat) (x : Int) : (ns.map V.int).set j (.int x) = (ns.set j x).map V.int := by rw [List.map_set]
theorem Iw {ns : List Int} {j : Nat} (h : j < ns.length) : (ns.map V.int)[j]? = some (.int ns[j]) := by rw [List.getElem?_map, List.getElem?_eq_getElem h]; rfl
theorem Nj (k : Nat) : (List.replicate k [V.int 0]).flatten = (List.replicate k (0 : Int)).map V.int := by
  induction k with
  | zero => rfl
  | succ k ih => rw [List.replicate_succ, List.flatten_cons, ih, List.replicate_succ, List.map_cons]; rfl
end
end L2
namespace L2
open PySem PySem.Spec PyProof.Rows
section
variable {prog : Program} {w : World} {A : Around} {E : Value -> Shared -> Prop} {s : Shared} {j u : Addr} {i : Nat} {xs : Array Value}
theorem nextT {y : Value} {Q : Value -> Shared -> Prop} (hj : s.heap.IsTupleIter j u i) (hu : s.heap.IsTuple u xs) (hy : xs[i]? = some y)
    (k : ∀ g, g.IsTupleIter j u (i + 1) -> Heap.SameBut j s.heap g -> Q y { s with heap := g }) : wpAny (model prog w) A (Builtin.SmallTypes.nextOf (.ref j)) Q E s := by
  obtain ⟨oj, ej, cj, dj⟩ := id hj
  obtain ⟨ou, eu, _, nu, du⟩ := hu
  unfold Builtin.SmallTypes.nextOf
  refine wpAny_bind (wpAny_callSpecial?_slot (name := Str.ofString "__next__") hj.typeIs F.slot_tuple_iterator_next (wpAny_call_entry F.slot_tuple_iterator_next hj.typeIs F.entry_tuple_iterator_next ?_ (F.args_tuple_iterator_next_1 _)))
  show wpAny _ _ (field (.ref j) 0 >>= _) _ _ s
  refine wpAny_bind (wpAny_field ej dj (x := .ref u) rfl ?_)
  show wpAny _ _ (if (Value.ref u == Value.none) = true then _ else _) _ _ s
  rw [if_neg (show ¬ ((Value.ref u == Value.none) = true) from Bool.false_ne_true)]
  show wpAny _ _ (field (.ref j) 1 >>= _) _ _ s
  refine wpAny_bind (wpAny_field ej dj (x := .int i 0) rfl ?_)
  show wpAny _ _ (seqItems? (.ref u) >>= _) _ _ s
  refine wpAny_bind (wpAny_seqItems eu du ?_)
  simp only [hy, Int.toNat_natCast]
  refine wpAny_bind (wpAny_setField ej dj (by simp) (wpAny_pure ⟨y, rfl, wpAny_pure (k _ ?_ (Heap.SameBut.update ..))⟩))
  exact ⟨_, Heap.get?_update_self _ ej (Obj.isFreed_of_fields (Obj.data_mapFields dj _)), (Obj.cls_mapFields ..).trans cj, by rw [Obj.data_mapFields dj]; simp [rawInt]⟩
theorem V2 {Q : Value -> Shared -> Prop} (hh : A.handled = none) (hj : s.heap.IsTupleIter j u i) (hu : s.heap.IsTuple u xs) (hy : xs[i]? = none)
    (k : ∀ g e, Heap.ExtBut j s.heap g -> (∃ o, g.get? e = some o /\ o.cls = .type "StopIteration") -> E (.ref e) { s with heap := g }) : wpAny (model prog w) A (Builtin.SmallTypes.nextOf (.ref j)) Q E s := by
  obtain ⟨oj, ej, cj, dj⟩ := id hj
  obtain ⟨ou, eu, _, nu, du⟩ := hu
  unfold Builtin.SmallTypes.nextOf
  refine wpAny_bind (wpAny_callSpecial?_slot (name := Str.ofString "__next__") hj.typeIs F.slot_tuple_iterator_next (wpAny_call_entry F.slot_tuple_iterator_next hj.typeIs F.entry_tuple_iterator_next ?_ (F.args_tuple_iterator_next_1 _)))
  show wpAny _ _ (field (.ref j) 0 >>= _) _ _ s
  refine wpAny_bind (wpAny_field ej dj (x := .ref u) rfl ?_)
  show wpAny _ _ (if (Value.ref u == Value.none) = true then _ else _) _ _ s
  rw [if_neg (show ¬ ((Value.ref u == Value.none) = true) from Bool.false_ne_true)]
  show wpAny _ _ (field (.ref j) 1 >>= _) _ _ s
  refine wpAny_bind (wpAny_field ej dj (x := .int i 0) rfl ?_)
  show wpAny _ _ (seqItems? (.ref u) >>= _) _ _ s
  refine wpAny_bind (wpAny_seqItems eu du ?_)
  simp only [hy, Int.toNat_natCast]
  refine wpAny_bind (wpAny_rule (wpAny_bind (wpAny_setField ej dj (by simp) ?_)))
  show wpAny _ A.in1 (newExc (.type "StopIteration") [] >>= _) _ _ _
  refine wpAny_bind ?_
  simp only [newTuple, newExc]
  refine wpAny_bind (wpAny_newObj_type ?_ (by size_fits))
  refine wpAny_bind (m := firstArgMember _ _) (wpAny_of_eq (a := Value.none) (by first | rfl | (simp only [firstArgMember] ; rfl)) ?_)
  refine (wpAny_newObj_type ?_ (by size_fits))
  simp only [raiseNew]
  refine wpAny_bind (wpAny_handled ?_)
  first | rw [show A.in1.handled = none from hh] | (rw [hh])
  refine wpAny_bind (wpAny_pure (wpAny_throw ?_))
  exact k _ _ (((Heap.SameBut.update ..).extBut.push _).push _) ⟨_, Heap.get?_push_size _ rfl, rfl⟩
theorem Ady {e : Addr} {y old : Value} {Q : Value -> Shared -> Prop} (he : IsEnum s.heap e j i old) (hj : s.heap.IsTupleIter j u i) (hu : s.heap.IsTuple u xs) (hy : xs[i]? = some y) (ne : e ≠ j)
    (k : ∀ g, IsEnumOut g e j ((i : Int) + 1) y s.heap.objs.size -> g.IsTupleIter j u (i + 1) -> g.get? s.heap.objs.size = some { cls := .type "tuple", data := .seq #[.int i s.toks, y] } -> g.objs.size = s.heap.objs.size + 1 ->
      (∀ b o, b ≠ e -> b ≠ j -> s.heap.get? b = some o -> g.get? b = some o) -> Q (.ref s.heap.objs.size) { s with heap := g, toks := s.toks + 1 }) :
    wpAny (model prog w) A (Builtin.«enumerate.__next__» ⟨[.ref e], []⟩) (fun fin s' => ∃ v, fin = .done (.ret v) /\ Q v s') E s := by
  obtain ⟨hp, gg, d, tk, os⟩ := s
  show wpAny _ _ (field (.ref e) 2 >>= _) _ _ _
  refine wpAny_bind (wpAny_field he rfl (x := .ref j) rfl ?_)
  refine wpAny_bind (nextT hj hu hy fun g₁ hj₁ sb₁ => ?_)
  replace sb₁ : Heap.SameBut j hp g₁ := sb₁
  have e₁ : IsEnum g₁ e j i old := (sb₁.2 e ne).trans he
  show wpAny _ _ (field (.ref e) 3 >>= _) _ _ ⟨g₁, gg, d, tk, os⟩
  refine wpAny_bind (wpAny_field e₁ rfl (x := rawInt i) rfl ?_)
  show wpAny _ _ (field (.ref e) 4 >>= _) _ _ ⟨g₁, gg, d, tk, os⟩
  refine wpAny_bind (wpAny_field e₁ rfl (x := .none) rfl ?_)
  show wpAny _ _ (mkInt i >>= _) _ _ ⟨g₁, gg, d, tk, os⟩
  refine wpAny_bind (wpAny_mkInt ?_)
  show wpAny _ _ (setField (.ref e) 3 (rawInt ((i : Int) + 1)) >>= _) _ _ ⟨g₁, gg, d, tk + 1, os⟩
  refine wpAny_bind (wpAny_setField_rec e₁ (by simp) fun g₂ e₂ sb₂ => ?_)
  replace sb₂ : Heap.SameBut e g₁ g₂ := sb₂
  replace e₂ : IsEnum g₂ e j ((i : Int) + 1) old := e₂
  show wpAny _ _ (setField (.ref e) 4 .none >>= _) _ _ ⟨g₂, gg, d, tk + 1, os⟩
  refine wpAny_bind (wpAny_setField_rec e₂ (by simp) fun g₃ e₃ sb₃ => ?_)
  replace sb₃ : Heap.SameBut e g₂ g₃ := sb₃
  replace e₃ : IsEnum g₃ e j ((i : Int) + 1) old := e₃
  show wpAny _ _ (newTuple [.int i tk, y] >>= _) _ _ ⟨g₃, gg, d, tk + 1, os⟩
  refine wpAny_bind (wpAny_newTuple ?_)
  have e₄ : IsEnum (g₃.push { cls := .type "tuple", data := .seq #[.int i tk, y] }) e j ((i : Int) + 1) old := Heap.get?_push_of_some _ e₃
  generalize hg : g₃.push { cls := .type "tuple", data := .seq #[.int i tk, y] } = g₄ at e₄
  have sz : g₃.objs.size = hp.objs.size := by rw [sb₃.1, sb₂.1, sb₁.1]
  have lt : e < hp.objs.size := Heap.lt_size he
  have t₄ : g₄.get? hp.objs.size = some { cls := .type "tuple", data := .seq #[.int i tk, y] } := by rw [<- hg, <- sz]; exact Heap.get?_push_size _ rfl
  have z₄ : g₄.objs.size = hp.objs.size + 1 := by rw [<- hg, Heap.size_push, sz]
  have k₄ : ∀ b o, b ≠ e -> b ≠ j -> hp.get? b = some o -> g₄.get? b = some o := fun b o h1 h2 hb => by
    rw [<- hg]; exact Heap.get?_push_of_some _ (sb₃.extBut b o h1 (sb₂.extBut b o h1 (sb₁.extBut b o h2 hb)))
  have j₄ : g₄.IsTupleIter j u (i + 1) := by
    rw [<- hg]; obtain ⟨o, ho, r⟩ := (hj₁.extBut sb₂.extBut (Ne.symm ne)).extBut sb₃.extBut (Ne.symm ne); exact ⟨o, Heap.get?_push_of_some _ ho, r⟩
  show wpAny _ _ (Builtin.SmallTypes.ownedTupleIsFree (.ref e) >>= _) _ _ ⟨g₄, gg, d, tk + 1, os⟩
  rw [sz]
  clear hg e₃ sb₃ e₂ sb₂ e₁ sb₁ hj₁ sz g₃ g₂ g₁
  refine wpAny_bind ?_
  . unfold Builtin.SmallTypes.ownedTupleIsFree
    refine wpAny_bind (wpAny_field e₄ rfl (x := .none) rfl (wpAny_pure ?_))
    simp only [if_true]
    refine wpAny_bind (wpAny_rule ?_)
    refine wpAny_bind (wpAny_field e₄ rfl (x := old) rfl ?_)
    refine wpAny_bind (wpAny_setField_rec e₄ (by simp) fun g₅ e₅ sb₅ => ?_)
    replace sb₅ : Heap.SameBut e g₄ g₅ := sb₅
    replace e₅ : IsEnum g₅ e j ((i : Int) + 1) y := e₅
    show wpAny _ _ (Builtin.SmallTypes.ownedTupleHandOut (.ref e) (.ref hp.objs.size) >>= _) _ _ ⟨g₅, gg, d, tk + 1, os⟩
    refine wpAny_bind ?_
    . unfold Builtin.SmallTypes.ownedTupleHandOut
      refine wpAny_bind (wpAny_setField_rec e₅ (by simp) fun g₆ e₆ sb₆ => ?_)
      replace sb₆ : Heap.SameBut e g₅ g₆ := sb₆
      replace e₆ : IsEnumOut g₆ e j ((i : Int) + 1) y hp.objs.size := e₆
      refine wpAny_setField_rec e₆ (by simp) fun g₇ e₇ sb₇ => ?_
      replace sb₇ : Heap.SameBut e g₆ g₇ := sb₇
      replace e₇ : IsEnumOut g₇ e j ((i : Int) + 1) y hp.objs.size := e₇
      refine wpAny_bind (wpAny_letGo (wpAny_pure ⟨_, rfl, k g₇ e₇ ?_ ?_ ?_ ?_⟩))
      . exact ((j₄.extBut sb₅.extBut (Ne.symm ne)).extBut sb₆.extBut (Ne.symm ne)).extBut sb₇.extBut (Ne.symm ne)
      . exact sb₇.extBut _ _ (Nat.ne_of_gt lt) (sb₆.extBut _ _ (Nat.ne_of_gt lt) (sb₅.extBut _ _ (Nat.ne_of_gt lt) t₄))
      . rw [sb₇.1, sb₆.1, sb₅.1, z₄]
      . exact fun b o h1 h2 hb => sb₇.extBut b o h1 (sb₆.extBut b o h1 (sb₅.extBut b o h1 (k₄ b o h1 h2 hb)))
theorem Ad7 {e : Addr} {y old : Value} {Q : Option Value -> Shared -> Prop} (he : IsEnum s.heap e j i old) (hj : s.heap.IsTupleIter j u i) (hu : s.heap.IsTuple u xs) (hy : xs[i]? = some y) (ne : e ≠ j)
    (k : ∀ g, IsEnumOut g e j ((i : Int) + 1) y s.heap.objs.size -> g.IsTupleIter j u (i + 1) -> g.get? s.heap.objs.size = some { cls := .type "tuple", data := .seq #[.int i s.toks, y] } -> g.objs.size = s.heap.objs.size + 1 ->
      (∀ b o, b ≠ e -> b ≠ j -> s.heap.get? b = some o -> g.get? b = some o) -> Q (some (.ref s.heap.objs.size)) { s with heap := g, toks := s.toks + 1 }) : wpAny (model prog w) A (pyNext (.ref e)) Q E s := by
  have ty : s.TypeIs (.ref e) "enumerate" := ⟨_, he, rfl⟩
  unfold pyNext
  exact wpAny_bind (wpAny_attempt (wpAny_callSpecial?_slot (name := Str.ofString "__next__") ty F.slot_enumerate_next (wpAny_call_entry F.slot_enumerate_next ty F.entry_enumerate_next
    (Ady he hj hu hy ne fun g a b c d f => wpAny_pure (k g a b c d f)) (F.args_enumerate_next_1 _))))
theorem Adw {e : Addr} {old : Value} {Q : Option Value -> Shared -> Prop} (hh : A.handled = none) (he : IsEnum s.heap e j i old) (hj : s.heap.IsTupleIter j u i) (hu : s.heap.IsTuple u xs) (hy : xs[i]? = none)
    (k : ∀ g, Heap.ExtBut j s.heap g -> Q none { s with heap := g }) : wpAny (model prog w) A (pyNext (.ref e)) Q E s := by
  have ty : s.TypeIs (.ref e) "enumerate" := ⟨_, he, rfl⟩
  unfold pyNext
  refine wpAny_bind (wpAny_attempt (wpAny_callSpecial?_slot (name := Str.ofString "__next__") ty F.slot_enumerate_next (wpAny_call_entry F.slot_enumerate_next ty F.entry_enumerate_next ?_ (F.args_enumerate_next_1 _))))
  show wpAny _ _ (field (.ref e) 2 >>= _) _ _ _
  refine wpAny_bind (wpAny_field he rfl (x := .ref j) rfl ?_)
  refine wpAny_bind (V2 hh hj hu hy fun g x hg ⟨o, ho, hc⟩ => ?_)
  refine wpAny_bind (wpAny_isInstance (T := "StopIteration") (b := true) ⟨o, ho, hc⟩ isSubtype_stop ?_)
  exact wpAny_pure (k _ hg)
end
open AutoSeq1 (wpAny_loadPart') in
theorem Aar (u : Addr) (xs : Array Value) (o : Obj) (n : Nat) (hc : o.cls = .type "tuple") (hd : o.data = .seq xs n) :
    Meets (Builtin.«enumerate.__new__» ⟨[.type "enumerate", .ref u], []⟩) (fun _ R s => s.heap.get? u = some o /\ R (.ok (.ret (.ref (s.heap.push { cls := .type "tuple_iterator", data := .fields #[.ref u, .int 0 0] }).objs.size)))
        { s with heap := (s.heap.push { cls := .type "tuple_iterator", data := .fields #[.ref u, .int 0 0] }).push { cls := .type "enumerate", data := .fields #[.none, .bool false, .ref s.heap.objs.size, rawInt 0, .none, .none] } }) :=
  .of_wp fun prog w A R s h => by
    obtain ⟨hp, g, d, tk, os⟩ := s; obtain ⟨hu, h⟩ := h
    obtain ⟨oc, od, odat, osl⟩ := o
    obtain rfl : oc = .type "tuple" := hc
    obtain rfl : odat = .seq xs n := hd
    have su := sub_enumerate
    have hT : Heap.IsTuple (Shared.heap ⟨hp, g, d, tk, os⟩) u xs := ⟨_, hu, rfl, n, rfl⟩
    wp_walk using wpAny_loadPart' hu
    refine wpAny_stack_any fun st => wpAny_pure ?_
    split
    . rename_i c _ _ _ _ _
      cases (c == Value.type "enumerate")
      . wp_walk using wpAny_loadPart' hu, wpAny_pyIter_tuple hT
        exact ⟨_, rfl, h⟩
      . wp_walk using wpAny_loadPart' hu, wpAny_pyIter_tuple hT
        exact ⟨_, rfl, h⟩
    . wp_walk using wpAny_loadPart' hu, wpAny_pyIter_tuple hT
      exact ⟨_, rfl, h⟩
section
variable {X : Cx} {pins : List (Addr × Obj)} {σ : St} {H : Hp} {s : Shared} {h' : Heap}
theorem Inv.turnL {t' : Nat} {fp : List Addr} (I : Inv X pins σ H s) (k : ∀ b o, b ∉ fp -> s.heap.get? b = some o -> h'.get? b = some o) (hf : ∀ b ∈ fp, Wj X pins H b) : Inv X pins σ H { s with heap := h', toks := t' } := by
  have nf : ∀ b u, H b = some u -> b ∉ fp := fun b u e z => by
    have := (hf b z).1
    rw [this] at e
    cases e
  refine I.step (g' := s.gens) (d' := s.drawn) (ch := fp) (fun b hb => ⟨(hf b hb).2.2.2.1, (hf b hb).2.1, (hf b hb).2.2.2.2.1, (hf b hb).2.2.2.2.2⟩) (fun b o _ _ hc e _ => k b o hc e) (fun b o _ _ hc e _ => ⟨o.slots, k b o hc e⟩) (fun _ _ _ _ n => n)
    (fun b o hc e => ⟨o, k b o hc e⟩) (fun _ _ e => e) (fun _ _ _ e => e) (fun b ps e => ⟨#[], by rw [e]; simp⟩) (fun m hm => ?_) (fun b u e => ?_) I.bare
  . obtain ⟨o, es, ep, ho, r⟩ := hm
    exact ⟨o, es, ep, k _ o (fun z => (hf _ z).2.1 rfl) ho, r⟩
  . refine (I.hok b u e).stay (fun c v hc q => k c v ?_ q) (fun _ q => q) fun _ _ q => q
    rcases hc with z | z
    . rw [z]
      exact nf b u e
    . exact nf c _ z
end
def Ite (K : PySem.W.Frag) (a : Addr) : It :=
  ⟨fun i H => ∃ xs x, SqT K H a xs /\ xs[i]? = some x, fun i H x H' => ∃ p v, (∀ xs, SqT K H a xs -> xs[i]? = some v) /\ H p = none /\ x = .ref p /\ H' = upd H p (.tup [.int (i : Nat), v]), fun i H => ∃ xs, SqT K H a xs /\ xs.length <= i⟩
theorem Afs {P : Program} {w : World} {K : PySem.W.Frag} {el : List Expr} {x1} {tp : Pos} (a e j : Addr) (ne : e ≠ j) : Turn P w K (.Tuple el x1 tp) (Ite K a) [e, j] e (fun i h => (∃ old, IsEnum h e j i old) /\ h.IsTupleIter j a i) where
  mem := by simp
  obj := fun i h st b hb => by
    obtain ⟨⟨old, he⟩, oj, ej, cj, dj⟩ := st
    rcases List.mem_cons.mp hb with rfl | hb
    . exact ⟨_, he, fun v z => by cases (show Data.fields _ = Data.cell v from z)⟩
    . have z : b = j := by simpa using hb
      subst z
      exact ⟨oj, ej, fun v z => by rw [dj] at z; cases z⟩
  keep := fun i h h' st k => by
    obtain ⟨⟨old, he⟩, oj, ej, r⟩ := st
    exact ⟨⟨old, k e (by simp) _ he⟩, oj, k j (by simp) _ ej, r⟩
  item := by
    intro X hP hw hK hc i pins s σ H E I hf st hg
    subst hP hw hK
    obtain ⟨xs, x, hq, hx⟩ := hg
    obtain ⟨its, rv, p, hz⟩ := I.tuple hq
    obtain ⟨u, hu, ru⟩ := rv.get hx
    obtain ⟨⟨old, he⟩, hj⟩ := st
    refine Ad7 he hj (show s.heap.IsTuple a its.toArray from p) (y := u) (by simpa using hu) ne fun g hout hj' hT hsz kk => ⟨_, rfl, ?_⟩
    refine wpAny_letOwnedTupleGo_enum hout fun g2 he2 sb2 => ?_
    replace sb2 : Heap.SameBut e g g2 := sb2
    have lte : e < s.heap.objs.size := Heap.lt_size he
    have ltj : j < s.heap.objs.size := by
      obtain ⟨_, ej, _⟩ := hj
      exact Heap.lt_size ej
    have hn : H s.heap.objs.size = none := I.fresh
    have I1 : Inv X pins σ (upd H s.heap.objs.size (.tup [.int (i : Nat), x])) { s with heap := s.heap.push { cls := .type "tuple", data := .seq #[.int i s.toks, u] }, toks := s.toks + 1 } :=
      I.laid (fun b o q => Heap.get?_push_of_some _ q) (Nat.le_refl _) ⟨by show 2 <= sizeLine; decide, [.int i s.toks, u], .cons ⟨_, rfl⟩ (.cons ru .nil), ⟨_, Heap.get?_push_size _ rfl, rfl, _, rfl⟩⟩
    have fp' : ∀ b ∈ [e, j], Wj X pins (upd H s.heap.objs.size (.tup [.int (i : Nat), x])) b := fun b hb => by
      have nb : b ≠ s.heap.objs.size := by
        rcases List.mem_cons.mp hb with rfl | hb'
        . exact Nat.ne_of_lt lte
        . have z : b = j := by simpa using hb'
          subst z
          exact Nat.ne_of_lt ltj
      exact ⟨by rw [Cp nb]; exact (hf b hb).1, (hf b hb).2⟩
    have I2 := I1.turnL (h' := g2) (t' := s.toks + 1) (fp := [e, j]) (fun b o hb q => by
      have n1 : b ≠ e := fun z => hb (by simp [z])
      have n2 : b ≠ j := fun z => hb (by simp [z])
      refine (sb2.2 b n1).trans ?_
      rcases Heap.get?_push_cases q with ⟨rfl, rfl⟩ | q0
      . exact hT
      . exact kk b o n1 n2 q0) fp'
    refine ⟨.ref s.heap.objs.size, _, I2, rfl, ⟨_, x, fun ys hy => by rw [I.tuple_inj hy hq]; exact hx, hn, rfl, rfl⟩, ⟨⟨_, by simpa using he2⟩, ?_⟩, fun b hb => (fp' b hb).1⟩
    exact hj'.extBut sb2.extBut (Ne.symm ne)
  done := by
    intro X hP hw hK hc i pins s σ H E I hf st hg
    subst hP hw hK
    obtain ⟨xs, hq, hx⟩ := hg
    obtain ⟨its, rv, p, hz⟩ := I.tuple hq
    obtain ⟨⟨old, he⟩, hj⟩ := st
    have hl := rv.length
    exact Adw (I.ok.hd hc) he hj (show s.heap.IsTuple a its.toArray from p) (by simp; omega) fun g eb => ⟨rfl, I.turnL (t' := s.toks) (fp := [e, j]) (fun b o hb q => eb b o (fun z => hb (by simp [z])) q) hf⟩
  self := fun _ _ _ _ _ st h => by
    obtain ⟨⟨old, he⟩, _⟩ := st
    exact wpAny_pyIter_enum he h
section
variable {X : Cx} {a : Expr} {ta : TA} {el : List Expr} {x1} {tp p pos : Pos}
def iEn (K : PySem.W.Frag) (ta : TA) : TI := fun σ H R => ta σ H fun vs H1 => ∃ a, vs = [.ref a] /\ (∃ xs, SqT K H1 a xs) /\ R (Ite K a) H1
theorem Uu (hg : Gl X "enumerate") (hm : X.mg "enumerate" = none) (ha : PA X [a] ta) (hs : starEach [a] X.env = [(false, eval a X.env)] := by rfl) : PI X (.Tuple el x1 tp) (.Call (.Name "enumerate" p) [a] [] pos) (iEn X.K ta) := by
  intro pins s σ H R I h
  refine Call_ (O7 I hg hm boot_enumerate (PyProof.Rows.callWith_type1 (thn (ha pos pins s σ H _ I h) fun us s1 ⟨vs, H1, I1, r1, q1⟩ => ?_) hs rfl))
  obtain ⟨b, rfl, ⟨xs, hq⟩, q⟩ := q1
  obtain ⟨v, rfl, rv⟩ := vals1 r1
  cases rv
  obtain ⟨its, rr, pl, hz⟩ := I1.tuple hq
  obtain ⟨o, ho, hc, n, hd⟩ := (show s1.heap.IsTuple b its.toArray from pl)
  refine callType_new F.called_enumerate (by decide) (F.typeCall_enumerate_1 _) (F.newCall_enumerate_1 _) (fun obj => F.args_object_init_2 obj _) F.entry_enumerate_new (Aar b its.toArray o n hc hd) ⟨ho, ?_⟩
  have z1 : (s1.heap.push { cls := .type "tuple_iterator", data := .fields #[.ref b, .int 0 0] }).objs.size = s1.heap.objs.size + 1 := Heap.size_push ..
  show _ /\ _
  rw [z1]
  have he : IsEnum ((s1.heap.push { cls := .type "tuple_iterator", data := .fields #[.ref b, .int 0 0] }).push { cls := .type "enumerate", data := .fields #[.none, .bool false, .ref s1.heap.objs.size, rawInt 0, .none, .none] }) (s1.heap.objs.size + 1) s1.heap.objs.size ((0 : Nat) : Int) .none := by
    have z2 := Heap.get?_push_size (s1.heap.push { cls := .type "tuple_iterator", data := .fields #[.ref b, .int 0 0] }) (o := { cls := .type "enumerate", data := .fields #[.none, .bool false, .ref s1.heap.objs.size, rawInt 0, .none, .none] }) rfl
    rw [z1] at z2
    exact z2
  have hj : Heap.IsTupleIter ((s1.heap.push { cls := .type "tuple_iterator", data := .fields #[.ref b, .int 0 0] }).push { cls := .type "enumerate", data := .fields #[.none, .bool false, .ref s1.heap.objs.size, rawInt 0, .none, .none] }) s1.heap.objs.size b 0 :=
    ⟨_, Heap.get?_push_of_some _ (Heap.get?_push_size _ rfl), rfl, rfl⟩
  have I2 : Inv X pins σ H1 { s1 with heap := (s1.heap.push { cls := .type "tuple_iterator", data := .fields #[.ref b, .int 0 0] }).push { cls := .type "enumerate", data := .fields #[.none, .bool false, .ref s1.heap.objs.size, rawInt 0, .none, .none] } } :=
    I1.kept (t' := s1.toks) fun c o' e => Heap.get?_push_of_some _ (Heap.get?_push_of_some _ e)
  refine ⟨⟨_, he, rfl⟩, wpAny_pyIter_enum he ⟨s1.heap.objs.size + 1, [s1.heap.objs.size + 1, s1.heap.objs.size], _, _, H1, rfl, I2, Afs b _ _ (Nat.ne_of_gt (Nat.lt_succ_self _)), ⟨⟨_, he⟩, hj⟩, fun c hcm => ?_, q⟩⟩
  have hge : s1.heap.objs.size <= c := by
    rcases List.mem_cons.mp hcm with rfl | hcm
    . exact Nat.le_succ _
    . have z : c = s1.heap.objs.size := by simpa using hcm
      exact Nat.le_of_eq z.symm
  exact I1.fpOk hge (I1.hok.fresh hge)
end
theorem Jl {K : PySem.W.Frag} {σ : St} {H : Hp} {ta : TA} {R : It -> Hp -> Prop} : iEn K ta σ H R = ta σ H (fun vs H1 => ∃ a, vs = [.ref a] /\ (∃ xs, SqT K H1 a xs) /\ R (Ite K a) H1) := rfl
theorem Zo {K : PySem.W.Frag} {σ : St} {H : Hp} {g : TG} {tb : TS} {D : Ends} {α : Type} {es : List α} {inj : α -> V} {a : Addr} (Pv : List α -> St -> Hp -> Prop) (h0 : Pv [] σ H) (hw : ∀ pre σ H, Pv pre σ H -> SqT K H a (es.map inj))
    (hs : ∀ pre e post σ H p, es = pre ++ e :: post -> Pv pre σ H -> H p = none -> g (.ref p) σ (upd H p (.tup [.int (pre.length : Nat), inj e])) fun σ2 H2 => tb { D with nx := Pv (pre ++ [e]), ct := Pv (pre ++ [e]), bk := D.nx } σ2 H2) (hd : ∀ σ H, Pv es σ H -> D.nx σ H) : FI (Ite K a) g tb D σ H := by
  refine ⟨fun i m σ H => m = es.length - i /\ i <= es.length /\ Pv (es.take i) σ H, ⟨es.length, by simp, Nat.zero_le _, h0⟩, ?_⟩
  rintro i m σ H ⟨rfl, hi, p⟩
  have w := hw _ _ _ p
  cases he : es[i]? with
  | none =>
    have e : i = es.length := Nat.le_antisymm hi (List.getElem?_eq_none_iff.mp he)
    subst e
    rw [List.take_length] at p
    exact .inl ⟨⟨_, w, by rw [List.length_map]; exact Nat.le_refl _⟩, hd _ _ p⟩
  | some e =>
    obtain ⟨hlt, ee⟩ := List.getElem?_eq_some_iff.mp he
    have tk : es.take (i + 1) = es.take i ++ [e] := by rw [List.take_succ, he]; rfl
    have sp : es = es.take i ++ e :: es.drop (i + 1) := by
      rw [<- ee, <- List.drop_eq_getElem_cons hlt, List.take_append_drop]
    refine .inr ⟨⟨_, inj e, w, by rw [List.getElem?_map, he]; rfl⟩, Pv (es.take i ++ [e]), fun σ' H' q => ⟨es.length - (i + 1), by omega, rfl, hlt, by rw [tk]; exact q⟩, fun x H' y => ?_⟩
    obtain ⟨b, v, y1, y2, rfl, rfl⟩ := y
    have y3 := y1 _ w
    rw [List.getElem?_map, he] at y3
    obtain rfl : inj e = v := Option.some.inj y3
    have hl : (es.take i).length = i := by rw [List.length_take]; omega
    have z := hs _ e _ σ H b sp p y2
    rw [hl] at z
    exact z
end L2
namespace L2
open PySem PySem.Spec PyProof.Rows
section
variable {X : Cx}
def Ai4 (K : PySem.W.Frag) : R2 := fun x y H Q => ∃ a b xs ys, x = .ref a /\ y = .ref b /\ SqT K H a xs /\ SqT K H b ys /\ xs.length + ys.length <= sizeLine /\ ∀ z H', Same H H' -> SqT K H' z (xs ++ ys) -> Q (.ref z) H'
theorem Uj : OpR X (binaryOp .Add) (Ai4 X.K) := by
  intro pins s σ H x y v u Q I rx ry h
  obtain ⟨a, b, xs, ys, rfl, rfl, ha, hb, hz, q⟩ := h
  by_cases hx : xs = []
  . subst hx
    cases rx
    cases ry
    obtain ⟨its, r1, p1, _⟩ := I.tuple ha
    obtain ⟨its2, r2, p2, _⟩ := I.tuple hb
    cases r1
    obtain ⟨⟨c1, d1, t1, l1⟩, ho, hc, n, hd⟩ := (show s.heap.IsTuple a ([] : List Value).toArray from p1)
    obtain ⟨⟨c2, d2, t2, l2⟩, ho2, hc2, n2, hd2⟩ := (show s.heap.IsTuple b its2.toArray from p2)
    simp only at hc hd hc2 hd2
    subst hc hd hc2 hd2
    exact concat_meets ⟨_, ho, rfl⟩ ⟨_, ho2, rfl⟩ noFill_tuple_add seq_tuple_add PySem.F.slot_tuple_add PySem.F.entry_tuple_add (PySem.F.args_tuple_add_2 _ _)
      (tuple_addW0 a b #[] its2.toArray n n2 d1 d2 l1 l2 rfl) ⟨ho, ho2, ⟨.ref b, H, I, rfl, q b H (Same.refl _) hb⟩⟩
  . exact Afj pins s σ H _ _ v u Q I rx ry ⟨a, b, xs, ys, rfl, rfl, ha, hb, hx, hz, fun e => q a H (Same.refl _) (by rw [e, List.append_nil]; exact ha), fun _ p hp => q p _ (Same.upd hp _) (.of Ae)⟩
theorem Xz (hc : X.calm = true) : Kg X (.builtin "all") (fun xs H Q => ∃ (a : Addr) (bs : List Bool), xs = [.ref a] /\ SqL X.K H a (bs.map V.bl) /\ Q (.bl (bs.all id)) H) := by
  intro pins s σ H xs us Q I r h
  obtain ⟨a, bs, rfl, ha, q⟩ := h
  obtain ⟨u, rfl, ru⟩ := vals1 r
  cases ru
  obtain ⟨its, rv, p, hz⟩ := I.list ha
  have hl : s.heap.IsList a its.toArray := p.isList
  have lt : a < s.heap.objs.size := by
    obtain ⟨_, e, _⟩ := hl
    exact Heap.lt_size e
  have ln : its.length = bs.length := by
    have := rv.length
    rw [List.length_map] at this
    exact this.symm
  refine call_all_walk (wpAny_pyIter_list hl ?_)
  refine ⟨s.heap.objs.size, [s.heap.objs.size, a], [s.heap.objs.size], its.toArray.size, _, _, fun i => (bs[i]?).getD true, rfl, Walks.list (A := X.A.in1) (I.ok.hd hc) _ a (Nat.ne_of_lt lt) its.toArray,
    ⟨⟨_, Heap.get?_push_size _ rfl, rfl, rfl⟩, hl.push _⟩, fun i v s' Q' E' hP hQ => ?_, fun g tk hk => ?_⟩
  . have hv : its[i]? = some v := by simpa using hP
    have hi : i < its.length := (List.getElem?_eq_some_iff.mp hv).1
    have hb : bs[i]? = some bs[i] := List.getElem?_eq_getElem (by omega)
    obtain ⟨w', hw, rw'⟩ := rv.get (show (bs.map V.bl)[i]? = some (V.bl bs[i]) by rw [List.getElem?_map, hb]; rfl)
    rw [hv] at hw
    cases hw
    cases rw'
    simp only [hb, Option.getD_some] at hQ
    exact wpAny_truthy_bool hQ
  . have e : ((List.range its.toArray.size).all fun i => (bs[i]?).getD true) = bs.all id := by
      rw [List.size_toArray, ln, Bool.eq_iff_iff, List.all_eq_true, List.all_eq_true]
      constructor
      . intro h x hx
        obtain ⟨i, hi, ei⟩ := List.getElem_of_mem hx
        have := h i (List.mem_range.mpr hi)
        rw [List.getElem?_eq_getElem hi, ei] at this
        exact this
      . intro h i hi
        have hi' := List.mem_range.mp hi
        rw [List.getElem?_eq_getElem hi']
        exact h _ (List.getElem_mem hi')
    rw [e]
    exact ⟨.bl _, H, I.kept (t' := tk) fun b o q' => hk b o (fun hm => by rw [List.mem_singleton.mp hm] at q'; exact Nat.lt_irrefl _ (Heap.lt_size q')) (Heap.get?_push_of_some _ q'), rfl, q⟩
end
theorem Ab0 : fillsNumberSlot (.type "tuple") "mul" = pure false :=
  PySem.fillsNumberSlot_seq (id := "tuple.__mul__") (r := some (.builtin "tuple.__rmul__")) PySem.F.slot_tuple_mul.lookup (by decide +kernel) PySem.F.slot_tuple_rmul.lookup (by decide +kernel)
theorem Aik : seqRepeat? (.type "tuple") = pure (some (.builtin "tuple.__mul__")) := by
  unfold seqRepeat?
  rw [PySem.seqSlot_of (T := "tuple") (name := "__mul__") (id := "tuple.__mul__") PySem.F.slot_tuple_mul.lookup (by decide +kernel), PySem.seqSlot_of (T := "tuple") (name := "__rmul__") (id := "tuple.__rmul__") PySem.F.slot_tuple_rmul.lookup (by decide +kernel)]
  rfl
theorem Agi (k : Int) (t : Tok) (u : Addr) (o : Obj) (xs : Array Value) (n : Nat) (hc : o.cls = .type "tuple") (hd : o.data = .seq xs n) :
    Meets (Builtin.«int.__rmul__» ⟨[.int k t, .ref u], []⟩) (fun _ R s => s.heap.get? u = some o /\ R (.ok (.ret Value.notImplemented)) s) :=
  .of_wp fun prog w A R s h => by
    obtain ⟨hp, g, d, tk, os⟩ := s; obtain ⟨hl, h⟩ := h
    obtain ⟨oc, od, odat, osl⟩ := o
    obtain rfl : oc = .type "tuple" := hc
    obtain rfl : odat = .seq xs n := hd
    wp_walk
    exact ⟨_, rfl, h⟩
open AutoSeq1 (wpAny_loadPart') in
theorem Aij (k : Int) (t : Tok) (u : Addr) (xs : Array Value) (n : Nat) (dd : Option Addr) (sl : Array (Option Value)) (k0 : ¬ k <= 0) (k1 : ¬ k = 1) (k2 : k < 1000) (hx : ¬ xs.isEmpty = true) (hz : xs.size * k.toNat <= 100000) :
    Meets (Builtin.«tuple.__mul__» ⟨[.ref u, .int k t], []⟩) (fun _ R s => s.heap.get? u = some { cls := .type "tuple", dict := dd, data := .seq xs n, slots := sl } /\
      R (.ok (.ret (.ref s.heap.objs.size))) { s with heap := s.heap.push { cls := .type "tuple", data := .seq ((List.replicate k.toNat xs).foldl (· ++ ·) #[]) } }) :=
  .of_wp fun prog w A R s h => by
    obtain ⟨hp, g, d, tk, os⟩ := s; obtain ⟨hl, h⟩ := h
    have f1 := AutoSeq1.idx_int
    have f2 := AutoSeq1.sub_tuple_tuple
    have hx0 : 0 < xs.size := by
      cases xs with
      | mk l =>
        cases l with
        | nil => exact absurd rfl hx
        | cons a r => simp
    have kn : (k.toNat : Int) = k := Int.toNat_of_nonneg (by omega)
    have zz : (xs.size : Int) * k <= 100000 := by
      rw [<- kn, <- Int.natCast_mul]
      omega
    have g1 : ¬ (decide (k < -2 ^ 63) || decide (k >= 2 ^ 63)) = true := by simp; omega
    have g2 : ¬ (xs.isEmpty || k == 1) = true := by
      rw [Bool.or_eq_true]
      rintro (z | z)
      . exact hx z
      . exact k1 (by simpa using z)
    have g3 : ¬ (decide (k <= 0) || xs.isEmpty) = true := by
      rw [Bool.or_eq_true]
      rintro (z | z)
      . exact k0 (by simpa using z)
      . exact hx z
    have g4 : ¬ ((xs.size : Int) * k > (2 ^ 63 - 1) / 8) := by omega
    have g5 : ¬ Builtin.Tuple.tupleTooMany ((xs.size : Int) * k) = true := by
      unfold Builtin.Tuple.tupleTooMany
      have : (100000 : Nat) <= sizeLine := by decide
      simp only [decide_eq_true_eq]
      omega
    have sz : ((List.replicate k.toNat xs).foldl (· ++ ·) #[]).size <= sizeLine := by
      have e : ∀ (m : Nat) (acc : Array Value), ((List.replicate m xs).foldl (· ++ ·) acc).size = acc.size + m * xs.size := fun m => by
        induction m with
        | zero => intro acc; simp
        | succ m ih =>
          intro acc
          rw [List.replicate_succ, List.foldl_cons, ih, Array.size_append, Nat.succ_mul]
          omega
      rw [e]
      have : (100000 : Nat) <= sizeLine := by decide
      rw [Nat.mul_comm] at hz
      simp only [Array.size_empty]
      omega
    have hT : Heap.IsTuple hp u xs := ⟨_, hl, rfl, n, rfl⟩
    wp_walk using wpAny_loadPart' hl
    rw [if_neg g1]
    refine wpAny_bind (tupleItemsOf_ hT ?_)
    dsimp only
    rw [if_neg g2, if_neg g3, if_neg g4, if_neg g5]
    exact wpAny_bind (wpAny_newObj_type (wpAny_pure ⟨_, rfl, h⟩) sz)
open AutoSeq1 (wpAny_loadPart') in
theorem Afu (t : Tok) (u : Addr) (xs : Array Value) (n : Nat) (dd : Option Addr) (sl : Array (Option Value)) :
    Meets (Builtin.«tuple.__mul__» ⟨[.ref u, .int 1 t], []⟩) (fun _ R s => s.heap.get? u = some { cls := .type "tuple", dict := dd, data := .seq xs n, slots := sl } /\ R (.ok (.ret (.ref u))) s) :=
  .of_wp fun prog w A R s h => by
    obtain ⟨hp, g, d, tk, os⟩ := s; obtain ⟨hl, h⟩ := h
    have f1 := AutoSeq1.idx_int
    have f2 := AutoSeq1.sub_tuple_tuple
    have g1 : ¬ (decide ((1 : Int) < -2 ^ 63) || decide ((1 : Int) >= 2 ^ 63)) = true := by decide
    have g2 : (xs.isEmpty || (1 : Int) == 1) = true := by simp
    have hT : Heap.IsTuple hp u xs := ⟨_, hl, rfl, n, rfl⟩
    wp_walk using wpAny_loadPart' hl
    exact ⟨_, rfl, h⟩
open AutoSeq1 (wpAny_loadPart') in
theorem Agq (t : Tok) (u : Addr) (xs : Array Value) (n : Nat) (dd : Option Addr) (sl : Array (Option Value)) (hx : ¬ xs.isEmpty = true) :
    Meets (Builtin.«tuple.__mul__» ⟨[.ref u, .int 0 t], []⟩) (fun _ R s => s.heap.get? u = some { cls := .type "tuple", dict := dd, data := .seq xs n, slots := sl } /\
      R (.ok (.ret (.ref s.heap.objs.size))) { s with heap := s.heap.push { cls := .type "tuple", data := .seq #[] } }) :=
  .of_wp fun prog w A R s h => by
    obtain ⟨hp, g, d, tk, os⟩ := s; obtain ⟨hl, h⟩ := h
    have f1 := AutoSeq1.idx_int
    have f2 := AutoSeq1.sub_tuple_tuple
    have g1 : ¬ (decide ((0 : Int) < -2 ^ 63) || decide ((0 : Int) >= 2 ^ 63)) = true := by decide
    have g2 : ¬ (xs.isEmpty || (0 : Int) == 1) = true := by simpa using hx
    have g3 : (decide ((0 : Int) <= 0) || xs.isEmpty) = true := by simp
    have hT : Heap.IsTuple hp u xs := ⟨_, hl, rfl, n, rfl⟩
    wp_walk using wpAny_loadPart' hl
    exact ⟨_, rfl, h⟩
section
variable {X : Cx}
def Ajz (K : PySem.W.Frag) : R2 := fun x y H Q => ∃ (a : Addr) (k : Nat) (xs : List V), x = .ref a /\ y = .int (k : Nat) /\ SqT K H a xs /\ xs ≠ [] /\ k < 1000 /\ xs.length * k <= 100000 /\ ∀ z H', Same H H' -> SqT K H' z (List.replicate k xs).flatten -> Q (.ref z) H'
theorem Agb : OpR X (binaryOp .Mult) (Ajz X.K) := by
  intro pins s σ H x y v u Q I rx ry h
  obtain ⟨a, k, xs, rfl, rfl, ha, hx, hk, hz, q⟩ := h
  cases rx
  obtain ⟨t, rfl⟩ := ry
  obtain ⟨its, r1, p1, _⟩ := I.tuple ha
  obtain ⟨⟨c1, d1, t1, l1⟩, ho, hc, n, hd⟩ := (show s.heap.IsTuple a its.toArray from p1)
  simp only at hc hd
  subst hc hd
  have hne : ¬ its.toArray.isEmpty = true := by
    have := fun z => hx (r1.nil_iff.mp z)
    simpa using this
  refine wpAny_binaryOp_repeat_ref (T := "tuple") (U := "int") (by decide) ⟨_, ho, rfl⟩ (fun s' => typeIs_int s' k t) Ab0 F.fills_int_mul F.slot_int_rmul Aik F.slot_int_index.lookup
    (call_meets F.slot_int_rmul (typeIs_int s k t) F.entry_int_rmul (F.args_int_rmul_2 _ _) (Agi k t a _ its.toArray n rfl rfl) ⟨ho, rfl, ⟨_, ho, rfl⟩, ?_⟩)
  by_cases k0 : k = 0
  . subst k0
    refine call_meets F.slot_tuple_mul ⟨_, ho, rfl⟩ F.entry_tuple_mul (F.args_tuple_mul_2 _ _) (Agq t a its.toArray n d1 l1 hne) ⟨ho, ?_⟩
    exact ⟨.ref s.heap.objs.size, _, I.laid (t' := s.toks) (o := .tup []) (fun b ob q' => Heap.get?_push_of_some _ q') (Nat.le_refl _) ⟨Nat.zero_le _, [], .nil, IsTup.new _ _⟩, rfl, q _ _ (Same.upd I.fresh _) (.of Ae)⟩
  by_cases k1 : k = 1
  . subst k1
    refine call_meets F.slot_tuple_mul ⟨_, ho, rfl⟩ F.entry_tuple_mul (F.args_tuple_mul_2 _ _) (Afu t a its.toArray n d1 l1) ⟨ho, ?_⟩
    exact ⟨.ref a, H, I, rfl, q a H (Same.refl _) (by simpa using ha)⟩
  have kt : ((k : Nat) : Int).toNat = k := Int.toNat_natCast k
  refine call_meets F.slot_tuple_mul ⟨_, ho, rfl⟩ F.entry_tuple_mul (F.args_tuple_mul_2 _ _) (Aij k t a its.toArray n d1 l1 (by omega) (by omega) (by omega) hne (by rw [List.size_toArray, kt, <- r1.length]; exact hz)) ⟨ho, ?_⟩
  have e : (List.replicate ((k : Nat) : Int).toNat its.toArray).foldl (· ++ ·) #[] = (List.replicate k its).flatten.toArray := by
    rw [kt]
    have := foldl_rep its k []
    rw [List.nil_append] at this
    exact this
  rw [e]
  refine ⟨.ref s.heap.objs.size, _, I.laid (t' := s.toks) (o := .tup (List.replicate k xs).flatten) (fun b ob q' => Heap.get?_push_of_some _ q') (Nat.le_refl _) ⟨?_, _, r1.rep k, IsTup.new _ _⟩, rfl, q _ _ (Same.upd I.fresh _) (.of Ae)⟩
  rw [len_rep, Nat.mul_comm]
  exact Nat.le_trans hz (by decide)
end
section
variable {X : Cx}
theorem Ac8 : Kg X (.builtin "isinstance") (fun xs H Q => ∃ (a : Addr) (ys : List V) (T : String) (b : Bool), xs = [.ref a, .ty T] /\ SqT X.K H a ys /\ PySem.W.kitOne X.K (.type "tuple") (.type T) = some b /\ Q (.bl b) H) := by
  intro pins s σ H xs us Q I r h
  obtain ⟨a, ys, T, b, rfl, ht, hk, q⟩ := h
  obtain ⟨u, c, rfl, ru, rc⟩ := vals2 r
  cases rc
  cases ru
  obtain ⟨its, rv, p, _⟩ := I.tuple ht
  obtain ⟨o, h1, h2, _⟩ := (show s.heap.IsTuple a its.toArray from p)
  exact PySem.W.kia_one PySem.W.kitx_tuple I.kIn ⟨o, h1, h2⟩ hk (fun z => nomatch z) fun tk => ⟨.bl b, H, I.tok tk, rfl, q⟩
end
section
variable {prog : Program} {w : World} {A : Around} {E : Value -> Shared -> Prop} {s : Shared}
theorem Z2 {t sl : Addr} {ys : Array Value} {vl vu : Value} {lo hi : Option Int} {Q : Value -> Shared -> Prop} (ht : IsTup s.heap t ys) (hs : s.heap.IsSliceOf sl vl vu .none) (pl : IsPart vl lo) (pu : IsPart vu hi)
    (w1 : HT.sIx ys.size 0 lo = 0) (w2 : HT.sIx ys.size ys.size hi = ys.size) (h : Q (.ref t) s) : wpAny (model prog w) A (getItem (.ref t) (.ref sl)) Q E s := by
  obtain ⟨os, eos, cs, ds⟩ := id hs
  have ty : s.TypeIs (.ref sl) "slice" := ⟨os, eos, cs⟩
  unfold getItem
  try with_reducible refine (wpAny_holding ?_)
  first | refine (wpAny_bind (wpAny_pure ?_)) | skip
  refine wpAny_bind (wpAny_sequenceKey ht.typeIs (by decide) (?_))
  refine wpAny_bind (wpAny_callSpecial?_slot (name := Str.ofString "__getitem__") ht.typeIs PyProof.Rows.slot_tuple_getitem (wpAny_call_entry PyProof.Rows.slot_tuple_getitem ht.typeIs entry_tuple_getitem ?_ (args_tuple_getitem _ _)))
  show wpAny _ A.in1 (Builtin.Tuple.tupleItemsOf (.ref t) >>= _) _ _ s
  refine wpAny_bind (tupleItemsOf_ ht (?_))
  refine wpAny_bind (wpAny_typeOf ty ?_)
  rw [if_pos (by decide)]
  refine wpAny_bind (HT.Lh hs pl pu ?_)
  have yes : (((HT.sIx ys.size 0 lo : Nat) : Int) == 0 && (1 : Int) == 1 && (HT.sIx ys.size ys.size hi - HT.sIx ys.size 0 lo) == ys.size) = true := by
    rw [w1, w2]
    simp
  show wpAny _ A.in1 (if (((HT.sIx ys.size 0 lo : Nat) : Int) == 0 && (1 : Int) == 1 && (HT.sIx ys.size ys.size hi - HT.sIx ys.size 0 lo) == ys.size) = true then _ else _) _ _ s
  rw [if_pos yes]
  refine wpAny_bind ?_
  unfold Builtin.Tuple.tupleIsExact
  refine wpAny_bind (wpAny_typeOf ht.typeIs (wpAny_pure ?_))
  rw [if_pos (by decide)]
  exact wpAny_bind (wpAny_rule (wpAny_pure ⟨_, rfl, wpAny_pure h⟩))
end
section
variable {X : Cx}
def Akh (K : PySem.W.Frag) : V -> Option Int -> Option Int -> Hp -> VK -> Prop := fun x lo hi H Q => ∃ a xs, x = .ref a /\ SqT K H a xs /\ ∀ z H', Same H H' -> SqT K H' z (Nh xs lo hi) -> Q (.ref z) H'
theorem Ho : SlR X (Akh X.K) := by
  intro pins s σ H x v vl vu lo hi sl Q I rx hs pl pu h
  obtain ⟨a, xs, rfl, hx, q⟩ := h
  by_cases hw : HT.sIx xs.length 0 lo = 0 /\ HT.sIx xs.length xs.length hi = xs.length
  . cases rx
    obtain ⟨its, r, ht, hz⟩ := I.tuple hx
    have hlen : its.toArray.size = xs.length := by rw [List.size_toArray]; exact r.length.symm
    refine ⟨"tuple", _, PyProof.Rows.slot_tuple_getitem.lookup, ht.typeIs, Z2 ht hs pl pu (by rw [hlen]; exact hw.1) (by rw [hlen]; exact hw.2) ⟨.ref a, H, I, rfl, q a H (Same.refl _) ?_⟩⟩
    have e : Nh xs lo hi = xs := by
      unfold Nh
      rw [hw.1, hw.2, List.drop_zero, Nat.sub_zero, List.take_length]
    rw [e]
    exact hx
  . exact Air pins s σ H _ v vl vu lo hi sl Q I rx hs pl pu ⟨a, xs, rfl, hx, hw, fun p hp => q p _ (Same.upd hp _) (.of Ae)⟩
def Akw (K : PySem.W.Frag) : R2 := fun x y H Q => ∃ a xs i v, x = .ref a /\ y = .int i /\ (SqL K H a xs \/ SqT K H a xs) /\ atI xs i = some v /\ Q v H
theorem Ahl : IxR X (Akw X.K) := by
  intro value slice pins s σ H x y v u Q I rx ry h hs
  obtain ⟨a, xs, i, w, rfl, rfl, hq, e, q⟩ := h
  rcases hq with hq | hq
  . exact Dp value slice pins s σ H _ _ v u Q I rx ry ⟨a, xs, i, w, rfl, rfl, hq, e, q⟩ hs
  . exact Bu value slice pins s σ H _ _ v u Q I rx ry ⟨a, xs, i, w, rfl, rfl, hq, e, q⟩ hs
def Aki (K : PySem.W.Frag) : V -> Option Int -> Option Int -> Hp -> VK -> Prop := fun x lo hi H Q => ∃ a xs, x = .ref a /\ ((SqL K H a xs /\ ∀ z H', Same H H' -> SqL K H' z (Nh xs lo hi) -> Q (.ref z) H') \/ (SqT K H a xs /\ ∀ z H', Same H H' -> SqT K H' z (Nh xs lo hi) -> Q (.ref z) H'))
theorem Aht : SlR X (Aki X.K) := by
  intro pins s σ H x v vl vu lo hi sl Q I rx hs pl pu h
  obtain ⟨a, xs, rfl, h | h⟩ := h
  . exact Wv pins s σ H _ v vl vu lo hi sl Q I rx hs pl pu ⟨a, xs, rfl, h.1, fun p hp => h.2 p _ (Same.upd hp _) (.of Ae)⟩
  . exact Ho pins s σ H _ v vl vu lo hi sl Q I rx hs pl pu ⟨a, xs, rfl, h.1, h.2⟩
end
end L2
namespace L2
open PySem PySem.Spec PyProof.Rows
theorem Ad4 (n : Nat) : Builtin.Slice.sliceAdjust none none (-1) (n : Int) = ((n : Int) - 1, -1) := by
  unfold Builtin.Slice.sliceAdjust
  rfl
theorem Afi (n : Nat) : Builtin.Slice.slicePlaces ((n : Int) - 1) (-1) (-1) = n := by
  unfold Builtin.Slice.slicePlaces
  have h1 : ¬ (-1 : Int) > 0 := by omega
  simp only [h1, if_false]
  split
  . first | omega | (simp; done) | (simp; omega)
  . omega
theorem Ab8 {α β : Type} {f : α -> Option β} {g : α -> β} : ∀ {l : List α}, (∀ k ∈ l, f k = some (g k)) -> l.filterMap f = l.map g
  | [], _ => rfl
  | a :: r, h => by rw [List.filterMap_cons, h a List.mem_cons_self, List.map_cons, Ab8 fun k hk => h k (List.mem_cons_of_mem _ hk)]
theorem Aab (xs : List Value) : ((List.range xs.length).filterMap fun (k : Nat) => xs.toArray[(((xs.length : Nat) : Int) - 1 + (k : Int) * (-1)).toNat]?) = xs.reverse := by
  have h : ∀ k ∈ List.range xs.length, xs.toArray[(((xs.length : Nat) : Int) - 1 + (k : Int) * (-1)).toNat]? = some (xs.reverse.getD k .none) := fun k hk => by
    have hk' := List.mem_range.mp hk
    have e : ((((xs.length : Nat) : Int) - 1 + (k : Int) * (-1)).toNat) = xs.length - 1 - k := by omega
    rw [e, List.getElem?_toArray, List.getD_eq_getElem?_getD, List.getElem?_reverse hk', List.getElem?_eq_getElem (by omega)]
    rfl
  rw [Ab8 h]
  refine List.ext_getElem (by simp) fun i h1 h2 => ?_
  have hi : i < xs.length := by simpa using h2
  simp [List.getD_eq_getElem?_getD, hi]
section
variable {prog : Program} {w : World} {A : Around} {E : Value -> Shared -> Prop} {s : Shared}
theorem Af1 {t sl : Addr} {ys : List Value} {tk : Tok} {Q : Value -> Shared -> Prop} (ht : IsTup s.heap t ys.toArray) (hs : s.heap.IsSliceOf sl .none .none (.int (-1) tk)) (hz : ys.length <= sizeLine)
    (h : Q (.ref s.heap.objs.size) { s with heap := s.heap.push { cls := .type "tuple", data := .seq ys.reverse.toArray } }) : wpAny (model prog w) A (getItem (.ref t) (.ref sl)) Q E s := by
  obtain ⟨os, eos, cs, ds⟩ := id hs
  have ty : s.TypeIs (.ref sl) "slice" := ⟨os, eos, cs⟩
  have fit : sizeOk (.seq ys.reverse.toArray) := by
    show ys.reverse.toArray.size <= sizeLine
    simpa using hz
  unfold getItem
  try with_reducible refine (wpAny_holding ?_)
  first | refine (wpAny_bind (wpAny_pure ?_)) | skip
  refine wpAny_bind (wpAny_sequenceKey ht.typeIs (by decide) (?_))
  refine wpAny_bind (wpAny_callSpecial?_slot (name := Str.ofString "__getitem__") ht.typeIs PyProof.Rows.slot_tuple_getitem (wpAny_call_entry PyProof.Rows.slot_tuple_getitem ht.typeIs entry_tuple_getitem ?_ (args_tuple_getitem _ _)))
  show wpAny _ A.in1 (Builtin.Tuple.tupleItemsOf (.ref t) >>= _) _ _ s
  refine wpAny_bind (tupleItemsOf_ ht (?_))
  refine wpAny_bind (wpAny_typeOf ty ?_)
  rw [if_pos (by decide)]
  refine wpAny_bind (m := Builtin.Slice.sliceApplied (.ref sl) (pure ((ys.toArray.size : Nat) : Int))) ?_
  unfold Builtin.Slice.sliceApplied Builtin.Slice.sliceFields
  refine wpAny_bind (wpAny_bind (wpAny_field eos ds (x := .none) rfl (wpAny_bind (wpAny_field eos ds (x := .none) rfl (wpAny_bind (wpAny_field eos ds (x := .int (-1) tk) rfl (wpAny_pure ?_)))))))
  refine wpAny_bind (slicePart_int ?_)
  show wpAny _ A.in1 (if ((-1 : Int) == 0) = true then _ else _) _ _ s
  rw [if_neg (by decide)]
  refine wpAny_bind (slicePart_none (wpAny_bind (slicePart_none (wpAny_bind (wpAny_pure ?_)))))
  show wpAny _ A.in1 (match Builtin.Slice.sliceAdjust none none (-1) ((ys.toArray.size : Nat) : Int) with | (lo, hi) => pure (lo, (-1 : Int), Builtin.Slice.slicePlaces lo hi (-1))) _ _ s
  rw [Ad4]
  show wpAny _ A.in1 (pure (((ys.toArray.size : Nat) : Int) - 1, (-1 : Int), Builtin.Slice.slicePlaces (((ys.toArray.size : Nat) : Int) - 1) (-1) (-1))) _ _ s
  rw [Afi]
  refine wpAny_pure ?_
  dsimp only
  rw [if_neg (by simp)]
  have e : (List.filterMap (fun (k : Nat) => ys.toArray[(((ys.toArray.size : Nat) : Int) - 1 + (k : Int) * (-1)).toNat]?) (List.range ys.toArray.size)) = ys.reverse := Aab ys
  rw [e]
  exact wpAny_bind (m := Builtin.Tuple.tupleExact _) (wpAny_newObj_type (wpAny_pure ⟨_, rfl, wpAny_pure h⟩) fit)
end
section
variable {X : Cx} {e st : Expr} {te tst : TE} {pos p2 : Pos}
def Ajb (K : PySem.W.Frag) (te tst : TE) : TE := fun σ H Q => te σ H fun x H1 => tst σ H1 fun y H2 => ∃ a xs, x = .ref a /\ y = .int (-1) /\ SqT K H2 a xs /\ ∀ p, H2 p = none -> Q (.ref p) (upd H2 p (.tup xs.reverse))
theorem Vals.rev {xs : List V} {us : List Value} (h : Vals xs us) : Vals xs.reverse us.reverse := by
  induction h with
  | nil => exact .nil
  | cons r _ ih =>
    rw [List.reverse_cons, List.reverse_cons]
    exact ih.append (.cons r .nil)
theorem Aas (he : PE X e te) (hst : PE X st tst) : PE X (.Subscript e (.Slice none none (some st) p2) pos) (Ajb X.K te tst) := by
  intro pins s σ H Q I h
  refine Subscript_ (thn (he pins s σ H _ I h) fun v s1 ⟨x, H1, I1, r1, q1⟩ => ?_)
  refine wpAny_Slice ?_
  rw [evalPart_none]
  refine wpAny_pure (wpAny_pure ?_)
  rw [evalPart_some]
  refine thn (hst pins s1 σ H1 _ I1 q1) fun u s3 ⟨y, H3, I3, r3, q3⟩ => ?_
  obtain ⟨a, xs, rfl, rfl, hq, q⟩ := q3
  obtain ⟨tk, rfl⟩ := r3
  cases r1
  have I4 : Inv X pins σ H3 { s3 with heap := s3.heap.push { cls := .type "slice", data := .fields #[.none, .none, .int (-1) tk] } } := I3.kept (t' := s3.toks) fun b ob q => Heap.get?_push_of_some _ q
  obtain ⟨its, r, ht, hz⟩ := I4.tuple hq
  show wpAny (model X.prog X.w) X.A (subscriptTail e (.Slice none none (some st) p2) (.ref a) (.ref s3.heap.objs.size)) (EP X pins σ Q) X.xe { s3 with heap := s3.heap.push { cls := .type "slice", data := .fields #[.none, .none, .int (-1) tk] } }
  refine tail_any (ops := [.ref a, .ref s3.heap.objs.size]) ht.typeIs PyProof.Rows.slot_tuple_getitem.lookup (Af1 (ys := its) ht ⟨_, Heap.get?_push_size _ rfl, rfl, rfl⟩ (by rw [<- r.length]; exact hz) ?_) (by with_unfolding_all rfl)
  exact ⟨.ref _, _, I4.laid (t' := s3.toks) (o := .tup xs.reverse) (fun b ob q => Heap.get?_push_of_some _ q) (Nat.le_refl _) ⟨by rw [List.length_reverse]; exact hz, _, r.rev, IsTup.new _ _⟩, rfl, q _ I4.fresh⟩
theorem Jr {K : PySem.W.Frag} {σ : St} {H : Hp} {Q : VK} : Ajb K te tst σ H Q = te σ H (fun x H1 => tst σ H1 fun y H2 => ∃ a xs, x = .ref a /\ y = .int (-1) /\ SqT K H2 a xs /\ ∀ p, H2 p = none -> Q (.ref p) (upd H2 p (.tup xs.reverse))) := rfl
end
theorem O1 {H1 : Hp} {p : Addr} {cσ : St} {g : TG} {tt : TT} {te : TE} {Q : VK} {α : Type} {es : List α} {inj : α -> V} {J : It} (pf : α -> Bool) (f : α -> V) (hz : es.length <= sizeLine) (hp : H1 p = none) (hJ : Wk J H1 es inj)
    (step : ∀ (e : α) (H' : Hp) (R : VK) (RF : Hp -> Prop), e ∈ es -> Same H1 H' -> (pf e = true -> ∀ H6, Same H' H6 -> R (f e) H6) -> (pf e = false -> ∀ H6, Same H' H6 -> RF H6) -> g (inj e) cσ H' fun σ4 H4 => Kp cσ σ4 /\ tt σ4 H4 fun b H5 => if b = true then te σ4 H5 R else RF H5)
    (done : ∀ H', Same H1 H' -> H' p = some (.lst ((es.filter pf).map f)) -> Q (.ref p) H') : cIn J cσ g tt te Q H1 p := by
  have su : ∀ {H' : Hp} {o : HO}, Same H1 H' -> Same H1 (upd H' p o) := fun {H' o} s b u e => by
    rw [Cp (Ce e hp)]
    exact s b u e
  refine ⟨fun i m acc H' => m = es.length - i /\ i <= es.length /\ acc = ((es.take i).filter pf).map f /\ H' p = some (.lst acc) /\ Same H1 H', ⟨es.length, by simp, Nat.zero_le _, by simp, Ae, su (Same.refl _)⟩, ?_⟩
  rintro i m acc H' ⟨rfl, hi, rfl, hH, s⟩
  cases he : es[i]? with
  | none =>
    have e : i = es.length := Nat.le_antisymm hi (List.getElem?_eq_none_iff.mp he)
    subst e
    rw [List.take_length] at hH
    exact .inl ⟨(hJ _ _ s).1 he, done _ s hH⟩
  | some e =>
    obtain ⟨go, yl⟩ := (hJ _ _ s).2 e he
    refine .inr ⟨go, fun x H3 y => ?_⟩
    obtain ⟨rfl, rfl⟩ := yl x H3 y
    obtain ⟨hlt, _⟩ := List.getElem?_eq_some_iff.mp he
    have tk : es.take (i + 1) = es.take i ++ [e] := by rw [List.take_succ, he]; rfl
    have fl : ((es.take i).filter pf).length <= i := Nat.le_trans (List.length_filter_le _ _) (by rw [List.length_take]; omega)
    refine step e H3 _ _ (List.mem_of_getElem? he) s (fun hpf H6 s6 => ⟨s6 _ _ hH, by rw [List.length_map]; omega, _, by omega, rfl, hlt, ?_, Ae, su (s.trans s6)⟩) (fun hpf H6 s6 => ⟨_, by omega, rfl, hlt, ?_, ?_, s.trans s6⟩)
    . rw [tk, List.filter_append, List.map_append]
      simp [hpf]
    . rw [tk, List.filter_append, List.map_append]
      simp [hpf]
    . exact s6 _ _ hH
end L2
namespace L2
open PySem PySem.Spec PyProof.Rows
set_option maxRecDepth 100000
open AutoSeq1 (wpAny_loadPart') in
def Itv (K : PySem.W.Frag) (a : Addr) (n : Nat) : It :=
  ⟨fun i H => ∃ xs x, SqT K H a xs /\ xs.length = n /\ xs.reverse[i]? = some x, fun i H x H' => H' = H /\ ∀ xs, SqT K H a xs -> xs.reverse[i]? = some x, fun i _ => n <= i⟩
section
variable {X : Cx} {a : Expr} {ta : TA} {tg : Expr} {p pos : Pos}
def iRv (K : PySem.W.Frag) (ta : TA) : TI := fun σ H R => ta σ H fun vs H1 => ∃ a, vs = [.ref a] /\ ∃ xs, SqT K H1 a xs /\ R (Itv K a xs.length) H1
end
theorem Kl {K : PySem.W.Frag} {σ : St} {H : Hp} {ta : TA} {R : It -> Hp -> Prop} : iRv K ta σ H R = ta σ H (fun vs H1 => ∃ a, vs = [.ref a] /\ ∃ xs, SqT K H1 a xs /\ R (Itv K a xs.length) H1) := rfl
end L2
namespace L2
open PySem PySem.Spec PyProof.Rows
set_option maxRecDepth 100000
theorem Jh.has {P : Program} {w : World} {H : Hp} {h : Heap} {a : Addr} {o : HO} (x : Jh P w H h a o) : ∃ ob, h.get? a = some ob := by
  cases o with
  | lst xs => obtain ⟨_, _, _, _, e⟩ := x; exact ⟨_, e⟩
  | tup xs => obtain ⟨_, _, _, ob, e, _⟩ := x; exact ⟨_, e⟩
  | dK kvs => obtain ⟨_, _, _, _, o, _, _, e, _⟩ := x; exact ⟨_, e⟩
  | dT kvs => obtain ⟨_, _, _, _, o, _, _, e, _⟩ := x; exact ⟨_, e⟩
  | set S n => obtain ⟨o, _, _, _, e, _⟩ := x; exact ⟨_, e⟩
  | ins C dx fs => obtain ⟨_, _, _, e, _⟩ := x; exact ⟨_, e⟩
  | own y => exact x
  | xd fs => obtain ⟨_, ⟨_, _, _, e, _⟩, _⟩ := x; exact ⟨_, e⟩
  | rng lo hi => obtain ⟨_, _, _, e⟩ := x; exact ⟨_, e⟩
  | frz ob u => obtain ⟨e, _⟩ := x; exact ⟨_, e⟩
  | tbl ps => exact ⟨_, show h.get? a = some _ from x⟩
  | met f y => exact ⟨_, show h.get? a = some _ from x⟩
  | ext φ => exact x.2.1
structure FX (P : Program) (w : World) (fr : List Addr) (H : Hp) (h0 : Heap) (B : Heap) (H' : Hp) (h : Heap) : Prop where
  stay : B.StaysIn h
  k1 : ∀ b o, h0.get? b = some o -> b ∉ fr -> ∃ o', B.get? b = some o' /\ (H b = none -> o' = o)
  k2 : ∀ b u, H' b = some u -> ∃ o, B.get? b = some o
  fr0 : ∀ b ∈ fr, H b = none /\ ∃ o, h0.get? b = some o /\ ∀ vs, o.data ≠ .fields vs
  un : Un fr [] H H' h0 h
  hok : HOk P w H' h
theorem FX.step {P : Program} {w : World} {fr : List Addr} {H H' : Hp} {h0 B h h' : Heap} (x : FX P w fr H h0 B H' h) (k : B.StaysIn h') (u : h.UpToSlots h') : FX P w fr H h0 B H' h' := by
  have slot : ∀ b o, h0.get? b = some o -> H b = none -> b ∈ fr -> ∃ sl, h'.get? b = some { o with slots := sl } := fun b o e n hb => by
    obtain ⟨sl, e1⟩ := x.un.slot b o e n hb (by simp)
    obtain ⟨_, o2, e2, hf⟩ := x.fr0 b hb
    rw [e] at e2; cases e2
    obtain ⟨sl', e3⟩ := u b _ e1 hf
    exact ⟨sl', e3⟩
  refine ⟨k, x.k1, x.k2, x.fr0, ⟨fun b o e n hb _ => ?_, fun b o e n hb _ => slot b o e n hb, x.un.free, fun b o e _ => ?_, x.un.tups, x.un.frzs, x.un.tbls⟩, fun b v e => (x.hok b v e).stay (fun c z hc q => ?_) (fun _ q => q) fun _ _ q => q⟩
  . obtain ⟨o', e1, e2⟩ := x.k1 b o e hb
    rw [e2 n] at e1
    exact k b o e1
  . by_cases hb : b ∈ fr
    . obtain ⟨sl, e1⟩ := slot b o e (x.fr0 b hb).1 hb
      exact ⟨_, e1⟩
    . obtain ⟨o', e1, _⟩ := x.k1 b o e hb
      exact ⟨o', k b o' e1⟩
  . have t : ∃ o, B.get? c = some o := by
      rcases hc with z | z
      . rw [z]; exact x.k2 _ _ e
      . exact x.k2 _ _ z
    obtain ⟨o, eo⟩ := t
    have := x.stay c o eo
    rw [q] at this; cases this
    exact k c _ eo
section
variable {X : Cx} {pins : List (Addr × Obj)} {σ : St} {H H' : Hp} {s s' : Shared} {B : Heap}
theorem Inv.old (I : Inv X pins σ H s) {b : Addr} {o : Obj} (e : X.s₀.heap.get? b = some o) (hb : b ∉ X.fs) : b ∉ frs X.stack := fun z => by
  rcases List.mem_cons.mp (I.stkSub b z) with q | q
  . exact absurd (Nat.lt_of_lt_of_le (Heap.lt_size e) I.ok.above) (by rw [q]; exact Nat.lt_irrefl _)
  . exact hb q
theorem Inv.fr0 (I : Inv X pins σ H s) : ∀ b ∈ X.fs, X.H₀ b = none /\ ∃ o, X.s₀.heap.get? b = some o /\ ∀ vs, o.data ≠ .fields vs := fun b hb => by
  obtain ⟨_, o, ho, hd⟩ := I.ok.funs.mem hb
  exact ⟨I.ok.frf b hb, o, ho, hd⟩
theorem Inv.one (I : Inv X pins σ H s) (hex : X.ex = []) {b : Addr} {o : Obj} (e : X.s₀.heap.get? b = some o) (hb : b ∉ X.fs) : ∃ o', s.heap.get? b = some o' /\ (X.H₀ b = none -> o' = o /\ H b = none) := by
  by_cases n : X.H₀ b = none
  . exact ⟨o, I.base.keep b o e n hb (by rw [hex]; simp), fun _ => ⟨rfl, I.base.free b o e n (by rw [hex]; simp)⟩⟩
  . obtain ⟨o', e1⟩ := I.base.there b o e (by rw [hex]; simp)
    exact ⟨o', e1, fun z => absurd z n⟩
theorem Inv.fx (I : Inv X pins σ H s) (hex : X.ex = []) : FX X.prog X.w X.fs X.H₀ X.s₀.heap (PySem.W.hideAll s.heap (frs X.stack)) H s.heap := by
  refine ⟨fun b o q => PySem.W.of_hideAll _ q, fun b o e hb => ?_, fun b u e => ?_, I.fr0, hex ▸ I.base, I.hok⟩
  . obtain ⟨o', e1, e2⟩ := I.one hex e hb
    exact ⟨o', PySem.W.hideAll_get _ e1 (I.old e hb), fun n => (e2 n).1⟩
  . obtain ⟨o, eo⟩ := (I.hok b u e).has
    exact ⟨o, PySem.W.hideAll_get _ eo fun z => by have := I.stkFree b z; rw [e] at this; cases this⟩
theorem Inv.fxOn (I : Inv X pins σ H s) (hex : X.ex = []) (os : s'.os = s.os) (bare : AllBare s'.gens) (x : FX X.prog X.w (frs X.stack) H s.heap B H' s'.heap) : FX X.prog X.w X.fs X.H₀ X.s₀.heap B H' s'.heap := by
  have J : Inv X pins σ H' s' := I.call' (ch := []) os x.un x.hok bare fun b z => absurd z (by simp)
  refine ⟨x.stay, fun b o e hb => ?_, x.k2, I.fr0, hex ▸ J.base, x.hok⟩
  obtain ⟨o1, e1, n1⟩ := I.one hex e hb
  obtain ⟨o', e2, n2⟩ := x.k1 b o1 e1 (I.old e hb)
  exact ⟨o', e2, fun n => (n2 (n1 n).2).trans (n1 n).1⟩
end
def CXE (P : Program) (w : World) : CXT := fun outer H s E e s' => ∃ (x C : Addr) (a0 : Value) (B : Heap) (H' : Hp), e = .ref x /\ s'.os = s.os /\ AllBare s'.gens /\ Heap.FlyingW B outer x (.ref C) a0 s'.heap /\ FX P w (frs outer) H s.heap B H' s'.heap /\ E (.ref C) none H'
abbrev VE : List Value := [.type "ValueError", .type "Exception", .type "BaseException", .type "object"]
def Acx (K : PySem.W.Frag) (C : Addr) : Prop := PySem.W.excIn K C VE "ValueError.__new__" = true
def cA (K : PySem.W.Frag) (x : Str) : Addr := match PySem.W.nsIn K mainGlobals x with
  | some (some (.ref C)) => C
  | _ => 0
theorem Ahe {K : PySem.W.Frag} {x : Str} {C : Addr} (e : PySem.W.nsIn K mainGlobals x = some (some (.ref C))) : cA K x = C := by
  unfold cA
  rw [e]
def Akt (h : Heap) (C : Addr) : Prop := ∃ bm N nm q bs hdct sn sub ab col dd k0 k1 k2 k3 k5 mN, h.get? C = some (excClassObj nm q C N bs bm hdct sn sub ab col dd k0 k1 k2 k3 k5 "ValueError.__new__") /\ h.Ns N mN /\ mN "__init__" = none /\ OwnTail h VE bm
theorem Acx.obj {K : PySem.W.Frag} {C : Addr} {h : Heap} (q : Acx K C) (X : K.In h) : Akt h C := by
  unfold Acx PySem.W.excIn at q
  cases e : K.lookup C with
  | none => rw [e] at q; cases q
  | some ob =>
    rw [e] at q
    have eX := X _ _ e
    split at q
    . rename_i dd cd sl z
      cases z
      split at q
      . rename_i C1 bm a0 a1 a2 a3 n a5 hm hs
        rw [Bool.and_eq_true, Bool.and_eq_true, Bool.and_eq_true, Bool.and_eq_true, Bool.and_eq_true] at q
        obtain ⟨⟨⟨⟨⟨z1, z2⟩, z3⟩, z4⟩, z5⟩, z6⟩ := q
        have y1 : C1 = C := by simpa using z1
        have y2 : n = "ValueError.__new__" := by simpa using z2
        have y3 : cd.hasDel = false := by simpa using z3
        have y6 : PySem.W.nsIn K cd.ns "__init__" = some none := by simpa using z6
        obtain ⟨c1, c2, c3, c4, c5, c6, c7, c8, c9, c10, c11⟩ := cd
        have hl : sl = #[a0, a1, a2, a3, some (.builtin n), a5] := by
          cases sl
          exact congrArg Array.mk hs
        dsimp only at hm y3 y6 z5
        rw [hl, hm, y1, y2, y3] at eX
        exact ⟨bm, c4, c1, c5, c2, c6, c7, c8, c9, c10, dd, a0, a1, a2, a3, a5, _, eX, Heap.Ns.of_isNs (PySem.W.isNs_of_in X z5), PySem.W.nsMap_none_of_in X z5 y6, PySem.W.tail_of_in X z4⟩
      . cases q
    . cases q
section
variable {P : Program} {w : World} {K : PySem.W.Frag} {mg : Str -> Option Value} {base : Heap} {N : List Str} {qual : Str} {scope : Scope} {f : Addr} {cd : Value} {A : Around} {outer : List Env} {s0 : Shared} {H0 : Hp} {E : XK}
theorem Aje : Passes (CXE P w) (Rk (CXE P w) P w K mg base N qual scope f cd A outer s0 H0 E) E := by
  intro pins σ H s e s' I h
  obtain ⟨x, C, a0, B, H', rfl, os, bare, fl, fx, q⟩ := h
  show wpAny _ _ (leaving _ (.ref x)) _ _ s'
  refine wpAny_leaves_onW I.ok.frames rfl fl fun h' fl' up => ?_
  exact ⟨x, C, a0, B, H', rfl, os.trans I.os, bare, fl', (I.fxOn rfl os bare fx).step fl'.1 up, q⟩
def Abg (C : Addr) (E : XK) (t : TA) : TS := fun _ σ H => t σ H fun vs H1 => vs.length <= sizeLine /\ E (.ref C) none H1
theorem Hz {C : Addr} {x : Str} {np cpos pos : Pos} {e : Expr} {es : List Expr} {t : TA} (hq : Acx K C) (hm : mg x = some (.ref C))
    (ha : PA (Rk (CXE P w) P w K mg base N qual scope f cd A outer s0 H0 E) (e :: es) t) (hg : Gl (Rk (CXE P w) P w K mg base N qual scope f cd A outer s0 H0 E) x := by rfl) (hdb : (x == ("__debug__" : Str)) = false := by decide)
    (he : starEach (e :: es) (envOfC qual scope s0.heap.objs.size f cd) = (false, eval e (envOfC qual scope s0.heap.objs.size f cd)) :: starEach es (envOfC qual scope s0.heap.objs.size f cd) := by rfl)
    (hpl : (backTo cpos (starEach es (envOfC qual scope s0.heap.objs.size f cd))).any (·.1) = false := by rfl) :
    PS (Rk (CXE P w) P w K mg base N qual scope f cd A outer s0 H0 E) (.Raise (some (.Call (.Name x np) (e :: es) [] cpos)) none pos) (Abg C E t) := by
  intro pins s σ H D I h
  obtain ⟨bm, N', nm, q, bs, hdct, sn, sub, ab, col, dd, k0, k1, k2, k3, k5, mN, hC, hN, hni, TL⟩ := hq.obj I.mod.kin
  refine wpAny_Raise_call_subT (nm := nm) (q := q) (C := C) (N := N') (bs := bs) (bm := bm) (hdct := hdct) (sn := sn) (sub := sub) (ab := ab) (col := col) (dd := dd) (k0 := k0) (k1 := k1) (k2 := k2) (k3 := k3) (k5 := k5) PySem.F.excBase_ValueError (TL.hasType (by decide)) (I.ok.hd rfl) (by
    show (backTo cpos (starEach (e :: es) (envOfC qual scope s0.heap.objs.size f cd))).any (·.1) = false
    rw [he]
    show (false || (backTo cpos (starEach es _)).any (·.1)) = false
    rw [hpl]; rfl) hni (Wx I hg hm ⟨rfl, ?_⟩ hdb)
  have ha' := ha cpos pins s σ H _ I h
  show wpAny _ _ (evalArgs (.ref C) true (backTo cpos (starEach (e :: es) (envOfC qual scope s0.heap.objs.size f cd))) []) _ _ s
  have ha2 : wpAny (model P w) (A.deeper (envOfC qual scope s0.heap.objs.size f cd)) (spliced (backTo cpos (starEach (e :: es) (envOfC qual scope s0.heap.objs.size f cd)))) _ _ s := ha'
  rw [he] at ha2 ⊢
  refine Calls.evalArgs_plain (thn ha2 fun us s2 ⟨vs, H2, I2, r, z, q2⟩ => ⟨rfl, by rw [<- r.length]; exact z, I2.bk _ _ hC, hN.keeps I2.bk, TL.keeps I2.bk, fun h' x' hm' => ?_⟩)
  show wpAny _ _ (leaving _ (.ref x')) _ _ _
  refine wpAny_leaves_madeW (base := PySem.W.hideAll s2.heap (frs (envOfC qual scope s0.heap.objs.size f cd :: outer))) (h := s2.heap) I2.ok.frames rfl (fun b o q => PySem.W.of_hideAll _ q) (PySem.W.funFrames_hide I2.stack fun env he b hb => List.mem_filterMap.mpr ⟨env, he, hb⟩) hm' fun h'' t' fl _ _ up => ?_
  exact ⟨x', C, .ref t', _, H2, rfl, I2.os, I2.bare, fl, (I2.fx rfl).step fl.1 ((Heap.UpToSlots.of_keeps hm'.keeps).trans up), q2⟩
end
theorem Dr {C : Addr} {E : XK} {t : TA} {D : Ends} {σ : St} {H : Hp} : Abg C E t D σ H = t σ H (fun vs H1 => vs.length <= sizeLine /\ E (.ref C) none H1) := rfl
theorem PS.nox {X : Cx} {st : Stmt} {t : TS} (h : PS X.nox st t) : PS X st t := fun pins s σ H D I hw =>
  wpAny_mono (h pins s σ H D (I.wish _) hw) (fun _ _ q => q.unwish) fun _ _ z => False.elim z
theorem Fun.okE {P : Program} {w : World} {K : PySem.W.Frag} {mg : Str -> Option Value} {base : Heap} {x qual : Str} {st : Stmt} {f : Addr} {fd : FuncData} {N ps : List Str} {k : Nat} {sp : Sp} (F : Fun K x qual st f fd) (S : Ay N ps (Ag st)) (len : ∀ vs H Q E, sp vs H Q E -> vs.length = ps.length)
    (hbody : ∀ (cdv : Value) (A : Around) (outer : List Env) (s : Shared) (H : Hp) (vs : List V) (Q : VK) (E : XK), M9 k (A.deeper (envOfC qual (Ag st) s.heap.objs.size f cdv)) -> sp vs H Q E ->
      ∃ t, PSs (Rk (CXE P w) P w K mg base N qual (Ag st) f cdv A outer s H E) (K7 st) t /\ t { nx := fun _ H' => Q .non H', rt := Q } (start N vs) H) : Qi P w K mg base (CXE P w) (k + 1) f fd ps sp := by
  obtain ⟨oc, od, kV, doc, pm, an, cdv, ct, osl, rfl, lk, hcd⟩ := F.ex
  exact Ahm lk hcd S len fun A outer s H vs Q E hr hsp => hbody cdv A outer s H vs Q E hr hsp
def Zq (P : Program) (w : World) (K : PySem.W.Frag) (mg : Str -> Option Value) (base : Heap) (k : Nat) (x : Str) (ps : List Str) (sp : Sp) : Prop :=
  ∃ f fd, Qi P w K mg base (CXE P w) k f fd ps sp /\ mg x = some (.ref f) /\ PySem.W.keepIn K (.ref f) = true /\ Binds K fd ps []
theorem Df.calE {P : Program} {w : World} {K : PySem.W.Frag} {mg : Str -> Option Value} {base : Heap} {k : Nat} {x : Str} {st : Stmt} {ps : List Str} {f : Addr} {fd : FuncData} {sp : Sp}
    (F : Df K mg x st ps f fd) (G : Qi P w K mg base (CXE P w) k f fd ps sp) : Zq P w K mg base k x ps sp := ⟨f, fd, G, F.at', F.fn.kp, F.bd⟩
theorem Zq.calm {P : Program} {w : World} {K : PySem.W.Frag} {mg : Str -> Option Value} {base : Heap} {k : Nat} {x : Str} {ps : List Str} {sp sp' : Sp}
    (C : Zq P w K mg base k x ps sp) (h : ∀ vs H Q E, sp' vs H Q E -> sp vs H Q E0) : Cal P w K mg base k x ps sp' := by
  obtain ⟨f, fd, G, a, b, c⟩ := C
  refine ⟨f, fd, ⟨fun vs H Q E z => G.len vs H Q E0 (h _ _ _ _ z), fun A outer s H args us vs Q E hr he hb hv hs => ?_⟩, a, b, c⟩
  refine codeAny_mono (G.run A outer s H args us vs Q E0 hr he hb hv (h _ _ _ _ hs)) fun r s' q => ?_
  cases r with
  | ok fl => cases fl <;> exact q
  | error e =>
    obtain ⟨_, _, _, _, _, _, _, _, _, _, z⟩ := q
    exact z.elim
section
variable {P : Program} {w : World} {K : PySem.W.Frag} {mg : Str -> Option Value} {base : Heap} {N : List Str} {qual : Str} {scope : Scope} {f : Addr} {cd : Value} {A : Around} {outer : List Env} {s0 : Shared} {H0 : Hp} {E : XK}
theorem Hw {k : Nat} {x : Str} {ps : List Str} {sp : Sp} {p pos : Pos} {e : Expr} {es : List Expr} {t : TA}
    (C : Zq P w K mg base k x ps sp) (hr : M9 k (A.deeper (envOfC qual scope s0.heap.objs.size f cd))) (ha : PA (Rk (CXE P w) P w K mg base N qual scope f cd A outer s0 H0 E) (e :: es) t) (hg : Gl (Rk (CXE P w) P w K mg base N qual scope f cd A outer s0 H0 E) x := by rfl) (hdb : (x == ("__debug__" : Str)) = false := by decide)
    (he : starEach (e :: es) (envOfC qual scope s0.heap.objs.size f cd) = (false, eval e (envOfC qual scope s0.heap.objs.size f cd)) :: starEach es (envOfC qual scope s0.heap.objs.size f cd) := by rfl)
    (hpl : (backTo pos (starEach es (envOfC qual scope s0.heap.objs.size f cd))).any (·.1) = false := by rfl) :
    PE (Rk (CXE P w) P w K mg base N qual scope f cd A outer s0 H0 E) (.Call (.Name x p) (e :: es) [] pos) (W4 sp [] E t) := by
  obtain ⟨f', fd, G, a, b, c⟩ := C
  exact Aat (X := Rk (CXE P w) P w K mg base N qual scope f cd A outer s0 H0 E) G hr hg a b c .nil Aje ha hdb he hpl
end
end L2
namespace L2
open PySem PySem.Spec PyProof.Rows
set_option maxRecDepth 100000
def Ahk (sp : Sp) (C : Addr) (g : V -> St -> St) (i : Nat) (ta : TA) (ts : Addr -> Obj -> TS) : TS := fun D σ H => ta σ H fun vs H1 => sp vs H1 (fun v H2 => D.nx (g v σ) H2)
  (fun c _ H2 => c = .ref C /\ ∀ x oe, oe.cls = .ref C -> ts x oe { nx := fun σ' H' => D.nx (σ'.set i none) H', rt := D.rt, bk := fun σ' H' => D.bk (σ'.set i none) H', ct := fun σ' H' => D.ct (σ'.set i none) H' } (σ.set i (some (.ref x))) H2)
def Akv (sp : Sp) (C : Addr) (g : V -> St -> St) (ta : TA) (ts : Addr -> Obj -> TS) : TS := fun D σ H => ta σ H fun vs H1 => sp vs H1 (fun v H2 => D.nx (g v σ) H2)
  (fun c _ H2 => c = .ref C /\ ∀ x oe, oe.cls = .ref C -> ts x oe D σ H2)
theorem Ds {sp : Sp} {C : Addr} {g : V -> St -> St} {i : Nat} {ta : TA} {ts : Addr -> Obj -> TS} {D : Ends} {σ : St} {H : Hp} : Ahk sp C g i ta ts D σ H = ta σ H (fun vs H1 => sp vs H1 (fun v H2 => D.nx (g v σ) H2)
  (fun c _ H2 => c = .ref C /\ ∀ x oe, oe.cls = .ref C -> ts x oe { nx := fun σ' H' => D.nx (σ'.set i none) H', rt := D.rt, bk := fun σ' H' => D.bk (σ'.set i none) H', ct := fun σ' H' => D.ct (σ'.set i none) H' } (σ.set i (some (.ref x))) H2)) := rfl
theorem Ju {sp : Sp} {C : Addr} {g : V -> St -> St} {ta : TA} {ts : Addr -> Obj -> TS} {D : Ends} {σ : St} {H : Hp} : Akv sp C g ta ts D σ H = ta σ H (fun vs H1 => sp vs H1 (fun v H2 => D.nx (g v σ) H2)
  (fun c _ H2 => c = .ref C /\ ∀ x oe, oe.cls = .ref C -> ts x oe D σ H2)) := rfl
end L2
namespace L2
open PySem PySem.Spec PyProof.Rows
set_option maxRecDepth 100000
structure Akg (K : PySem.W.Frag) (C : Addr) : Prop where
  ga : PySem.W.findIn K (.ref C) "__getattribute__" = some (some (.builtin "BaseException.__getattribute__"))
  gn : PySem.W.findIn K (.ref C) "__getattr__" = some none
  cl : PySem.W.findIn K (.ref C) "__class__" = some (some (.builtin "object.__class__"))
  ob : PySem.W.mroIn K C (.type "object") = some true
  be : PySem.W.mroIn K C (.type "BaseException") = some true
theorem Akg.is {K : PySem.W.Frag} {C : Addr} (Z : Akg K C) : (PySem.W.clsIn K C).isSome = true := by
  obtain ⟨cd, a, _⟩ := Option.bind_eq_some_iff.mp Z.ob
  rw [a]; rfl
theorem nw {H H' : Hp} {p : Addr} {o : HO} (hp : H p = none) (e : upd H p o = H') : Same H H' /\ H' p = some o := by
  subst e
  exact ⟨Same.upd hp _, Ae⟩
end L2
namespace L2
open PySem PySem.Spec PyProof.Rows
def Ef : Expr -> Bool
  | .Starred _ _ => false
  | _ => true
theorem Lg {e : Expr} {es : List Expr} {env : Env} (h : Ef e = true) : starEach (e :: es) env = (false, eval e env) :: starEach es env := by
  cases e <;> first | rfl | cases h
theorem Mp {env : Env} {pos : Pos} : ∀ {es : List Expr}, es.all Ef = true -> (backTo pos (starEach es env)).any (·.1) = false
  | [], _ => rfl
  | e :: es, h => by
    rw [List.all_cons, Bool.and_eq_true] at h
    rw [Lg h.1]
    have ih := Mp (env := env) (pos := pos) h.2
    unfold backTo at ih ⊢
    rw [List.map_cons, List.any_cons, ih]
    rfl
section
variable {X : Cx} {e : Expr} {es : List Expr} {te : TE} {t : TA} {x : Str} {p pos : Pos} {id T : String} {r : List V -> Hp -> VK -> Prop} {k : Nat} {ps : List Str} {sp : Sp}
theorem Aa (ha : PE X e te) (hr : PA X es t) (h : Ef e = true := by rfl) : PA X (e :: es) (Ac1 te t) := Afx ha hr (Lg h)
theorem Dj (hc : Kg X (.builtin id) r) (hg : Gl X x) (hm : X.mg x = none) (hv : bootBuiltins x = some (.builtin id)) (ha : PA X (e :: es) t) (h1 : Ef e = true := by rfl) (h2 : es.all Ef = true := by rfl) (hn : x ≠ "__name__" := by decide) (hdb : (x == ("__debug__" : Str)) = false := by decide) :
    PE X (.Call (.Name x p) (e :: es) [] pos) (tCB r t) := Ac2 hc hg hm hv ha hn hdb (Lg h1) (Mp h2)
theorem Gy (hc : Kg X (.type T) r) (hg : Gl X x) (hm : X.mg x = none) (hv : bootBuiltins x = some (.type T)) (ha : PA X (e :: es) t) (h1 : Ef e = true := by rfl) (h2 : es.all Ef = true := by rfl) (hn : x ≠ "__name__" := by decide) (hdb : (x == ("__debug__" : Str)) = false := by decide) :
    PE X (.Call (.Name x p) (e :: es) [] pos) (tCB r t) := Ab5 hc hg hm hv ha hn hdb (Lg h1) (Mp h2)
theorem Ai (C : Cal X.prog X.w X.K X.mg X.base k x ps sp) (hr : M9 k X.A) (ha : PA X (e :: es) t) (h1 : Ef e = true := by rfl) (h2 : es.all Ef = true := by rfl) (hg : Gl X x := by rfl) (hdb : (x == ("__debug__" : Str)) = false := by decide) :
    PE X (.Call (.Name x p) (e :: es) [] pos) (W4 sp [] E0 t) := Adj C hr ha hg hdb (Lg h1) (Mp h2)
end
end L2
namespace L2
open PySem PySem.Spec PyProof.Rows
def Itd (lo : Int) (n : Nat) : It := ⟨fun i _ => i < n, fun i H x H' => H' = H /\ x = .int (lo - i), fun i _ => n <= i⟩
theorem Aag {P : Program} {w : World} {K : PySem.W.Frag} {tg : Expr} (it : Addr) (lo : Int) (n : Nat) : Turn P w K tg (Itd lo n) [it] it (fun i h => IsRangeIter h it (lo + (i : Nat) * (-1)) ((n : Int) - (i : Nat)) (-1)) where
  mem := by simp
  obj := fun i h st b hb => by
    have e : b = it := by simpa using hb
    subst e
    exact ⟨_, st, fun v z => by
      have z' : Data.fields _ = Data.cell v := z
      cases z'⟩
  keep := fun i h h' st k => k it (by simp) _ st
  item := by
    intro X hP hw hK hc i pins s σ H E I hf st hg
    subst hP hw hK
    obtain ⟨f0, f1, f2, f3, f4, f5⟩ := hf it (by simp)
    have W := Walks.range (prog := X.prog) (w := X.w) (I.ok.hd hc) it lo (-1) n
    refine W.item i s _ _ hg st fun v h' tk hv st' kk => ?_
    obtain ⟨t, rfl⟩ := hv
    have I1 : Inv X pins σ H { s with heap := h', toks := tk } := I.turned (fun b o hb e => kk b o (by simpa using hb) e) f0 f1 f3 f4 f5
    refine ⟨_, rfl, Ac7 (s := { s with heap := h', toks := tk }) (n := "range_iterator") st' rfl rfl (by decide) ⟨.int (lo - i), H, I1, ⟨t, ?_⟩, ⟨rfl, rfl⟩, st', fun b hb => (hf b hb).1⟩⟩
    rw [Int.mul_neg, Int.mul_one, <- Int.sub_eq_add_neg]
  done := by
    intro X hP hw hK hc i pins s σ H E I hf st hg
    subst hP hw hK
    obtain ⟨f0, f1, f2, f3, f4, f5⟩ := hf it (by simp)
    exact wpAny_pyNext_range_end (I.ok.hd hc) st (by have : n <= i := hg; omega) fun h' eb => ⟨rfl, I.turned (t' := s.toks) (fun b o hb e => eb b o hb e) f0 f1 f3 f4 f5⟩
  self := fun _ _ _ _ _ st h => wpAny_pyIter_rangeiter st h
section
variable {X : Cx} {tg : Expr}
theorem Agr {pins : List (Addr × Obj)} {σ : St} {H : Hp} {s : Shared} {R : It -> Hp -> Prop} {E : Value -> Shared -> Prop} {lo hi : Int} {t u v : Tok} {tk : Nat} (I : Inv X pins σ H s) (h1 : -(2 ^ 62) <= lo) (h2 : lo < 2 ^ 62) (h3 : -(2 ^ 62) <= hi) (h4 : hi < 2 ^ 62)
    (q : R (Itd lo (lo - hi).toNat) H) : wpAny (model X.prog X.w) X.A (pyIter (.ref s.heap.objs.size)) (PIE X pins σ tg R) E { s with heap := s.heap.push { cls := .type "range", data := .fields #[.int lo t, .int hi u, .int (-1) v] }, toks := tk } := by
  refine wpAny_pyIter_range (IsRange.new ..) (PySem.W.small_down h1 h2 h3 h4) ?_
  have I1 : Inv X pins σ H { s with heap := s.heap.push { cls := .type "range", data := .fields #[.int lo t, .int hi u, .int (-1) v] }, toks := tk } := I.kept fun b o e => Heap.get?_push_of_some _ e
  refine ⟨(s.heap.push { cls := .type "range", data := .fields #[.int lo t, .int hi u, .int (-1) v] }).objs.size, [(s.heap.push { cls := .type "range", data := .fields #[.int lo t, .int hi u, .int (-1) v] }).objs.size], _, _, H, rfl,
    I1.kept (t' := tk) fun b o e => Heap.get?_push_of_some _ e, Aag _ lo (lo - hi).toNat, ?_, fun b hb => ?_, q⟩
  . have e1 : lo + ((0 : Nat) : Int) * (-1) = lo := by simp
    have e2 : (((lo - hi).toNat : Nat) : Int) - ((0 : Nat) : Int) = Builtin.Range.rangeSize lo hi (-1) := by rw [PySem.W.rangeSize_downNat]; omega
    show IsRangeIter _ _ (lo + ((0 : Nat) : Int) * (-1)) ((((lo - hi).toNat : Nat) : Int) - ((0 : Nat) : Int)) (-1)
    rw [e1, e2]
    exact Heap.get?_push_size _ rfl
  . have e : b = (s.heap.push { cls := .type "range", data := .fields #[.int lo t, .int hi u, .int (-1) v] }).objs.size := by simpa using hb
    subst e
    exact I1.fpOk (Nat.le_refl _) (I1.hok.fresh (Nat.le_refl _))
def Aft (ta : TA) : TI := fun σ H R => ta σ H fun vs H1 => ∃ i j : Int, vs = [.int i, .int j, .int (-1)] /\ (-(2 ^ 62) <= i /\ i < 2 ^ 62 /\ -(2 ^ 62) <= j /\ j < 2 ^ 62) /\ R (Itd i (i - j).toNat) H1
theorem Ng {a b c : Expr} {ta : TA} {p pos : Pos} (hg : Gl X "range") (hm : X.mg "range" = none) (ha : PA X [a, b, c] ta) (h1 : Ef a = true := by rfl) (h2 : [b, c].all Ef = true := by rfl) :
    PI X tg (.Call (.Name "range" p) [a, b, c] [] pos) (Aft ta) := by
  intro pins s σ H R I h
  refine Call_ (O7 I hg hm boot_range (PyProof.Rows.callWith_type1 (thn (ha pos pins s σ H _ I h) fun us s1 ⟨vs, H1, I1, r1, q1⟩ => ?_) (Lg h1) (Mp h2)))
  obtain ⟨i, j, e, ⟨q1, q2, q3, q4⟩, q⟩ := q1
  subst e
  cases r1 with
  | cons r rr =>
    cases rr with
    | cons r' rr =>
      cases rr with
      | cons r'' rr =>
        cases rr
        obtain ⟨t, rfl⟩ := r
        obtain ⟨t', rfl⟩ := r'
        obtain ⟨t'', rfl⟩ := r''
        exact call_range_3 (by decide) (Agr I1 q1 q2 q3 q4 q) (.inl (PyProof.noPylong_of_log2 (by decide +kernel)))
theorem Fp {ta : TA} {σ : St} {H : Hp} {R : It -> Hp -> Prop} : Aft ta σ H R = ta σ H (fun vs H1 => ∃ i j : Int, vs = [.int i, .int j, .int (-1)] /\ (-(2 ^ 62) <= i /\ i < 2 ^ 62 /\ -(2 ^ 62) <= j /\ j < 2 ^ 62) /\ R (Itd i (i - j).toNat) H1) := rfl
theorem J5 {i j : Int} {G : Int -> Int -> Prop} : (∃ i' j' : Int, [V.int i, .int j, .int (-1)] = [.int i', .int j', .int (-1)] /\ G i' j') = G i j := propext ⟨fun ⟨_, _, e, h⟩ => by cases e; exact h, fun h => ⟨i, j, rfl, h⟩⟩
end
theorem Q6 {H : Hp} {lo : Int} {n : Nat} : Agu (Itd lo n) H (List.range n) (fun i => .int (lo - (i : Nat))) := fun i => by
  refine ⟨fun e => ?_, fun e h => ?_⟩
  . have := List.getElem?_eq_none_iff.mp e
    rw [List.length_range] at this
    exact this
  . obtain ⟨h1, h2⟩ := List.getElem?_eq_some_iff.mp h
    rw [List.length_range] at h1
    rw [List.getElem_range] at h2
    subst h2
    exact ⟨h1, fun x H3 ⟨a, b⟩ => ⟨a, b⟩⟩
end L2
namespace L2
open PySem PySem.Spec PyProof.Rows
section
variable {X : Cx} {e st : Expr} {te tst : TE} {pos p2 : Pos}
def Ajl (K : PySem.W.Frag) (te tst : TE) : TE := fun σ H Q => te σ H fun x H1 => tst σ H1 fun y H2 => ∃ a xs, x = .ref a /\ y = .int (-1) /\ SqL K H2 a xs /\ ∀ p, H2 p = none -> Q (.ref p) (upd H2 p (.lst xs.reverse))
theorem Gm {K : PySem.W.Frag} {σ : St} {H : Hp} {Q : VK} : Ajl K te tst σ H Q = te σ H (fun x H1 => tst σ H1 fun y H2 => ∃ a xs, x = .ref a /\ y = .int (-1) /\ SqL K H2 a xs /\ ∀ p, H2 p = none -> Q (.ref p) (upd H2 p (.lst xs.reverse))) := rfl
end
end L2
namespace L2
open PySem PySem.Spec PyProof.Rows
theorem Aib {σ : St} {H : Hp} {g : TG} {tb : TS} {D : Ends} {J : It} (n : Nat) (inj : Nat -> V) (Pv : Nat -> St -> Hp -> Prop) (h0 : Pv 0 σ H) (hw : ∀ i σ H, Pv i σ H -> Agu J H (List.range n) inj)
    (hs : ∀ i σ H, i < n -> Pv i σ H -> g (inj i) σ H fun σ2 H2 => tb { D with nx := Pv (i + 1), ct := Pv (i + 1), bk := D.nx } σ2 H2) (hd : ∀ σ H, Pv n σ H -> D.nx σ H) : FI J g tb D σ H := by
  refine Acp (es := List.range n) (inj := inj) (fun pre => Pv pre.length) h0 (fun pre σ H p => hw pre.length σ H p) (fun pre e post σ H he p => ?_) (fun σ H p => hd σ H (by rw [List.length_range] at p; exact p))
  have hl := congrArg List.length he
  rw [List.length_range, List.length_append, List.length_cons] at hl
  have ee : e = pre.length := by
    have := congrArg (fun l => l[pre.length]?) he
    simp only [List.getElem?_append_right (Nat.le_refl _), Nat.sub_self, List.getElem?_cons_zero] at this
    rw [List.getElem?_range (by omega)] at this
    exact (Option.some.inj this).symm
  subst ee
  have := hs pre.length σ H (by omega) p
  rw [List.length_append, List.length_singleton]
  exact this
theorem Same.put {H H' : Hp} {p : Addr} {o : HO} (s : Same H H') (hp : H p = none) : Same H (L2.upd H' p o) := fun b u e => by
  rw [Cp (Ce e hp)]
  exact s b u e
end L2
namespace L2
open PySem PySem.Spec PyProof.Rows
def Akl (K : PySem.W.Frag) (tl : TE) : TI := fun σ H R => tl σ H fun x H1 => ∃ a, x = .ref a /\ (((∃ xs, SqL K H1 a xs) /\ R (Itl K a) H1) \/ ((∃ xs, SqT K H1 a xs) /\ R (Itt K a) H1))
theorem Ew {K : PySem.W.Frag} {tl : TE} {σ : St} {H : Hp} {R : It -> Hp -> Prop} : Akl K tl σ H R = tl σ H (fun x H1 => ∃ a, x = .ref a /\ (((∃ xs, SqL K H1 a xs) /\ R (Itl K a) H1) \/ ((∃ xs, SqT K H1 a xs) /\ R (Itt K a) H1))) := rfl
end L2
namespace L2
open PySem PySem.Spec PyProof.Rows
theorem Vq {X : Cx} (K : PySem.W.Frag) (h : X.K = K := by rfl) : Kg X (.builtin "isinstance") (fun xs H Q => ∃ x t T b, xs = [x, .ty T] /\ V7 K H x t /\ PySem.W.kitOne K t (.type T) = some b /\ Q (.bl b) H) := by
  subst h
  exact Lb
end L2
namespace L2
theorem Bl {t u : TS} {D : Ends} {σ : St} {H : Hp} (P : St -> Hp -> Prop) (h1 : ∀ N : St -> Hp -> Prop, (∀ σ' H', P σ' H' -> N σ' H') -> t { D with nx := N } σ H) (h2 : ∀ σ' H', P σ' H' -> u D σ' H') : Aiw t u D σ H := h1 (u D) h2
end L2
namespace L2
open PySem PySem.Spec PyProof.Rows
theorem W8 {K : PySem.W.Frag} {H : Hp} {p a : Addr} {acc xs : List V} {o : HO} (h : SqT K H a xs) (hp : H p = some (.lst acc)) : SqT K (upd H p o) a xs := by
  rcases h with (h | ⟨o', h⟩) | h
  . exact .inl (.inl (by rw [Cp (Ah6 h hp (by intro z; cases z))]; exact h))
  . exact .inl (.inr ⟨o', by rw [Cp (Ah6 h hp (by intro z; cases z))]; exact h⟩)
  . exact .inr h
end L2
namespace L2
open PySem PySem.Spec PyProof.Rows
def Itz (K : PySem.W.Frag) (a b : Addr) : It :=
  ⟨fun i H => ∃ xs ys x y, SqL K H a xs /\ SqL K H b ys /\ xs[i]? = some x /\ ys[i]? = some y,
   fun i H x H' => ∃ p u v, (∀ xs, SqL K H a xs -> xs[i]? = some u) /\ (∀ ys, SqL K H b ys -> ys[i]? = some v) /\ H p = none /\ x = .ref p /\ H' = upd H p (.tup [u, v]),
   fun i H => ∃ xs ys, SqL K H a xs /\ SqL K H b ys /\ (xs.length <= i \/ ys.length <= i)⟩
section
variable {X : Cx} {a b : Expr} {ta : TA} {el : List Expr} {x1} {tp p pos : Pos}
def Aku (K : PySem.W.Frag) (ta : TA) : TI := fun σ H R => ta σ H fun vs H1 => ∃ a b, vs = [.ref a, .ref b] /\ (∃ xs, SqL K H1 a xs) /\ (∃ ys, SqL K H1 b ys) /\ R (Itz K a b) H1
end
theorem Fi {K : PySem.W.Frag} {ta : TA} {σ : St} {H : Hp} {R : It -> Hp -> Prop} : Aku K ta σ H R = ta σ H (fun vs H1 => ∃ a b, vs = [.ref a, .ref b] /\ (∃ xs, SqL K H1 a xs) /\ (∃ ys, SqL K H1 b ys) /\ R (Itz K a b) H1) := rfl
end L2
namespace L2
open PySem PySem.SeqAt PySem.Spec PyProof.Rows
section
variable {X : Cx}
theorem T9 : OpR X (compareOp .IsNot) (fun x y H Q => ∃ a b : Bool, x = .bl a /\ y = .bl b /\ Q (.bl (a != b)) H) := by
  intro pins s σ H x y v u Q I rx ry h
  obtain ⟨a, b, rfl, rfl, q⟩ := h
  cases rx
  cases ry
  exact isnot_bool ⟨.bl _, H, I, rfl, q⟩
open Classical in
def Ajg : TE := fun _ H Q => ∀ p, H p = none -> Q (.ref p) (upd H p (.dK []))
theorem Fx {σ : St} {H : Hp} {Q : VK} : Ajg σ H Q = ∀ p, H p = none -> Q (.ref p) (upd H p (.dK [])) := rfl
end
end L2
namespace L2
open PySem PySem.Spec PyProof.Rows
def tCV (i : Nat) (a : Addr) (sp : Sp) (E : XK) (t : TA) : TE := fun σ H Q => σ[i]? = some (some (.ref a)) /\ t σ H fun vs H1 => sp vs H1 Q E
theorem R9 {i : Nat} {a : Addr} {sp : Sp} {E : XK} {t : TA} {σ : St} {H : Hp} {Q : VK} : tCV i a sp E t σ H Q = (σ[i]? = some (some (.ref a)) /\ t σ H fun vs H1 => sp vs H1 Q E) := rfl
theorem Yy {X : Cx} {i k : Nat} {a : Addr} {x y : Str} {ps : List Str} {sp : Sp} {p pos : Pos} {e : Expr} {es : List Expr} {t : TA} (C : Cal X.prog X.w X.K X.mg X.base k y ps sp) (hy : X.mg y = some (.ref a)) (hr : M9 k X.A)
    (hx : PE X (.Name x p) (Aeo i)) (ha : PA X (e :: es) t) (h1 : Ef e = true := by rfl) (h2 : es.all Ef = true := by rfl) : PE X (.Call (.Name x p) (e :: es) [] pos) (tCV i a sp E0 t) := by
  obtain ⟨f, fd, G, g, b, c⟩ := C
  have ef : f = a := by rw [hy] at g; cases g; rfl
  subst ef
  intro pins s σ H Q I h
  obtain ⟨hv, h⟩ := h
  refine wpAny_Call_Name_kw (thn (hx pins s σ H (fun v H1 => v = .ref f /\ H1 = H) I ⟨_, hv, rfl, rfl⟩) fun u s1 ⟨v, H1, I1, r, e1, e2⟩ => ?_)
  subst e1 e2
  cases r
  refine PySem.W.callWith_K (h₀ := X.base) I1.ok.mod.kin b (thn (ha pos pins s1 σ H1 _ I1 h) fun us s2 ⟨vs, H2, I2, r2, q⟩ => ⟨I2.kIn, ?_⟩) (Lg h1) (Mp h2)
  have q' : sp (vs ++ []) H2 Q E0 := by rw [List.append_nil]; exact q
  exact Ae2 G hr c .nil Aip I2 r2 q'
theorem Ob {X : Cx} {x : Str} {v : V} {pos : Pos} (hg : Gl X x) (h : ∃ u, X.mg x = some u /\ RelV v u) (hd : (x == ("__debug__" : Str)) = false := by decide) : PE X (.Name x pos) (tC v) := by
  obtain ⟨u, a, b⟩ := h
  exact Ro hg a b hd
end L2
namespace L2
open PySem PySem.Spec PyProof.Rows
def Aj7 (K : PySem.W.Frag) (a : Addr) : It :=
  ⟨fun i H => ∃ xs x, SqL K H a xs /\ xs[i]? = some x, fun i H x H' => ∃ p v, (∀ xs, SqL K H a xs -> xs[i]? = some v) /\ H p = none /\ x = .ref p /\ H' = upd H p (.tup [.int (i : Nat), v]), fun i H => ∃ xs, SqL K H a xs /\ xs.length <= i⟩
section
variable {X : Cx} {a : Expr} {ta : TA} {el : List Expr} {x1} {tp p pos : Pos}
def Akx (K : PySem.W.Frag) (ta : TA) : TI := fun σ H R => ta σ H fun vs H1 => ∃ a, vs = [.ref a] /\ (∃ xs, SqL K H1 a xs) /\ R (Aj7 K a) H1
end
theorem Gf {K : PySem.W.Frag} {σ : St} {H : Hp} {ta : TA} {R : It -> Hp -> Prop} : Akx K ta σ H R = ta σ H (fun vs H1 => ∃ a, vs = [.ref a] /\ (∃ xs, SqL K H1 a xs) /\ R (Aj7 K a) H1) := rfl
end L2
namespace L2
open PySem PySem.Spec PyProof.Rows
def Ai8 (sp : Sp) (Cs : List Addr) (g : V -> St -> St) (i : Nat) (ta : TA) (ts : Addr -> Addr -> Obj -> TS) : TS := fun D σ H => ta σ H fun vs H1 => sp vs H1 (fun v H2 => D.nx (g v σ) H2)
  (fun c _ H2 => ∃ C, c = .ref C /\ C ∈ Cs /\ ∀ x oe, oe.cls = .ref C -> ts C x oe { nx := fun σ' H' => D.nx (σ'.set i none) H', rt := D.rt, bk := fun σ' H' => D.bk (σ'.set i none) H', ct := fun σ' H' => D.ct (σ'.set i none) H' } (σ.set i (some (.ref x))) H2)
theorem Gb {sp : Sp} {Cs : List Addr} {g : V -> St -> St} {i : Nat} {ta : TA} {ts : Addr -> Addr -> Obj -> TS} {D : Ends} {σ : St} {H : Hp} : Ai8 sp Cs g i ta ts D σ H = ta σ H (fun vs H1 => sp vs H1 (fun v H2 => D.nx (g v σ) H2)
  (fun c _ H2 => ∃ C, c = .ref C /\ C ∈ Cs /\ ∀ x oe, oe.cls = .ref C -> ts C x oe { nx := fun σ' H' => D.nx (σ'.set i none) H', rt := D.rt, bk := fun σ' H' => D.bk (σ'.set i none) H', ct := fun σ' H' => D.ct (σ'.set i none) H' } (σ.set i (some (.ref x))) H2)) := rfl
def Aj0 (sp : Sp) (Cs : List Addr) (g : V -> St -> St) (ta : TA) (ts : Addr -> Addr -> Obj -> TS) : TS := fun D σ H => ta σ H fun vs H1 => sp vs H1 (fun v H2 => D.nx (g v σ) H2)
  (fun c _ H2 => ∃ C, c = .ref C /\ C ∈ Cs /\ ∀ x oe, oe.cls = .ref C -> ts C x oe D σ H2)
theorem Eu {sp : Sp} {Cs : List Addr} {g : V -> St -> St} {ta : TA} {ts : Addr -> Addr -> Obj -> TS} {D : Ends} {σ : St} {H : Hp} : Aj0 sp Cs g ta ts D σ H = ta σ H (fun vs H1 => sp vs H1 (fun v H2 => D.nx (g v σ) H2)
  (fun c _ H2 => ∃ C, c = .ref C /\ C ∈ Cs /\ ∀ x oe, oe.cls = .ref C -> ts C x oe D σ H2)) := rfl
section
variable {c : TT} {tb : TS} {D : Ends} {σ : St} {H : Hp}
def WM (Pv : Nat -> St -> Hp -> Prop) (tb : TS) (D : Ends) (m : Nat) (σ : St) (H : Hp) : Prop := ∃ N : St -> Hp -> Prop, (∀ σ' H', N σ' H' -> ∃ m', m' < m /\ Pv m' σ' H') /\ tb { D with nx := N, ct := N, bk := D.nx } σ H
theorem Afv {Pv : Nat -> St -> Hp -> Prop} {m : Nat} (h : tb { D with nx := fun σ' H' => ∃ m', m' < m /\ Pv m' σ' H', ct := fun σ' H' => ∃ m', m' < m /\ Pv m' σ' H', bk := D.nx } σ H) : WM Pv tb D m σ H := ⟨_, fun _ _ z => z, h⟩
theorem W0 (Pv : Nat -> St -> Hp -> Prop) (m0 : Nat) (h0 : Pv m0 σ H) (hs : ∀ m σ H, Pv m σ H -> c σ H fun b H1 => if b = true then WM Pv tb D m σ H1 else D.nx σ H1) : V0 c tb D σ H := ⟨Pv, ⟨m0, h0⟩, hs⟩
end
end L2
namespace L2
open PySem PySem.Spec PyProof.Rows
def It1 (t : Bool) (h : Heap) (j u : Addr) (k : Nat) : Prop := if t = true then h.IsTupleIter j u k else h.IsListIter j u k
def Sq1 (t : Bool) (h : Heap) (u : Addr) (xs : Array Value) : Prop := if t = true then h.IsTuple u xs else h.IsList u xs
theorem It1.ext {t : Bool} {h g : Heap} {j u b : Addr} {k : Nat} (x : It1 t h j u k) (e : Heap.ExtBut b h g) (n : j ≠ b) : It1 t g j u k := by
  cases t
  . exact Heap.IsListIter.extBut x e n
  . exact Heap.IsTupleIter.extBut x e n
theorem It1.to {t : Bool} {h g : Heap} {j u : Addr} {k : Nat} (x : It1 t h j u k) (e : ∀ o, h.get? j = some o -> g.get? j = some o) : It1 t g j u k := by
  cases t
  . exact Heap.IsListIter.at x e
  . exact Heap.IsTupleIter.at x e
theorem Sq1.ext {t : Bool} {h g : Heap} {u b : Addr} {xs : Array Value} (x : Sq1 t h u xs) (e : Heap.ExtBut b h g) (n : u ≠ b) : Sq1 t g u xs := by
  cases t
  . exact Heap.IsList.extBut x e n
  . exact Heap.IsTuple.extBut x e n
theorem It1.there {t : Bool} {h : Heap} {j u : Addr} {k : Nat} (x : It1 t h j u k) : ∃ o, h.get? j = some o /\ ∀ v, o.data ≠ .cell v := by
  cases t
  . obtain ⟨o, e, _, d⟩ := (show h.IsListIter j u k from x)
    exact ⟨o, e, fun v z => by rw [d] at z; cases z⟩
  . obtain ⟨o, e, _, d⟩ := (show h.IsTupleIter j u k from x)
    exact ⟨o, e, fun v z => by rw [d] at z; cases z⟩
section
variable {prog : Program} {w : World} {A : Around} {E : Value -> Shared -> Prop} {s : Shared}
theorem Af2 {t : Bool} {j u : Addr} {k : Nat} {xs : Array Value} {y : Value} {Q : Value -> Shared -> Prop} (hj : It1 t s.heap j u k) (hu : Sq1 t s.heap u xs) (hy : xs[k]? = some y)
    (c : ∀ g, It1 t g j u (k + 1) -> Heap.SameBut j s.heap g -> Q y { s with heap := g }) : wpAny (model prog w) A (Builtin.SmallTypes.nextOf (.ref j)) Q E s := by
  cases t
  . exact wpAny_nextOf_list_item hj hu hy c
  . exact nextT hj hu hy c
theorem Vy {t : Bool} {j u : Addr} {k : Nat} {xs : Array Value} {Q : Value -> Shared -> Prop} (hh : A.handled = none) (hj : It1 t s.heap j u k) (hu : Sq1 t s.heap u xs) (hy : xs[k]? = none)
    (c : ∀ g e, Heap.ExtBut j s.heap g -> (∃ o, g.get? e = some o /\ o.cls = .type "StopIteration") -> E (.ref e) { s with heap := g }) : wpAny (model prog w) A (Builtin.SmallTypes.nextOf (.ref j)) Q E s := by
  cases t
  . exact wpAny_nextOf_list_end hh hj hu hy c
  . exact V2 hh hj hu hy c
theorem Abe {t1 t2 : Bool} {zz TI TO i1 i2 u1 u2 : Addr} {k1 k2 : Nat} {xs ys : Array Value} {x y p q : Value} {Q : Value -> Shared -> Prop} (D : ZipApart zz TI TO i1 i2 u1 u2)
    (hz : IsZip s.heap zz TI TO .none) (hTI : IsPair s.heap TI (.ref i1) (.ref i2)) (hTO : IsPair s.heap TO p q) (j1 : It1 t1 s.heap i1 u1 k1) (j2 : It1 t2 s.heap i2 u2 k2) (a1 : Sq1 t1 s.heap u1 xs) (a2 : Sq1 t2 s.heap u2 ys) (hx : xs[k1]? = some x) (hy : ys[k2]? = some y)
    (c : ∀ g, IsZip g zz TI TO (rawInt s.heap.objs.size) -> IsPair g TO x y -> It1 t1 g i1 u1 (k1 + 1) -> It1 t2 g i2 u2 (k2 + 1) -> IsPair g s.heap.objs.size x y -> g.objs.size = s.heap.objs.size + 1 ->
      (∀ b o, b ≠ zz -> b ≠ TO -> b ≠ i1 -> b ≠ i2 -> s.heap.get? b = some o -> g.get? b = some o) -> Q (.ref s.heap.objs.size) { s with heap := g }) :
    wpAny (model prog w) A (Builtin.«zip.__next__» ⟨[.ref zz], []⟩) (fun fin s' => ∃ v, fin = .done (.ret v) /\ Q v s') E s := by
  show wpAny _ _ (field (.ref zz) 2 >>= _) _ _ s
  refine wpAny_bind (wpAny_field hz rfl (x := .bool false) rfl ?z1)
  case z1 =>
  show wpAny _ _ (field (.ref zz) 3 >>= _) _ _ s
  refine wpAny_bind (wpAny_field hz rfl (x := .ref TI) rfl (wpAny_bind (wpAny_seqItems hTI rfl ?z2)))
  case z2 =>
  show wpAny _ _ (Builtin.SmallTypes.ownedTupleIsFree (.ref zz) >>= _) _ _ s
  refine wpAny_bind (m := Builtin.SmallTypes.ownedTupleIsFree (.ref zz)) ?z3
  case z3 =>
  unfold Builtin.SmallTypes.ownedTupleIsFree; refine wpAny_bind (wpAny_field hz rfl (x := .none) rfl (wpAny_pure ?z4))
  case z4 =>
  simp only [if_true]; refine wpAny_bind (wpAny_rule (wpAny_bind (wpAny_field hz rfl (x := .ref TO) rfl (wpAny_bind (wpAny_setField_rec hz (by simp) fun g1 (z1 : IsZip g1 zz TI TO .ellipsis) b1 => ?z5)))))
  case z5 =>
  refine wpAny_bind ?z6
  case z6 =>
  simp only [List.forIn_cons, List.forIn_nil, List.zipIdx_cons, List.zipIdx_nil]
  refine wpAny_bind (wpAny_bind (wpAny_onRaise ?z7))
  case z7 =>
  show wpAny _ _ (Builtin.SmallTypes.nextOf (.ref i1) >>= _) _ _ { s with heap := g1 }
  refine wpAny_bind (Af2 (j1.ext b1.extBut D.i1z) (a1.ext b1.extBut D.l1z) hx fun g2 n1 b2 => wpAny_pure ?z8)
  case z8 =>
  have o2 : IsPair g2 TO p q := b2.extBut _ _ D.TOi1 (b1.extBut _ _ D.TOz hTO)
  refine wpAny_bind (wpAny_seqItems o2 rfl (wpAny_bind (wpAny_updateSeq_pair o2 fun g3 (o3 : IsPair g3 TO x q) b3 => wpAny_bind (wpAny_letGo (wpAny_pure (wpAny_bind (wpAny_bind (wpAny_onRaise ?z9))))))))
  case z9 =>
  show wpAny _ _ (Builtin.SmallTypes.nextOf (.ref i2) >>= _) _ _ { s with heap := g3 }
  refine wpAny_bind (Af2 (((j2.ext b1.extBut D.i2z).ext b2.extBut D.i12.symm).ext b3.extBut D.TOi2.symm) (((a2.ext b1.extBut D.l2z).ext b2.extBut D.l2i1).ext b3.extBut D.l2TO) hy fun g4 n2 b4 => wpAny_pure ?z10)
  case z10 =>
  have o4 : IsPair g4 TO x q := b4.extBut _ _ D.TOi2 o3
  refine wpAny_bind (wpAny_seqItems o4 rfl (wpAny_bind (wpAny_updateSeq_pair o4 fun g5 (o5 : IsPair g5 TO x y) b5 => wpAny_bind (wpAny_letGo (wpAny_pure (wpAny_pure (wpAny_bind (wpAny_seqItems o5 rfl (wpAny_bind (wpAny_newTuple ?z11))))))))))
  case z11 =>
  have sz : g5.objs.size = s.heap.objs.size := by rw [b5.1, b4.1, b3.1, b2.1, b1.1]
  have z5 : IsZip g5 zz TI TO .ellipsis := b5.extBut _ _ D.TOz.symm (b4.extBut _ _ D.i2z.symm (b3.extBut _ _ D.TOz.symm (b2.extBut _ _ D.i1z.symm z1)))
  have k5 : ∀ b o, b ≠ zz -> b ≠ TO -> b ≠ i1 -> b ≠ i2 -> s.heap.get? b = some o -> g5.get? b = some o := fun b o c1 c2 c3 c4 e => b5.extBut _ _ c2 (b4.extBut _ _ c4 (b3.extBut _ _ c2 (b2.extBut _ _ c3 (b1.extBut _ _ c1 e))))
  have m1 : It1 t1 g5 i1 u1 (k1 + 1) := ((n1.ext b3.extBut D.TOi1.symm).ext b4.extBut D.i12).ext b5.extBut D.TOi1.symm
  have m2 : It1 t2 g5 i2 u2 (k2 + 1) := n2.ext b5.extBut D.TOi2.symm
  have zlt : zz < g5.objs.size := Heap.lt_size z5
  show wpAny _ _ (Builtin.SmallTypes.ownedTupleHandOut (.ref zz) (.ref g5.objs.size) >>= _) _ _ _
  refine wpAny_bind (m := Builtin.SmallTypes.ownedTupleHandOut (.ref zz) (.ref g5.objs.size)) ?z12
  case z12 =>
  unfold Builtin.SmallTypes.ownedTupleHandOut
  have z6 : IsZip (g5.push { cls := .type "tuple", data := .seq #[x, y] }) zz TI TO .ellipsis := Heap.get?_push_of_some _ z5
  refine wpAny_bind (wpAny_setField_rec z6 (by simp) fun g7 (z7 : IsZip g7 zz TI TO (rawInt g5.objs.size)) b7 => wpAny_setField_rec z7 (by simp) fun g8 (z8 : IsZip g8 zz TI TO (rawInt g5.objs.size)) b8 => ?z13)
  case z13 =>
  have up : ∀ b o, b ≠ zz -> g5.get? b = some o -> g8.get? b = some o := fun b o c1 e => b8.extBut _ _ c1 (b7.extBut _ _ c1 (Heap.get?_push_of_some _ e))
  have t8 : IsPair g8 g5.objs.size x y := b8.extBut _ _ (Nat.ne_of_gt zlt) (b7.extBut _ _ (Nat.ne_of_gt zlt) (Heap.get?_push_size _ rfl))
  have w8 : g8.objs.size = g5.objs.size + 1 := by rw [b8.1, b7.1, Heap.size_push]
  rw [sz] at z8 t8 w8
  refine wpAny_pure ⟨_, rfl, ?z14⟩
  case z14 =>
  show Q (.ref g5.objs.size) _
  rw [sz]
  exact c g8 z8 (up _ _ D.TOz o5) (m1.to fun o e => up _ o D.i1z e) (m2.to fun o e => up _ o D.i2z e) t8 w8 fun b o c1 c2 c3 c4 e => up b o c1 (k5 b o c1 c2 c3 c4 e)
theorem Adi {t1 t2 : Bool} {zz TI TO i1 i2 u1 u2 : Addr} {k1 k2 : Nat} {xs ys : Array Value} {p q : Value} {Q : Fin -> Shared -> Prop} (hh : A.handled = none) (D : ZipApart zz TI TO i1 i2 u1 u2)
    (hz : IsZip s.heap zz TI TO .none) (hTI : IsPair s.heap TI (.ref i1) (.ref i2)) (hTO : IsPair s.heap TO p q) (j1 : It1 t1 s.heap i1 u1 k1) (j2 : It1 t2 s.heap i2 u2 k2) (a1 : Sq1 t1 s.heap u1 xs) (a2 : Sq1 t2 s.heap u2 ys) (he : xs[k1]? = none \/ ys[k2]? = none)
    (c : ∀ g e, (∀ b o, b ≠ zz -> b ≠ TO -> b ≠ i1 -> b ≠ i2 -> s.heap.get? b = some o -> g.get? b = some o) -> (∃ o, g.get? e = some o /\ o.cls = .type "StopIteration") -> E (.ref e) { s with heap := g }) :
    wpAny (model prog w) A (Builtin.«zip.__next__» ⟨[.ref zz], []⟩) Q E s := by
  show wpAny _ _ (field (.ref zz) 2 >>= _) _ _ s
  refine wpAny_bind (wpAny_field hz rfl (x := .bool false) rfl ?z1)
  case z1 =>
  show wpAny _ _ (field (.ref zz) 3 >>= _) _ _ s
  refine wpAny_bind (wpAny_field hz rfl (x := .ref TI) rfl (wpAny_bind (wpAny_seqItems hTI rfl ?z2)))
  case z2 =>
  show wpAny _ _ (Builtin.SmallTypes.ownedTupleIsFree (.ref zz) >>= _) _ _ s
  refine wpAny_bind (m := Builtin.SmallTypes.ownedTupleIsFree (.ref zz)) ?z3
  case z3 =>
  unfold Builtin.SmallTypes.ownedTupleIsFree; refine wpAny_bind (wpAny_field hz rfl (x := .none) rfl (wpAny_pure ?z4))
  case z4 =>
  simp only [if_true]; refine wpAny_bind (wpAny_rule (wpAny_bind (wpAny_field hz rfl (x := .ref TO) rfl (wpAny_bind (wpAny_setField_rec hz (by simp) fun g1 (z1 : IsZip g1 zz TI TO .ellipsis) b1 => ?z5)))))
  case z5 =>
  refine wpAny_bind ?z6
  case z6 =>
  simp only [List.forIn_cons, List.forIn_nil, List.zipIdx_cons, List.zipIdx_nil]
  refine wpAny_bind (wpAny_bind (wpAny_onRaise ?z7))
  case z7 =>
  show wpAny _ _ (Builtin.SmallTypes.nextOf (.ref i1) >>= _) _ _ { s with heap := g1 }
  cases hx : xs[k1]? with
  | none =>
    refine wpAny_bind (Vy hh (j1.ext b1.extBut D.i1z) (a1.ext b1.extBut D.l1z) hx fun g2 e b2 ⟨oe, hoe, hce⟩ => ?_)
    have z2 : IsZip g2 zz TI TO .ellipsis := b2 _ _ D.i1z.symm z1
    have ne : e ≠ zz := fun y => by subst y; rw [z2] at hoe; cases hoe; simp at hce
    exact wpAny_setField_rec z2 (by simp) fun g3 _ b3 => c g3 e (fun b o c1 _ c3 _ y => b3.extBut _ _ c1 (b2 _ _ c3 (b1.extBut _ _ c1 y))) ⟨oe, b3.extBut _ _ ne hoe, hce⟩
  | some x =>
    have hy : ys[k2]? = none := by
      rcases he with h | h
      . rw [hx] at h; cases h
      . exact h
    refine wpAny_bind (Af2 (j1.ext b1.extBut D.i1z) (a1.ext b1.extBut D.l1z) hx fun g2 n1 b2 => wpAny_pure ?_)
    have o2 : IsPair g2 TO p q := b2.extBut _ _ D.TOi1 (b1.extBut _ _ D.TOz hTO)
    refine wpAny_bind (wpAny_seqItems o2 rfl (wpAny_bind (wpAny_updateSeq_pair o2 fun g3 o3 b3 => wpAny_bind (wpAny_letGo (wpAny_pure (wpAny_bind (wpAny_bind (wpAny_onRaise ?z9))))))))
    case z9 =>
    show wpAny _ _ (Builtin.SmallTypes.nextOf (.ref i2) >>= _) _ _ { s with heap := g3 }
    refine wpAny_bind (Vy hh (((j2.ext b1.extBut D.i2z).ext b2.extBut D.i12.symm).ext b3.extBut D.TOi2.symm) (((a2.ext b1.extBut D.l2z).ext b2.extBut D.l2i1).ext b3.extBut D.l2TO) hy fun g4 e b4 ⟨oe, hoe, hce⟩ => ?_)
    have z4 : IsZip g4 zz TI TO .ellipsis := b4 _ _ D.i2z.symm (b3.extBut _ _ D.TOz.symm (b2.extBut _ _ D.i1z.symm z1))
    have ne : e ≠ zz := fun y => by subst y; rw [z4] at hoe; cases hoe; simp at hce
    exact wpAny_setField_rec z4 (by simp) fun g5 _ b5 => c g5 e (fun b o c1 c2 c3 c4 y => b5.extBut _ _ c1 (b4 _ _ c4 (b3.extBut _ _ c2 (b2.extBut _ _ c3 (b1.extBut _ _ c1 y))))) ⟨oe, b5.extBut _ _ ne hoe, hce⟩
theorem Abh {t1 t2 : Bool} {zz TI TO i1 i2 u1 u2 : Addr} {k1 k2 : Nat} {xs ys : Array Value} {x y p q : Value} {Q : Option Value -> Shared -> Prop} (D : ZipApart zz TI TO i1 i2 u1 u2)
    (hz : IsZip s.heap zz TI TO .none) (hTI : IsPair s.heap TI (.ref i1) (.ref i2)) (hTO : IsPair s.heap TO p q) (j1 : It1 t1 s.heap i1 u1 k1) (j2 : It1 t2 s.heap i2 u2 k2) (a1 : Sq1 t1 s.heap u1 xs) (a2 : Sq1 t2 s.heap u2 ys) (hx : xs[k1]? = some x) (hy : ys[k2]? = some y)
    (c : ∀ g, IsZip g zz TI TO (rawInt s.heap.objs.size) -> IsPair g TO x y -> It1 t1 g i1 u1 (k1 + 1) -> It1 t2 g i2 u2 (k2 + 1) -> IsPair g s.heap.objs.size x y -> g.objs.size = s.heap.objs.size + 1 ->
      (∀ b o, b ≠ zz -> b ≠ TO -> b ≠ i1 -> b ≠ i2 -> s.heap.get? b = some o -> g.get? b = some o) -> Q (some (.ref s.heap.objs.size)) { s with heap := g }) : wpAny (model prog w) A (pyNext (.ref zz)) Q E s := by
  have ty : s.TypeIs (.ref zz) "zip" := ⟨_, hz, rfl⟩
  unfold pyNext
  exact wpAny_bind (wpAny_attempt (wpAny_callSpecial?_slot (name := Str.ofString "__next__") ty F.slot_zip_next (wpAny_call_entry F.slot_zip_next ty F.entry_zip_next
    (Abe D hz hTI hTO j1 j2 a1 a2 hx hy fun g b1 b2 b3 b4 b5 b6 b7 => wpAny_pure (c g b1 b2 b3 b4 b5 b6 b7)) (F.args_zip_next_1 _))))
theorem Acu {t1 t2 : Bool} {zz TI TO i1 i2 u1 u2 : Addr} {k1 k2 : Nat} {xs ys : Array Value} {p q : Value} {Q : Option Value -> Shared -> Prop} (hh : A.handled = none) (D : ZipApart zz TI TO i1 i2 u1 u2)
    (hz : IsZip s.heap zz TI TO .none) (hTI : IsPair s.heap TI (.ref i1) (.ref i2)) (hTO : IsPair s.heap TO p q) (j1 : It1 t1 s.heap i1 u1 k1) (j2 : It1 t2 s.heap i2 u2 k2) (a1 : Sq1 t1 s.heap u1 xs) (a2 : Sq1 t2 s.heap u2 ys) (he : xs[k1]? = none \/ ys[k2]? = none)
    (c : ∀ g, (∀ b o, b ≠ zz -> b ≠ TO -> b ≠ i1 -> b ≠ i2 -> s.heap.get? b = some o -> g.get? b = some o) -> Q none { s with heap := g }) : wpAny (model prog w) A (pyNext (.ref zz)) Q E s := by
  have ty : s.TypeIs (.ref zz) "zip" := ⟨_, hz, rfl⟩
  unfold pyNext
  refine wpAny_bind (wpAny_attempt (wpAny_callSpecial?_slot (name := Str.ofString "__next__") ty F.slot_zip_next (wpAny_call_entry F.slot_zip_next ty F.entry_zip_next (Adi hh D hz hTI hTO j1 j2 a1 a2 he fun g e hk ⟨o, ho, hc⟩ => ?_) (F.args_zip_next_1 _))))
  exact wpAny_bind (wpAny_isInstance (T := "StopIteration") (b := true) ⟨o, ho, hc⟩ isSubtype_stop (wpAny_pure (c _ hk)))
end
def Aig (t : Bool) : String := if t = true then "tuple_iterator" else "list_iterator"
abbrev Xl (t : Bool) (u : Addr) : Obj := { cls := .type (Aig t), data := .fields #[.ref u, .int 0 0] }
theorem iter1 {prog : Program} {w : World} {A : Around} {E : Value -> Shared -> Prop} {s : Shared} {t : Bool} {u : Addr} {xs : Array Value} {Q : Value -> Shared -> Prop} (h : Sq1 t s.heap u xs) (q : Q (.ref s.heap.objs.size) { s with heap := s.heap.push (Xl t u) }) : wpAny (model prog w) A (pyIter (.ref u)) Q E s := by
  cases t
  . exact wpAny_pyIter_list h q
  . exact wpAny_pyIter_tuple h q
theorem Abn {t : Bool} {u j : Addr} {g : Heap} (e : g.get? j = some (Xl t u)) : It1 t g j u 0 := by
  cases t
  . exact ⟨_, e, rfl, rfl⟩
  . exact ⟨_, e, rfl, rfl⟩
theorem Sq1.push {t : Bool} {h : Heap} {u : Addr} {xs : Array Value} (x : Sq1 t h u xs) (o : Obj) : Sq1 t (h.push o) u xs := by
  cases t
  . exact Heap.IsList.push x _
  . obtain ⟨ob, e, r⟩ := (show h.IsTuple u xs from x)
    exact ⟨ob, Heap.get?_push_of_some _ e, r⟩
abbrev zA1 (t1 : Bool) (h : Heap) (u1 : Addr) : Heap := h.push (Xl t1 u1)
abbrev zA2 (t1 t2 : Bool) (h : Heap) (u1 u2 : Addr) : Heap := (zA1 t1 h u1).push (Xl t2 u2)
abbrev zA3 (t1 t2 : Bool) (h : Heap) (u1 u2 : Addr) : Heap := (zA2 t1 t2 h u1 u2).push { cls := .type "tuple", data := .seq #[.ref h.objs.size, .ref (zA1 t1 h u1).objs.size] }
abbrev zA4 (t1 t2 : Bool) (h : Heap) (u1 u2 : Addr) : Heap := (zA3 t1 t2 h u1 u2).push { cls := .type "tuple", data := .seq #[.none, .none] }
abbrev zA5 (t1 t2 : Bool) (h : Heap) (u1 u2 : Addr) : Heap := (zA4 t1 t2 h u1 u2).push { cls := .type "zip", data := .fields #[.none, .bool false, .bool false, .ref (zA2 t1 t2 h u1 u2).objs.size, .ref (zA3 t1 t2 h u1 u2).objs.size] }
theorem Ze (t1 t2 : Bool) (u1 u2 : Addr) (xs ys : Array Value) :
    Meets (Builtin.«zip.__new__» ⟨[.type "zip", .ref u1, .ref u2], []⟩) (fun _ R s => Sq1 t1 s.heap u1 xs /\ Sq1 t2 s.heap u2 ys /\ R (.ok (.ret (.ref (zA4 t1 t2 s.heap u1 u2).objs.size))) { s with heap := zA5 t1 t2 s.heap u1 u2 }) :=
  .of_wp fun prog w A R s h => by
    obtain ⟨hp, g, d, tk, os⟩ := s; obtain ⟨b1, b2, h⟩ := h
    have su := sub_zip
    have L1 : Sq1 t1 (Shared.heap ⟨hp, g, d, tk, os⟩) u1 xs := b1
    have L2 : Sq1 t2 (Shared.heap ⟨hp.push (Xl t1 u1), g, d, tk, os⟩) u2 ys := b2.push _
    wp_walk using iter1 L1, iter1 L2
    exact ⟨_, rfl, h⟩
theorem Acn {prog : Program} {w : World} {A : Around} {E : Value -> Shared -> Prop} {s : Shared} {t1 t2 : Bool} {u1 u2 : Addr} {xs ys : Array Value} {Q : Value -> Shared -> Prop} (b1 : Sq1 t1 s.heap u1 xs) (b2 : Sq1 t2 s.heap u2 ys)
    (c : ∀ g, IsZip g (s.heap.objs.size + 4) (s.heap.objs.size + 2) (s.heap.objs.size + 3) .none -> IsPair g (s.heap.objs.size + 2) (.ref s.heap.objs.size) (.ref (s.heap.objs.size + 1)) -> IsPair g (s.heap.objs.size + 3) .none .none ->
      It1 t1 g s.heap.objs.size u1 0 -> It1 t2 g (s.heap.objs.size + 1) u2 0 -> (∀ b o, s.heap.get? b = some o -> g.get? b = some o) -> Q (.ref (s.heap.objs.size + 4)) { s with heap := g }) : wpAny (model prog w) A (call (.type "zip") [.ref u1, .ref u2]) Q E s := by
  refine callType_new F.called_zip (by decide) (F.typeCall_zip_2 _ _) (F.newCall_zip_2 _ _) (fun obj => F.args_object_init_3 obj _ _) F.entry_zip_new (Ze t1 t2 u1 u2 xs ys) ⟨b1, b2, ?_⟩
  have w1 : (zA1 t1 s.heap u1).objs.size = s.heap.objs.size + 1 := Heap.size_push ..
  have w2 : (zA2 t1 t2 s.heap u1 u2).objs.size = s.heap.objs.size + 2 := by rw [Heap.size_push, w1]
  have w3 : (zA3 t1 t2 s.heap u1 u2).objs.size = s.heap.objs.size + 3 := by rw [Heap.size_push, w2]
  have w4 : (zA4 t1 t2 s.heap u1 u2).objs.size = s.heap.objs.size + 4 := by rw [Heap.size_push, w3]
  have e5 : (zA5 t1 t2 s.heap u1 u2).get? (zA4 t1 t2 s.heap u1 u2).objs.size = some _ := Heap.get?_push_size _ rfl
  have e4 : (zA5 t1 t2 s.heap u1 u2).get? (zA3 t1 t2 s.heap u1 u2).objs.size = some _ := Heap.get?_push_of_some _ (Heap.get?_push_size _ rfl)
  have e3 : (zA5 t1 t2 s.heap u1 u2).get? (zA2 t1 t2 s.heap u1 u2).objs.size = some _ := Heap.get?_push_of_some _ (Heap.get?_push_of_some _ (Heap.get?_push_size _ rfl))
  have e2 : (zA5 t1 t2 s.heap u1 u2).get? (zA1 t1 s.heap u1).objs.size = some (Xl t2 u2) := Heap.get?_push_of_some _ (Heap.get?_push_of_some _ (Heap.get?_push_of_some _ (Heap.get?_push_size _ rfl)))
  have e1 : (zA5 t1 t2 s.heap u1 u2).get? s.heap.objs.size = some (Xl t1 u1) := Heap.get?_push_of_some _ (Heap.get?_push_of_some _ (Heap.get?_push_of_some _ (Heap.get?_push_of_some _ (Heap.get?_push_size _ rfl))))
  show _ /\ _
  rw [w2, w3, w4] at e5
  rw [w1, w2] at e3
  rw [w3] at e4
  rw [w1] at e2
  rw [w4]
  exact ⟨⟨_, e5, rfl⟩, c _ e5 e3 e4 (Abn e1) (Abn e2) fun b o x => Heap.get?_push_of_some _ (Heap.get?_push_of_some _ (Heap.get?_push_of_some _ (Heap.get?_push_of_some _ (Heap.get?_push_of_some _ x))))⟩
def SqB (t : Bool) (K : PySem.W.Frag) (H : Hp) (a : Addr) (xs : List V) : Prop := if t = true then SqT K H a xs else SqL K H a xs
theorem Inv.sqB {X : Cx} {pins : List (Addr × Obj)} {σ : St} {H : Hp} {s : Shared} {t : Bool} {a : Addr} {xs : List V} (I : Inv X pins σ H s) (h : SqB t X.K H a xs) : ∃ its : List Value, Vals xs its /\ Sq1 t s.heap a its.toArray := by
  cases t
  . obtain ⟨its, r, p, _⟩ := I.list h
    exact ⟨its, r, p.isList⟩
  . obtain ⟨its, r, p, _⟩ := I.tuple h
    exact ⟨its, r, p⟩
theorem Inv.sqB_inj {X : Cx} {pins : List (Addr × Obj)} {σ : St} {H : Hp} {s : Shared} {t : Bool} {a : Addr} {xs ys : List V} (I : Inv X pins σ H s) (h : SqB t X.K H a xs) (h' : SqB t X.K H a ys) : xs = ys := by
  cases t
  . exact I.list_inj h h'
  . exact I.tuple_inj h h'
def Aiu (t1 t2 : Bool) (K : PySem.W.Frag) (a b : Addr) : It :=
  ⟨fun i H => ∃ xs ys x y, SqB t1 K H a xs /\ SqB t2 K H b ys /\ xs[i]? = some x /\ ys[i]? = some y,
   fun i H x H' => ∃ p u v, (∀ xs, SqB t1 K H a xs -> xs[i]? = some u) /\ (∀ ys, SqB t2 K H b ys -> ys[i]? = some v) /\ H p = none /\ x = .ref p /\ H' = upd H p (.tup [u, v]),
   fun i H => ∃ xs ys, SqB t1 K H a xs /\ SqB t2 K H b ys /\ (xs.length <= i \/ ys.length <= i)⟩
theorem Acd {P : Program} {w : World} {K : PySem.W.Frag} {el : List Expr} {x1} {tp : Pos} (t1 t2 : Bool) (a b z TI TO i1 i2 : Addr) (D : ZipApart z TI TO i1 i2 a b) :
    Turn P w K (.Tuple el x1 tp) (Aiu t1 t2 K a b) [z, TI, TO, i1, i2] z (fun i h => IsZip h z TI TO .none /\ IsPair h TI (.ref i1) (.ref i2) /\ (∃ c d, IsPair h TO c d) /\ It1 t1 h i1 a i /\ It1 t2 h i2 b i) where
  mem := by simp
  obj := fun i h st c hc => by
    obtain ⟨hz, hTI, ⟨u, v, hTO⟩, h1, h2⟩ := st
    simp only [List.mem_cons, List.not_mem_nil, or_false] at hc
    rcases hc with rfl | rfl | rfl | rfl | rfl
    . exact ⟨_, hz, fun v z => by cases (show Data.fields _ = Data.cell v from z)⟩
    . exact ⟨_, hTI, fun v z => by cases (show Data.seq _ _ = Data.cell v from z)⟩
    . exact ⟨_, hTO, fun v z => by cases (show Data.seq _ _ = Data.cell v from z)⟩
    . exact h1.there
    . exact h2.there
  keep := fun i h h' st k => by
    obtain ⟨hz, hTI, ⟨u, v, hTO⟩, h1, h2⟩ := st
    exact ⟨k z (by simp) _ hz, k TI (by simp) _ hTI, ⟨u, v, k TO (by simp) _ hTO⟩, h1.to fun o e => k i1 (by simp) _ e, h2.to fun o e => k i2 (by simp) _ e⟩
  item := by
    intro X hP hw hK hc i pins s σ H E I hf st hg
    subst hP hw hK
    obtain ⟨xs, ys, x, y, hqx, hqy, hx, hy⟩ := hg
    obtain ⟨its, rv, p⟩ := I.sqB hqx
    obtain ⟨its2, rv2, p2⟩ := I.sqB hqy
    obtain ⟨u, hu, ru⟩ := rv.get hx
    obtain ⟨v, hv, rv'⟩ := rv2.get hy
    obtain ⟨hz, hTI, ⟨c, d, hTO⟩, h1, h2⟩ := st
    refine Abh D hz hTI hTO h1 h2 p p2 (x := u) (y := v) (by simpa using hu) (by simpa using hv) fun g a1 a2 a3 a4 a5 a6 hk => ⟨_, rfl, ?_⟩
    refine wpAny_letOwnedTupleGo_zip a1 fun g2 hz2 sb2 => ?_
    replace sb2 : Heap.SameBut z g g2 := sb2
    have lt : ∀ b ∈ [z, TI, TO, i1, i2], b ≠ s.heap.objs.size := fun b hb => by
      obtain ⟨o1, e1, _⟩ := h1.there
      obtain ⟨o2, e2, _⟩ := h2.there
      simp only [List.mem_cons, List.not_mem_nil, or_false] at hb
      rcases hb with rfl | rfl | rfl | rfl | rfl
      . exact Nat.ne_of_lt (Heap.lt_size hz)
      . exact Nat.ne_of_lt (Heap.lt_size hTI)
      . exact Nat.ne_of_lt (Heap.lt_size hTO)
      . exact Nat.ne_of_lt (Heap.lt_size e1)
      . exact Nat.ne_of_lt (Heap.lt_size e2)
    have hn : H s.heap.objs.size = none := I.fresh
    have I1 : Inv X pins σ (upd H s.heap.objs.size (.tup [x, y])) { s with heap := s.heap.push { cls := .type "tuple", data := .seq #[u, v] }, toks := s.toks } :=
      I.laid (fun b o q => Heap.get?_push_of_some _ q) (Nat.le_refl _) ⟨by show 2 <= sizeLine; decide, [u, v], .cons ru (.cons rv' .nil), ⟨_, Heap.get?_push_size _ rfl, rfl, _, rfl⟩⟩
    have fp' : ∀ b ∈ [z, TI, TO, i1, i2], Wj X pins (upd H s.heap.objs.size (.tup [x, y])) b := fun b hb =>
      ⟨by rw [Cp (lt b hb)]; exact (hf b hb).1, (hf b hb).2⟩
    have I2 := I1.turnL (h' := g2) (t' := s.toks) (fp := [z, TI, TO, i1, i2]) (fun b o hb q => by
      have n1 : b ≠ z := fun e => hb (by simp [e])
      refine (sb2.2 b n1).trans ?_
      rcases Heap.get?_push_cases q with ⟨rfl, rfl⟩ | q0
      . exact a5
      . exact hk b o n1 (fun e => hb (by simp [e])) (fun e => hb (by simp [e])) (fun e => hb (by simp [e])) q0) fp'
    refine ⟨.ref s.heap.objs.size, _, I2, rfl, ⟨_, x, y, fun zs hz => by rw [I.sqB_inj hz hqx]; exact hx, fun zs hz => by rw [I.sqB_inj hz hqy]; exact hy, hn, rfl, rfl⟩, ⟨hz2, ?_, ⟨u, v, sb2.extBut _ _ D.TOz a2⟩, a3.ext sb2.extBut D.i1z, a4.ext sb2.extBut D.i2z⟩, fun b hb => (fp' b hb).1⟩
    exact sb2.extBut _ _ D.TIz (hk _ _ D.TIz D.TITO D.TIi1 D.TIi2 hTI)
  done := by
    intro X hP hw hK hc i pins s σ H E I hf st hg
    subst hP hw hK
    obtain ⟨xs, ys, hqx, hqy, hxy⟩ := hg
    obtain ⟨its, rv, p⟩ := I.sqB hqx
    obtain ⟨its2, rv2, p2⟩ := I.sqB hqy
    obtain ⟨hz, hTI, ⟨c, d, hTO⟩, h1, h2⟩ := st
    have l1 := rv.length
    have l2 := rv2.length
    exact Acu (I.ok.hd hc) D hz hTI hTO h1 h2 p p2 (by
      rcases hxy with h | h
      . exact .inl (by simp; omega)
      . exact .inr (by simp; omega)) fun g hk => ⟨rfl, I.turnL (t' := s.toks) (fp := [z, TI, TO, i1, i2]) (fun b o hb q => hk b o (fun e => hb (by simp [e])) (fun e => hb (by simp [e])) (fun e => hb (by simp [e])) (fun e => hb (by simp [e])) q) hf⟩
  self := fun _ _ _ _ _ st h => wpAny_pyIter_zip st.1 h
section
variable {X : Cx} {a b : Expr} {ta : TA} {el : List Expr} {x1} {tp p pos : Pos}
def Af3 (t1 t2 : Bool) (K : PySem.W.Frag) (ta : TA) : TI := fun σ H R => ta σ H fun vs H1 => ∃ a b, vs = [.ref a, .ref b] /\ (∃ xs, SqB t1 K H1 a xs) /\ (∃ ys, SqB t2 K H1 b ys) /\ R (Aiu t1 t2 K a b) H1
theorem Rv (t1 t2 : Bool) (hg : Gl X "zip") (hm : X.mg "zip" = none) (ha : PA X [a, b] ta) (hs : starEach [a, b] X.env = [(false, eval a X.env), (false, eval b X.env)] := by rfl) (hs2 : starEach [b] X.env = [(false, eval b X.env)] := by rfl) :
    PI X (.Tuple el x1 tp) (.Call (.Name "zip" p) [a, b] [] pos) (Af3 t1 t2 X.K ta) := by
  intro pins s σ H R I h
  refine Call_ (O7 I hg hm boot_zip (PyProof.Rows.callWith_type1 (thn (ha pos pins s σ H _ I h) fun us s1 ⟨vs, H1, I1, r1, q1⟩ => ?_) (by rw [hs, hs2]) (by rw [hs2]; rfl)))
  obtain ⟨u, v, rfl, ⟨xs, hqx⟩, ⟨ys, hqy⟩, q⟩ := q1
  obtain ⟨v1, v2, rfl, r1, r2⟩ := vals2 r1
  cases r1
  cases r2
  obtain ⟨its, rx, px⟩ := I1.sqB hqx
  obtain ⟨its2, ry, py⟩ := I1.sqB hqy
  have lt1 : u < s1.heap.objs.size := by
    cases t1
    . obtain ⟨o, e, _⟩ := (show s1.heap.IsList u _ from px)
      exact Heap.lt_size e
    . obtain ⟨o, e, _⟩ := (show s1.heap.IsTuple u _ from px)
      exact Heap.lt_size e
  have lt2 : v < s1.heap.objs.size := by
    cases t2
    . obtain ⟨o, e, _⟩ := (show s1.heap.IsList v _ from py)
      exact Heap.lt_size e
    . obtain ⟨o, e, _⟩ := (show s1.heap.IsTuple v _ from py)
      exact Heap.lt_size e
  refine Acn px py fun h' hz hTI hTO hi1 hi2 hk => ?_
  have I2 : Inv X pins σ H1 { s1 with heap := h' } := I1.kept (t' := s1.toks) fun c o' e => hk c o' e
  refine wpAny_pyIter_zip hz ⟨s1.heap.objs.size + 4, [s1.heap.objs.size + 4, s1.heap.objs.size + 2, s1.heap.objs.size + 3, s1.heap.objs.size, s1.heap.objs.size + 1], _, _, H1, rfl, I2, Acd t1 t2 u v _ _ _ _ _ (zipApart_new lt1 lt2), ⟨hz, hTI, ⟨_, _, hTO⟩, hi1, hi2⟩, fun c hcm => ?_, q⟩
  have hge : s1.heap.objs.size <= c := by
    simp only [List.mem_cons, List.not_mem_nil, or_false] at hcm
    rcases hcm with rfl | rfl | rfl | rfl | rfl
    . exact Nat.le_add_right _ 4
    . exact Nat.le_add_right _ 2
    . exact Nat.le_add_right _ 3
    . exact Nat.le_refl _
    . exact Nat.le_add_right _ 1
  exact I1.fpOk hge (I1.hok.fresh hge)
end
theorem Dn {t1 t2 : Bool} {K : PySem.W.Frag} {ta : TA} {σ : St} {H : Hp} {R : It -> Hp -> Prop} : Af3 t1 t2 K ta σ H R = ta σ H (fun vs H1 => ∃ a b, vs = [.ref a, .ref b] /\ (∃ xs, SqB t1 K H1 a xs) /\ (∃ ys, SqB t2 K H1 b ys) /\ R (Aiu t1 t2 K a b) H1) := rfl
theorem Agc {t1 t2 : Bool} {K : PySem.W.Frag} {σ : St} {H : Hp} {g : TG} {tb : TS} {D : Ends} {a b : Addr} {xs ys : List V} (n : Nat) (hn : n = min xs.length ys.length) (Pv : Nat -> St -> Hp -> Prop) (h0 : Pv 0 σ H)
    (hw : ∀ i σ H, Pv i σ H -> SqB t1 K H a xs /\ SqB t2 K H b ys)
    (hs : ∀ i σ H p, i < n -> Pv i σ H -> H p = none -> g (.ref p) σ (upd H p (.tup [xs.getD i .non, ys.getD i .non])) fun σ2 H2 => tb { D with nx := Pv (i + 1), ct := Pv (i + 1), bk := D.nx } σ2 H2) (hd : ∀ σ H, Pv n σ H -> D.nx σ H) : FI (Aiu t1 t2 K a b) g tb D σ H := by
  refine ⟨fun i m σ H => m = n - i /\ i <= n /\ Pv i σ H, ⟨n, by simp, Nat.zero_le _, h0⟩, ?_⟩
  rintro i m σ H ⟨rfl, hi, p⟩
  obtain ⟨wx, wy⟩ := hw _ _ _ p
  by_cases he : i = n
  . subst he
    exact .inl ⟨⟨xs, ys, wx, wy, by omega⟩, hd _ _ p⟩
  . have hl : i < n := by omega
    have ex : xs[i]? = some (xs.getD i .non) := by rw [List.getD_eq_getElem?_getD, List.getElem?_eq_getElem (by omega)]; rfl
    have ey : ys[i]? = some (ys.getD i .non) := by rw [List.getD_eq_getElem?_getD, List.getElem?_eq_getElem (by omega)]; rfl
    refine .inr ⟨⟨xs, ys, _, _, wx, wy, ex, ey⟩, Pv (i + 1), fun σ' H' p' => ⟨n - (i + 1), by omega, rfl, hl, p'⟩, fun x H3 y => ?_⟩
    obtain ⟨q, u, v, hu, hv, hq, rfl, rfl⟩ := y
    have eu := hu _ wx
    have ev := hv _ wy
    rw [ex] at eu
    rw [ey] at ev
    cases eu
    cases ev
    exact hs i σ H q hl p hq
end L2
namespace L2
open PySem PySem.Spec PyProof.Rows
set_option maxRecDepth 100000
abbrev TB := St -> Hp -> (St -> Hp -> Prop) -> XK -> Prop
def Ajp (sp : Sp) (g : V -> St -> St) (ta : TA) : TB := fun σ H N E => ta σ H fun vs H1 => sp vs H1 (fun v H2 => N (g v σ) H2) E
def bIf (tc : TT) (t u : TB) : TB := fun σ H N E => tc σ H fun b H1 => if b = true then t σ H1 N E else u σ H1 N E
def Ajo (C : Addr) (i : Nat) (tb : TB) (ts : Addr -> Obj -> TS) : TS := fun D σ H => tb σ H (fun σ' H' => D.nx σ' H')
  (fun c _ H2 => c = .ref C /\ ∀ x oe, oe.cls = .ref C -> ts x oe { nx := fun σ' H' => D.nx (σ'.set i none) H', rt := D.rt, bk := fun σ' H' => D.bk (σ'.set i none) H', ct := fun σ' H' => D.ct (σ'.set i none) H' } (σ.set i (some (.ref x))) H2)
theorem Dl {sp : Sp} {g : V -> St -> St} {ta : TA} {σ : St} {H : Hp} {N : St -> Hp -> Prop} {E : XK} : Ajp sp g ta σ H N E = ta σ H fun vs H1 => sp vs H1 (fun v H2 => N (g v σ) H2) E := rfl
theorem J9 {tc : TT} {t u : TB} {σ : St} {H : Hp} {N : St -> Hp -> Prop} {E : XK} : bIf tc t u σ H N E = tc σ H fun b H1 => if b = true then t σ H1 N E else u σ H1 N E := rfl
theorem Fq {C : Addr} {i : Nat} {tb : TB} {ts : Addr -> Obj -> TS} {D : Ends} {σ : St} {H : Hp} : Ajo C i tb ts D σ H = tb σ H (fun σ' H' => D.nx σ' H')
  (fun c _ H2 => c = .ref C /\ ∀ x oe, oe.cls = .ref C -> ts x oe { nx := fun σ' H' => D.nx (σ'.set i none) H', rt := D.rt, bk := fun σ' H' => D.bk (σ'.set i none) H', ct := fun σ' H' => D.ct (σ'.set i none) H' } (σ.set i (some (.ref x))) H2) := rfl
end L2
namespace L2
open PySem PySem.Spec PyProof.Rows
theorem Ti : ∀ {ns : List Int} {us : List Value}, Vals (ns.map V.int) us -> IntsAre us ns
  | [], _, r => by cases r; exact .nil
  | n :: ns, _, r => by
    cases r with
    | cons r1 r2 =>
      obtain ⟨t, rfl⟩ := r1
      exact .cons n t (Ti r2)
theorem Aan {X : Cx} (hc : X.calm = true) : Kg X (.builtin "sum") (fun xs H Q => ∃ (a : Addr) (ns : List Int), xs = [.ref a] /\ SqT X.K H a (ns.map V.int) /\ Q (.int ns.sum) H) := by
  intro pins s σ H xs us Q I r h
  obtain ⟨a, ns, rfl, ha, q⟩ := h
  obtain ⟨u, rfl, ru⟩ := vals1 r
  cases ru
  obtain ⟨its, rv, pl, hz⟩ := I.tuple ha
  have hi := Ti rv
  have hl : s.heap.IsTuple a its.toArray := pl
  obtain ⟨xs, hx⟩ := hi.allInts.items
  have hn : numsOf its.toArray.toList = ns := by rw [show its.toArray.toList = its from rfl, hi.numsOf]
  rw [hx] at hl hn
  rw [nums_intItems] at hn
  refine PySem.W.ktm_sumG (I.ok.hd hc) hl fun h' tk t' hk => ?_
  rw [preSum_eq, List.take_of_length_le (by simp), hn]
  exact ⟨.int _, H, I.kept (t' := tk) hk, ⟨_, rfl⟩, q⟩
end L2
namespace L2.S
open PySem L2
@[irreducible] def PE (X : Cx) (e : Expr) (t : TE) : Prop := L2.PE X e t
@[irreducible] def PT (X : Cx) (e : Expr) (t : TT) : Prop := L2.PT X e t
@[irreducible] def PW (X : Cx) (e : Expr) (t : TT) : Prop := L2.PW X e t
@[irreducible] def PA (X : Cx) (es : List Expr) (t : TA) : Prop := L2.PA X es t
@[irreducible] def PS (X : Cx) (st : Stmt) (t : TS) : Prop := L2.PS X st t
@[irreducible] def PSs (X : Cx) (st : List Stmt) (t : TS) : Prop := L2.PSs X st t
@[irreducible] def PG (X : Cx) (target : Expr) (t : TG) : Prop := L2.PG X target t
@[irreducible] def PGs (X : Cx) (ts : List Expr) (t : TGs) : Prop := L2.PGs X ts t
@[irreducible] def PI (X : Cx) (tg iter : Expr) (wi : TI) : Prop := L2.PI X tg iter wi
@[irreducible] def PO (X : Cx) (e : Option Expr) (t : TO) : Prop := L2.PO X e t
@[irreducible] def PTs (X : Cx) (ifs : List Expr) (t : TT) : Prop := L2.PTs X ifs t
theorem out {X : Cx} {b : List Stmt} {t : TS} (h : PSs X b t) : L2.PSs X b t := by unfold PSs at h; exact h
theorem pv : ∀ {X : Cx} (i : Nat) {x : Str} {pos : Pos}, autoParam ((Cx.N X)[i]? = Option.some x) L2.pv._auto_1 -> autoParam (Vis (Env.scope (Cx.env X)) x) L2.pv._auto_2 -> autoParam ((x == ("__debug__" : Str)) = Bool.false) L2.pv._auto_3 -> autoParam ((x == ("__classdict__" : Str)) = Bool.false) L2.pv._auto_4 -> S.PE X (Expr.Name x pos) (Aeo i) := by with_unfolding_all exact @L2.pv
theorem Hg : ∀ {X : Cx} {x : Str} {v : V} {u : Value} {pos : Pos}, Gl X x -> Cx.mg X x = Option.none -> bootBuiltins x = Option.some u -> RelV v u -> autoParam (x ≠ ("__name__" : Str)) L2.Hg._auto_1 -> autoParam ((x == ("__debug__" : Str)) = Bool.false) L2.Hg._auto_2 -> S.PE X (Expr.Name x pos) (tC v) := by with_unfolding_all exact @L2.Hg
theorem Ro : ∀ {X : Cx} {x : Str} {v : V} {u : Value} {pos : Pos}, Gl X x -> Cx.mg X x = Option.some u -> RelV v u -> autoParam ((x == ("__debug__" : Str)) = Bool.false) L2.Ro._auto_1 -> S.PE X (Expr.Name x pos) (tC v) := by with_unfolding_all exact @L2.Ro
theorem Ad : ∀ {X : Cx} {i : Int} {j : Nat} {pos : Pos}, S.PE X (Expr.Constant (Const.int i) j pos) (tC (V.int i)) := by with_unfolding_all exact @L2.Ad
theorem Ia : ∀ {X : Cx} {b : Bool} {j : Nat} {pos : Pos}, S.PE X (Expr.Constant (Const.bool b) j pos) (tC (V.bl b)) := by with_unfolding_all exact @L2.Ia
theorem Mu : ∀ {X : Cx} {j : Nat} {pos : Pos}, S.PE X (Expr.Constant Const.none j pos) (tC V.non) := by with_unfolding_all exact @L2.Mu
theorem O9 : ∀ {X : Cx} {x : Str} {j : Nat} {pos : Pos}, S.PE X (Expr.Constant (Const.str x) j pos) (tC (V.str x)) := by with_unfolding_all exact @L2.O9
theorem Ak : ∀ {X : Cx} {a b : Expr} {ta tb : TE} {pos : Pos} {op : Operator} {r : R2}, OpR X (binaryOp op) r -> S.PE X a ta -> S.PE X b tb -> S.PE X (Expr.BinOp a op b pos) (tOp r ta tb) := by with_unfolding_all exact @L2.Ak
theorem Abb : ∀ {X : Cx} {a : Expr} {ta : TE} {pos : Pos}, S.PE X a ta -> S.PE X (Expr.UnaryOp UnaryOp.Not a pos) (Agd ta) := by with_unfolding_all exact @L2.Abb
theorem Eb : ∀ {X : Cx} {a : Expr} {ta : TE} {pos : Pos} {op : UnaryOp} {r : V -> Hp -> VK -> Prop}, UnR X (unaryOp op) r -> S.PE X a ta -> S.PE X (Expr.UnaryOp op a pos) (tUn r ta) := by with_unfolding_all exact @L2.Eb
theorem Il : ∀ {X : Cx} {a b : Expr} {ta tb : TE} {pos : Pos} {op : CmpOp} {r : R2}, OpR X (compareOp op) r -> S.PE X a ta -> S.PE X b tb -> behindInMarks op b = Bool.false -> S.PE X (Expr.Compare a [op] [b] pos) (tOp r ta tb) := by with_unfolding_all exact @L2.Il
theorem U5 : ∀ {X : Cx} {a b : Expr} {ta tb : TE} {pos : Pos} {rest : List Expr}, S.PE X a ta -> S.PE X (Expr.BoolOp BoolOp.And (b :: rest) pos) tb -> S.PE X (Expr.BoolOp BoolOp.And (a :: b :: rest) pos) (Af6 ta tb) := by with_unfolding_all exact @L2.U5
theorem Adl : ∀ {X : Cx} {a b : Expr} {ta tb : TE} {pos : Pos} {rest : List Expr}, S.PE X a ta -> S.PE X (Expr.BoolOp BoolOp.Or (b :: rest) pos) tb -> S.PE X (Expr.BoolOp BoolOp.Or (a :: b :: rest) pos) (Ai0 ta tb) := by with_unfolding_all exact @L2.Adl
theorem Tc : ∀ {X : Cx} {a : Expr} {pos : Pos} {op : BoolOp} {t : TE}, S.PE X a t -> S.PE X (Expr.BoolOp op [a] pos) t := by with_unfolding_all exact @L2.Tc
theorem N6 : ∀ {X : Cx} {a b : Expr} {ta tb : TE} {pos : Pos} {tA : TT} {c : Expr}, S.PT X c tA -> S.PE X a ta -> S.PE X b tb -> S.PE X (Expr.IfExp c a b pos) (tIf tA ta tb) := by with_unfolding_all exact @L2.N6
theorem Az : ∀ {X : Cx} {es : List Expr} {t : TA} {pos : Pos} {x1 : Nat}, S.PA X es t -> S.PE X (Expr.Tuple es x1 pos) (Ajr t) := by with_unfolding_all exact @L2.Az
theorem G7 : ∀ {X : Cx} {es : List Expr} {t : TA} {pos : Pos}, S.PA X es t -> S.PE X (Expr.List es pos) (Aiz t) := by with_unfolding_all exact @L2.G7
theorem Aas : ∀ {X : Cx} {e st : Expr} {te tst : TE} {pos p2 : Pos}, S.PE X e te -> S.PE X st tst -> S.PE X (Expr.Subscript e (Expr.Slice Option.none Option.none (Option.some st) p2) pos) (Ajb (Cx.K X) te tst) := by with_unfolding_all exact @L2.Aas
theorem Dh : ∀ {X : Cx} {e : Expr} {te : TE} {lo hi : Option Expr} {tl th : TO} {pos p2 : Pos} {r : V -> Option Int -> Option Int -> Hp -> VK -> Prop}, SlR X r -> S.PE X e te -> S.PO X lo tl -> S.PO X hi th -> S.PE X (Expr.Subscript e (Expr.Slice lo hi Option.none p2) pos) (tSl r te tl th) := by with_unfolding_all exact @L2.Dh
theorem Ej : ∀ {X : Cx}, S.PO X Option.none Xj := by with_unfolding_all exact @L2.Ej
theorem Em : ∀ {X : Cx} {e : Expr} {te : TE}, S.PE X e te -> S.PO X (Option.some e) (Afq te) := by with_unfolding_all exact @L2.Em
theorem Bt : ∀ {X : Cx} {a b : Expr} {ta tb : TE} {pos : Pos} {r : R2}, IxR X r -> S.PE X a ta -> S.PE X b tb -> Abv b -> S.PE X (Expr.Subscript a b pos) (tOp r ta tb) := by with_unfolding_all exact @L2.Bt
theorem Jg : ∀ {X : Cx} {elt tg iter : Expr} {ifs : List Expr} {scope : Scope} {pos : Pos} {wi : TI} {g : TG} {tt : TT} {te : TE} {ts : List Str} {fs : List (Nat × Str)}, Cx.calm X = Bool.true -> Cu X ts fs scope -> S.PI X tg iter wi -> (∀ (ex : List Addr) (s : Shared) (H : Hp), S.PG (cxC X (cpN ts fs) scope ex s H) tg g) -> (∀ (ex : List Addr) (s : Shared) (H : Hp), S.PTs (cxC X (cpN ts fs) scope ex s H) ifs tt) -> (∀ (ex : List Addr) (s : Shared) (H : Hp), S.PE (cxC X (cpN ts fs) scope ex s H) elt te) -> autoParam (∀ (x : Value), foldedSetIterable iter (Cx.env X) x = Pure.pure x) L2.Jg._auto_1 -> S.PE X (Expr.ListComp elt [{ target := tg, iter := iter, ifs := ifs, is_async := (0 : Int) }] scope pos) (Ys (List.length ts) fs wi g tt te) := by with_unfolding_all exact @L2.Jg
theorem Hw : ∀ {P : Program} {w : World} {K : W.Frag} {mg : Str -> Option Value} {base : Heap} {N : List Str} {qual : Str} {scope : Scope} {f : Addr} {cd : Value} {A : Around} {outer : List Env} {s0 : Shared} {H0 : Hp} {E : XK} {k : Nat} {x : Str} {ps : List Str} {sp : Sp} {p pos : Pos} {e : Expr} {es : List Expr} {t : TA}, Zq P w K mg base k x ps sp -> M9 k (Around.deeper A (PyProof.Rows.envOfC qual scope (Array.size (Heap.objs (Shared.heap s0))) f cd)) -> S.PA (Rk (CXE P w) P w K mg base N qual scope f cd A outer s0 H0 E) (e :: es) t -> autoParam (Gl (Rk (CXE P w) P w K mg base N qual scope f cd A outer s0 H0 E) x) L2.Hw._auto_1 -> autoParam ((x == ("__debug__" : Str)) = Bool.false) L2.Hw._auto_2 -> autoParam (starEach (e :: es) (PyProof.Rows.envOfC qual scope (Array.size (Heap.objs (Shared.heap s0))) f cd) = (Bool.false, eval e (PyProof.Rows.envOfC qual scope (Array.size (Heap.objs (Shared.heap s0))) f cd)) :: starEach es (PyProof.Rows.envOfC qual scope (Array.size (Heap.objs (Shared.heap s0))) f cd)) L2.Hw._auto_3 -> autoParam ((List.any (backTo pos (starEach es (PyProof.Rows.envOfC qual scope (Array.size (Heap.objs (Shared.heap s0))) f cd))) fun (x : Bool × Sem Value) ↦ Prod.fst x) = Bool.false) L2.Hw._auto_4 -> S.PE (Rk (CXE P w) P w K mg base N qual scope f cd A outer s0 H0 E) (Expr.Call (Expr.Name x p) (e :: es) [] pos) (W4 sp [] E t) := by with_unfolding_all exact @L2.Hw
theorem Dj : ∀ {X : Cx} {e : Expr} {es : List Expr} {t : TA} {x : Str} {p pos : Pos} {id : String} {r : List V -> Hp -> VK -> Prop}, Kg X (Value.builtin id) r -> Gl X x -> Cx.mg X x = Option.none -> bootBuiltins x = Option.some (Value.builtin id) -> S.PA X (e :: es) t -> autoParam (Ef e = Bool.true) L2.Dj._auto_1 -> autoParam (List.all es Ef = Bool.true) L2.Dj._auto_2 -> autoParam (x ≠ ("__name__" : Str)) L2.Dj._auto_3 -> autoParam ((x == ("__debug__" : Str)) = Bool.false) L2.Dj._auto_4 -> S.PE X (Expr.Call (Expr.Name x p) (e :: es) [] pos) (tCB r t) := by with_unfolding_all exact @L2.Dj
theorem Gy : ∀ {X : Cx} {e : Expr} {es : List Expr} {t : TA} {x : Str} {p pos : Pos} {T : String} {r : List V -> Hp -> VK -> Prop}, Kg X (Value.type T) r -> Gl X x -> Cx.mg X x = Option.none -> bootBuiltins x = Option.some (Value.type T) -> S.PA X (e :: es) t -> autoParam (Ef e = Bool.true) L2.Gy._auto_1 -> autoParam (List.all es Ef = Bool.true) L2.Gy._auto_2 -> autoParam (x ≠ ("__name__" : Str)) L2.Gy._auto_3 -> autoParam ((x == ("__debug__" : Str)) = Bool.false) L2.Gy._auto_4 -> S.PE X (Expr.Call (Expr.Name x p) (e :: es) [] pos) (tCB r t) := by with_unfolding_all exact @L2.Gy
theorem Ai : ∀ {X : Cx} {e : Expr} {es : List Expr} {t : TA} {x : Str} {p pos : Pos} {k : Nat} {ps : List Str} {sp : Sp}, Cal (Cx.prog X) (Cx.w X) (Cx.K X) (Cx.mg X) (Cx.base X) k x ps sp -> M9 k (Cx.A X) -> S.PA X (e :: es) t -> autoParam (Ef e = Bool.true) L2.Ai._auto_1 -> autoParam (List.all es Ef = Bool.true) L2.Ai._auto_2 -> autoParam (Gl X x) L2.Ai._auto_3 -> autoParam ((x == ("__debug__" : Str)) = Bool.false) L2.Ai._auto_4 -> S.PE X (Expr.Call (Expr.Name x p) (e :: es) [] pos) (W4 sp [] E0 t) := by with_unfolding_all exact @L2.Ai
theorem Yy : ∀ {X : Cx} {i k : Nat} {a : Addr} {x y : Str} {ps : List Str} {sp : Sp} {p pos : Pos} {e : Expr} {es : List Expr} {t : TA}, Cal (Cx.prog X) (Cx.w X) (Cx.K X) (Cx.mg X) (Cx.base X) k y ps sp -> Cx.mg X y = Option.some (Value.ref a) -> M9 k (Cx.A X) -> S.PE X (Expr.Name x p) (Aeo i) -> S.PA X (e :: es) t -> autoParam (Ef e = Bool.true) L2.Yy._auto_1 -> autoParam (List.all es Ef = Bool.true) L2.Yy._auto_2 -> S.PE X (Expr.Call (Expr.Name x p) (e :: es) [] pos) (tCV i a sp E0 t) := by with_unfolding_all exact @L2.Yy
theorem Ob : ∀ {X : Cx} {x : Str} {v : V} {pos : Pos}, Gl X x -> (∃ (u : Value), Cx.mg X x = Option.some u /\ RelV v u) -> autoParam ((x == ("__debug__" : Str)) = Bool.false) L2.Ob._auto_1 -> S.PE X (Expr.Name x pos) (tC v) := by with_unfolding_all exact @L2.Ob
theorem Pn : ∀ {X : Cx} {o e : Expr} {es : List Expr} {to : TE} {t : TA} {name : Str} {apos cpos : Pos} {T id : String} {r : V -> List V -> Hp -> VK -> Prop}, PlainAttrs T -> Slot T name id -> typeOf (Value.builtin id) = Pure.pure (Value.type "method_descriptor") -> MtR X id r -> S.PE X o to -> S.PA X (e :: es) t -> autoParam (attributeBase o name (Cx.env X) (eval o (Cx.env X)) = eval o (Cx.env X)) L2.Pn._auto_1 -> autoParam ((((List.all (backTo cpos (starEach (e :: es) (Cx.env X))) fun (x : Bool × Sem Value) ↦ !Prod.fst x) && List.all (backToKw cpos (keywordEach [] (Cx.env X))) fun (x : Option Str × Sem Value) ↦ Option.isSome (Prod.fst x)) && Decidable.decide ((List.length (e :: es) + List.length ([] : List Keyword) + if List.isEmpty ([] : List Keyword) = Bool.true then (0 : Nat) else (1 : Nat)) < (30 : Nat))) = Bool.true) L2.Pn._auto_2 -> autoParam ((Pos.endLine apos == Pos.line cpos) = Bool.true) L2.Pn._auto_3 -> autoParam (starEach (e :: es) (Cx.env X) = (Bool.false, eval e (Cx.env X)) :: starEach es (Cx.env X)) L2.Pn._auto_4 -> autoParam ((List.any (backTo cpos (starEach es (Cx.env X))) fun (x : Bool × Sem Value) ↦ Prod.fst x) = Bool.false) L2.Pn._auto_5 -> S.PE X (Expr.Call (Expr.Attribute o name apos) (e :: es) [] cpos) (tBM (Cx.K X) T r to t) := by with_unfolding_all exact @L2.Pn
theorem Uu : ∀ {X : Cx} {a : Expr} {ta : TA} {el : List Expr} {x1 : Nat} {tp p pos : Pos}, Gl X (("enumerate" : Str)) -> Cx.mg X (("enumerate" : Str)) = Option.none -> S.PA X [a] ta -> autoParam (starEach [a] (Cx.env X) = [(Bool.false, eval a (Cx.env X))]) L2.Uu._auto_1 -> S.PI X (Expr.Tuple el x1 tp) (Expr.Call (Expr.Name (("enumerate" : Str)) p) [a] [] pos) (iEn (Cx.K X) ta) := by with_unfolding_all exact @L2.Uu
theorem Rv : ∀ {X : Cx} {a b : Expr} {ta : TA} {el : List Expr} {x1 : Nat} {tp p pos : Pos} (t1 t2 : Bool), Gl X (("zip" : Str)) -> Cx.mg X (("zip" : Str)) = Option.none -> S.PA X [a, b] ta -> autoParam (starEach [a, b] (Cx.env X) = [(Bool.false, eval a (Cx.env X)), (Bool.false, eval b (Cx.env X))]) L2.Rv._auto_1 -> autoParam (starEach [b] (Cx.env X) = [(Bool.false, eval b (Cx.env X))]) L2.Rv._auto_2 -> S.PI X (Expr.Tuple el x1 tp) (Expr.Call (Expr.Name (("zip" : Str)) p) [a, b] [] pos) (Af3 t1 t2 (Cx.K X) ta) := by with_unfolding_all exact @L2.Rv
theorem Ng : ∀ {X : Cx} {tg a b c : Expr} {ta : TA} {p pos : Pos}, Gl X (("range" : Str)) -> Cx.mg X (("range" : Str)) = Option.none -> S.PA X [a, b, c] ta -> autoParam (Ef a = Bool.true) L2.Ng._auto_1 -> autoParam (List.all [b, c] Ef = Bool.true) L2.Ng._auto_2 -> S.PI X tg (Expr.Call (Expr.Name (("range" : Str)) p) [a, b, c] [] pos) (Aft ta) := by with_unfolding_all exact @L2.Ng
theorem Nk : ∀ {X : Cx} {tg a : Expr} {ta : TA} {p pos : Pos}, Gl X (("range" : Str)) -> Cx.mg X (("range" : Str)) = Option.none -> S.PA X [a] ta -> autoParam (starEach [a] (Cx.env X) = [(Bool.false, eval a (Cx.env X))]) L2.Nk._auto_1 -> S.PI X tg (Expr.Call (Expr.Name (("range" : Str)) p) [a] [] pos) (Afy ta) := by with_unfolding_all exact @L2.Nk
theorem Mi : ∀ {X : Cx} {tg a b : Expr} {ta : TA} {p pos : Pos}, Gl X (("range" : Str)) -> Cx.mg X (("range" : Str)) = Option.none -> S.PA X [a, b] ta -> autoParam (starEach [a, b] (Cx.env X) = [(Bool.false, eval a (Cx.env X)), (Bool.false, eval b (Cx.env X))]) L2.Mi._auto_1 -> autoParam (starEach [b] (Cx.env X) = [(Bool.false, eval b (Cx.env X))]) L2.Mi._auto_2 -> S.PI X tg (Expr.Call (Expr.Name (("range" : Str)) p) [a, b] [] pos) (Agk ta) := by with_unfolding_all exact @L2.Mi
theorem M7 : ∀ {X : Cx} {tg l : Expr} {tl : TE}, S.PE X l tl -> S.PI X tg l (Ag5 (Cx.K X) tl) := by with_unfolding_all exact @L2.M7
theorem Ln : ∀ {X : Cx} {tg l : Expr} {tl : TE}, S.PE X l tl -> S.PI X tg l (Ajm (Cx.K X) tl) := by with_unfolding_all exact @L2.Ln
theorem J4 : ∀ {X : Cx}, S.PTs X [] Adq := by with_unfolding_all exact @L2.J4
theorem Ul : ∀ {X : Cx} {c : Expr} {t : TT}, S.PT X c t -> S.PTs X [c] t := by with_unfolding_all exact @L2.Ul
theorem Ah : ∀ {X : Cx} {a b : Expr} {ta tb : TE} {pos : Pos} {op : CmpOp} {r : R2}, OpR X (compareOp op) r -> S.PE X a ta -> S.PE X b tb -> behindInMarks op b = Bool.false -> S.PT X (Expr.Compare a [op] [b] pos) (Afg (tOp r ta tb)) := by with_unfolding_all exact @L2.Ah
theorem Jk : ∀ {X : Cx} {a : Expr} {pos : Pos} {tA : TT}, S.PT X a tA -> S.PT X (Expr.UnaryOp UnaryOp.Not a pos) (Ajk tA) := by with_unfolding_all exact @L2.Jk
theorem Wc : ∀ {X : Cx} {a b : Expr} {pos : Pos} {tA tB' : TT} {rest : List Expr}, S.PT X a tA -> S.PW X (Expr.BoolOp BoolOp.And (b :: rest) pos) tB' -> S.PW X (Expr.BoolOp BoolOp.And (a :: b :: rest) pos) (Ajw tA tB') := by with_unfolding_all exact @L2.Wc
theorem Jf : ∀ {X : Cx} {a b : Expr} {pos : Pos} {tA tB' : TT} {rest : List Expr}, S.PT X a tA -> S.PW X (Expr.BoolOp BoolOp.Or (b :: rest) pos) tB' -> S.PW X (Expr.BoolOp BoolOp.Or (a :: b :: rest) pos) (tOr tA tB') := by with_unfolding_all exact @L2.Jf
theorem Qt : ∀ {X : Cx} {a : Expr} {pos : Pos} {tA : TT}, S.PT X a tA -> S.PW X (Expr.BoolOp BoolOp.And [a] pos) tA := by with_unfolding_all exact @L2.Qt
theorem Ig : ∀ {X : Cx} {a : Expr} {pos : Pos} {tA : TT}, S.PT X a tA -> S.PW X (Expr.BoolOp BoolOp.Or [a] pos) tA := by with_unfolding_all exact @L2.Ig
theorem Li : ∀ {X : Cx} {e : Expr} {t : TT}, S.PW X e t -> S.PT X e t := by with_unfolding_all exact @L2.PW.pt
theorem G9 : ∀ {X : Cx} {e : Expr} {t : TE}, S.PE X e t -> autoParam (∀ (whole : Sem Value), isTrue e (Cx.env X) whole = do let v <- whole; standAt (Expr.pos e); holding [v] (truthy v)) L2.G9._auto_1 -> S.PT X e (tB t) := by with_unfolding_all exact @L2.G9
theorem Ab : ∀ {X : Cx}, S.PA X [] Ajs := by with_unfolding_all exact @L2.Ab
theorem Aa : ∀ {X : Cx} {e : Expr} {es : List Expr} {te : TE} {t : TA}, S.PE X e te -> S.PA X es t -> autoParam (Ef e = Bool.true) L2.Aa._auto_1 -> S.PA X (e :: es) (Ac1 te t) := by with_unfolding_all exact @L2.Aa
theorem Av : ∀ {X : Cx}, S.PSs X [] Ag4 := by with_unfolding_all exact @L2.Av
theorem Af : ∀ {X : Cx} {st : Stmt} {t : TS}, S.PS X st t -> S.PSs X [st] t := by with_unfolding_all exact @L2.Af
theorem Ac : ∀ {X : Cx} {st : Stmt} {rest : List Stmt} {t u : TS}, S.PS X st t -> S.PSs X rest u -> S.PSs X (st :: rest) (Aiw t u) := by with_unfolding_all exact @L2.Ac
theorem Am : ∀ {X : Cx} {pos : Pos} {i : Nat} {x : Str}, List.Nodup (Cx.N X) -> (Cx.N X)[i]? = Option.some x -> Loc (Env.scope (Cx.env X)) x -> ∀ (hf : autoParam (Cx.fn X x = Bool.true \/ List.lookup x (Scope.names (Env.scope (Cx.env X))) = Option.some NameKind.local) L2.Am._auto_1), S.PG X (Expr.Name x pos) (Nb i) := by with_unfolding_all exact @L2.Am
theorem Ed : ∀ {X : Cx}, S.PGs X [] Ac5 := by with_unfolding_all exact @L2.Ed
theorem Ar : ∀ {X : Cx} {e : Expr} {es : List Expr} {t : TG} {u : TGs}, S.PG X e t -> S.PGs X es u -> autoParam (List.map (fun (x : Bool × (Value -> Sem Unit)) ↦ Prod.snd x) (assignEach (e :: es) (Cx.env X)) = assign e (Cx.env X) :: List.map (fun (x : Bool × (Value -> Sem Unit)) ↦ Prod.snd x) (assignEach es (Cx.env X))) L2.Ar._auto_1 -> S.PGs X (e :: es) (Mr t u) := by with_unfolding_all exact @L2.Ar
theorem Gz : ∀ {X : Cx} {pos : Pos} {es : List Expr} {k : Nat} {t : TGs} {n : Nat}, Cx.calm X = Bool.true -> S.PGs X es t -> autoParam (List.length (assignEach es (Cx.env X)) = n) L2.Gz._auto_1 -> autoParam (List.findIdx? (fun (x : Bool × (Value -> Sem Unit)) ↦ Prod.fst x) (assignEach es (Cx.env X)) = Option.none) L2.Gz._auto_2 -> S.PG X (Expr.Tuple es k pos) (Ahb (Cx.K X) n t) := by with_unfolding_all exact @L2.Gz
theorem Ji : ∀ {X : Cx} {pos : Pos} {o i : Expr} {to ti : TE} {t : Aif}, S.PE X o to -> S.PE X i ti -> Ajn X t -> autoParam (∀ (v : Value), assign (Expr.Subscript o i pos) (Cx.env X) v = do let ov <- holding [v] (eval o (Cx.env X)); let iv <- holding [v, ov] (eval i (Cx.env X)); standAt pos; holding [v, ov, iv] (setItem ov iv v); release [v, ov, iv] []) L2.Ji._auto_1 -> S.PG X (Expr.Subscript o i pos) (Agm to ti t) := by with_unfolding_all exact @L2.Ji
theorem Qc : ∀ {X : Cx} {st : Stmt}, S.PS X st Afa := by with_unfolding_all exact @L2.Qc
theorem Oh : ∀ {X : Cx} {elt tg iter : Expr} {ifs : List Expr} {scope : Scope} {pos : Pos} {wi : TI} {g : TG} {tt : TT} {te : TE} {ts : List Str} {fs : List (Nat × Str)} {g' : TG} {y : Str} {py spos : Pos}, Cx.calm X = Bool.true -> Cu X ts fs scope -> S.PI X tg iter wi -> (∀ (ex : List Addr) (s : Shared) (H : Hp), S.PG (cxC X (cpN ts fs) scope ex s H) tg g) -> (∀ (ex : List Addr) (s : Shared) (H : Hp), S.PTs (cxC X (cpN ts fs) scope ex s H) ifs tt) -> (∀ (ex : List Addr) (s : Shared) (H : Hp), S.PE (cxC X (cpN ts fs) scope ex s H) elt te) -> S.PG X (Expr.Name y py) g' -> autoParam (swapsWith (Expr.ListComp elt [{ target := tg, iter := iter, ifs := ifs, is_async := (0 : Int) }] scope pos) (Option.some (Expr.Name y py)) (Pos.line spos) (Cx.env X) = Pure.pure Bool.true) L2.Oh._auto_1 -> autoParam (∀ (x : Value), foldedSetIterable iter (Cx.env X) x = Pure.pure x) L2.Oh._auto_2 -> S.PS X (Stmt.Assign [Expr.Name y py] (Expr.ListComp elt [{ target := tg, iter := iter, ifs := ifs, is_async := (0 : Int) }] scope pos) spos) (Agy (Ys (List.length ts) fs wi g tt te) g') := by with_unfolding_all exact @L2.Oh
theorem Aj : ∀ {X : Cx} {pos : Pos} {i : Nat} {x : Str} {e : Expr} {te : TE} {pos' : Pos}, List.Nodup (Cx.N X) -> (Cx.N X)[i]? = Option.some x -> Loc (Env.scope (Cx.env X)) x -> S.PE X e te -> autoParam (swapsWith e (Option.some (Expr.Name x pos')) (Pos.line pos) (Cx.env X) = Pure.pure Bool.false) L2.Aj._auto_1 -> autoParam (Cx.fn X x = Bool.true \/ List.lookup x (Scope.names (Env.scope (Cx.env X))) = Option.some NameKind.local) L2.Aj._auto_2 -> S.PS X (Stmt.Assign [Expr.Name x pos'] e pos) (Agy te (Nb i)) := by with_unfolding_all exact @L2.Aj
theorem Mt : ∀ {X : Cx} {pos : Pos} {i j : Nat} {x y : Str} {a b : Expr} {ta : TA} {px py pt : Pos} {kt k2 : Nat} {pt2 : Pos}, Cx.calm X = Bool.true -> List.Nodup (Cx.N X) -> (Cx.N X)[i]? = Option.some x -> (Cx.N X)[j]? = Option.some y -> i ≠ j -> List.lookup x (Scope.names (Env.scope (Cx.env X))) = Option.some NameKind.local -> List.lookup y (Scope.names (Env.scope (Cx.env X))) = Option.some NameKind.local -> S.PA X [a, b] ta -> swappedStores [Expr.Tuple [Expr.Name x px, Expr.Name y py] kt pt] (Expr.Tuple [a, b] k2 pt2) (Cx.env X) = Pure.pure (Option.some [x, y]) -> autoParam (swapsWithSole [Expr.Tuple [Expr.Name x px, Expr.Name y py] kt pt] (Expr.Tuple [a, b] k2 pt2) (Pos.line pos) (Cx.env X) = Pure.pure Bool.false) L2.Mt._auto_1 -> S.PS X (Stmt.Assign [Expr.Tuple [Expr.Name x px, Expr.Name y py] kt pt] (Expr.Tuple [a, b] k2 pt2) pos) (Ajj i j ta) := by with_unfolding_all exact @L2.Mt
theorem El : ∀ {X : Cx} {pos : Pos} {tg e : Expr} {te : TE} {g : TG}, S.PE X e te -> S.PG X tg g -> autoParam (swapsWithSole [tg] e (Pos.line pos) (Cx.env X) = Pure.pure Bool.false) L2.El._auto_1 -> autoParam (swappedStores [tg] e (Cx.env X) = Pure.pure Option.none) L2.El._auto_2 -> autoParam (List.map (fun (x : Bool × (Value -> Sem Unit)) ↦ Prod.snd x) (assignEach [tg] (Cx.env X)) = [assign tg (Cx.env X)]) L2.El._auto_3 -> S.PS X (Stmt.Assign [tg] e pos) (Agy te g) := by with_unfolding_all exact @L2.El
theorem Aq : ∀ {X : Cx} {e : Expr} {te : TE} {pos : Pos}, S.PE X e te -> S.PS X (Stmt.Return (Option.some e) pos) (Aj2 te) := by with_unfolding_all exact @L2.Aq
theorem Bv : ∀ {X : Cx} {t u : TS} {pos : Pos} {c : Expr} {a b : List Stmt} {tc : TT}, S.PT X c tc -> S.PSs X a t -> S.PSs X b u -> S.PS X (Stmt.If c a b pos) (Ajt tc t u) := by with_unfolding_all exact @L2.Bv
theorem Hz : ∀ {P : Program} {w : World} {K : W.Frag} {mg : Str -> Option Value} {base : Heap} {N : List Str} {qual : Str} {scope : Scope} {f : Addr} {cd : Value} {A : Around} {outer : List Env} {s0 : Shared} {H0 : Hp} {E : XK} {C : Addr} {x : Str} {np cpos pos : Pos} {e : Expr} {es : List Expr} {t : TA}, Acx K C -> mg x = Option.some (Value.ref C) -> S.PA (Rk (CXE P w) P w K mg base N qual scope f cd A outer s0 H0 E) (e :: es) t -> autoParam (Gl (Rk (CXE P w) P w K mg base N qual scope f cd A outer s0 H0 E) x) L2.Hz._auto_1 -> autoParam ((x == ("__debug__" : Str)) = Bool.false) L2.Hz._auto_2 -> autoParam (starEach (e :: es) (PyProof.Rows.envOfC qual scope (Array.size (Heap.objs (Shared.heap s0))) f cd) = (Bool.false, eval e (PyProof.Rows.envOfC qual scope (Array.size (Heap.objs (Shared.heap s0))) f cd)) :: starEach es (PyProof.Rows.envOfC qual scope (Array.size (Heap.objs (Shared.heap s0))) f cd)) L2.Hz._auto_3 -> autoParam ((List.any (backTo cpos (starEach es (PyProof.Rows.envOfC qual scope (Array.size (Heap.objs (Shared.heap s0))) f cd))) fun (x : Bool × Sem Value) ↦ Prod.fst x) = Bool.false) L2.Hz._auto_4 -> S.PS (Rk (CXE P w) P w K mg base N qual scope f cd A outer s0 H0 E) (Stmt.Raise (Option.some (Expr.Call (Expr.Name x np) (e :: es) [] cpos)) Option.none pos) (Abg C E t) := by with_unfolding_all exact @L2.Hz
theorem Acq : ∀ {X : Cx} {st : Stmt} {t : TS}, S.PS (Cx.nox X) st t -> S.PS X st t := by with_unfolding_all exact @L2.PS.nox
theorem Hu : ∀ {X : Cx} {pos : Pos} {c : Expr} {body : List Stmt} {tc : TT} {tb : TS}, PassesOwn (model (Cx.prog X) (Cx.w X)) (Cx.A X) (Cx.env X) (Cx.xe X) -> S.PT X c tc -> S.PSs X body tb -> S.PS X (Stmt.While c body [] pos) (V0 tc tb) := by with_unfolding_all exact @L2.Hu
theorem Hf : ∀ {X : Cx} {tg iter : Expr} {body : List Stmt} {wi : TI} {g : TG} {tb : TS} {pos : Pos}, PassesOwn (model (Cx.prog X) (Cx.w X)) (Cx.A X) (Cx.env X) (Cx.xe X) -> Cx.calm X = Bool.true -> S.PI X tg iter wi -> S.PG X tg g -> S.PSs X body tb -> autoParam (∀ (x : Value), foldedSetIterable iter (Cx.env X) x = Pure.pure x) L2.Hf._auto_1 -> S.PS X (Stmt.For tg iter body [] pos) (Ajd wi g tb) := by with_unfolding_all exact @L2.Hf
theorem Lz : ∀ {X : Cx} {e : Expr} {te : TE} {pos : Pos}, S.PE X e te -> autoParam (swapsWith e Option.none (Pos.line pos) (Cx.env X) = Pure.pure Bool.false) L2.Lz._auto_1 -> S.PS X (Stmt.Expr e pos) (Afw te) := by with_unfolding_all exact @L2.Lz
theorem Bm {X : Cx} {b : List Stmt} {φ : TS -> Prop} (h : ∃ t, PSs X b t /\ φ t) : ∃ t, L2.PSs X b t /\ φ t := by
  obtain ⟨t, h1, h2⟩ := h
  exact ⟨t, out h1, h2⟩
end L2.S
namespace Z
def co (p : List Int) (i : Nat) : Int := p.getD i 0
theorem Ba (i : Nat) : co [] i = 0 := by simp [co]
theorem Ca (a : Int) (r : List Int) : co (a :: r) 0 = a := by simp [co]
theorem Cm (a : Int) (r : List Int) (i : Nat) : co (a :: r) (i + 1) = co r i := by simp [co]
theorem Bp {p : List Int} {i : Nat} (h : p.length <= i) : co p i = 0 := by simp [co, List.getD_eq_getElem?_getD, List.getElem?_eq_none h]
theorem Dc {p : List Int} {i : Nat} (h : i < p.length) : co p i = p[i] := by simp [co, List.getD_eq_getElem?_getD, List.getElem?_eq_getElem h]
def Tr (p : List Int) : Prop := p = [] \/ ∃ h : p ≠ [], p.getLast h ≠ 0
theorem Tr.lead {p : List Int} (h : Tr p) (n : p ≠ []) : co p (p.length - 1) ≠ 0 := by
  rcases h with h | ⟨h, z⟩
  . exact absurd h n
  . have hl : 0 < p.length := List.length_pos_iff.mpr h
    rw [Dc (by omega)]
    rw [List.getLast_eq_getElem] at z
    exact z
theorem Tr.of {p : List Int} (h : p = [] \/ co p (p.length - 1) ≠ 0) : Tr p := by
  by_cases n : p = []
  . exact .inl n
  . rcases h with h | h
    . exact .inl h
    . refine .inr ⟨n, ?_⟩
      have hl : 0 < p.length := List.length_pos_iff.mpr n
      rw [Dc (by omega)] at h
      rw [List.getLast_eq_getElem]
      exact h
theorem Tr.len {p q : List Int} (hp : Tr p) (e : ∀ i, co p i = co q i) : p.length <= q.length := by
  by_cases n : p = []
  . subst n; simp
  . by_cases h : p.length <= q.length
    . exact h
    . exfalso
      have z := hp.lead n
      rw [e, Bp (by omega)] at z
      exact z rfl
theorem Tr.ext {p q : List Int} (hp : Tr p) (hq : Tr q) (e : ∀ i, co p i = co q i) : p = q := by
  have l := Nat.le_antisymm (hp.len e) (hq.len fun i => (e i).symm)
  refine List.ext_getElem l fun i h1 h2 => ?_
  rw [<- Dc h1, <- Dc h2, e]
def trim : List Int -> List Int
  | [] => []
  | a :: r => match trim r with
    | [] => if a = 0 then [] else [a]
    | b :: t => a :: b :: t
theorem Vz (a : Int) (r : List Int) : trim (a :: r) = if trim r = [] /\ a = 0 then [] else a :: trim r := by
  rw [trim]
  split
  . rename_i h
    rw [h]
    by_cases ha : a = 0 <;> simp [ha]
  . rename_i b t h
    rw [h]
    simp
theorem Aw : ∀ (p : List Int) (i : Nat), co (trim p) i = co p i
  | [], i => rfl
  | a :: r, i => by
    rw [Vz]
    split
    . rename_i h
      rw [Ba]
      cases i with
      | zero => rw [Ca, h.2]
      | succ i => rw [Cm, <- Aw r i, h.1, Ba]
    . cases i with
      | zero => rw [Ca, Ca]
      | succ i => rw [Cm, Cm, Aw r i]
theorem Bb : ∀ p : List Int, Tr (trim p)
  | [] => .inl rfl
  | a :: r => by
    rw [Vz]
    split
    . exact .inl rfl
    . rename_i h
      refine .inr ⟨by simp, ?_⟩
      by_cases hr : trim r = []
      . simp only [hr, List.getLast_singleton]
        exact fun z => h ⟨hr, z⟩
      . rw [List.getLast_cons hr]
        rcases Bb r with z | ⟨_, z⟩
        . exact absurd z hr
        . exact z
theorem W5 {p q : List Int} (hq : Tr q) (e : ∀ i, co q i = co p i) : trim p = q := (Bb p).ext hq fun i => by rw [Aw, e]
theorem Qy {p : List Int} (h : Tr p) : trim p = p := W5 h fun _ => rfl
theorem Kc (p : List Int) (n i : Nat) : co (p.take n) i = if i < n then co p i else 0 := by
  unfold co
  rw [List.getD_eq_getElem?_getD, List.getD_eq_getElem?_getD, List.getElem?_take]
  split <;> rfl
theorem Zw {p : List Int} {n : Nat} (h1 : ∀ i, n <= i -> co p i = 0) (h2 : n = 0 \/ co p (n - 1) ≠ 0) : trim p = p.take n := by
  refine W5 ?_ fun i => ?_
  . rcases h2 with h | h
    . subst h; exact .inl (by simp)
    . have hn : n <= p.length := by
        by_cases z : n <= p.length
        . exact z
        . exact absurd (Bp (by omega)) h
      refine .of ?_
      by_cases n0 : n = 0
      . left; subst n0; simp
      . right
        rw [List.length_take, Nat.min_eq_left hn, Kc, if_pos (by omega)]
        exact h
  . rw [Kc]
    split
    . rfl
    . rw [h1 i (by omega)]
def sh (f : Nat -> Int) : Nat -> Int
  | 0 => 0
  | i + 1 => f i
def mu : List Int -> (Nat -> Int) -> Nat -> Int
  | [], _ => fun _ => 0
  | a :: p, f => fun i => a * f i + sh (mu p f) i
theorem Afb (f g : Nat -> Int) : sh (fun i => f i + g i) = fun i => sh f i + sh g i := by funext i; cases i <;> simp [sh]
theorem Ae4 (c : Int) (f : Nat -> Int) : sh (fun i => c * f i) = fun i => c * sh f i := by funext i; cases i <;> simp [sh]
theorem Ql : sh (fun _ => 0) = fun _ => 0 := by funext i; cases i <;> rfl
theorem Ny : ∀ (p : List Int) (f g : Nat -> Int), mu p (fun i => f i + g i) = fun i => mu p f i + mu p g i
  | [], f, g => by funext i; simp [mu]
  | a :: p, f, g => by
    funext i
    simp only [mu]
    rw [Ny p f g, Afb]
    grind
theorem Kz : ∀ (p : List Int) (c : Int) (f : Nat -> Int), mu p (fun i => c * f i) = fun i => c * mu p f i
  | [], c, f => by funext i; simp [mu]
  | a :: p, c, f => by
    funext i
    simp only [mu]
    rw [Kz p c f, Ae4]
    grind
theorem Q9 : ∀ (p : List Int), mu p (fun _ => 0) = fun _ => 0
  | [] => rfl
  | a :: p => by
    funext i
    simp only [mu]
    rw [Q9 p, Ql]
    simp
theorem Ah9 : ∀ (p : List Int) (f : Nat -> Int), mu p (sh f) = sh (mu p f)
  | [], f => by funext i; cases i <;> rfl
  | a :: p, f => by
    funext i
    simp only [mu]
    rw [Ah9 p f]
    cases i with
    | zero => simp [sh]
    | succ i => simp [sh]
theorem Afc (a : Int) (r : List Int) : co (a :: r) = fun i => (if i = 0 then a else 0) + sh (co r) i := by
  funext i
  cases i with
  | zero => simp [Ca, sh]
  | succ i => simp [Cm, sh]
theorem Yb : ∀ (p : List Int), mu p (fun i => if i = 0 then 1 else 0) = co p
  | [] => by funext i; simp [mu, co]
  | a :: p => by
    funext i
    simp only [mu]
    rw [Yb p, Afc]
    cases i <;> simp
theorem Zu (q : List Int) (a : Int) (p : List Int) : mu q (co (a :: p)) = fun i => a * co q i + sh (mu q (co p)) i := by
  rw [Afc, Ny, Ah9]
  funext i
  congr 1
  have e : (fun i : Nat => if i = 0 then a else 0) = fun i => a * (if i = 0 then 1 else 0) := by funext i; cases i <;> simp
  rw [e, Kz, Yb]
theorem Ik : ∀ p q : List Int, mu p (co q) = mu q (co p)
  | [], q => by
    have e : co [] = fun _ => 0 := by funext i; simp [co]
    rw [e, Q9]; rfl
  | a :: p, q => by rw [Zu, <- Ik p q]; rfl
theorem Rg (f : Nat -> Int) : ∀ (r : List Int), (∀ i, co r i = 0) -> mu r f = fun _ => 0
  | [], _ => rfl
  | a :: r, h0 => by
    have ha : a = 0 := by have := h0 0; rwa [Ca] at this
    funext i
    simp only [mu]
    rw [Rg f r fun i => by have := h0 (i + 1); rwa [Cm] at this, Ql, ha]
    simp
theorem Bq (f : Nat -> Int) : ∀ (r s : List Int), (∀ i, co r i = co s i) -> mu r f = mu s f
  | [], s, h0 => (Rg f s fun i => by rw [<- h0, Ba]).symm
  | a :: r, [], h0 => Rg f (a :: r) fun i => by rw [h0, Ba]
  | a :: r, b :: s, h0 => by
    have e0 : a = b := by have := h0 0; rwa [Ca, Ca] at this
    subst e0
    funext i
    simp only [mu]
    rw [Bq f r s fun i => by have := h0 (i + 1); rwa [Cm, Cm] at this]
def al : List Int -> List Int -> List Int
  | [], q => q
  | p, [] => p
  | a :: p, b :: q => (a + b) :: al p q
theorem Ph : ∀ (p q : List Int) (i : Nat), co (al p q) i = co p i + co q i
  | [], q, i => by simp [al, co]
  | a :: p, [], i => by simp [al, co]
  | a :: p, b :: q, 0 => by simp [al, Ca]
  | a :: p, b :: q, i + 1 => by simp [al, Cm, Ph p q i]
theorem Pq (f : Nat -> Int) : ∀ (p q : List Int), mu (al p q) f = fun i => mu p f i + mu q f i
  | [], q => by funext i; simp [al, mu]
  | a :: p, [] => by funext i; simp [al, mu]
  | a :: p, b :: q => by
    funext i
    simp only [al, mu]
    rw [Pq f p q, Afb]
    grind
theorem Ck (a : Int) (q : List Int) (i : Nat) : co (q.map (a * ·)) i = a * co q i := by
  unfold co
  rw [List.getD_eq_getElem?_getD, List.getD_eq_getElem?_getD, List.getElem?_map]
  cases q[i]? <;> simp
theorem Gu (f : Nat -> Int) (a : Int) : ∀ q : List Int, mu (q.map (a * ·)) f = fun i => a * mu q f i
  | [] => by funext i; simp [mu]
  | b :: q => by
    funext i
    simp only [List.map_cons, mu]
    rw [Gu f a q, Ae4]
    grind
def ml : List Int -> List Int -> List Int
  | [], _ => []
  | a :: p, q => al (q.map (a * ·)) (0 :: ml p q)
theorem Ov : ∀ (p q : List Int), co (ml p q) = mu p (co q)
  | [], q => by funext i; simp [ml, mu, co]
  | a :: p, q => by
    funext i
    simp only [ml, mu]
    rw [Ph, Ck, <- Ov p q]
    cases i with
    | zero => simp [Ca, sh]
    | succ i => simp [Cm, sh]
theorem Lj (f : Nat -> Int) : ∀ (p q : List Int), mu (ml p q) f = mu p (mu q f)
  | [], q => rfl
  | a :: p, q => by
    funext i
    simp only [ml]
    rw [Pq, Gu]
    simp only [mu]
    rw [Lj f p q]
    simp
theorem Adf {p q r : List Int} (f : Nat -> Int) (h : ∀ i, co r i = mu p (co q) i) : mu r f = mu p (mu q f) := by
  rw [<- Lj]
  exact Bq f r _ fun i => by rw [h, Ov]
theorem Ke : ∀ (p : List Int) (e : Int) (i : Nat), co (p ++ [e]) i = if i = p.length then e else co p i
  | [], e, 0 => by simp [co]
  | [], e, i + 1 => by simp [co]
  | a :: p, e, 0 => by simp [Ca]
  | a :: p, e, i + 1 => by
    rw [List.cons_append, Cm, Cm, Ke p e i, List.length_cons]
    by_cases h : i = p.length <;> simp [h]
theorem Qn (p : List Int) (j : Nat) (x : Int) (h : j < p.length) (i : Nat) : co (p.set j x) i = if i = j then x else co p i := by
  unfold co
  rw [List.getD_eq_getElem?_getD, List.getD_eq_getElem?_getD, List.getElem?_set]
  by_cases e : j = i
  . subst e
    simp [h]
  . rw [if_neg e, if_neg (Ne.symm e)]
theorem Tq {p q : List Int} (h : ∀ i, co p i = co q i) : trim p = trim q := W5 (Bb q) fun i => by rw [Aw, h]
theorem M8 (f : Nat -> Int) : ∀ (p : List Int) (e : Int) (i : Nat), mu (p ++ [e]) f i = mu p f i + (if p.length <= i then e * f (i - p.length) else 0)
  | [], e, i => by simp [mu, Ql]
  | a :: p, e, 0 => by simp [mu, sh]
  | a :: p, e, i + 1 => by
    simp only [List.cons_append, mu, sh, List.length_cons]
    rw [M8 f p e i]
    by_cases h : p.length <= i
    . rw [if_pos h, if_pos (by omega), show i + 1 - (p.length + 1) = i - p.length by omega]
      omega
    . rw [if_neg h, if_neg (by omega)]
      omega
theorem Abx : ∀ (p q : List Int) (i : Nat), p ≠ [] -> p.length + q.length <= i + 1 -> mu p (co q) i = 0
  | [], q, i, h, _ => absurd rfl h
  | [a], q, i, _, hl => by
    simp only [List.length_cons, List.length_nil] at hl
    simp only [mu]
    rw [Bp (by omega), Ql]
    simp
  | a :: b :: p, q, 0, _, hl => by
    simp only [List.length_cons] at hl
    omega
  | a :: b :: p, q, i + 1, _, hl => by
    simp only [List.length_cons] at hl
    show a * co q (i + 1) + mu (b :: p) (co q) i = 0
    rw [Bp (p := q) (by omega)]
    rw [Abx (b :: p) q i (by simp) (by simp only [List.length_cons]; omega)]
    simp
theorem K9 : ∀ (p q : List Int) (i : Nat), p ≠ [] -> q ≠ [] -> i + 2 = p.length + q.length -> mu p (co q) i = co p (p.length - 1) * co q (q.length - 1)
  | [], q, i, h, _, _ => absurd rfl h
  | [a], q, i, _, hq, hl => by
    simp only [List.length_cons, List.length_nil] at hl
    simp only [mu]
    rw [Ql]
    have e : i = q.length - 1 := by omega
    subst e
    simp [Ca]
  | a :: b :: p, q, 0, _, hq, hl => by
    have := List.length_pos_iff.mpr hq
    simp only [List.length_cons] at hl
    omega
  | a :: b :: p, q, i + 1, _, hq, hl => by
    simp only [List.length_cons] at hl
    show a * co q (i + 1) + mu (b :: p) (co q) i = _
    rw [Bp (p := q) (by omega)]
    rw [K9 (b :: p) q i (by simp) hq (by simp only [List.length_cons]; omega)]
    simp [Cm]
def tm (p q : List Int) : List Int := trim (ml p q)
def ta (p q : List Int) : List Int := trim (al p q)
theorem Cj (p q : List Int) (i : Nat) : co (tm p q) i = mu p (co q) i := by rw [tm, Aw, Ov]
theorem Oc (p q : List Int) (i : Nat) : co (ta p q) i = co p i + co q i := by rw [ta, Aw, Ph]
theorem Fo (p q : List Int) : Tr (tm p q) := Bb _
theorem Ui (p q : List Int) : Tr (ta p q) := Bb _
theorem Cr (p q : List Int) : tm p q = tm q p := (Fo _ _).ext (Fo _ _) fun i => by rw [Cj, Cj, Ik]
theorem Age (p q : List Int) : ta p q = ta q p := (Ui _ _).ext (Ui _ _) fun i => by rw [Oc, Oc, Int.add_comm]
theorem Cq (p q r : List Int) : tm (tm p q) r = tm p (tm q r) := (Fo _ _).ext (Fo _ _) fun i => by
  rw [Cj, Cj, Adf (co r) (fun j => Cj p q j)]
  exact congrFun (congrArg (mu p) (funext fun j => (Cj q r j).symm)) i
theorem Aj1 (p q r : List Int) : tm p (ta q r) = ta (tm p q) (tm p r) := (Fo _ _).ext (Ui _ _) fun i => by
  rw [Cj, Oc, Cj, Cj, show co (ta q r) = fun j => co q j + co r j from funext fun j => Oc q r j, Ny]
theorem Aeq {p : List Int} (h : Tr p) : tm p [1] = p := (Fo _ _).ext h fun i => by
  rw [Cj, show co [1] = fun i => if i = 0 then 1 else 0 from by funext i; cases i <;> simp [co], Yb]
theorem Tj (p : List Int) : tm p [] = [] := (Fo _ _).ext (.inl rfl) fun i => by
  rw [Cj, show co [] = fun _ => 0 from by funext i; simp [co], Q9]
def pw (p : List Int) : Nat -> List Int
  | 0 => [1]
  | k + 1 => tm p (pw p k)
theorem Z1 (p : List Int) : ∀ k, Tr (pw p k)
  | 0 => .inr ⟨by simp [pw], by simp [pw]⟩
  | k + 1 => Fo _ _
theorem Aet (p : List Int) : ∀ a b, tm (pw p a) (pw p b) = pw p (a + b)
  | 0, b => by rw [pw, Cr, Aeq (Z1 p b), Nat.zero_add]
  | a + 1, b => by rw [pw, Cq, Aet p a b, show a + 1 + b = (a + b) + 1 by omega, pw]
theorem Ah0 {p : List Int} (h : Tr p) : pw p 1 = p := by rw [pw, pw, Aeq h]
def ng (p : List Int) (c : Int) : List Int := trim (p.map (· * c))
theorem Pj (p : List Int) (c : Int) (i : Nat) : co (ng p c) i = co p i * c := by
  rw [ng, Aw]
  unfold co
  rw [List.getD_eq_getElem?_getD, List.getD_eq_getElem?_getD, List.getElem?_map]
  cases p[i]? <;> simp
theorem Nz {p q : List Int} (hp : Tr p) (hq : Tr q) (h1 : p ≠ []) (h2 : q ≠ []) : (tm p q).length + 1 = p.length + q.length := by
  have l1 := List.length_pos_iff.mpr h1
  have l2 := List.length_pos_iff.mpr h2
  have lead : co (tm p q) (p.length + q.length - 2) ≠ 0 := by
    rw [Cj, K9 p q _ h1 h2 (by omega)]
    exact Int.mul_ne_zero (hp.lead h1) (hq.lead h2)
  have a : p.length + q.length - 2 < (tm p q).length := by
    by_cases h : p.length + q.length - 2 < (tm p q).length
    . exact h
    . exact absurd (Bp (by omega)) lead
  have b : (tm p q).length <= p.length + q.length - 1 := by
    by_cases h : (tm p q).length <= p.length + q.length - 1
    . exact h
    . exfalso
      have hn : tm p q ≠ [] := fun z => by rw [z] at h; simp at h
      have := (Fo p q).lead hn
      rw [Cj, Abx p q _ h1 (by omega)] at this
      exact this rfl
  omega
theorem Aex (p q : List Int) : (ta p q).length <= max p.length q.length := by
  by_cases hn : ta p q = []
  . rw [hn]; simp
  by_cases h : (ta p q).length <= max p.length q.length
  . exact h
  . exfalso
    have := (Ui p q).lead hn
    rw [Oc, Bp (by omega), Bp (by omega)] at this
    exact this rfl
end Z
namespace Z
def gl : List Int -> Nat
  | [] => 0
  | a :: r => Int.gcd a (gl r)
theorem Vp : ∀ (L : List Int) (x : Int), x ∈ L -> ((gl L : Nat) : Int) ∣ x
  | a :: r, x, h => by
    rcases List.mem_cons.mp h with rfl | h
    . exact Int.gcd_dvd_left ..
    . exact Int.dvd_trans (Int.gcd_dvd_right ..) (Vp r x h)
theorem Ab1 (e m : Int) : ∀ L : List Int, (∀ x ∈ L, e ∣ m * x) -> e ∣ m * (gl L : Nat)
  | [], _ => by simp [gl]
  | a :: r, h => by
    have h1 := h a (by simp)
    have h2 := Ab1 e m r fun x hx => h x (by simp [hx])
    have h3 := Int.dvd_coe_gcd h1 h2
    rw [Int.gcd_mul_left, Int.natCast_mul] at h3
    rw [gl]
    rcases Int.natAbs_eq m with z | z
    . rw [z]; exact h3
    . rw [z, Int.neg_mul]; exact Int.dvd_neg.mpr h3
def Cop (s : Int) (a b : List Int) : Prop := ∀ e : Int, e ∣ s -> (∀ k, e ∣ co a k) -> (∀ k, e ∣ co b k) -> e ∣ 1
theorem Cop.gl {s : Int} {a b : List Int} (h : Cop s a b) : Z.gl (s :: (a ++ b)) = 1 := by
  have mem := Vp (s :: (a ++ b))
  have cd : ∀ (L : List Int), (∀ x ∈ L, x ∈ s :: (a ++ b)) -> ∀ k, ((Z.gl (s :: (a ++ b)) : Nat) : Int) ∣ co L k := fun L hL k => by
    by_cases hk : k < L.length
    . rw [Dc hk]; exact mem _ (hL _ (List.getElem_mem hk))
    . rw [Bp (by omega)]; exact Int.dvd_zero _
  have := h _ (mem s (by simp)) (cd a fun x hx => by simp [hx]) (cd b fun x hx => by simp [hx])
  have h1 := Int.le_of_dvd (by decide) this
  rcases Nat.eq_zero_or_pos (Z.gl (s :: (a ++ b))) with z | z
  . rw [z] at this
    have := Int.zero_dvd.mp this
    omega
  . omega
theorem Af0 {s m e : Int} {a b : List Int} (h : Cop s a b) (h1 : e ∣ m * s) (h2 : ∀ k, e ∣ m * co a k) (h3 : ∀ k, e ∣ m * co b k) : e ∣ m := by
  have := Ab1 e m (s :: (a ++ b)) fun x hx => by
    have inl : ∀ (L : List Int), (∀ k, e ∣ m * co L k) -> x ∈ L -> e ∣ m * x := fun L hL hm => by
      obtain ⟨i, hi, ei⟩ := List.getElem_of_mem hm
      have := hL i
      rw [Dc hi, ei] at this
      exact this
    rcases List.mem_cons.mp hx with rfl | hx
    . exact h1
    . rcases List.mem_append.mp hx with hx | hx
      . exact inl a h2 hx
      . exact inl b h3 hx
  rw [h.gl] at this
  simpa using this
theorem Aa0 {l : Int} (h : l ≠ 0) : l.sign * l = (l.natAbs : Int) := by
  rcases Int.lt_or_gt_of_ne h with h | h
  . rw [Int.sign_eq_neg_one_of_neg h]; omega
  . rw [Int.sign_eq_one_of_pos h]; omega
theorem Aiy (r l : Int) (hl : l ≠ 0) : ∃ m f : Int, ((l.natAbs : Nat) : Int).fdiv ((Int.gcd r l : Nat) : Int) = m /\ (r * m).fdiv l = f /\ 1 <= m /\ r * m = f * l /\ (∀ e, e ∣ m -> e ∣ f -> e ∣ 1) /\ m.natAbs <= l.natAbs /\ f.natAbs <= r.natAbs := by
  have g0 : 0 < Int.gcd r l := Int.gcd_pos_of_ne_zero_right r hl
  obtain ⟨r', er⟩ : ((Int.gcd r l : Nat) : Int) ∣ r := Int.gcd_dvd_left ..
  obtain ⟨l', el⟩ : ((Int.gcd r l : Nat) : Int) ∣ l := Int.gcd_dvd_right ..
  have cop : Int.gcd r' l' = 1 := by
    have h : Int.gcd r l = Int.gcd r l * Int.gcd r' l' := by
      have := Int.gcd_mul_left ((Int.gcd r l : Nat) : Int) r' l'
      rw [<- er, <- el, Int.natAbs_natCast] at this
      exact this
    have : Int.gcd r l * 1 = Int.gcd r l * Int.gcd r' l' := by rw [Nat.mul_one]; exact h
    exact (Nat.eq_of_mul_eq_mul_left g0 this).symm
  generalize Int.gcd r l = g at *
  have hl' : l' ≠ 0 := fun z => hl (by rw [el, z, Int.mul_zero])
  have em : ((l.natAbs : Nat) : Int).fdiv (g : Int) = (l'.natAbs : Nat) := by
    rw [el, Int.natAbs_mul, Int.natAbs_natCast, Int.natCast_mul, Int.mul_fdiv_cancel_left _ (by omega)]
  refine ⟨(l'.natAbs : Nat), r' * l'.sign, em, ?_, by omega, ?_, ?_, ?_, ?_⟩
  . have : r * (l'.natAbs : Nat) = (r' * l'.sign) * l := by
      rw [el]
      have h := Int.sign_mul_natAbs l'
      have h2 : l'.sign * l' = (l'.natAbs : Int) := Aa0 hl'
      rw [er, <- h2]
      grind
    rw [this, Int.mul_fdiv_cancel _ hl]
  . have h2 : l'.sign * l' = (l'.natAbs : Int) := Aa0 hl'
    rw [er, el, <- h2]
    grind
  . intro e h1 h2
    have a1 : e ∣ l' := by
      rcases Int.natAbs_eq l' with z | z
      . rw [z]; exact h1
      . rw [z]; exact Int.dvd_neg.mpr h1
    have a2 : e ∣ r' := by
      have : e ∣ r' * l'.sign * l'.sign := Int.dvd_trans h2 (Int.dvd_mul_right _ _)
      rw [Int.mul_assoc, show l'.sign * l'.sign = 1 by
        rcases Int.lt_or_gt_of_ne hl' with h | h
        . rw [Int.sign_eq_neg_one_of_neg h]; rfl
        . rw [Int.sign_eq_one_of_pos h]; rfl, Int.mul_one] at this
      exact this
    have := Int.dvd_coe_gcd a2 a1
    rw [cop] at this
    exact this
  . rw [Int.natAbs_natCast, el, Int.natAbs_mul, Int.natAbs_natCast]
    exact Nat.le_mul_of_pos_left _ g0
  . rw [er, Int.natAbs_mul, Int.natAbs_mul, Int.natAbs_natCast]
    have : l'.sign.natAbs = 1 := by
      rcases Int.lt_or_gt_of_ne hl' with h | h
      . rw [Int.sign_eq_neg_one_of_neg h]; rfl
      . rw [Int.sign_eq_one_of_pos h]; rfl
    rw [this, Nat.mul_one]
    exact Nat.le_mul_of_pos_left _ g0
structure DV (p q : List Int) (s : Int) (qs rs : List Int) (j : Nat) : Prop where
  pos : 1 <= s
  eq : ∀ k, s * co p k = mu qs (co q) k + co rs k
  top : ∀ k, j + q.length <= k + 1 -> co rs k = 0
  low : ∀ k, k < j -> co qs k = 0
  cop : Cop s qs rs
theorem T3 (f : Nat -> Int) (n : Nat) : ∀ i, mu (List.replicate n 0) f i = 0 := fun i => by
  rw [Rg f _ fun i => by unfold co; rw [List.getD_eq_getElem?_getD, List.getElem?_replicate]; split <;> rfl]
theorem DV.start (p q : List Int) (hq : q ≠ []) : DV p q 1 (List.replicate (p.length + 1 - q.length) 0) p (p.length + 1 - q.length) := by
  have hl : 0 < q.length := List.length_pos_iff.mpr hq
  refine ⟨Int.le_refl _, fun k => by rw [T3, Int.one_mul, Int.zero_add], fun k h => Bp (by omega), fun k h => ?_, fun e h _ _ => h⟩
  unfold co
  rw [List.getD_eq_getElem?_getD, List.getElem?_replicate]
  split <;> rfl
theorem Uq (m : Int) (L : List Int) (k : Nat) : co (L.map (· * m)) k = co L k * m := by
  unfold co
  rw [List.getD_eq_getElem?_getD, List.getD_eq_getElem?_getD, List.getElem?_map]
  cases L[k]? <;> simp
theorem DV.step {p q : List Int} {s : Int} {qs rs : List Int} {j : Nat} (h : DV p q s qs rs (j + 1)) (hq : q ≠ []) {m f : Int} (m1 : 1 <= m) (hj : j < qs.length) (ef : co rs (j + (q.length - 1)) * m = f * co q (q.length - 1)) (cp : ∀ e, e ∣ m -> e ∣ f -> e ∣ 1)
    {rs' : List Int} (hr : ∀ k, co rs' k = co rs k * m - (if j <= k then f * co q (k - j) else 0)) : DV p q (s * m) ((qs.map (· * m)).set j f) rs' j := by
  have hl : 0 < q.length := List.length_pos_iff.mpr hq
  have cq : ∀ k, co ((qs.map (· * m)).set j f) k = if k = j then f else co qs k * m := fun k => by
    rw [Qn _ _ _ (by rw [List.length_map]; exact hj), Uq]
  have sp : ∀ k, co ((qs.map (· * m)).set j f) k = co (al (qs.map (· * m)) (List.replicate j 0 ++ [f])) k := fun k => by
    rw [cq, Ph, Uq, Ke, List.length_replicate]
    by_cases hk : k = j
    . rw [if_pos hk, if_pos hk, hk, h.low j (by omega)]; simp
    . rw [if_neg hk, if_neg hk]
      have : co (List.replicate j (0 : Int)) k = 0 := by
        unfold co
        rw [List.getD_eq_getElem?_getD, List.getElem?_replicate]
        split <;> rfl
      rw [this, Int.add_zero]
  have ms : ∀ k, mu (qs.map (· * m)) (co q) k = mu qs (co q) k * m := fun k => by
    have e : qs.map (· * m) = qs.map (m * ·) := List.map_congr_left fun x _ => Int.mul_comm _ _
    rw [e, Gu, Int.mul_comm]
  refine ⟨?_, fun k => ?_, fun k hk => ?_, fun k hk => ?_, fun e h1 h2 h3 => ?_⟩
  . have := Int.mul_le_mul h.pos m1 (by decide) (by have := h.pos; omega)
    omega
  . rw [Bq (co q) _ _ sp, Pq]
    dsimp only
    rw [M8, T3, ms, List.length_replicate, hr]
    have := h.eq k
    have e : s * m * co p k = (s * co p k) * m := by grind
    rw [e, this]
    grind
  . rw [hr, if_pos (by omega)]
    by_cases hk2 : k = j + (q.length - 1)
    . subst hk2
      rw [ef, show j + (q.length - 1) - j = q.length - 1 by omega]
      omega
    . rw [h.top k (by omega), Bp (show q.length <= k - j by omega)]
      simp
  . rw [cq, if_neg (by omega), h.low k (by omega), Int.zero_mul]
  . have hf : e ∣ f := by have := h2 j; rw [cq, if_pos rfl] at this; exact this
    refine cp e (Af0 h.cop (by rw [Int.mul_comm]; exact h1) (fun k => ?_) fun k => ?_) hf
    . by_cases hk : k = j
      . rw [hk, h.low j (by omega), Int.mul_zero]; exact Int.dvd_zero _
      . have := h2 k
        rw [cq, if_neg hk] at this
        rw [Int.mul_comm]
        exact this
    . have a := h3 k
      rw [hr] at a
      have b : e ∣ (if j <= k then f * co q (k - j) else 0) := by
        split
        . exact Int.dvd_trans hf (Int.dvd_mul_right _ _)
        . exact Int.dvd_zero _
      have := Int.dvd_add a b
      rw [Int.sub_add_cancel, Int.mul_comm] at this
      exact this
end Z
namespace Z
theorem Z6 (e : Int) : ∀ (p : List Int) (f : Nat -> Int) (i : Nat), (∀ j, j <= i -> e ∣ f j) -> e ∣ mu p f i
  | [], _, _, _ => Int.dvd_zero _
  | a :: p, f, 0, h => by
    show e ∣ a * f 0 + 0
    rw [Int.add_zero]
    exact Int.dvd_trans (h 0 (Nat.le_refl _)) (Int.dvd_mul_left _ _)
  | a :: p, f, i + 1, h => by
    show e ∣ a * f (i + 1) + mu p f i
    exact Int.dvd_add (Int.dvd_trans (h _ (Nat.le_refl _)) (Int.dvd_mul_left _ _)) (Z6 e p f i fun j hj => h j (by omega))
theorem Rh {e : Int} (he : ∀ a b : Int, e ∣ a * b -> e ∣ a \/ e ∣ b) : ∀ (p q : List Int), (∀ k, e ∣ mu p (co q) k) -> (∀ k, e ∣ co p k) \/ (∀ k, e ∣ co q k)
  | [], _, _ => .inl fun k => by rw [Ba]; exact Int.dvd_zero _
  | a :: p, q, h => by
    by_cases ha : e ∣ a
    . have h2 : ∀ k, e ∣ mu p (co q) k := fun k => by
        have := h (k + 1)
        have z : e ∣ a * co q (k + 1) := Int.dvd_trans ha (Int.dvd_mul_right _ _)
        exact (Int.dvd_add_right z).mp this
      rcases Rh he p q h2 with h3 | h3
      . refine .inl fun k => ?_
        cases k with
        | zero => rw [Ca]; exact ha
        | succ k => rw [Cm]; exact h3 k
      . exact .inr h3
    . refine .inr fun k => ?_
      induction k using Nat.strongRecOn with
      | _ k ih =>
        have z := h k
        have s : e ∣ sh (mu p (co q)) k := by
          cases k with
          | zero => exact Int.dvd_zero _
          | succ k => exact Z6 e p _ k fun j hj => ih j (by omega)
        have : e ∣ a * co q k := (Int.dvd_add_left s).mp z
        exact (he _ _ this).resolve_left ha
theorem Ye : ∀ n : Nat, n ≠ 1 -> ∃ r : Nat, 2 <= r /\ r ∣ n /\ ∀ a b : Int, (r : Int) ∣ a * b -> (r : Int) ∣ a \/ (r : Int) ∣ b := fun n => by
  have main : ∀ m : Nat, 2 <= m -> ∃ r : Nat, 2 <= r /\ r ∣ m /\ ∀ a b : Int, (r : Int) ∣ a * b -> (r : Int) ∣ a \/ (r : Int) ∣ b := fun m => by
    induction m using Nat.strongRecOn with
    | _ m ih =>
      intro hm
      by_cases h : ∃ d, 2 <= d /\ d < m /\ d ∣ m
      . obtain ⟨d, h1, h2, h3⟩ := h
        obtain ⟨r, a1, a2, a3⟩ := ih d h2 h1
        exact ⟨r, a1, Nat.dvd_trans a2 h3, a3⟩
      . refine ⟨m, hm, Nat.dvd_refl _, fun a b hab => ?_⟩
        by_cases ha : (m : Int) ∣ a
        . exact .inl ha
        . right
          have g1 : Nat.gcd m a.natAbs = 1 := by
            have gd : Nat.gcd m a.natAbs ∣ m := Nat.gcd_dvd_left ..
            have gl := Nat.le_of_dvd (by omega) gd
            have gp := Nat.gcd_pos_of_pos_left a.natAbs (show 0 < m by omega)
            by_cases e1 : Nat.gcd m a.natAbs = 1
            . exact e1
            . exfalso
              by_cases e2 : Nat.gcd m a.natAbs = m
              . refine ha (Int.ofNat_dvd_left.mpr ?_)
                have := Nat.gcd_dvd_right m a.natAbs
                rw [e2] at this
                exact this
              . exact h ⟨_, by omega, by omega, gd⟩
          have hd : m ∣ a.natAbs * b.natAbs := by
            have := Int.ofNat_dvd_left.mp hab
            rwa [Int.natAbs_mul] at this
          exact Int.ofNat_dvd_left.mpr (Nat.Coprime.dvd_of_dvd_mul_left g1 hd)
  intro hn
  by_cases h0 : n = 0
  . subst h0
    obtain ⟨r, a1, _, a3⟩ := main 2 (by decide)
    exact ⟨r, a1, Nat.dvd_zero _, a3⟩
  . exact main n (by omega)
def Prim (p : List Int) : Prop := ∀ e : Int, (∀ k, e ∣ co p k) -> e ∣ 1
theorem Ai2 {p q r : List Int} (hp : Prim p) (hq : Prim q) (hr : ∀ k, co r k = mu p (co q) k) : Prim r := fun e he => by
  by_cases h1 : e.natAbs = 1
  . exact Int.natAbs_dvd.mp (by rw [h1]; exact Int.dvd_refl _)
  . exfalso
    obtain ⟨t, t2, td, tp⟩ := Ye e.natAbs h1
    have te : (t : Int) ∣ e := Int.ofNat_dvd_left.mpr td
    have no : ∀ s : List Int, Prim s -> ¬ ∀ k, (t : Int) ∣ co s k := fun s hs h => by
      have := Int.le_of_dvd (by decide) (hs _ h)
      omega
    rcases Rh tp p q fun k => by rw [<- hr]; exact Int.dvd_trans te (he k) with h | h
    . exact no p hp h
    . exact no q hq h
theorem Nr {e m : Int} {p : List Int} (h : ∀ k, e ∣ m * co p k) : e ∣ m * (gl p : Nat) := Ab1 e m p fun x hx => by
  obtain ⟨i, hi, ei⟩ := List.getElem_of_mem hx
  have := h i
  rw [Dc hi, ei] at this
  exact this
theorem Ado (p : List Int) (k : Nat) : ((gl p : Nat) : Int) ∣ co p k := by
  by_cases hk : k < p.length
  . rw [Dc hk]; exact Vp p _ (List.getElem_mem hk)
  . rw [Bp (by omega)]; exact Int.dvd_zero _
theorem Prim.gl {p : List Int} (h : Prim p) : Z.gl p = 1 := by
  have := h _ (Ado p)
  have h1 := Int.le_of_dvd (by decide) this
  rcases Nat.eq_zero_or_pos (Z.gl p) with z | z
  . rw [z] at this
    have := Int.zero_dvd.mp this
    omega
  . omega
theorem Aa1 {p : List Int} {k : Nat} (h : co p k ≠ 0) : 0 < gl p := by
  rcases Nat.eq_zero_or_pos (gl p) with z | z
  . have := Ado p k
    rw [z] at this
    exact absurd (Int.zero_dvd.mp this) h
  . exact z
theorem X4 {u v : List Int} {c d : Int} (hc : c ≠ 0) (hd : d ≠ 0) (hu : Prim u) (hv : Prim v) (h : ∀ k, c * co u k = d * co v k) {a b : Nat} (ua : 0 < co u a) (ub : ∀ k, a < k -> co u k = 0) (va : 0 < co v b) (vb : ∀ k, b < k -> co v k = 0) : c = d /\ ∀ k, co u k = co v k := by
  have cd : c ∣ d := by
    have := Nr (e := c) (m := d) (p := v) fun k => by rw [<- h]; exact Int.dvd_mul_right _ _
    rw [hv.gl] at this
    simpa using this
  have dc : d ∣ c := by
    have := Nr (e := d) (m := c) (p := u) fun k => by rw [h]; exact Int.dvd_mul_right _ _
    rw [hu.gl] at this
    simpa using this
  have ab : a = b := by
    rcases Nat.lt_trichotomy a b with l | l | l
    . exfalso
      have := h b
      rw [ub b l, Int.mul_zero] at this
      rcases Int.mul_eq_zero.mp this.symm with z | z
      . exact hd z
      . omega
    . exact l
    . exfalso
      have := h a
      rw [vb a l, Int.mul_zero] at this
      rcases Int.mul_eq_zero.mp this with z | z
      . exact hc z
      . omega
  subst ab
  have ha := h a
  have e : c = d := by
    have n : c.natAbs = d.natAbs := Nat.dvd_antisymm (Int.natAbs_dvd_natAbs.mpr cd) (Int.natAbs_dvd_natAbs.mpr dc)
    rcases Int.natAbs_eq_natAbs_iff.mp n with z | z
    . exact z
    . exfalso
      rw [z, Int.neg_mul] at ha
      have h0 : d * (co u a + co v a) = 0 := by rw [Int.mul_add]; omega
      rcases Int.mul_eq_zero.mp h0 with z | z
      . exact hd z
      . omega
  refine ⟨e, fun k => ?_⟩
  have hk := h k
  rw [e] at hk
  exact Int.eq_of_mul_eq_mul_left hd hk
def un (p : List Int) : Int := if co p (p.length - 1) < 0 then -(gl p : Nat) else (gl p : Nat)
def pln (p : List Int) : List Int := p.map fun x => x.fdiv (un p)
theorem M4 (p : List Int) : (pln p).length = p.length := by rw [pln, List.length_map]
theorem Qk {f : Int -> Int} (h : f 0 = 0) (p : List Int) (k : Nat) : co (p.map f) k = f (co p k) := by
  unfold co
  rw [List.getD_eq_getElem?_getD, List.getD_eq_getElem?_getD, List.getElem?_map]
  cases p[k]? <;> simp [h]
theorem Afd (p : List Int) (k : Nat) : un p ∣ co p k := by
  unfold un
  split
  . exact Int.neg_dvd.mpr (Ado p k)
  . exact Ado p k
theorem R5 {p : List Int} (hp : Tr p) (h : p ≠ []) : un p ≠ 0 := by
  have := Aa1 (hp.lead h)
  unfold un
  split <;> omega
theorem Ma {p : List Int} (hp : Tr p) (h : p ≠ []) (k : Nat) : un p * co (pln p) k = co p k := by
  rw [pln, Qk (f := fun x => x.fdiv (un p)) (Int.zero_fdiv _)]
  obtain ⟨t, ht⟩ := Afd p k
  rw [ht, Int.mul_fdiv_cancel_left _ (R5 hp h)]
theorem Afr {p : List Int} (k : Nat) (hk : p.length - 1 < k) : co (pln p) k = 0 := Bp (by rw [M4]; omega)
theorem Qd {p : List Int} (hp : Tr p) (h : p ≠ []) : 0 < co (pln p) (p.length - 1) := by
  have e := Ma hp h (p.length - 1)
  have l := hp.lead h
  have g := Aa1 l
  have z : co (pln p) (p.length - 1) ≠ 0 := fun z => l (by rw [<- e, z, Int.mul_zero])
  by_cases hl : co p (p.length - 1) < 0
  . have u : un p = -(gl p : Nat) := if_pos hl
    rw [u] at e
    rcases Int.lt_or_gt_of_ne z with y | y
    . have := Int.mul_pos_of_neg_of_neg (show -((gl p : Nat) : Int) < 0 by omega) y
      omega
    . exact y
  . have u : un p = (gl p : Nat) := if_neg hl
    rw [u] at e
    rcases Int.lt_or_gt_of_ne z with y | y
    . have := Int.mul_neg_of_pos_of_neg (show 0 < ((gl p : Nat) : Int) by omega) y
      omega
    . exact y
theorem Ls {p : List Int} (hp : Tr p) : Tr (pln p) := by
  by_cases h : p = []
  . subst h; exact .inl rfl
  . refine .of (.inr ?_)
    rw [M4]
    have := Qd hp h
    omega
theorem Iu {p : List Int} (hp : Tr p) (h : p ≠ []) : Prim (pln p) := fun e he => by
  have g := Aa1 (hp.lead h)
  have d : (gl p : Nat) * e ∣ 1 * (gl p : Nat) := Nr fun k => by
    rw [Int.one_mul, <- Ma hp h k]
    have : ((gl p : Nat) : Int) * e ∣ (gl p : Nat) * co (pln p) k := Int.mul_dvd_mul (Int.dvd_refl _) (he k)
    unfold un
    split
    . rw [Int.neg_mul]; exact Int.dvd_neg.mpr this
    . exact this
  rw [Int.mul_comm 1] at d
  exact Int.dvd_of_mul_dvd_mul_left (by omega) d
theorem Ahv {r v : List Int} {c : Int} (hr : Tr r) (hv : Tr v) (pv : Prim v) (hc : c ≠ 0) (h : ∀ k, c * co v k = co r k) (n : v ≠ []) (l : 0 < co v (v.length - 1)) : pln r = v := by
  have rn : r ≠ [] := fun z => by
    have := h (v.length - 1)
    rw [z, Ba] at this
    rcases Int.mul_eq_zero.mp this with z | z <;> omega
  refine (Ls hr).ext hv (X4 (R5 hr rn) hc (Iu hr rn) pv (fun k => by rw [Ma hr rn, h]) (Qd hr rn) (fun k hk => Afr k hk) l fun k hk => Bp (by omega)).2
theorem Aay {p : List Int} (hp : Tr p) {c : Int} (hc : c ≠ 0) {r : List Int} (hr : Tr r) (h : ∀ k, co r k = c * co p k) : pln r = pln p := by
  by_cases np : p = []
  . subst np
    have : r = [] := hr.ext (.inl rfl) fun k => by rw [h, Ba, Int.mul_zero]
    rw [this]
  . have np' : pln p ≠ [] := fun z => by have := M4 p; rw [z] at this; exact absurd this.symm (by simp; exact np)
    refine Ahv (c := c * un p) hr (Ls hp) (Iu hp np) (fun z => by rcases Int.mul_eq_zero.mp z with z | z; exact hc z; exact R5 hp np z) (fun k => ?_) np' (by rw [M4]; exact Qd hp np)
    rw [h, <- Ma hp np, Int.mul_assoc]
def Exact (p q : List Int) : Prop := ∃ v : List Int, ∀ k, co p k = mu v (co q) k
theorem Agv : ∀ (w q : List Int) (j : Nat), q ≠ [] -> co q (q.length - 1) ≠ 0 -> (∀ k, j + q.length <= k -> mu w (co q) k = 0) -> co q (q.length - 1) ∣ mu w (co q) (j + (q.length - 1)) := by
  intro w q j hq hl h
  have lq : 0 < q.length := List.length_pos_iff.mpr hq
  have tw : Tr (trim w) := Bb w
  have e : ∀ k, mu (trim w) (co q) k = mu w (co q) k := fun k => congrFun (Bq (co q) _ _ (Aw w)) k
  rw [<- e]
  by_cases n : trim w = []
  . rw [n]; exact Int.dvd_zero _
  . have l := tw.lead n
    have lw : 0 < (trim w).length := List.length_pos_iff.mpr n
    have ld := K9 (trim w) q ((trim w).length + q.length - 2) n hq (by omega)
    have nz : co (trim w) ((trim w).length - 1) * co q (q.length - 1) ≠ 0 := fun z => by rcases Int.mul_eq_zero.mp z with z | z <;> contradiction
    by_cases h1 : j + 1 < (trim w).length
    . exfalso
      have := h ((trim w).length + q.length - 2) (by omega)
      rw [<- e, ld] at this
      exact nz this
    . by_cases h2 : (trim w).length = j + 1
      . rw [show j + (q.length - 1) = (trim w).length + q.length - 2 by omega, ld]
        exact Int.dvd_mul_left _ _
      . rw [Abx _ _ _ n (by omega)]
        exact Int.dvd_zero _
theorem Aer (q : List Int) (v u : List Int) : ∃ w : List Int, ∀ k, mu w (co q) k = mu v (co q) k - mu u (co q) k := by
  refine ⟨al v (u.map (-1 * ·)), fun k => ?_⟩
  rw [Pq]
  dsimp only
  rw [Gu]
  dsimp only
  omega
theorem DV.exact_top {p q qs rs : List Int} {j : Nat} (h : DV p q 1 qs rs (j + 1)) (hq : q ≠ []) (hl : co q (q.length - 1) ≠ 0) (ex : Exact p q) : co q (q.length - 1) ∣ co rs (j + (q.length - 1)) := by
  obtain ⟨v, hv⟩ := ex
  obtain ⟨w, hw⟩ := Aer q v qs
  have e : ∀ k, co rs k = mu w (co q) k := fun k => by
    have := h.eq k
    rw [hw, <- hv]
    omega
  rw [e]
  refine Agv w q j hq hl fun k hk => ?_
  rw [<- e]
  exact h.top k (by omega)
theorem Adp {r l : Int} (hl : l ≠ 0) (h : l ∣ r) : ((l.natAbs : Nat) : Int).fdiv ((Int.gcd r l : Nat) : Int) = 1 := by
  have : Int.gcd r l = l.natAbs := Nat.gcd_eq_right (Int.natAbs_dvd_natAbs.mpr h)
  rw [this]
  exact Int.fdiv_self (by omega)
theorem Adz {p q u r : List Int} {s : Int} (hq : q ≠ []) (hl : co q (q.length - 1) ≠ 0) (h : ∀ k, s * co p k = mu u (co q) k + co r k) (s1 : 1 <= s) (hr : Tr r) (lr : r.length < q.length) (cop : Cop s u r) (ex : Exact p q) : s = 1 /\ r = [] := by
  obtain ⟨v, hv⟩ := ex
  obtain ⟨w, hw⟩ := Aer q (v.map (s * ·)) u
  have e : ∀ k, co r k = mu w (co q) k := fun k => by
    have := h k
    rw [hw, Gu]
    dsimp only
    rw [<- hv]
    omega
  have w0 : ∀ k, co w k = 0 := by
    have e2 : ∀ k, mu (trim w) (co q) k = mu w (co q) k := fun k => congrFun (Bq (co q) _ _ (Aw w)) k
    by_cases n : trim w = []
    . intro k; rw [<- Aw, n, Ba]
    . exfalso
      have lw : 0 < (trim w).length := List.length_pos_iff.mpr n
      have ld := K9 (trim w) q ((trim w).length + q.length - 2) n hq (by omega)
      rw [e2, <- e, Bp (by omega)] at ld
      rcases Int.mul_eq_zero.mp ld.symm with z | z
      . exact (Bb w).lead n z
      . exact hl z
  have r0 : r = [] := hr.ext (.inl rfl) fun k => by rw [e, Rg (co q) w w0, Ba]
  refine ⟨?_, r0⟩
  have us : ∀ k, co u k = s * co v k := by
    have a := fun k => h k
    have d : ∀ k, mu (al u (v.map (-s * ·))) (co q) k = 0 := fun k => by
      rw [Pq]
      dsimp only
      rw [Gu]
      dsimp only
      rw [<- hv]
      have := h k
      rw [r0, Ba] at this
      rw [Int.neg_mul]
      omega
    have x0 : trim (al u (v.map (-s * ·))) = [] := by
      by_cases n : trim (al u (v.map (-s * ·))) = []
      . exact n
      . exfalso
        have e2 := congrFun (Bq (co q) _ _ (Aw (al u (v.map (-s * ·))))) ((trim (al u (v.map (-s * ·)))).length + q.length - 2)
        have lw : 0 < (trim (al u (v.map (-s * ·)))).length := List.length_pos_iff.mpr n
        have lq : 0 < q.length := List.length_pos_iff.mpr hq
        rw [d, K9 _ q _ n hq (by omega)] at e2
        rcases Int.mul_eq_zero.mp e2 with z | z
        . exact (Bb _).lead n z
        . exact hl z
    intro k
    have := Aw (al u (v.map (-s * ·))) k
    rw [x0, Ba, Ph, Ck, Int.neg_mul] at this
    omega
  have := cop s (Int.dvd_refl _) (fun k => by rw [us]; exact Int.dvd_mul_right _ _) fun k => by rw [r0, Ba]; exact Int.dvd_zero _
  have := Int.le_of_dvd (by decide) this
  omega
end Z
namespace Z
section
variable {C : Type}
def La (r : C -> Int) (f : List C -> Int) : List C -> Int
  | [] => 0
  | c :: cs => r c * f cs - La r (fun x => f (c :: x)) cs
def Dt : List (C -> Int) -> List C -> Int
  | [], [] => 1
  | [], _ :: _ => 0
  | r :: rows, cs => La r (Dt rows) cs
theorem Rq (r : C -> Int) : ∀ cs, La r (fun _ => 0) cs = 0
  | [] => rfl
  | c :: cs => by rw [La, Rq r cs]; simp
theorem Acg (r : C -> Int) : ∀ (cs : List C) (f g : List C -> Int), La r (fun x => f x + g x) cs = La r f cs + La r g cs
  | [], f, g => rfl
  | c :: cs, f, g => by
    rw [La, La, La, Acg r cs]
    grind
theorem T5 (r : C -> Int) (k : Int) : ∀ (cs : List C) (f : List C -> Int), La r (fun x => k * f x) cs = k * La r f cs
  | [], f => by simp [La]
  | c :: cs, f => by
    rw [La, La, T5 r k cs]
    grind
theorem Aep (r : C -> Int) (cs : List C) (f g : List C -> Int) : La r (fun x => f x - g x) cs = La r f cs - La r g cs := by
  have h1 := Acg r cs (fun x => f x - g x) g
  have h2 : (fun x => f x - g x + g x) = f := by funext x; omega
  rw [h2] at h1
  omega
theorem Acs (r s : C -> Int) : ∀ (cs : List C) (f : List C -> Int), La (fun c => r c + s c) f cs = La r f cs + La s f cs
  | [], f => rfl
  | c :: cs, f => by
    rw [La, La, La, Acs r s cs]
    grind
theorem Aax (r : C -> Int) (k : Int) : ∀ (cs : List C) (f : List C -> Int), La (fun c => k * r c) f cs = k * La r f cs
  | [], f => by simp [La]
  | c :: cs, f => by
    rw [La, La, Aax r k cs]
    grind
theorem Yi : ∀ (cs : List C) (f : List C -> Int), La (fun _ => 0) f cs = 0
  | [], f => rfl
  | c :: cs, f => by rw [La, Yi cs]; simp
theorem Aaw (r s : C -> Int) : ∀ (cs : List C) (f : List C -> Int), La r (La s f) cs = -La s (La r f) cs
  | [], f => rfl
  | c :: cs, f => by
    rw [La, La]
    have e1 : (fun x => La s f (c :: x)) = fun x => s c * f x - La s (fun y => f (c :: y)) x := rfl
    have e2 : (fun x => La r f (c :: x)) = fun x => r c * f x - La r (fun y => f (c :: y)) x := rfl
    rw [e1, e2, Aep, Aep, T5, T5, Aaw r s cs]
    grind
theorem W2 (r s : C -> Int) (rows : List (C -> Int)) (cs : List C) : Dt (r :: s :: rows) cs = -Dt (s :: r :: rows) cs := Aaw r s cs (Dt rows)
theorem Aey {b : C -> Int} : ∀ {post : List (C -> Int)}, b ∈ post -> ∀ cs, Dt (b :: post) cs = 0
  | x :: xs, h, cs => by
    rcases List.mem_cons.mp h with rfl | h
    . have := W2 b b xs cs
      omega
    . rw [W2]
      show -La x (Dt (b :: xs)) cs = 0
      have e : Dt (b :: xs) = fun _ => 0 := by funext y; exact Aey h y
      rw [e, Rq]
      rfl
theorem Xc {rows : List (C -> Int)} (h : ∀ cs, Dt rows cs = 0) : ∀ (pre : List (C -> Int)) (cs : List C), Dt (pre ++ rows) cs = 0
  | [], cs => h cs
  | p :: pre, cs => by
    show La p (Dt (pre ++ rows)) cs = 0
    have e : Dt (pre ++ rows) = fun _ => 0 := by funext y; exact Xc h pre y
    rw [e, Rq]
theorem Aca (r s : C -> Int) (post : List (C -> Int)) : ∀ (pre : List (C -> Int)) (cs : List C), Dt (pre ++ (fun c => r c + s c) :: post) cs = Dt (pre ++ r :: post) cs + Dt (pre ++ s :: post) cs
  | [], cs => Acs r s cs _
  | p :: pre, cs => by
    show La p (Dt (pre ++ (fun c => r c + s c) :: post)) cs = La p (Dt (pre ++ r :: post)) cs + La p (Dt (pre ++ s :: post)) cs
    rw [<- Acg]
    congr 1
    funext y
    exact Aca r s post pre y
theorem X8 (r : C -> Int) (k : Int) (post : List (C -> Int)) : ∀ (pre : List (C -> Int)) (cs : List C), Dt (pre ++ (fun c => k * r c) :: post) cs = k * Dt (pre ++ r :: post) cs
  | [], cs => Aax r k cs _
  | p :: pre, cs => by
    show La p (Dt (pre ++ (fun c => k * r c) :: post)) cs = k * La p (Dt (pre ++ r :: post)) cs
    rw [<- T5]
    congr 1
    funext y
    exact X8 r k post pre y
inductive Sn (B : List (C -> Int)) : (C -> Int) -> Prop where
  | zero : Sn B (fun _ => 0)
  | add (k : Int) {b v : C -> Int} (hb : b ∈ B) (hv : Sn B v) : Sn B (fun c => k * b c + v c)
theorem Sn.mono {B B' : List (C -> Int)} (h : ∀ b ∈ B, b ∈ B') {v : C -> Int} (s : Sn B v) : Sn B' v := by
  induction s with
  | zero => exact .zero
  | add k hb _ ih => exact .add k (h _ hb) ih
theorem Ajf {B : List (C -> Int)} {v : C -> Int} (s : Sn B v) (post : List (C -> Int)) (hB : ∀ b ∈ B, b ∈ post) (pre : List (C -> Int)) (cs : List C) : Dt (pre ++ v :: post) cs = 0 := by
  induction s with
  | zero => exact Xc (rows := (fun _ => 0) :: post) (fun cs => Yi cs _) pre cs
  | @add k b v hb _ ih =>
    rw [Aca (fun c => k * b c) v post pre cs, ih, X8, Xc (Aey (hB b hb)) pre cs]
    simp
inductive Rel (k : Int) (B : List (C -> Int)) : List (C -> Int) -> List (C -> Int) -> Prop where
  | nil : Rel k B [] []
  | cons {a a' v : C -> Int} {A A' : List (C -> Int)} (hv : Sn B v) (h : ∀ c, k * a c = a' c + v c) (t : Rel k B A A') : Rel k B (a :: A) (a' :: A')
theorem Aee {k : Int} {B : List (C -> Int)} {A A' : List (C -> Int)} (h : Rel k B A A') (cs : List C) : ∀ pre : List (C -> Int), k ^ A.length * Dt (pre ++ (A ++ B)) cs = Dt (pre ++ (A' ++ B)) cs := by
  induction h with
  | nil => intro pre; simp
  | @cons a a' v A A' hv h t ih =>
    intro pre
    have e : (fun c => k * a c) = fun c => a' c + v c := funext h
    have e1 : k * Dt (pre ++ a :: (A ++ B)) cs = Dt (pre ++ a' :: (A ++ B)) cs := by
      rw [<- X8, e, Aca, Ajf hv (A ++ B) (fun b hb => List.mem_append_right _ hb), Int.add_zero]
    have e2 := ih (pre ++ [a'])
    rw [List.append_assoc, List.append_assoc] at e2
    show k ^ (A.length + 1) * Dt (pre ++ a :: (A ++ B)) cs = Dt (pre ++ a' :: (A' ++ B)) cs
    rw [Int.pow_succ, Int.mul_assoc, e1]
    exact e2
theorem Ad5 {k : Int} {R : List (C -> Int)} (B : List (C -> Int)) (cs : List C) : ∀ pre : List (C -> Int), Dt (pre ++ (R.map (fun r c => k * r c) ++ B)) cs = k ^ R.length * Dt (pre ++ (R ++ B)) cs := by
  induction R with
  | nil => intro pre; simp
  | cons r R ih =>
    intro pre
    show Dt (pre ++ (fun c => k * r c) :: (R.map (fun r c => k * r c) ++ B)) cs = k ^ (R.length + 1) * Dt (pre ++ r :: (R ++ B)) cs
    rw [X8]
    have e2 := ih (pre ++ [r])
    rw [List.append_assoc, List.append_assoc] at e2
    have e3 : Dt (pre ++ r :: (R.map (fun r c => k * r c) ++ B)) cs = k ^ R.length * Dt (pre ++ r :: (R ++ B)) cs := e2
    rw [e3, Int.pow_succ]
    grind
def Sg (e : Int) : Prop := e = 1 \/ e = -1
theorem Sg.mul {a b : Int} (ha : Sg a) (hb : Sg b) : Sg (a * b) := by
  rcases ha with rfl | rfl <;> rcases hb with rfl | rfl <;> simp [Sg]
theorem Sg.sq {a : Int} (ha : Sg a) : a * a = 1 := by rcases ha with rfl | rfl <;> rfl
theorem Aaj (a : C -> Int) (post : List (C -> Int)) : ∀ B : List (C -> Int), ∃ e, Sg e /\ ∀ cs, Dt (a :: (B ++ post)) cs = e * Dt (B ++ a :: post) cs
  | [] => ⟨1, .inl rfl, fun cs => by simp⟩
  | b :: B => by
    obtain ⟨e, he, h⟩ := Aaj a post B
    refine ⟨-e, by rcases he with rfl | rfl <;> simp [Sg], fun cs => ?_⟩
    show Dt (a :: b :: (B ++ post)) cs = _
    rw [W2]
    show -La b (Dt (a :: (B ++ post))) cs = -e * La b (Dt (B ++ a :: post)) cs
    have e1 : Dt (a :: (B ++ post)) = fun y => e * Dt (B ++ a :: post) y := funext h
    rw [e1, T5]
    grind
theorem U0 (B : List (C -> Int)) : ∀ (A : List (C -> Int)), ∃ e, Sg e /\ ∀ cs, Dt (A ++ B) cs = e * Dt (B ++ A) cs
  | [] => ⟨1, .inl rfl, fun cs => by simp⟩
  | a :: A => by
    obtain ⟨e, he, h⟩ := U0 B A
    obtain ⟨e', he', h'⟩ := Aaj a A B
    refine ⟨e * e', he.mul he', fun cs => ?_⟩
    show La a (Dt (A ++ B)) cs = _
    have e1 : Dt (A ++ B) = fun y => e * Dt (B ++ A) y := funext h
    rw [e1, T5]
    have := h' cs
    show e * Dt (a :: (B ++ A)) cs = _
    rw [this]
    grind
theorem W6 {c : C} : ∀ {rows : List (C -> Int)}, (∀ r ∈ rows, r c = 0) -> ∀ {cs : List C}, c ∈ cs -> Dt rows cs = 0
  | [], _, c' :: cs, _ => rfl
  | r :: rows, h, cs, hc => by
    have hr := h r List.mem_cons_self
    have ih : ∀ ds : List C, c ∈ ds -> Dt rows ds = 0 := fun ds hd => W6 (fun x hx => h x (List.mem_cons_of_mem _ hx)) hd
    show La r (Dt rows) cs = 0
    have key : ∀ (cs : List C) (f : List C -> Int), c ∈ cs -> (∀ ds, c ∈ ds -> f ds = 0) -> La r f cs = 0 := fun cs => by
      induction cs with
      | nil => intro f h; cases h
      | cons d ds ih2 =>
        intro f h hf
        rw [La]
        by_cases hd : c ∈ ds
        . rw [hf ds hd, ih2 (fun x => f (d :: x)) hd (fun e he => hf _ (List.mem_cons_of_mem _ he))]
          simp
        . have : c = d := by
            rcases List.mem_cons.mp h with z | z
            . exact z
            . exact absurd z hd
          subst this
          rw [hr]
          have e : (fun x => f (c :: x)) = fun _ => 0 := by funext x; exact hf _ List.mem_cons_self
          rw [e, Rq]
          simp
    exact key cs (Dt rows) hc ih
theorem Ahx {c : C} {r : C -> Int} {rows : List (C -> Int)} (h : ∀ s ∈ rows, s c = 0) (cs : List C) : Dt (r :: rows) (c :: cs) = r c * Dt rows cs := by
  show La r (Dt rows) (c :: cs) = _
  rw [La]
  have e : (fun x => Dt rows (c :: x)) = fun _ => 0 := by funext x; exact W6 h List.mem_cons_self
  rw [e, Rq]
  simp
theorem Ae0 (r : C -> Int) (c : C) : Dt [r] [c] = r c := by simp [Dt, La]
end
end Z
namespace Z
def shr (a : Nat) (F : Nat -> Nat -> Int) : Nat × Nat -> Int := fun c => if a <= c.2 then F c.1 (c.2 - a) else 0
def blk (F : Nat -> Nat -> Int) : Nat -> List (Nat × Nat -> Int)
  | 0 => []
  | a + 1 => shr a F :: blk F a
theorem Ox (F : Nat -> Nat -> Int) : ∀ a, (blk F a).length = a
  | 0 => rfl
  | a + 1 => by rw [blk, List.length_cons, Ox F a]
theorem Ag3 {F : Nat -> Nat -> Int} {a s : Nat} (h : s < a) : shr s F ∈ blk F a := by
  induction a with
  | zero => omega
  | succ a ih =>
    rw [blk]
    by_cases e : s = a
    . subst e; exact List.mem_cons_self
    . exact List.mem_cons_of_mem _ (ih (by omega))
theorem Mz {F : Nat -> Nat -> Int} {r : Nat × Nat -> Int} : ∀ {a : Nat}, r ∈ blk F a -> ∃ s, s < a /\ r = shr s F
  | 0, h => by cases h
  | a + 1, h => by
    rcases List.mem_cons.mp h with rfl | h
    . exact ⟨a, by omega, rfl⟩
    . obtain ⟨s, h1, h2⟩ := Mz h
      exact ⟨s, by omega, h2⟩
def dn (lo : Nat) : Nat -> List (Nat × Nat)
  | 0 => []
  | b + 1 => (0, lo + b) :: dn lo b
def Dg (F : Nat -> Nat -> Int) (n : Nat) : Prop := ∀ i, n <= i -> F 0 i = 0
theorem peel {G : Nat -> Nat -> Int} {m t lo b K : Nat} {rest : List (Nat × Nat -> Int)} {l : Nat × Nat} (hG : Dg G (m + 1)) (hK : ∀ r ∈ rest, ∀ i, K <= i -> r (0, i) = 0) (e : lo + b = m + t) (hk : K <= m + t) :
    ∀ u, Dt (blk G (t + u) ++ rest) (dn lo (b + u) ++ [l]) = G 0 m ^ u * Dt (blk G t ++ rest) (dn lo b ++ [l])
  | 0 => by simp
  | u + 1 => by
    show Dt (shr (t + u) G :: (blk G (t + u) ++ rest)) ((0, lo + (b + u)) :: (dn lo (b + u) ++ [l])) = _
    rw [Ahx]
    . rw [peel hG hK e hk u]
      have e1 : shr (t + u) G (0, lo + (b + u)) = G 0 m := by
        unfold shr
        rw [if_pos (show t + u <= lo + (b + u) by omega)]
        show G 0 (lo + (b + u) - (t + u)) = _
        rw [show lo + (b + u) - (t + u) = m by omega]
      rw [e1, Int.pow_succ]
      grind
    . intro s hs
      rcases List.mem_append.mp hs with hs | hs
      . obtain ⟨t', h1, rfl⟩ := Mz hs
        unfold shr
        rw [if_pos (show t' <= lo + (b + u) by omega)]
        exact hG _ (by show m + 1 <= lo + (b + u) - t'; omega)
      . exact hK s hs _ (by omega)
def Sr (j : Nat) (F : Nat -> Nat -> Int) (n : Nat) (G : Nat -> Nat -> Int) (m : Nat) (l : Nat × Nat) : Int := Dt (blk F (m - j) ++ blk G (n - j)) (dn (j + 1) (n + m - 2 * j - 1) ++ [l])
theorem Aih (G : Nat -> Nat -> Int) : ∀ (q : List Int) (s b : Nat), s + q.length <= b -> Sn (blk G b) (shr s fun c => mu q (G c))
  | [], s, b, _ => by
    have e : (shr s fun c => mu [] (G c)) = fun _ => 0 := by
      funext c
      unfold shr
      split <;> rfl
    rw [e]
    exact .zero
  | a :: q, s, b, h => by
    have e : (shr s fun c => mu (a :: q) (G c)) = fun c => a * shr s G c + (shr (s + 1) fun c => mu q (G c)) c := by
      funext c
      unfold shr
      by_cases h1 : s + 1 <= c.2
      . rw [if_pos (by omega), if_pos (by omega), if_pos h1]
        show a * G c.1 (c.2 - s) + sh (mu q (G c.1)) (c.2 - s) = _
        rw [show c.2 - s = (c.2 - (s + 1)) + 1 by omega]
        rfl
      . by_cases h2 : s <= c.2
        . rw [if_pos h2, if_pos h2, if_neg h1]
          show a * G c.1 (c.2 - s) + sh (mu q (G c.1)) (c.2 - s) = _
          rw [show c.2 - s = 0 by omega]
          rfl
        . rw [if_neg h2, if_neg h2, if_neg h1]
          simp
    rw [e]
    rw [List.length_cons] at h
    exact .add a (Ag3 (by omega)) (Aih G q (s + 1) b (by omega))
theorem Wn {F G R : Nat -> Nat -> Int} {L : Int} {q : List Int} {b : Nat} (h : ∀ c i, L * F c i = R c i + mu q (G c) i) : ∀ a, a + q.length <= b + 1 -> Rel L (blk G b) (blk F a) (blk R a)
  | 0, _ => .nil
  | a + 1, hb => by
    refine .cons (Aih G q a b (by omega)) (fun c => ?_) (Wn h a (by omega))
    unfold shr
    split
    . exact h _ _
    . simp
theorem Xr {R : Nat -> Nat -> Int} {k a : Nat} (hR : Dg R k) : ∀ r ∈ blk R a, ∀ i, k + a <= i + 1 -> r (0, i) = 0 := fun r hr i hi => by
  obtain ⟨s, h1, rfl⟩ := Mz hr
  unfold shr
  split
  . exact hR _ (by show k <= i - s; omega)
  . rfl
section
variable {F G R : Nat -> Nat -> Int} {n m k : Nat} {L : Int} {q : List Int}
theorem Agn (hG : Dg G (m + 1)) (hR : Dg R (k + 1)) (h : ∀ c i, L * F c i = R c i + mu q (G c) i) (hq : q.length <= n - m + 1) (hmn : m <= n) (j : Nat) (hj : j < m) (hk : j <= k) (hkm : k < m) :
    ∃ e, Sg e /\ ∀ l, L ^ (m - j) * Sr j F n G m l = e * (G 0 m ^ (n - k) * Sr j G m R k l) := by
  obtain ⟨e, he, hb⟩ := U0 (blk G (n - j)) (blk R (m - j))
  refine ⟨e, he, fun l => ?_⟩
  unfold Sr
  have h1 := Aee (Wn (F := F) (G := G) (R := R) h (m - j) (b := n - j) (by omega)) (dn (j + 1) (n + m - 2 * j - 1) ++ [l]) []
  rw [Ox, List.nil_append, List.nil_append] at h1
  rw [h1, hb]
  have h2 := peel (G := G) (m := m) (t := k - j) (lo := j + 1) (b := m + k - 2 * j - 1) (K := k + 1 + (m - j) - 1) (rest := blk R (m - j)) (l := l) hG (fun r hr i hi => Xr hR r hr i (by omega)) (by omega) (by omega) (n - k)
  rw [show k - j + (n - k) = n - j by omega, show m + k - 2 * j - 1 + (n - k) = n + m - 2 * j - 1 by omega] at h2
  rw [h2]
theorem Ago (hG : Dg G (m + 1)) (hR : Dg R m) (h : ∀ c i, L * F c i = R c i + mu q (G c) i) (hq : q.length <= n - m + 1) (hmn : m <= n) (hm : 1 <= m) :
    ∃ e, Sg e /\ ∀ l : Nat × Nat, L * Sr (m - 1) F n G m l = e * (G 0 m ^ (n - m + 1) * R l.1 l.2) := by
  obtain ⟨e, he, hb⟩ := U0 (blk G (n - (m - 1))) (blk R (m - (m - 1)))
  refine ⟨e, he, fun l => ?_⟩
  unfold Sr
  have h1 := Aee (Wn (F := F) (G := G) (R := R) h (m - (m - 1)) (b := n - (m - 1)) (by omega)) (dn (m - 1 + 1) (n + m - 2 * (m - 1) - 1) ++ [l]) []
  rw [Ox, List.nil_append, List.nil_append] at h1
  have e1 : m - (m - 1) = 1 := by omega
  rw [e1] at h1 hb ⊢
  rw [Int.pow_succ, Int.pow_zero, Int.one_mul] at h1
  rw [h1, hb]
  have h2 := peel (G := G) (m := m) (t := 0) (lo := m - 1 + 1) (b := 0) (K := m) (rest := blk R 1) (l := l) hG (fun r hr i hi => Xr hR r hr i (by omega)) (by omega) (by omega) (n - m + 1)
  rw [show 0 + (n - m + 1) = n - (m - 1) by omega] at h2
  rw [show n + m - 2 * (m - 1) - 1 = n - (m - 1) by omega, h2]
  congr 1
  congr 1
  show Dt [shr 0 R] [l] = _
  rw [Ae0]
  rfl
theorem Ah5 (hG : Dg G (m + 1)) (hmn : m < n) (l : Nat × Nat) : Sr m F n G m l = G 0 m ^ (n - m - 1) * G l.1 l.2 := by
  unfold Sr
  rw [Nat.sub_self]
  show Dt ([] ++ blk G (n - m)) _ = _
  rw [List.nil_append]
  have h2 := peel (G := G) (m := m) (t := 1) (lo := m + 1) (b := 0) (K := 0) (rest := []) (l := l) hG (fun r hr => by cases hr) (by omega) (by omega) (n - m - 1)
  rw [show 1 + (n - m - 1) = n - m by omega, List.append_nil, List.append_nil] at h2
  rw [show n + m - 2 * m - 1 = 0 + (n - m - 1) by omega, h2]
  congr 1
  show Dt [shr 0 G] [l] = _
  rw [Ae0]
  rfl
theorem Vu (T : Nat -> Nat -> Int) (β : Int) : ∀ a, blk (fun c i => β * T c i) a = (blk T a).map fun r c => β * r c
  | 0 => rfl
  | a + 1 => by
    rw [blk, blk, List.map_cons, Vu T β a]
    congr 1
    funext c
    unfold shr
    split <;> simp
theorem Ad3 (T : Nat -> Nat -> Int) (β : Int) (j : Nat) (l : Nat × Nat) : Sr j G m (fun c i => β * T c i) k l = β ^ (m - j) * Sr j G m T k l := by
  unfold Sr
  rw [Vu]
  have h := Ad5 (k := β) (R := blk T (m - j)) [] (dn (j + 1) (m + k - 2 * j - 1) ++ [l]) (blk G (k - j))
  rw [List.append_nil, List.append_nil, Ox] at h
  exact h
end
theorem Nq {a : Int} (h : a ≠ 0) : ∀ n : Nat, a ^ n ≠ 0
  | 0 => by simp
  | n + 1 => by
    rw [Int.pow_succ]
    exact Int.mul_ne_zero (Nq h n) h
def Chn (F1 : Nat -> Nat -> Int) (n1 : Nat) (F2 : Nat -> Nat -> Int) (n2 : Nat) (F : Nat -> Nat -> Int) (n : Nat) (G : Nat -> Nat -> Int) (m : Nat) (l h : Int) : Prop :=
  ∀ j, j <= m -> j < n -> ∃ e, Sg e /\ ∀ c, h ^ (n - j - 1) * l ^ (m - j) * Sr j F1 n1 F2 n2 c = e * Sr j F n G m c
theorem Chn.start (F1 : Nat -> Nat -> Int) (n1 : Nat) (F2 : Nat -> Nat -> Int) (n2 : Nat) : Chn F1 n1 F2 n2 F1 n1 F2 n2 1 1 := fun j _ _ => ⟨1, .inl rfl, fun c => by rw [Int.one_pow, Int.one_pow]; simp⟩
section
variable {F1 F2 F G R T : Nat -> Nat -> Int} {n1 n2 n m k : Nat} {l h lg h' : Int} {q : List Int}
theorem Chn.rest (ch : Chn F1 n1 F2 n2 F n G m l h) (hG : Dg G (m + 1)) (hR : Dg R m) (hq : q.length <= n - m + 1) (hmn : m <= n) (hm : 1 <= m) (hl : G 0 m ≠ 0)
    (eq : ∀ c i, G 0 m ^ (n - m + 1) * F c i = R c i + mu q (G c) i) : ∃ e, Sg e /\ ∀ c i, R c i = l * h ^ (n - m) * (e * Sr (m - 1) F1 n1 F2 n2 (c, i)) := by
  obtain ⟨e, he, h1⟩ := ch (m - 1) (by omega) (by omega)
  obtain ⟨e', he', h2⟩ := Ago (F := F) (n := n) hG hR eq hq hmn hm
  refine ⟨e * e', he.mul he', fun c i => ?_⟩
  have a1 := h1 (c, i)
  have a2 := h2 (c, i)
  rw [show n - (m - 1) - 1 = n - m by omega, show m - (m - 1) = 1 by omega, Int.pow_succ, Int.pow_zero, Int.one_mul] at a1
  have hp := Nq hl (n - m + 1)
  generalize G 0 m ^ (n - m + 1) = L at *
  generalize Sr (m - 1) F n G m (c, i) = s at *
  have a3 : s = e' * R c i := by
    have : L * s = L * (e' * R c i) := by rw [a2]; grind
    exact Int.eq_of_mul_eq_mul_left hp this
  rw [a3] at a1
  have s1 := he.sq
  have s2 := he'.sq
  have : e * e' * (h ^ (n - m) * l * Sr (m - 1) F1 n1 F2 n2 (c, i)) = R c i := by
    rw [a1]
    have : e * e' * (e * (e' * R c i)) = (e * e) * (e' * e') * R c i := by grind
    rw [this, s1, s2]
    simp
  rw [<- this]
  grind
theorem Chn.height (ch : Chn F1 n1 F2 n2 F n G m l h) (hG : Dg G (m + 1)) (hmn : m < n) : ∃ e, Sg e /\ h ^ (n - m - 1) * (e * Sr m F1 n1 F2 n2 (0, m)) = G 0 m ^ (n - m) := by
  obtain ⟨e, he, h1⟩ := ch m (Nat.le_refl _) hmn
  refine ⟨e, he, ?_⟩
  have a1 := h1 (0, m)
  rw [Nat.sub_self, Int.pow_zero, Int.mul_one, Ah5 hG hmn] at a1
  have s1 := he.sq
  have e2 : G 0 m ^ (n - m) = G 0 m ^ (n - m - 1) * G 0 m := by
    rw [<- Int.pow_succ, show (n - m - 1).succ = n - m by omega]
  rw [e2]
  have : h ^ (n - m - 1) * (e * Sr m F1 n1 F2 n2 (0, m)) = e * (h ^ (n - m - 1) * Sr m F1 n1 F2 n2 (0, m)) := by grind
  rw [this, a1]
  have : e * (e * (G 0 m ^ (n - m - 1) * G 0 m)) = (e * e) * (G 0 m ^ (n - m - 1) * G 0 m) := by grind
  rw [this, s1]
  simp
theorem Chn.next (ch : Chn F1 n1 F2 n2 F n G m l h) (hG : Dg G (m + 1)) (hT : Dg T (k + 1)) (hq : q.length <= n - m + 1) (hmn : m <= n) (hkm : k < m) (hl : G 0 m ≠ 0) (l0 : l ≠ 0) (h0 : h ≠ 0)
    (eq : ∀ c i, G 0 m ^ (n - m + 1) * F c i = l * h ^ (n - m) * T c i + mu q (G c) i) (hh : (n = m /\ h' = h) \/ (m < n /\ h ^ (n - m - 1) * h' = G 0 m ^ (n - m))) : Chn F1 n1 F2 n2 G m T k (G 0 m) h' := by
  intro j hj hjm
  obtain ⟨e, he, h1⟩ := ch j (by omega) (by omega)
  obtain ⟨e', he', h2⟩ := Agn (F := F) (n := n) (R := fun c i => l * h ^ (n - m) * T c i) (k := k) hG (fun i hi => by show l * h ^ (n - m) * T 0 i = 0; rw [hT i hi]; simp) eq hq hmn j hjm hj hkm
  refine ⟨e * e', he.mul he', fun c => ?_⟩
  have a1 := h1 c
  have a2 := h2 c
  rw [Ad3] at a2
  generalize Sr j F1 n1 F2 n2 c = S at *
  generalize Sr j F n G m c = s at *
  generalize Sr j G m T k c = s' at *
  generalize hlg : G 0 m = lg at *
  have s1 := he.sq
  have s2 := he'.sq
  obtain ⟨E, hE⟩ : ∃ E, m - j = E + 1 := ⟨m - j - 1, by omega⟩
  obtain ⟨d, hd⟩ : ∃ d, n - m = d := ⟨_, rfl⟩
  have hn1 : n - j - 1 = d + E := by omega
  have hnk : n - k + (k - j) = d + E + 1 := by omega
  rw [hE, hd] at a2
  rw [hE, hn1] at a1
  rw [show m - j - 1 = E by omega]
  rw [hd] at hh
  have key : lg ^ (n - k) * h ^ (d * (E + 1)) * (h' ^ E * lg ^ (k - j)) = (lg ^ (d + 1)) ^ (E + 1) * h ^ (d + E) := by
    have p1 : lg ^ (n - k) * lg ^ (k - j) = lg ^ (d + E + 1) := by rw [<- Int.pow_add, hnk]
    rcases hh with ⟨hz, rfl⟩ | ⟨hz, hh⟩
    . have d0 : d = 0 := by omega
      subst d0
      rw [Nat.zero_mul, Int.pow_zero, Int.mul_one, Nat.zero_add, Nat.zero_add, Int.pow_one]
      rw [Nat.zero_add] at p1
      rw [<- p1]
      grind
    . obtain ⟨d', hd'⟩ : ∃ d', d = d' + 1 := ⟨d - 1, by omega⟩
      subst hd'
      rw [show d' + 1 - 1 = d' by omega] at hh
      have p2 : (h ^ d' * h') ^ E = (lg ^ (d' + 1)) ^ E := by rw [hh]
      rw [Int.mul_pow] at p2
      have p3 : h ^ ((d' + 1) * (E + 1)) = (h ^ d') ^ E * h ^ (d' + 1 + E) := by
        rw [<- Int.pow_mul, <- Int.pow_add]
        congr 1
        rw [Nat.add_mul, Nat.mul_add]
        omega
      have p4 : (lg ^ (d' + 1 + 1)) ^ (E + 1) = (lg ^ (d' + 1)) ^ E * lg ^ (d' + 1 + E + 1) := by
        rw [<- Int.pow_mul, <- Int.pow_mul, <- Int.pow_add]
        congr 1
        rw [Nat.add_mul, Nat.mul_add]
        omega
      rw [p3, p4, <- p2, <- p1]
      grind
  have big : lg ^ (n - k) * h ^ (d * (E + 1)) ≠ 0 := Int.mul_ne_zero (Nq hl _) (Nq h0 _)
  have lne : l ^ (E + 1) ≠ 0 := Nq l0 _
  have b1 : (l * h ^ d) ^ (E + 1) = l ^ (E + 1) * h ^ (d * (E + 1)) := by rw [Int.mul_pow, <- Int.pow_mul]
  rw [b1] at a2
  refine Int.eq_of_mul_eq_mul_left big ?_
  refine Int.eq_of_mul_eq_mul_left lne ?_
  have c1 : l ^ (E + 1) * (lg ^ (n - k) * h ^ (d * (E + 1)) * (h' ^ E * lg ^ (k - j) * S)) = (lg ^ (d + 1)) ^ (E + 1) * (h ^ (d + E) * l ^ (E + 1) * S) := by
    have : l ^ (E + 1) * (lg ^ (n - k) * h ^ (d * (E + 1)) * (h' ^ E * lg ^ (k - j) * S)) = (lg ^ (n - k) * h ^ (d * (E + 1)) * (h' ^ E * lg ^ (k - j))) * l ^ (E + 1) * S := by grind
    rw [this, key]
    grind
  rw [c1, a1]
  have c2 : (lg ^ (d + 1)) ^ (E + 1) * (e * s) = e * ((lg ^ (d + 1)) ^ (E + 1) * s) := by grind
  rw [c2, a2]
  grind
end
end Z
namespace Z
theorem Aek {C : Type} {r : C -> Int} {M B : Nat} (hr : ∀ c, (r c).natAbs <= M) : ∀ (cs : List C) (f : List C -> Int), (∀ ds, ds.length + 1 = cs.length -> (f ds).natAbs <= B) -> (La r f cs).natAbs <= cs.length * (M * B)
  | [], f, _ => by simp [La]
  | c :: cs, f, h => by
    rw [La]
    have h1 : (f cs).natAbs <= B := h cs (by simp)
    have h2 := Aek hr cs (fun x => f (c :: x)) fun ds hd => h (c :: ds) (by simp; omega)
    have h3 : (r c * f cs).natAbs <= M * B := by rw [Int.natAbs_mul]; exact Nat.mul_le_mul (hr c) h1
    rw [List.length_cons, Nat.succ_mul]
    omega
theorem Aew {C : Type} {M L : Nat} (hL : 1 <= L * M) : ∀ (rows : List (C -> Int)) (cs : List C), (∀ r ∈ rows, ∀ c, (r c).natAbs <= M) -> cs.length <= L -> (Dt rows cs).natAbs <= (L * M) ^ rows.length
  | [], [], _, _ => by simp [Dt]
  | [], _ :: _, _, _ => by simp [Dt]
  | r :: rows, cs, h, hl => by
    show (La r (Dt rows) cs).natAbs <= _
    have h1 := Aek (r := r) (M := M) (B := (L * M) ^ rows.length) (h r List.mem_cons_self) cs (Dt rows) fun ds hd => Aew hL rows ds (fun s hs => h s (List.mem_cons_of_mem _ hs)) (by omega)
    rw [List.length_cons, Nat.pow_succ, Nat.mul_comm _ (L * M)]
    refine Nat.le_trans h1 ?_
    rw [Nat.mul_assoc]
    exact Nat.mul_le_mul_right _ hl
theorem Aeh (lo : Nat) : ∀ b, (dn lo b).length = b
  | 0 => rfl
  | b + 1 => by rw [dn, List.length_cons, Aeh lo b]
theorem Aa7 {F : Nat -> Nat -> Int} {M : Nat} (h : ∀ c i, (F c i).natAbs <= M) (a : Nat) (c : Nat × Nat) : (shr a F c).natAbs <= M := by
  unfold shr
  split
  . exact h _ _
  . simp
theorem Aej {F G : Nat -> Nat -> Int} {n m j b : Nat} (hF : ∀ c i, (F c i).natAbs <= 2 ^ b) (hG : ∀ c i, (G c i).natAbs <= 2 ^ b) (hn : j <= n) (hm : j <= m) (h64 : n + m - 2 * j <= 64) (c : Nat × Nat) : (Sr j F n G m c).natAbs <= 2 ^ ((b + 6) * (n + m - 2 * j)) := by
  unfold Sr
  have e : (2 : Nat) ^ 6 * 2 ^ b = 2 ^ (b + 6) := by rw [<- Nat.pow_add, Nat.add_comm]
  have p1 : 1 <= 2 ^ 6 * 2 ^ b := by rw [e]; exact Nat.one_le_two_pow
  have h := Aew (M := 2 ^ b) (L := 2 ^ 6) p1 (blk F (m - j) ++ blk G (n - j)) (dn (j + 1) (n + m - 2 * j - 1) ++ [c]) (fun r hr c => by
    rcases List.mem_append.mp hr with hr | hr
    . obtain ⟨s, _, rfl⟩ := Mz hr
      exact Aa7 hF _ _
    . obtain ⟨s, _, rfl⟩ := Mz hr
      exact Aa7 hG _ _) (by rw [List.length_append, Aeh, List.length_singleton]; show _ <= 64; omega)
  rw [List.length_append, Ox, Ox, e, <- Nat.pow_mul] at h
  rw [show m - j + (n - j) = n + m - 2 * j by omega] at h
  exact h
theorem Ag2 {F G : Nat -> Nat -> Int} {n m j l : Nat} (hF : ∀ c i, l <= i -> F c i = 0) (hG : ∀ c i, l <= i -> G c i = 0) (hn : n < l) (hm : m < l) (c i : Nat) (hi : 2 * l <= i) : Sr j F n G m (c, i) = 0 := by
  unfold Sr
  refine W6 (c := (c, i)) (fun r hr => ?_) (by simp)
  rcases List.mem_append.mp hr with hr | hr
  . obtain ⟨s, hs, rfl⟩ := Mz hr
    unfold shr
    split
    . exact hF _ _ (by show l <= i - s; omega)
    . rfl
  . obtain ⟨s, hs, rfl⟩ := Mz hr
    unfold shr
    split
    . exact hG _ _ (by show l <= i - s; omega)
    . rfl
theorem Afo (x y : Nat) : 4 * (x * y) <= (x + y) * (x + y) := by
  rcases Nat.le_total x y with h | h
  . obtain ⟨d, rfl⟩ := Nat.exists_eq_add_of_le h
    have : (x + (x + d)) * (x + (x + d)) = 4 * (x * (x + d)) + d * d := by grind
    omega
  . obtain ⟨d, rfl⟩ := Nat.exists_eq_add_of_le h
    have : (y + d + y) * (y + d + y) = 4 * ((y + d) * y) + d * d := by grind
    omega
theorem Yz {l b x n1 n2 s : Nat} (h1 : n1 < l) (h2 : n2 < l) (hx : x <= n1) (hs : s <= x) : 2 * (s * ((b + 6) * (n1 + n2 - 2 * x) + 1)) <= l * l * (b + 6) + 2 * l := by
  by_cases hz : n1 + n2 <= 2 * x
  . rw [show n1 + n2 - 2 * x = 0 by omega]
    have := Nat.zero_le (l * l * (b + 6))
    omega
  . have e1 : 2 * (x * (n1 + n2 - 2 * x)) <= l * l := by
      have h3 := Afo (2 * x) (n1 + n2 - 2 * x)
      have h4 : 2 * x + (n1 + n2 - 2 * x) = n1 + n2 := by omega
      rw [h4] at h3
      have h5 : (n1 + n2) * (n1 + n2) <= (2 * l) * (2 * l) := Nat.mul_le_mul (by omega) (by omega)
      have h6 : 4 * (2 * x * (n1 + n2 - 2 * x)) = 4 * (2 * (x * (n1 + n2 - 2 * x))) := by rw [Nat.mul_assoc]
      have h7 : (2 * l) * (2 * l) = 4 * (l * l) := by grind
      omega
    have e2 : s * ((b + 6) * (n1 + n2 - 2 * x)) <= x * ((b + 6) * (n1 + n2 - 2 * x)) := Nat.mul_le_mul_right _ hs
    have e3 : x * ((b + 6) * (n1 + n2 - 2 * x)) = (x * (n1 + n2 - 2 * x)) * (b + 6) := by grind
    have e4 := Nat.mul_le_mul_right (b + 6) e1
    have e5 : 2 * (x * (n1 + n2 - 2 * x)) * (b + 6) = 2 * (x * (n1 + n2 - 2 * x) * (b + 6)) := by rw [Nat.mul_assoc]
    rw [Nat.mul_add, Nat.mul_one]
    omega
end Z
namespace Z
def Dv (d f : List Int) : Prop := ∃ (c : Int) (u : List Int), c ≠ 0 /\ ∀ i, c * co f i = mu u (co d) i
theorem K3 (a : Int) (u : List Int) (f : Nat -> Int) (i : Nat) : mu (u.map (a * ·)) f i = a * mu u f i := congrFun (Gu f a u) i
theorem Hh {f g : Nat -> Int} (h : ∀ i, f i = g i) (p : List Int) (i : Nat) : mu p f i = mu p g i := by
  have : f = g := funext h
  rw [this]
theorem Dv.nil (d : List Int) : Dv d [] := ⟨1, [], by decide, fun i => by rw [Ba]; rfl⟩
theorem Dv.refl (d : List Int) : Dv d d := ⟨1, [1], by decide, fun i => by
  show 1 * co d i = 1 * co d i + sh (mu [] (co d)) i
  have : sh (mu [] (co d)) i = 0 := by cases i <;> rfl
  omega⟩
theorem Dv.congr {d f g : List Int} (h : Dv d f) (e : ∀ i, co f i = co g i) : Dv d g := by
  obtain ⟨c, u, hc, hu⟩ := h
  exact ⟨c, u, hc, fun i => by rw [<- e]; exact hu i⟩
theorem Dv.trans {d f g : List Int} (h1 : Dv d f) (h2 : Dv f g) : Dv d g := by
  obtain ⟨c, u, hc, hu⟩ := h1
  obtain ⟨e, v, he, hv⟩ := h2
  refine ⟨c * e, ml v u, Int.mul_ne_zero hc he, fun i => ?_⟩
  rw [Lj]
  have : mu v (fun k => c * co f k) i = c * mu v (co f) i := congrFun (Kz v c (co f)) i
  rw [<- Hh hu v i, this, <- hv]
  rw [Int.mul_assoc]
theorem Dv.comb {d f g h : List Int} (hf : Dv d f) (hg : Dv d g) {k : Int} (hk : k ≠ 0) {a b : List Int} (e : ∀ i, k * co h i = mu a (co f) i + mu b (co g) i) : Dv d h := by
  obtain ⟨c, u, hc, hu⟩ := hf
  obtain ⟨c', v, hc', hv⟩ := hg
  refine ⟨c * c' * k, al ((ml a u).map (c' * ·)) ((ml b v).map (c * ·)), Int.mul_ne_zero (Int.mul_ne_zero hc hc') hk, fun i => ?_⟩
  rw [Pq]
  dsimp only
  rw [K3, K3, Lj, Lj]
  have e1 : mu a (mu u (co d)) i = c * mu a (co f) i := by
    rw [<- Hh hu a i]
    exact congrFun (Kz a c (co f)) i
  have e2 : mu b (mu v (co d)) i = c' * mu b (co g) i := by
    rw [<- Hh hv b i]
    exact congrFun (Kz b c' (co g)) i
  rw [e1, e2, Int.mul_assoc, e]
  grind
theorem Dv.mul_left {d f : List Int} (h : Dv d f) (a : List Int) : Dv d (tm a f) := by
  obtain ⟨c, u, hc, hu⟩ := h
  refine ⟨c, ml a u, hc, fun i => ?_⟩
  rw [Lj, Cj, <- Hh hu a i]
  exact (congrFun (Kz a c (co f)) i).symm
theorem Dv.zero {f : List Int} (hf : Tr f) (h : Dv [] f) : f = [] := by
  obtain ⟨c, u, hc, hu⟩ := h
  refine hf.ext (.inl rfl) fun i => ?_
  have := hu i
  have e : mu u (co []) i = 0 := by
    have : mu u (fun _ => 0) i = 0 := congrFun (Q9 u) i
    rw [<- this]
    exact Hh (fun k => Ba k) u i
  rw [e] at this
  rw [Ba]
  rcases Int.mul_eq_zero.mp this with z | z
  . exact absurd z hc
  . exact z
theorem Dv.scale {d f g : List Int} (h : Dv d f) {a b : Int} (hb : b ≠ 0) (e : ∀ i, b * co g i = a * co f i) : Dv d g := by
  obtain ⟨c, u, hc, hu⟩ := h
  refine ⟨c * b, u.map (a * ·), Int.mul_ne_zero hc hb, fun i => ?_⟩
  rw [K3, <- hu, Int.mul_assoc, e]
  grind
theorem Dv.of_scale {d f g : List Int} (h : Dv d f) {a b : Int} (ha : a ≠ 0) (e : ∀ i, b * co g i = a * co d i) : Dv g f := by
  obtain ⟨c, u, hc, hu⟩ := h
  refine ⟨c * a, u.map (b * ·), Int.mul_ne_zero hc ha, fun i => ?_⟩
  rw [K3]
  have e1 : mu u (fun k => a * co d k) i = a * mu u (co d) i := congrFun (Kz u a (co d)) i
  have e2 : mu u (fun k => b * co g k) i = b * mu u (co g) i := congrFun (Kz u b (co g)) i
  rw [<- e2, Hh e u i, e1, <- hu]
  grind
theorem Dv.len {d f : List Int} (hd : Tr d) (hf : Tr f) (n : f ≠ []) (h : Dv d f) : d ≠ [] /\ d.length <= f.length := by
  have hd0 : d ≠ [] := fun z => by rw [z] at h; exact n (h.zero hf)
  refine ⟨hd0, ?_⟩
  obtain ⟨c, u, hc, hu⟩ := h
  have hcf : ∀ i, co (tm u d) i = c * co f i := fun i => by rw [Cj, hu]
  have ln : tm u d ≠ [] := fun z => by
    have := hcf (f.length - 1)
    rw [z, Ba] at this
    rcases Int.mul_eq_zero.mp this.symm with q | q
    . exact hc q
    . exact hf.lead n q
  have hu0 : trim u ≠ [] := fun z => ln (by
    refine (Fo u d).ext (.inl rfl) fun i => ?_
    rw [Cj, <- congrFun (Bq (co d) _ _ (Aw u)) i, z, Ba]
    rfl)
  have e1 : tm u d = tm (trim u) d := (Fo _ _).ext (Fo _ _) fun i => by rw [Cj, Cj, congrFun (Bq (co d) _ _ (Aw u)) i]
  have l1 := Nz (Bb u) hd hu0 hd0
  have l2 : (tm u d).length <= f.length := by
    refine Nat.le_of_not_lt fun z => ?_
    have := (Fo u d).lead ln
    rw [hcf, Bp (by omega)] at this
    simp at this
  have l3 := List.length_pos_iff.mpr hu0
  rw [e1] at l2
  omega
structure Gc (p q g : List Int) : Prop where
  tr : Tr g
  pl : pln g = g
  one : Dv g p
  two : Dv g q
  all : ∀ d, Dv d p -> Dv d q -> Dv d g
theorem Gc.symm {p q g : List Int} (h : Gc p q g) : Gc q p g := ⟨h.tr, h.pl, h.two, h.one, fun d a b => h.all d b a⟩
theorem Xf {g : List Int} (hg : Tr g) (n : g ≠ []) (e : pln g = g) : 0 < co g (g.length - 1) := by
  have := Qd hg n
  rw [e] at this
  exact this
theorem Ab2 {g h : List Int} (tg : Tr g) (th : Tr h) (pg : pln g = g) (ph : pln h = h) (a : Dv g h) (b : Dv h g) : g = h := by
  by_cases n : g = []
  . subst n
    exact (a.zero th).symm
  . have nh : h ≠ [] := fun z => by rw [z] at b; exact n (b.zero tg)
    have l1 := (a.len tg th nh).2
    have l2 := (b.len th tg n).2
    obtain ⟨c, u, hc, hu⟩ := a
    have hcf : ∀ i, co (tm u g) i = c * co h i := fun i => by rw [Cj, hu]
    have ln : tm u g ≠ [] := fun z => by
      have := hcf (h.length - 1)
      rw [z, Ba] at this
      rcases Int.mul_eq_zero.mp this.symm with q | q
      . exact hc q
      . exact th.lead nh q
    have hu0 : trim u ≠ [] := fun z => ln (by
      refine (Fo u g).ext (.inl rfl) fun i => ?_
      rw [Cj, <- congrFun (Bq (co g) _ _ (Aw u)) i, z, Ba]
      rfl)
    have e1 : tm u g = tm (trim u) g := (Fo _ _).ext (Fo _ _) fun i => by rw [Cj, Cj, congrFun (Bq (co g) _ _ (Aw u)) i]
    have l3 := Nz (Bb u) tg hu0 n
    have l4 : (tm u g).length <= h.length := by
      refine Nat.le_of_not_lt fun z => ?_
      have := (Fo u g).lead ln
      rw [hcf, Bp (by omega)] at this
      simp at this
    rw [e1] at l4
    have l5 := List.length_pos_iff.mpr hu0
    have lu : (trim u).length = 1 := by omega
    obtain ⟨k, hk⟩ : ∃ k, trim u = [k] := by
      match hm : trim u, lu with
      | [k], _ => exact ⟨k, rfl⟩
    have hk0 : k ≠ 0 := by
      have := (Bb u).lead hu0
      rw [hk] at this
      exact this
    have eq : ∀ i, k * co g i = c * co h i := fun i => by
      rw [<- hcf, e1, Cj, hk]
      show k * co g i = k * co g i + sh (mu [] (co g)) i
      have : sh (mu [] (co g)) i = 0 := by cases i <;> rfl
      omega
    have q1 : Prim g := by have := Iu tg n; rw [pg] at this; exact this
    have q2 : Prim h := by have := Iu th nh; rw [ph] at this; exact this
    have r := X4 hk0 hc q1 q2 eq (Xf tg n pg) (fun i hi => Bp (by omega)) (Xf th nh ph) (fun i hi => Bp (by omega))
    exact tg.ext th r.2
theorem Gc.uniq {p q g h : List Int} (a : Gc p q g) (b : Gc p q h) : g = h := Ab2 a.tr b.tr a.pl b.pl (b.all g a.one a.two) (a.all h b.one b.two)
theorem Pa {r : List Int} (hr : Tr r) : Dv (pln r) r /\ Dv r (pln r) := by
  by_cases n : r = []
  . subst n
    exact ⟨Dv.nil _, Dv.refl _⟩
  . have h := Ma hr n
    have u0 := R5 hr n
    exact ⟨(Dv.refl (pln r)).scale (a := un r) (b := 1) (by decide) fun i => by rw [h]; omega, (Dv.refl r).scale (a := 1) (b := un r) u0 fun i => by rw [h]; omega⟩
theorem Np {r : List Int} (hr : Tr r) : pln (pln r) = pln r := by
  by_cases n : r = []
  . subst n; rfl
  . exact (Aay (Ls hr) (R5 hr n) hr fun k => (Ma hr n k).symm).symm
def O5 (f g p q : List Int) : Prop := ∀ d, (Dv d f /\ Dv d g) ↔ (Dv d p /\ Dv d q)
theorem O5.refl (f g : List Int) : O5 f g f g := fun _ => Iff.rfl
theorem O5.trans {f g p q r s : List Int} (h : O5 f g p q) (k : O5 p q r s) : O5 f g r s := fun d => (h d).trans (k d)
theorem Y7 {f g t q : List Int} {L k : Int} (hL : L ≠ 0) (hk : k ≠ 0) (e : ∀ i, L * co f i = k * co t i + mu q (co g) i) : O5 g t f g := fun d => by
  constructor
  . rintro ⟨a, b⟩
    refine ⟨Dv.comb a b hL (a := q) (b := [k]) fun i => ?_, a⟩
    rw [e]
    have : mu [k] (co t) i = k * co t i := by
      show k * co t i + sh (mu [] (co t)) i = _
      have : sh (mu [] (co t)) i = 0 := by cases i <;> rfl
      omega
    rw [this]
    omega
  . rintro ⟨a, b⟩
    refine ⟨b, Dv.comb a b hk (a := [L]) (b := q.map (-1 * ·)) fun i => ?_⟩
    rw [K3]
    have : mu [L] (co f) i = L * co f i := by
      show L * co f i + sh (mu [] (co f)) i = _
      have : sh (mu [] (co f)) i = 0 := by cases i <;> rfl
      omega
    rw [this, e]
    omega
theorem Ahn {f p q : List Int} (hf : Tr f) (h : O5 f [] p q) : Gc p q (pln f) := by
  have ⟨a, b⟩ := Pa hf
  have ⟨c, d⟩ := (h (pln f)).mp ⟨a, Dv.nil _⟩
  exact ⟨Ls hf, Np hf, c, d, fun x hx hy => ((h x).mpr ⟨hx, hy⟩).1.trans b⟩
theorem Py (c : Int) (hc : c ≠ 0) (f : List Int) : Dv [c] f := ⟨c, f, hc, fun i => by
  have e : mu f (fun i => c * if i = 0 then 1 else 0) i = c * mu f (fun i => if i = 0 then 1 else 0) i := congrFun (Kz f c _) i
  have : co [c] = fun i => c * if i = 0 then 1 else 0 := by
    funext i
    cases i with
    | zero => rw [Ca]; simp
    | succ i => rw [Cm, Ba]; simp
  rw [this, e, Yb]⟩
theorem Adc {f p q : List Int} {c : Int} (hc : c ≠ 0) (h : O5 f [c] p q) : Gc p q (pln [c]) := by
  have tc : Tr [c] := .inr ⟨by simp, by simpa using hc⟩
  have ⟨a, b⟩ := Pa tc
  have u : ∀ x, Dv (pln [c]) x := fun x => a.trans (Py c hc x)
  exact ⟨Ls tc, Np tc, u p, u q, fun x hx hy => ((h x).mpr ⟨hx, hy⟩).2.trans b⟩
end Z
namespace Z
theorem Abr : ∀ (d n : Nat) (f : Nat -> Nat), (∀ i, i < n -> f i < d) -> (∀ i j, i < n -> j < n -> f i = f j -> i = j) -> n <= d
  | 0, n, f, h, _ => by
    refine Nat.le_of_not_lt fun z => ?_
    exact absurd (h 0 (by omega)) (Nat.not_lt_zero _)
  | d + 1, n, f, h, inj => by
    by_cases hx : ∃ i, i < n /\ f i = d
    . obtain ⟨i0, h0, e0⟩ := hx
      have := Abr d (n - 1) (fun k => f (if k < i0 then k else k + 1)) (fun i hi => by
        have a := h (if i < i0 then i else i + 1) (by split <;> omega)
        have b : f (if i < i0 then i else i + 1) ≠ d := fun z => by
          have := inj _ _ (by split <;> omega) h0 (z.trans e0.symm)
          split at this <;> omega
        omega) (fun i j hi hj e => by
        have := inj _ _ (by split <;> omega) (by split <;> omega) e
        split at this <;> split at this <;> omega)
      omega
    . have := Abr d n f (fun i hi => by
        have a := h i hi
        have b : f i ≠ d := fun z => hx ⟨i, hi, z⟩
        omega) inj
      omega
def pm (m : Nat) : Nat -> Nat -> Nat -> Nat
  | 0, _, _ => 1 % m
  | k + 1, b, e => if e % 2 = 1 then b * pm m k (b * b % m) (e / 2) % m else pm m k (b * b % m) (e / 2) % m
theorem Agw (m : Nat) : ∀ (k b e : Nat), e < 2 ^ k -> pm m k b e = b ^ e % m
  | 0, b, e, h => by
    have : e = 0 := by simp at h; exact h
    subst this
    simp [pm]
  | k + 1, b, e, h => by
    have h2 : e / 2 < 2 ^ k := by rw [Nat.pow_succ] at h; omega
    have ih := Agw m k (b * b % m) (e / 2) h2
    have e1 : (b * b % m) ^ (e / 2) % m = (b * b) ^ (e / 2) % m := (Nat.pow_mod (b * b) (e / 2) m).symm
    have e2 : (b * b) ^ (e / 2) = b ^ (2 * (e / 2)) := by rw [Nat.pow_mul, Nat.pow_succ, Nat.pow_one]
    rw [pm, ih, e1, e2]
    by_cases o : e % 2 = 1
    . rw [if_pos o]
      have e3 : b ^ e = b * b ^ (2 * (e / 2)) := by
        rw [<- Nat.pow_succ']
        congr 1
        omega
      rw [e3]
      rw [Nat.mul_mod b (b ^ (2 * (e / 2)) % m), Nat.mod_mod, <- Nat.mul_mod]
    . rw [if_neg o, Nat.mod_mod]
      congr 2
      omega
section
variable {d g : Nat}
def Lv (d g e : Nat) : Prop := ∃ k : Int, ((g ^ e : Nat) : Int) = 1 + d * k
theorem Lv.mul {a b : Nat} (ha : Lv d g a) (hb : Lv d g b) : Lv d g (a + b) := by
  obtain ⟨x, hx⟩ := ha
  obtain ⟨y, hy⟩ := hb
  refine ⟨x + y + d * x * y, ?_⟩
  rw [Nat.pow_add, Int.natCast_mul, hx, hy]
  grind
theorem Lv.many {a : Nat} (ha : Lv d g a) : ∀ n, Lv d g (n * a)
  | 0 => ⟨0, by simp⟩
  | n + 1 => by
    rw [Nat.add_mul, Nat.one_mul]
    exact (ha.many n).mul ha
theorem Lv.diff {a b : Nat} (ha : Lv d g a) (hb : Lv d g (a + b)) : Lv d g b := by
  obtain ⟨x, hx⟩ := ha
  obtain ⟨y, hy⟩ := hb
  refine ⟨y - x * (g ^ b : Nat), ?_⟩
  rw [Nat.pow_add, Int.natCast_mul, hx] at hy
  grind
theorem Lv.gcd {a : Nat} : ∀ {b : Nat}, Lv d g a -> Lv d g b -> Lv d g (Nat.gcd a b) := fun {b} => by
  induction a using Nat.strongRecOn generalizing b with
  | _ a ih =>
    intro ha hb
    by_cases z : a = 0
    . subst z; rw [Nat.gcd_zero_left]; exact hb
    . rw [Nat.gcd_rec]
      have h1 : Lv d g (b % a) := by
        have := Nat.div_add_mod b a
        rw [<- this] at hb
        refine Lv.diff (a := a * (b / a)) ?_ hb
        rw [Nat.mul_comm]
        exact ha.many _
      exact ih (b % a) (Nat.mod_lt _ (by omega)) h1 ha
end
theorem Ad9 {f : Nat} (h : ∀ r, r <= f -> r ∣ f -> r = 1 \/ r = f) (hf : 0 < f) {r : Nat} (h2 : 2 <= r) (hd : r ∣ f) : r = f := by
  rcases h r (Nat.le_of_dvd hf hd) hd with z | z
  . omega
  . exact z
def M61 : Nat := 2305843009213693951
set_option maxRecDepth 100000 in
theorem Ag1 {d : Nat} (h : d ∣ M61) (h1 : 1 < d) : d = M61 := by
  have dpos : 0 < d := by omega
  have full : Lv d 37 (M61 - 1) := by
    have e : pm M61 61 37 (M61 - 1) = 1 := by decide +kernel
    rw [Agw M61 61 37 (M61 - 1) (by decide)] at e
    obtain ⟨t, ht⟩ := h
    refine ⟨(t * (37 ^ (M61 - 1) / M61) : Nat), ?_⟩
    have q := Nat.div_add_mod (37 ^ (M61 - 1)) M61
    rw [e] at q
    have q2 : ((37 ^ (M61 - 1) : Nat) : Int) = ((M61 * (37 ^ (M61 - 1) / M61) + 1 : Nat) : Int) := by rw [q]
    rw [q2]
    generalize 37 ^ (M61 - 1) / M61 = z
    have ht' : ((M61 : Nat) : Int) = (d : Int) * t := by rw [<- Int.natCast_mul, <- ht]
    rw [Int.natCast_add, Int.natCast_mul, ht', Int.natCast_mul]
    grind
  have part : ∀ f : Nat, f ∣ M61 - 1 -> Nat.gcd (pm M61 61 37 ((M61 - 1) / f) + (M61 - 1)) M61 = 1 -> ¬ Lv d 37 ((M61 - 1) / f) := fun f hf hg hl => by
    have lt : (M61 - 1) / f < 2 ^ 61 := Nat.lt_of_le_of_lt (Nat.div_le_self _ _) (by decide)
    rw [Agw M61 61 37 _ lt] at hg
    obtain ⟨k, hk⟩ := hl
    have hd : d ∣ 37 ^ ((M61 - 1) / f) % M61 + (M61 - 1) := by
      obtain ⟨t, ht⟩ := h
      have q := Nat.div_add_mod (37 ^ ((M61 - 1) / f)) M61
      generalize 37 ^ ((M61 - 1) / f) = w at *
      have ht' : ((M61 : Nat) : Int) = (d : Int) * t := by rw [<- Int.natCast_mul, <- ht]
      have m1 : 1 <= M61 := by decide
      have : ((d : Nat) : Int) ∣ ((w % M61 + (M61 - 1) : Nat) : Int) := by
        refine ⟨k + t - t * ((w / M61 : Nat) : Int), ?_⟩
        have q2 : (w : Int) = (d : Int) * t * ((w / M61 : Nat) : Int) + ((w % M61 : Nat) : Int) := by
          rw [<- ht', <- Int.natCast_mul, <- Int.natCast_add, q]
        have q3 : ((w % M61 + (M61 - 1) : Nat) : Int) = ((w % M61 : Nat) : Int) + (M61 : Int) - 1 := by omega
        rw [q3, ht']
        grind
      exact Int.natCast_dvd_natCast.mp this
    have := Nat.dvd_gcd hd h
    rw [hg] at this
    have := Nat.le_of_dvd (by decide) this
    omega
  have inj : ∀ i j, i < j -> j < M61 - 1 -> 37 ^ i % d ≠ 37 ^ j % d := fun i j hij hj e => by
    have l1 : Lv d 37 (j - i) := by
      have l2 : Lv d 37 (M61 - 1 + (j - i)) := by
        obtain ⟨x, hx⟩ := full
        have q1 := Nat.div_add_mod (37 ^ i) d
        have q2 := Nat.div_add_mod (37 ^ j) d
        rw [e] at q1
        have dif : ((37 ^ j : Nat) : Int) = ((37 ^ i : Nat) : Int) + d * (((37 ^ j / d : Nat) : Int) - ((37 ^ i / d : Nat) : Int)) := by
          have a1 : ((37 ^ i : Nat) : Int) = d * ((37 ^ i / d : Nat) : Int) + ((37 ^ j % d : Nat) : Int) := by
            rw [<- Int.natCast_mul, <- Int.natCast_add, q1]
          have a2 : ((37 ^ j : Nat) : Int) = d * ((37 ^ j / d : Nat) : Int) + ((37 ^ j % d : Nat) : Int) := by
            rw [<- Int.natCast_mul, <- Int.natCast_add, q2]
          rw [a1, a2]
          grind
        have e1 : 37 ^ (M61 - 1 + (j - i)) = 37 ^ (M61 - 1 - i) * 37 ^ j := by
          rw [<- Nat.pow_add]
          congr 1
          omega
        have e2 : 37 ^ (M61 - 1) = 37 ^ (M61 - 1 - i) * 37 ^ i := by
          rw [<- Nat.pow_add]
          congr 1
          omega
        refine ⟨x + ((37 ^ (M61 - 1 - i) : Nat) : Int) * (((37 ^ j / d : Nat) : Int) - ((37 ^ i / d : Nat) : Int)), ?_⟩
        rw [e1, Int.natCast_mul, dif]
        rw [e2, Int.natCast_mul] at hx
        grind
      exact full.diff l2
    have l3 := Lv.gcd full l1
    have gd : Nat.gcd (M61 - 1) (j - i) ∣ M61 - 1 := Nat.gcd_dvd_left _ _
    have gle : Nat.gcd (M61 - 1) (j - i) <= j - i := Nat.le_of_dvd (by omega) (Nat.gcd_dvd_right _ _)
    obtain ⟨t, ht⟩ := gd
    generalize Nat.gcd (M61 - 1) (j - i) = e at *
    have t1 : t ≠ 1 := fun z => by rw [z] at ht; omega
    obtain ⟨r, r2, rd, rp⟩ := Ye t t1
    have rM : r ∣ M61 - 1 := by rw [ht]; exact Nat.dvd_trans rd (Nat.dvd_mul_left _ _)
    have l4 : Lv d 37 ((M61 - 1) / r) := by
      obtain ⟨s, hs⟩ := rd
      have : (M61 - 1) / r = s * e := by
        rw [ht, hs, show e * (r * s) = r * (s * e) by grind]
        exact Nat.mul_div_cancel_left _ (by omega)
      rw [this]
      exact l3.many s
    have fac : ((M61 - 1 : Nat) : Int) = 2 * (3 * (3 * (5 * (5 * (7 * (11 * (13 * (31 * (41 * (61 * (151 * (331 * 1321)))))))))))) := by decide
    have rM' : (r : Int) ∣ ((M61 - 1 : Nat) : Int) := Int.natCast_dvd_natCast.mpr rM
    rw [fac] at rM'
    have dn : ∀ {f : Nat}, (r : Int) ∣ (f : Nat) -> r ∣ f := fun h => Int.natCast_dvd_natCast.mp h
    have fin : ∀ {f : Nat}, (r : Int) ∣ (f : Nat) -> (∀ r, r <= f -> r ∣ f -> r = 1 \/ r = f) -> 0 < f -> f ∣ M61 - 1 -> Nat.gcd (pm M61 61 37 ((M61 - 1) / f) + (M61 - 1)) M61 = 1 -> False := fun hd hs hf hm hg => by
      have := Ad9 hs hf r2 (dn hd)
      subst this
      exact part _ hm hg l4
    rcases rp _ _ rM' with z | z
    . exact fin (f := 2) z (by decide) (by decide) (by decide) (by decide +kernel)
    rcases rp _ _ z with z | z
    . exact fin (f := 3) z (by decide) (by decide) (by decide) (by decide +kernel)
    rcases rp _ _ z with z | z
    . exact fin (f := 3) z (by decide) (by decide) (by decide) (by decide +kernel)
    rcases rp _ _ z with z | z
    . exact fin (f := 5) z (by decide) (by decide) (by decide) (by decide +kernel)
    rcases rp _ _ z with z | z
    . exact fin (f := 5) z (by decide) (by decide) (by decide) (by decide +kernel)
    rcases rp _ _ z with z | z
    . exact fin (f := 7) z (by decide) (by decide) (by decide) (by decide +kernel)
    rcases rp _ _ z with z | z
    . exact fin (f := 11) z (by decide) (by decide) (by decide) (by decide +kernel)
    rcases rp _ _ z with z | z
    . exact fin (f := 13) z (by decide) (by decide) (by decide) (by decide +kernel)
    rcases rp _ _ z with z | z
    . exact fin (f := 31) z (by decide) (by decide) (by decide) (by decide +kernel)
    rcases rp _ _ z with z | z
    . exact fin (f := 41) z (by decide) (by decide) (by decide) (by decide +kernel)
    rcases rp _ _ z with z | z
    . exact fin (f := 61) z (by decide) (by decide) (by decide) (by decide +kernel)
    rcases rp _ _ z with z | z
    . exact fin (f := 151) z (by decide) (by decide) (by decide) (by decide +kernel)
    rcases rp _ _ z with z | z
    . exact fin (f := 331) z (by decide +kernel) (by decide) (by decide) (by decide +kernel)
    . exact fin (f := 1321) z (by decide +kernel) (by decide) (by decide) (by decide +kernel)
  have big : M61 - 1 <= d := by
    refine Abr d (M61 - 1) (fun i => 37 ^ i % d) (fun i _ => Nat.mod_lt _ dpos) fun i j hi hj e => ?_
    rcases Nat.lt_trichotomy i j with z | z | z
    . exact absurd e (inj i j z hj)
    . exact z
    . exact absurd e.symm (inj j i z hi)
  obtain ⟨t, ht⟩ := h
  have t1 : t = 1 := by
    have : t < 2 := by
      refine Nat.lt_of_not_le fun z => ?_
      have := Nat.mul_le_mul big z
      rw [<- ht] at this
      exact absurd this (by decide)
    have : t ≠ 0 := fun z => by rw [z, Nat.mul_zero] at ht; exact absurd ht (by decide)
    omega
  rw [t1] at ht
  omega
theorem Af8 {a : Int} (h : ¬ (2305843009213693951 : Int) ∣ a) : Int.gcd a 2305843009213693951 = 1 := by
  have h1 : Int.gcd a 2305843009213693951 ∣ M61 := by
    have := Int.gcd_dvd_right a 2305843009213693951
    exact Int.natCast_dvd_natCast.mp this
  by_cases z : Int.gcd a 2305843009213693951 = 1
  . exact z
  . exfalso
    have p : 0 < Int.gcd a 2305843009213693951 := Int.gcd_pos_of_ne_zero_right _ (by decide)
    have e := Ag1 h1 (by omega)
    have := Int.gcd_dvd_left a 2305843009213693951
    rw [e] at this
    exact h this
end Z
namespace Z
theorem Aa5 (c : Int) (j : Nat) (f : Nat -> Int) (i : Nat) : mu (List.replicate j 0 ++ [c]) f i = if j <= i then c * f (i - j) else 0 := by
  rw [M8, T3, List.length_replicate, Int.zero_add]
theorem Aem {q : List Int} (tq : Tr q) (hq : q ≠ []) : ∀ (n : Nat) (p : List Int), p.length <= n -> ∃ (s : Int) (u r : List Int), s ≠ 0 /\ (∀ k, s * co p k = mu u (co q) k + co r k) /\ Tr r /\ r.length < q.length
  | 0, p, h => ⟨1, [], [], by decide, fun k => by rw [Bp (by omega), Ba]; rfl, .inl rfl, List.length_pos_iff.mpr hq⟩
  | n + 1, p, h => by
    have hl := List.length_pos_iff.mpr hq
    by_cases hp : p.length < q.length
    . exact ⟨1, [], trim p, by decide, fun k => by rw [Aw, Int.one_mul]; show co p k = 0 + co p k; omega, Bb _, Nat.lt_of_le_of_lt ((Bb p).len fun i => Aw p i) hp⟩
    . obtain ⟨l, hlq⟩ : ∃ l, l = co q (q.length - 1) := ⟨_, rfl⟩
      have l0 : l ≠ 0 := by rw [hlq]; exact tq.lead hq
      obtain ⟨c, hc⟩ : ∃ c, c = co p (p.length - 1) := ⟨_, rfl⟩
      obtain ⟨j, hj⟩ : ∃ j, j = p.length - q.length := ⟨_, rfl⟩
      have e1 : ∀ k, co (al (p.map (l * ·)) ((ml (List.replicate j 0 ++ [c]) q).map (-1 * ·))) k = l * co p k - (if j <= k then c * co q (k - j) else 0) := fun k => by
        rw [Ph, Ck, Ck, Ov, Aa5]
        omega
      obtain ⟨s, u, r, hs, he, tr, lr⟩ := Aem tq hq n (trim (al (p.map (l * ·)) ((ml (List.replicate j 0 ++ [c]) q).map (-1 * ·)))) (by
        have h1 := (Bb (al (p.map (l * ·)) ((ml (List.replicate j 0 ++ [c]) q).map (-1 * ·)))).len (q := (trim (al (p.map (l * ·)) ((ml (List.replicate j 0 ++ [c]) q).map (-1 * ·)))).take n) fun k => by
          rw [Kc]
          split
          . rfl
          . rw [Aw, e1, if_pos (by omega)]
            by_cases hk : k = p.length - 1
            . rw [hk, <- hc, show p.length - 1 - j = q.length - 1 by omega, <- hlq]
              grind
            . rw [Bp (p := p) (by omega), Bp (p := q) (by omega)]
              simp
        rw [List.length_take] at h1
        omega)
      refine ⟨s * l, al u ((List.replicate j 0 ++ [c]).map (s * ·)), r, Int.mul_ne_zero hs l0, fun k => ?_, tr, lr⟩
      rw [Pq]
      dsimp only
      rw [K3, Aa5]
      have := he k
      rw [Aw, e1] at this
      rw [Int.mul_assoc]
      have e2 : s * (l * co p k) = s * (l * co p k - (if j <= k then c * co q (k - j) else 0)) + s * (if j <= k then c * co q (k - j) else 0) := by rw [Int.mul_sub]; omega
      rw [e2, this]
      omega
theorem bez : ∀ (n : Nat) (t s : List Int), t.length <= n -> Tr t -> ∃ (g a b : List Int) (c : Int), c ≠ 0 /\ Dv g s /\ Dv g t /\ ∀ i, c * co g i = mu a (co s) i + mu b (co t) i
  | n, t, s, h, tt => by
    by_cases ht : t = []
    . subst ht
      refine ⟨s, [1], [], 1, by decide, Dv.refl _, Dv.nil _, fun i => ?_⟩
      show 1 * co s i = 1 * co s i + sh (mu [] (co s)) i + 0
      have : sh (mu [] (co s)) i = 0 := by cases i <;> rfl
      omega
    . match n with
      | 0 => exact absurd (List.eq_nil_of_length_eq_zero (by omega)) ht
      | n + 1 =>
        obtain ⟨k, u, r, hk, he, tr, lr⟩ := Aem tt ht s.length s (Nat.le_refl _)
        obtain ⟨g, a, b, c, hc, h1, h2, h3⟩ := bez n r t (by omega) tr
        refine ⟨g, b.map (k * ·), al a ((ml b u).map (-1 * ·)), c, hc, Dv.comb h1 h2 hk (a := u) (b := [1]) fun i => ?_, h1, fun i => ?_⟩
        . rw [he]
          have : mu [1] (co r) i = co r i := by
            show 1 * co r i + sh (mu [] (co r)) i = _
            have : sh (mu [] (co r)) i = 0 := by cases i <;> rfl
            omega
          rw [this]
        . rw [h3, K3, Pq]
          dsimp only
          rw [K3, Lj]
          have e : mu b (co r) i = mu b (fun j => k * co s j - mu u (co t) j) i := Hh (fun j => by have := he j; omega) b i
          have e2 := congrFun (Ny b (fun j => k * co s j - mu u (co t) j) (mu u (co t))) i
          have e3 : (fun j => k * co s j - mu u (co t) j + mu u (co t) j) = fun j => k * co s j := by funext j; omega
          rw [e3] at e2
          have e4 : mu b (fun j => k * co s j) i = k * mu b (co s) i := congrFun (Kz b k (co s)) i
          rw [e4] at e2
          rw [e]
          omega
theorem Gc.bez {p q g : List Int} (tq : Tr q) (h : Gc p q g) : ∃ (a b : List Int) (c : Int), c ≠ 0 /\ ∀ i, c * co g i = mu a (co p) i + mu b (co q) i := by
  obtain ⟨g', a, b, c, hc, h1, h2, h3⟩ := Z.bez q.length q p (Nat.le_refl _) tq
  obtain ⟨e, w, he, hw⟩ := h.all g' h1 h2
  refine ⟨ml w a, ml w b, c * e, Int.mul_ne_zero hc he, fun i => ?_⟩
  rw [Lj, Lj, Int.mul_assoc, hw]
  have e1 : mu w (fun k => c * co g' k) i = c * mu w (co g') i := congrFun (Kz w c (co g')) i
  rw [<- e1, Hh h3 w i]
  exact congrFun (Ny w (mu a (co p)) (mu b (co q))) i
theorem Dv.times {d e : List Int} (h : Dv d e) (f : List Int) : Dv (tm f d) (tm f e) := by
  obtain ⟨c, u, hc, hu⟩ := h
  refine ⟨c, u, hc, fun i => ?_⟩
  rw [Cj]
  have e1 : mu u (co (tm f d)) i = mu u (mu f (co d)) i := Hh (fun k => Cj f d k) u i
  have e2 : mu u (mu f (co d)) i = mu f (mu u (co d)) i := by
    have a1 := congrFun (Lj (co d) u f) i
    have a2 := congrFun (Lj (co d) f u) i
    rw [<- a1, <- a2]
    refine congrFun (Bq (co d) _ _ fun k => ?_) i
    rw [Ov, Ov, Ik]
  rw [e1, e2, <- Hh hu f i]
  exact (congrFun (Kz f c (co e)) i).symm
theorem Gc.times {s t g0 f : List Int} (tt : Tr t) (h : Gc s t g0) : Gc (tm f s) (tm f t) (pln (tm f g0)) := by
  have tr := Fo f g0
  have ⟨a, b⟩ := Pa tr
  obtain ⟨x, y, c, hc, hb⟩ := h.bez tt
  refine ⟨Ls tr, Np tr, a.trans (h.one.times f), a.trans (h.two.times f), fun d h1 h2 => Dv.trans (Dv.comb h1 h2 hc (a := x) (b := y) fun i => ?_) b⟩
  rw [Cj]
  have sw : ∀ (u v : List Int), mu u (co (tm f v)) i = mu f (mu u (co v)) i := fun u v => by
    have e1 : mu u (co (tm f v)) i = mu u (mu f (co v)) i := Hh (fun k => Cj f v k) u i
    rw [e1]
    have a1 := congrFun (Lj (co v) u f) i
    have a2 := congrFun (Lj (co v) f u) i
    rw [<- a1, <- a2]
    refine congrFun (Bq (co v) _ _ fun k => ?_) i
    rw [Ov, Ov, Ik]
  rw [sw, sw]
  have e1 : mu f (fun k => c * co g0 k) i = c * mu f (co g0) i := congrFun (Kz f c (co g0)) i
  rw [<- e1, Hh hb f i]
  exact congrFun (Ny f (mu x (co s)) (mu y (co t))) i
end Z
namespace Z
def Dm (t : Int) (d f : List Int) : Prop := ∃ u : List Int, ∀ i, t ∣ co f i - mu u (co d) i
theorem Agp (p : List Int) (f g : Nat -> Int) (i : Nat) : mu p f i - mu p g i = mu p (fun k => f k - g k) i := by
  have h1 := congrFun (Ny p (fun k => f k - g k) g) i
  have h2 : (fun k => f k - g k + g k) = f := by funext k; omega
  rw [h2] at h1
  omega
theorem Wm {t : Int} {f g : Nat -> Int} (h : ∀ i, t ∣ f i - g i) (p : List Int) (i : Nat) : t ∣ mu p f i - mu p g i := by
  rw [Agp]
  exact Z6 t p _ i fun j _ => h j
theorem X3 {t a b c : Int} (h1 : t ∣ a - b) (h2 : t ∣ b - c) : t ∣ a - c := by
  have := Int.dvd_add h1 h2
  rw [show a - b + (b - c) = a - c by omega] at this
  exact this
theorem T7 {t a b : Int} (h : t ∣ a - b) : t ∣ b - a := by
  have := (Int.dvd_neg (a := t) (b := a - b)).mpr h
  rw [show -(a - b) = b - a by omega] at this
  exact this
theorem Dm.refl (t : Int) (d : List Int) : Dm t d d := ⟨[1], fun i => by
  have : mu [1] (co d) i = co d i := by
    show 1 * co d i + sh (mu [] (co d)) i = _
    have : sh (mu [] (co d)) i = 0 := by cases i <;> rfl
    omega
  rw [this, Int.sub_self]
  exact Int.dvd_zero _⟩
theorem Dm.nil (t : Int) (d : List Int) : Dm t d [] := ⟨[], fun i => by
  rw [Ba]
  exact ⟨0, by simp [mu]⟩⟩
theorem Dm.comb {t : Int} {d f g h : List Int} (hf : Dm t d f) (hg : Dm t d g) {a b : List Int} (e : ∀ i, t ∣ co h i - (mu a (co f) i + mu b (co g) i)) : Dm t d h := by
  obtain ⟨u, hu⟩ := hf
  obtain ⟨v, hv⟩ := hg
  refine ⟨al (ml a u) (ml b v), fun i => ?_⟩
  rw [Pq]
  dsimp only
  rw [Lj, Lj]
  have h1 := Wm hu a i
  have h2 := Wm hv b i
  have h3 := Int.dvd_add h1 h2
  refine X3 (e i) ?_
  rw [show mu a (co f) i + mu b (co g) i - (mu a (mu u (co d)) i + mu b (mu v (co d)) i) = mu a (co f) i - mu a (mu u (co d)) i + (mu b (co g) i - mu b (mu v (co d)) i) by omega]
  exact h3
theorem Aiv (k : Int) (f : Nat -> Int) (i : Nat) : mu [k] f i = k * f i := by
  show k * f i + sh (mu [] f) i = _
  have : sh (mu [] f) i = 0 := by cases i <;> rfl
  omega
theorem Dm.by {t : Int} {d f g : List Int} (h : Dm t d f) {k : Int} (e : ∀ i, t ∣ co g i - k * co f i) : Dm t d g :=
  Dm.comb h (Dm.nil t d) (a := [k]) (b := []) fun i => by
    rw [Aiv]
    have : mu [] (co []) i = 0 := rfl
    rw [this, Int.add_zero]
    exact e i
theorem Dm.congr {t : Int} {d f g : List Int} (h : Dm t d f) (e : ∀ i, t ∣ co g i - co f i) : Dm t d g := h.by (k := 1) fun i => by rw [Int.one_mul]; exact e i
theorem Dm.trans {t : Int} {d f g : List Int} (h1 : Dm t d f) (h2 : Dm t f g) : Dm t d g := by
  obtain ⟨v, hv⟩ := h2
  exact Dm.comb h1 (Dm.nil t d) (a := v) (b := []) fun i => by
    have : mu [] (co []) i = 0 := rfl
    rw [this, Int.add_zero]
    exact hv i
def Agh (t : Int) (f g p q : List Int) : Prop := ∀ d, (Dm t d f /\ Dm t d g) ↔ (Dm t d p /\ Dm t d q)
theorem Zi {t : Int} {f g r u : List Int} (e : ∀ i, t ∣ co f i - (mu u (co g) i + co r i)) : Agh t g r f g := fun d => by
  constructor
  . rintro ⟨a, b⟩
    refine ⟨Dm.comb a b (a := u) (b := [1]) fun i => ?_, a⟩
    rw [Aiv, Int.one_mul]
    exact e i
  . rintro ⟨a, b⟩
    refine ⟨b, Dm.comb a b (a := [1]) (b := u.map (-1 * ·)) fun i => ?_⟩
    rw [Aiv]
    have : mu (u.map (-1 * ·)) (co g) i = -1 * mu u (co g) i := congrFun (Gu (co g) (-1) u) i
    rw [this]
    have h := T7 (e i)
    rw [show co r i - (1 * co f i + -1 * mu u (co g) i) = mu u (co g) i + co r i - co f i by omega]
    exact h
def Pr (t : Int) : Prop := 1 < t /\ ∀ a : Int, ¬ t ∣ a -> Int.gcd a t = 1
theorem Pr.or {t : Int} (h : Pr t) {a b : Int} (d : t ∣ a * b) : t ∣ a \/ t ∣ b := by
  by_cases ha : t ∣ a
  . exact .inl ha
  . have c : Nat.Coprime t.natAbs a.natAbs := by
      have := h.2 a ha
      rw [Int.gcd_comm] at this
      exact this
    have d2 : t.natAbs ∣ a.natAbs * b.natAbs := by
      rw [<- Int.natAbs_mul]
      exact Int.natAbs_dvd_natAbs.mpr d
    exact .inr (Int.natAbs_dvd_natAbs.mp (c.dvd_of_dvd_mul_left d2))
theorem Iz {e p : List Int} (te : Tr e) (ne : e ≠ []) (pe : Prim e) (h : Dv e p) : Exact p e := by
  obtain ⟨c, u, hc, hu⟩ := h
  have key : ∀ k, c ∣ co u k := by
    by_cases hz : ∀ k, co u k = 0
    . intro k; rw [hz k]; exact Int.dvd_zero _
    . have tn : trim u ≠ [] := fun z => hz fun k => by rw [<- Aw, z, Ba]
      have tu := Bb u
      have pp := Iu tu tn
      have up := Ma tu tn
      have pr : Prim (tm (pln (trim u)) e) := Ai2 pp pe fun k => Cj _ _ k
      have d1 : ∀ k, c ∣ un (trim u) * co (tm (pln (trim u)) e) k := fun k => by
        refine ⟨co p k, ?_⟩
        rw [hu, Cj]
        have e1 : mu u (co e) k = mu (trim u) (co e) k := (congrFun (Bq (co e) _ _ (Aw u)) k).symm
        have e2 : mu ((pln (trim u)).map (un (trim u) * ·)) (co e) k = un (trim u) * mu (pln (trim u)) (co e) k := congrFun (Gu (co e) (un (trim u)) _) k
        rw [e1, <- e2]
        refine congrFun (Bq (co e) _ _ fun i => ?_) k
        rw [Ck, up]
      have d2 := Nr d1
      rw [pr.gl] at d2
      intro k
      rw [<- Aw, <- up k]
      have : c ∣ un (trim u) := by simpa using d2
      exact Int.dvd_trans this (Int.dvd_mul_right _ _)
  refine ⟨u.map (· / c), fun k => ?_⟩
  have e1 : mu ((u.map (· / c)).map (c * ·)) (co e) k = c * mu (u.map (· / c)) (co e) k := congrFun (Gu (co e) c _) k
  have e2 : mu ((u.map (· / c)).map (c * ·)) (co e) k = mu u (co e) k := congrFun (Bq (co e) _ _ fun i => by
    rw [Ck, Qk (f := (· / c)) (Int.zero_ediv c)]
    exact Int.mul_ediv_cancel' (key i)) k
  rw [e1, <- hu] at e2
  exact (Int.eq_of_mul_eq_mul_left hc e2).symm
theorem apart {t : Int} (ht : Pr t) {p q : List Int} (tp : Tr p) (np : p ≠ []) (hl : ¬ t ∣ co p (p.length - 1)) (h : ∀ d, Dm t d p -> Dm t d q -> Dm t d [1]) : Gc p q [1] := by
  have t1 : Tr [1] := .inr ⟨by simp, by decide⟩
  have p1 : pln [1] = [1] := by decide
  refine ⟨t1, p1, Py 1 (by decide) p, Py 1 (by decide) q, fun d dp dq => ?_⟩
  have dt : Dv (trim d) d /\ Dv d (trim d) := ⟨(Dv.refl (trim d)).congr fun i => Aw d i, (Dv.refl d).congr fun i => (Aw d i).symm⟩
  have td := Bb d
  have nd : trim d ≠ [] := fun z => by
    have := dt.1.trans dp
    rw [z] at this
    exact np (this.zero tp)
  have ⟨pa, pb⟩ := Pa td
  have te := Ls td
  have ne : pln (trim d) ≠ [] := fun z => by
    have := M4 (trim d)
    rw [z, List.length_nil] at this
    exact nd (List.eq_nil_of_length_eq_zero this.symm)
  have pe := Iu td nd
  have de : Dv d (pln (trim d)) := dt.2.trans pb
  have ed : Dv (pln (trim d)) d := pa.trans dt.1
  obtain ⟨w, hw⟩ := Iz te ne pe (ed.trans dp)
  obtain ⟨w', hw'⟩ := Iz te ne pe (ed.trans dq)
  generalize pln (trim d) = e at *
  have m1 : Dm t e p := ⟨w, fun i => by rw [hw, Int.sub_self]; exact Int.dvd_zero _⟩
  have m2 : Dm t e q := ⟨w', fun i => by rw [hw', Int.sub_self]; exact Int.dvd_zero _⟩
  obtain ⟨u, hu⟩ := h e m1 m2
  have le : ¬ t ∣ co e (e.length - 1) := fun z => hl (by
    have wn : trim w ≠ [] := fun y => by
      have := tp.lead np
      rw [hw, <- congrFun (Bq (co e) _ _ (Aw w)) _, y] at this
      exact this rfl
    have e1 : p = tm (trim w) e := tp.ext (Fo _ _) fun i => by rw [hw, Cj, congrFun (Bq (co e) _ _ (Aw w)) i]
    have l1 := Nz (Bb w) te wn ne
    have lw := List.length_pos_iff.mpr wn
    have lee := List.length_pos_iff.mpr ne
    rw [hw, <- congrFun (Bq (co e) _ _ (Aw w)) _, K9 (trim w) e (p.length - 1) wn ne (by rw [e1]; omega)]
    exact Int.dvd_trans z (Int.dvd_mul_left _ _))
  have l1 : e.length = 1 := by
    have lee := List.length_pos_iff.mpr ne
    by_cases z : e.length = 1
    . exact z
    . exfalso
      have cu : ∀ i, t ∣ co (u.map (· % t)) i - co u i := fun i => by
        rw [Qk (f := (· % t)) (Int.zero_emod t)]
        refine ⟨-(co u i / t), ?_⟩
        have := Int.mul_ediv_add_emod (co u i) t
        rw [Int.mul_neg]
        omega
      have hu2 : ∀ i, t ∣ co [1] i - mu (trim (u.map (· % t))) (co e) i := fun i => by
        refine X3 (hu i) ?_
        rw [congrFun (Bq (co e) _ _ (Aw (u.map (· % t)))) i, Ik u e, Ik (u.map (· % t)) e]
        exact Wm (fun k => T7 (cu k)) e i
      by_cases un : trim (u.map (· % t)) = []
      . have := hu2 0
        rw [un] at this
        have h1 : t ∣ 1 := by simpa [mu, Ca] using this
        have := Int.le_of_dvd (by decide) h1
        have := ht.1
        omega
      . have lu := List.length_pos_iff.mpr un
        have := hu2 ((trim (u.map (· % t))).length + e.length - 2)
        rw [K9 _ e _ un ne (by omega), Bp (p := [1]) (by show 1 <= _; omega), Int.zero_sub] at this
        rcases ht.or ((Int.dvd_neg).mp this) with z1 | z1
        . have ld := (Bb (u.map (· % t))).lead un
          rw [Aw, Qk (f := (· % t)) (Int.zero_emod t)] at ld z1
          have r0 := Int.emod_nonneg (co u ((trim (u.map (· % t))).length - 1)) (show t ≠ 0 by have := ht.1; omega)
          have r1 := Int.emod_lt_of_pos (co u ((trim (u.map (· % t))).length - 1)) (show 0 < t by have := ht.1; omega)
          have := Int.le_of_dvd (by omega) z1
          omega
        . exact le z1
  match e, l1 with
  | [k], _ =>
    have k0 : k ≠ 0 := by
      have := te.lead ne
      exact this
    exact de.trans (Py k k0 [1])
theorem Aeg : Pr 2305843009213693951 := ⟨by decide, fun _ h => Af8 h⟩
end Z
namespace Z
structure MV (m : Int) (p q qs rs : List Int) (j : Nat) : Prop where
  eq : ∀ k, m ∣ co p k - (mu qs (co q) k + co rs k)
  top : ∀ k, j + q.length <= k + 1 -> co rs k = 0
  low : ∀ k, k < j -> co qs k = 0
  rq : ∀ k, 0 <= co qs k /\ co qs k < m
  rr : ∀ k, 0 <= co rs k /\ co rs k < m
theorem Xm (n k : Nat) : co (List.replicate n (0 : Int)) k = 0 := by
  unfold co
  rw [List.getD_eq_getElem?_getD, List.getElem?_replicate]
  split <;> rfl
theorem MV.start {m : Int} (hm : 0 < m) {p q rs : List Int} (hq : q ≠ []) (h : ∀ k, m ∣ co p k - co rs k) (hr : ∀ k, 0 <= co rs k /\ co rs k < m) : MV m p q (List.replicate (rs.length + 1 - q.length) 0) rs (rs.length + 1 - q.length) := by
  have hl : 0 < q.length := List.length_pos_iff.mpr hq
  refine ⟨fun k => by rw [T3, Int.zero_add]; exact h k, fun k h => Bp (by omega), fun k h => Xm _ _, fun k => ?_, hr⟩
  rw [Xm]
  omega
theorem MV.step {m : Int} (hm : 0 < m) {p q qs rs : List Int} {j : Nat} (h : MV m p q qs rs (j + 1)) (hq : q ≠ []) {f : Int} (hj : j < qs.length) (f0 : 0 <= f) (f1 : f < m) (ef : m ∣ co rs (j + (q.length - 1)) - f * co q (q.length - 1))
    {rs' : List Int} (hr : ∀ k, co rs' k = (co rs k - (if j <= k then f * co q (k - j) else 0)) % m) : MV m p q (qs.set j f) rs' j := by
  have hl : 0 < q.length := List.length_pos_iff.mpr hq
  have cq : ∀ k, co (qs.set j f) k = if k = j then f else co qs k := fun k => Qn _ _ _ hj k
  have sp : ∀ k, co (qs.set j f) k = co (al qs (List.replicate j 0 ++ [f])) k := fun k => by
    rw [cq, Ph, Ke, List.length_replicate]
    by_cases hk : k = j
    . rw [if_pos hk, if_pos hk, hk, h.low j (by omega)]; simp
    . rw [if_neg hk, if_neg hk, Xm, Int.add_zero]
  have md : ∀ x : Int, m ∣ x % m - x := fun x => ⟨-(x / m), by
    have := Int.mul_ediv_add_emod x m
    rw [Int.mul_neg]
    omega⟩
  refine ⟨fun k => ?_, fun k hk => ?_, fun k hk => ?_, fun k => ?_, fun k => ?_⟩
  . rw [Bq (co q) _ _ sp, Pq]
    dsimp only
    rw [M8, T3, List.length_replicate, hr]
    have h1 := h.eq k
    have h2 := md (co rs k - (if j <= k then f * co q (k - j) else 0))
    have h3 := Int.dvd_sub h1 h2
    generalize (co rs k - (if j <= k then f * co q (k - j) else 0)) % m = y at *
    generalize (if j <= k then f * co q (k - j) else 0) = x at *
    have e : co p k - (mu qs (co q) k + co rs k) - (y - (co rs k - x)) = co p k - (mu qs (co q) k + (0 + x) + y) := by omega
    rw [e] at h3
    exact h3
  . rw [hr, if_pos (by omega)]
    by_cases hk2 : k = j + (q.length - 1)
    . subst hk2
      rw [show j + (q.length - 1) - j = q.length - 1 by omega]
      exact Int.emod_eq_zero_of_dvd ef
    . rw [h.top k (by omega), Bp (show q.length <= k - j by omega)]
      simp
  . rw [cq, if_neg (by omega), h.low k (by omega)]
  . rw [cq]
    split
    . exact ⟨f0, f1⟩
    . exact h.rq k
  . rw [hr]
    exact ⟨Int.emod_nonneg _ (by omega), Int.emod_lt_of_pos _ hm⟩
theorem Acz {m r iv l : Int} (h : iv * l % m = 1) (hm : 1 < m) : m ∣ r - (r * iv % m) * l := by
  have e1 := Int.mul_ediv_add_emod (r * iv) m
  have e2 := Int.mul_ediv_add_emod (iv * l) m
  rw [h] at e2
  refine ⟨(r * iv / m) * l - r * (iv * l / m), ?_⟩
  have e3 : r * iv % m = r * iv - m * (r * iv / m) := by omega
  rw [e3]
  have e4 : r * iv * l = r * (m * (iv * l / m) + 1) := by rw [e2, Int.mul_assoc]
  have : (r * iv - m * (r * iv / m)) * l = r * iv * l - m * (r * iv / m) * l := by grind
  rw [this, e4]
  grind
end Z
namespace Z
def ei : List Int -> Int -> Int
  | [], _ => 0
  | a :: r, x => a + x * ei r x
theorem Ww (x : Int) : ∀ r : List Int, (∀ i, co r i = 0) -> ei r x = 0
  | [], _ => rfl
  | a :: r, h => by
    have ha : a = 0 := by have := h 0; rwa [Ca] at this
    rw [ei, Ww x r fun i => by have := h (i + 1); rwa [Cm] at this, ha]
    simp
theorem Yd (x : Int) : ∀ r s : List Int, (∀ i, co r i = co s i) -> ei r x = ei s x
  | [], s, h => by rw [Ww x s fun i => by rw [<- h, Ba]]; rfl
  | a :: r, [], h => by rw [Ww x (a :: r) fun i => by rw [h, Ba]]; rfl
  | a :: r, b :: s, h => by
    have e : a = b := by have := h 0; rwa [Ca, Ca] at this
    rw [ei, ei, e, Yd x r s fun i => by have := h (i + 1); rwa [Cm, Cm] at this]
theorem Ahc (x : Int) : ∀ p q : List Int, ei (al p q) x = ei p x + ei q x
  | [], q => by simp [al, ei]
  | a :: p, [] => by simp [al, ei]
  | a :: p, b :: q => by
    rw [al, ei, ei, ei, Ahc x p q]
    grind
theorem X7 (x a : Int) : ∀ q : List Int, ei (q.map (a * ·)) x = a * ei q x
  | [] => by simp [ei]
  | b :: q => by
    rw [List.map_cons, ei, ei, X7 x a q]
    grind
theorem Ahh (x : Int) : ∀ p q : List Int, ei (ml p q) x = ei p x * ei q x
  | [], q => by simp [ml, ei]
  | a :: p, q => by
    rw [ml, Ahc, X7, ei, ei, Ahh x p q]
    grind
theorem Aja {p u q : List Int} (h : ∀ i, co p i = mu u (co q) i) (x : Int) : ei p x = ei u x * ei q x := by
  rw [<- Ahh]
  exact Yd x _ _ fun i => by rw [h, Ov]
def sd (c : Int) : List Int -> List Int
  | [] => []
  | [_] => []
  | _ :: b :: r => ei (b :: r) c :: sd c (b :: r)
theorem Aev (c : Int) : ∀ p : List Int, (sd c p).length = p.length - 1
  | [] => rfl
  | [_] => rfl
  | _ :: b :: r => by
    rw [sd, List.length_cons, Aev c (b :: r)]
    simp
theorem Ahi (c x : Int) : ∀ p : List Int, ei p x = ei p c + (x - c) * ei (sd c p) x
  | [] => by simp [ei, sd]
  | [a] => by simp [ei, sd]
  | a :: b :: r => by
    have ih := Ahi c x (b :: r)
    show a + x * ei (b :: r) x = (a + c * ei (b :: r) c) + (x - c) * (ei (b :: r) c + x * ei (sd c (b :: r)) x)
    rw [ih]
    generalize ei (b :: r) c = A
    generalize ei (sd c (b :: r)) x = B
    grind
theorem Aii (c : Int) : ∀ (p : List Int), co p 0 = ei p c - c * co (sd c p) 0 /\ ∀ i, co p (i + 1) = co (sd c p) i - c * co (sd c p) (i + 1)
  | [] => ⟨by simp [sd, ei, Ba], fun i => by simp [sd, Ba]⟩
  | [a] => ⟨by simp [sd, ei, Ba, Ca], fun i => by simp [sd, Ba, Cm]⟩
  | a :: b :: r => by
    obtain ⟨h0, h1⟩ := Aii c (b :: r)
    rw [sd]
    refine ⟨by rw [Ca, Ca, ei]; omega, fun i => ?_⟩
    rw [Cm, Cm]
    cases i with
    | zero => exact h0
    | succ i => exact h1 i
theorem interp (M : Nat) : ∀ (xs T : List Int) (V : Nat), T.length <= xs.length -> xs.Nodup -> (∀ x ∈ xs, x.natAbs <= M) -> (∀ x ∈ xs, (ei T x).natAbs <= V) -> ∀ i, (co T i).natAbs <= V * (2 * M + 3) ^ xs.length
  | [], T, V, hl, _, _, _, i => by
    have : T = [] := List.eq_nil_of_length_eq_zero (by simpa using hl)
    rw [this, Ba]
    exact Nat.zero_le _
  | c :: xs, T, V, hl, hn, hM, hV, i => by
    rw [List.nodup_cons] at hn
    have hc := hM c (by simp)
    have hvc := hV c (by simp)
    have ih := interp M xs (sd c T) (2 * V) (by rw [Aev]; rw [List.length_cons] at hl; omega) hn.2 (fun x hx => hM x (by simp [hx])) fun x hx => by
      have e := Ahi c x T
      have hne : x - c ≠ 0 := fun z => hn.1 (by
        have : x = c := by omega
        rw [<- this]
        exact hx)
      have hx1 := hV x (by simp [hx])
      have e2 : ((x - c) * ei (sd c T) x).natAbs <= 2 * V := by
        have : (x - c) * ei (sd c T) x = ei T x - ei T c := by omega
        rw [this]
        omega
      rw [Int.natAbs_mul] at e2
      exact Nat.le_trans (Nat.le_mul_of_pos_left _ (Int.natAbs_pos.mpr hne)) e2
    obtain ⟨h0, h1⟩ := Aii c T
    rw [List.length_cons, Nat.pow_succ, <- Nat.mul_assoc]
    generalize hB : (2 * M + 3) ^ xs.length = B at ih ⊢
    have hB1 : 1 <= B := by rw [<- hB]; exact Nat.pow_pos (by omega)
    have cm : ∀ j, (c * co (sd c T) j).natAbs <= M * (2 * V * B) := fun j => by
      rw [Int.natAbs_mul]
      exact Nat.mul_le_mul hc (ih j)
    have fin : V + M * (2 * V * B) + 2 * V * B <= V * B * (2 * M + 3) := by
      have a1 : V <= V * B := Nat.le_mul_of_pos_right _ hB1
      have a2 : M * (2 * V * B) = 2 * (M * (V * B)) := by grind
      have a3 : V * B * (2 * M + 3) = 2 * (M * (V * B)) + 3 * (V * B) := by grind
      have a4 : 2 * V * B = 2 * (V * B) := by grind
      omega
    cases i with
    | zero =>
      rw [h0]
      have := cm 0
      omega
    | succ i =>
      rw [h1 i]
      have := cm (i + 1)
      have := ih i
      omega
theorem Ade {p : List Int} {xs : List Int} (hn : xs.Nodup) (h : ∀ x ∈ xs, ei p x = 0) (hl : p.length <= xs.length) (i : Nat) : co p i = 0 := by
  have := interp (xs.foldr (fun x m => max x.natAbs m) 0) xs p 0 hl hn (fun x hx => by
    clear hn h hl
    induction xs with
    | nil => simp at hx
    | cons y ys ih =>
      rw [List.foldr_cons]
      rcases List.mem_cons.mp hx with rfl | hx
      . exact Nat.le_max_left _ _
      . exact Nat.le_trans (ih hx) (Nat.le_max_right _ _)) (fun x hx => by rw [h x hx]; simp) i
  rw [Nat.zero_mul] at this
  omega
theorem Aiq {p : List Int} {n M : Nat} {x : Int} (hx : x.natAbs <= M) (hM : 1 <= M) : (∀ i, (co p i).natAbs <= 2 ^ n) -> (ei p x).natAbs <= p.length * (2 ^ n * M ^ p.length) := by
  induction p with
  | nil => intro _; simp [ei]
  | cons a r ih =>
    intro h
    have ha := h 0
    rw [Ca] at ha
    have hr := ih fun i => by have := h (i + 1); rwa [Cm] at this
    rw [ei, List.length_cons, Nat.pow_succ]
    generalize hA : 2 ^ n = A at *
    generalize hB : M ^ r.length = B at *
    have hB1 : 1 <= B := by rw [<- hB]; exact Nat.pow_pos hM
    have h1 : (a + x * ei r x).natAbs <= A + M * (r.length * (A * B)) := by
      have : (x * ei r x).natAbs <= M * (r.length * (A * B)) := by
        rw [Int.natAbs_mul]
        exact Nat.mul_le_mul hx hr
      have := Int.natAbs_add_le a (x * ei r x)
      omega
    have e : (r.length + 1) * (A * (B * M)) = M * (r.length * (A * B)) + A * (B * M) := by grind
    have : A * 1 <= A * (B * M) := Nat.mul_le_mul_left _ (Nat.mul_pos hB1 hM)
    omega
theorem Aba (f : Int -> Bool) : ∀ R : List Int, (R.filter f).length + (R.filter fun x => !f x).length = R.length
  | [] => rfl
  | a :: r => by
    have := Aba f r
    cases h : f a <;> simp [List.filter_cons, h] <;> omega
theorem Agl {p T S : List Int} {n : Nat} (h : ∀ i, co p i = mu S (co T) i) (np : ∃ i, co p i ≠ 0) (hp : ∀ i, (co p i).natAbs <= 2 ^ n) (lp : p.length <= 8) (lT : T.length <= p.length) (i : Nat) : (co T i).natAbs <= 2 ^ (n + 80) := by
  let R : List Int := (List.range 16).map fun (k : Nat) => ((k : Nat) : Int)
  have hR : R.Nodup := by decide
  have hRM : ∀ x ∈ R, x.natAbs <= 15 := by decide
  let good := R.filter fun x => decide (ei p x ≠ 0)
  let bad := R.filter fun x => !decide (ei p x ≠ 0)
  have lens : good.length + bad.length = 16 := by
    have e : R.length = 16 := by decide
    rw [<- e]
    exact Aba _ R
  have hbad : bad.length < p.length := by
    refine Nat.lt_of_not_le fun z => ?_
    obtain ⟨j, hj⟩ := np
    refine hj (Ade (xs := bad) (hR.filter _) (fun x hx => ?_) z j)
    have := (List.mem_filter.mp hx).2
    simpa using this
  have hV : ∀ x ∈ good, (ei T x).natAbs <= 8 * (2 ^ n * 15 ^ 8) := fun x hx => by
    have hxR := (List.mem_filter.mp hx).1
    have h0 : ei p x ≠ 0 := by simpa using (List.mem_filter.mp hx).2
    have e := Aja h x
    have e1 := congrArg Int.natAbs e
    rw [Int.natAbs_mul] at e1
    have s0 : ei S x ≠ 0 := fun z => h0 (by rw [e, z, Int.zero_mul])
    have h1 : (ei T x).natAbs <= (ei p x).natAbs := by
      rw [e1]
      exact Nat.le_mul_of_pos_left _ (Int.natAbs_pos.mpr s0)
    refine Nat.le_trans h1 (Nat.le_trans (Aiq (hRM x hxR) (by decide) hp) ?_)
    exact Nat.mul_le_mul lp (Nat.mul_le_mul_left _ (Nat.pow_le_pow_right (by decide) lp))
  have key := interp 15 (good.take 8) T _ (by rw [List.length_take]; omega) (hR.filter _ |>.sublist (List.take_sublist _ _)) (fun x hx => hRM x (List.mem_filter.mp (List.mem_of_mem_take hx)).1) (fun x hx => hV x (List.mem_of_mem_take hx)) i
  refine Nat.le_trans key ?_
  have l8 : (good.take 8).length <= 8 := by rw [List.length_take]; omega
  have e33 : (2 * 15 + 3) ^ (good.take 8).length <= 33 ^ 8 := Nat.pow_le_pow_right (by decide) l8
  refine Nat.le_trans (Nat.mul_le_mul_left _ e33) ?_
  have : 8 * (2 ^ n * 15 ^ 8) * 33 ^ 8 = 2 ^ n * (8 * 15 ^ 8 * 33 ^ 8) := by grind
  rw [this, Nat.pow_add]
  exact Nat.mul_le_mul_left _ (by decide)
end Z
namespace Z
structure QF (p q T B : List Int) : Prop where
  tT : Tr T
  tB : Tr B
  nB : B ≠ []
  pos : 0 < co B (B.length - 1)
  gl1 : gl (T ++ B) = 1
  cop : ∀ d, Tr d -> Dv d T -> Dv d B -> d.length <= 1
  eq : tm T q = tm B p
theorem W3 {d f : List Int} (h : Dv d f) : Dv (trim d) f := h.of_scale (a := 1) (b := 1) (by decide) fun i => by rw [Aw]
theorem Aeb {T B C : List Int} (tB : Tr B) (nB : B ≠ []) (cop : ∀ d, Tr d -> Dv d T -> Dv d B -> d.length <= 1) (h : Dv B (tm T C)) : Dv B C := by
  obtain ⟨g, a, b, c, hc, gT, gB, e⟩ := bez B.length B T (Nat.le_refl _) tB
  have l1 := cop (trim g) (Bb g) (W3 gT) (W3 gB)
  have n0 : trim g ≠ [] := ((W3 gB).len (Bb g) tB nB).1
  obtain ⟨k, hk⟩ : ∃ k, trim g = [k] := by
    cases hg : trim g with
    | nil => exact absurd hg n0
    | cons k r =>
      rw [hg] at l1
      have : r = [] := List.eq_nil_of_length_eq_zero (by simpa using l1)
      exact ⟨k, by rw [this]⟩
  have k0 : k ≠ 0 := by
    have := (Bb g).lead n0
    rw [hk] at this
    simpa [Ca] using this
  have cg : ∀ i, co g i = co [k] i := fun i => by rw [<- hk, Aw]
  have hB : Dv B (tm B C) := by
    rw [Cr]
    exact (Dv.refl B).mul_left C
  refine h.comb hB (k := c * k) (Int.mul_ne_zero hc k0) (a := a) (b := b) fun i => ?_
  have e2 : mu C (fun j => c * co g j) i = mu C (fun j => mu a (co T) j + mu b (co B) j) i := Hh (fun j => e j) C i
  have e3 : mu C (fun j => mu a (co T) j + mu b (co B) j) i = mu a (co (tm T C)) i + mu b (co (tm B C)) i := by
    rw [congrFun (Ny C (mu a (co T)) (mu b (co B))) i]
    have f : ∀ (x y : List Int), mu C (mu x (co y)) i = mu x (co (tm y C)) i := fun x y => by
      rw [Hh (f := co (tm y C)) (g := mu C (co y)) (fun j => by rw [Cr, Cj]) x i]
      have e1 := congrFun (Lj (co y) C x) i
      have e2 := congrFun (Lj (co y) x C) i
      rw [<- e1, <- e2]
      exact congrFun (Bq (co y) _ _ fun j => by rw [Ov, Ov, Ik]) i
    rw [f, f]
  rw [<- e3, <- e2]
  have e4 : mu C (fun j => c * co g j) i = mu C (co [c * k]) i := Hh (fun j => by
    rw [cg]
    cases j with
    | zero => simp [Ca]
    | succ j => simp [Cm, Ba]) C i
  rw [e4, Ik]
  show _ = c * k * co C i + sh (mu [] (co C)) i
  cases i <;> simp [sh, mu]
theorem Ahj {q : List Int} (hq : q ≠ []) (hl : co q (q.length - 1) ≠ 0) {u v : List Int} (h : ∀ k, mu u (co q) k = mu v (co q) k) : ∀ k, co u k = co v k := by
  have d : ∀ k, mu (al u (v.map (-1 * ·))) (co q) k = 0 := fun k => by
    rw [Pq]
    dsimp only
    rw [Gu]
    dsimp only
    rw [h]
    omega
  have x0 : trim (al u (v.map (-1 * ·))) = [] := by
    by_cases n : trim (al u (v.map (-1 * ·))) = []
    . exact n
    . exfalso
      have e2 := congrFun (Bq (co q) _ _ (Aw (al u (v.map (-1 * ·))))) ((trim (al u (v.map (-1 * ·)))).length + q.length - 2)
      have lw : 0 < (trim (al u (v.map (-1 * ·)))).length := List.length_pos_iff.mpr n
      have lq : 0 < q.length := List.length_pos_iff.mpr hq
      rw [d, K9 _ q _ n hq (by omega)] at e2
      rcases Int.mul_eq_zero.mp e2 with z | z
      . exact (Bb _).lead n z
      . exact hl z
  intro k
  have := Aw (al u (v.map (-1 * ·))) k
  rw [x0, Ba, Ph, Ck] at this
  omega
theorem Rt {a b c : List Int} (ta : Tr a) (tb : Tr b) (tc : Tr c) (nc : c ≠ []) (h : tm a c = tm b c) : a = b :=
  ta.ext tb (Ahj nc (tc.lead nc) fun k => by rw [<- Cj, <- Cj, h])
theorem Afk {a b : List Int} (ta : Tr a) (tb : Tr b) (na : a ≠ []) (nb : b ≠ []) : tm a b ≠ [] := fun z => by
  have := Nz ta tb na nb
  rw [z, List.length_nil] at this
  have h1 := List.length_pos_iff.mpr na
  have h2 := List.length_pos_iff.mpr nb
  omega
theorem Wf (a b : List Int) (i : Nat) : co (a ++ b) i = if i < a.length then co a i else co b (i - a.length) := by
  unfold co
  rw [List.getD_eq_getElem?_getD, List.getD_eq_getElem?_getD, List.getD_eq_getElem?_getD]
  split
  . rename_i h
    rw [List.getElem?_append_left h]
  . rename_i h
    rw [List.getElem?_append_right (by omega)]
theorem Agj {L : List Int} (h1 : gl L = 1) (h2 : 0 < co L (L.length - 1)) : pln L = L := by
  have e : un L = 1 := by
    unfold un
    rw [if_neg (by omega), h1]
    rfl
  unfold pln
  rw [e]
  simp
theorem QF.plain {p q T B : List Int} (h : QF p q T B) : pln (T ++ B) = T ++ B := Agj h.gl1 (by
  have hl := List.length_pos_iff.mpr h.nB
  rw [List.length_append, Wf, if_neg (by omega), show T.length + B.length - 1 - T.length = B.length - 1 by omega]
  exact h.pos)
theorem U7 {p : List Int} {c : Int} (hp : Tr p) (hc : c ≠ 0) : Tr (p.map (c * ·)) := by
  by_cases n : p = []
  . subst n; exact .inl rfl
  . refine Tr.of (.inr ?_)
    rw [List.length_map, Ck]
    exact Int.mul_ne_zero hc (hp.lead n)
theorem T4 (c : Int) (p q : List Int) (i : Nat) : co (tm (p.map (c * ·)) q) i = c * co (tm p q) i := by rw [Cj, Cj, congrFun (Gu (co q) c p) i]
theorem QF.uniq {p q T B p' q' T' B' : List Int} (a : QF p q T B) (b : QF p' q' T' B') (tq : Tr q) (nq : q ≠ []) (tq' : Tr q') (nq' : q' ≠ []) (e : tm p q' = tm p' q) : T = T' /\ B = B' := by
  have x : tm T B' = tm T' B := by
    refine Rt (Fo _ _) (Fo _ _) (Fo q q') (Afk tq tq' nq nq') ?_
    have l : tm (tm T B') (tm q q') = tm (tm B B') (tm p q') := by
      have : tm (tm T B') (tm q q') = tm (tm T q) (tm B' q') := by
        rw [Cq, Cq, <- Cq B' q q', Cr B' q, Cq]
      rw [this, a.eq, Cq, Cq, <- Cq p B' q', Cr p B', Cq]
    have r : tm (tm T' B) (tm q q') = tm (tm B B') (tm p' q) := by
      have : tm (tm T' B) (tm q q') = tm (tm T' q') (tm B q) := by
        rw [Cr q q', Cq, Cq, <- Cq B q' q, Cr B q', Cq]
      rw [this, b.eq, Cr B B', Cq, Cq, <- Cq p' B q, Cr p' B, Cq]
    rw [l, r, e]
  have d1 : Dv B B' := Aeb a.tB a.nB a.cop (by rw [x]; exact (Dv.refl B).mul_left T')
  have d2 : Dv B' B := Aeb b.tB b.nB b.cop (by rw [<- x]; exact (Dv.refl B').mul_left T)
  have pb : pln B = pln B' := Ab2 (Ls a.tB) (Ls b.tB) (Np a.tB) (Np b.tB) ((Pa a.tB).1.trans (d1.trans (Pa b.tB).2)) ((Pa b.tB).1.trans (d2.trans (Pa a.tB).2))
  have u1 := R5 a.tB a.nB
  have u2 := R5 b.tB b.nB
  have hB : B'.map (un B * ·) = B.map (un B' * ·) := (U7 b.tB u1).ext (U7 a.tB u2) fun i => by
    rw [Ck, Ck, <- Ma b.tB b.nB i, <- Ma a.tB a.nB i, pb]
    grind
  have hT : T.map (un B' * ·) = T'.map (un B * ·) := by
    refine Rt (U7 a.tT u2) (U7 b.tT u1) a.tB a.nB ((Fo _ _).ext (Fo _ _) fun i => ?_)
    rw [T4, T4, <- x]
    have e1 : un B' * co (tm T B) i = co (tm T (B.map (un B' * ·))) i := by
      rw [Cr T (B.map _), T4, Cr B T]
    have e2 : un B * co (tm T B') i = co (tm T (B'.map (un B * ·))) i := by
      rw [Cr T (B'.map _), T4, Cr B' T]
    rw [e1, e2, hB]
  have lT : T.length = T'.length := by
    have := congrArg List.length hT
    rwa [List.length_map, List.length_map] at this
  have hL : (T ++ B).map (un B' * ·) = (T' ++ B').map (un B * ·) := by
    rw [List.map_append, List.map_append, hT, hB]
  have trL : ∀ {T B : List Int}, Tr B -> B ≠ [] -> Tr (T ++ B) := fun {T B} tB nB => by
    refine Tr.of (.inr ?_)
    have hl := List.length_pos_iff.mpr nB
    rw [List.length_append, Wf, if_neg (by omega), show T.length + B.length - 1 - T.length = B.length - 1 by omega]
    exact tB.lead nB
  have t1 := trL (T := T) a.tB a.nB
  have t2 := trL (T := T') b.tB b.nB
  have q1 := Aay t1 u2 (U7 t1 u2) fun k => Ck _ _ k
  have q2 := Aay t2 u1 (U7 t2 u1) fun k => Ck _ _ k
  have L : T ++ B = T' ++ B' := by rw [<- a.plain, <- b.plain, <- q1, <- q2, hL]
  exact List.append_inj L lT
theorem Acr (n : Int) : ∀ L : List Int, gl (L.map (n * ·)) = n.natAbs * gl L
  | [] => by simp [gl]
  | a :: L => by
    rw [List.map_cons, gl, gl, Acr n L]
    have : Int.gcd (n * a) ((n.natAbs * gl L : Nat) : Int) = Int.gcd (n * a) (n * (gl L : Nat)) := by
      unfold Int.gcd
      rw [Int.natAbs_mul n (gl L : Nat), Int.natAbs_natCast, Int.natAbs_natCast]
    rw [this, Int.gcd_mul_left]
theorem Ae1 {n : Int} {T top : List Int} (n0 : n ≠ 0) (tT : Tr T) (tt : Tr top) (h : ∀ i, n * co T i = co top i) : T.map (n * ·) = top := (U7 tT n0).ext tt fun i => by rw [Ck, h]
theorem QF.make {p q g top bot T B : List Int} {n : Int} (tq : Tr q) (nq : q ≠ []) (tt : Tr top) (tb : Tr bot) (gc : Gc p q g) (ep : tm top g = p) (eq : tm bot g = q) (n0 : n ≠ 0) (tT : Tr T) (tB : Tr B) (hT : ∀ i, n * co T i = co top i) (hB : ∀ i, n * co B i = co bot i) (pos : 0 < co B (B.length - 1)) (hn : n.natAbs = gl (top ++ bot)) : QF p q T B := by
  have nB : B ≠ [] := fun z => by
    rw [z, Ba] at pos
    omega
  have eT := Ae1 n0 tT tt hT
  have eB := Ae1 n0 tB tb hB
  have g1 : gl (T ++ B) = 1 := by
    have e := Acr n (T ++ B)
    rw [List.map_append, eT, eB, <- hn] at e
    have hp := Int.natAbs_pos.mpr n0
    exact Nat.eq_of_mul_eq_mul_left hp (by omega)
  have ng0 : g ≠ [] := (gc.two.len gc.tr tq nq).1
  refine ⟨tT, tB, nB, pos, g1, fun d td dT dB => ?_, (Fo _ _).ext (Fo _ _) fun i => Int.eq_of_mul_eq_mul_left n0 ?_⟩
  . have d1 : Dv d top := dT.scale (a := n) (b := 1) (by decide) fun i => by rw [hT]; omega
    have d2 : Dv d bot := dB.scale (a := n) (b := 1) (by decide) fun i => by rw [hB]; omega
    have a1 : Dv (tm g d) p := by rw [<- ep, Cr top g]; exact d1.times g
    have a2 : Dv (tm g d) q := by rw [<- eq, Cr bot g]; exact d2.times g
    have a3 := gc.all _ a1 a2
    have nd : d ≠ [] := (dB.len td tB nB).1
    have l1 := (a3.len (Fo _ _) gc.tr ng0).2
    have l2 := Nz gc.tr td ng0 nd
    omega
  . have e1 : n * co (tm T q) i = co (tm top q) i := by rw [<- eT, T4]
    have e2 : n * co (tm B p) i = co (tm bot p) i := by rw [<- eB, T4]
    rw [e1, e2]
    have : tm top q = tm bot p := by
      rw [<- ep, <- eq, <- Cq, <- Cq, Cr top bot]
    rw [this]
theorem QF.self {p q T B : List Int} (h : QF p q T B) : QF T B T B := ⟨h.tT, h.tB, h.nB, h.pos, h.gl1, h.cop, by rw [Cr]⟩
theorem QF.gc {p q T B g : List Int} (h : QF p q T B) (gc : Gc T B g) : g.length = 1 := by
  have l := h.cop g gc.tr gc.one gc.two
  have n := (gc.two.len gc.tr h.tB h.nB).1
  have := List.length_pos_iff.mpr n
  omega
end Z
namespace Z
open PySem L2
theorem abs_eq (i : Int) : (if i < 0 then -i else i) = ((i.natAbs : Nat) : Int) := by
  split <;> omega
theorem Yc (x y : Nat) : Nat.gcd y (x % y) = Nat.gcd x y := by
  rw [Nat.gcd_comm, <- Nat.gcd_rec, Nat.gcd_comm]
local macro_rules | `(tactic| contradiction) => `(tactic| simp only [J8, Fy, Jz, Kq, Fw, Kr, Cv, Kv, Fl, Ga, z_c, R4, Sh, Sd, J1, R6, Jw, Ka, Jm, Ku, Es, R8, Kf, J3, Ko, Fj, Ey, J6, Kw, S5, Fb, Jp, Gn, Sq, Ge, J2, Fz, Sy, J0, J7, Dw, Gg, Gk, Gj, Dq, Fg, Jq, Km, Kd, Io, Sw, Cg, Gd, Kh, Sx, Js, Ft, Jr, Jl, Gf, Kl, Gq, Gh, Gs, Dr, Ju, Ds, Gb, Eu, Fq, Dl, J9, Fp, J5, Gm, Ew, Fi, Dn, Fx, R9, cpσ, List.getElem?_cons_zero, List.getElem?_cons_succ, Option.join_some, List.set_cons_zero, List.set_cons_succ, List.append_nil, decide_eq_true_eq, Bool.not_eq_true', decide_eq_false_iff_not, Bool.not_not, ite_not, Bool.false_eq_true, Bool.true_eq_false, if_false, if_true, if_pos, List.length_cons, List.length_nil, Nat.zero_add, Nat.reduceAdd, Fe, Ez, true_and, and_true, L2.start, List.map_cons, List.map_nil, Bool.not_true, Bool.not_false, Nat.reduceSub, List.replicate_succ, List.replicate_zero, List.cons_append, List.nil_append])
def top (i : Nat) : Stmt := PySem.Challenge.pw_rootcourt_k62_any_quotient_paper.main.body.getD i (.Pass ⟨0, 0, 0, 0⟩)
abbrev Og : Stmt := top 4
theorem Xd : Ay ["thing"] ["thing"] (Ag Og) := ⟨rfl, rfl, rfl, by decide +kernel, rfl, by decide +kernel, by decide +kernel⟩
abbrev Rj : Stmt := top 5
theorem Ml : Ay ["one", "other", "greater", "lesser"] ["one", "other"] (Ag Rj) := ⟨rfl, rfl, rfl, by decide +kernel, rfl, by decide +kernel, by decide +kernel⟩
abbrev Lq : Stmt := top 6
theorem Ir : Ay ["some", "found", "number"] ["some"] (Ag Lq) := ⟨rfl, rfl, rfl, by decide +kernel, rfl, by decide +kernel, by decide +kernel⟩
abbrev Nx : Stmt := top 8
theorem Yq : Ay ["thing"] ["thing"] (Ag Nx) := ⟨rfl, rfl, rfl, by decide +kernel, rfl, by decide +kernel, by decide +kernel⟩
abbrev Abk : Stmt := top 9
theorem Xo : Ay ["weights", "length"] ["weights"] (Ag Abk) := ⟨rfl, rfl, rfl, by decide +kernel, rfl, by decide +kernel, by decide +kernel⟩
abbrev Um : Stmt := top 10
theorem Aac : Ay ["one"] ["one"] (Ag Um) := ⟨rfl, rfl, rfl, by decide +kernel, rfl, by decide +kernel, by decide +kernel⟩
abbrev Px : Stmt := top 11
theorem Ie : Ay ["one", "other", "weights", "place", "weight"] ["one", "other"] (Ag Px) := ⟨rfl, rfl, rfl, by decide +kernel, rfl, by decide +kernel, by decide +kernel⟩
abbrev Qj : Stmt := top 12
theorem Zj : Ay ["one", "other"] ["one", "other"] (Ag Qj) := ⟨rfl, rfl, rfl, by decide +kernel, rfl, by decide +kernel, by decide +kernel⟩
abbrev Rn : Stmt := top 13
theorem Ja : Ay ["one", "other", "weights", "place", "weight", "further", "factor"] ["one", "other"] (Ag Rn) := ⟨rfl, rfl, rfl, by decide +kernel, rfl, by decide +kernel, by decide +kernel⟩
abbrev Qf : Stmt := top 14
theorem Ace : Ay ["one", "factor"] ["one", "factor"] (Ag Qf) := ⟨rfl, rfl, rfl, by decide +kernel, rfl, by decide +kernel, by decide +kernel⟩
abbrev Ws : Stmt := top 15
theorem Acy : Ay ["one", "many"] ["one", "many"] (Ag Ws) := ⟨rfl, rfl, rfl, by decide +kernel, rfl, by decide +kernel, by decide +kernel⟩
abbrev Om : Stmt := top 16
theorem Gx : Ay ["start", "one", "many", "product", "found", "square", "left"] ["start", "one", "many", "product"] (Ag Om) := ⟨rfl, rfl, rfl, by decide +kernel, rfl, by decide +kernel, by decide +kernel⟩
abbrev Ld : Stmt := top 17
theorem R7 : Ay ["number", "many"] ["number", "many"] (Ag Ld) := ⟨rfl, rfl, rfl, by decide +kernel, rfl, by decide +kernel, by decide +kernel⟩
abbrev Ud : Stmt := top 18
theorem Abz : Ay ["one", "many"] ["one", "many"] (Ag Ud) := ⟨rfl, rfl, rfl, by decide +kernel, rfl, by decide +kernel, by decide +kernel⟩
abbrev Lf : Stmt := top 20
theorem V9 : Ay ["one", "m"] ["one", "m"] (Ag Lf) := ⟨rfl, rfl, rfl, by decide +kernel, rfl, by decide +kernel, by decide +kernel⟩
abbrev Lp : Stmt := top 21
theorem Di : Ay ["number", "m", "greater", "lesser", "ahead", "here", "many"] ["number", "m"] (Ag Lp) := ⟨rfl, rfl, rfl, by decide +kernel, rfl, by decide +kernel, by decide +kernel⟩
abbrev Oo : Stmt := top 22
theorem Eo : Ay ["one", "other", "m", "inverse", "rest", "quotient", "place", "factor", "further", "weight"] ["one", "other", "m"] (Ag Oo) := ⟨rfl, rfl, rfl, by decide +kernel, rfl, by decide +kernel, by decide +kernel⟩
abbrev Uh : Stmt := top 23
theorem Acb : Ay ["one", "other", "m"] ["one", "other", "m"] (Ag Uh) := ⟨rfl, rfl, rfl, by decide +kernel, rfl, by decide +kernel, by decide +kernel⟩
abbrev Uo : Stmt := top 24
theorem Ve : Ay ["one", "t", "told"] ["one", "t"] (Ag Uo) := ⟨rfl, rfl, rfl, by decide +kernel, rfl, by decide +kernel, by decide +kernel⟩
abbrev Ou : Stmt := top 25
theorem Le : Ay ["one", "other", "t", "first", "second"] ["one", "other", "t"] (Ag Ou) := ⟨rfl, rfl, rfl, by decide +kernel, rfl, by decide +kernel, by decide +kernel⟩
abbrev Qs : Stmt := top 28
theorem Yx : Ay ["one"] ["one"] (Ag Qs) := ⟨rfl, rfl, rfl, by decide +kernel, rfl, by decide +kernel, by decide +kernel⟩
abbrev Wy : Stmt := top 29
theorem Ac3 : Ay ["one"] ["one"] (Ag Wy) := ⟨rfl, rfl, rfl, by decide +kernel, rfl, by decide +kernel, by decide +kernel⟩
abbrev Z9 : Stmt := top 30
theorem Agt : Ay ["one"] ["one"] (Ag Z9) := ⟨rfl, rfl, rfl, by decide +kernel, rfl, by decide +kernel, by decide +kernel⟩
abbrev Pu : Stmt := top 31
theorem Z7 : Ay ["one", "number"] ["one", "number"] (Ag Pu) := ⟨rfl, rfl, rfl, by decide +kernel, rfl, by decide +kernel, by decide +kernel⟩
abbrev Mh : Stmt := top 32
theorem Nv : Ay ["one", "other", "division"] ["one", "other"] (Ag Mh) := ⟨rfl, rfl, rfl, by decide +kernel, rfl, by decide +kernel, by decide +kernel⟩
abbrev Ek : Stmt := top 33
theorem Bk : Ay ["one", "other", "scaling", "scale", "quotient", "rest", "place", "missing", "factor", "further", "weight"] ["one", "other", "scaling"] (Ag Ek) := ⟨rfl, rfl, rfl, by decide +kernel, rfl, by decide +kernel, by decide +kernel⟩
abbrev Uz : Stmt := top 34
theorem Zv : Ay ["one", "other"] ["one", "other"] (Ag Uz) := ⟨rfl, rfl, rfl, by decide +kernel, rfl, by decide +kernel, by decide +kernel⟩
abbrev Jt : Stmt := top 35
theorem Q5 : Ay ["one", "other"] ["one", "other"] (Ag Jt) := ⟨rfl, rfl, rfl, by decide +kernel, rfl, by decide +kernel, by decide +kernel⟩
abbrev Jx : Stmt := top 36
theorem En : Ay ["one", "other", "g", "part", "a", "b"] ["one", "other"] (Ag Jx) := ⟨rfl, rfl, rfl, by decide +kernel, rfl, by decide +kernel, by decide +kernel⟩
abbrev Mj : Stmt := top 37
theorem Bo : Ay ["first", "second", "lead", "height", "steps", "known", "third"] ["first", "second"] (Ag Mj) := ⟨rfl, rfl, rfl, by decide +kernel, rfl, by decide +kernel, by decide +kernel⟩
abbrev Ol : Stmt := top 38
theorem Gv : Ay ["first", "second", "known", "scale", "third", "quotient", "rest", "upper", "lower"] ["first", "second", "known"] (Ag Ol) := ⟨rfl, rfl, rfl, by decide +kernel, rfl, by decide +kernel, by decide +kernel⟩
abbrev Hq : Stmt := top 39
theorem Br : Ay ["one", "other", "quotient", "rest", "place", "top", "term"] ["one", "other"] (Ag Hq) := ⟨rfl, rfl, rfl, by decide +kernel, rfl, by decide +kernel, by decide +kernel⟩
abbrev Gw : Stmt := top 41
theorem Ms : Ay ["top", "bottom"] ["top", "bottom"] (Ag Gw) := ⟨rfl, rfl, rfl, by decide +kernel, rfl, by decide +kernel, by decide +kernel⟩
abbrev Abp : Stmt := top 42
theorem Oj : Ay ["p", "q", "part", "top", "bottom", "number"] ["p", "q"] (Ag Abp) := ⟨rfl, rfl, rfl, by decide +kernel, rfl, by decide +kernel, by decide +kernel⟩
abbrev Qm : Stmt := top 43
theorem Jb : Ay ["p", "q", "top", "bottom", "a", "b", "c"] ["p", "q"] (Ag Qm) := ⟨rfl, rfl, rfl, by decide +kernel, rfl, by decide +kernel, by decide +kernel⟩
abbrev Nu : Stmt := top 44
theorem Jc : Ay ["p", "q", "paper", "top", "bottom", "a", "b", "c"] ["p", "q", "paper"] (Ag Nu) := ⟨rfl, rfl, rfl, by decide +kernel, rfl, by decide +kernel, by decide +kernel⟩
abbrev Nf : Stmt := top 46
theorem Vi : Ay ["_law_script", "_law_k"] ["_law_script", "_law_k"] (Ag Nf) := ⟨rfl, rfl, rfl, by decide +kernel, rfl, by decide +kernel, by decide +kernel⟩
abbrev Qw : Stmt := top 47
theorem O2 : Ay ["_law_cell", "_law_k", "_law_draw"] ["_law_cell", "_law_k"] (Ag Qw) := ⟨rfl, rfl, rfl, by decide +kernel, rfl, by decide +kernel, by decide +kernel⟩
abbrev Oq : Stmt := top 48
theorem Je : Ay ["_law_cell", "_law_many", "_law_base", "_law_found", "_law_rest", "_law_k"] ["_law_cell", "_law_many", "_law_base"] (Ag Oq) := ⟨rfl, rfl, rfl, by decide +kernel, rfl, by decide +kernel, by decide +kernel⟩
abbrev Qh : Stmt := top 49
theorem Abq : Ay ["_law_cell"] ["_law_cell"] (Ag Qh) := ⟨rfl, rfl, rfl, by decide +kernel, rfl, by decide +kernel, by decide +kernel⟩
abbrev Ue : Stmt := top 50
theorem Va : Ay ["_law_part_here", "_law_cell", "_law_way"] ["_law_part_here", "_law_cell"] (Ag Ue) := ⟨rfl, rfl, rfl, by decide +kernel, rfl, by decide +kernel, by decide +kernel⟩
abbrev Oz : Stmt := top 51
theorem Hr : Ay ["_law_paper", "_law_cell", "_law_parts", "_law_way", "_law_here", "_law_there"] ["_law_paper", "_law_cell"] (Ag Oz) := ⟨rfl, rfl, rfl, by decide +kernel, rfl, by decide +kernel, by decide +kernel⟩
abbrev Uw : Stmt := top 52
theorem V5 : Ay ["_law_one", "_law_other", "_law_paper", "_law_found"] ["_law_one", "_law_other", "_law_paper"] (Ag Uw) := ⟨rfl, rfl, rfl, by decide +kernel, rfl, by decide +kernel, by decide +kernel⟩
abbrev K6 : Stmt := top 53
theorem Wd : Ay ["_law_thing"] ["_law_thing"] (Ag K6) := ⟨rfl, rfl, rfl, by decide +kernel, rfl, by decide +kernel, by decide +kernel⟩
abbrev Uy : Stmt := top 54
theorem Hy : Ay ["_law_one", "_law_other", "_law_paper", "_law_found", "_law_weight", "_law_top", "_law_bottom", "_law_left", "_law_right", "_law_c"] ["_law_one", "_law_other", "_law_paper"] (Ag Uy) := ⟨rfl, rfl, rfl, by decide +kernel, rfl, by decide +kernel, by decide +kernel⟩
abbrev Xn : Stmt := top 55
theorem Ht : Ay ["_law_paper", "_law_cell", "_law_by", "_law_more", "_law_left", "_law_right", "_law_top", "_law_bottom", "_law_c"] ["_law_paper", "_law_cell"] (Ag Xn) := ⟨rfl, rfl, rfl, by decide +kernel, rfl, by decide +kernel, by decide +kernel⟩
abbrev Q8 : Stmt := top 56
theorem Er : Ay ["_law_paper", "_law_foreign", "_law_more", "_law_most", "_law_found", "_law_top", "_law_bottom", "_law_left", "_law_right", "_law_c"] ["_law_paper", "_law_foreign"] (Ag Q8) := ⟨rfl, rfl, rfl, by decide +kernel, rfl, by decide +kernel, by decide +kernel⟩
abbrev Vt : Stmt := top 57
theorem Hl : Ay ["_law_script", "_law_cell", "_law_one", "_law_other", "_law_paper", "_law_due_here", "_law_thing", "_law_foreign", "_law_turned_here", "_law_k", "_law_more", "_law_draw", "_law_found"] ["_law_script"] (Ag Vt) := ⟨rfl, rfl, rfl, by decide +kernel, rfl, by decide +kernel, by decide +kernel⟩
def Ac9 (K : PySem.W.Frag) : Sp := fun vs H Q _ => ∃ (a : Addr) (ns : List Int), vs = [.ref a] /\ SqL K H a (ns.map V.int) /\ ns.length <= 63 /\ ∀ H', Q (.bl true) H'
def cell (ns : List Int) (k : Int) : Int := ns.getD k.toNat 0
def Mf (K : PySem.W.Frag) : Sp := fun vs H Q _ => ∃ (a : Addr) (ns : List Int) (k : Int), vs = [.ref a, .int k] /\ SqL K H a (ns.map V.int) /\ 0 <= k /\ Q (.int (cell ns k)) H
section
variable {P : Program} {w : World} {K : PySem.W.Frag} {mg : Str -> Option Value} {base : Heap}
theorem Vd {f : Addr} {fd : FuncData} (F : Df K mg "_law_cell_at" Nf ["_law_script", "_law_k"] f fd) (z_len : mg "len" = none)   : Cal P w K mg base 1 "_law_cell_at" ["_law_script", "_law_k"] (Mf K) := by
  refine F.cal (F.fn.ok Vi (fun vs H Q E h => ?_) (fun cdv A outer s H vs Q E hr h => ?_))
  . obtain ⟨a, ns, k, rfl, _⟩ := h
    rfl
  obtain ⟨a, ns, k, rfl, hS, hk, q⟩ := h
  refine S.Bm ⟨_, (S.Ac (S.Bv (S.Ah S6 (S.pv 1) (S.Dj Bc rfl z_len PySem.boot_len (S.Aa (S.pv 0) S.Ab)) (Ao _)) (S.Af (S.Aq (S.Bt Dp (S.pv 0) (S.pv 1) (fun _ _ => rfl)))) S.Av)
      (S.Af (S.Aq S.Ad))), ?_⟩
  contradiction
  refine ⟨a, _, rfl, .inl hS, ?_⟩
  rw [List.length_map]
  split
  . rename_i h
    have hk' : k.toNat < ns.length := by omega
    refine Jo hS (v := .int (cell ns k)) ?_ q
    have e := Mg (xs := ns.map V.int) (j := k.toNat) (v := .int (cell ns k)) (by
      rw [List.getElem?_map, List.getElem?_eq_getElem hk']
      unfold cell
      rw [List.getD_eq_getElem?_getD, List.getElem?_eq_getElem hk']
      rfl)
    rw [Int.toNat_of_nonneg hk] at e
    exact e
  . rename_i h
    have e : cell ns k = 0 := by
      unfold cell
      rw [List.getD_eq_getElem?_getD, List.getElem?_eq_none (by omega)]
      rfl
    rw [e] at q
    exact q
theorem Hs (p : List Int) : (trim p).length <= p.length := (Bb p).len fun i => Aw p i
def Po (K : PySem.W.Frag) (H : Hp) (v : V) (p : List Int) (l n : Nat) : Prop := (∃ a, v = .ref a /\ SqT K H a (p.map V.int)) /\ Tr p /\ p.length <= l /\ ∀ i, Sz n (co p i)
theorem Po.mono {K : PySem.W.Frag} {H H' : Hp} {v : V} {p : List Int} {l n : Nat} (h : Po K H v p l n) (s : Same H H') : Po K H' v p l n := by
  obtain ⟨⟨a, e, t⟩, r⟩ := h
  exact ⟨⟨a, e, s.tup t⟩, r⟩
theorem Sz0 {n : Nat} (h : 0 < n) : Sz n 0 := Nat.pow_pos (by decide)
theorem Sv {p : List Int} {n : Nat} (h0 : 0 < n) (h : ∀ x ∈ p, Sz n x) (i : Nat) : Sz n (co p i) := by
  by_cases hi : i < p.length
  . rw [Dc hi]
    exact h _ (List.getElem_mem hi)
  . rw [Bp (by omega)]
    exact Sz0 h0
def SqI (K : PySem.W.Frag) (H : Hp) (a : Addr) (ns : List Int) : Prop := SqL K H a (ns.map V.int) \/ SqT K H a (ns.map V.int)
theorem Yk {H H1 : Hp} {Q : VK} {E : XK} {a : Addr} {ns : List Int} {j : Int} (hS : SqL K H1 a (ns.map V.int)) (s1 : Same H1 H) (h0 : 0 <= j) (h : Q (.int (cell ns j)) H) : Mf K [.ref a, .int j] H Q E := ⟨a, ns, j, rfl, s1.seq hS, h0, h⟩
def Ij (K : PySem.W.Frag) : Sp := fun vs H Q _ => ∃ (a : Addr) (ns : List Int), vs = [.ref a] /\ SqI K H a ns /\ ns.length <= 1000 /\ ∀ z H', Same H H' -> SqT K H' z ((trim ns).map V.int) -> Q (.ref z) H'
theorem Ag0 {f : Addr} {fd : FuncData} (F : Df K mg "poly" Abk ["weights"] f fd) (z_len : mg "len" = none) (z_tuple : mg "tuple" = none)   : Cal P w K mg base 1 "poly" ["weights"] (Ij K) := by
  refine F.cal (F.fn.ok Xo (fun vs H Q E h => ?_) (fun cdv A outer s H vs Q E hr h => ?_))
  . obtain ⟨a, ns, rfl, _⟩ := h
    rfl
  obtain ⟨a, ns, rfl, hS, hl, q⟩ := h
  refine S.Bm ⟨_, (S.Ac (S.Aj (i := 1) Xo.nd rfl (Or.inl rfl) (S.Dj Bc rfl z_len PySem.boot_len (S.Aa (S.pv 0) S.Ab)))
      (S.Ac (S.Hu PassesOwn.never (S.Li (S.Wc (S.Ah Ux (S.pv 1) S.Ad (Ao _)) (S.Qt (S.Ah Jd (S.Bt Ahl (S.pv 0) (S.Ak Et (S.pv 1) S.Ad) (fun _ _ => rfl)) S.Ad (Ao _))))) (S.Af (S.Aj (i := 1) Xo.nd rfl (Or.inl rfl) (S.Ak Et (S.pv 1) S.Ad))))
      (S.Af (S.Aq (S.Gy Ep rfl z_tuple PyProof.Rows.boot_tuple (S.Aa (S.Dh Aht (S.pv 0) S.Ej (S.Em (S.pv 1))) S.Ab)))))), ?_⟩
  contradiction
  refine ⟨a, _, rfl, hS, ?_⟩
  rw [List.length_map]
  refine Qe (fun σ H' => H' = H /\ ∃ n : Nat, σ = [some (.ref a), some (.int n)] /\ n <= ns.length /\ ∀ i, n <= i -> co ns i = 0) (fun σ _ => match σ with | [_, some (.int n)] => n.toNat | _ => 0)
    ⟨rfl, _, rfl, Nat.le_refl _, fun i h => Bp h⟩ ?_
  rintro σ H' ⟨rfl, n, rfl, hn, hz⟩
  have fin : (n = 0 \/ co ns (n - 1) ≠ 0) -> Aki K (V.ref a) none (some (n : Int)) H' (fun x H1 => ∃ p ys, [x] = [V.ref p] /\ ((SqL K H1 p ys /\ ∀ (l : Addr), H1 l = none -> Q (V.ref l) (upd H1 l (HO.tup ys))) \/ SqT K H1 p ys /\ Q (V.ref p) H1)) := fun h => by
    have e : Nh (ns.map V.int) none (some (n : Int)) = (trim ns).map V.int := by
      rw [Zw hz h]
      unfold Nh
      rw [HT.N8, HT.Ra, List.drop_zero, Nat.sub_zero, List.length_map, Nat.min_eq_left hn, List.map_take]
    rcases hS with hS | hS
    . refine ⟨a, _, rfl, .inl ⟨hS, fun z H2 s2 hz2 => ?_⟩⟩
      rw [e] at hz2
      exact ⟨z, _, rfl, .inl ⟨hz2, fun y hy => q y _ (s2.trans (Same.upd hy _)) (.of Ae)⟩⟩
    . refine ⟨a, _, rfl, .inr ⟨hS, fun z H2 s2 hz2 => ?_⟩⟩
      rw [e] at hz2
      exact ⟨z, _, rfl, .inr ⟨hz2, q z _ s2 hz2⟩⟩
  contradiction
  by_cases h0 : (0 : Int) < n
  . rw [if_pos h0]
    refine ⟨a, _, _, .int (co ns (n - 1)), rfl, rfl, hS, ?_, ?_⟩
    . have e := Mg (xs := ns.map V.int) (j := n - 1) (v := .int (co ns (n - 1))) (by rw [List.getElem?_map, List.getElem?_eq_getElem (by omega), Dc (by omega)]; rfl)
      rw [show ((n - 1 : Nat) : Int) = (n : Int) - 1 by omega] at e
      exact e
    contradiction
    by_cases hc : co ns (n - 1) = 0
    . rw [if_pos hc]
      refine Ags ?_
      contradiction
      refine ⟨⟨n - 1, by rw [show ((n - 1 : Nat) : Int) = (n : Int) - 1 by omega], by omega, fun i hi => ?_⟩, by omega⟩
      by_cases hi' : i = n - 1
      . rw [hi', hc]
      . exact hz i (by omega)
    . rw [if_neg hc]
      exact fin (.inr hc)
  . rw [if_neg h0]
    exact fin (.inl (by omega))
def Ajq : Sp := fun vs H Q _ => ∃ a b : Int, vs = [.int a, .int b] /\ Q (.int (Int.gcd a b : Int)) H
def Od (_ : PySem.W.Frag) : Sp := Ajq
theorem Y5 {f : Addr} {fd : FuncData} (F : Df K mg "divisor" Rj ["one", "other"] f fd) (z_abs : mg "abs" = none)   : Cal P w K mg base 1 "divisor" ["one", "other"] (Od K) := by
  refine F.cal (F.fn.ok Ml (fun vs H Q E h => ?_) (fun cdv A outer s H vs Q E hr h => ?_))
  . obtain ⟨a, b, rfl, _⟩ := h
    rfl
  obtain ⟨a, b, rfl, q⟩ := h
  refine S.Bm ⟨_, (S.Ac (S.Aj (i := 2) Ml.nd rfl (Or.inl rfl) (S.Dj Qa rfl z_abs PyProof.Rows.boot_abs (S.Aa (S.pv 0) S.Ab)))
      (S.Ac (S.Aj (i := 3) Ml.nd rfl (Or.inl rfl) (S.Dj Qa rfl z_abs PyProof.Rows.boot_abs (S.Aa (S.pv 1) S.Ab)))
      (S.Ac (S.Hu PassesOwn.never (S.Ah Oe (S.pv 3) S.Ad (Ao _)) (S.Af (S.Mt (i := 2) (j := 3) rfl Ml.nd rfl rfl (by decide) rfl rfl (S.Aa (S.pv 3) (S.Aa (S.Ak Ci (S.pv 2) (S.pv 3)) S.Ab)) rfl)))
      (S.Af (S.Aq (S.pv 2)))))), ?_⟩
  simp only [J8, Fy, Jz, Kq, Fw, Kr, Cv, Kv, Fl, Ga, z_c, R4, Sh, Sd, J1, R6, Jw, Ka, Jm, Ku, Es, R8, Kf, J3, Ko, Fj, Ey, J6, Kw, S5, Fb, Jp, Gn, Sq, Ge, J2, Fz, Sy, J0, J7, Dw, Gg, Gk, Gj, Dq, Fg, Jq, Km, Kd, Io, Sw, Cg, Gd, Kh, Sx, Js, Ft, Jr, Jl, Gf, Kl, Gq, Gh, Gs, Dr, Ju, Ds, Gb, Eu, Fq, Dl, J9, Fp, J5, Gm, Ew, Fi, Dn, Fx, R9, cpσ, List.getElem?_cons_zero, List.getElem?_cons_succ, Option.join_some, List.set_cons_zero, List.set_cons_succ, List.append_nil, decide_eq_true_eq, Bool.not_eq_true', decide_eq_false_iff_not, Bool.not_not, ite_not, Bool.false_eq_true, Bool.true_eq_false, if_false, if_true, if_pos, List.length_cons, List.length_nil, Nat.zero_add, Nat.reduceAdd, Fe, Ez, true_and, and_true, L2.start, List.map_cons, List.map_nil, Bool.not_true, Bool.not_false, Nat.reduceSub, List.replicate_succ, List.replicate_zero, List.cons_append, List.nil_append, abs_eq]
  refine Ad6 (fun σ H' => H' = H /\ ∃ x y : Nat, σ = [some (.int a), some (.int b), some (.int x), some (.int y)] /\ Nat.gcd x y = Nat.gcd a.natAbs b.natAbs)
    (fun σ _ => match σ with | [_, _, _, some (.int y)] => y.toNat | _ => 0) ⟨rfl, _, _, rfl, rfl⟩ ?_ ?_
  . rintro σ H' ⟨rfl, x, y, rfl, e⟩
    contradiction
    by_cases hy : (y : Int) = 0
    . rw [if_pos hy]
      have hy' : y = 0 := by omega
      subst hy'
      rw [Nat.gcd_zero_right] at e
      subst e
      exact q
    . rw [if_neg hy]
      refine ⟨by omega, ⟨y, x % y, by rw [Int.natCast_emod], by rw [Yc]; exact e⟩, ?_⟩
      show ((x : Int) % (y : Int)).toNat < (y : Int).toNat
      rw [<- Int.natCast_emod, Int.toNat_natCast, Int.toNat_natCast]
      exact Nat.mod_lt _ (by omega)
  . intro σ H' Q1 Q2 h12
    simp only [Es, R4]
    rintro ⟨v, e1, hs⟩
    exact ⟨v, e1, by
      obtain ⟨s1, k, e2, h3⟩ := hs
      exact ⟨s1, k, e2, h12 _ _ h3⟩⟩
def Hi (K : PySem.W.Frag) : Sp := fun vs H Q _ => ∃ (x : V) (p : List Int) (l n : Nat), vs = [x] /\ Po K H x p l n /\ Q (.int ((p.length : Int) - 1)) H
theorem Zz {f : Addr} {fd : FuncData} (F : Df K mg "degree" Um ["one"] f fd) (z_len : mg "len" = none)   : Cal P w K mg base 1 "degree" ["one"] (Hi K) := by
  refine F.cal (F.fn.ok Aac (fun vs H Q E h => ?_) (fun cdv A outer s H vs Q E hr h => ?_))
  . obtain ⟨x, p, _, _, rfl, _⟩ := h
    rfl
  obtain ⟨x, p, l, n, rfl, ⟨⟨a, rfl, ha⟩, tp, lp, zp⟩, k⟩ := h
  refine S.Bm ⟨_, (S.Af (S.Aq (S.Ak Et (S.Dj Bc rfl z_len PySem.boot_len (S.Aa (S.pv 0) S.Ab)) S.Ad))), ?_⟩
  contradiction
  refine ⟨a, _, rfl, .inr ha, ?_⟩
  simp only [J8, Fy, Jz, Kq, Fw, Kr, Cv, Kv, Fl, Ga, z_c, R4, Sh, Sd, J1, R6, Jw, Ka, Jm, Ku, Es, R8, Kf, J3, Ko, Fj, Ey, J6, Kw, S5, Fb, Jp, Gn, Sq, Ge, J2, Fz, Sy, J0, J7, Dw, Gg, Gk, Gj, Dq, Fg, Jq, Km, Kd, Io, Sw, Cg, Gd, Kh, Sx, Js, Ft, Jr, Jl, Gf, Kl, Gq, Gh, Gs, Dr, Ju, Ds, Gb, Eu, Fq, Dl, J9, Fp, J5, Gm, Ew, Fi, Dn, Fx, R9, cpσ, List.getElem?_cons_zero, List.getElem?_cons_succ, Option.join_some, List.set_cons_zero, List.set_cons_succ, List.append_nil, decide_eq_true_eq, Bool.not_eq_true', decide_eq_false_iff_not, Bool.not_not, ite_not, Bool.false_eq_true, Bool.true_eq_false, if_false, if_true, if_pos, List.length_cons, List.length_nil, Nat.zero_add, Nat.reduceAdd, Fe, Ez, true_and, and_true, L2.start, List.map_cons, List.map_nil, Bool.not_true, Bool.not_false, Nat.reduceSub, List.replicate_succ, List.replicate_zero, List.cons_append, List.nil_append, List.length_map]
  exact k
theorem Dk {H H1 : Hp} {Q : VK} {E : XK} {x : V} {p : List Int} {l n : Nat} (hx : Po K H1 x p l n) (s1 : Same H1 H) (h : Q (.int ((p.length : Int) - 1)) H) : Hi K [x] H Q E := ⟨x, p, l, n, rfl, hx.mono s1, h⟩
theorem Abj {H : Hp} {Q : VK} {E : XK} {a : Addr} {ns : List Int} (h0 : SqL K H a (ns.map V.int)) (hl : ns.length <= 1000) (h : ∀ z H', Same H H' -> SqT K H' z ((trim ns).map V.int) -> Q (.ref z) H') : Ij K [.ref a] H Q E := ⟨a, ns, rfl, by first | exact h0 | exact .inl h0, hl, h⟩
def Akf (K : PySem.W.Frag) (c : List Int -> List Int -> Prop) : Sp := fun vs H Q _ => ∃ (x y : V) (p q : List Int) (l l' n n' : Nat), vs = [x, y] /\ Po K H x p l n /\ Po K H y q l' n' /\ l <= 500 /\ l' <= 500 /\ c p q /\ ∀ z H', Same H H' -> Po K H' z (ta p q) (max l l') (max n n' + 1) -> Q z H'
def Yt (K : PySem.W.Frag) : Sp := Akf K fun p q => q.length <= p.length
def Ib (K : PySem.W.Frag) : Sp := Akf K fun _ _ => True
theorem Zm {f : Addr} {fd : FuncData} (F : Df K mg "p_plus" Px ["one", "other"] f fd) (z_list : mg "list" = none) (z_enumerate : mg "enumerate" = none) (z_len : mg "len" = none)  (c_poly : Cal P w K mg base 1 "poly" ["weights"] (Ij K)) : Cal P w K mg base 2 "p_plus" ["one", "other"] (Yt K) := by
  refine F.cal (F.fn.ok Ie (fun vs H Q E h => ?_) (fun cdv A outer s H vs Q E hr h => ?_))
  . obtain ⟨x, y, p, q, _, _, _, _, rfl, _⟩ := h
    rfl
  obtain ⟨x, y, p, q, l, l', n, n', rfl, ⟨⟨a, rfl, ha⟩, tp, lp, zp⟩, ⟨⟨b, rfl, hb⟩, tq, lq, zq⟩, l5, l5', hc, k⟩ := h
  refine S.Bm ⟨_, (S.Ac (S.Bv (S.Ah S6 (S.Dj Bc rfl z_len PySem.boot_len (S.Aa (S.pv 0) S.Ab)) (S.Dj Bc rfl z_len PySem.boot_len (S.Aa (S.pv 1) S.Ab)) (Ao _)) (S.Af S.Qc) S.Av)
      (S.Ac (S.Aj (i := 2) Ie.nd rfl (Or.inl rfl) (S.Gy Dz rfl z_list PyProof.Rows.boot_list (S.Aa (S.pv 0) S.Ab)))
      (S.Ac (S.Hf PassesOwn.never rfl (S.Uu rfl z_enumerate (S.Aa (S.pv 1) S.Ab)) (S.Gz rfl (S.Ar (S.Am (i := 3) Ie.nd rfl (Or.inl rfl)) (S.Ar (S.Am (i := 4) Ie.nd rfl (Or.inl rfl)) S.Ed))) (S.Af (S.El (S.Ak Cz (S.Bt Dp (S.pv 2) (S.pv 3) (fun _ _ => rfl)) (S.pv 4)) (S.Ji (S.pv 2) (S.pv 3) set_list))))
      (S.Af (S.Aq (S.Ai c_poly (hr.mono (by decide)) (S.Aa (S.pv 2) S.Ab))))))), ?_⟩
  contradiction
  refine ⟨a, _, rfl, .inr ha, b, _, rfl, .inr hb, ?_⟩
  simp only [J8, Fy, Jz, Kq, Fw, Kr, Cv, Kv, Fl, Ga, z_c, R4, Sh, Sd, J1, R6, Jw, Ka, Jm, Ku, Es, R8, Kf, J3, Ko, Fj, Ey, J6, Kw, S5, Fb, Jp, Gn, Sq, Ge, J2, Fz, Sy, J0, J7, Dw, Gg, Gk, Gj, Dq, Fg, Jq, Km, Kd, Io, Sw, Cg, Gd, Kh, Sx, Js, Ft, Jr, Jl, Gf, Kl, Gq, Gh, Gs, Dr, Ju, Ds, Gb, Eu, Fq, Dl, J9, Fp, J5, Gm, Ew, Fi, Dn, Fx, R9, cpσ, List.getElem?_cons_zero, List.getElem?_cons_succ, Option.join_some, List.set_cons_zero, List.set_cons_succ, List.append_nil, decide_eq_true_eq, Bool.not_eq_true', decide_eq_false_iff_not, Bool.not_not, ite_not, Bool.false_eq_true, Bool.true_eq_false, if_false, if_true, if_pos, List.length_cons, List.length_nil, Nat.zero_add, Nat.reduceAdd, Fe, Ez, true_and, and_true, L2.start, List.map_cons, List.map_nil, Bool.not_true, Bool.not_false, Nat.reduceSub, List.replicate_succ, List.replicate_zero, List.cons_append, List.nil_append, List.length_map]
  have hc' : ¬ ((p.length : Nat) : Int) < (q.length : Nat) := by omega
  rw [if_neg hc']
  refine ⟨a, _, rfl, .inr ha, fun l0 hn => ?_⟩
  have s0 := Same.upd hn (.lst (p.map V.int))
  try contradiction
  refine ⟨⟨_, s0.tup hb⟩, Zo (es := q) (inj := V.int) (fun pre σ H' => ∃ (o1 o2 : Option V) (ms : List Int), σ = [some (.ref a), some (.ref b), some (.ref l0), o1, o2] /\ Same H H' /\ H' l0 = some (.lst (ms.map V.int)) /\ ms.length = p.length /\ ∀ i, co ms i = co p i + co pre i)
    ⟨_, _, p, rfl, s0, Ae, rfl, fun i => by rw [Ba, Int.add_zero]⟩ ?_ ?_ ?_⟩
  . rintro pre σ H' ⟨o1, o2, ms, rfl, s1, _⟩
    exact s1.tup hb
  . rintro pre e post σ H' p1 he ⟨o1, o2, ms, rfl, s1, hm, hlm, hco⟩ hp1
    refine N5 (.of Ae) ?_
    have hlen := congrArg List.length he
    rw [List.length_append, List.length_cons] at hlen
    have hj : pre.length < ms.length := by omega
    have s2 := Same.upd hp1 (.tup [V.int (pre.length : Nat), V.int e])
    have hm2 := s2 _ _ hm
    try contradiction
    refine O8 (.of hm2) (Iw hj) ?_
    try contradiction
    refine Wo hm2 (by rw [List.length_map]; exact hj) ?_
    try contradiction
    rw [K8]
    refine ⟨_, _, ms.set pre.length (ms[pre.length] + e), rfl, ?_, Ae, by rw [List.length_set]; exact hlm, fun i => ?_⟩
    . intro c o hc
      rw [Cp (Ce hc hn)]
      exact s2 _ _ (s1 _ _ hc)
    . rw [Qn _ _ _ hj, Ke, hco i]
      by_cases hi : i = pre.length
      . subst hi
        rw [if_pos rfl, if_pos rfl, <- Dc hj, hco, Bp (p := pre) (Nat.le_refl _)]
        omega
      . rw [if_neg hi, if_neg hi]
  . rintro σ H' ⟨o1, o2, ms, rfl, s1, hm, hlm, hco⟩
    try contradiction
    refine Abj (.of hm) (by omega) fun z H2 s2 hz => k _ _ (s1.trans s2) ⟨⟨z, rfl, ?_⟩, Ui _ _, ?_, fun i => ?_⟩
    . have e : trim ms = ta p q := Tq fun i => by rw [hco, Ph]
      rw [<- e]
      exact hz
    . have := Aex p q
      omega
    . rw [Oc]
      exact (zp i).add (zq i)
theorem Zy {f : Addr} {fd : FuncData} (F : Df K mg "p_plus" Px ["one", "other"] f fd) (z_list : mg "list" = none) (z_enumerate : mg "enumerate" = none) (z_len : mg "len" = none)  (c_poly : Cal P w K mg base 1 "poly" ["weights"] (Ij K)) : Cal P w K mg base 3 "p_plus" ["one", "other"] (Ib K) := by
  have c_p_plus := Zm F (z_len := z_len) (z_list := z_list) (z_enumerate := z_enumerate) (c_poly := c_poly)
  refine F.cal (F.fn.ok Ie (fun vs H Q E h => ?_) (fun cdv A outer s H vs Q E hr h => ?_))
  . obtain ⟨x, y, p, q, _, _, _, _, rfl, _⟩ := h
    rfl
  obtain ⟨x, y, p, q, l, l', n, n', rfl, ⟨⟨a, rfl, ha⟩, tp, lp, zp⟩, ⟨⟨b, rfl, hb⟩, tq, lq, zq⟩, l5, l5', hc, k⟩ := h
  refine S.Bm ⟨_, (S.Ac (S.Bv (S.Ah S6 (S.Dj Bc rfl z_len PySem.boot_len (S.Aa (S.pv 0) S.Ab)) (S.Dj Bc rfl z_len PySem.boot_len (S.Aa (S.pv 1) S.Ab)) (Ao _)) (S.Af (S.Aq (S.Ai c_p_plus (hr.mono (by decide)) (S.Aa (S.pv 1) (S.Aa (S.pv 0) S.Ab))))) S.Av)
      (S.Ac (S.Aj (i := 2) Ie.nd rfl (Or.inl rfl) (S.Gy Dz rfl z_list PyProof.Rows.boot_list (S.Aa (S.pv 0) S.Ab)))
      (S.Ac (S.Hf PassesOwn.never rfl (S.Uu rfl z_enumerate (S.Aa (S.pv 1) S.Ab)) (S.Gz rfl (S.Ar (S.Am (i := 3) Ie.nd rfl (Or.inl rfl)) (S.Ar (S.Am (i := 4) Ie.nd rfl (Or.inl rfl)) S.Ed))) (S.Af (S.El (S.Ak Cz (S.Bt Dp (S.pv 2) (S.pv 3) (fun _ _ => rfl)) (S.pv 4)) (S.Ji (S.pv 2) (S.pv 3) set_list))))
      (S.Af (S.Aq (S.Ai c_poly (hr.mono (by decide)) (S.Aa (S.pv 2) S.Ab))))))), ?_⟩
  contradiction
  refine ⟨a, _, rfl, .inr ha, b, _, rfl, .inr hb, ?_⟩
  simp only [J8, Fy, Jz, Kq, Fw, Kr, Cv, Kv, Fl, Ga, z_c, R4, Sh, Sd, J1, R6, Jw, Ka, Jm, Ku, Es, R8, Kf, J3, Ko, Fj, Ey, J6, Kw, S5, Fb, Jp, Gn, Sq, Ge, J2, Fz, Sy, J0, J7, Dw, Gg, Gk, Gj, Dq, Fg, Jq, Km, Kd, Io, Sw, Cg, Gd, Kh, Sx, Js, Ft, Jr, Jl, Gf, Kl, Gq, Gh, Gs, Dr, Ju, Ds, Gb, Eu, Fq, Dl, J9, Fp, J5, Gm, Ew, Fi, Dn, Fx, R9, cpσ, List.getElem?_cons_zero, List.getElem?_cons_succ, Option.join_some, List.set_cons_zero, List.set_cons_succ, List.append_nil, decide_eq_true_eq, Bool.not_eq_true', decide_eq_false_iff_not, Bool.not_not, ite_not, Bool.false_eq_true, Bool.true_eq_false, if_false, if_true, if_pos, List.length_cons, List.length_nil, Nat.zero_add, Nat.reduceAdd, Fe, Ez, true_and, and_true, L2.start, List.map_cons, List.map_nil, Bool.not_true, Bool.not_false, Nat.reduceSub, List.replicate_succ, List.replicate_zero, List.cons_append, List.nil_append, List.length_map]
  by_cases hc' : ((p.length : Nat) : Int) < (q.length : Nat)
  . rw [if_pos hc']
    refine ⟨_, _, q, p, l', l, n', n, rfl, ⟨⟨b, rfl, hb⟩, tq, lq, zq⟩, ⟨⟨a, rfl, ha⟩, tp, lp, zp⟩, l5', l5, by omega, fun z H' s i => k z H' s ?_⟩
    rw [Age p q, Nat.max_comm l l', Nat.max_comm n n']
    exact i
  rw [if_neg hc']
  refine ⟨a, _, rfl, .inr ha, fun l0 hn => ?_⟩
  have s0 := Same.upd hn (.lst (p.map V.int))
  try contradiction
  refine ⟨⟨_, s0.tup hb⟩, Zo (es := q) (inj := V.int) (fun pre σ H' => ∃ (o1 o2 : Option V) (ms : List Int), σ = [some (.ref a), some (.ref b), some (.ref l0), o1, o2] /\ Same H H' /\ H' l0 = some (.lst (ms.map V.int)) /\ ms.length = p.length /\ ∀ i, co ms i = co p i + co pre i)
    ⟨_, _, p, rfl, s0, Ae, rfl, fun i => by rw [Ba, Int.add_zero]⟩ ?_ ?_ ?_⟩
  . rintro pre σ H' ⟨o1, o2, ms, rfl, s1, _⟩
    exact s1.tup hb
  . rintro pre e post σ H' p1 he ⟨o1, o2, ms, rfl, s1, hm, hlm, hco⟩ hp1
    refine N5 (.of Ae) ?_
    have hlen := congrArg List.length he
    rw [List.length_append, List.length_cons] at hlen
    have hj : pre.length < ms.length := by omega
    have s2 := Same.upd hp1 (.tup [V.int (pre.length : Nat), V.int e])
    have hm2 := s2 _ _ hm
    try contradiction
    refine O8 (.of hm2) (Iw hj) ?_
    try contradiction
    refine Wo hm2 (by rw [List.length_map]; exact hj) ?_
    try contradiction
    rw [K8]
    refine ⟨_, _, ms.set pre.length (ms[pre.length] + e), rfl, ?_, Ae, by rw [List.length_set]; exact hlm, fun i => ?_⟩
    . intro c o hc
      rw [Cp (Ce hc hn)]
      exact s2 _ _ (s1 _ _ hc)
    . rw [Qn _ _ _ hj, Ke, hco i]
      by_cases hi : i = pre.length
      . subst hi
        rw [if_pos rfl, if_pos rfl, <- Dc hj, hco, Bp (p := pre) (Nat.le_refl _)]
        omega
      . rw [if_neg hi, if_neg hi]
  . rintro σ H' ⟨o1, o2, ms, rfl, s1, hm, hlm, hco⟩
    try contradiction
    refine Abj (.of hm) (by omega) fun z H2 s2 hz => k _ _ (s1.trans s2) ⟨⟨z, rfl, ?_⟩, Ui _ _, ?_, fun i => ?_⟩
    . have e : trim ms = ta p q := Tq fun i => by rw [hco, Ph]
      rw [<- e]
      exact hz
    . have := Aex p q
      omega
    . rw [Oc]
      exact (zp i).add (zq i)
def G8 (K : PySem.W.Frag) : Sp := fun vs H Q _ => ∃ (x : V) (c : Int) (p : List Int) (l n m : Nat), vs = [x, .int c] /\ Po K H x p l n /\ Sz m c /\ l <= 500 /\ n + m <= 100000000 /\ ∀ z H', Same H H' -> Po K H' z (ng p c) l (n + m) -> Q z H'
theorem Aa4 {f : Addr} {fd : FuncData} (F : Df K mg "scaled" Qf ["one", "factor"] f fd) (z_tuple : mg "tuple" = none)   : Cal P w K mg base 1 "scaled" ["one", "factor"] (G8 K) := by
  refine F.cal (F.fn.ok Ace (fun vs H Q E h => ?_) (fun cdv A outer s H vs Q E hr h => ?_))
  . obtain ⟨x, c, p, _, _, _, rfl, _⟩ := h
    rfl
  obtain ⟨x, c, p, l, n, m, rfl, ⟨⟨a, rfl, ha⟩, tp, lp, zp⟩, hm, l5, hz, k⟩ := h
  refine S.Bm ⟨_, (S.Ac (S.Bv (S.Ah Jd (S.pv 1) S.Ad (Ao _)) (S.Af (S.Aq (S.Az S.Ab))) S.Av)
      (S.Af (S.Aq (S.Gy Ep rfl z_tuple PyProof.Rows.boot_tuple (S.Aa (S.Jg (ts := ["weight"]) (fs := [(1, "factor")]) rfl (Cu.of (sc := Ag Qf) (N := ["one", "factor"]) rfl rfl (by decide +kernel)) (S.Ln (S.pv 0)) (fun _ _ _ => (S.Am (i := 0) (show List.Nodup (["weight", "factor"] : List Str) by decide +kernel) rfl (Or.inl rfl))) (fun _ _ _ => S.J4) (fun _ _ _ => (S.Ak Dy (S.pv 0) (S.pv 1)))) S.Ab))))), ?_⟩
  contradiction
  have szc : ∀ i, Sz (n + m) (co (ng p c) i) := fun i => by
    rw [Pj]
    exact (zp i).mul hm
  by_cases hc : c = 0
  . rw [if_pos hc]
    refine ⟨by decide, fun z hz' => k _ _ (Same.upd hz' _) ⟨⟨z, rfl, ?_⟩, Bb _, ?_, szc⟩⟩
    . have e : ng p c = [] := (Bb _).ext (.inl rfl) fun i => by
        have := Pj p c i
        rw [hc, Int.mul_zero] at this
        rw [Ba, <- this, hc, ng]
      rw [e]
      exact .of Ae
    . have := Hs (p.map (· * c))
      rw [List.length_map] at this
      exact Nat.le_trans this lp
  . rw [if_neg hc]
    refine ⟨⟨_, ha⟩, fun p1 hp1 => Jy (es := p) (inj := V.int) (fun w => .int (w * c)) (Nat.le_trans lp (Nat.le_trans l5 (by decide))) hp1 (Ly ha) ?_ ?_⟩
    . intro e H2 R he s2 hR
      contradiction
      obtain ⟨i, hi, ei⟩ := List.getElem_of_mem he
      have ze := zp i
      rw [Dc hi, ei] at ze
      exact ⟨ze.mulOk hm (by omega), hR _ (Same.refl _)⟩
    . intro H2 s2 h2
      try contradiction
      have e : ng p c = p.map (· * c) := Qy (.of (by
        by_cases hp : p = []
        . left; rw [hp]; rfl
        . right
          have := tp.lead hp
          rw [List.length_map, <- Aw, show trim (p.map (· * c)) = ng p c from rfl, Pj]
          exact Int.mul_ne_zero this hc))
      refine ⟨p1, _, rfl, .inl ⟨.of h2, fun z hz' => k _ _ (s2.trans (Same.upd hz' _)) ⟨⟨z, rfl, ?_⟩, Bb _, ?_, szc⟩⟩⟩
      . rw [e, List.map_map]
        exact .of Ae
      . rw [e, List.length_map]
        exact lp
def Ow (K : PySem.W.Frag) : Sp := fun vs H Q _ => ∃ (x y : V) (p q : List Int) (l l' n n' : Nat), vs = [x, y] /\ Po K H x p l n /\ Po K H y q l' n' /\ l <= 500 /\ l' <= 500 /\ n' <= 10000000 /\ ∀ z H', Same H H' -> Po K H' z (ta p (ng q (-1))) (max l l') (max n (n' + 1) + 1) -> Q z H'
theorem Zg {f : Addr} {fd : FuncData} (F : Df K mg "p_minus" Qj ["one", "other"] f fd)   (c_p_plus : Cal P w K mg base 3 "p_plus" ["one", "other"] (Ib K)) (c_scaled : Cal P w K mg base 1 "scaled" ["one", "factor"] (G8 K)) : Cal P w K mg base 4 "p_minus" ["one", "other"] (Ow K) := by
  refine F.cal (F.fn.ok Zj (fun vs H Q E h => ?_) (fun cdv A outer s H vs Q E hr h => ?_))
  . obtain ⟨x, y, p, q, _, _, _, _, rfl, _⟩ := h
    rfl
  obtain ⟨x, y, p, q, l, l', n, n', rfl, hx, hy, l5, l5', hn, k⟩ := h
  refine S.Bm ⟨_, (S.Af (S.Aq (S.Ai c_p_plus (hr.mono (by decide)) (S.Aa (S.pv 0) (S.Aa (S.Ai c_scaled (hr.mono (by decide)) (S.Aa (S.pv 1) (S.Aa (S.Eb Cd S.Ad) S.Ab))) S.Ab))))), ?_⟩
  contradiction
  refine ⟨y, -1, q, l', n', 1, rfl, hy, by unfold Sz; decide, l5', by omega, fun z H1 s1 hz => ?_⟩
  try contradiction
  exact ⟨x, z, p, ng q (-1), l, l', n, n' + 1, rfl, hx.mono s1, hz, l5, l5', trivial, fun z2 H2 s2 h2 => k z2 H2 (s1.trans s2) h2⟩
theorem Afn {q : List Int} {n n' : Nat} (hq : ∀ i, Sz n' (co q i)) : ∀ (p : List Int), (∀ x ∈ p, Sz n x) -> ∀ i, Sz (n + n' + p.length) (mu p (co q) i)
  | [], _, i => by
    have h0 : 0 < 2 ^ (n + n' + ([] : List Int).length) := Nat.pow_pos (by decide)
    exact h0
  | a :: p, h, i => by
    have ih := Afn hq p fun x hx => h x (List.mem_cons_of_mem _ hx)
    have h1 := (h a List.mem_cons_self).mul (hq i)
    have h2 : Sz (n + n' + p.length) (sh (mu p (co q)) i) := by
      cases i with
      | zero =>
        have h0 : 0 < 2 ^ (n + n' + p.length) := Nat.pow_pos (by decide)
        exact h0
      | succ i => exact ih i
    exact (h1.add h2).mono (by simp only [List.length_cons]; omega)
theorem Po.mem {K : PySem.W.Frag} {H : Hp} {v : V} {p : List Int} {l n : Nat} (h : Po K H v p l n) : ∀ x ∈ p, Sz n x := fun x hx => by
  obtain ⟨i, hi, ei⟩ := List.getElem_of_mem hx
  have z := h.2.2.2 i
  rw [Dc hi, ei] at z
  exact z
def Dd (K : PySem.W.Frag) : Sp := fun vs H Q _ => ∃ (x y : V) (p q : List Int) (l l' n n' : Nat), vs = [x, y] /\ Po K H x p l n /\ Po K H y q l' n' /\ l <= 500 /\ l' <= 500 /\ n + n' <= 100000000 /\ ∀ z H', Same H H' -> Po K H' z (tm p q) (l + l') (n + n' + l) -> Q z H'
theorem Y6 {f : Addr} {fd : FuncData} (F : Df K mg "p_times" Rn ["one", "other"] f fd) (z_enumerate : mg "enumerate" = none) (z_tuple : mg "tuple" = none) (z_len : mg "len" = none)   : Cal P w K mg base 1 "p_times" ["one", "other"] (Dd K) := by
  refine F.cal (F.fn.ok Ja (fun vs H Q E h => ?_) (fun cdv A outer s H vs Q E hr h => ?_))
  . obtain ⟨x, y, p, q, _, _, _, _, rfl, _⟩ := h
    rfl
  obtain ⟨x, y, p, q, l, l', n, n', rfl, hx, hy, l5, l5', hn, k⟩ := h
  have mx := hx.mem
  have my := hy.mem
  obtain ⟨⟨a, rfl, ha⟩, tp, lp, zp⟩ := hx
  obtain ⟨⟨b, rfl, hb⟩, tq, lq, zq⟩ := hy
  have res : ∀ (z : Addr) (H' : Hp), Same H H' -> SqT K H' z ((tm p q).map V.int) -> Q (.ref z) H' := fun z H' s hz => by
    refine k _ _ s ⟨⟨z, rfl, hz⟩, Fo _ _, ?_, fun i => ?_⟩
    . by_cases h1 : p = []
      . rw [h1, Cr, Tj]
        exact Nat.zero_le _
      . by_cases h2 : q = []
        . rw [h2, Tj]
          exact Nat.zero_le _
        . have := Nz tp tq h1 h2
          omega
    . rw [Cj]
      exact (Afn zq p mx i).mono (by omega)
  refine S.Bm ⟨_, (S.Ac (S.Bv (S.Li (S.Jf (S.Ah (Hj hr.units) (S.pv 0) (S.Az S.Ab) (Ao _)) (S.Ig (S.Ah (Hj hr.units) (S.pv 1) (S.Az S.Ab) (Ao _))))) (S.Af (S.Aq (S.Az S.Ab))) S.Av)
      (S.Ac (S.Aj (i := 2) Ja.nd rfl (Or.inl rfl) (S.Ak Aah (S.G7 (S.Aa S.Ad S.Ab)) (S.Ak Et (S.Ak Cz (S.Dj Bc rfl z_len PySem.boot_len (S.Aa (S.pv 0) S.Ab)) (S.Dj Bc rfl z_len PySem.boot_len (S.Aa (S.pv 1) S.Ab))) S.Ad)))
      (S.Ac (S.Hf PassesOwn.never rfl (S.Uu rfl z_enumerate (S.Aa (S.pv 0) S.Ab)) (S.Gz rfl (S.Ar (S.Am (i := 3) Ja.nd rfl (Or.inl rfl)) (S.Ar (S.Am (i := 4) Ja.nd rfl (Or.inl rfl)) S.Ed))) (S.Af (S.Bv (S.Ah Oe (S.pv 4) S.Ad (Ao _)) (S.Af (S.Hf PassesOwn.never rfl (S.Uu rfl z_enumerate (S.Aa (S.pv 1) S.Ab)) (S.Gz rfl (S.Ar (S.Am (i := 5) Ja.nd rfl (Or.inl rfl)) (S.Ar (S.Am (i := 6) Ja.nd rfl (Or.inl rfl)) S.Ed))) (S.Af (S.El (S.Ak Cz (S.Bt Dp (S.pv 2) (S.Ak Cz (S.pv 3) (S.pv 5)) (fun _ _ => rfl)) (S.Ak Dy (S.pv 4) (S.pv 6))) (S.Ji (S.pv 2) (S.Ak Cz (S.pv 3) (S.pv 5)) set_list))))) S.Av)))
      (S.Af (S.Aq (S.Gy Ep rfl z_tuple PyProof.Rows.boot_tuple (S.Aa (S.pv 2) S.Ab))))))), ?_⟩
  contradiction
  refine ⟨by decide, fun p1 hp1 => ?_⟩
  have s1 := Same.upd hp1 (.tup [])
  refine Bx (ms := []) (s1.tup ha) (.of Ae) ?_
  try contradiction
  by_cases h1 : p = []
  . rw [if_pos h1]
    refine ⟨by decide, fun z hz => res z _ (s1.trans (Same.upd hz _)) ?_⟩
    rw [h1, Cr, Tj]
    exact .of Ae
  rw [if_neg h1]
  refine ⟨by decide, fun p2 hp2 => ?_⟩
  have s2 := s1.trans (Same.upd hp2 (.tup []))
  refine Bx (ms := []) (s2.tup hb) (.of Ae) ?_
  try contradiction
  by_cases h2 : q = []
  . rw [if_pos h2]
    refine ⟨by decide, fun z hz => res z _ (s2.trans (Same.upd hz _)) ?_⟩
    rw [h2, Tj]
    exact .of Ae
  rw [if_neg h2]
  intro p3 hp3
  have s3 := s2.trans (Same.upd hp3 (.lst [V.int 0]))
  have q1 := List.length_pos_iff.mpr h1
  have q2 := List.length_pos_iff.mpr h2
  have sz5 : 1000 <= sizeLine := by decide
  refine ⟨a, _, rfl, .inr (s3.tup ha), b, _, rfl, .inr (s3.tup hb), ?_⟩
  simp only [List.length_map]
  have hN : ((p.length : Int) + (q.length : Int) - 1).toNat = p.length + q.length - 1 := by omega
  refine ⟨p3, _, [V.int 0], rfl, rfl, Ae, by omega, by omega, by rw [hN]; simp only [List.length_cons, List.length_nil]; omega, fun l0 hn => ?_⟩
  rw [hN, Nj]
  have hnH : H l0 = none := Same.free s3 hn
  have s4 := s3.trans (Same.upd hn (.lst ((List.replicate (p.length + q.length - 1) (0 : Int)).map V.int)))
  refine ⟨⟨_, s4.tup ha⟩, Zo (es := p) (inj := V.int) (fun pre σ H' => ∃ (o1 o2 o3 o4 : Option V) (ms : List Int), σ = [some (.ref a), some (.ref b), some (.ref l0), o1, o2, o3, o4] /\ Same H H' /\ H' l0 = some (.lst (ms.map V.int)) /\ ms.length = p.length + q.length - 1 /\ ∀ i, co ms i = mu pre (co q) i)
    ⟨_, _, _, _, List.replicate (p.length + q.length - 1) 0, rfl, s4, Ae, by rw [List.length_replicate], fun i => ?_⟩ ?_ ?_ ?_⟩
  . show _ = 0
    unfold co
    rw [List.getD_eq_getElem?_getD, List.getElem?_replicate]
    split <;> rfl
  . rintro pre σ H' ⟨o1, o2, o3, o4, ms, rfl, s5, _⟩
    exact s5.tup ha
  . rintro pre e post σ H' p4 he ⟨o1, o2, o3, o4, ms, rfl, s5, hm, hlm, hco⟩ hp4
    refine N5 (.of Ae) ?_
    have hlen := congrArg List.length he
    rw [List.length_append, List.length_cons] at hlen
    have ez : Sz n e := mx e (by rw [he]; simp)
    have s6 := s5.trans (Same.upd hp4 (.tup [V.int (pre.length : Nat), V.int e]))
    have hm6 := Same.upd hp4 (.tup [V.int (pre.length : Nat), V.int e]) _ _ hm
    try contradiction
    by_cases hz : e = 0
    . rw [if_pos hz]
      exact ⟨_, _, _, _, ms, rfl, s6, hm6, hlm, fun i => by rw [M8, hco, hz]; simp⟩
    . rw [if_neg hz]
      refine ⟨⟨_, s6.tup hb⟩, Zo (es := q) (inj := V.int) (fun pre2 σ H2 => ∃ (o3 o4 : Option V) (ms2 : List Int), σ = [some (.ref a), some (.ref b), some (.ref l0), some (.int (pre.length : Nat)), some (.int e), o3, o4] /\ Same H H2 /\ H2 l0 = some (.lst (ms2.map V.int)) /\ ms2.length = p.length + q.length - 1 /\
          ∀ i, co ms2 i = mu pre (co q) i + (if pre.length <= i then e * co pre2 (i - pre.length) else 0)) ⟨_, _, ms, rfl, s6, hm6, hlm, fun i => ?_⟩ ?_ ?_ ?_⟩
      . rw [hco, Ba, Int.mul_zero]
        split <;> simp
      . rintro pre2 σ H2 ⟨o3, o4, ms2, rfl, s7, _⟩
        exact s7.tup hb
      . rintro pre2 f post2 σ H2 p5 he2 ⟨o3, o4, ms2, rfl, s7, hm7, hlm2, hco2⟩ hp5
        refine N5 (.of Ae) ?_
        have hlen2 := congrArg List.length he2
        rw [List.length_append, List.length_cons] at hlen2
        have fz : Sz n' f := my f (by rw [he2]; simp)
        have hj : pre.length + pre2.length < ms2.length := by omega
        have s8 := Same.upd hp5 (.tup [V.int (pre2.length : Nat), V.int f])
        have hm8 := s8 _ _ hm7
        simp only [J8, Fy, Jz, Kq, Fw, Kr, Cv, Kv, Fl, Ga, z_c, R4, Sh, Sd, J1, R6, Jw, Ka, Jm, Ku, Es, R8, Kf, J3, Ko, Fj, Ey, J6, Kw, S5, Fb, Jp, Gn, Sq, Ge, J2, Fz, Sy, J0, J7, Dw, Gg, Gk, Gj, Dq, Fg, Jq, Km, Kd, Io, Sw, Cg, Gd, Kh, Sx, Js, Ft, Jr, Jl, Gf, Kl, Gq, Gh, Gs, Dr, Ju, Ds, Gb, Eu, Fq, Dl, J9, Fp, J5, Gm, Ew, Fi, Dn, Fx, R9, cpσ, List.getElem?_cons_zero, List.getElem?_cons_succ, Option.join_some, List.set_cons_zero, List.set_cons_succ, List.append_nil, decide_eq_true_eq, Bool.not_eq_true', decide_eq_false_iff_not, Bool.not_not, ite_not, Bool.false_eq_true, Bool.true_eq_false, if_false, if_true, if_pos, List.length_cons, List.length_nil, Nat.zero_add, Nat.reduceAdd, Fe, Ez, true_and, and_true, L2.start, List.map_cons, List.map_nil, Bool.not_true, Bool.not_false, Nat.reduceSub, List.replicate_succ, List.replicate_zero, List.cons_append, List.nil_append, <- Int.natCast_add]
        refine O8 (.of hm8) (Iw hj) ?_
        try contradiction
        refine ⟨ez.mulOk fz (by omega), ?_⟩
        refine Wo hm8 (by rw [List.length_map]; exact hj) ?_
        try contradiction
        rw [K8]
        refine ⟨_, _, ms2.set (pre.length + pre2.length) (ms2[pre.length + pre2.length] + e * f), rfl, ?_, Ae, by rw [List.length_set]; exact hlm2, fun i => ?_⟩
        . intro c o hc
          rw [Cp (Ce hc hnH)]
          exact s8 _ _ (s7 _ _ hc)
        . rw [Qn _ _ _ hj, Ke, hco2 i]
          by_cases hi : i = pre.length + pre2.length
          . subst hi
            rw [if_pos rfl, <- Dc hj, hco2, if_pos (by omega), if_pos (by omega), if_pos (by omega), show pre.length + pre2.length - pre.length = pre2.length by omega, Bp (p := pre2) (Nat.le_refl _)]
            omega
          . rw [if_neg hi]
            by_cases hi2 : pre.length <= i
            . rw [if_pos hi2, if_pos hi2, if_neg (by omega)]
            . rw [if_neg hi2, if_neg hi2]
      . rintro σ H2 ⟨o3, o4, ms2, rfl, s7, hm7, hlm2, hco2⟩
        try contradiction
        exact ⟨_, _, _, _, ms2, rfl, s7, hm7, hlm2, fun i => by rw [M8, hco2]⟩
  . rintro σ H' ⟨o1, o2, o3, o4, ms, rfl, s5, hm, hlm, hco⟩
    try contradiction
    have e : ms = tm p q := by
      have tl := Nz tp tq h1 h2
      refine List.ext_getElem (by omega) fun i g1 g2 => ?_
      rw [<- Dc g1, <- Dc g2, hco, Cj]
    refine ⟨l0, _, rfl, .inl ⟨.of hm, fun z hz => res z _ (s5.trans (Same.upd hz _)) ?_⟩⟩
    rw [<- e]
    exact .of Ae
theorem Akc {p : List Int} {l n : Nat} (tp : Tr p) (lp : p.length <= l) (zp : ∀ i, Sz n (co p i)) : ∀ m, (pw p m).length <= m * l + 1 /\ ∀ i, Sz (m * (n + l) + 1) (co (pw p m) i)
  | 0 => ⟨by simp [pw], fun i => by
    rw [pw]
    refine Sv (by omega) (fun x hx => ?_) i
    have e : x = 1 := by simpa using hx
    subst e
    unfold Sz
    rw [Nat.zero_mul]
    decide⟩
  | m + 1 => by
    obtain ⟨h1, h2⟩ := Akc tp lp zp m
    have e1 : (m + 1) * l = m * l + l := Nat.succ_mul _ _
    have e2 : (m + 1) * (n + l) = m * (n + l) + (n + l) := Nat.succ_mul _ _
    refine ⟨?_, fun i => ?_⟩
    . rw [pw]
      by_cases z1 : p = []
      . rw [z1, Cr, Tj]
        exact Nat.zero_le _
      . by_cases z2 : pw p m = []
        . rw [z2, Tj]
          exact Nat.zero_le _
        . have := Nz tp (Z1 p m) z1 z2
          omega
    . rw [pw, Cj]
      exact (Afn h2 p (fun x hx => by
        obtain ⟨i, hi, ei⟩ := List.getElem_of_mem hx
        have z := zp i
        rw [Dc hi, ei] at z
        exact z) i).mono (by omega)
def Rr (K : PySem.W.Frag) : Sp := fun vs H Q _ => ∃ (x0 x : V) (m M : Nat) (mi : Int) (p : List Int) (l n : Nat), vs = [x0, x, .int mi, .ref (cA K "p_times")] /\ (mi = (m : Nat) \/ mi < 0 /\ m = 0) /\ (∃ a, x0 = .ref a /\ SqT K H a [V.int 1]) /\ Po K H x p l n /\ m <= M /\ 1 <= M /\ M * l + 1 <= 500 /\ M * (n + l) + 1 <= 1000000 /\ ∀ z H', Same H H' -> Po K H' z (pw p m) (m * l + 1) (m * (n + l) + 1) -> Q z H'
theorem W9 {f : Addr} {fd : FuncData} (F : Df K mg "repeated" Om ["start", "one", "many", "product"] f fd)  (xm_p_times : mg "p_times" = some (.ref (cA K "p_times"))) (c_p_times : Cal P w K mg base 1 "p_times" ["one", "other"] (Dd K)) : Cal P w K mg base 2 "repeated" ["start", "one", "many", "product"] (Rr K) := by
  refine F.cal (F.fn.ok Gx (fun vs H Q E h => ?_) (fun cdv A outer s H vs Q E hr h => ?_))
  . obtain ⟨x0, x, m, M, mi, p, _, _, rfl, _⟩ := h
    rfl
  obtain ⟨_, x, m, M, mi, p, l, n, rfl, hmi, ⟨p0, rfl, hp0⟩, hx, hm, hM, hl, hn, k⟩ := h
  have hx' := hx
  obtain ⟨_, tp, lp, zp⟩ := hx'
  have bd := Akc tp lp zp
  have sm : ∀ a, a <= M -> a * l + 1 <= 500 /\ a * (n + l) + 1 <= 1000000 := fun a ha => by
    have h1 : a * l <= M * l := Nat.mul_le_mul_right _ ha
    have h2 : a * (n + l) <= M * (n + l) := Nat.mul_le_mul_right _ ha
    omega
  have conv : ∀ (H' : Hp) (z : V) (a b L N : Nat), Po K H' z (tm (pw p a) (pw p b)) L N -> Po K H' z (pw p (a + b)) ((a + b) * l + 1) ((a + b) * (n + l) + 1) := fun H' z a b L N h => by
    rw [Aet] at h
    exact ⟨h.1, Z1 _ _, bd (a + b)⟩
  refine S.Bm ⟨_, (S.Ac (S.Aj (i := 4) Gx.nd rfl (Or.inl rfl) (S.pv 0))
      (S.Ac (S.Aj (i := 5) Gx.nd rfl (Or.inl rfl) (S.pv 1))
      (S.Ac (S.Aj (i := 6) Gx.nd rfl (Or.inl rfl) (S.pv 2))
      (S.Ac (S.Hu PassesOwn.never (S.Ah Ux (S.pv 6) S.Ad (Ao _)) (S.Ac (S.Bv (S.Ah Jd (S.Ak Ci (S.pv 6) S.Ad) S.Ad (Ao _)) (S.Af (S.Aj (i := 4) Gx.nd rfl (Or.inl rfl) (S.Yy c_p_times xm_p_times (hr.mono (by decide)) (S.pv 3) (S.Aa (S.pv 4) (S.Aa (S.pv 5) S.Ab))))) S.Av)
      (S.Ac (S.Aj (i := 6) Gx.nd rfl (Or.inl rfl) (S.Ak Bw (S.pv 6) S.Ad))
      (S.Af (S.Bv (S.Ah Ux (S.pv 6) S.Ad (Ao _)) (S.Af (S.Aj (i := 5) Gx.nd rfl (Or.inl rfl) (S.Yy c_p_times xm_p_times (hr.mono (by decide)) (S.pv 3) (S.Aa (S.pv 5) (S.Aa (S.pv 5) S.Ab))))) S.Av)))))
      (S.Af (S.Aq (S.pv 4))))))), ?_⟩
  contradiction
  have s0 := Same.refl H
  have i1 : Po K H (.ref p0) (pw p 0) (0 * l + 1) (0 * (n + l) + 1) := ⟨⟨p0, rfl, hp0⟩, Z1 _ _, bd 0⟩
  have i2 : Po K H x (pw p 1) (1 * l + 1) (1 * (n + l) + 1) := ⟨by rw [Ah0 tp]; exact hx.1, Z1 _ _, bd 1⟩
  rcases hmi with rfl | ⟨hneg, rfl⟩
  case inr =>
    refine Qe (fun σ H' => σ = [some (.ref p0), some x, some (.int mi), some (.ref (cA K "p_times")), some (.ref p0), some x, some (.int mi)] /\ H' = H) (fun _ _ => 0) ⟨rfl, rfl⟩ ?_
    rintro σ H' ⟨rfl, rfl⟩
    contradiction
    rw [if_neg (by omega)]
    exact k _ _ s0 i1
  refine Qe (fun σ H' => ∃ (zp zs : V) (a b t : Nat), σ = [some (.ref p0), some x, some (.int (m : Nat)), some (.ref (cA K "p_times")), some zp, some zs, some (.int (t : Nat))] /\ Same H H' /\ Po K H' zp (pw p a) (a * l + 1) (a * (n + l) + 1) /\ Po K H' zs (pw p b) (b * l + 1) (b * (n + l) + 1) /\ a + b * t = m /\ b <= M)
    (fun σ _ => match σ with | [_, _, _, _, _, _, some (.int t)] => t.toNat | _ => 0) ⟨_, _, 0, 1, m, rfl, s0, i1, i2, by omega, hM⟩ ?_
  rintro σ H' ⟨yp, ys, a, b, t, rfl, s1, ia, ib, hab, hb⟩
  contradiction
  by_cases ht : (0 : Int) < (t : Nat)
  . rw [if_pos ht]
    refine Ags ?_
    contradiction
    refine ⟨by decide, ?_⟩
    have d2 : ((t : Nat) : Int) / 2 = ((t / 2 : Nat) : Int) := by omega
    have ha : a <= M := by omega
    have step : ∀ (H2 : Hp) (z : V) (a' : Nat), Same H' H2 -> Po K H2 z (pw p a') (a' * l + 1) (a' * (n + l) + 1) -> a' + 2 * b * (t / 2) = m ->
        Afe (t : Nat) 2 /\ (if (0 : Int) < ((t : Nat) : Int) / 2 then Dd K [ys, ys] H2 (fun w H3 => (∃ (zp zs : V) (a b u : Nat), [some (.ref p0), some x, some (.int (m : Nat)), some (.ref (cA K "p_times")), some z, some w, some (.int (((t : Nat) : Int) / 2))] = [some (.ref p0), some x, some (.int (m : Nat)), some (.ref (cA K "p_times")), some zp, some zs, some (.int (u : Nat))] /\ Same H H3 /\ Po K H3 zp (pw p a) (a * l + 1) (a * (n + l) + 1) /\ Po K H3 zs (pw p b) (b * l + 1) (b * (n + l) + 1) /\ a + b * u = m /\ b <= M) /\ (((t : Nat) : Int) / 2).toNat < ((t : Nat) : Int).toNat) E0
          else (∃ (zp zs : V) (a b u : Nat), [some (.ref p0), some x, some (.int (m : Nat)), some (.ref (cA K "p_times")), some z, some ys, some (.int (((t : Nat) : Int) / 2))] = [some (.ref p0), some x, some (.int (m : Nat)), some (.ref (cA K "p_times")), some zp, some zs, some (.int (u : Nat))] /\ Same H H2 /\ Po K H2 zp (pw p a) (a * l + 1) (a * (n + l) + 1) /\ Po K H2 zs (pw p b) (b * l + 1) (b * (n + l) + 1) /\ a + b * u = m /\ b <= M) /\ (((t : Nat) : Int) / 2).toNat < ((t : Nat) : Int).toNat) := fun H2 z a' s2 iz e => by
      rw [d2]
      refine ⟨⟨by decide, by decide⟩, ?_⟩
      by_cases h2 : (0 : Int) < ((t / 2 : Nat) : Int)
      . rw [if_pos h2]
        have hbb : 2 * b <= 2 * b * (t / 2) := Nat.le_mul_of_pos_right _ (by omega)
        have q1 := sm b hb
        refine ⟨ys, ys, _, _, _, _, _, _, rfl, ib.mono s2, ib.mono s2, q1.1, q1.1, by omega, fun w H3 s3 iw => ⟨⟨z, w, a', b + b, t / 2, rfl, (s1.trans s2).trans s3, iz.mono s3, conv _ _ _ _ _ _ iw, ?_, by omega⟩, by omega⟩⟩
        rw [<- Nat.two_mul]
        exact e
      . rw [if_neg h2]
        have t0 : t / 2 = 0 := by omega
        refine ⟨⟨z, ys, a', b, t / 2, rfl, s1.trans s2, iz, ib.mono s2, ?_, hb⟩, by omega⟩
        rw [t0] at e ⊢
        simpa using e
    have e3 : b * t = 2 * b * (t / 2) + b * (t % 2) := by
      have e := Nat.div_add_mod t 2
      calc b * t = b * (2 * (t / 2) + t % 2) := by rw [e]
        _ = 2 * b * (t / 2) + b * (t % 2) := by rw [Nat.mul_add, <- Nat.mul_assoc, Nat.mul_comm b 2]
    have q1 := sm a ha
    have q2 := sm b hb
    by_cases ho : ((t : Nat) : Int) % 2 = 1
    . rw [if_pos ho]
      have o1 : t % 2 = 1 := by omega
      refine ⟨yp, ys, _, _, _, _, _, _, rfl, ia, ib, q1.1, q2.1, by omega, fun w H2 s2 iw => step H2 w (a + b) s2 (conv _ _ _ _ _ _ iw) ?_⟩
      rw [o1, Nat.mul_one] at e3
      omega
    . rw [if_neg ho]
      have o1 : t % 2 = 0 := by omega
      refine step H' yp a (Same.refl _) ia ?_
      rw [o1, Nat.mul_zero] at e3
      omega
  . rw [if_neg ht]
    have t0 : t = 0 := by omega
    subst t0
    have e : a = m := by simpa using hab
    subst e
    exact k _ _ s1 ia
@[irreducible] def BIG : Nat := 600000
theorem Tg : BIG = 600000 := by unfold BIG; rfl
theorem Ii {q : List Int} (hq : q ≠ []) : atI (q.map V.int) (-1) = some (.int (co q (q.length - 1))) := by
  obtain ⟨ini, c, rfl⟩ : ∃ (i : List Int) (x : Int), q = i ++ [x] := ⟨_, _, (List.dropLast_concat_getLast hq).symm⟩
  rw [List.map_append, List.length_append, List.length_singleton, Nat.add_sub_cancel, Ke, if_pos rfl]
  exact Ur _ _
def LdR (K : PySem.W.Frag) (bb : Bool) (p q : List Int) (Q : VK) (H : Hp) : Prop := ∀ (z : Addr) (H' : Hp) (s : Int) (c d : V) (u r : List Int), Same H H' -> SqT K H' z [.int s, c, d] -> Po K H' c u 60 BIG -> Po K H' d r 60 BIG -> 1 <= s -> Sz BIG s -> (bb = false -> s = 1) ->
  (∀ k, s * co p k = mu u (co q) k + co r k) -> r.length < q.length -> Cop s u r -> Q (.ref z) H'
def K5 (K : PySem.W.Frag) : Sp := fun vs H Q E => ∃ (x y : V) (bb : Bool) (p q : List Int) (l l' n n' : Nat), vs = [x, y, .bl bb] /\ Po K H x p l n /\ Po K H y q l' n' /\ l <= 60 /\ l' <= 60 /\ n <= 9000 /\ n' <= 8000 /\ (q = [] -> ∀ H', Same H H' -> E (.ref (cA K "NoPart")) none H') /\ (bb = false -> q ≠ [] -> ¬ Exact p q -> ∀ H', Same H H' -> Q .non H') /\ (q ≠ [] -> LdR K bb p q Q H)
theorem Pk {f : Addr} {fd : FuncData} (F : Df K mg "long_division" Ek ["one", "other", "scaling"] f fd) (z_list : mg "list" = none) (z_range : mg "range" = none) (z_max : mg "max" = none) (z_len : mg "len" = none) (z_abs : mg "abs" = none) (z_enumerate : mg "enumerate" = none) (xk_NoPart : Acx K (cA K "NoPart")) (xm_NoPart : mg "NoPart" = some (.ref (cA K "NoPart"))) (c_poly : Cal P w K mg base 1 "poly" ["weights"] (Ij K)) (c_divisor : Cal P w K mg base 1 "divisor" ["one", "other"] (Od K)) (c_degree : Cal P w K mg base 1 "degree" ["one"] (Hi K)) : Zq P w K mg base 2 "long_division" ["one", "other", "scaling"] (K5 K) := by
  refine F.calE (F.fn.okE Bk (fun vs H Q E h => ?_) (fun cdv A outer s H vs Q E hr h => ?_))
  . obtain ⟨x, y, bb, p, q, _, _, _, _, rfl, _⟩ := h
    rfl
  obtain ⟨x, y, bb, p, q, l, l', n, n', rfl, hx, hy, h15, h15', hn, hn', k0, kn, k⟩ := h
  have mx := hx.mem
  have my := hy.mem
  obtain ⟨⟨a, rfl, ha⟩, tp, lp, zp⟩ := id hx
  obtain ⟨⟨b, rfl, hb⟩, tq, lq, zq⟩ := id hy
  refine S.Bm ⟨_, (S.Ac (S.Bv (S.Ah (Hj hr.units) (S.pv 1) (S.Az S.Ab) (Ao _)) (S.Af (S.Hz xk_NoPart xm_NoPart (S.Aa S.O9 S.Ab))) S.Av)
      (S.Ac (S.Aj (i := 3) Bk.nd rfl (Or.inl rfl) S.Ad)
      (S.Ac (S.Aj (i := 4) Bk.nd rfl (Or.inl rfl) (S.Ak Aah (S.G7 (S.Aa S.Ad S.Ab)) (S.Dj (Vn rfl) rfl z_max PyProof.Rows.boot_max (S.Aa (S.Ak Cz (S.Ak Et (S.Dj Bc rfl z_len PySem.boot_len (S.Aa (S.pv 0) S.Ab)) (S.Dj Bc rfl z_len PySem.boot_len (S.Aa (S.pv 1) S.Ab))) S.Ad) (S.Aa S.Ad S.Ab)))))
      (S.Ac (S.Aj (i := 5) Bk.nd rfl (Or.inl rfl) (S.Gy Dz rfl z_list PyProof.Rows.boot_list (S.Aa (S.pv 0) S.Ab)))
      (S.Ac (S.Acq (S.Hf PassesOwn.never rfl (S.Ng rfl z_range (S.Aa (S.Ak Et (S.Dj Bc rfl z_len PySem.boot_len (S.Aa (S.pv 4) S.Ab)) S.Ad) (S.Aa (S.Eb Cd S.Ad) (S.Aa (S.Eb Cd S.Ad) S.Ab)))) (S.Am (i := 6) Bk.nd rfl (Or.inl rfl)) (S.Ac (S.Aj (i := 7) Bk.nd rfl (Or.inr rfl) (S.Ak N7 (S.Dj Qa rfl z_abs PyProof.Rows.boot_abs (S.Aa (S.Bt Bu (S.pv 1) (S.Eb Cd S.Ad) (fun _ _ => rfl)) S.Ab)) (S.Ai c_divisor (hr.mono (by decide)) (S.Aa (S.Bt Dp (S.pv 5) (S.Ak Cz (S.pv 6) (S.Ai c_degree (hr.mono (by decide)) (S.Aa (S.pv 1) S.Ab))) (fun _ _ => rfl)) (S.Aa (S.Bt Bu (S.pv 1) (S.Eb Cd S.Ad) (fun _ _ => rfl)) S.Ab)))))
      (S.Ac (S.Bv (S.Ah Oe (S.pv 7) S.Ad (Ao _)) (S.Ac (S.Bv (S.Jk (S.G9 (S.pv 2))) (S.Af (S.Aq S.Mu)) S.Av)
      (S.Ac (S.Aj (i := 3) Bk.nd rfl (Or.inl rfl) (S.Ak Dy (S.pv 3) (S.pv 7)))
      (S.Ac (S.Oh (ts := ["weight"]) (fs := [(7, "missing")]) rfl (Cu.of (sc := Ag Ek) (N := ["one", "other", "scaling", "scale", "quotient", "rest", "place", "missing", "factor", "further", "weight"]) rfl rfl (by decide +kernel)) (S.M7 (S.pv 4)) (fun _ _ _ => (S.Am (i := 0) (show List.Nodup (["weight", "missing"] : List Str) by decide +kernel) rfl (Or.inl rfl))) (fun _ _ _ => S.J4) (fun _ _ _ => (S.Ak Dy (S.pv 0) (S.pv 1))) (S.Am (i := 4) Bk.nd rfl (Or.inl rfl)))
      (S.Af (S.Oh (ts := ["weight"]) (fs := [(7, "missing")]) rfl (Cu.of (sc := Ag Ek) (N := ["one", "other", "scaling", "scale", "quotient", "rest", "place", "missing", "factor", "further", "weight"]) rfl rfl (by decide +kernel)) (S.M7 (S.pv 5)) (fun _ _ _ => (S.Am (i := 0) (show List.Nodup (["weight", "missing"] : List Str) by decide +kernel) rfl (Or.inl rfl))) (fun _ _ _ => S.J4) (fun _ _ _ => (S.Ak Dy (S.pv 0) (S.pv 1))) (S.Am (i := 5) Bk.nd rfl (Or.inl rfl))))))) S.Av)
      (S.Ac (S.Aj (i := 8) Bk.nd rfl (Or.inl rfl) (S.Ak N7 (S.Bt Dp (S.pv 5) (S.Ak Cz (S.pv 6) (S.Ai c_degree (hr.mono (by decide)) (S.Aa (S.pv 1) S.Ab))) (fun _ _ => rfl)) (S.Bt Bu (S.pv 1) (S.Eb Cd S.Ad) (fun _ _ => rfl))))
      (S.Ac (S.El (S.pv 8) (S.Ji (S.pv 4) (S.pv 6) set_list))
      (S.Af (S.Bv (S.Ah Oe (S.pv 8) S.Ad (Ao _)) (S.Af (S.Hf PassesOwn.never rfl (S.Uu rfl z_enumerate (S.Aa (S.pv 1) S.Ab)) (S.Gz rfl (S.Ar (S.Am (i := 9) Bk.nd rfl (Or.inl rfl)) (S.Ar (S.Am (i := 10) Bk.nd rfl (Or.inl rfl)) S.Ed))) (S.Af (S.El (S.Ak Et (S.Bt Dp (S.pv 5) (S.Ak Cz (S.pv 6) (S.pv 9)) (fun _ _ => rfl)) (S.Ak Dy (S.pv 8) (S.pv 10))) (S.Ji (S.pv 5) (S.Ak Cz (S.pv 6) (S.pv 9)) set_list))))) S.Av))))))))
      (S.Af (S.Aq (S.Az (S.Aa (S.pv 3) (S.Aa (S.Ai c_poly (hr.mono (by decide)) (S.Aa (S.pv 4) S.Ab)) (S.Aa (S.Ai c_poly (hr.mono (by decide)) (S.Aa (S.pv 5) S.Ab)) S.Ab))))))))))), ?_⟩
  refine Bl (fun σ' H' => Same H H' /\ q ≠ [] /\ σ' = [some (.ref a), some (.ref b), some (.bl bb), none, none, none, none, none, none, none, none]) (fun N hN => ?_) ?_
  . contradiction
    refine ⟨by decide, fun e0 he0 => ?_⟩
    have se := Same.upd he0 (.tup [])
    refine Bx (ms := []) (se.tup hb) (.of Ae) ?_
    try contradiction
    split
    . rename_i h
      exact k0 h _ se
    . rename_i h
      exact hN _ _ ⟨se, h, rfl⟩
  rintro σ H1 ⟨s1, hq, rfl⟩
  replace k := k hq
  replace kn := fun h => kn h hq
  have hql : 0 < q.length := List.length_pos_iff.mpr hq
  have sz5 : 1000 <= sizeLine := by decide
  obtain ⟨L, hL⟩ : ∃ L, L = p.length + 1 - q.length := ⟨_, rfl⟩
  have l0 : co q (q.length - 1) ≠ 0 := tq.lead hq
  have eL : (if (0 : Int) > (p.length : Int) - (q.length : Int) + 1 then (0 : Int) else (p.length : Int) - (q.length : Int) + 1) = (L : Int) := by
    subst hL
    split <;> omega
  refine Bl (fun σ' H' => H' = H1 /\ σ' = [some (.ref a), some (.ref b), some (.bl bb), some (.int 1), none, none, none, none, none, none, none]) (fun N hN => ?_) ?_
  . contradiction
    exact hN _ _ ⟨rfl, rfl⟩
  rintro σ H2 ⟨rfl, rfl⟩
  refine Bl (fun σ' H' => Same H H' /\ ∃ cq, σ' = [some (.ref a), some (.ref b), some (.bl bb), some (.int 1), some (.ref cq), none, none, none, none, none, none] /\ H cq = none /\ H' cq = some (.lst ((List.replicate L (0 : Int)).map V.int))) (fun N hN => ?_) ?_
  . contradiction
    intro p3 hp3
    have s3 := s1.trans (Same.upd hp3 (.lst [V.int 0]))
    refine ⟨a, _, rfl, .inr (s3.tup ha), b, _, rfl, .inr (s3.tup hb), ?_⟩
    simp only [J8, Fy, Jz, Kq, Fw, Kr, Cv, Kv, Fl, Ga, z_c, R4, Sh, Sd, J1, R6, Jw, Ka, Jm, Ku, Es, R8, Kf, J3, Ko, Fj, Ey, J6, Kw, S5, Fb, Jp, Gn, Sq, Ge, J2, Fz, Sy, J0, J7, Dw, Gg, Gk, Gj, Dq, Fg, Jq, Km, Kd, Io, Sw, Cg, Gd, Kh, Sx, Js, Ft, Jr, Jl, Gf, Kl, Gq, Gh, Gs, Dr, Ju, Ds, Gb, Eu, Fq, Dl, J9, Fp, J5, Gm, Ew, Fi, Dn, Fx, R9, cpσ, List.getElem?_cons_zero, List.getElem?_cons_succ, Option.join_some, List.set_cons_zero, List.set_cons_succ, List.append_nil, decide_eq_true_eq, Bool.not_eq_true', decide_eq_false_iff_not, Bool.not_not, ite_not, Bool.false_eq_true, Bool.true_eq_false, if_false, if_true, if_pos, List.length_cons, List.length_nil, Nat.zero_add, Nat.reduceAdd, Fe, Ez, true_and, and_true, L2.start, List.map_cons, List.map_nil, Bool.not_true, Bool.not_false, Nat.reduceSub, List.replicate_succ, List.replicate_zero, List.cons_append, List.nil_append, List.length_map, eL]
    refine ⟨p3, _, [V.int 0], rfl, rfl, Ae, by omega, by omega, by simp only [Int.toNat_natCast, List.length_cons, List.length_nil]; omega, fun cq hcq => ?_⟩
    rw [Int.toNat_natCast, Nj]
    exact hN _ _ ⟨s3.trans (Same.upd hcq _), cq, rfl, Same.free s3 hcq, Ae⟩
  rintro σ H3 ⟨s3, cq, rfl, nq, hcq⟩
  refine Bl (fun σ' H' => Same H H' /\ ∃ cq cr, σ' = [some (.ref a), some (.ref b), some (.bl bb), some (.int 1), some (.ref cq), some (.ref cr), none, none, none, none, none] /\ H cq = none /\ H cr = none /\ cq ≠ cr /\ H' cq = some (.lst ((List.replicate L (0 : Int)).map V.int)) /\ H' cr = some (.lst (p.map V.int))) (fun N hN => ?_) ?_
  . contradiction
    refine ⟨a, _, rfl, .inr (s3.tup ha), fun cr hcr => hN _ _ ⟨s3.trans (Same.upd hcr _), cq, cr, rfl, nq, Same.free s3 hcr, ?_, Same.upd hcr _ _ _ hcq, Ae⟩⟩
    exact Ce hcq hcr
  clear hcq nq s3
  rintro σ H4 ⟨s4, cq, cr, rfl, nq, nr, ne, hcq, hcr⟩
  obtain ⟨B, hB⟩ : ∃ B : Nat -> Nat, B = fun i => n + (n' + 1) * i := ⟨_, rfl⟩
  have B1 : ∀ i, B (i + 1) = B i + n' + 1 := fun i => by rw [hB]; show n + (n' + 1) * (i + 1) = n + (n' + 1) * i + n' + 1; rw [Nat.mul_succ]; omega
  have Bn : ∀ i, i <= 60 -> B i <= 500000 := fun i hi => by
    rw [hB]
    have : (n' + 1) * i <= (n' + 1) * 60 := Nat.mul_le_mul_left _ hi
    show n + (n' + 1) * i <= 500000
    omega
  have B0 : B 0 = n := by rw [hB]; rfl
  have hL15 : L <= 60 := by omega
  refine Bl (fun σ' H' => Same H H' /\ ∃ (sc : Int) (cq cr : Addr) (qs rs : List Int) (o6 o7 o8 o9 o10 : Option V), σ' = [some (.ref a), some (.ref b), some (.bl bb), some (.int sc), some (.ref cq), some (.ref cr), o6, o7, o8, o9, o10] /\ H' cq = some (.lst (qs.map V.int)) /\ H' cr = some (.lst (rs.map V.int)) /\ qs.length = L /\ rs.length = p.length /\ DV p q sc qs rs 0 /\ (bb = false -> sc = 1) /\ Sz (B L + 1) sc /\ (∀ x ∈ qs, Sz (B L + 1) x) /\ ∀ x ∈ rs, Sz (B L + 1) x) (fun N hN => ?_) ?_
  . rw [Io]
    contradiction
    refine ⟨cq, _, rfl, .inl (.of hcq), ?_⟩
    try contradiction
    rw [List.length_map, List.length_replicate]
    refine ⟨by omega, ?_⟩
    refine Aib L (fun i => .int ((L : Int) - 1 - (i : Nat))) (fun i σ' H' => Same H H' /\ ∃ (sc : Int) (cq cr : Addr) (qs rs : List Int) (o6 o7 o8 o9 o10 : Option V), σ' = [some (.ref a), some (.ref b), some (.bl bb), some (.int sc), some (.ref cq), some (.ref cr), o6, o7, o8, o9, o10] /\ H cq = none /\ H cr = none /\ cq ≠ cr /\ H' cq = some (.lst (qs.map V.int)) /\ H' cr = some (.lst (rs.map V.int)) /\ qs.length = L /\ rs.length = p.length /\ DV p q sc qs rs (L - i) /\ (bb = false -> sc = 1) /\ Sz (B i + 1) sc /\ (∀ x ∈ qs, Sz (B i + 1) x) /\ ∀ x ∈ rs, Sz (B i + 1) x) ?_ ?_ ?_ ?_
    . refine ⟨s4, 1, cq, cr, _, _, _, _, _, _, _, rfl, nq, nr, ne, hcq, hcr, List.length_replicate, rfl, by rw [hL, Nat.sub_zero]; exact DV.start p q hq, fun _ => rfl, ?_, fun x hx => ?_, fun x hx => (mx x hx).mono (by rw [B0]; omega)⟩
      . exact (show Sz 1 (1 : Int) by unfold Sz; decide).mono (by omega)
      . rw [List.eq_of_mem_replicate hx]
        exact Sz0 (by omega)
    . intro i σ' H' _
      have e : ((L : Int) - 1 - -1).toNat = L := by omega
      rw [e]
      exact Q6
    . clear hcq hcr nq nr ne s4
      rintro i σ' H5 hi ⟨s5, sc, cq, cr, qs, rs, o6, o7, o8, o9, o10, rfl, nq, nr, ne, hcq, hcr, hlq, hlr, dv, b1, zs, zqs, zrs⟩
      obtain ⟨j, hj⟩ : ∃ j : Nat, j + 1 = L - i := ⟨L - i - 1, by omega⟩
      have pj : (L : Int) - 1 - (i : Nat) = (j : Int) := by omega
      rw [<- hj] at dv
      rw [Cv, pj]
      simp only [List.set_cons_succ, List.set_cons_zero]
      obtain ⟨d, hd⟩ : ∃ d, d + 1 = q.length := ⟨q.length - 1, by omega⟩
      have hd' : q.length - 1 = d := by omega
      have hjd : j + d < rs.length := by omega
      have hjq : j < qs.length := by omega
      rw [hd'] at l0
      have ix : (j : Int) + ((q.length : Int) - 1) = ((j + d : Nat) : Int) := by omega
      have hlast := Ii hq
      rw [hd'] at hlast
      have er : rs[j + d] = co rs (j + d) := (Dc hjd).symm
      have zl : Sz n' (co q d) := zq d
      have Bi := Bn i (by omega)
      obtain ⟨m, fc, em, ef, m1, emf, cp, mle, fle⟩ := Aiy (co rs (j + d)) (co q d) l0
      have g0 : 0 < Int.gcd (co rs (j + d)) (co q d) := Int.gcd_pos_of_ne_zero_right _ l0
      have gz : Sz n' ((Int.gcd (co rs (j + d)) (co q d) : Nat) : Int) := zl.of_abs (by
        have := Nat.le_of_dvd (by omega) (Int.gcd_dvd_natAbs_right (co rs (j + d)) (co q d))
        omega)
      have zr : Sz (B i + 1) (co rs (j + d)) := by rw [<- er]; exact zrs _ (List.getElem_mem hjd)
      have zm : Sz n' m := zl.of_abs mle
      have zf : Sz (B i + 1) fc := zr.of_abs fle
      have lg := gz.log2 (by omega) (by omega)
      have ll := zl.log2 l0 (by omega)
      refine Bl (fun σ' H' => H' = H5 /\ σ' = [some (.ref a), some (.ref b), some (.bl bb), some (.int sc), some (.ref cq), some (.ref cr), some (.int j), some (.int m), o8, o9, o10]) (fun N hN => ?_) ?_
      . contradiction
        refine Ei (s5.tup hb) hlast ?_
        simp only [J8, Fy, Jz, Kq, Fw, Kr, Cv, Kv, Fl, Ga, z_c, R4, Sh, Sd, J1, R6, Jw, Ka, Jm, Ku, Es, R8, Kf, J3, Ko, Fj, Ey, J6, Kw, S5, Fb, Jp, Gn, Sq, Ge, J2, Fz, Sy, J0, J7, Dw, Gg, Gk, Gj, Dq, Fg, Jq, Km, Kd, Io, Sw, Cg, Gd, Kh, Sx, Js, Ft, Jr, Jl, Gf, Kl, Gq, Gh, Gs, Dr, Ju, Ds, Gb, Eu, Fq, Dl, J9, Fp, J5, Gm, Ew, Fi, Dn, Fx, R9, cpσ, List.getElem?_cons_zero, List.getElem?_cons_succ, Option.join_some, List.set_cons_zero, List.set_cons_succ, List.append_nil, decide_eq_true_eq, Bool.not_eq_true', decide_eq_false_iff_not, Bool.not_not, ite_not, Bool.false_eq_true, Bool.true_eq_false, if_false, if_true, if_pos, List.length_cons, List.length_nil, Nat.zero_add, Nat.reduceAdd, Fe, Ez, true_and, and_true, L2.start, List.map_cons, List.map_nil, Bool.not_true, Bool.not_false, Nat.reduceSub, List.replicate_succ, List.replicate_zero, List.cons_append, List.nil_append, abs_eq]
        refine Dk hy s5 ?_
        simp only [J8, Fy, Jz, Kq, Fw, Kr, Cv, Kv, Fl, Ga, z_c, R4, Sh, Sd, J1, R6, Jw, Ka, Jm, Ku, Es, R8, Kf, J3, Ko, Fj, Ey, J6, Kw, S5, Fb, Jp, Gn, Sq, Ge, J2, Fz, Sy, J0, J7, Dw, Gg, Gk, Gj, Dq, Fg, Jq, Km, Kd, Io, Sw, Cg, Gd, Kh, Sx, Js, Ft, Jr, Jl, Gf, Kl, Gq, Gh, Gs, Dr, Ju, Ds, Gb, Eu, Fq, Dl, J9, Fp, J5, Gm, Ew, Fi, Dn, Fx, R9, cpσ, List.getElem?_cons_zero, List.getElem?_cons_succ, Option.join_some, List.set_cons_zero, List.set_cons_succ, List.append_nil, decide_eq_true_eq, Bool.not_eq_true', decide_eq_false_iff_not, Bool.not_not, ite_not, Bool.false_eq_true, Bool.true_eq_false, if_false, if_true, if_pos, List.length_cons, List.length_nil, Nat.zero_add, Nat.reduceAdd, Fe, Ez, true_and, and_true, L2.start, List.map_cons, List.map_nil, Bool.not_true, Bool.not_false, Nat.reduceSub, List.replicate_succ, List.replicate_zero, List.cons_append, List.nil_append, ix]
        refine O8 (.of hcr) (Iw hjd) ?_
        try contradiction
        refine Ei (s5.tup hb) hlast ?_
        try contradiction
        rw [er]
        refine ⟨_, _, rfl, ?_⟩
        try contradiction
        refine ⟨⟨by omega, lg⟩, ?_⟩
        rw [em]
        exact hN _ _ ⟨rfl, rfl⟩
      rintro σ' H6 ⟨rfl, rfl⟩
      refine Bl (fun σ' H' => Same H H' /\ (bb = false -> m = 1) /\ ∃ cq cr, σ' = [some (.ref a), some (.ref b), some (.bl bb), some (.int (sc * m)), some (.ref cq), some (.ref cr), some (.int j), some (.int m), o8, o9, o10] /\ H cq = none /\ H cr = none /\ cq ≠ cr /\ H' cq = some (.lst ((qs.map (· * m)).map V.int)) /\ H' cr = some (.lst ((rs.map (· * m)).map V.int))) (fun N hN => ?_) ?_
      . contradiction
        split
        . rename_i h1
          have one : ∀ x : List Int, x.map (· * m) = x := fun x => by
            rw [h1]
            simp
          refine hN _ _ ⟨s5, fun _ => h1, cq, cr, by rw [h1, Int.mul_one], nq, nr, ne, by rw [one]; exact hcq, by rw [one]; exact hcr⟩
        . rename_i h1
          cases bb with
          | false =>
            try contradiction
            refine kn rfl (fun ex => h1 ?_) _ s5
            have b1' := b1 rfl
            subst b1'
            have dd := dv.exact_top hq (by rw [hd']; exact l0) ex
            rw [hd'] at dd
            rw [<- em]
            exact Adp l0 dd
          | true =>
            try contradiction
            refine ⟨zs.mulOk zm (by omega), ⟨_, .of hcq⟩, fun p1 hp1 => Jy (es := qs) (inj := V.int) (fun x => .int (x * m)) (by omega) hp1 (Us (.of hcq)) ?_ ?_⟩
            . intro e H7 R he s7 hR
              contradiction
              exact ⟨(zqs e he).mulOk zm (by omega), hR _ (Same.refl _)⟩
            intro H7 s7 h7
            try contradiction
            have hcr7 := s7 _ _ hcr
            refine ⟨⟨_, .of hcr7⟩, fun p2 hp2 => Jy (es := rs) (inj := V.int) (fun x => .int (x * m)) (by omega) hp2 (Us (.of hcr7)) ?_ ?_⟩
            . intro e H8 R he s8 hR
              contradiction
              exact ⟨(zrs e he).mulOk zm (by omega), hR _ (Same.refl _)⟩
            intro H8 s8 h8
            try contradiction
            refine hN _ _ ⟨(s5.trans s7).trans s8, (fun h => nomatch h), p1, p2, rfl, Same.free s5 hp1, Same.free (s5.trans s7) hp2, Ce h7 hp2, by rw [List.map_map]; exact s8 _ _ h7, by rw [List.map_map]; exact h8⟩
      clear hcq hcr nq nr ne s5
      rintro σ' H6 ⟨s5, bm, cq, cr, rfl, nq, nr, ne, hcq, hcr⟩
      have hjd' : j + d < (rs.map (· * m)).length := by rw [List.length_map]; exact hjd
      refine Bl (fun σ' H' => H' = H6 /\ σ' = [some (.ref a), some (.ref b), some (.bl bb), some (.int (sc * m)), some (.ref cq), some (.ref cr), some (.int j), some (.int m), some (.int fc), o9, o10]) (fun N hN => ?_) ?_
      . contradiction
        refine Dk hy s5 ?_
        simp only [J8, Fy, Jz, Kq, Fw, Kr, Cv, Kv, Fl, Ga, z_c, R4, Sh, Sd, J1, R6, Jw, Ka, Jm, Ku, Es, R8, Kf, J3, Ko, Fj, Ey, J6, Kw, S5, Fb, Jp, Gn, Sq, Ge, J2, Fz, Sy, J0, J7, Dw, Gg, Gk, Gj, Dq, Fg, Jq, Km, Kd, Io, Sw, Cg, Gd, Kh, Sx, Js, Ft, Jr, Jl, Gf, Kl, Gq, Gh, Gs, Dr, Ju, Ds, Gb, Eu, Fq, Dl, J9, Fp, J5, Gm, Ew, Fi, Dn, Fx, R9, cpσ, List.getElem?_cons_zero, List.getElem?_cons_succ, Option.join_some, List.set_cons_zero, List.set_cons_succ, List.append_nil, decide_eq_true_eq, Bool.not_eq_true', decide_eq_false_iff_not, Bool.not_not, ite_not, Bool.false_eq_true, Bool.true_eq_false, if_false, if_true, if_pos, List.length_cons, List.length_nil, Nat.zero_add, Nat.reduceAdd, Fe, Ez, true_and, and_true, L2.start, List.map_cons, List.map_nil, Bool.not_true, Bool.not_false, Nat.reduceSub, List.replicate_succ, List.replicate_zero, List.cons_append, List.nil_append, ix]
        refine O8 (.of hcr) (Iw hjd') ?_
        try contradiction
        refine Ei (s5.tup hb) hlast ?_
        try contradiction
        rw [List.getElem_map, er]
        refine ⟨⟨l0, ll⟩, ?_⟩
        rw [ef]
        exact hN _ _ ⟨rfl, rfl⟩
      rintro σ' H7 ⟨rfl, rfl⟩
      refine Bl (fun σ' H' => Same H H' /\ σ' = [some (.ref a), some (.ref b), some (.bl bb), some (.int (sc * m)), some (.ref cq), some (.ref cr), some (.int j), some (.int m), some (.int fc), o9, o10] /\ H' cq = some (.lst (((qs.map (· * m)).set j fc).map V.int)) /\ H' cr = some (.lst ((rs.map (· * m)).map V.int))) (fun N hN => ?_) ?_
      . contradiction
        refine Wo hcq (by rw [List.length_map, List.length_map]; exact hjq) ?_
        rw [K8]
        exact hN _ _ ⟨s5.put nq, rfl, Ae, by rw [Cp (Ne.symm ne)]; exact hcr⟩
      clear hcq hcr s5
      rintro σ' H8 ⟨s5, rfl, hcq, hcr⟩
      have zB1 := B1 i
      have fin : ∀ (rs' : List Int) (o9 o10 : Option V) (H9 : Hp), Same H H9 -> H9 cq = some (.lst (((qs.map (· * m)).set j fc).map V.int)) -> H9 cr = some (.lst (rs'.map V.int)) -> rs'.length = rs.length -> (∀ k, co rs' k = co rs k * m - (if j <= k then fc * co q (k - j) else 0)) ->
          Same H H9 /\ ∃ (sc' : Int) (cq' cr' : Addr) (qs' rs'' : List Int) (u6 u7 u8 u9 u10 : Option V), [some (V.ref a), some (.ref b), some (.bl bb), some (.int (sc * m)), some (.ref cq), some (.ref cr), some (.int j), some (.int m), some (.int fc), o9, o10] = [some (.ref a), some (.ref b), some (.bl bb), some (.int sc'), some (.ref cq'), some (.ref cr'), u6, u7, u8, u9, u10] /\ H cq' = none /\ H cr' = none /\ cq' ≠ cr' /\ H9 cq' = some (.lst (qs'.map V.int)) /\ H9 cr' = some (.lst (rs''.map V.int)) /\ qs'.length = L /\ rs''.length = p.length /\ DV p q sc' qs' rs'' (L - (i + 1)) /\ (bb = false -> sc' = 1) /\ Sz (B (i + 1) + 1) sc' /\ (∀ x ∈ qs', Sz (B (i + 1) + 1) x) /\ ∀ x ∈ rs'', Sz (B (i + 1) + 1) x := by
        intro rs' o9 o10 H9 s9 h1 h2 hl2 hco
        refine ⟨s9, sc * m, cq, cr, _, rs', _, _, _, _, _, rfl, nq, nr, ne, h1, h2, by rw [List.length_set, List.length_map]; exact hlq, by omega, ?_, fun hb0 => by rw [b1 hb0, bm hb0]; rfl, (zs.mul zm).mono (by omega), fun x hx => ?_, fun x hx => ?_⟩
        . rw [show L - (i + 1) = j by omega]
          exact dv.step hq m1 hjq (by rw [hd']; exact emf) cp hco
        . rcases List.mem_or_eq_of_mem_set hx with hx | hx
          . obtain ⟨y, hy', rfl⟩ := List.mem_map.mp hx
            exact ((zqs y hy').mul zm).mono (by omega)
          . rw [hx]; exact zf.mono (by omega)
        . obtain ⟨t, ht, et⟩ := List.getElem_of_mem hx
          have z := hco t
          rw [Dc ht, et] at z
          rw [z]
          have za : Sz (B i + 1 + n') (co rs t * m) := by
            by_cases h : t < rs.length
            . rw [Dc h]; exact (zrs _ (List.getElem_mem h)).mul zm
            . rw [Bp (by omega), Int.zero_mul]; exact Sz0 (by omega)
          have zb : Sz (B i + 1 + n') (if j <= t then fc * co q (t - j) else 0) := by
            split
            . exact zf.mul (zq _)
            . exact Sz0 (by omega)
          exact (za.sub zb).mono (by omega)
      contradiction
      split
      . rename_i h0
        refine fin (rs.map (· * m)) _ _ _ s5 hcq hcr (by rw [List.length_map]) fun t => ?_
        rw [Uq, h0]
        split <;> simp
      . refine ⟨⟨_, s5.tup hb⟩, Zo (es := q) (inj := V.int) (fun pre σ' H' => Same H H' /\ ∃ (u9 u10 : Option V) (ms : List Int), σ' = [some (.ref a), some (.ref b), some (.bl bb), some (.int (sc * m)), some (.ref cq), some (.ref cr), some (.int j), some (.int m), some (.int fc), u9, u10] /\ H' cq = some (.lst (((qs.map (· * m)).set j fc).map V.int)) /\ H' cr = some (.lst (ms.map V.int)) /\ ms.length = rs.length /\ ∀ t, co ms t = co rs t * m - (if j <= t then fc * co pre (t - j) else 0)) ⟨s5, _, _, rs.map (· * m), rfl, hcq, hcr, by rw [List.length_map], fun t => by rw [Uq]; split <;> simp [Ba]⟩ ?_ ?_ ?_⟩
        . rintro pre σ' H' ⟨s9, _⟩
          exact s9.tup hb
        . rintro pre e post σ' H9 p1 he ⟨s9, u9, u10, ms, rfl, h1, h2, hlm, hco⟩ hp1
          refine N5 (.of Ae) ?_
          have hlen := congrArg List.length he
          rw [List.length_append, List.length_cons] at hlen
          have hjj : j + pre.length < ms.length := by omega
          have s10 := Same.upd hp1 (.tup [V.int (pre.length : Nat), V.int e])
          have h1' := s10 _ _ h1
          have h2' := s10 _ _ h2
          have ze : Sz n' e := my e (by rw [he]; simp)
          simp only [J8, Fy, Jz, Kq, Fw, Kr, Cv, Kv, Fl, Ga, z_c, R4, Sh, Sd, J1, R6, Jw, Ka, Jm, Ku, Es, R8, Kf, J3, Ko, Fj, Ey, J6, Kw, S5, Fb, Jp, Gn, Sq, Ge, J2, Fz, Sy, J0, J7, Dw, Gg, Gk, Gj, Dq, Fg, Jq, Km, Kd, Io, Sw, Cg, Gd, Kh, Sx, Js, Ft, Jr, Jl, Gf, Kl, Gq, Gh, Gs, Dr, Ju, Ds, Gb, Eu, Fq, Dl, J9, Fp, J5, Gm, Ew, Fi, Dn, Fx, R9, cpσ, List.getElem?_cons_zero, List.getElem?_cons_succ, Option.join_some, List.set_cons_zero, List.set_cons_succ, List.append_nil, decide_eq_true_eq, Bool.not_eq_true', decide_eq_false_iff_not, Bool.not_not, ite_not, Bool.false_eq_true, Bool.true_eq_false, if_false, if_true, if_pos, List.length_cons, List.length_nil, Nat.zero_add, Nat.reduceAdd, Fe, Ez, true_and, and_true, L2.start, List.map_cons, List.map_nil, Bool.not_true, Bool.not_false, Nat.reduceSub, List.replicate_succ, List.replicate_zero, List.cons_append, List.nil_append, <- Int.natCast_add]
          refine O8 (.of h2') (Iw hjj) ?_
          try contradiction
          refine ⟨zf.mulOk ze (by omega), ?_⟩
          refine Wo h2' (by rw [List.length_map]; exact hjj) ?_
          try contradiction
          rw [K8]
          refine ⟨(s9.trans s10).put nr, _, _, ms.set (j + pre.length) (ms[j + pre.length] - fc * e), rfl, by rw [Cp ne]; exact h1', Ae, by rw [List.length_set]; exact hlm, fun t => ?_⟩
          rw [Qn _ _ _ hjj, Ke, hco t]
          by_cases ht : t = j + pre.length
          . subst ht
            rw [if_pos rfl, if_pos (by omega), if_pos (by omega), <- Dc hjj, hco, if_pos (by omega), show j + pre.length - j = pre.length by omega, Bp (p := pre) (Nat.le_refl _)]
            omega
          . rw [if_neg ht]
            by_cases hjt : j <= t
            . rw [if_pos hjt, if_pos hjt, if_neg (by omega)]
            . rw [if_neg hjt, if_neg hjt]
        . rintro σ' H9 ⟨s9, u9, u10, ms, rfl, h1, h2, hlm, hco⟩
          exact fin ms u9 u10 H9 s9 h1 h2 hlm hco
    . rintro σ' H5 ⟨s5, sc, cq, cr, qs, rs, o6, o7, o8, o9, o10, rfl, nq, nr, ne, hcq, hcr, hlq, hlr, dv, b1, zs, zqs, zrs⟩
      rw [Nat.sub_self] at dv
      exact hN _ _ ⟨s5, sc, cq, cr, qs, rs, o6, o7, o8, o9, o10, rfl, hcq, hcr, hlq, hlr, dv, b1, zs, zqs, zrs⟩
  rintro σ H5 ⟨s5, sc, cq, cr, qs, rs, o6, o7, o8, o9, o10, rfl, hcq, hcr, hlq, hlr, dv, b1, zs, zqs, zrs⟩
  have BL := Bn L hL15
  have bigE := Tg
  contradiction
  refine ⟨cq, qs, rfl, .inl (.of hcq), by omega, fun z1 H6 s6 h6 => ?_⟩
  try contradiction
  refine ⟨cr, rs, rfl, .inl (.of (s6 _ _ hcr)), by omega, fun z2 H7 s7 h7 => ?_⟩
  try contradiction
  refine ⟨by decide, fun z hz => ?_⟩
  have s8 := Same.upd hz (.tup [V.int sc, V.ref z1, V.ref z2])
  have csz : ∀ (x : List Int), (∀ y ∈ x, Sz (B L + 1) y) -> ∀ t, Sz BIG (co (trim x) t) := fun x hx t => by
    rw [Aw]
    by_cases h : t < x.length
    . rw [Dc h]; exact (hx _ (List.getElem_mem h)).mono (by omega)
    . rw [Bp (by omega)]; exact Sz0 (by omega)
  have t1 := Hs qs
  have t2 := Hs rs
  refine k z _ sc (.ref z1) (.ref z2) (trim qs) (trim rs) (((s5.trans s6).trans s7).trans s8) (.of Ae) ⟨⟨z1, rfl, s8.tup (s7.tup h6)⟩, Bb _, by omega, csz qs zqs⟩ ⟨⟨z2, rfl, s8.tup h7⟩, Bb _, by omega, csz rs zrs⟩ dv.pos (zs.mono (by omega)) b1 (fun t => ?_) ?_ ?_
  . rw [dv.eq, Bq (co q) (trim qs) qs fun i => Aw qs i, Aw]
  . have : (trim rs).length <= q.length - 1 := by
      have h := (Bb rs).len (q := rs.take (q.length - 1)) fun t => by
        rw [Aw, Kc]
        split
        . rfl
        . exact dv.top t (by omega)
      rw [List.length_take] at h
      omega
    omega
  . intro e h1 h2 h3
    exact dv.cop e h1 (fun t => by rw [<- Aw]; exact h2 t) fun t => by rw [<- Aw]; exact h3 t
theorem Zx : ∀ (p r : List Int), gl (p ++ r) = Int.gcd (gl p : Nat) (gl r : Nat)
  | [], r => by rw [List.nil_append, gl]; simp
  | a :: p, r => by rw [List.cons_append, gl, Zx p r, gl, Int.gcd_assoc]
theorem Aa6 (p : List Int) (e : Int) : gl (p ++ [e]) = Int.gcd (gl p : Nat) e := by
  rw [Zx, gl, gl]
  simp [Int.gcd]
def Aj6 (K : PySem.W.Frag) : Sp := fun vs H Q _ => ∃ (a : Addr) (ns : List Int), vs = [.ref a] /\ SqT K H a (ns.map V.int) /\ Q (.int (gl ns : Nat)) H
def Iv (K : PySem.W.Frag) : Sp := Aj6 K
theorem Ug {f : Addr} {fd : FuncData} (F : Df K mg "divisor_of" Lq ["some"] f fd)   (c_divisor : Cal P w K mg base 1 "divisor" ["one", "other"] (Od K)) : Cal P w K mg base 2 "divisor_of" ["some"] (Iv K) := by
  refine F.cal (F.fn.ok Ir (fun vs H Q E h => ?_) (fun cdv A outer s H vs Q E hr h => ?_))
  . obtain ⟨a, ns, rfl, _⟩ := h
    rfl
  obtain ⟨a, ns, rfl, hS, q⟩ := h
  refine S.Bm ⟨_, (S.Ac (S.Aj (i := 1) Ir.nd rfl (Or.inl rfl) S.Ad)
      (S.Ac (S.Hf PassesOwn.never rfl (S.Ln (S.pv 0)) (S.Am (i := 2) Ir.nd rfl (Or.inl rfl)) (S.Ac (S.Aj (i := 1) Ir.nd rfl (Or.inl rfl) (S.Ai c_divisor (hr.mono (by decide)) (S.Aa (S.pv 1) (S.Aa (S.pv 2) S.Ab))))
      (S.Af (S.Bv (S.Ah Jd (S.pv 1) S.Ad (Ao _)) (S.Af (S.Aq (S.pv 1))) S.Av))))
      (S.Af (S.Aq (S.pv 1))))), ?_⟩
  contradiction
  refine ⟨⟨_, hS⟩, Acp (es := ns) (inj := V.int) (fun pre σ H' => H' = H /\ ∃ o, σ = [some (.ref a), some (.int (gl pre : Nat)), o]) ⟨rfl, _, rfl⟩ ?_ ?_ ?_⟩
  . rintro pre σ H' ⟨rfl, _⟩
    exact Yn hS
  . rintro pre e post σ H' he ⟨rfl, o, rfl⟩
    contradiction
    refine ⟨_, _, rfl, ?_⟩
    rw [<- Aa6]
    contradiction
    split
    . rename_i h1
      have h1' : gl (pre ++ [e]) = 1 := by omega
      have e2 : gl ns = gl (pre ++ [e]) := by
        rw [he, <- List.singleton_append, <- List.append_assoc, Zx, h1']
        simp
      rw [<- e2]
      exact q
    . exact ⟨_, rfl⟩
  . rintro σ H' ⟨rfl, o, rfl⟩
    contradiction
    exact q
def Tw (K : PySem.W.Frag) : Sp := Aj6 K
theorem Yw {f : Addr} {fd : FuncData} (F : Df K mg "content" Qs ["one"] f fd)   (c_divisor_of : Cal P w K mg base 2 "divisor_of" ["some"] (Iv K)) : Cal P w K mg base 3 "content" ["one"] (Tw K) := by
  refine F.cal (F.fn.ok Yx (fun vs H Q E h => ?_) (fun cdv A outer s H vs Q E hr h => ?_))
  . obtain ⟨a, ns, rfl, _⟩ := h
    rfl
  obtain ⟨a, ns, rfl, hS, q⟩ := h
  refine S.Bm ⟨_, (S.Af (S.Aq (S.Ai c_divisor_of (hr.mono (by decide)) (S.Aa (S.pv 0) S.Ab)))), ?_⟩
  contradiction
  exact ⟨a, ns, rfl, hS, q⟩
def Xb (K : PySem.W.Frag) : Sp := fun vs H Q _ => ∃ (a : Addr) (p : List Int), vs = [.ref a] /\ SqT K H a (p.map V.int) /\ ∀ H', Same H H' -> Q (.int (un p)) H'
theorem Afz {f : Addr} {fd : FuncData} (F : Df K mg "unit" Z9 ["one"] f fd)   (c_content : Cal P w K mg base 3 "content" ["one"] (Tw K)) : Cal P w K mg base 4 "unit" ["one"] (Xb K) := by
  refine F.cal (F.fn.ok Agt (fun vs H Q E h => ?_) (fun cdv A outer s H vs Q E hr h => ?_))
  . obtain ⟨a, p, rfl, _⟩ := h
    rfl
  obtain ⟨a, p, rfl, hS, k⟩ := h
  refine S.Bm ⟨_, (S.Ac (S.Bv (S.Li (S.Wc (S.Ah (Tn hr.units) (S.pv 0) (S.Az S.Ab) (Ao _)) (S.Qt (S.Ah S6 (S.Bt Bu (S.pv 0) (S.Eb Cd S.Ad) (fun _ _ => rfl)) S.Ad (Ao _))))) (S.Af (S.Aq (S.Eb Cd (S.Ai c_content (hr.mono (by decide)) (S.Aa (S.pv 0) S.Ab))))) S.Av)
      (S.Af (S.Aq (S.Ai c_content (hr.mono (by decide)) (S.Aa (S.pv 0) S.Ab))))), ?_⟩
  contradiction
  refine ⟨by decide, fun e0 he0 => ?_⟩
  have se := Same.upd he0 (.tup [])
  refine Bx (ms := []) (se.tup hS) (.of Ae) ?_
  by_cases h0 : p = []
  . subst h0
    try contradiction
    exact ⟨a, [], rfl, se.tup hS, k _ se⟩
  . rw [decide_eq_false h0]
    try contradiction
    refine Ei (se.tup hS) (Ii h0) ?_
    try contradiction
    split
    . rename_i hl
      refine ⟨a, p, rfl, se.tup hS, ?_⟩
      try contradiction
      have : un p = -((gl p : Nat) : Int) := if_pos hl
      rw [<- this]
      exact k _ se
    . rename_i hl
      refine ⟨a, p, rfl, se.tup hS, ?_⟩
      try contradiction
      have : un p = ((gl p : Nat) : Int) := if_neg hl
      rw [<- this]
      exact k _ se
def Ky (K : PySem.W.Frag) : Sp := fun vs H Q _ => ∃ (a : Addr) (p : List Int) (d : Int), vs = [.ref a, .int d] /\ SqT K H a (p.map V.int) /\ p.length <= 1000 /\ (p ≠ [] -> d ≠ 0 /\ Sz 8000 d) /\ ∀ z H', Same H H' -> SqT K H' z ((p.map fun x => x.fdiv d).map V.int) -> Q (.ref z) H'
theorem Aa8 {f : Addr} {fd : FuncData} (F : Df K mg "shrunk" Pu ["one", "number"] f fd) (z_tuple : mg "tuple" = none)   : Cal P w K mg base 1 "shrunk" ["one", "number"] (Ky K) := by
  refine F.cal (F.fn.ok Z7 (fun vs H Q E h => ?_) (fun cdv A outer s H vs Q E hr h => ?_))
  . obtain ⟨a, p, d, rfl, _⟩ := h
    rfl
  obtain ⟨a, p, d, rfl, hS, hl, hd, k⟩ := h
  refine S.Bm ⟨_, (S.Af (S.Aq (S.Gy Ep rfl z_tuple PyProof.Rows.boot_tuple (S.Aa (S.Jg (ts := ["weight"]) (fs := [(1, "number")]) rfl (Cu.of (sc := Ag Pu) (N := ["one", "number"]) rfl rfl (by decide +kernel)) (S.Ln (S.pv 0)) (fun _ _ _ => (S.Am (i := 0) (show List.Nodup (["weight", "number"] : List Str) by decide +kernel) rfl (Or.inl rfl))) (fun _ _ _ => S.J4) (fun _ _ _ => (S.Ak N7 (S.pv 0) (S.pv 1)))) S.Ab)))), ?_⟩
  contradiction
  refine ⟨⟨_, hS⟩, fun p1 hp1 => Jy (es := p) (inj := V.int) (fun x => .int (x.fdiv d)) (Nat.le_trans hl (by decide)) hp1 (Ly hS) ?_ ?_⟩
  . intro e H2 R he s2 hR
    have := hd (List.ne_nil_of_mem he)
    contradiction
    exact ⟨⟨this.1, this.2.log2 this.1 (by decide)⟩, hR _ (Same.refl _)⟩
  intro H2 s2 h2
  try contradiction
  have em : p.map (fun x => V.int (x.fdiv d)) = (p.map fun x => x.fdiv d).map V.int := by rw [List.map_map]; rfl
  rw [em] at h2
  exact ⟨p1, _, rfl, .inl ⟨.of h2, fun z hz => k z _ (s2.trans (Same.upd hz _)) (.of Ae)⟩⟩
def Qg (K : PySem.W.Frag) : Sp := fun vs H Q _ => ∃ (x : V) (p : List Int) (l n : Nat), vs = [x] /\ Po K H x p l n /\ l <= 100 /\ n <= 8000 /\ ∀ z H', Same H H' -> Po K H' z (pln p) l n -> Q z H'
theorem Ah2 {p : List Int} {n : Nat} (hp : Tr p) (h : p ≠ []) (z : Sz n (co p (p.length - 1))) : Sz n (un p) := z.of_abs (Nat.le_of_dvd (Int.natAbs_pos.mpr (hp.lead h)) (Int.natAbs_dvd_natAbs.mpr (Afd p _)))
theorem Ahg {p : List Int} {n : Nat} (hp : Tr p) (z : ∀ i, Sz n (co p i)) (i : Nat) : Sz n (co (pln p) i) := by
  by_cases h : p = []
  . subst h; exact z i
  . refine (z i).of_abs ?_
    have e := Ma hp h i
    by_cases h0 : co p i = 0
    . have : co (pln p) i = 0 := by
        rw [h0] at e
        exact (Int.mul_eq_zero.mp e).resolve_left (R5 hp h)
      rw [this]
      exact Nat.zero_le _
    . exact Nat.le_of_dvd (Int.natAbs_pos.mpr h0) (Int.natAbs_dvd_natAbs.mpr ⟨un p, by rw [Int.mul_comm]; exact e.symm⟩)
theorem Adu {f : Addr} {fd : FuncData} (F : Df K mg "plain" Wy ["one"] f fd)   (c_shrunk : Cal P w K mg base 1 "shrunk" ["one", "number"] (Ky K)) (c_unit : Cal P w K mg base 4 "unit" ["one"] (Xb K)) : Cal P w K mg base 5 "plain" ["one"] (Qg K) := by
  refine F.cal (F.fn.ok Ac3 (fun vs H Q E h => ?_) (fun cdv A outer s H vs Q E hr h => ?_))
  . obtain ⟨x, p, _, _, rfl, _⟩ := h
    rfl
  obtain ⟨x, p, l, n, rfl, ⟨⟨a, rfl, ha⟩, tp, lp, zp⟩, hl, hn, k⟩ := h
  refine S.Bm ⟨_, (S.Af (S.Aq (S.Ai c_shrunk (hr.mono (by decide)) (S.Aa (S.pv 0) (S.Aa (S.Ai c_unit (hr.mono (by decide)) (S.Aa (S.pv 0) S.Ab)) S.Ab))))), ?_⟩
  contradiction
  refine ⟨a, p, rfl, ha, fun H1 s1 => ?_⟩
  try contradiction
  refine ⟨a, p, un p, rfl, s1.tup ha, by omega, fun h0 => ⟨R5 tp h0, (Ah2 tp h0 (zp _)).mono hn⟩, fun z H2 s2 h2 => k _ _ (s1.trans s2) ⟨⟨z, rfl, h2⟩, Ls tp, by rw [M4]; exact lp, Ahg tp zp⟩⟩
theorem Abd {H H1 : Hp} {Q : VK} {E : XK} {x : V} {p : List Int} {l n : Nat} (hx : Po K H1 x p l n) (s1 : Same H1 H) (hl : l <= 100) (hn : n <= 8000) (h : ∀ z H', Same H H' -> Po K H' z (pln p) l n -> Q z H') : Qg K [x] H Q E := ⟨x, p, l, n, rfl, hx.mono s1, hl, hn, h⟩
theorem at0 {α : Type} (x : α) (r : List α) : atI (x :: r) 0 = some x := Mg (j := 0) rfl
theorem at1 {α : Type} (x y : α) (r : List α) : atI (x :: y :: r) 1 = some y := Mg (j := 1) rfl
theorem at2 {α : Type} (x y z : α) (r : List α) : atI (x :: y :: z :: r) 2 = some z := Mg (j := 2) rfl
def WpR (K : PySem.W.Frag) (p q : List Int) (Q : VK) (H : Hp) : Prop := (¬ Exact p q -> ∀ H', Same H H' -> Q .non H') /\ ∀ z H' u, Same H H' -> Po K H' z u 60 BIG -> (∀ k, co p k = mu u (co q) k) -> Q z H'
def Jv (K : PySem.W.Frag) : Sp := fun vs H Q E => ∃ (x y : V) (p q : List Int) (l l' n n' : Nat), vs = [x, y] /\ Po K H x p l n /\ Po K H y q l' n' /\ l <= 60 /\ l' <= 60 /\ n <= 9000 /\ n' <= 8000 /\ (q = [] -> ∀ H', Same H H' -> E (.ref (cA K "NoPart")) none H') /\ (q ≠ [] -> WpR K p q Q H)
def Nt (K : PySem.W.Frag) : Sp := fun vs H Q _ => ∃ (x y : V) (p q : List Int) (l l' n n' : Nat), vs = [x, y] /\ Po K H x p l n /\ Po K H y q l' n' /\ l <= 60 /\ l' <= 60 /\ n <= 9000 /\ n' <= 8000 /\ q ≠ [] /\ WpR K p q Q H
theorem Rm (K : PySem.W.Frag) : ∀ vs H Q E, Nt K vs H Q E -> Jv K vs H Q E0 := by
  rintro vs H Q E ⟨x, y, p, q, l, l', n, n', rfl, hx, hy, h1, h2, h3, h4, hq, k⟩
  exact ⟨x, y, p, q, l, l', n, n', rfl, hx, hy, h1, h2, h3, h4, fun z => (hq z).elim, fun _ => k⟩
theorem Uc {f : Addr} {fd : FuncData} (F : Df K mg "whole_part" Mh ["one", "other"] f fd)   (ce_long_division : Zq P w K mg base 2 "long_division" ["one", "other", "scaling"] (K5 K)) : Zq P w K mg base 3 "whole_part" ["one", "other"] (Jv K) := by
  refine F.calE (F.fn.okE Nv (fun vs H Q E h => ?_) (fun cdv A outer s H vs Q E hr h => ?_))
  . obtain ⟨x, y, p, q, _, _, _, _, rfl, _⟩ := h
    rfl
  obtain ⟨x, y, p, q, l, l', n, n', rfl, hx, hy, h1, h2, h3, h4, k0, k⟩ := h
  refine S.Bm ⟨_, (S.Ac (S.Aj (i := 2) Nv.nd rfl (Or.inl rfl) (S.Hw ce_long_division (hr.mono (by decide)) (S.Aa (S.pv 0) (S.Aa (S.pv 1) (S.Aa S.Ia S.Ab)))))
      (S.Ac (S.Bv (S.Li (S.Jf (S.Ah Ae6 (S.pv 2) S.Mu (Ao _)) (S.Ig (S.Ah (Tn hr.units) (S.Bt Bu (S.pv 2) S.Ad (fun _ _ => rfl)) (S.Az S.Ab) (Ao _))))) (S.Af (S.Aq S.Mu)) S.Av)
      (S.Af (S.Aq (S.Bt Bu (S.pv 2) S.Ad (fun _ _ => rfl)))))), ?_⟩
  contradiction
  refine ⟨x, y, false, p, q, l, l', n, n', rfl, hx, hy, h1, h2, h3, h4, k0, fun _ hq nex H1 s1 => ?_, fun hq z H1 sc c d u r s1 hz iu ir sc1 _ one heq lr cop => ?_⟩
  . try contradiction
    exact (k hq).1 nex _ s1
  . have one' := one rfl
    subst one'
    try contradiction
    rw [if_neg (show ¬ V.ref z = V.non from nofun)]
    refine Ei hz (at2 _ _ _ _) ?_
    try contradiction
    refine ⟨by decide, fun e0 he0 => ?_⟩
    have se := Same.upd he0 (.tup [])
    obtain ⟨⟨rd, rfl, hrd⟩, tr, _⟩ := id (ir.mono se)
    refine Bx (ms := []) hrd (.of Ae) ?_
    by_cases h0 : r = []
    . rw [decide_eq_true h0]
      try contradiction
      refine Ei (se.tup hz) (at1 _ _ _) ?_
      try contradiction
      exact (k hq).2 _ _ u (s1.trans se) (iu.mono se) fun t => by
        have := heq t
        rw [h0, Ba] at this
        omega
    . rw [decide_eq_false h0]
      try contradiction
      exact (k hq).1 (fun ex => h0 (Adz hq (hy.2.1.lead hq) heq sc1 tr lr cop ex).2) _ (s1.trans se)
def md (p : List Int) (m : Int) : List Int := trim (p.map (· % m))
theorem Zb (p : List Int) (m : Int) (i : Nat) : co (md p m) i = co p i % m := by
  rw [md, Aw]
  by_cases h : i < p.length
  . rw [Dc (by simpa using h), Dc h, List.getElem_map]
  . rw [Bp (by simpa using h), Bp (by omega), Int.zero_emod]
theorem Ahw (p : List Int) (m : Int) : Tr (md p m) := Bb _
theorem Ae3 (p : List Int) (m : Int) : (md p m).length <= p.length := by
  have := Hs (p.map (· % m))
  rw [List.length_map] at this
  exact this
theorem Ais {k : Nat} {m : Int} (hm : 0 < m) (hz : Sz k m) (x : Int) : Sz k (x % m) := by
  have h0 := Int.emod_nonneg x (Int.ne_of_gt hm)
  have h1 := Int.emod_lt_of_pos x hm
  generalize x % m = y at *
  exact hz.of_abs (by omega)
def Ih (K : PySem.W.Frag) : Sp := fun vs H Q _ => ∃ (x : V) (m : Int) (p : List Int) (l n k : Nat), vs = [x, .int m] /\ Po K H x p l n /\ l <= 500 /\ 0 < m /\ Sz k m /\ ∀ z H', Same H H' -> Po K H' z (md p m) l k -> Q z H'
theorem Vw {f : Addr} {fd : FuncData} (F : Df K mg "by_number" Lf ["one", "m"] f fd)   (c_poly : Cal P w K mg base 1 "poly" ["weights"] (Ij K)) : Cal P w K mg base 2 "by_number" ["one", "m"] (Ih K) := by
  refine F.cal (F.fn.ok V9 (fun vs H Q E h => ?_) (fun cdv A outer s H vs Q E hr h => ?_))
  . obtain ⟨x, m, p, _, _, _, rfl, _⟩ := h
    rfl
  obtain ⟨x, m, p, l, n, k, rfl, ⟨⟨a, rfl, ha⟩, tp, lp, zp⟩, hl, hm, hk, q⟩ := h
  refine S.Bm ⟨_, (S.Af (S.Aq (S.Ai c_poly (hr.mono (by decide)) (S.Aa (S.Jg (ts := ["weight"]) (fs := [(1, "m")]) rfl (Cu.of (sc := Ag Lf) (N := ["one", "m"]) rfl rfl (by decide +kernel)) (S.Ln (S.pv 0)) (fun _ _ _ => (S.Am (i := 0) (show List.Nodup (["weight", "m"] : List Str) by decide +kernel) rfl (Or.inl rfl))) (fun _ _ _ => S.J4) (fun _ _ _ => (S.Ak Ci (S.pv 0) (S.pv 1)))) S.Ab)))), ?_⟩
  contradiction
  refine ⟨⟨_, ha⟩, fun p1 hp1 => Jy (es := p) (inj := V.int) (fun e => .int (e % m)) (Nat.le_trans (Nat.le_trans lp hl) (by decide)) hp1 (Ly ha) ?_ ?_⟩
  . intro e H2 R he s2 hR
    contradiction
    exact ⟨hm, hR _ (Same.refl _)⟩
  intro H2 s2 h2
  try contradiction
  have em : p.map (fun e => V.int (e % m)) = (p.map (· % m)).map V.int := by rw [List.map_map]; rfl
  rw [em] at h2
  refine Abj (.of h2) (by rw [List.length_map]; omega) fun z H3 s3 h3 => q _ _ (s2.trans s3) ⟨⟨z, rfl, h3⟩, Bb _, Nat.le_trans (Ae3 p m) lp, fun i => ?_⟩
  rw [Zb]
  exact Ais hm hk _
theorem Rx {H H1 : Hp} {Q : VK} {E : XK} {x : V} {m : Int} {p : List Int} {l n k : Nat} (hx : Po K H1 x p l n) (s1 : Same H1 H) (hl : l <= 500) (hm : 0 < m) (hk : Sz k m) (h : ∀ z H', Same H H' -> Po K H' z (md p m) l k -> Q z H') : Ih K [x, .int m] H Q E := ⟨x, m, p, l, n, k, rfl, hx.mono s1, hl, hm, hk, h⟩
theorem Aci (g l : Int) : Int.gcd l (g - g / l * l) = Int.gcd g l := by
  rw [Int.gcd_sub_mul_right_right, Int.gcd_comm]
def Ag6 (m g l x y : Int) : Prop := ∃ A B : Nat, ((x = (A : Nat) /\ y = -((B : Nat) : Int)) \/ (x = -((A : Nat) : Int) /\ y = (B : Nat))) /\ (B : Int) * g + (A : Int) * l = m
theorem Ag6.next {m g l x y : Int} (h : Ag6 m g l x y) (hg : 0 <= g) (hl : 0 < l) : Ag6 m l (g - g / l * l) y (x - g / l * y) := by
  obtain ⟨A, B, h, e⟩ := h
  have q0 : 0 <= g / l := Int.ediv_nonneg hg (Int.le_of_lt hl)
  obtain ⟨q, hq⟩ : ∃ q : Nat, g / l = q := ⟨(g / l).toNat, by omega⟩
  rw [hq]
  refine ⟨B, A + q * B, ?_, ?_⟩
  . rcases h with ⟨rfl, rfl⟩ | ⟨rfl, rfl⟩
    . refine .inr ⟨rfl, ?_⟩
      push_cast
      rw [Int.mul_neg]
      omega
    . refine .inl ⟨rfl, ?_⟩
      push_cast
      omega
  . push_cast
    rw [<- e]
    grind
theorem Ag6.here {m g l x y : Int} (h : Ag6 m g l x y) (hg : 0 < g) (hl : 0 <= l) : y.natAbs <= m.natAbs := by
  obtain ⟨A, B, h, e⟩ := h
  have h1 : (B : Int) * 1 <= (B : Int) * g := Int.mul_le_mul_of_nonneg_left (by omega) (by omega)
  have h2 : (0 : Int) <= (A : Int) * l := Int.mul_nonneg (by omega) hl
  rcases h with ⟨_, rfl⟩ | ⟨_, rfl⟩ <;> omega
def Ks (K : PySem.W.Frag) : Sp := fun vs H Q E => ∃ (a m : Int) (k : Nat), vs = [.int a, .int m] /\ 1 < m /\ Sz k m /\ k <= 8000 /\ (Int.gcd a m ≠ 1 -> E (.ref (cA K "NoPart")) none H) /\ (Int.gcd a m = 1 -> ∀ r, 0 <= r -> r < m -> r * a % m = 1 -> Q (.int r) H)
def Ni (K : PySem.W.Frag) : Sp := fun vs H Q _ => ∃ (a m : Int) (k : Nat), vs = [.int a, .int m] /\ 1 < m /\ Sz k m /\ k <= 8000 /\ Int.gcd a m = 1 /\ (∀ r, 0 <= r -> r < m -> r * a % m = 1 -> Q (.int r) H)
theorem Qu (K : PySem.W.Frag) : ∀ vs H Q E, Ni K vs H Q E -> Ks K vs H Q E0 := by
  rintro vs H Q E ⟨a, m, k, rfl, hm, hk, h8, hg, c⟩
  exact ⟨a, m, k, rfl, hm, hk, h8, fun h => (h hg).elim, fun _ => c⟩
theorem U3 {f : Addr} {fd : FuncData} (F : Df K mg "inverse_by" Lp ["number", "m"] f fd)  (xk_NoPart : Acx K (cA K "NoPart")) (xm_NoPart : mg "NoPart" = some (.ref (cA K "NoPart")))  : Zq P w K mg base 1 "inverse_by" ["number", "m"] (Ks K) := by
  refine F.calE (F.fn.okE Di (fun vs H Q E h => ?_) (fun cdv A outer s H vs Q E hr h => ?_))
  . obtain ⟨a, m, k, rfl, _⟩ := h
    rfl
  obtain ⟨a, m, k, rfl, hm, hk, h8, kE, kQ⟩ := h
  refine S.Bm ⟨_, (S.Ac (S.Aj (i := 2) Di.nd rfl (Or.inl rfl) (S.pv 1))
      (S.Ac (S.Aj (i := 3) Di.nd rfl (Or.inl rfl) (S.Ak Ci (S.pv 0) (S.pv 1)))
      (S.Ac (S.Aj (i := 4) Di.nd rfl (Or.inl rfl) S.Ad)
      (S.Ac (S.Aj (i := 5) Di.nd rfl (Or.inl rfl) S.Ad)
      (S.Ac (S.Acq (S.Hu PassesOwn.never (S.Ah Oe (S.pv 3) S.Ad (Ao _)) (S.Ac (S.Aj (i := 6) Di.nd rfl (Or.inl rfl) (S.Ak Bw (S.pv 2) (S.pv 3)))
      (S.Ac (S.Mt (i := 2) (j := 3) rfl Di.nd rfl rfl (by decide) rfl rfl (S.Aa (S.pv 3) (S.Aa (S.Ak Et (S.pv 2) (S.Ak Dy (S.pv 6) (S.pv 3))) S.Ab)) rfl)
      (S.Af (S.Mt (i := 4) (j := 5) rfl Di.nd rfl rfl (by decide) rfl rfl (S.Aa (S.pv 5) (S.Aa (S.Ak Et (S.pv 4) (S.Ak Dy (S.pv 6) (S.pv 5))) S.Ab)) rfl))))))
      (S.Ac (S.Bv (S.Ah Oe (S.pv 2) S.Ad (Ao _)) (S.Af (S.Hz xk_NoPart xm_NoPart (S.Aa S.O9 S.Ab))) S.Av)
      (S.Af (S.Aq (S.Ak Ci (S.pv 4) (S.pv 1)))))))))), ?_⟩
  contradiction
  have m0 := Int.emod_nonneg a (by omega : m ≠ 0)
  have m1 := Int.emod_lt_of_pos a (by omega : 0 < m)
  refine ⟨by omega, ?_⟩
  refine Qe (fun σ H' => H' = H /\ ∃ (g l x y : Int) (o : Option V), σ = [some (.int a), some (.int m), some (.int g), some (.int l), some (.int x), some (.int y), o] /\ 0 < g /\ g <= m /\ 0 <= l /\ l <= m /\ Int.gcd g l = Int.gcd a m /\ m ∣ x * a - g /\ m ∣ y * a - l /\ Ag6 m g l x y)
    (fun σ _ => match σ with | [_, _, _, some (.int l), _, _, _] => l.toNat | _ => 0) ⟨rfl, m, a % m, 0, 1, _, rfl, by omega, Int.le_refl _, m0, by omega, ?_, ⟨-1, by omega⟩, ⟨a / m, ?_⟩, ⟨0, 1, .inr ⟨rfl, rfl⟩, by simp⟩⟩ ?_
  . have e : a % m = a - a / m * m := by
      have := Int.mul_ediv_add_emod a m
      rw [Int.mul_comm] at this
      omega
    rw [e]
    exact Aci a m
  . have := Int.mul_ediv_add_emod a m
    omega
  rintro σ H' ⟨rfl, g, l, x, y, o, rfl, g0, gm, l0, lm, hg, hx, hy, hS⟩
  contradiction
  by_cases hl : l = 0
  . rw [if_pos hl]
    subst hl
    have eg : ((Int.gcd a m : Nat) : Int) = g := by
      rw [<- hg, Int.gcd_zero_right]
      omega
    try contradiction
    by_cases h1 : g = 1
    . rw [if_pos h1]
      subst h1
      try contradiction
      refine ⟨by omega, kQ (by omega) _ (Int.emod_nonneg _ (by omega)) (Int.emod_lt_of_pos _ (by omega)) ?_⟩
      obtain ⟨c, hc⟩ := hx
      have e : x % m * a = 1 + m * (c - x / m * a) := by
        have := Int.mul_ediv_add_emod x m
        have e2 : x % m = x - m * (x / m) := by omega
        rw [e2]
        grind
      rw [e, Int.add_mul_emod_self_left]
      exact Int.emod_eq_of_lt (by decide) hm
    . rw [if_neg h1]
      try contradiction
      exact kE (by omega)
  . rw [if_neg hl]
    refine Ags ?_
    try contradiction
    have lp : 0 < l := by omega
    have q0 : 0 <= g / l := Int.ediv_nonneg (by omega) l0
    have q1 : g / l <= g := Int.ediv_le_self _ (by omega)
    have zl : Sz k l := hk.of_abs (by omega)
    have zq : Sz k (g / l) := hk.of_abs (by omega)
    have zy : Sz k y := hk.of_abs (hS.here g0 l0)
    have e1 : g - g / l * l = g % l := by
      have := Int.mul_ediv_add_emod g l
      rw [Int.mul_comm] at this
      omega
    have r0 := Int.emod_nonneg g hl
    have r1 := Int.emod_lt_of_pos g lp
    refine ⟨⟨lp, zl.log2 hl (by omega)⟩, zq.mulOk zl (by omega), zq.mulOk zy (by omega), ⟨_, _, _, _, _, rfl, lp, lm, by omega, by omega, (Aci g l).trans hg, hy, ?_, hS.next (by omega) lp⟩, by omega⟩
    obtain ⟨c, hc⟩ := hx
    obtain ⟨d, hd⟩ := hy
    refine ⟨c - g / l * d, ?_⟩
    have ex : x * a = m * c + g := by omega
    have ey : y * a = m * d + l := by omega
    rw [Int.sub_mul, Int.mul_assoc, ex, ey]
    grind
def MpR (K : PySem.W.Frag) (m : Int) (p q : List Int) (k : Nat) (Q : VK) (H : Hp) : Prop := ∀ (z : Addr) (H' : Hp) (c d : V) (u r : List Int), Same H H' -> SqT K H' z [c, d] -> Po K H' c u p.length k -> Po K H' d r p.length k ->
  (∀ i, m ∣ co p i - (mu u (co q) i + co r i)) -> r.length < q.length -> (∀ i, 0 <= co u i /\ co u i < m) -> (∀ i, 0 <= co r i /\ co r i < m) -> Q (.ref z) H'
def Pg (K : PySem.W.Frag) : Sp := fun vs H Q E => ∃ (x y : V) (m : Int) (p q : List Int) (l l' n n' k : Nat), vs = [x, y, .int m] /\ Po K H x p l n /\ Po K H y q l' n' /\ l <= 100 /\ l' <= 100 /\ n' <= 100000 /\ 1 < m /\ Sz k m /\ k <= 8000 /\ (q = [] \/ Int.gcd (co q (q.length - 1)) m ≠ 1 -> ∀ H', Same H H' -> E (.ref (cA K "NoPart")) none H') /\ (q ≠ [] -> Int.gcd (co q (q.length - 1)) m = 1 -> MpR K m p q k Q H)
def Rz (K : PySem.W.Frag) : Sp := fun vs H Q _ => ∃ (x y : V) (m : Int) (p q : List Int) (l l' n n' k : Nat), vs = [x, y, .int m] /\ Po K H x p l n /\ Po K H y q l' n' /\ l <= 100 /\ l' <= 100 /\ n' <= 100000 /\ 1 < m /\ Sz k m /\ k <= 8000 /\ q ≠ [] /\ Int.gcd (co q (q.length - 1)) m = 1 /\ MpR K m p q k Q H
theorem Ub (K : PySem.W.Frag) : ∀ vs H Q E, Rz K vs H Q E -> Pg K vs H Q E0 := by
  rintro vs H Q E ⟨x, y, m, p, q, l, l', n, n', k, rfl, hx, hy, h1, h2, h4, hm, hk, h8, hq, hg, c⟩
  exact ⟨x, y, m, p, q, l, l', n, n', k, rfl, hx, hy, h1, h2, h4, hm, hk, h8, fun z => by
    rcases z with z | z
    . exact (hq z).elim
    . exact (z hg).elim, fun _ _ => c⟩
theorem Wu {f : Addr} {fd : FuncData} (F : Df K mg "m_parted" Oo ["one", "other", "m"] f fd) (z_list : mg "list" = none) (z_range : mg "range" = none) (z_max : mg "max" = none) (z_len : mg "len" = none) (z_enumerate : mg "enumerate" = none) (xk_NoPart : Acx K (cA K "NoPart")) (xm_NoPart : mg "NoPart" = some (.ref (cA K "NoPart"))) (ce_inverse_by : Zq P w K mg base 1 "inverse_by" ["number", "m"] (Ks K)) (c_by_number : Cal P w K mg base 2 "by_number" ["one", "m"] (Ih K)) (c_poly : Cal P w K mg base 1 "poly" ["weights"] (Ij K)) (c_degree : Cal P w K mg base 1 "degree" ["one"] (Hi K)) : Zq P w K mg base 3 "m_parted" ["one", "other", "m"] (Pg K) := by
  refine F.calE (F.fn.okE Eo (fun vs H Q E h => ?_) (fun cdv A outer s H vs Q E hr h => ?_))
  . obtain ⟨x, y, m, p, q, _, _, _, _, _, rfl, _⟩ := h
    rfl
  obtain ⟨x, y, m, p, q, l, l', n, n', k, rfl, hx, hy, h15, h15', hn', hm, hk, h8, k0, kq⟩ := h
  have my := hy.mem
  obtain ⟨⟨a, rfl, ha⟩, tp, lp, zp⟩ := id hx
  obtain ⟨⟨b, rfl, hb⟩, tq, lq, zq⟩ := id hy
  refine S.Bm ⟨_, (S.Ac (S.Bv (S.Ah (Hj hr.units) (S.pv 1) (S.Az S.Ab) (Ao _)) (S.Af (S.Hz xk_NoPart xm_NoPart (S.Aa S.O9 S.Ab))) S.Av)
      (S.Ac (S.Aj (i := 3) Eo.nd rfl (Or.inl rfl) (S.Hw ce_inverse_by (hr.mono (by decide)) (S.Aa (S.Bt Bu (S.pv 1) (S.Eb Cd S.Ad) (fun _ _ => rfl)) (S.Aa (S.pv 2) S.Ab))))
      (S.Ac (S.Aj (i := 4) Eo.nd rfl (Or.inl rfl) (S.Gy Dz rfl z_list PyProof.Rows.boot_list (S.Aa (S.Ai c_by_number (hr.mono (by decide)) (S.Aa (S.pv 0) (S.Aa (S.pv 2) S.Ab))) S.Ab)))
      (S.Ac (S.Aj (i := 5) Eo.nd rfl (Or.inl rfl) (S.Ak Aah (S.G7 (S.Aa S.Ad S.Ab)) (S.Dj (Vn rfl) rfl z_max PyProof.Rows.boot_max (S.Aa (S.Ak Cz (S.Ak Et (S.Dj Bc rfl z_len PySem.boot_len (S.Aa (S.pv 4) S.Ab)) (S.Dj Bc rfl z_len PySem.boot_len (S.Aa (S.pv 1) S.Ab))) S.Ad) (S.Aa S.Ad S.Ab)))))
      (S.Ac (S.Acq (S.Hf PassesOwn.never rfl (S.Ng rfl z_range (S.Aa (S.Ak Et (S.Dj Bc rfl z_len PySem.boot_len (S.Aa (S.pv 5) S.Ab)) S.Ad) (S.Aa (S.Eb Cd S.Ad) (S.Aa (S.Eb Cd S.Ad) S.Ab)))) (S.Am (i := 6) Eo.nd rfl (Or.inl rfl)) (S.Ac (S.Aj (i := 7) Eo.nd rfl (Or.inl rfl) (S.Ak Ci (S.Ak Dy (S.Bt Dp (S.pv 4) (S.Ak Cz (S.pv 6) (S.Ai c_degree (hr.mono (by decide)) (S.Aa (S.pv 1) S.Ab))) (fun _ _ => rfl)) (S.pv 3)) (S.pv 2)))
      (S.Ac (S.El (S.pv 7) (S.Ji (S.pv 5) (S.pv 6) set_list))
      (S.Af (S.Bv (S.Ah Oe (S.pv 7) S.Ad (Ao _)) (S.Af (S.Hf PassesOwn.never rfl (S.Uu rfl z_enumerate (S.Aa (S.pv 1) S.Ab)) (S.Gz rfl (S.Ar (S.Am (i := 8) Eo.nd rfl (Or.inl rfl)) (S.Ar (S.Am (i := 9) Eo.nd rfl (Or.inl rfl)) S.Ed))) (S.Af (S.El (S.Ak Ci (S.Ak Et (S.Bt Dp (S.pv 4) (S.Ak Cz (S.pv 6) (S.pv 8)) (fun _ _ => rfl)) (S.Ak Dy (S.pv 7) (S.pv 9))) (S.pv 2)) (S.Ji (S.pv 4) (S.Ak Cz (S.pv 6) (S.pv 8)) set_list))))) S.Av))))))
      (S.Af (S.Aq (S.Az (S.Aa (S.Ai c_poly (hr.mono (by decide)) (S.Aa (S.pv 5) S.Ab)) (S.Aa (S.Ai c_poly (hr.mono (by decide)) (S.Aa (S.pv 4) S.Ab)) S.Ab)))))))))), ?_⟩
  refine Bl (fun σ' H' => Same H H' /\ q ≠ [] /\ σ' = [some (.ref a), some (.ref b), some (.int m), none, none, none, none, none, none, none]) (fun N hN => ?_) ?_
  . contradiction
    refine ⟨by decide, fun e0 he0 => ?_⟩
    have se := Same.upd he0 (.tup [])
    refine Bx (ms := []) (se.tup hb) (.of Ae) ?_
    try contradiction
    split
    . rename_i h
      exact k0 (.inl h) _ se
    . rename_i h
      exact hN _ _ ⟨se, h, rfl⟩
  rintro σ H1 ⟨s1, hq, rfl⟩
  have hql : 0 < q.length := List.length_pos_iff.mpr hq
  have sz5 : 1000 <= sizeLine := by decide
  refine Bl (fun σ' H' => H' = H1 /\ Int.gcd (co q (q.length - 1)) m = 1 /\ ∃ iv : Int, σ' = [some (.ref a), some (.ref b), some (.int m), some (.int iv), none, none, none, none, none, none] /\ 0 <= iv /\ iv < m /\ iv * co q (q.length - 1) % m = 1) (fun N hN => ?_) ?_
  . contradiction
    refine Ei (s1.tup hb) (Ii hq) ?_
    try contradiction
    exact ⟨_, m, k, rfl, hm, hk, h8, fun hg => k0 (.inr hg) _ s1, fun hg r r0 r1 hr => hN _ _ ⟨rfl, hg, r, rfl, r0, r1, hr⟩⟩
  rintro σ H2 ⟨rfl, hg, iv, rfl, iv0, iv1, hiv⟩
  replace kq := kq hq hg
  refine Bl (fun σ' H' => Same H H' /\ ∃ cr, σ' = [some (.ref a), some (.ref b), some (.int m), some (.int iv), some (.ref cr), none, none, none, none, none] /\ H cr = none /\ H' cr = some (.lst ((md p m).map V.int))) (fun N hN => ?_) ?_
  . contradiction
    refine Rx hx s1 (by omega) (by omega) hk fun z H3 s3 i3 => ?_
    obtain ⟨⟨c, rfl, hc⟩, _⟩ := i3
    try contradiction
    exact ⟨c, _, rfl, .inr hc, fun cr hcr => hN _ _ ⟨(s1.trans s3).trans (Same.upd hcr _), cr, rfl, Same.free (s1.trans s3) hcr, Ae⟩⟩
  rintro σ H3 ⟨s3, cr, rfl, nr, hcr⟩
  obtain ⟨L, hL⟩ : ∃ L, L = (md p m).length + 1 - q.length := ⟨_, rfl⟩
  have lmd := Ae3 p m
  have eL : (if (0 : Int) > ((md p m).length : Int) - (q.length : Int) + 1 then (0 : Int) else ((md p m).length : Int) - (q.length : Int) + 1) = (L : Int) := by
    subst hL
    split <;> omega
  refine Bl (fun σ' H' => Same H H' /\ ∃ cq, σ' = [some (.ref a), some (.ref b), some (.int m), some (.int iv), some (.ref cr), some (.ref cq), none, none, none, none] /\ H cq = none /\ cq ≠ cr /\ H' cq = some (.lst ((List.replicate L (0 : Int)).map V.int)) /\ H' cr = some (.lst ((md p m).map V.int))) (fun N hN => ?_) ?_
  . contradiction
    intro p3 hp3
    have t3 := Same.upd hp3 (.lst [V.int 0])
    have u3 := s3.trans t3
    refine ⟨cr, _, rfl, .inl (.of (t3 _ _ hcr)), b, _, rfl, .inr (u3.tup hb), ?_⟩
    simp only [J8, Fy, Jz, Kq, Fw, Kr, Cv, Kv, Fl, Ga, z_c, R4, Sh, Sd, J1, R6, Jw, Ka, Jm, Ku, Es, R8, Kf, J3, Ko, Fj, Ey, J6, Kw, S5, Fb, Jp, Gn, Sq, Ge, J2, Fz, Sy, J0, J7, Dw, Gg, Gk, Gj, Dq, Fg, Jq, Km, Kd, Io, Sw, Cg, Gd, Kh, Sx, Js, Ft, Jr, Jl, Gf, Kl, Gq, Gh, Gs, Dr, Ju, Ds, Gb, Eu, Fq, Dl, J9, Fp, J5, Gm, Ew, Fi, Dn, Fx, R9, cpσ, List.getElem?_cons_zero, List.getElem?_cons_succ, Option.join_some, List.set_cons_zero, List.set_cons_succ, List.append_nil, decide_eq_true_eq, Bool.not_eq_true', decide_eq_false_iff_not, Bool.not_not, ite_not, Bool.false_eq_true, Bool.true_eq_false, if_false, if_true, if_pos, List.length_cons, List.length_nil, Nat.zero_add, Nat.reduceAdd, Fe, Ez, true_and, and_true, L2.start, List.map_cons, List.map_nil, Bool.not_true, Bool.not_false, Nat.reduceSub, List.replicate_succ, List.replicate_zero, List.cons_append, List.nil_append, List.length_map, eL]
    refine ⟨p3, _, [V.int 0], rfl, rfl, Ae, by omega, by omega, by simp only [Int.toNat_natCast, List.length_cons, List.length_nil]; omega, fun cq hcq => ?_⟩
    rw [Int.toNat_natCast, Nj]
    have t4 := t3.trans (Same.upd hcq (.lst ((List.replicate L (0 : Int)).map V.int)))
    exact hN _ _ ⟨s3.trans t4, cq, rfl, Same.free u3 hcq, Ne.symm (Ce (t3 _ _ hcr) hcq), Ae, t4 _ _ hcr⟩
  clear hcr s3
  rintro σ H4 ⟨s4, cq, rfl, nq, ne, hcq, hcr⟩
  have hm0 : 0 < m := by omega
  refine Bl (fun σ' H' => Same H H' /\ ∃ (qs rs : List Int) (o6 o7 o8 o9 : Option V), σ' = [some (.ref a), some (.ref b), some (.int m), some (.int iv), some (.ref cr), some (.ref cq), o6, o7, o8, o9] /\ H' cq = some (.lst (qs.map V.int)) /\ H' cr = some (.lst (rs.map V.int)) /\ qs.length = L /\ rs.length = (md p m).length /\ MV m p q qs rs 0) (fun N hN => ?_) ?_
  . rw [Io]
    contradiction
    refine ⟨cq, _, rfl, .inl (.of hcq), ?_⟩
    try contradiction
    rw [List.length_map, List.length_replicate]
    refine ⟨by omega, ?_⟩
    refine Aib L (fun i => .int ((L : Int) - 1 - (i : Nat))) (fun i σ' H' => Same H H' /\ ∃ (qs rs : List Int) (o6 o7 o8 o9 : Option V), σ' = [some (.ref a), some (.ref b), some (.int m), some (.int iv), some (.ref cr), some (.ref cq), o6, o7, o8, o9] /\ H' cq = some (.lst (qs.map V.int)) /\ H' cr = some (.lst (rs.map V.int)) /\ qs.length = L /\ rs.length = (md p m).length /\ MV m p q qs rs (L - i)) ?_ ?_ ?_ ?_
    . refine ⟨s4, _, _, _, _, _, _, rfl, hcq, hcr, List.length_replicate, rfl, ?_⟩
      rw [hL, Nat.sub_zero]
      refine MV.start hm0 hq (fun t => ?_) fun t => ?_
      . rw [Zb]
        exact ⟨co p t / m, by have := Int.mul_ediv_add_emod (co p t) m; omega⟩
      . rw [Zb]
        exact ⟨Int.emod_nonneg _ (by omega), Int.emod_lt_of_pos _ hm0⟩
    . intro i σ' H' _
      have e : ((L : Int) - 1 - -1).toNat = L := by omega
      rw [e]
      exact Q6
    . clear hcq hcr s4
      rintro i σ' H5 hi ⟨s5, qs, rs, o6, o7, o8, o9, rfl, hcq, hcr, hlq, hlr, dv⟩
      obtain ⟨j, hj⟩ : ∃ j : Nat, j + 1 = L - i := ⟨L - i - 1, by omega⟩
      have pj : (L : Int) - 1 - (i : Nat) = (j : Int) := by omega
      rw [<- hj] at dv
      rw [Cv, pj]
      simp only [List.set_cons_succ, List.set_cons_zero]
      obtain ⟨d, hd⟩ : ∃ d, d + 1 = q.length := ⟨q.length - 1, by omega⟩
      have hd' : q.length - 1 = d := by omega
      have hjd : j + d < rs.length := by omega
      have hjq : j < qs.length := by omega
      have ix : (j : Int) + ((q.length : Int) - 1) = ((j + d : Nat) : Int) := by omega
      have er : rs[j + d] = co rs (j + d) := (Dc hjd).symm
      rw [hd'] at hiv
      have zr : Sz k (co rs (j + d)) := hk.of_abs (by have := dv.rr (j + d); omega)
      have ziv : Sz k iv := hk.of_abs (by omega)
      obtain ⟨fc, hfc⟩ : ∃ fc, fc = co rs (j + d) * iv % m := ⟨_, rfl⟩
      have f0 : 0 <= fc := by rw [hfc]; exact Int.emod_nonneg _ (by omega)
      have f1 : fc < m := by rw [hfc]; exact Int.emod_lt_of_pos _ hm0
      have zf : Sz k fc := hk.of_abs (by omega)
      have ef : m ∣ co rs (j + d) - fc * co q d := by rw [hfc]; exact Acz hiv hm
      refine Bl (fun σ' H' => H' = H5 /\ σ' = [some (.ref a), some (.ref b), some (.int m), some (.int iv), some (.ref cr), some (.ref cq), some (.int j), some (.int fc), o8, o9]) (fun N hN => ?_) ?_
      . contradiction
        refine Dk hy s5 ?_
        simp only [J8, Fy, Jz, Kq, Fw, Kr, Cv, Kv, Fl, Ga, z_c, R4, Sh, Sd, J1, R6, Jw, Ka, Jm, Ku, Es, R8, Kf, J3, Ko, Fj, Ey, J6, Kw, S5, Fb, Jp, Gn, Sq, Ge, J2, Fz, Sy, J0, J7, Dw, Gg, Gk, Gj, Dq, Fg, Jq, Km, Kd, Io, Sw, Cg, Gd, Kh, Sx, Js, Ft, Jr, Jl, Gf, Kl, Gq, Gh, Gs, Dr, Ju, Ds, Gb, Eu, Fq, Dl, J9, Fp, J5, Gm, Ew, Fi, Dn, Fx, R9, cpσ, List.getElem?_cons_zero, List.getElem?_cons_succ, Option.join_some, List.set_cons_zero, List.set_cons_succ, List.append_nil, decide_eq_true_eq, Bool.not_eq_true', decide_eq_false_iff_not, Bool.not_not, ite_not, Bool.false_eq_true, Bool.true_eq_false, if_false, if_true, if_pos, List.length_cons, List.length_nil, Nat.zero_add, Nat.reduceAdd, Fe, Ez, true_and, and_true, L2.start, List.map_cons, List.map_nil, Bool.not_true, Bool.not_false, Nat.reduceSub, List.replicate_succ, List.replicate_zero, List.cons_append, List.nil_append, ix]
        refine O8 (.of hcr) (Iw hjd) ?_
        try contradiction
        rw [er, <- hfc]
        exact ⟨zr.mulOk ziv (by omega), hm0, hN _ _ ⟨rfl, rfl⟩⟩
      rintro σ' H6 ⟨rfl, rfl⟩
      refine Bl (fun σ' H' => Same H H' /\ σ' = [some (.ref a), some (.ref b), some (.int m), some (.int iv), some (.ref cr), some (.ref cq), some (.int j), some (.int fc), o8, o9] /\ H' cq = some (.lst ((qs.set j fc).map V.int)) /\ H' cr = some (.lst (rs.map V.int))) (fun N hN => ?_) ?_
      . contradiction
        refine Wo hcq (by rw [List.length_map]; exact hjq) ?_
        rw [K8]
        exact hN _ _ ⟨s5.put nq, rfl, Ae, by rw [Cp (Ne.symm ne)]; exact hcr⟩
      clear hcq hcr s5
      rintro σ' H8 ⟨s5, rfl, hcq, hcr⟩
      have fin : ∀ (rs' : List Int) (o8 o9 : Option V) (H9 : Hp), Same H H9 -> H9 cq = some (.lst ((qs.set j fc).map V.int)) -> H9 cr = some (.lst (rs'.map V.int)) -> rs'.length = rs.length -> (∀ k, co rs' k = (co rs k - (if j <= k then fc * co q (k - j) else 0)) % m) ->
          Same H H9 /\ ∃ (qs' rs'' : List Int) (u6 u7 u8 u9 : Option V), [some (V.ref a), some (.ref b), some (.int m), some (.int iv), some (.ref cr), some (.ref cq), some (.int j), some (.int fc), o8, o9] = [some (.ref a), some (.ref b), some (.int m), some (.int iv), some (.ref cr), some (.ref cq), u6, u7, u8, u9] /\ H9 cq = some (.lst (qs'.map V.int)) /\ H9 cr = some (.lst (rs''.map V.int)) /\ qs'.length = L /\ rs''.length = (md p m).length /\ MV m p q qs' rs'' (L - (i + 1)) := by
        intro rs' o8 o9 H9 s9 h1 h2 hl2 hco
        refine ⟨s9, _, rs', _, _, _, _, rfl, h1, h2, by rw [List.length_set]; exact hlq, by omega, ?_⟩
        rw [show L - (i + 1) = j by omega]
        exact dv.step hm0 hq hjq f0 f1 (by rw [hd']; exact ef) hco
      contradiction
      split
      . rename_i h0
        refine fin rs _ _ _ s5 hcq hcr rfl fun t => ?_
        rw [h0]
        have := dv.rr t
        rw [show (if j <= t then 0 * co q (t - j) else 0) = 0 by split <;> simp, Int.sub_zero, Int.emod_eq_of_lt this.1 this.2]
      . refine ⟨⟨_, s5.tup hb⟩, Zo (es := q) (inj := V.int) (fun pre σ' H' => Same H H' /\ ∃ (u8 u9 : Option V) (ms : List Int), σ' = [some (.ref a), some (.ref b), some (.int m), some (.int iv), some (.ref cr), some (.ref cq), some (.int j), some (.int fc), u8, u9] /\ H' cq = some (.lst ((qs.set j fc).map V.int)) /\ H' cr = some (.lst (ms.map V.int)) /\ ms.length = rs.length /\ ∀ t, co ms t = (co rs t - (if j <= t then fc * co pre (t - j) else 0)) % m) ⟨s5, _, _, rs, rfl, hcq, hcr, rfl, fun t => ?_⟩ ?_ ?_ ?_⟩
        . have := dv.rr t
          rw [Ba, show (if j <= t then fc * 0 else 0) = 0 by split <;> simp, Int.sub_zero, Int.emod_eq_of_lt this.1 this.2]
        . rintro pre σ' H' ⟨s9, _⟩
          exact s9.tup hb
        . rintro pre e post σ' H9 p1 he ⟨s9, u8, u9, ms, rfl, h1, h2, hlm, hco⟩ hp1
          refine N5 (.of Ae) ?_
          have hlen := congrArg List.length he
          rw [List.length_append, List.length_cons] at hlen
          have hjj : j + pre.length < ms.length := by omega
          have s10 := Same.upd hp1 (.tup [V.int (pre.length : Nat), V.int e])
          have h1' := s10 _ _ h1
          have h2' := s10 _ _ h2
          have ze : Sz n' e := my e (by rw [he]; simp)
          simp only [J8, Fy, Jz, Kq, Fw, Kr, Cv, Kv, Fl, Ga, z_c, R4, Sh, Sd, J1, R6, Jw, Ka, Jm, Ku, Es, R8, Kf, J3, Ko, Fj, Ey, J6, Kw, S5, Fb, Jp, Gn, Sq, Ge, J2, Fz, Sy, J0, J7, Dw, Gg, Gk, Gj, Dq, Fg, Jq, Km, Kd, Io, Sw, Cg, Gd, Kh, Sx, Js, Ft, Jr, Jl, Gf, Kl, Gq, Gh, Gs, Dr, Ju, Ds, Gb, Eu, Fq, Dl, J9, Fp, J5, Gm, Ew, Fi, Dn, Fx, R9, cpσ, List.getElem?_cons_zero, List.getElem?_cons_succ, Option.join_some, List.set_cons_zero, List.set_cons_succ, List.append_nil, decide_eq_true_eq, Bool.not_eq_true', decide_eq_false_iff_not, Bool.not_not, ite_not, Bool.false_eq_true, Bool.true_eq_false, if_false, if_true, if_pos, List.length_cons, List.length_nil, Nat.zero_add, Nat.reduceAdd, Fe, Ez, true_and, and_true, L2.start, List.map_cons, List.map_nil, Bool.not_true, Bool.not_false, Nat.reduceSub, List.replicate_succ, List.replicate_zero, List.cons_append, List.nil_append, <- Int.natCast_add]
          refine O8 (.of h2') (Iw hjj) ?_
          try contradiction
          refine ⟨zf.mulOk ze (by omega), hm0, ?_⟩
          refine Wo h2' (by rw [List.length_map]; exact hjj) ?_
          try contradiction
          rw [K8]
          refine ⟨(s9.trans s10).put nr, _, _, ms.set (j + pre.length) ((ms[j + pre.length] - fc * e) % m), rfl, by rw [Cp ne]; exact h1', Ae, by rw [List.length_set]; exact hlm, fun t => ?_⟩
          rw [Qn _ _ _ hjj, Ke, hco t]
          by_cases ht : t = j + pre.length
          . subst ht
            rw [if_pos rfl, if_pos (by omega), if_pos (by omega), <- Dc hjj, hco, if_pos (by omega), show j + pre.length - j = pre.length by omega, Bp (p := pre) (Nat.le_refl _), Int.mul_zero, Int.sub_zero, Int.emod_sub_emod]
          . rw [if_neg ht]
            by_cases hjt : j <= t
            . rw [if_pos hjt, if_pos hjt, if_neg (by omega)]
            . rw [if_neg hjt, if_neg hjt]
        . rintro σ' H9 ⟨s9, u8, u9, ms, rfl, h1, h2, hlm, hco⟩
          exact fin ms u8 u9 H9 s9 h1 h2 hlm hco
    . rintro σ' H5 ⟨s5, qs, rs, o6, o7, o8, o9, rfl, hcq, hcr, hlq, hlr, dv⟩
      rw [Nat.sub_self] at dv
      exact hN _ _ ⟨s5, qs, rs, o6, o7, o8, o9, rfl, hcq, hcr, hlq, hlr, dv⟩
  rintro σ H5 ⟨s5, qs, rs, o6, o7, o8, o9, rfl, hcq, hcr, hlq, hlr, dv⟩
  contradiction
  refine ⟨cq, qs, rfl, .inl (.of hcq), by omega, fun z1 H6 s6 h6 => ?_⟩
  try contradiction
  refine ⟨cr, rs, rfl, .inl (.of (s6 _ _ hcr)), by omega, fun z2 H7 s7 h7 => ?_⟩
  try contradiction
  intro z hz
  have s8 := Same.upd hz (.tup [V.ref z1, V.ref z2])
  have csz : ∀ (x : List Int), (∀ t, 0 <= co x t /\ co x t < m) -> ∀ t, Sz k (co (trim x) t) := fun x hx t => by
    rw [Aw]
    exact hk.of_abs (by have := hx t; omega)
  have t1 := Hs qs
  have t2 := Hs rs
  refine kq z _ (.ref z1) (.ref z2) (trim qs) (trim rs) (((s5.trans s6).trans s7).trans s8) (.of Ae) ⟨⟨z1, rfl, s8.tup (s7.tup h6)⟩, Bb _, by omega, csz qs dv.rq⟩ ⟨⟨z2, rfl, s8.tup h7⟩, Bb _, by omega, csz rs dv.rr⟩ (fun t => ?_) ?_ (fun t => by rw [Aw]; exact dv.rq t) (fun t => by rw [Aw]; exact dv.rr t)
  . rw [Bq (co q) (trim qs) qs fun i => Aw qs i, Aw]
    exact dv.eq t
  . have : (trim rs).length <= q.length - 1 := by
      have h := (Bb rs).len (q := rs.take (q.length - 1)) fun t => by
        rw [Aw, Kc]
        split
        . rfl
        . exact dv.top t (by omega)
      rw [List.length_take] at h
      omega
    omega
def Vx (K : PySem.W.Frag) : Sp := fun vs H Q _ => ∃ (x y : V) (m : Int) (p q : List Int) (l l' n n' k : Nat), vs = [x, y, .int m] /\ Po K H x p l n /\ Po K H y q l' n' /\ l <= 100 /\ l' <= 100 /\ n' <= 100000 /\ 1 < m /\ Sz k m /\ k <= 8000 /\ q ≠ [] /\ Int.gcd (co q (q.length - 1)) m = 1 /\ ∀ (d : V) (H' : Hp) (u r : List Int), Same H H' -> Po K H' d r p.length k -> (∀ i, m ∣ co p i - (mu u (co q) i + co r i)) -> r.length < q.length -> (∀ i, 0 <= co r i /\ co r i < m) -> Q d H'
theorem Abf {f : Addr} {fd : FuncData} (F : Df K mg "m_rest" Uh ["one", "other", "m"] f fd)   (c_m_parted : Cal P w K mg base 3 "m_parted" ["one", "other", "m"] (Rz K)) : Cal P w K mg base 4 "m_rest" ["one", "other", "m"] (Vx K) := by
  refine F.cal (F.fn.ok Acb (fun vs H Q E h => ?_) (fun cdv A outer s H vs Q E hr h => ?_))
  . obtain ⟨x, y, m, p, q, _, _, _, _, _, rfl, _⟩ := h
    rfl
  obtain ⟨x, y, m, p, q, l, l', n, n', k, rfl, hx, hy, h1, h2, h4, hm, hk, h8, hq, hg, c⟩ := h
  refine S.Bm ⟨_, (S.Af (S.Aq (S.Bt Bu (S.Ai c_m_parted (hr.mono (by decide)) (S.Aa (S.pv 0) (S.Aa (S.pv 1) (S.Aa (S.pv 2) S.Ab)))) S.Ad (fun _ _ => rfl)))), ?_⟩
  contradiction
  refine ⟨x, y, m, p, q, l, l', n, n', k, rfl, hx, hy, h1, h2, h4, hm, hk, h8, hq, hg, fun z H' a b u r s1 hz iu ir he hl ru rr => ?_⟩
  exact Ei hz (at1 _ _ _) (c b H' u r s1 ir he hl rr)
theorem Ab9 {t x : Int} (ht : Pr t) (h0 : 0 <= x) (h1 : x < t) (hx : x ≠ 0) : Int.gcd x t = 1 := ht.2 x fun z => by
  have := Int.le_of_dvd (by omega) z
  omega
theorem Ab7 (t : Int) (p : List Int) (d : List Int) : Dm t d (md p t) ↔ Dm t d p := by
  have e : ∀ i, t ∣ co (md p t) i - co p i := fun i => by
    rw [Zb]
    exact ⟨-(co p i / t), by have := Int.mul_ediv_add_emod (co p i) t; rw [Int.mul_neg]; omega⟩
  exact ⟨fun h => h.congr fun i => T7 (e i), fun h => h.congr e⟩
theorem Aap {t : Int} (ht : 0 < t) (p : List Int) (i : Nat) : 0 <= co (md p t) i /\ co (md p t) i < t := by
  rw [Zb]
  exact ⟨Int.emod_nonneg _ (by omega), Int.emod_lt_of_pos _ ht⟩
structure Sgl (t : Int) (p g : List Int) : Prop where
  tr : Tr g
  rng : ∀ i, 0 <= co g i /\ co g i < t
  dm : ∀ d, Dm t d g ↔ Dm t d p
  len : g.length = (md p t).length
  one : g ≠ [] -> co g (g.length - 1) = 1
theorem Afm {t : Int} (ht : 0 < t) {p : List Int} (h : md p t = []) : Sgl t p [] := ⟨.inl rfl, fun i => by rw [Ba]; omega, fun d => by rw [<- Ab7 t p d, h], by rw [h], fun z => (z rfl).elim⟩
theorem Ah7 {t k : Int} (ht : Pr t) {p : List Int} (h : md p t ≠ []) (hk : k * co (md p t) ((md p t).length - 1) % t = 1) : Sgl t p (md (ng (md p t) k) t) := by
  have t0 : 0 < t := by have := ht.1; omega
  have c : ∀ i, co (md (ng (md p t) k) t) i = co (md p t) i * k % t := fun i => by rw [Zb, Pj]
  have hl := List.length_pos_iff.mpr h
  have top : co (md (ng (md p t) k) t) ((md p t).length - 1) = 1 := by rw [c, Int.mul_comm]; exact hk
  have len : (md (ng (md p t) k) t).length = (md p t).length := by
    refine Nat.le_antisymm ?_ ?_
    . refine Nat.le_of_not_lt fun z => ?_
      have ne : md (ng (md p t) k) t ≠ [] := fun y => by rw [y] at z; exact absurd z (by simp)
      have := (Ahw (ng (md p t) k) t).lead ne
      rw [c, Bp (by omega)] at this
      simp at this
    . refine Nat.le_of_not_lt fun z => ?_
      rw [Bp (by omega)] at top
      cases top
  refine ⟨Ahw _ _, Aap t0 _, fun d => ?_, len, fun _ => by rw [len]; exact top⟩
  constructor
  . intro hd
    rw [<- Ab7 t p d]
    refine hd.by (k := co (md p t) ((md p t).length - 1)) fun i => ?_
    rw [c]
    have e1 := Int.mul_ediv_add_emod (co (md p t) i * k) t
    have e2 := Int.mul_ediv_add_emod (k * co (md p t) ((md p t).length - 1)) t
    rw [hk] at e2
    generalize co (md p t) ((md p t).length - 1) = l at *
    generalize co (md p t) i = x at *
    refine ⟨l * (x * k / t) - x * (k * l / t), ?_⟩
    have e3 : x * k % t = x * k - t * (x * k / t) := by omega
    rw [e3]
    have e4 : l * (x * k) = x * (t * (k * l / t) + 1) := by rw [e2]; grind
    have : l * (x * k - t * (x * k / t)) = l * (x * k) - t * (l * (x * k / t)) := by grind
    rw [this, e4]
    grind
  . intro hd
    rw [<- Ab7 t p d] at hd
    refine hd.by (k := k) fun i => ?_
    rw [c, Int.mul_comm]
    exact ⟨-(k * co (md p t) i / t), by have := Int.mul_ediv_add_emod (k * co (md p t) i) t; rw [Int.mul_neg]; omega⟩
def Wb (K : PySem.W.Frag) : Sp := fun vs H Q _ => ∃ (x : V) (t : Int) (p : List Int) (l n k : Nat), vs = [x, .int t] /\ Po K H x p l n /\ l <= 100 /\ Pr t /\ Sz k t /\ k <= 8000 /\ ∀ (d : V) (H' : Hp) (g : List Int), Same H H' -> Po K H' d g l k -> Sgl t p g -> Q d H'
theorem Acl {f : Addr} {fd : FuncData} (F : Df K mg "single" Uo ["one", "t"] f fd)   (c_by_number : Cal P w K mg base 2 "by_number" ["one", "m"] (Ih K)) (c_scaled : Cal P w K mg base 1 "scaled" ["one", "factor"] (G8 K)) (c_inverse_by : Cal P w K mg base 1 "inverse_by" ["number", "m"] (Ni K)) : Cal P w K mg base 3 "single" ["one", "t"] (Wb K) := by
  refine F.cal (F.fn.ok Ve (fun vs H Q E h => ?_) (fun cdv A outer s H vs Q E hr h => ?_))
  . obtain ⟨x, t, p, _, _, _, rfl, _⟩ := h
    rfl
  obtain ⟨x, t, p, l, n, k, rfl, hx, hl, ht, hk, h8, c⟩ := h
  have t0 : 0 < t := by have := ht.1; omega
  refine S.Bm ⟨_, (S.Ac (S.Aj (i := 2) Ve.nd rfl (Or.inl rfl) (S.Ai c_by_number (hr.mono (by decide)) (S.Aa (S.pv 0) (S.Aa (S.pv 1) S.Ab))))
      (S.Ac (S.Bv (S.Ah (Hj hr.units) (S.pv 2) (S.Az S.Ab) (Ao _)) (S.Af (S.Aq (S.Az S.Ab))) S.Av)
      (S.Af (S.Aq (S.Ai c_by_number (hr.mono (by decide)) (S.Aa (S.Ai c_scaled (hr.mono (by decide)) (S.Aa (S.pv 2) (S.Aa (S.Ai c_inverse_by (hr.mono (by decide)) (S.Aa (S.Bt Bu (S.pv 2) (S.Eb Cd S.Ad) (fun _ _ => rfl)) (S.Aa (S.pv 1) S.Ab))) S.Ab))) (S.Aa (S.pv 1) S.Ab))))))), ?_⟩
  contradiction
  refine Rx hx (Same.refl _) (by omega) t0 hk fun z H1 s1 i1 => ?_
  try contradiction
  refine ⟨by decide, fun e0 he0 => ?_⟩
  have se := Same.upd he0 (.tup [])
  obtain ⟨⟨a, rfl, ha⟩, tm', lm, zm⟩ := id i1
  refine Bx (ms := []) (se.tup ha) (.of Ae) ?_
  try contradiction
  split
  . rename_i h
    refine ⟨by decide, fun e1 he1 => ?_⟩
    exact c _ _ [] ((s1.trans se).trans (Same.upd he1 _)) ⟨⟨e1, rfl, .of Ae⟩, .inl rfl, Nat.zero_le _, fun i => by rw [Ba]; exact hk.of_abs (by simp)⟩ (Afm t0 h)
  . rename_i h
    refine Ei (se.tup ha) (Ii h) ?_
    try contradiction
    have r := Aap t0 p ((md p t).length - 1)
    refine ⟨_, t, k, rfl, ht.1, hk, h8, Ab9 ht r.1 r.2 (tm'.lead h), fun iv iv0 iv1 hiv => ?_⟩
    try contradiction
    refine ⟨_, iv, _, l, k, k, rfl, i1.mono se, hk.of_abs (by omega), by omega, by omega, fun w H2 s2 i2 => ?_⟩
    try contradiction
    exact Rx i2 (Same.refl _) (by omega) t0 hk fun v H3 s3 i3 => c v H3 _ (((s1.trans se).trans s2).trans s3) i3 (Ah7 ht h hiv)
def Rp (K : PySem.W.Frag) : Sp := fun vs H Q _ => ∃ (x y : V) (t : Int) (p q : List Int) (l l' n n' k : Nat), vs = [x, y, .int t] /\ Po K H x p l n /\ Po K H y q l' n' /\ l <= 100 /\ l' <= 100 /\ Pr t /\ Sz k t /\ k <= 8000 /\ ∀ (d : V) (H' : Hp) (f g : List Int), Same H H' -> Po K H' d g (max l l') k -> Sgl t f g -> Agh t f [] p q -> Q d H'
theorem Xh {f : Addr} {fd : FuncData} (F : Df K mg "m_shared" Ou ["one", "other", "t"] f fd)   (c_by_number : Cal P w K mg base 2 "by_number" ["one", "m"] (Ih K)) (c_single : Cal P w K mg base 3 "single" ["one", "t"] (Wb K)) (c_m_rest : Cal P w K mg base 4 "m_rest" ["one", "other", "m"] (Vx K)) : Cal P w K mg base 5 "m_shared" ["one", "other", "t"] (Rp K) := by
  refine F.cal (F.fn.ok Le (fun vs H Q E h => ?_) (fun cdv A outer s H vs Q E hr h => ?_))
  . obtain ⟨x, y, t, p, q, _, _, _, _, _, rfl, _⟩ := h
    rfl
  obtain ⟨x, y, t, p, q, l, l', n, n', k, rfl, hx, hy, hl, hl', ht, hk, h8, c⟩ := h
  have t0 : 0 < t := by have := ht.1; omega
  refine S.Bm ⟨_, (S.Ac (S.Aj (i := 3) Le.nd rfl (Or.inl rfl) (S.Ai c_by_number (hr.mono (by decide)) (S.Aa (S.pv 0) (S.Aa (S.pv 2) S.Ab))))
      (S.Ac (S.Aj (i := 4) Le.nd rfl (Or.inl rfl) (S.Ai c_by_number (hr.mono (by decide)) (S.Aa (S.pv 1) (S.Aa (S.pv 2) S.Ab))))
      (S.Ac (S.Hu PassesOwn.never (S.Ah (Tn hr.units) (S.pv 4) (S.Az S.Ab) (Ao _)) (S.Af (S.Mt (i := 3) (j := 4) rfl Le.nd rfl rfl (by decide) rfl rfl (S.Aa (S.pv 4) (S.Aa (S.Ai c_m_rest (hr.mono (by decide)) (S.Aa (S.pv 3) (S.Aa (S.pv 4) (S.Aa (S.pv 2) S.Ab)))) S.Ab)) rfl)))
      (S.Af (S.Aq (S.Ai c_single (hr.mono (by decide)) (S.Aa (S.pv 3) (S.Aa (S.pv 2) S.Ab)))))))), ?_⟩
  contradiction
  refine Rx hx (Same.refl _) (by omega) t0 hk fun z1 H1 s1 i1 => ?_
  try contradiction
  refine Rx hy s1 (by omega) t0 hk fun z2 H2 s2 i2 => ?_
  try contradiction
  refine W0 (fun m σ H' => Same H H' /\ ∃ (v w : V) (f g : List Int), σ = [some x, some y, some (.int t), some v, some w] /\ m = g.length /\ Po K H' v f (max l l') k /\ Po K H' w g (max l l') k /\ (∀ i, 0 <= co g i /\ co g i < t) /\ Agh t f g p q) _
    ⟨s1.trans s2, z1, z2, _, _, rfl, rfl, ⟨(i1.mono s2).1, i1.2.1, Nat.le_trans i1.2.2.1 (Nat.le_max_left ..), i1.2.2.2⟩, ⟨i2.1, i2.2.1, Nat.le_trans i2.2.2.1 (Nat.le_max_right ..), i2.2.2.2⟩, Aap t0 q, fun d => by rw [Ab7, Ab7]⟩ ?_
  rintro m σ H' ⟨s3, v, w, f, g, rfl, rfl, iv, iw, rg, sm⟩
  contradiction
  refine ⟨by decide, fun e0 he0 => ?_⟩
  have se := Same.upd he0 (.tup [])
  obtain ⟨⟨b, rfl, hb⟩, tg, lg, zg⟩ := id iw
  refine Bx (ms := []) (se.tup hb) (.of Ae) ?_
  try contradiction
  by_cases hg : g = []
  . rw [if_pos hg]
    subst hg
    try contradiction
    exact ⟨v, t, f, max l l', k, k, rfl, iv.mono se, by omega, ht, hk, h8, fun d H4 g s4 i4 hs => c d H4 f g ((s3.trans se).trans s4) i4 hs sm⟩
  . rw [if_neg hg]
    refine Afv ?_
    try contradiction
    have r := rg (g.length - 1)
    refine ⟨v, .ref b, t, f, g, _, _, _, _, k, rfl, iv.mono se, iw.mono se, by omega, by omega, by omega, ht.1, hk, h8, hg, Ab9 ht r.1 r.2 (tg.lead hg), fun d H4 u r s4 i4 he hlr rr => ?_⟩
    try contradiction
    refine ⟨r.length, hlr, (s3.trans se).trans s4, .ref b, d, g, r, rfl, rfl, iw.mono (se.trans s4), ⟨i4.1, i4.2.1, Nat.le_trans (Nat.le_of_lt hlr) lg, i4.2.2.2⟩, rr, fun e => (Zi he e).trans (sm e)⟩
def Lx (K : PySem.W.Frag) : Sp := fun vs H Q _ => ∃ (x y : V) (p q : List Int) (l l' n n' : Nat), vs = [x, y] /\ Po K H x p l n /\ Po K H y q l' n' /\ l <= 100 /\ l' <= 100 /\ ∀ (b : Bool) (H' : Hp), Same H H' -> (b = true -> Gc p q [1]) -> Q (.bl b) H'
theorem Qz {f : Addr} {fd : FuncData} (F : Df K mg "surely_apart" Jt ["one", "other"] f fd)  (xc_PRIME : ∃ u, mg "PRIME" = some u /\ RelV (V.int 2305843009213693951) u) (c_degree : Cal P w K mg base 1 "degree" ["one"] (Hi K)) (c_m_shared : Cal P w K mg base 5 "m_shared" ["one", "other", "t"] (Rp K)) : Cal P w K mg base 6 "surely_apart" ["one", "other"] (Lx K) := by
  refine F.cal (F.fn.ok Q5 (fun vs H Q E h => ?_) (fun cdv A outer s H vs Q E hr h => ?_))
  . obtain ⟨x, y, p, q, _, _, _, _, rfl, _⟩ := h
    rfl
  obtain ⟨x, y, p, q, l, l', n, n', rfl, hx, hy, hl, hl', c⟩ := h
  obtain ⟨⟨a, rfl, ha⟩, tp, lp, zp⟩ := id hx
  obtain ⟨⟨b, rfl, hb⟩, tq, lq, zq⟩ := id hy
  refine S.Bm ⟨_, (S.Ac (S.Bv (S.Li (S.Jf (S.Ah (Hj hr.units) (S.pv 0) (S.Az S.Ab) (Ao _)) (S.Jf (S.Ah (Hj hr.units) (S.pv 1) (S.Az S.Ab) (Ao _)) (S.Ig (S.Ah Jd (S.Ak Ci (S.Bt Bu (S.pv 0) (S.Eb Cd S.Ad) (fun _ _ => rfl)) (S.Ob (v := .int 2305843009213693951) rfl xc_PRIME)) S.Ad (Ao _)))))) (S.Af (S.Aq S.Ia)) S.Av)
      (S.Af (S.Aq (S.Il Jd (S.Ai c_degree (hr.mono (by decide)) (S.Aa (S.Ai c_m_shared (hr.mono (by decide)) (S.Aa (S.pv 0) (S.Aa (S.pv 1) (S.Aa (S.Ob (v := .int 2305843009213693951) rfl xc_PRIME) S.Ab)))) S.Ab)) S.Ad (Ao _))))), ?_⟩
  contradiction
  refine ⟨by decide, fun e0 he0 => ?_⟩
  have s0 := Same.upd he0 (.tup [])
  refine Bx (ms := []) (s0.tup ha) (.of Ae) ?_
  try contradiction
  by_cases hp : p = []
  . rw [if_pos hp]
    exact c false _ s0 fun h => nomatch h
  rw [if_neg hp]
  refine ⟨by decide, fun e1 he1 => ?_⟩
  have s1 := s0.trans (Same.upd he1 (.tup []))
  refine Bx (ms := []) (s1.tup hb) (.of Ae) ?_
  try contradiction
  by_cases hq : q = []
  . rw [if_pos hq]
    exact c false _ s1 fun h => nomatch h
  rw [if_neg hq]
  refine Ei (s1.tup ha) (Ii hp) ?_
  try contradiction
  refine ⟨by decide, ?_⟩
  by_cases hz : co p (p.length - 1) % 2305843009213693951 = 0
  . rw [if_pos hz]
    exact c false _ s1 fun h => nomatch h
  rw [if_neg hz]
  refine ⟨_, _, _, p, q, l, l', n, n', 61, rfl, hx.mono s1, hy.mono s1, hl, hl', Aeg, by unfold Sz; decide, by decide, fun d H4 f g s4 i4 hs sm => ?_⟩
  try contradiction
  refine Dk i4 (Same.refl _) ?_
  try contradiction
  refine c _ _ (s1.trans s4) fun hd => ?_
  have hd' : g.length = 1 := by
    have := of_decide_eq_true hd
    omega
  have g1 : g = [1] := by
    match g, hd' with
    | [k], _ =>
      have := hs.one (by simp)
      have e : k = 1 := this
      rw [e]
  refine apart Aeg tp hp (fun z => hz (Int.emod_eq_zero_of_dvd z)) fun e h1 h2 => ?_
  rw [<- g1, hs.dm]
  exact ((sm e).mpr ⟨h1, h2⟩).1
def Yg (K : PySem.W.Frag) : Sp := fun vs H Q _ => ∃ (x : V) (m M : Nat) (mi : Int) (p : List Int) (l n : Nat), vs = [x, .int mi] /\ (mi = (m : Nat) \/ mi < 0 /\ m = 0) /\ Po K H x p l n /\ m <= M /\ 1 <= M /\ M * l + 1 <= 500 /\ M * (n + l) + 1 <= 1000000 /\ ∀ z H', Same H H' -> Po K H' z (pw p m) (m * l + 1) (m * (n + l) + 1) -> Q z H'
theorem Adk {f : Addr} {fd : FuncData} (F : Df K mg "power" Ws ["one", "many"] f fd)  (xm_p_times : mg "p_times" = some (.ref (cA K "p_times"))) (c_repeated : Cal P w K mg base 2 "repeated" ["start", "one", "many", "product"] (Rr K)) : Cal P w K mg base 3 "power" ["one", "many"] (Yg K) := by
  refine F.cal (F.fn.ok Acy (fun vs H Q E h => ?_) (fun cdv A outer s H vs Q E hr h => ?_))
  . obtain ⟨x, m, M, mi, p, _, _, rfl, _⟩ := h
    rfl
  obtain ⟨x, m, M, mi, p, l, n, rfl, hmi, hx, hm, hM, hl, hn, k⟩ := h
  refine S.Bm ⟨_, (S.Af (S.Aq (S.Ai c_repeated (hr.mono (by decide)) (S.Aa (S.Az (S.Aa S.Ad S.Ab)) (S.Aa (S.pv 0) (S.Aa (S.pv 1) (S.Aa (S.Ro (v := .ref (cA K "p_times")) rfl xm_p_times rfl) S.Ab))))))), ?_⟩
  contradiction
  intro p0 hp0
  have s0 := Same.upd hp0 (.tup [V.int 1])
  refine ⟨_, x, m, M, _, p, l, n, rfl, hmi, ⟨p0, rfl, .of Ae⟩, hx.mono s0, hm, hM, hl, hn, fun z H' s1 i1 => k _ _ (s0.trans s1) i1⟩
theorem Aed (b : Int) (hb : b ≠ 0) : ∀ m : Nat, pw [b] m = [b ^ m]
  | 0 => by rw [pw, Int.pow_zero]
  | m + 1 => by
    rw [pw, Aed b hb m]
    refine (Fo _ _).ext (.inr ⟨by simp, by simp; exact Int.pow_ne_zero hb⟩) fun i => ?_
    rw [Cj]
    cases i with
    | zero => simp [mu, sh, Ca, Int.pow_succ]; exact Int.mul_comm _ _
    | succ i => cases i <;> simp [mu, sh, Cm, Ba]
def Gi (K : PySem.W.Frag) : Sp := fun vs H Q _ => ∃ (b : Int) (m n : Nat), vs = [.int b, .int (m : Nat)] /\ b ≠ 0 /\ Sz n b /\ n <= 20000 /\ m <= 40 /\ ∀ H', Same H H' -> Q (.int (b ^ m)) H'
theorem Ss {f : Addr} {fd : FuncData} (F : Df K mg "whole_power" Ld ["number", "many"] f fd)   (c_power : Cal P w K mg base 3 "power" ["one", "many"] (Yg K)) : Cal P w K mg base 4 "whole_power" ["number", "many"] (Gi K) := by
  refine F.cal (F.fn.ok R7 (fun vs H Q E h => ?_) (fun cdv A outer s H vs Q E hr h => ?_))
  . obtain ⟨b, m, n, rfl, _⟩ := h
    rfl
  obtain ⟨b, m, n, rfl, hb, zb, hn, hm, k⟩ := h
  refine S.Bm ⟨_, (S.Af (S.Aq (S.Bt Bu (S.Ai c_power (hr.mono (by decide)) (S.Aa (S.Az (S.Aa (S.pv 0) S.Ab)) (S.Aa (S.pv 1) S.Ab))) S.Ad (fun _ _ => rfl)))), ?_⟩
  contradiction
  intro p0 hp0
  have i0 : Po K (upd H p0 (.tup [V.int b])) (.ref p0) [b] 1 (n + 1) := ⟨⟨p0, rfl, .of Ae⟩, .inr ⟨by simp, by simpa using hb⟩, Nat.le_refl _, fun i => Sv (by omega) (fun x hx => by
    have e : x = b := by simpa using hx
    rw [e]; exact zb.mono (by omega)) i⟩
  refine ⟨_, m, 40, _, _, _, _, rfl, .inl rfl, i0, hm, by decide, by decide, by omega, fun z H' s' i => ?_⟩
  obtain ⟨⟨c, rfl, hc⟩, _⟩ := i
  rw [Aed b hb] at hc
  exact Ei hc (at0 _ _) (k _ ((Same.upd hp0 _).trans s'))
theorem Yj {H : Hp} {Q : VK} {E : XK} {b : Int} {m n : Nat} {mi : Int} (e : mi = (m : Nat)) (hb : b ≠ 0) (zb : Sz n b) (hn : n <= 20000) (hm : m <= 40) (h : ∀ H', Same H H' -> Q (.int (b ^ m)) H') : Gi K [.int b, .int mi] H Q E := ⟨b, m, n, by rw [e], hb, zb, hn, hm, h⟩
theorem Xw {n : Nat} {b : Int} (h : Sz n b) : ∀ m : Nat, Sz (n * m + 1) (b ^ m)
  | 0 => by
    rw [Int.pow_zero, Nat.mul_zero]
    unfold Sz
    decide
  | m + 1 => by
    rw [Int.pow_succ, Nat.mul_succ]
    exact ((Xw h m).mul h).mono (by omega)
def rs (p : List Int) (m : Nat) : List Int := if p = [] then [] else List.replicate m 0 ++ p
def V3 (K : PySem.W.Frag) : Sp := fun vs H Q _ => ∃ (x : V) (m : Nat) (p : List Int) (l n : Nat), vs = [x, .int (m : Nat)] /\ Po K H x p l n /\ m <= 100 /\ l <= 400 /\ ∀ z H', Same H H' -> SqT K H' z ((rs p m).map V.int) -> Q (.ref z) H'
theorem Aai {f : Addr} {fd : FuncData} (F : Df K mg "raised" Ud ["one", "many"] f fd)    : Cal P w K mg base 1 "raised" ["one", "many"] (V3 K) := by
  refine F.cal (F.fn.ok Abz (fun vs H Q E h => ?_) (fun cdv A outer s H vs Q E hr h => ?_))
  . obtain ⟨x, m, p, _, _, rfl, _⟩ := h
    rfl
  obtain ⟨x, m, p, l, n, rfl, ⟨⟨a, rfl, ha⟩, tp, lp, zp⟩, hm, hl, k⟩ := h
  have sz5 : 1000 <= sizeLine := by decide
  refine S.Bm ⟨_, (S.Ac (S.Bv (S.Ah (Hj hr.units) (S.pv 0) (S.Az S.Ab) (Ao _)) (S.Af (S.Aq (S.Az S.Ab))) S.Av)
      (S.Af (S.Aq (S.Ak Uj (S.Ak Agb (S.Az (S.Aa S.Ad S.Ab)) (S.pv 1)) (S.pv 0))))), ?_⟩
  contradiction
  refine ⟨by decide, fun p1 hp1 => ?_⟩
  have s1 := Same.upd hp1 (.tup [])
  refine Bx (ms := []) (s1.tup ha) (.of Ae) ?_
  try contradiction
  by_cases h1 : p = []
  . rw [if_pos h1]
    refine ⟨by decide, fun z hz => k z _ (s1.trans (Same.upd hz _)) ?_⟩
    rw [rs, if_pos h1]
    exact .of Ae
  rw [if_neg h1]
  intro p2 hp2
  have s2 := s1.trans (Same.upd hp2 (.tup [V.int 0]))
  refine ⟨p2, m, [V.int 0], rfl, rfl, .of Ae, by simp, by omega, by simp only [List.length_cons, List.length_nil]; omega, fun z H2 s3 hz => ?_⟩
  rw [Nj] at hz
  refine ⟨z, a, _, _, rfl, rfl, hz, (s2.trans s3).tup ha, by rw [List.length_map, List.length_map, List.length_replicate]; omega, fun z2 H3 s4 h4 => k z2 _ ((s2.trans s3).trans s4) ?_⟩
  rw [rs, if_neg h1, List.map_append]
  exact h4
theorem Wt (j : Nat) (p : List Int) (i : Nat) : co (List.replicate j 0 ++ p) i = if j <= i then co p (i - j) else 0 := by
  unfold co
  rw [List.getD_eq_getElem?_getD, List.getD_eq_getElem?_getD]
  by_cases h : j <= i
  . rw [if_pos h, List.getElem?_append_right (by rw [List.length_replicate]; exact h), List.length_replicate]
  . rw [if_neg h, List.getElem?_append_left (by rw [List.length_replicate]; omega), List.getElem?_replicate]
    split <;> rfl
theorem Agg (p : List Int) (m i : Nat) : co (rs p m) i = if m <= i then co p (i - m) else 0 := by
  unfold rs
  split
  . rename_i h
    rw [h, Ba, Ba]
    split <;> rfl
  . exact Wt m p i
theorem Aji {p : List Int} (h : Tr p) (m : Nat) : Tr (rs p m) := by
  unfold rs
  split
  . exact .inl rfl
  . rename_i n
    refine Tr.of (.inr ?_)
    rw [Wt, List.length_append, List.length_replicate, if_pos (by have := List.length_pos_iff.mpr n; omega)]
    have := h.lead n
    rw [show m + p.length - 1 - m = p.length - 1 by omega]
    exact this
theorem Ahf (p : List Int) (m : Nat) : (rs p m).length <= m + p.length := by
  unfold rs
  split
  . simp
  . rw [List.length_append, List.length_replicate]
    exact Nat.le_refl _
theorem Aez (c : Int) (i : Nat) : co [c] i = if i = 0 then c else 0 := by
  cases i with
  | zero => rw [Ca]; rfl
  | succ i => rw [Cm, Ba]; rfl
theorem Aad (c : Int) (j : Nat) (q : List Int) (i : Nat) : mu (rs (trim [c]) j) (co q) i = if j <= i then c * co q (i - j) else 0 := by
  have e : ∀ k, co (rs (trim [c]) j) k = co (List.replicate j 0 ++ [c]) k := fun k => by
    rw [Agg, Wt]
    split
    . rw [Aw]
    . rfl
  rw [congrFun (Bq (co q) _ _ e) i, M8, T3, List.length_replicate, Int.zero_add]
def SdR (K : PySem.W.Frag) (p q : List Int) (l : Nat) (Q : VK) (H : Hp) : Prop := ∀ (z : Addr) (H' : Hp) (c d : V) (u r : List Int), Same H H' -> SqT K H' z [c, d] -> Po K H' c u l BIG -> Po K H' d r l BIG ->
  (∀ k, co q (q.length - 1) ^ (p.length - q.length + 1) * co p k = mu u (co q) k + co r k) -> r.length < q.length -> u.length <= p.length - q.length + 1 -> Q (.ref z) H'
def Jj (K : PySem.W.Frag) : Sp := fun vs H Q _ => ∃ (x y : V) (p q : List Int) (l n : Nat), vs = [x, y] /\ Po K H x p l n /\ Po K H y q l n /\ l <= 60 /\ n <= 9000 /\ q ≠ [] /\ q.length <= p.length /\ SdR K p q l Q H
theorem Oa {f : Addr} {fd : FuncData} (F : Df K mg "scaled_division" Hq ["one", "other"] f fd) (z_range : mg "range" = none) (z_len : mg "len" = none)  (c_raised : Cal P w K mg base 1 "raised" ["one", "many"] (V3 K)) (c_p_plus : Cal P w K mg base 3 "p_plus" ["one", "other"] (Ib K)) (c_p_minus : Cal P w K mg base 4 "p_minus" ["one", "other"] (Ow K)) (c_degree : Cal P w K mg base 1 "degree" ["one"] (Hi K)) (c_poly : Cal P w K mg base 1 "poly" ["weights"] (Ij K)) (c_scaled : Cal P w K mg base 1 "scaled" ["one", "factor"] (G8 K)) (c_p_times : Cal P w K mg base 1 "p_times" ["one", "other"] (Dd K)) : Cal P w K mg base 5 "scaled_division" ["one", "other"] (Jj K) := by
  refine F.cal (F.fn.ok Br (fun vs H Q E h => ?_) (fun cdv A outer s H vs Q E hr h => ?_))
  . obtain ⟨x, y, p, q, _, _, rfl, _⟩ := h
    rfl
  obtain ⟨x, y, p, q, l, n, rfl, hx, hy, hl, hn, hq, hqp, k⟩ := h
  obtain ⟨⟨a, rfl, ha⟩, tp, lp, zp⟩ := id hx
  obtain ⟨⟨b, rfl, hb⟩, tq, lq, zq⟩ := id hy
  have hql : 0 < q.length := List.length_pos_iff.mpr hq
  have bigE := Tg
  obtain ⟨L, hL⟩ : ∃ L, L = p.length - q.length + 1 := ⟨_, rfl⟩
  obtain ⟨lc, hlc⟩ : ∃ lc, lc = co q (q.length - 1) := ⟨_, rfl⟩
  obtain ⟨B, hB⟩ : ∃ B : Nat -> Nat, B = fun i => n + (n + l + 4) * i := ⟨_, rfl⟩
  have B1 : ∀ i, B (i + 1) = B i + n + l + 4 := fun i => by rw [hB]; show n + (n + l + 4) * (i + 1) = n + (n + l + 4) * i + n + l + 4; rw [Nat.mul_succ]; omega
  have Bn : ∀ i, i <= 60 -> B i <= 560000 := fun i hi => by
    rw [hB]
    have : (n + l + 4) * i <= (n + l + 4) * 60 := Nat.mul_le_mul_left _ hi
    show n + (n + l + 4) * i <= 560000
    omega
  have B0 : B 0 = n := by rw [hB]; rfl
  refine S.Bm ⟨_, (S.Ac (S.Aj (i := 2) Br.nd rfl (Or.inl rfl) (S.Az S.Ab))
      (S.Ac (S.Aj (i := 3) Br.nd rfl (Or.inl rfl) (S.pv 0))
      (S.Ac (S.Hf PassesOwn.never rfl (S.Ng rfl z_range (S.Aa (S.Ak Et (S.Ai c_degree (hr.mono (by decide)) (S.Aa (S.pv 0) S.Ab)) (S.Ai c_degree (hr.mono (by decide)) (S.Aa (S.pv 1) S.Ab))) (S.Aa (S.Eb Cd S.Ad) (S.Aa (S.Eb Cd S.Ad) S.Ab)))) (S.Am (i := 4) Br.nd rfl (Or.inl rfl)) (S.Ac (S.Aj (i := 5) Br.nd rfl (Or.inl rfl) (S.N6 (S.Ah S6 (S.Ak Cz (S.pv 4) (S.Ai c_degree (hr.mono (by decide)) (S.Aa (S.pv 1) S.Ab))) (S.Dj Bc rfl z_len PySem.boot_len (S.Aa (S.pv 3) S.Ab)) (Ao _)) (S.Bt Bu (S.pv 3) (S.Ak Cz (S.pv 4) (S.Ai c_degree (hr.mono (by decide)) (S.Aa (S.pv 1) S.Ab))) (fun _ _ => rfl)) S.Ad))
      (S.Ac (S.Aj (i := 6) Br.nd rfl (Or.inl rfl) (S.Ai c_raised (hr.mono (by decide)) (S.Aa (S.Ai c_poly (hr.mono (by decide)) (S.Aa (S.Az (S.Aa (S.pv 5) S.Ab)) S.Ab)) (S.Aa (S.pv 4) S.Ab))))
      (S.Ac (S.Aj (i := 2) Br.nd rfl (Or.inl rfl) (S.Ai c_p_plus (hr.mono (by decide)) (S.Aa (S.Ai c_scaled (hr.mono (by decide)) (S.Aa (S.pv 2) (S.Aa (S.Bt Bu (S.pv 1) (S.Eb Cd S.Ad) (fun _ _ => rfl)) S.Ab))) (S.Aa (S.pv 6) S.Ab))))
      (S.Af (S.Aj (i := 3) Br.nd rfl (Or.inl rfl) (S.Ai c_p_minus (hr.mono (by decide)) (S.Aa (S.Ai c_scaled (hr.mono (by decide)) (S.Aa (S.pv 3) (S.Aa (S.Bt Bu (S.pv 1) (S.Eb Cd S.Ad) (fun _ _ => rfl)) S.Ab))) (S.Aa (S.Ai c_p_times (hr.mono (by decide)) (S.Aa (S.pv 6) (S.Aa (S.pv 1) S.Ab))) S.Ab)))))))))
      (S.Af (S.Aq (S.Az (S.Aa (S.pv 2) (S.Aa (S.pv 3) S.Ab)))))))), ?_⟩
  refine Bl (fun σ' H' => Same H H' /\ ∃ e0, σ' = [some (.ref a), some (.ref b), some (.ref e0), none, none, none, none] /\ H' e0 = some (.tup [])) (fun N hN => ?_) ?_
  . contradiction
    refine ⟨by decide, fun e0 he0 => hN _ _ ⟨Same.upd he0 _, e0, rfl, Ae⟩⟩
  rintro σ H1 ⟨s1, e0, rfl, g0⟩
  refine Bl (fun σ' H' => H' = H1 /\ σ' = [some (.ref a), some (.ref b), some (.ref e0), some (.ref a), none, none, none]) (fun N hN => ?_) ?_
  . contradiction
    exact hN _ _ ⟨rfl, rfl⟩
  rintro σ H2 ⟨rfl, rfl⟩
  refine Bl (fun σ' H' => Same H H' /\ ∃ (c d : V) (u r : List Int) (o4 o5 o6 : Option V), σ' = [some (.ref a), some (.ref b), some c, some d, o4, o5, o6] /\ Po K H' c u l (B L) /\ Po K H' d r l (B L) /\ (∀ k, lc ^ L * co p k = mu u (co q) k + co r k) /\ (∀ k, p.length - L <= k -> co r k = 0) /\ ∀ k, L <= k -> co u k = 0) (fun N hN => ?_) ?_
  . rw [Io]
    contradiction
    refine Dk hx s1 ?_
    try contradiction
    refine Dk hy s1 ?_
    try contradiction
    refine ⟨by omega, ?_⟩
    have en : ((p.length : Int) - 1 - ((q.length : Int) - 1) - -1).toNat = L := by omega
    refine Aib L (fun i => .int ((p.length : Int) - 1 - ((q.length : Int) - 1) - (i : Nat))) (fun i σ' H' => Same H H' /\ ∃ (c d : V) (u r : List Int) (o4 o5 o6 : Option V), σ' = [some (.ref a), some (.ref b), some c, some d, o4, o5, o6] /\ Po K H' c u l (B i) /\ Po K H' d r l (B i) /\ (∀ k, lc ^ i * co p k = mu u (co q) k + co r k) /\ (∀ k, p.length - i <= k -> co r k = 0) /\ ∀ k, L <= k -> co u k = 0) ?_ ?_ ?_ ?_
    . refine ⟨s1, _, _, [], p, _, _, _, rfl, ⟨⟨e0, rfl, .of g0⟩, .inl rfl, Nat.zero_le _, fun i => by rw [Ba, B0]; exact (zp p.length).of_abs (by simp)⟩, by rw [B0]; exact hx.mono s1, fun t => ?_, fun t ht => Bp (by omega), fun t _ => Ba t⟩
      rw [Int.pow_zero, Int.one_mul]
      show _ = 0 + co p t
      omega
    . intro i σ' H' _
      rw [en]
      exact Q6
    . rintro i σ' H5 hi ⟨s5, c, d, u, r, o4, o5, o6, rfl, ic, ir, he, hr0, hu0⟩
      obtain ⟨j, hj⟩ : ∃ j : Nat, j + 1 = L - i := ⟨L - i - 1, by omega⟩
      have pj : (p.length : Int) - 1 - ((q.length : Int) - 1) - (i : Nat) = (j : Int) := by omega
      rw [Cv, pj]
      simp only [List.set_cons_succ, List.set_cons_zero]
      have ix : (j : Int) + ((q.length : Int) - 1) = ((j + (q.length - 1) : Nat) : Int) := by omega
      obtain ⟨e, he'⟩ : ∃ e, e = j + (q.length - 1) := ⟨_, rfl⟩
      rw [<- he'] at ix
      obtain ⟨tp', htp⟩ : ∃ t, t = co r e := ⟨_, rfl⟩
      have Bi := Bn i (by omega)
      have Bs := B1 i
      have zt : Sz (B i) tp' := by rw [htp]; exact ir.2.2.2 e
      have zl : Sz n lc := by rw [hlc]; exact zq _
      refine Bl (fun σ' H' => H' = H5 /\ σ' = [some (.ref a), some (.ref b), some c, some d, some (.int j), some (.int tp'), o6]) (fun N hN => ?_) ?_
      . contradiction
        refine Dk hy s5 ?_
        simp only [J8, Fy, Jz, Kq, Fw, Kr, Cv, Kv, Fl, Ga, z_c, R4, Sh, Sd, J1, R6, Jw, Ka, Jm, Ku, Es, R8, Kf, J3, Ko, Fj, Ey, J6, Kw, S5, Fb, Jp, Gn, Sq, Ge, J2, Fz, Sy, J0, J7, Dw, Gg, Gk, Gj, Dq, Fg, Jq, Km, Kd, Io, Sw, Cg, Gd, Kh, Sx, Js, Ft, Jr, Jl, Gf, Kl, Gq, Gh, Gs, Dr, Ju, Ds, Gb, Eu, Fq, Dl, J9, Fp, J5, Gm, Ew, Fi, Dn, Fx, R9, cpσ, List.getElem?_cons_zero, List.getElem?_cons_succ, Option.join_some, List.set_cons_zero, List.set_cons_succ, List.append_nil, decide_eq_true_eq, Bool.not_eq_true', decide_eq_false_iff_not, Bool.not_not, ite_not, Bool.false_eq_true, Bool.true_eq_false, if_false, if_true, if_pos, List.length_cons, List.length_nil, Nat.zero_add, Nat.reduceAdd, Fe, Ez, true_and, and_true, L2.start, List.map_cons, List.map_nil, Bool.not_true, Bool.not_false, Nat.reduceSub, List.replicate_succ, List.replicate_zero, List.cons_append, List.nil_append, ix]
        obtain ⟨⟨dr, rfl, hdr⟩, _, lr, _⟩ := id ir
        refine ⟨dr, _, rfl, .inr hdr, ?_⟩
        try contradiction
        rw [List.length_map]
        split
        . rename_i h
          have h' : e < r.length := by omega
          refine Dk hy s5 ?_
          simp only [J8, Fy, Jz, Kq, Fw, Kr, Cv, Kv, Fl, Ga, z_c, R4, Sh, Sd, J1, R6, Jw, Ka, Jm, Ku, Es, R8, Kf, J3, Ko, Fj, Ey, J6, Kw, S5, Fb, Jp, Gn, Sq, Ge, J2, Fz, Sy, J0, J7, Dw, Gg, Gk, Gj, Dq, Fg, Jq, Km, Kd, Io, Sw, Cg, Gd, Kh, Sx, Js, Ft, Jr, Jl, Gf, Kl, Gq, Gh, Gs, Dr, Ju, Ds, Gb, Eu, Fq, Dl, J9, Fp, J5, Gm, Ew, Fi, Dn, Fx, R9, cpσ, List.getElem?_cons_zero, List.getElem?_cons_succ, Option.join_some, List.set_cons_zero, List.set_cons_succ, List.append_nil, decide_eq_true_eq, Bool.not_eq_true', decide_eq_false_iff_not, Bool.not_not, ite_not, Bool.false_eq_true, Bool.true_eq_false, if_false, if_true, if_pos, List.length_cons, List.length_nil, Nat.zero_add, Nat.reduceAdd, Fe, Ez, true_and, and_true, L2.start, List.map_cons, List.map_nil, Bool.not_true, Bool.not_false, Nat.reduceSub, List.replicate_succ, List.replicate_zero, List.cons_append, List.nil_append, ix]
          refine Ei hdr (v := .int tp') (by rw [htp, Dc h']; exact Mg (Iw h')) ?_
          try contradiction
          exact hN _ _ ⟨rfl, rfl⟩
        . rename_i h
          have : tp' = 0 := by rw [htp]; exact Bp (by omega)
          rw [this] at hN
          exact hN _ _ ⟨rfl, rfl⟩
      rintro σ' H6 ⟨rfl, rfl⟩
      refine Bl (fun σ' H' => Same H6 H' /\ ∃ tv : V, σ' = [some (.ref a), some (.ref b), some c, some d, some (.int j), some (.int tp'), some tv] /\ Po K H' tv (rs (trim [tp']) j) l (B i)) (fun N hN => ?_) ?_
      . contradiction
        intro p1 hp1
        have s6 := Same.upd hp1 (.tup [V.int tp'])
        refine ⟨p1, [tp'], rfl, .inr (.of Ae), by simp, fun z H7 s7 h7 => ?_⟩
        try contradiction
        have it : Po K H7 (.ref z) (trim [tp']) 1 (B i) := ⟨⟨z, rfl, h7⟩, Bb _, Nat.le_trans (Hs _) (by simp), fun t => by
          rw [Aw, Aez]
          split
          . exact zt
          . exact zt.of_abs (by simp)⟩
        refine ⟨_, j, _, 1, B i, rfl, it, by omega, by decide, fun z2 H8 s8 h8 => hN _ _ ⟨(s6.trans s7).trans s8, _, rfl, ⟨⟨z2, rfl, h8⟩, Aji (Bb _) j, ?_, fun t => ?_⟩⟩⟩
        . have h1 := Ahf (trim [tp']) j
          have h2 := it.2.2.1
          omega
        . rw [Agg]
          split
          . exact it.2.2.2 _
          . exact zt.of_abs (by simp)
      rintro σ' H7 ⟨s7, tv, rfl, it⟩
      have s57 := s5.trans s7
      refine Bl (fun σ' H' => Same H7 H' /\ ∃ cv : V, σ' = [some (.ref a), some (.ref b), some cv, some d, some (.int j), some (.int tp'), some tv] /\ Po K H' cv (ta (ng u lc) (rs (trim [tp']) j)) l (B (i + 1))) (fun N hN => ?_) ?_
      . contradiction
        refine Ei (s57.tup hb) (Ii hq) ?_
        rw [<- hlc]
        try contradiction
        refine ⟨c, lc, u, l, B i, n, rfl, ic.mono s7, zl, by omega, by omega, fun z H8 s8 i8 => ?_⟩
        try contradiction
        refine ⟨z, tv, _, _, l, l, B i + n, B i, rfl, i8, it.mono s8, by omega, by omega, trivial, fun w H9 s9 i9 => hN _ _ ⟨s8.trans s9, w, rfl, ⟨i9.1, i9.2.1, Nat.le_trans i9.2.2.1 (by omega), fun t => (i9.2.2.2 t).mono (by omega)⟩⟩⟩
      rintro σ' H8 ⟨s8, cv, rfl, icv⟩
      contradiction
      refine Ei ((s57.trans s8).tup hb) (Ii hq) ?_
      rw [<- hlc]
      try contradiction
      refine ⟨d, lc, r, l, B i, n, rfl, ir.mono (s7.trans s8), zl, by omega, by omega, fun z H9 s9 i9 => ?_⟩
      try contradiction
      refine ⟨tv, .ref b, _, q, l, l, B i, n, rfl, it.mono (s8.trans s9), hy.mono ((s57.trans s8).trans s9), by omega, by omega, by omega, fun w Ha sa ia => ?_⟩
      try contradiction
      refine ⟨z, w, _, _, l, l + l, B i + n, B i + n + l, rfl, i9.mono sa, ia, by omega, by omega, by omega, fun v Hb sb ib => ?_⟩
      try contradiction
      have rco : ∀ t, co (ta (ng r lc) (ng (tm (rs (trim [tp']) j) q) (-1))) t = co r t * lc - (if j <= t then tp' * co q (t - j) else 0) := fun t => by
        rw [Oc, Pj, Pj, Cj, Aad]
        omega
      have r0 : ∀ t, p.length - (i + 1) <= t -> co (ta (ng r lc) (ng (tm (rs (trim [tp']) j) q) (-1))) t = 0 := fun t ht => by
        rw [rco, if_pos (by omega)]
        by_cases h : t = e
        . rw [h, <- htp, he', show j + (q.length - 1) - j = q.length - 1 by omega, hlc]
          omega
        . rw [hr0 t (by omega), Bp (p := q) (by omega)]
          simp
      refine ⟨((((s57.trans s8).trans s9).trans sa).trans sb), cv, v, _, _, _, _, _, rfl, icv.mono ((s9.trans sa).trans sb), ⟨ib.1, ib.2.1, ?_, fun t => (ib.2.2.2 t).mono (by omega)⟩, fun t => ?_, r0, fun t ht => ?_⟩
      . refine Nat.le_trans (ib.2.1.len (q := (ta (ng r lc) (ng (tm (rs (trim [tp']) j) q) (-1))).take l) fun t => ?_) (List.length_take_le _ _)
        rw [Kc]
        split
        . rfl
        . exact r0 t (by omega)
      . rw [rco, <- Cj, Int.pow_succ]
        have e1 : co (tm (ta (ng u lc) (rs (trim [tp']) j)) q) t = mu u (co q) t * lc + (if j <= t then tp' * co q (t - j) else 0) := by
          rw [Cr, Aj1, Oc, Cr q (rs (trim [tp']) j), Cj (rs (trim [tp']) j), Aad, Cj, Ik]
          congr 1
          have e2 : mu (ng u lc) (co q) t = mu (u.map (lc * ·)) (co q) t := congrFun (Bq (co q) _ _ fun k => by rw [Pj, Ck, Int.mul_comm]) t
          rw [e2, K3, Int.mul_comm]
        rw [e1]
        have := he t
        have e3 : lc ^ i * lc * co p t = (lc ^ i * co p t) * lc := by grind
        rw [e3, this]
        grind
      . rw [Oc, Pj, hu0 t ht, Agg]
        split
        . rw [Aw, Aez, if_neg (by omega)]
          simp
        . simp
    . rintro σ' H5 ⟨s5, c, d, u, r, o4, o5, o6, rfl, ic, ir, he, hr0, hu0⟩
      exact hN _ _ ⟨s5, c, d, u, r, o4, o5, o6, rfl, ic, ir, he, hr0, hu0⟩
  rintro σ H5 ⟨s5, c, d, u, r, o4, o5, o6, rfl, ic, ir, he, hr0, hu0⟩
  have BL := Bn L (by omega)
  contradiction
  intro z hz
  have s6 := Same.upd hz (.tup [c, d])
  have big : ∀ {v : V} {f : List Int}, Po K H5 v f l (B L) -> Po K (upd H5 z (.tup [c, d])) v f l BIG := fun h => ⟨(h.mono s6).1, h.2.1, h.2.2.1, fun t => (h.2.2.2 t).mono (by omega)⟩
  refine k z _ c d u r (s5.trans s6) (.of Ae) (big ic) (big ir) (by rw [<- hlc, <- hL]; exact he) ?_ ?_
  . have h := ir.2.1.len (q := r.take (q.length - 1)) fun t => by
      rw [Kc]
      split
      . rfl
      . exact hr0 t (by omega)
    rw [List.length_take] at h
    omega
  . have h := ic.2.1.len (q := u.take L) fun t => by
      rw [Kc]
      split
      . rfl
      . exact hu0 t (by omega)
    rw [List.length_take] at h
    omega
def RwV (K : PySem.W.Frag) (H : Hp) (vs : List V) (fs : List (List Int)) (l n : Nat) : Prop := vs.length = fs.length /\ ∀ c, c < fs.length -> Po K H (vs.getD c .non) (fs.getD c []) l n
def Rw (K : PySem.W.Frag) (H : Hp) (x : V) (fs : List (List Int)) (l n : Nat) : Prop := ∃ a vs, x = .ref a /\ SqT K H a vs /\ RwV K H vs fs l n
theorem RwV.mono {H H' : Hp} {vs : List V} {fs : List (List Int)} {l n : Nat} (h : RwV K H vs fs l n) (s : Same H H') : RwV K H' vs fs l n := ⟨h.1, fun c hc => (h.2 c hc).mono s⟩
theorem Rw.mono {H H' : Hp} {x : V} {fs : List (List Int)} {l n : Nat} (h : Rw K H x fs l n) (s : Same H H') : Rw K H' x fs l n := by
  obtain ⟨a, vs, e, t, r⟩ := h
  exact ⟨a, vs, e, s.tup t, r.mono s⟩
theorem getD_at {vs : List V} {j : Nat} (h : j < vs.length) : atI vs ((j : Nat) : Int) = some (vs.getD j .non) := Mg (by rw [List.getD_eq_getElem?_getD, List.getElem?_eq_getElem h]; rfl)
def NrR (K : PySem.W.Frag) (fs gs : List (List Int)) (β : Int) (l : Nat) (Q : VK) (H : Hp) : Prop := ∀ (z : V) (H' : Hp) (ts : List (List Int)) (u r : List Int), Same H H' -> Rw K H' z ts (2 * l) (2 * BIG) -> ts.length = fs.length ->
  (∀ k, co (gs.getD 0 []) ((gs.getD 0 []).length - 1) ^ ((fs.getD 0 []).length - (gs.getD 0 []).length + 1) * co (fs.getD 0 []) k = mu u (co (gs.getD 0 [])) k + co r k) -> r.length < (gs.getD 0 []).length -> u.length <= (fs.getD 0 []).length - (gs.getD 0 []).length + 1 ->
  (∀ c, c < fs.length -> ∀ i, co (gs.getD 0 []) ((gs.getD 0 []).length - 1) ^ ((fs.getD 0 []).length - (gs.getD 0 []).length + 1) * co (fs.getD c []) i = β * co (ts.getD c []) i + mu u (co (gs.getD c [])) i) -> Q z H'
def NrE (fs gs : List (List Int)) (β : Int) : Prop := ∀ (u r : List Int), (∀ k, co (gs.getD 0 []) ((gs.getD 0 []).length - 1) ^ ((fs.getD 0 []).length - (gs.getD 0 []).length + 1) * co (fs.getD 0 []) k = mu u (co (gs.getD 0 [])) k + co r k) -> r.length < (gs.getD 0 []).length -> u.length <= (fs.getD 0 []).length - (gs.getD 0 []).length + 1 ->
  ∀ c, c < fs.length -> ∀ i, β ∣ co (gs.getD 0 []) ((gs.getD 0 []).length - 1) ^ ((fs.getD 0 []).length - (gs.getD 0 []).length + 1) * co (fs.getD c []) i - mu u (co (gs.getD c [])) i
def Mx (K : PySem.W.Frag) : Sp := fun vs H Q _ => ∃ (x y : V) (β : Int) (fs gs : List (List Int)) (l n : Nat), vs = [x, y, .int β] /\ Rw K H x fs l n /\ Rw K H y gs l n /\ gs.length = fs.length /\ 1 <= fs.length /\ fs.length <= 3 /\ l <= 60 /\ n <= 8000 /\ gs.getD 0 [] ≠ [] /\ (gs.getD 0 []).length <= (fs.getD 0 []).length /\ (fs.getD 0 []).length <= (gs.getD 0 []).length + 38 /\ β ≠ 0 /\ Sz 8000 β /\ NrE fs gs β /\ NrR K fs gs β l Q H
theorem O4 {d : Int} (p : List Int) (i : Nat) : co (p.map fun x => x.fdiv d) i = (co p i).fdiv d := Qk (f := fun x => x.fdiv d) (Int.zero_fdiv d) p i
theorem Ri {x d : Int} (h0 : d ≠ 0) (h : d ∣ x) : d * x.fdiv d = x := by
  obtain ⟨k, rfl⟩ := h
  rw [Int.mul_fdiv_cancel_left _ h0]
theorem Ut {p : List Int} {d : Int} (h0 : d ≠ 0) (tp : Tr p) (h : ∀ i, d ∣ co p i) : Tr (p.map fun x => x.fdiv d) := by
  by_cases n : p = []
  . subst n; exact .inl rfl
  . refine Tr.of (.inr ?_)
    rw [List.length_map, O4]
    intro z
    have := Ri h0 (h (p.length - 1))
    rw [z, Int.mul_zero] at this
    exact tp.lead n this.symm
theorem Aau {n : Nat} {x d : Int} (h0 : d ≠ 0) (h : d ∣ x) (z : Sz n x) : Sz n (x.fdiv d) := z.of_abs (by
  have := congrArg Int.natAbs (Ri h0 h)
  rw [Int.natAbs_mul] at this
  have hd := Int.natAbs_pos.mpr h0
  have := Nat.le_mul_of_pos_left (x.fdiv d).natAbs hd
  omega)
theorem Xe {f : Addr} {fd : FuncData} (F : Df K mg "next_row" Ol ["first", "second", "known"] f fd) (z_zip : mg "zip" = none) (z_tuple : mg "tuple" = none)  (c_whole_power : Cal P w K mg base 4 "whole_power" ["number", "many"] (Gi K)) (c_scaled_division : Cal P w K mg base 5 "scaled_division" ["one", "other"] (Jj K)) (c_shrunk : Cal P w K mg base 1 "shrunk" ["one", "number"] (Ky K)) (c_degree : Cal P w K mg base 1 "degree" ["one"] (Hi K)) (c_p_minus : Cal P w K mg base 4 "p_minus" ["one", "other"] (Ow K)) (c_scaled : Cal P w K mg base 1 "scaled" ["one", "factor"] (G8 K)) (c_p_times : Cal P w K mg base 1 "p_times" ["one", "other"] (Dd K)) : Cal P w K mg base 6 "next_row" ["first", "second", "known"] (Mx K) := by
  refine F.cal (F.fn.ok Gv (fun vs H Q E h => ?_) (fun cdv A outer s H vs Q E hr h => ?_))
  . obtain ⟨x, y, β, fs, gs, _, _, rfl, _⟩ := h
    rfl
  obtain ⟨x, y, β, fs, gs, l, n, rfl, ⟨a, vs, rfl, ha, hvl, hv⟩, ⟨b, ws, rfl, hb, hwl, hw⟩, hgf, hf1, hf3, hl, hn, hg0, hgl, hd38, β0, βz, ex, k⟩ := h
  have bigE := Tg
  have p0 := hv 0 (by omega)
  have q0 := hw 0 (by omega)
  have hq0 := hg0
  have gl0 : 0 < (gs.getD 0 []).length := List.length_pos_iff.mpr hg0
  obtain ⟨L, hL⟩ : ∃ L, L = co (gs.getD 0 []) ((gs.getD 0 []).length - 1) ^ ((fs.getD 0 []).length - (gs.getD 0 []).length + 1) := ⟨_, rfl⟩
  have ld0 : co (gs.getD 0 []) ((gs.getD 0 []).length - 1) ≠ 0 := q0.2.1.lead hg0
  obtain ⟨⟨b0, eb0, hb0⟩, _⟩ := id q0
  obtain ⟨⟨a0, ea0, ha0⟩, _⟩ := id p0
  have atF : atI vs 0 = some (vs.getD 0 .non) := getD_at (j := 0) (by omega)
  have atG : atI ws 0 = some (ws.getD 0 .non) := getD_at (j := 0) (by omega)
  have LS : Sz (n * ((fs.getD 0 []).length - (gs.getD 0 []).length + 1) + 1) L := by rw [hL]; exact Xw (q0.2.2.2 _) _
  have hN : n * ((fs.getD 0 []).length - (gs.getD 0 []).length + 1) <= 8000 * 39 := Nat.mul_le_mul hn (by omega)
  refine S.Bm ⟨_, (S.Ac (S.Aj (i := 3) Gv.nd rfl (Or.inl rfl) (S.Ai c_whole_power (hr.mono (by decide)) (S.Aa (S.Bt Bu (S.Bt Bu (S.pv 1) S.Ad (fun _ _ => rfl)) (S.Eb Cd S.Ad) (fun _ _ => rfl)) (S.Aa (S.Ak Cz (S.Ak Et (S.Ai c_degree (hr.mono (by decide)) (S.Aa (S.Bt Bu (S.pv 0) S.Ad (fun _ _ => rfl)) S.Ab)) (S.Ai c_degree (hr.mono (by decide)) (S.Aa (S.Bt Bu (S.pv 1) S.Ad (fun _ _ => rfl)) S.Ab))) S.Ad) S.Ab))))
      (S.Ac (S.El (S.Ai c_scaled_division (hr.mono (by decide)) (S.Aa (S.Bt Bu (S.pv 0) S.Ad (fun _ _ => rfl)) (S.Aa (S.Bt Bu (S.pv 1) S.Ad (fun _ _ => rfl)) S.Ab))) (S.Gz rfl (S.Ar (S.Am (i := 5) Gv.nd rfl (Or.inl rfl)) (S.Ar (S.Am (i := 6) Gv.nd rfl (Or.inl rfl)) S.Ed))))
      (S.Ac (S.Aj (i := 4) Gv.nd rfl (Or.inl rfl) (S.G7 (S.Aa (S.Ai c_shrunk (hr.mono (by decide)) (S.Aa (S.pv 6) (S.Aa (S.pv 2) S.Ab))) S.Ab)))
      (S.Ac (S.Hf PassesOwn.never rfl (S.Rv true true rfl z_zip (S.Aa (S.Dh Ho (S.pv 0) (S.Em S.Ad) S.Ej) (S.Aa (S.Dh Ho (S.pv 1) (S.Em S.Ad) S.Ej) S.Ab))) (S.Gz rfl (S.Ar (S.Am (i := 7) Gv.nd rfl (Or.inl rfl)) (S.Ar (S.Am (i := 8) Gv.nd rfl (Or.inl rfl)) S.Ed))) (S.Af (S.Lz (S.Pn PySem.F.plainAttrs_list PySem.F.slot_list_append PySem.F.type_list_append K1 (S.pv 4) (S.Aa (S.Ai c_shrunk (hr.mono (by decide)) (S.Aa (S.Ai c_p_minus (hr.mono (by decide)) (S.Aa (S.Ai c_scaled (hr.mono (by decide)) (S.Aa (S.pv 7) (S.Aa (S.pv 3) S.Ab))) (S.Aa (S.Ai c_p_times (hr.mono (by decide)) (S.Aa (S.pv 5) (S.Aa (S.pv 8) S.Ab))) S.Ab))) (S.Aa (S.pv 2) S.Ab))) S.Ab)))))
      (S.Af (S.Aq (S.Gy Ep rfl z_tuple PyProof.Rows.boot_tuple (S.Aa (S.pv 4) S.Ab)))))))), ?_⟩
  refine Bl (fun σ' H' => Same H H' /\ σ' = [some (.ref a), some (.ref b), some (.int β), some (.int L), none, none, none, none, none]) (fun N hN => ?_) ?_
  . contradiction
    refine Ei hb atG ?_
    rw [eb0]
    refine Ei hb0 (Ii hg0) ?_
    try contradiction
    refine Ei ha atF ?_
    refine Dk p0 (Same.refl _) ?_
    try contradiction
    refine Ei hb atG ?_
    refine Dk q0 (Same.refl _) ?_
    try contradiction
    refine Yj (m := (fs.getD 0 []).length - (gs.getD 0 []).length + 1) (by omega) ld0 (q0.2.2.2 _) (by omega) (by omega) fun H' s' => ?_
    rw [<- hL]
    exact hN _ _ ⟨s', rfl⟩
  rintro σ H1 ⟨s1, rfl⟩
  refine Bl (fun σ' H' => Same H H' /\ ∃ (c d : V) (u r : List Int), σ' = [some (.ref a), some (.ref b), some (.int β), some (.int L), none, some c, some d, none, none] /\ Po K H' c u l BIG /\ Po K H' d r l BIG /\ (∀ k, L * co (fs.getD 0 []) k = mu u (co (gs.getD 0 [])) k + co r k) /\ r.length < (gs.getD 0 []).length /\ u.length <= (fs.getD 0 []).length - (gs.getD 0 []).length + 1) (fun N hN => ?_) ?_
  . contradiction
    refine Ei (s1.tup ha) atF (Ei (s1.tup hb) atG ?_)
    refine ⟨_, _, fs.getD 0 [], gs.getD 0 [], l, n, rfl, p0.mono s1, q0.mono s1, hl, by omega, hg0, hgl, fun z H2 c d u r s2 hz ic id he hlr hlu => ?_⟩
    refine N5 hz ?_
    exact hN _ _ ⟨s1.trans s2, c, d, u, r, rfl, ic, id, by rw [hL]; exact he, hlr, hlu⟩
  rintro σ H2 ⟨s2, c, d, u, r, rfl, ic, ir, he, hlr, hlu⟩
  rw [hL] at he
  have ex' := ex u r he hlr hlu
  rw [<- hL] at ex' he
  obtain ⟨T, hT⟩ : ∃ T : Nat -> List Int, T = fun c => (trim (al ((fs.getD c []).map (L * ·)) ((ml u (gs.getD c [])).map (-1 * ·)))).map fun x => x.fdiv β := ⟨_, rfl⟩
  have R0 : ∀ c i, co (trim (al ((fs.getD c []).map (L * ·)) ((ml u (gs.getD c [])).map (-1 * ·)))) i = L * co (fs.getD c []) i - mu u (co (gs.getD c [])) i := fun c i => by
    rw [Aw, Ph, Ck, Ck, Ov]
    omega
  have Tco : ∀ c, c < fs.length -> ∀ i, β * co (T c) i = L * co (fs.getD c []) i - mu u (co (gs.getD c [])) i := fun c hc i => by
    rw [hT]
    show β * co (List.map _ _) i = _
    rw [O4, R0]
    exact Ri β0 (ex' c hc i)
  refine Bl (fun σ' H' => Same H H' /\ ∃ (t3 : Addr) (z0 : V), σ' = [some (.ref a), some (.ref b), some (.int β), some (.int L), some (.ref t3), some c, some d, none, none] /\ H t3 = none /\ Po K H' c u l BIG /\ H' t3 = some (.lst [z0]) /\ Po K H' z0 (T 0) (2 * l) (2 * BIG)) (fun N hN => ?_) ?_
  . contradiction
    obtain ⟨⟨dr, rfl, hdr⟩, tr, lr, zr⟩ := id ir
    have er : r = trim (al ((fs.getD 0 []).map (L * ·)) ((ml u (gs.getD 0 [])).map (-1 * ·))) := tr.ext (Bb _) fun i => by rw [R0, he]; omega
    have dv : ∀ i, β ∣ co r i := fun i => by rw [er, R0]; exact ex' 0 (by omega) i
    refine ⟨dr, r, β, rfl, hdr, by omega, fun _ => ⟨β0, βz⟩, fun z H3 s3 h3 => ?_⟩
    try contradiction
    intro t3 ht3
    have st := Same.upd ht3 (.lst [V.ref z])
    have eT : T 0 = r.map fun x => x.fdiv β := by rw [hT, er]
    refine hN _ _ ⟨(s2.trans s3).trans st, t3, _, rfl, Same.free (s2.trans s3) ht3, ic.mono (s3.trans st), Ae, ⟨⟨z, rfl, by rw [eT]; exact st.tup h3⟩, by rw [eT]; exact Ut β0 tr dv, by rw [eT, List.length_map]; omega, fun i => ?_⟩⟩
    rw [eT, O4]
    exact (Aau β0 (dv i) (zr i)).mono (by omega)
  rintro σ H3 ⟨s3, t3, z0, rfl, nt3, ic3, g3, i0⟩
  refine Bl (fun σ' H' => Same H H' /\ ∃ (zs : List V) (o7 o8 : Option V), σ' = [some (.ref a), some (.ref b), some (.int β), some (.int L), some (.ref t3), some c, some d, o7, o8] /\ H' t3 = some (.lst zs) /\ zs.length = fs.length /\ ∀ j, j < fs.length -> Po K H' (zs.getD j .non) (T j) (2 * l) (2 * BIG)) (fun N hN => ?_) ?_
  . contradiction
    have cutA : Nh vs (some 1) none = vs.drop 1 := by
      unfold Nh
      rw [show (1 : Int) = ((1 : Nat) : Int) from rfl, HT.N8, HT.Ra, Nat.min_eq_left (by omega), List.take_of_length_le (by simp)]
    have cutB : Nh ws (some 1) none = ws.drop 1 := by
      unfold Nh
      rw [show (1 : Int) = ((1 : Nat) : Int) from rfl, HT.N8, HT.Ra, Nat.min_eq_left (by omega), List.take_of_length_le (by simp)]
    refine ⟨a, vs, rfl, s3.tup ha, fun ca H4 s4 h4 => ?_⟩
    try contradiction
    refine ⟨b, ws, rfl, (s3.trans s4).tup hb, fun cb H5 s5 h5 => ?_⟩
    rw [cutA] at h4
    rw [cutB] at h5
    try contradiction
    refine ⟨ca, cb, rfl, ⟨_, s5.tup h4⟩, ⟨_, h5⟩, ?_⟩
    refine Agc (xs := vs.drop 1) (ys := ws.drop 1) (fs.length - 1) (by rw [List.length_drop, List.length_drop]; omega) (fun i σ' H' => Same H H' /\ SqT K H' ca (vs.drop 1) /\ SqT K H' cb (ws.drop 1) /\ Po K H' c u l BIG /\ ∃ (zs : List V) (o7 o8 : Option V), σ' = [some (.ref a), some (.ref b), some (.int β), some (.int L), some (.ref t3), some c, some d, o7, o8] /\ H' t3 = some (.lst zs) /\ zs.length = i + 1 /\ ∀ j, j < i + 1 -> Po K H' (zs.getD j .non) (T j) (2 * l) (2 * BIG)) ?_ ?_ ?_ ?_
    . refine ⟨(s3.trans s4).trans s5, s5.tup h4, h5, ic3.mono (s4.trans s5), [z0], _, _, rfl, (s4.trans s5) _ _ g3, rfl, fun j hj => ?_⟩
      have : j = 0 := by omega
      subst this
      exact i0.mono (s4.trans s5)
    . rintro i σ' H' ⟨_, x1, x2, _⟩
      exact ⟨x1, x2⟩
    . rintro i σ' H6 p6 hi ⟨s6, x1, x2, ic6, zs, o7, o8, rfl, g6, hzl, hz⟩ hp6
      refine N5 (.of Ae) ?_
      have s7 := Same.upd hp6 (.tup [(vs.drop 1).getD i .non, (ws.drop 1).getD i .non])
      have ev : (vs.drop 1).getD i .non = vs.getD (i + 1) .non := by
        rw [List.getD_eq_getElem?_getD, List.getD_eq_getElem?_getD, List.getElem?_drop, Nat.add_comm]
      have ew : (ws.drop 1).getD i .non = ws.getD (i + 1) .non := by
        rw [List.getD_eq_getElem?_getD, List.getD_eq_getElem?_getD, List.getElem?_drop, Nat.add_comm]
      rw [ev, ew] at s7 ⊢
      generalize upd H6 p6 (.tup [vs.getD (i + 1) .non, ws.getD (i + 1) .non]) = H7 at *
      have iu := (hv (i + 1) (by omega)).mono (s6.trans s7)
      have iw := (hw (i + 1) (by omega)).mono (s6.trans s7)
      have g7 := s7 _ _ g6
      try contradiction
      refine ⟨.inl ⟨rfl, _, .of g7⟩, ?_⟩
      refine ⟨_, L, fs.getD (i + 1) [], l, n, _, rfl, iu, LS, by omega, by omega, fun w1 H8 s8 i8 => ?_⟩
      try contradiction
      refine ⟨c, _, u, gs.getD (i + 1) [], l, l, BIG, n, rfl, ic6.mono (s7.trans s8), iw.mono s8, by omega, by omega, by omega, fun w2 H9 s9 i9 => ?_⟩
      try contradiction
      refine ⟨w1, w2, _, _, _, _, _, _, rfl, i8.mono s9, i9, by omega, by omega, by omega, fun w3 Ha sa ia => ?_⟩
      try contradiction
      have er : ta (ng (fs.getD (i + 1) []) L) (ng (tm u (gs.getD (i + 1) [])) (-1)) = trim (al ((fs.getD (i + 1) []).map (L * ·)) ((ml u (gs.getD (i + 1) [])).map (-1 * ·))) := (Ui _ _).ext (Bb _) fun t => by
        rw [R0, Oc, Pj, Pj, Cj]
        grind
      obtain ⟨⟨wr, rfl, hwr⟩, tr, lr, zr⟩ := id ia
      have dv : ∀ t, β ∣ co (ta (ng (fs.getD (i + 1) []) L) (ng (tm u (gs.getD (i + 1) [])) (-1))) t := fun t => by rw [er, R0]; exact ex' (i + 1) (by omega) t
      refine ⟨wr, _, β, rfl, hwr, by omega, fun _ => ⟨β0, βz⟩, fun z Hb sb hb' => ?_⟩
      have t7 := ((s8.trans s9).trans sa).trans sb
      have gb := t7 _ _ g7
      try contradiction
      refine ⟨t3, _, _, rfl, rfl, gb, by rw [hzl]; exact Nat.lt_of_lt_of_le (show i + 1 < 1000 by omega) (by decide), ?_⟩
      have nT := ((s6.trans s7).trans t7)
      have sput : Same H (upd Hb t3 (.lst (zs ++ [V.ref z]))) := nT.put nt3
      have keep : ∀ {v : V} {f : List Int} {x y : Nat}, Po K Hb v f x y -> Po K (upd Hb t3 (.lst (zs ++ [V.ref z]))) v f x y := fun h => ⟨by
        obtain ⟨q, e, t⟩ := h.1
        exact ⟨q, e, W8 t gb⟩, h.2⟩
      have eT : T (i + 1) = (ta (ng (fs.getD (i + 1) []) L) (ng (tm u (gs.getD (i + 1) [])) (-1))).map fun x => x.fdiv β := by rw [hT, er]
      refine ⟨sput, W8 ((s7.trans t7).tup x1) gb, W8 ((s7.trans t7).tup x2) gb, keep (ic6.mono (s7.trans t7)), zs ++ [V.ref z], _, _, rfl, Ae, by rw [List.length_append, hzl]; rfl, fun j hj => ?_⟩
      by_cases hj2 : j = i + 1
      . subst hj2
        have e1 : (zs ++ [V.ref z]).getD (i + 1) .non = V.ref z := by
          rw [List.getD_eq_getElem?_getD, List.getElem?_append_right (by omega), hzl, Nat.sub_self]
          rfl
        rw [e1]
        refine keep ⟨⟨z, rfl, by rw [eT]; exact hb'⟩, by rw [eT]; exact Ut β0 tr dv, by rw [eT, List.length_map]; omega, fun t => ?_⟩
        rw [eT, O4]
        exact (Aau β0 (dv t) (zr t)).mono (by omega)
      . have e1 : (zs ++ [V.ref z]).getD j .non = zs.getD j .non := by
          rw [List.getD_eq_getElem?_getD, List.getElem?_append_left (by omega), <- List.getD_eq_getElem?_getD]
        rw [e1]
        exact keep ((hz j (by omega)).mono (s7.trans t7))
    . rintro σ' H6 ⟨s6, _, _, _, zs, o7, o8, rfl, g6, hzl, hz⟩
      exact hN _ _ ⟨s6, zs, o7, o8, rfl, g6, by omega, fun j hj => hz j (by omega)⟩
  rintro σ H4 ⟨s4, zs, o7, o8, rfl, g4, hzl, hz⟩
  contradiction
  refine ⟨t3, zs, rfl, .inl ⟨.of g4, fun z hz' => ?_⟩⟩
  have s5 := Same.upd hz' (.tup zs)
  refine k _ _ ((List.range fs.length).map T) u r (s4.trans s5) ⟨z, zs, rfl, .of Ae, by rw [List.length_map, List.length_range]; exact hzl, fun j hj => ?_⟩ (by rw [List.length_map, List.length_range]) (by rw [<- hL]; exact he) hlr hlu fun j hj i => ?_
  . rw [List.length_map, List.length_range] at hj
    have e : ((List.range fs.length).map T).getD j [] = T j := by
      rw [List.getD_eq_getElem?_getD, List.getElem?_map, List.getElem?_range hj]
      rfl
    rw [e]
    exact (hz j hj).mono s5
  . have e : ((List.range fs.length).map T).getD j [] = T j := by
      rw [List.getD_eq_getElem?_getD, List.getElem?_map, List.getElem?_range hj]
      rfl
    rw [e, <- hL, Tco j hj i]
    omega
def M6 (fs : List (List Int)) : Nat -> Nat -> Int := fun c i => co (fs.getD c []) i
def Keeps (s : Nat) (B : List (List Int) -> Prop) : Prop := ∀ (f g t : List (List Int)) (u : List Int) (L β : Int), β ≠ 0 -> f.length = s -> g.length = s -> t.length = s -> B f -> B g -> (∀ c, c < s -> ∀ i, L * co (f.getD c []) i = β * co (t.getD c []) i + mu u (co (g.getD c [])) i) -> B t
def LrR (K : PySem.W.Frag) (p q : List Int) (s l b : Nat) (B : List (List Int) -> Prop) (Q : VK) (H : Hp) : Prop := ∀ (z : V) (H' : Hp) (hs : List (List Int)), Same H H' -> Rw K H' z hs (2 * l) ((b + 6) * (2 * l) + 1) -> hs.length = s -> Gc p q (pln (hs.getD 0 [])) -> B hs -> Q z H'
def Ajx (K : PySem.W.Frag) (cnd : Nat -> Nat -> Prop) : Sp := fun vs H Q _ => ∃ (x y : V) (fs gs : List (List Int)) (l b : Nat) (B : List (List Int) -> Prop), vs = [x, y] /\ Rw K H x fs l b /\ Rw K H y gs l b /\ gs.length = fs.length /\ 1 <= fs.length /\ fs.length <= 3 /\ l <= 30 /\ 1 <= l /\ 1 <= b /\ (4 * l + l * l) * (b + 6) + 4 * l + 10 <= 15000 /\ B fs /\ B gs /\ Keeps fs.length B /\ cnd (fs.getD 0 []).length (gs.getD 0 []).length /\ LrR K (fs.getD 0 []) (gs.getD 0 []) fs.length l b B Q H
def Vh (K : PySem.W.Frag) : Sp := Ajx K fun x y => y <= x
def Mw (K : PySem.W.Frag) : Sp := Ajx K fun _ _ => True
theorem RwV.weak {H : Hp} {vs : List V} {fs : List (List Int)} {l n l2 n2 : Nat} (h : RwV K H vs fs l n) (h1 : l <= l2) (h2 : n <= n2) : RwV K H vs fs l2 n2 := ⟨h.1, fun c hc => ⟨(h.2 c hc).1, (h.2 c hc).2.1, Nat.le_trans (h.2 c hc).2.2.1 h1, fun i => ((h.2 c hc).2.2.2 i).mono h2⟩⟩
theorem Rw.weak {H : Hp} {x : V} {fs : List (List Int)} {l n l2 n2 : Nat} (h : Rw K H x fs l n) (h1 : l <= l2) (h2 : n <= n2) : Rw K H x fs l2 n2 := by
  obtain ⟨a, vs, e, t, r⟩ := h
  exact ⟨a, vs, e, t, r.weak h1 h2⟩
theorem Rw.abs {H : Hp} {x : V} {fs : List (List Int)} {l n : Nat} (h : Rw K H x fs l n) (c i : Nat) : (M6 fs c i).natAbs <= 2 ^ n := by
  obtain ⟨a, vs, e, t, r⟩ := h
  unfold M6
  by_cases hc : c < fs.length
  . exact Nat.le_of_lt ((r.2 c hc).2.2.2 i)
  . rw [List.getD_eq_getElem?_getD, List.getElem?_eq_none (by omega)]
    show (co [] i).natAbs <= _
    rw [Ba]
    simp
theorem Rw.top {H : Hp} {x : V} {fs : List (List Int)} {l n : Nat} (h : Rw K H x fs l n) (c i : Nat) (hi : l <= i) : M6 fs c i = 0 := by
  obtain ⟨a, vs, e, t, r⟩ := h
  unfold M6
  by_cases hc : c < fs.length
  . exact Bp (Nat.le_trans (r.2 c hc).2.2.1 hi)
  . rw [List.getD_eq_getElem?_getD, List.getElem?_eq_none (by omega)]
    exact Ba i
theorem Rw.first {H : Hp} {x : V} {fs : List (List Int)} {l n : Nat} (h : Rw K H x fs l n) (h1 : 1 <= fs.length) : ∃ a vs, x = .ref a /\ SqT K H a vs /\ atI vs 0 = some (vs.getD 0 .non) /\ Po K H (vs.getD 0 .non) (fs.getD 0 []) l n := by
  obtain ⟨a, vs, e, t, r⟩ := h
  exact ⟨a, vs, e, t, getD_at (j := 0) (by have := r.1; omega), r.2 0 (by omega)⟩
theorem Uk (fs : List (List Int)) {n : Nat} (h : (fs.getD 0 []).length <= n) : Dg (M6 fs) n := fun i hi => Bp (by omega)
theorem Wr (u : List Int) (i : Nat) : mu u (co []) i = 0 := by
  have : mu u (fun _ => 0) i = 0 := congrFun (Q9 u) i
  rw [<- this]
  exact Hh (fun k => Ba k) u i
theorem T8 {fs : List (List Int)} {c : Nat} (h : fs.length <= c) : fs.getD c [] = [] := by
  rw [List.getD_eq_getElem?_getD, List.getElem?_eq_none h]
  rfl
theorem Ahy {f g t : List (List Int)} {u : List Int} {L β : Int} {s : Nat} (hf : f.length = s) (hg : g.length = s) (ht : t.length = s) (h : ∀ c, c < s -> ∀ i, L * co (f.getD c []) i = β * co (t.getD c []) i + mu u (co (g.getD c [])) i) (c i : Nat) : L * M6 f c i = β * M6 t c i + mu u (M6 g c) i := by
  by_cases hc : c < s
  . exact h c hc i
  . unfold M6
    rw [T8 (fs := f) (by omega), T8 (fs := t) (by omega), T8 (fs := g) (by omega), Ba, Wr]
    simp
theorem U8 {F1 F2 : Nat -> Nat -> Int} {n1 n2 : Nat} {f g : List (List Int)} {l h : Int} {s : Nat} (hf : f.length = s) (hg : g.length = s) (ch : Chn F1 n1 F2 n2 (M6 f) ((f.getD 0 []).length - 1) (M6 g) ((g.getD 0 []).length - 1) l h) (tg : Tr (g.getD 0 [])) (g2 : 2 <= (g.getD 0 []).length) (hle : (g.getD 0 []).length <= (f.getD 0 []).length) {u r : List Int}
    (he : ∀ k, co (g.getD 0 []) ((g.getD 0 []).length - 1) ^ ((f.getD 0 []).length - (g.getD 0 []).length + 1) * co (f.getD 0 []) k = mu u (co (g.getD 0 [])) k + co r k) (hr : r.length < (g.getD 0 []).length) (hu : u.length <= (f.getD 0 []).length - (g.getD 0 []).length + 1) :
    ∃ e, Sg e /\ ∀ c i, co (g.getD 0 []) ((g.getD 0 []).length - 1) ^ ((f.getD 0 []).length - (g.getD 0 []).length + 1) * M6 f c i - mu u (M6 g c) i = l * h ^ ((f.getD 0 []).length - (g.getD 0 []).length) * (e * Sr ((g.getD 0 []).length - 1 - 1) F1 n1 F2 n2 (c, i)) := by
  have ng : g.getD 0 [] ≠ [] := fun z => by rw [z] at g2; exact absurd g2 (by decide)
  have e0 : (f.getD 0 []).length - 1 - ((g.getD 0 []).length - 1) = (f.getD 0 []).length - (g.getD 0 []).length := by omega
  have z := ch.rest (R := fun c i => co (g.getD 0 []) ((g.getD 0 []).length - 1) ^ ((f.getD 0 []).length - (g.getD 0 []).length + 1) * M6 f c i - mu u (M6 g c) i) (q := u) (Uk g (by omega)) (fun i hi => by
      show _ * co (f.getD 0 []) i - mu u (co (g.getD 0 [])) i = 0
      rw [he, Bp (p := r) (by omega)]
      omega) (by omega) (by omega) (by omega) (tg.lead ng) (fun c i => by
      rw [e0]
      show co (g.getD 0 []) ((g.getD 0 []).length - 1) ^ _ * _ = _
      omega)
  rw [e0] at z
  exact z
theorem Wa {f : Addr} {fd : FuncData} (F : Df K mg "last_row" Mj ["first", "second"] f fd)   (c_degree : Cal P w K mg base 1 "degree" ["one"] (Hi K)) (c_next_row : Cal P w K mg base 6 "next_row" ["first", "second", "known"] (Mx K)) (c_whole_power : Cal P w K mg base 4 "whole_power" ["number", "many"] (Gi K)) : Qi P w K mg base CX0 7 f fd ["first", "second"] (Vh K) := by
  refine F.fn.ok Bo (fun vs H Q E h => ?_) (fun cdv A outer s H vs Q E hr h => ?_)
  . obtain ⟨x, y, fs, gs, _, _, _, rfl, _⟩ := h
    rfl
  obtain ⟨x, y, fs, gs, l, b, B, rfl, hx, hy, hgl, hf1, hf3, hl30, hl1, hb1, hcond, bf, bg, Kp, hcn, k⟩ := h
  obtain ⟨ax, vx, ex, tx, atx, hx0⟩ := hx.first (by omega)
  obtain ⟨ay, vy, ey, ty, aty, hy0⟩ := hy.first (by omega)
  refine S.Bm ⟨_, (S.Ac (S.Bv (S.Ah S6 (S.Ai c_degree (hr.mono (by decide)) (S.Aa (S.Bt Bu (S.pv 0) S.Ad (fun _ _ => rfl)) S.Ab)) (S.Ai c_degree (hr.mono (by decide)) (S.Aa (S.Bt Bu (S.pv 1) S.Ad (fun _ _ => rfl)) S.Ab)) (Ao _)) (S.Af S.Qc) S.Av)
      (S.Ac (S.Aj (i := 2) Bo.nd rfl (Or.inl rfl) S.Ad)
      (S.Ac (S.Aj (i := 3) Bo.nd rfl (Or.inl rfl) S.Ad)
      (S.Ac (S.Hu PassesOwn.never (S.Ah Ux (S.Ai c_degree (hr.mono (by decide)) (S.Aa (S.Bt Bu (S.pv 1) S.Ad (fun _ _ => rfl)) S.Ab)) S.Ad (Ao _)) (S.Ac (S.Aj (i := 4) Bo.nd rfl (Or.inl rfl) (S.Ak Et (S.Ai c_degree (hr.mono (by decide)) (S.Aa (S.Bt Bu (S.pv 0) S.Ad (fun _ _ => rfl)) S.Ab)) (S.Ai c_degree (hr.mono (by decide)) (S.Aa (S.Bt Bu (S.pv 1) S.Ad (fun _ _ => rfl)) S.Ab))))
      (S.Ac (S.Aj (i := 5) Bo.nd rfl (Or.inl rfl) (S.Ak Dy (S.pv 2) (S.Ai c_whole_power (hr.mono (by decide)) (S.Aa (S.pv 3) (S.Aa (S.pv 4) S.Ab)))))
      (S.Ac (S.Aj (i := 6) Bo.nd rfl (Or.inl rfl) (S.Ai c_next_row (hr.mono (by decide)) (S.Aa (S.pv 0) (S.Aa (S.pv 1) (S.Aa (S.pv 5) S.Ab)))))
      (S.Ac (S.Aj (i := 2) Bo.nd rfl (Or.inl rfl) (S.Bt Bu (S.Bt Bu (S.pv 1) S.Ad (fun _ _ => rfl)) (S.Eb Cd S.Ad) (fun _ _ => rfl)))
      (S.Ac (S.Bv (S.Ah Ux (S.pv 4) S.Ad (Ao _)) (S.Af (S.Aj (i := 3) Bo.nd rfl (Or.inl rfl) (S.Ak N7 (S.Ai c_whole_power (hr.mono (by decide)) (S.Aa (S.pv 2) (S.Aa (S.pv 4) S.Ab))) (S.Ai c_whole_power (hr.mono (by decide)) (S.Aa (S.pv 3) (S.Aa (S.Ak Et (S.pv 4) S.Ad) S.Ab)))))) S.Av)
      (S.Af (S.Mt (i := 0) (j := 1) rfl Bo.nd rfl rfl (by decide) rfl rfl (S.Aa (S.pv 1) (S.Aa (S.pv 6) S.Ab)) rfl))))))))
      (S.Af (S.Aq (S.N6 (S.Ah (Hj hr.units) (S.Bt Bu (S.pv 1) S.Ad (fun _ _ => rfl)) (S.Az S.Ab) (Ao _)) (S.pv 0) (S.pv 1)))))))), ?_⟩
  refine Bl (fun σ' H' => Same H H' /\ σ' = [some x, some y, none, none, none, none, none]) (fun N hN => ?_) ?_
  . contradiction
    rw [ex, ey] at hN ⊢
    refine Ei tx atx (Dk hx0 (Same.refl _) ?_)
    try contradiction
    refine Ei ty aty (Dk hy0 (Same.refl _) ?_)
    try contradiction
    rw [if_neg (by have : (gs.getD 0 []).length <= (fs.getD 0 []).length := hcn; omega)]
    exact hN _ _ ⟨Same.refl _, rfl⟩
  rintro σ H1 ⟨s1, rfl⟩
  clear ex ey tx ty
  obtain ⟨N, hN⟩ : ∃ N, N = (b + 6) * (2 * l) + 1 := ⟨_, rfl⟩
  have hNb : N <= 8000 := by
    have : (4 * l) * (b + 6) <= (4 * l + l * l) * (b + 6) := Nat.mul_le_mul_right _ (Nat.le_add_right _ _)
    have e : (4 * l) * (b + 6) = 2 * ((b + 6) * (2 * l)) := by grind
    omega
  have kb : ∀ x st : Nat, x <= (fs.getD 0 []).length - 1 -> st <= x -> N + st * ((b + 6) * ((fs.getD 0 []).length - 1 + ((gs.getD 0 []).length - 1) - 2 * x) + 1) + 3 <= 8000 := fun x st hx hst => by
    have lf := (hx0.2.2.1)
    have lg := (hy0.2.2.1)
    have z := Yz (l := l) (b := b) (n1 := (fs.getD 0 []).length - 1) (n2 := (gs.getD 0 []).length - 1) (x := x) (s := st) (by omega) (by omega) hx hst
    have e : (4 * l + l * l) * (b + 6) = 2 * ((b + 6) * (2 * l)) + l * l * (b + 6) := by grind
    omega
  have LB : b <= N := by
    have : (b + 6) * 1 <= (b + 6) * (2 * l) := Nat.mul_le_mul_left _ (by omega)
    omega
  refine Bl (fun σ' H' => H1 = H' /\ σ' = [some x, some y, some (.int 1), none, none, none, none]) (fun N hN => ?_) ?_
  . contradiction
    exact hN _ _ ⟨rfl, rfl⟩
  rintro σ H2 ⟨rfl, rfl⟩
  refine Bl (fun σ' H' => H1 = H' /\ σ' = [some x, some y, some (.int 1), some (.int 1), none, none, none]) (fun N hN => ?_) ?_
  . contradiction
    exact hN _ _ ⟨rfl, rfl⟩
  rintro σ H2 ⟨rfl, rfl⟩
  refine Bl (fun σ' H' => Same H1 H' /\ ∃ (v w : V) (f g : List (List Int)) (o2 o3 o4 o5 o6 : Option V), σ' = [some v, some w, o2, o3, o4, o5, o6] /\ Rw K H' v f (2 * l) N /\ Rw K H' w g (2 * l) N /\ f.length = fs.length /\ g.length = fs.length /\ (g.getD 0 []).length < 2 /\ O5 (f.getD 0 []) (g.getD 0 []) (fs.getD 0 []) (gs.getD 0 []) /\ B f /\ B g) (fun M hM => ?_) ?_
  . contradiction
    refine W0 (fun m σ' H' => Same H1 H' /\ ∃ (v w : V) (f g : List (List Int)) (ld ht : Int) (o4 o5 o6 : Option V), σ' = [some v, some w, some (.int ld), some (.int ht), o4, o5, o6] /\ m = (g.getD 0 []).length /\ Rw K H' v f (2 * l) N /\ Rw K H' w g (2 * l) N /\ f.length = fs.length /\ g.length = fs.length /\ (g.getD 0 []).length <= (f.getD 0 []).length /\ (f.getD 0 []).length <= (fs.getD 0 []).length /\ (g.getD 0 []).length <= (gs.getD 0 []).length /\ ld ≠ 0 /\ Sz N ld /\ ht ≠ 0 /\ Sz ((b + 6) * ((fs.getD 0 []).length - 1 + ((gs.getD 0 []).length - 1) - 2 * ((f.getD 0 []).length - 1)) + 1) ht /\
        (g.getD 0 [] ≠ [] -> Chn (M6 fs) ((fs.getD 0 []).length - 1) (M6 gs) ((gs.getD 0 []).length - 1) (M6 f) ((f.getD 0 []).length - 1) (M6 g) ((g.getD 0 []).length - 1) ld ht) /\ O5 (f.getD 0 []) (g.getD 0 []) (fs.getD 0 []) (gs.getD 0 []) /\ B f /\ B g) _
      ⟨Same.refl _, x, y, fs, gs, 1, 1, _, _, _, rfl, rfl, (hx.mono s1).weak (by omega) LB, (hy.mono s1).weak (by omega) LB, rfl, hgl, hcn, Nat.le_refl _, Nat.le_refl _, by decide, (show Sz 1 (1 : Int) by unfold Sz; decide).mono (by omega), by decide, (show Sz 1 (1 : Int) by unfold Sz; decide).mono (by omega), fun _ => Chn.start _ _ _ _, O5.refl _ _, bf, bg⟩ ?_
    rintro m σ' H3 ⟨s3, v, w, f, g, ld, ht, o4, o5, o6, rfl, rfl, iv, iw, lf, lg, hle, hfl, hgle, ld0, zld, ht0, zht, ch, sm, Bf, Bg⟩
    obtain ⟨av, vv, rfl, tv, atv, pv0⟩ := iv.first (by omega)
    obtain ⟨aw, vw, rfl, tw, atw, pw0⟩ := iw.first (by omega)
    contradiction
    refine Ei tw atw (Dk pw0 (Same.refl _) ?_)
    try contradiction
    by_cases hg2 : (0 : Int) < ((g.getD 0 []).length : Int) - 1
    case neg =>
      rw [if_neg hg2]
      exact hM _ _ ⟨s3, _, _, f, g, _, _, _, _, _, rfl, iv, iw, lf, lg, by omega, sm, Bf, Bg⟩
    rw [if_pos hg2]
    have g2 : 2 <= (g.getD 0 []).length := by omega
    have gn : g.getD 0 [] ≠ [] := fun z => by rw [z] at g2; exact absurd g2 (by decide)
    replace ch := ch gn
    obtain ⟨δ, hδ⟩ : ∃ δ, δ = (f.getD 0 []).length - (g.getD 0 []).length := ⟨_, rfl⟩
    obtain ⟨lg0, hlg0⟩ : ∃ x, x = co (g.getD 0 []) ((g.getD 0 []).length - 1) := ⟨_, rfl⟩
    have lgn : lg0 ≠ 0 := by rw [hlg0]; exact pw0.2.1.lead gn
    have lfl := hx0.2.2.1
    have bits := kb ((f.getD 0 []).length - 1) δ (by omega) (by omega)
    have pz := Xw zht δ
    have bz : Sz 8000 (ld * ht ^ δ) := (zld.mul pz).mono (by
      rw [Nat.mul_comm _ δ]
      omega)
    have bne : ld * ht ^ δ ≠ 0 := Int.mul_ne_zero ld0 (Nq ht0 _)
    have hbz : (b + 6) * ((fs.getD 0 []).length - 1 + ((gs.getD 0 []).length - 1) - 2 * ((f.getD 0 []).length - 1)) <= (b + 6) * (2 * l) := Nat.mul_le_mul_left _ (by have := hy0.2.2.1; omega)
    refine Afv ?_
    refine Bl (fun σ' H' => H' = H3 /\ σ' = [some (.ref av), some (.ref aw), some (.int ld), some (.int ht), some (.int (δ : Nat)), o5, o6]) (fun N hN => ?_) ?_
    . contradiction
      refine Ei tv atv (Dk pv0 (Same.refl _) ?_)
      try contradiction
      refine Ei tw atw (Dk pw0 (Same.refl _) ?_)
      try contradiction
      have e : ((f.getD 0 []).length : Int) - 1 - (((g.getD 0 []).length : Int) - 1) = (δ : Nat) := by omega
      rw [e]
      exact hN _ _ ⟨rfl, rfl⟩
    rintro σ' H4 ⟨rfl, rfl⟩
    refine Bl (fun σ' H' => Same H4 H' /\ σ' = [some (.ref av), some (.ref aw), some (.int ld), some (.int ht), some (.int (δ : Nat)), some (.int (ld * ht ^ δ)), o6]) (fun M' hM' => ?_) ?_
    . contradiction
      refine Yj rfl ht0 zht (by omega) (by omega) fun H' s' => ?_
      try contradiction
      exact ⟨zld.mulOk pz (by rw [Nat.mul_comm _ δ]; omega), hM' _ _ ⟨s', rfl⟩⟩
    rintro σ' H5 ⟨s5, rfl⟩
    refine Bl (fun σ' H' => Same H4 H' /\ ∃ (t : V) (ts : List (List Int)) (u r : List Int) (e : Int), σ' = [some (.ref av), some (.ref aw), some (.int ld), some (.int ht), some (.int (δ : Nat)), some (.int (ld * ht ^ δ)), some t] /\ Rw K H' t ts (2 * l) N /\ ts.length = fs.length /\ (ts.getD 0 []).length < (g.getD 0 []).length /\ u.length <= δ + 1 /\ (∀ c, c < fs.length -> ∀ i, lg0 ^ (δ + 1) * co (f.getD c []) i = ld * ht ^ δ * co (ts.getD c []) i + mu u (co (g.getD c [])) i)) (fun M' hM' => ?_) ?_
    . contradiction
      refine ⟨_, _, _, f, g, 2 * l, N, rfl, iv.mono s5, iw.mono s5, by omega, by omega, by omega, by omega, hNb, gn, hle, by omega, bne, bz, fun u r he hr hu c hc i => ?_, fun z H6 ts u r s6 iz lz he hr hu hco => ?_⟩
      . obtain ⟨e, _, hex⟩ := U8 lf lg ch pw0.2.1 g2 hle he hr hu
        have := hex c i
        unfold M6 at this
        rw [this, <- hδ]
        exact ⟨_, rfl⟩
      . obtain ⟨e, hse, hex⟩ := U8 lf lg ch pw0.2.1 g2 hle he hr hu
        rw [<- hδ, <- hlg0] at hex hco
        have Tv : ∀ c, c < fs.length -> ∀ i, co (ts.getD c []) i = e * Sr ((g.getD 0 []).length - 1 - 1) (M6 fs) ((fs.getD 0 []).length - 1) (M6 gs) ((gs.getD 0 []).length - 1) (c, i) := fun c hc i => by
          have h1 : lg0 ^ (δ + 1) * co (f.getD c []) i - mu u (co (g.getD c [])) i = _ := hex c i
          have h2 := hco c (by omega) i
          refine Int.eq_of_mul_eq_mul_left bne (Eq.trans ?_ h1)
          omega
        have ab : ∀ c i, (Sr ((g.getD 0 []).length - 1 - 1) (M6 fs) ((fs.getD 0 []).length - 1) (M6 gs) ((gs.getD 0 []).length - 1) (c, i)).natAbs <= 2 ^ ((b + 6) * (2 * l)) := fun c i => by
          have hlg' := hy0.2.2.1
          refine Nat.le_trans (Aej hx.abs hy.abs (by omega) (by omega) (by omega) (c, i)) (Nat.pow_le_pow_right (by decide) (Nat.mul_le_mul_left _ (by omega)))
        obtain ⟨az, vz, rfl, tz, lvz, pz'⟩ := iz
        refine hM' _ _ ⟨s5.trans s6, _, ts, u, r, e, rfl, ⟨az, vz, rfl, tz, lvz, fun c hc => ?_⟩, by omega, ?_, by omega, fun c hc i => hco c (by omega) i⟩
        . have hp := pz' c hc
          refine ⟨hp.1, hp.2.1, ?_, fun i => ?_⟩
          . have h := hp.2.1.len (q := (ts.getD c []).take (2 * l)) fun i => by
              rw [Kc]
              split
              . rfl
              . rw [Tv c (by omega), Ag2 (l := l) hx.top hy.top (by have := hx0.2.2.1; omega) (by have := hy0.2.2.1; omega) c i (by omega), Int.mul_zero]
            rw [List.length_take] at h
            omega
          . rw [Tv c (by omega)]
            unfold Sz
            rw [Int.natAbs_mul]
            have : e.natAbs = 1 := by rcases hse with rfl | rfl <;> rfl
            rw [this, Nat.one_mul, hN]
            exact Nat.lt_of_le_of_lt (ab c i) (Nat.pow_lt_pow_right (by decide) (by omega))
        . have hp := (pz' 0 (by omega)).2.1
          have h := hp.len (q := (ts.getD 0 []).take r.length) fun i => by
            rw [Kc]
            split
            . rfl
            . have h1 := hco 0 (by omega) i
              have h2 := he i
              rw [<- hδ, <- hlg0, Bp (p := r) (by omega)] at h2
              have : ld * ht ^ δ * co (ts.getD 0 []) i = 0 := by omega
              rcases Int.mul_eq_zero.mp this with z | z
              . exact absurd z bne
              . exact z
          rw [List.length_take] at h
          omega
    rintro σ' H6 ⟨s6, t, ts, u, r, e, rfl, it, lt, hlt, hu, hco⟩
    refine Bl (fun σ' H' => H' = H6 /\ σ' = [some (.ref av), some (.ref aw), some (.int lg0), some (.int ht), some (.int (δ : Nat)), some (.int (ld * ht ^ δ)), some t]) (fun M' hM' => ?_) ?_
    . contradiction
      obtain ⟨⟨b0, eb0, hb0⟩, _⟩ := id pw0
      refine Ei (s6.tup tw) atw ?_
      rw [eb0]
      refine Ei (s6.tup hb0) (Ii gn) ?_
      try contradiction
      rw [<- hlg0]
      exact hM' _ _ ⟨rfl, rfl⟩
    rintro σ' H7 ⟨rfl, rfl⟩
    have zlg : Sz N lg0 := by rw [hlg0]; exact pw0.2.2.2 _
    refine Bl (fun σ' H' => Same H7 H' /\ ∃ h' : Int, σ' = [some (.ref av), some (.ref aw), some (.int lg0), some (.int h'), some (.int (δ : Nat)), some (.int (ld * ht ^ δ)), some t] /\ h' ≠ 0 /\ Sz ((b + 6) * ((fs.getD 0 []).length - 1 + ((gs.getD 0 []).length - 1) - 2 * ((g.getD 0 []).length - 1)) + 1) h' /\ (((f.getD 0 []).length - 1 = (g.getD 0 []).length - 1 /\ h' = ht) \/ ((g.getD 0 []).length - 1 < (f.getD 0 []).length - 1 /\ ht ^ ((f.getD 0 []).length - 1 - ((g.getD 0 []).length - 1) - 1) * h' = lg0 ^ ((f.getD 0 []).length - 1 - ((g.getD 0 []).length - 1))))) (fun M' hM' => ?_) ?_
    . contradiction
      by_cases hd0 : (0 : Int) < (δ : Nat)
      . rw [if_pos hd0]
        obtain ⟨e2, he2, hh⟩ := ch.height (Uk g (by omega)) (by omega)
        have hlt' := hy0.2.2.1
        have hz' : Sz ((b + 6) * ((fs.getD 0 []).length - 1 + ((gs.getD 0 []).length - 1) - 2 * ((g.getD 0 []).length - 1)) + 1) (e2 * Sr ((g.getD 0 []).length - 1) (M6 fs) ((fs.getD 0 []).length - 1) (M6 gs) ((gs.getD 0 []).length - 1) (0, (g.getD 0 []).length - 1)) := by
          unfold Sz
          rw [Int.natAbs_mul]
          have : e2.natAbs = 1 := by rcases he2 with rfl | rfl <;> rfl
          rw [this, Nat.one_mul]
          exact Nat.lt_of_le_of_lt (Aej hx.abs hy.abs (by omega) (by omega) (by omega) _) (Nat.pow_lt_pow_right (by decide) (by omega))
        generalize e2 * Sr ((g.getD 0 []).length - 1) (M6 fs) ((fs.getD 0 []).length - 1) (M6 gs) ((gs.getD 0 []).length - 1) (0, (g.getD 0 []).length - 1) = h' at *
        have hh' : ht ^ ((f.getD 0 []).length - 1 - ((g.getD 0 []).length - 1) - 1) * h' = lg0 ^ ((f.getD 0 []).length - 1 - ((g.getD 0 []).length - 1)) := by rw [hlg0]; exact hh
        have ed : (f.getD 0 []).length - 1 - ((g.getD 0 []).length - 1) = δ := by omega
        have h'n : h' ≠ 0 := fun z => by
          rw [z, Int.mul_zero] at hh'
          exact Nq lgn _ hh'.symm
        have pz1 := Xw zht (δ - 1)
        have hpn := Nq ht0 (δ - 1)
        have pb : (δ - 1) * ((b + 6) * ((fs.getD 0 []).length - 1 + ((gs.getD 0 []).length - 1) - 2 * ((f.getD 0 []).length - 1)) + 1) <= δ * ((b + 6) * ((fs.getD 0 []).length - 1 + ((gs.getD 0 []).length - 1) - 2 * ((f.getD 0 []).length - 1)) + 1) := Nat.mul_le_mul_right _ (by omega)
        refine Yj rfl lgn zlg (by omega) (by omega) fun Ha sa => ?_
        try contradiction
        refine Yj (m := δ - 1) (by omega) ht0 zht (by omega) (by omega) fun Hb sb => ?_
        try contradiction
        refine ⟨⟨hpn, pz1.log2 hpn (by rw [Nat.mul_comm _ (δ - 1)]; omega)⟩, ?_⟩
        have ef : (lg0 ^ δ).fdiv (ht ^ (δ - 1)) = h' := by
          rw [ed] at hh'
          rw [<- hh', Int.mul_fdiv_cancel_left _ hpn]
        rw [ef]
        exact hM' _ _ ⟨sa.trans sb, h', rfl, h'n, hz', .inr ⟨by omega, hh'⟩⟩
      . rw [if_neg hd0]
        have el : (f.getD 0 []).length = (g.getD 0 []).length := by omega
        refine hM' _ _ ⟨Same.refl _, ht, rfl, ht0, ?_, .inl ⟨by omega, rfl⟩⟩
        rw [<- el]
        exact zht
    rintro σ' H8 ⟨s8, h', rfl, h'n, zh', hh⟩
    contradiction
    refine ⟨(ts.getD 0 []).length, hlt, s3.trans (s6.trans s8), .ref aw, t, g, ts, lg0, h', _, _, _, rfl, rfl, iw.mono (s6.trans s8), it.mono s8, lg, lt, by omega, by omega, by omega, lgn, zlg, h'n, zh', fun tn => ?_, ?_, Bg, ?_⟩
    . have := ch.next (T := M6 ts) (k := (ts.getD 0 []).length - 1) (q := u) (h' := h') (Uk g (by omega)) (Uk ts (by omega)) (by omega) (by omega) (by have := List.length_pos_iff.mpr tn; omega) (by show co (g.getD 0 []) _ ≠ 0; rw [<- hlg0]; exact lgn) ld0 ht0 (fun c i => ?_) (by
        rcases hh with z | z
        . exact .inl z
        . exact .inr ⟨z.1, by show _ = co (g.getD 0 []) _ ^ _; rw [<- hlg0]; exact z.2⟩)
      . show Chn _ _ _ _ (M6 g) _ (M6 ts) _ lg0 h'
        rw [hlg0]
        exact this
      . have ed : (f.getD 0 []).length - 1 - ((g.getD 0 []).length - 1) = δ := by omega
        rw [ed]
        show co (g.getD 0 []) _ ^ _ * _ = _
        rw [<- hlg0]
        exact Ahy lf lg lt hco c i
    . refine O5.trans (Y7 (Nq lgn (δ + 1)) bne (hco 0 (by omega))) sm
    . exact Kp f g ts u _ _ bne lf lg lt Bf Bg hco
  rintro σ H3 ⟨s3, v, w, f, g, o2, o3, o4, o5, o6, rfl, iv, iw, lf, lg, hg2, sm, Bf, Bg⟩
  obtain ⟨av, vv, rfl, tv, atv, pv0⟩ := iv.first (by omega)
  obtain ⟨aw, vw, rfl, tw, atw, pw0⟩ := iw.first (by omega)
  rw [hN] at iv iw
  contradiction
  refine Ei tw atw ?_
  try contradiction
  refine ⟨by decide, fun e0 he0 => ?_⟩
  have se := Same.upd he0 (.tup [])
  obtain ⟨⟨b0, eb0, hb0⟩, tg0, _, _⟩ := id pw0
  rw [eb0]
  refine Bx (ms := []) (se.tup hb0) (.of Ae) ?_
  try contradiction
  by_cases hg : g.getD 0 [] = []
  . rw [if_pos hg]
    rw [hg] at sm
    exact k _ _ f ((s1.trans s3).trans se) (iv.mono se) lf (Ahn pv0.2.1 sm) Bf
  . rw [if_neg hg]
    have gl1 : (g.getD 0 []).length = 1 := by
      have := List.length_pos_iff.mpr hg
      omega
    obtain ⟨c, hc⟩ : ∃ c, g.getD 0 [] = [c] := by
      match hm : g.getD 0 [], gl1 with
      | [c], _ => exact ⟨c, rfl⟩
    have c0 : c ≠ 0 := by
      have := tg0.lead hg
      rw [hc] at this
      exact this
    rw [hc] at sm
    exact k _ _ g ((s1.trans s3).trans se) (iw.mono se) lg (by rw [hc]; exact Adc c0 sm) Bg
theorem Afp {k : Nat} {f : Addr} {fd : FuncData} {ps : List Str} {s1 s2 s3 : Sp} (a : Qi P w K mg base CX0 k f fd ps s1) (b : Qi P w K mg base CX0 k f fd ps s2) (h : ∀ vs H Q E, s3 vs H Q E -> s1 vs H Q E \/ s2 vs H Q E) : Qi P w K mg base CX0 k f fd ps s3 :=
  ⟨fun vs H Q E q => (h _ _ _ _ q).elim (a.len vs H Q E) (b.len vs H Q E), fun A outer s H args us vs Q E hr he hb hv hs => (h _ _ _ _ hs).elim (a.run A outer s H args us vs Q E hr he hb hv) (b.run A outer s H args us vs Q E hr he hb hv)⟩
theorem Wq {f : Addr} {fd : FuncData} (F : Df K mg "last_row" Mj ["first", "second"] f fd)   (c_degree : Cal P w K mg base 1 "degree" ["one"] (Hi K)) (c_next_row : Cal P w K mg base 6 "next_row" ["first", "second", "known"] (Mx K)) (c_whole_power : Cal P w K mg base 4 "whole_power" ["number", "many"] (Gi K)) : Cal P w K mg base 8 "last_row" ["first", "second"] (Mw K) := by
  have fo := Wa (P := P) (w := w) (base := base) F (c_degree := c_degree) (c_whole_power := c_whole_power) (c_next_row := c_next_row)
  have c_last_row := F.cal fo
  refine F.cal (Afp (s2 := Ajx K fun x y => x < y) (fo.mono (by decide)) (F.fn.ok Bo (fun vs H Q E h => ?_) (fun cdv A outer s H vs Q E hr h => ?_)) fun vs H Q E h => ?_)
  . obtain ⟨x, y, fs, gs, _, _, _, rfl, _⟩ := h
    rfl
  . obtain ⟨x, y, fs, gs, l, b, B, rfl, hx, hy, hgl, hf1, hf3, hl30, hl1, hb1, hcond, bf, bg, Kp, hcn, k⟩ := h
    obtain ⟨ax, vx, ex, tx, atx, hx0⟩ := hx.first (by omega)
    obtain ⟨ay, vy, ey, ty, aty, hy0⟩ := hy.first (by omega)
    refine S.Bm ⟨_, (S.Ac (S.Bv (S.Ah S6 (S.Ai c_degree (hr.mono (by decide)) (S.Aa (S.Bt Bu (S.pv 0) S.Ad (fun _ _ => rfl)) S.Ab)) (S.Ai c_degree (hr.mono (by decide)) (S.Aa (S.Bt Bu (S.pv 1) S.Ad (fun _ _ => rfl)) S.Ab)) (Ao _)) (S.Af (S.Aq (S.Ai c_last_row (hr.mono (by decide)) (S.Aa (S.pv 1) (S.Aa (S.pv 0) S.Ab))))) S.Av)
      (S.Ac (S.Aj (i := 2) Bo.nd rfl (Or.inl rfl) S.Ad)
      (S.Ac (S.Aj (i := 3) Bo.nd rfl (Or.inl rfl) S.Ad)
      (S.Ac (S.Hu PassesOwn.never (S.Ah Ux (S.Ai c_degree (hr.mono (by decide)) (S.Aa (S.Bt Bu (S.pv 1) S.Ad (fun _ _ => rfl)) S.Ab)) S.Ad (Ao _)) (S.Ac (S.Aj (i := 4) Bo.nd rfl (Or.inl rfl) (S.Ak Et (S.Ai c_degree (hr.mono (by decide)) (S.Aa (S.Bt Bu (S.pv 0) S.Ad (fun _ _ => rfl)) S.Ab)) (S.Ai c_degree (hr.mono (by decide)) (S.Aa (S.Bt Bu (S.pv 1) S.Ad (fun _ _ => rfl)) S.Ab))))
      (S.Ac (S.Aj (i := 5) Bo.nd rfl (Or.inl rfl) (S.Ak Dy (S.pv 2) (S.Ai c_whole_power (hr.mono (by decide)) (S.Aa (S.pv 3) (S.Aa (S.pv 4) S.Ab)))))
      (S.Ac (S.Aj (i := 6) Bo.nd rfl (Or.inl rfl) (S.Ai c_next_row (hr.mono (by decide)) (S.Aa (S.pv 0) (S.Aa (S.pv 1) (S.Aa (S.pv 5) S.Ab)))))
      (S.Ac (S.Aj (i := 2) Bo.nd rfl (Or.inl rfl) (S.Bt Bu (S.Bt Bu (S.pv 1) S.Ad (fun _ _ => rfl)) (S.Eb Cd S.Ad) (fun _ _ => rfl)))
      (S.Ac (S.Bv (S.Ah Ux (S.pv 4) S.Ad (Ao _)) (S.Af (S.Aj (i := 3) Bo.nd rfl (Or.inl rfl) (S.Ak N7 (S.Ai c_whole_power (hr.mono (by decide)) (S.Aa (S.pv 2) (S.Aa (S.pv 4) S.Ab))) (S.Ai c_whole_power (hr.mono (by decide)) (S.Aa (S.pv 3) (S.Aa (S.Ak Et (S.pv 4) S.Ad) S.Ab)))))) S.Av)
      (S.Af (S.Mt (i := 0) (j := 1) rfl Bo.nd rfl rfl (by decide) rfl rfl (S.Aa (S.pv 1) (S.Aa (S.pv 6) S.Ab)) rfl))))))))
      (S.Af (S.Aq (S.N6 (S.Ah (Hj hr.units) (S.Bt Bu (S.pv 1) S.Ad (fun _ _ => rfl)) (S.Az S.Ab) (Ao _)) (S.pv 0) (S.pv 1)))))))), ?_⟩
    contradiction
    rw [ex, ey]
    refine Ei tx atx (Dk hx0 (Same.refl _) ?_)
    try contradiction
    refine Ei ty aty (Dk hy0 (Same.refl _) ?_)
    try contradiction
    rw [if_pos (by omega), <- ex, <- ey]
    exact ⟨y, x, gs, fs, l, b, B, rfl, hy, hx, by omega, by omega, by omega, hl30, hl1, hb1, hcond, bg, bf, by rw [hgl]; exact Kp, by show (fs.getD 0 []).length <= _; omega, fun z H' hs s' iz lz gc Bh => k z H' hs s' iz (by omega) gc.symm Bh⟩
  . obtain ⟨x, y, fs, gs, l, b, B, e, hx, hy, hgl, hf1, hf3, hl30, hl1, hb1, hcond, bf, bg, Kp, _, k⟩ := h
    by_cases hcn : (gs.getD 0 []).length <= (fs.getD 0 []).length
    . exact .inl ⟨x, y, fs, gs, l, b, B, e, hx, hy, hgl, hf1, hf3, hl30, hl1, hb1, hcond, bf, bg, Kp, hcn, k⟩
    . exact .inr ⟨x, y, fs, gs, l, b, B, e, hx, hy, hgl, hf1, hf3, hl30, hl1, hb1, hcond, bf, bg, Kp, by omega, k⟩
theorem Aeu {H : Hp} {a : Addr} {v : V} {p : List Int} {l n : Nat} (h : SqT K H a [v]) (hp : Po K H v p l n) : Rw K H (.ref a) [p] l n := ⟨a, [v], rfl, h, rfl, fun c hc => by
  have : c = 0 := by simpa using hc
  subst this
  exact hp⟩
def Few (l b : Nat) : Prop := l <= 30 /\ 1 <= l /\ 1 <= b /\ (4 * l + l * l) * (b + 6) + 4 * l + 10 <= 15000
theorem Few.bits {l b : Nat} (h : Few l b) : (b + 6) * (2 * l) + 1 <= 8000 := by
  obtain ⟨_, _, _, h⟩ := h
  have : (4 * l) * (b + 6) <= (4 * l + l * l) * (b + 6) := Nat.mul_le_mul_right _ (Nat.le_add_right _ _)
  have e : (4 * l) * (b + 6) = 2 * ((b + 6) * (2 * l)) := by grind
  omega
def Q0 (K : PySem.W.Frag) : Sp := fun vs H Q _ => ∃ (x y : V) (p q : List Int) (l b : Nat), vs = [x, y] /\ Po K H x p l b /\ Po K H y q l b /\ Few l b /\ ∀ z H' g, Same H H' -> Po K H' z g (2 * l) ((b + 6) * (2 * l) + 1) -> Gc p q g -> Q z H'
theorem Ach {f : Addr} {fd : FuncData} (F : Df K mg "shared" Uz ["one", "other"] f fd)   (c_surely_apart : Cal P w K mg base 6 "surely_apart" ["one", "other"] (Lx K)) (c_plain : Cal P w K mg base 5 "plain" ["one"] (Qg K)) (c_last_row : Cal P w K mg base 8 "last_row" ["first", "second"] (Mw K)) : Cal P w K mg base 9 "shared" ["one", "other"] (Q0 K) := by
  refine F.cal (F.fn.ok Zv (fun vs H Q E h => ?_) (fun cdv A outer s H vs Q E hr h => ?_))
  . obtain ⟨x, y, p, q, _, _, rfl, _⟩ := h
    rfl
  obtain ⟨x, y, p, q, l, b, rfl, hx, hy, few, k⟩ := h
  have fb := few.bits
  obtain ⟨f1, f2, f3, f4⟩ := few
  refine S.Bm ⟨_, (S.Ac (S.Bv (S.G9 (S.Ai c_surely_apart (hr.mono (by decide)) (S.Aa (S.pv 0) (S.Aa (S.pv 1) S.Ab)))) (S.Af (S.Aq (S.Az (S.Aa S.Ad S.Ab)))) S.Av)
      (S.Af (S.Aq (S.Ai c_plain (hr.mono (by decide)) (S.Aa (S.Bt Bu (S.Ai c_last_row (hr.mono (by decide)) (S.Aa (S.Az (S.Aa (S.pv 0) S.Ab)) (S.Aa (S.Az (S.Aa (S.pv 1) S.Ab)) S.Ab))) S.Ad (fun _ _ => rfl)) S.Ab))))), ?_⟩
  contradiction
  refine ⟨x, y, p, q, l, l, b, b, rfl, hx, hy, by omega, by omega, fun bb H1 s1 hb => ?_⟩
  try contradiction
  split
  . rename_i h
    intro z hz
    have sz := Same.upd hz (.tup [V.int 1])
    refine k _ _ [1] (s1.trans sz) ⟨⟨z, rfl, .of Ae⟩, .inr ⟨by simp, by decide⟩, by simp; omega, fun i => Sv (by omega) (fun x hx => by
      have : x = 1 := by simpa using hx
      subst this
      exact (show Sz 1 (1 : Int) by unfold Sz; decide).mono (by omega)) i⟩ (hb h)
  . (intro q1 hq1; generalize eq1 : upd _ q1 _ = Gq1; obtain ⟨sq1, gq1⟩ := nw hq1 eq1; clear eq1 hq1)
    (intro q2 hq2; generalize eq2 : upd _ q2 _ = Gq2; obtain ⟨sq2, gq2⟩ := nw hq2 eq2; clear eq2 hq2)
    have s2 := (s1.trans sq1).trans sq2
    refine ⟨_, _, [p], [q], l, b, fun _ => True, rfl, Aeu (.of (sq2 _ _ gq1)) (hx.mono s2), Aeu (.of gq2) (hy.mono s2), rfl, Nat.le_refl 1, show 1 <= 3 by decide, f1, f2, f3, f4, trivial, trivial, fun _ _ _ _ _ _ _ _ _ _ _ _ _ => trivial, trivial, fun z H' hs s' iz lz gc _ => ?_⟩
    obtain ⟨az, vz, rfl, tz, atz, pz⟩ := iz.first (by rw [lz]; exact Nat.le_refl 1)
    refine Ei tz atz ?_
    try contradiction
    exact Abd pz (Same.refl _) (by omega) fb fun w H2 s3 iw => k w H2 _ ((s2.trans s').trans s3) iw gc
theorem Adm {H H1 H2 : Hp} {Q : VK} {E : XK} {x y : V} {p q : List Int} {l b : Nat} (hx : Po K H1 x p l b) (s1 : Same H1 H) (hy : Po K H2 y q l b) (s2 : Same H2 H) (f : Few l b) (h : ∀ z H' g, Same H H' -> Po K H' z g (2 * l) ((b + 6) * (2 * l) + 1) -> Gc p q g -> Q z H') : Q0 K [x, y] H Q E := ⟨x, y, p, q, l, b, rfl, hx.mono s1, hy.mono s2, f, h⟩
theorem Ae8 {f g t u : List Int} {L β : Int} (h : ∀ i, L * co f i = β * co t i + mu u (co g) i) (x : Nat -> Int) (i : Nat) : L * mu f x i = β * mu t x i + mu u (mu g x) i := by
  rw [<- K3 L f x i, <- K3 β t x i, <- Lj]
  have e : mu (f.map (L * ·)) x i = mu (al (t.map (β * ·)) (ml u g)) x i := congrFun (Bq x _ _ fun k => by rw [Ck, Ph, Ck, Ov, h]) i
  rw [e, Pq]
def Made (p q : List Int) (f : List (List Int)) : Prop := ∀ i, co (f.getD 0 []) i = mu (f.getD 1 []) (co p) i + mu (f.getD 2 []) (co q) i
theorem Zh (p q : List Int) : Keeps 3 (Made p q) := by
  intro f g t u L β hβ _ _ _ hf hg h i
  have h0 := h 0 (by decide) i
  have h1 := Ae8 (h 1 (by decide)) (co p) i
  have h2 := Ae8 (h 2 (by decide)) (co q) i
  have e : mu u (co (g.getD 0 [])) i = mu u (mu (g.getD 1 []) (co p)) i + mu u (mu (g.getD 2 []) (co q)) i := by
    rw [Hh hg u i]
    exact congrFun (Ny u (mu (g.getD 1 []) (co p)) (mu (g.getD 2 []) (co q))) i
  refine Int.eq_of_mul_eq_mul_left hβ ?_
  have h3 := hf i
  have h4 : L * co (f.getD 0 []) i = L * mu (f.getD 1 []) (co p) i + L * mu (f.getD 2 []) (co q) i := by rw [h3, Int.mul_add]
  rw [Int.mul_add]
  omega
theorem Aj9 (p : List Int) (i : Nat) : mu [1] (co p) i = co p i := by rw [Aiv]; omega
theorem Adx (p q : List Int) : Made p q [p, [1], []] := fun i => by
  show co p i = mu [1] (co p) i + mu [] (co q) i
  rw [Aj9]
  show co p i = co p i + 0
  omega
theorem Ad8 (p q : List Int) : Made p q [q, [], [1]] := fun i => by
  show co q i = mu [] (co p) i + mu [1] (co q) i
  rw [Aj9]
  show co q i = 0 + co q i
  omega
theorem Yp {H : Hp} {a : Addr} {v0 v1 v2 : V} {f0 f1 f2 : List Int} {l n : Nat} (h : SqT K H a [v0, v1, v2]) (h0 : Po K H v0 f0 l n) (h1 : Po K H v1 f1 l n) (h2 : Po K H v2 f2 l n) : Rw K H (.ref a) [f0, f1, f2] l n := ⟨a, [v0, v1, v2], rfl, h, rfl, fun c hc => by
  have : c = 0 \/ c = 1 \/ c = 2 := by
    have : c < 3 := hc
    omega
  rcases this with rfl | rfl | rfl
  . exact h0
  . exact h1
  . exact h2⟩
theorem Wg {H : Hp} {z : Addr} {l n : Nat} (h : H z = some (.tup [])) (hn : 1 <= n) : Po K H (.ref z) [] l n := ⟨⟨z, rfl, .of h⟩, .inl rfl, Nat.zero_le _, fun i => by rw [Ba]; exact (show Sz 1 (0 : Int) by unfold Sz; decide).mono hn⟩
theorem Ael {H : Hp} {z : Addr} {l n : Nat} (h : H z = some (.tup [V.int 1])) (hl : 1 <= l) (hn : 1 <= n) : Po K H (.ref z) [1] l n := ⟨⟨z, rfl, .of h⟩, .inr ⟨by simp, by decide⟩, by simpa using hl, fun i => Sv (by omega) (fun x hx => by
  have : x = 1 := by simpa using hx
  subst this
  exact (show Sz 1 (1 : Int) by unfold Sz; decide).mono hn) i⟩
theorem Aio {p : List Int} (h : p ≠ []) : pln p ≠ [] := fun z => by
  have := M4 p
  rw [z, List.length_nil] at this
  exact h (List.eq_nil_of_length_eq_zero this.symm)
structure Pap (p q g u v a b : List Int) (c : Int) : Prop where
  gc : Gc p q g
  one : ∀ i, co p i = mu u (co g) i
  two : ∀ i, co q i = mu v (co g) i
  cn : c ≠ 0
  sum : ∀ i, mu a (co p) i + mu b (co q) i = c * co g i
def Lr (K : PySem.W.Frag) : Sp := fun vs H Q _ => ∃ (x y : V) (p q : List Int) (l n : Nat), vs = [x, y] /\ Po K H x p l n /\ Po K H y q l n /\ Few l n /\ ∀ (z : Addr) (H' : Hp) (vg vu vv va vb : V) (c : Int) (g u v a b : List Int), Same H H' -> SqT K H' z [vg, vu, vv, va, vb, .int c] -> Po K H' vg g (2 * l) ((n + 6) * (2 * l) + 1) -> Po K H' vu u 60 BIG -> Po K H' vv v 60 BIG -> Po K H' va a (2 * l) ((n + 6) * (2 * l) + 1) -> Po K H' vb b (2 * l) ((n + 6) * (2 * l) + 1) -> Sz ((n + 6) * (2 * l) + 1) c -> Pap p q g u v a b c -> Q (.ref z) H'
theorem Qx {f : Addr} {fd : FuncData} (F : Df K mg "shared_paper" Jx ["one", "other"] f fd)   (c_last_row : Cal P w K mg base 8 "last_row" ["first", "second"] (Mw K)) (c_plain : Cal P w K mg base 5 "plain" ["one"] (Qg K)) (c_whole_part : Cal P w K mg base 3 "whole_part" ["one", "other"] (Nt K)) (c_unit : Cal P w K mg base 4 "unit" ["one"] (Xb K)) : Cal P w K mg base 9 "shared_paper" ["one", "other"] (Lr K) := by
  refine F.cal (F.fn.ok En (fun vs H Q E h => ?_) (fun cdv A outer s H vs Q E hr h => ?_))
  . obtain ⟨x, y, p, q, _, _, rfl, _⟩ := h
    rfl
  obtain ⟨x, y, p, q, l, n, rfl, hx, hy, few, k⟩ := h
  have fb := few.bits
  have bigE := Tg
  obtain ⟨f1, f2, f3, f4⟩ := few
  have fnb : n <= (n + 6) * (2 * l) := by
    have : (n + 6) * 1 <= (n + 6) * (2 * l) := Nat.mul_le_mul_left _ (by omega)
    omega
  refine S.Bm ⟨_, (S.Ac (S.El (S.Ai c_last_row (hr.mono (by decide)) (S.Aa (S.Az (S.Aa (S.pv 0) (S.Aa (S.Az (S.Aa S.Ad S.Ab)) (S.Aa (S.Az S.Ab) S.Ab)))) (S.Aa (S.Az (S.Aa (S.pv 1) (S.Aa (S.Az S.Ab) (S.Aa (S.Az (S.Aa S.Ad S.Ab)) S.Ab)))) S.Ab))) (S.Gz rfl (S.Ar (S.Am (i := 3) En.nd rfl (Or.inl rfl)) (S.Ar (S.Am (i := 4) En.nd rfl (Or.inl rfl)) (S.Ar (S.Am (i := 5) En.nd rfl (Or.inl rfl)) S.Ed)))))
      (S.Ac (S.Bv (S.Ah (Hj hr.units) (S.pv 3) (S.Az S.Ab) (Ao _)) (S.Af (S.Aq (S.Az (S.Aa (S.Az S.Ab) (S.Aa (S.Az S.Ab) (S.Aa (S.Az S.Ab) (S.Aa (S.pv 4) (S.Aa (S.pv 5) (S.Aa S.Ad S.Ab))))))))) S.Av)
      (S.Ac (S.Aj (i := 2) En.nd rfl (Or.inl rfl) (S.Ai c_plain (hr.mono (by decide)) (S.Aa (S.pv 3) S.Ab)))
      (S.Af (S.Aq (S.Az (S.Aa (S.pv 2) (S.Aa (S.Ai c_whole_part (hr.mono (by decide)) (S.Aa (S.pv 0) (S.Aa (S.pv 2) S.Ab))) (S.Aa (S.Ai c_whole_part (hr.mono (by decide)) (S.Aa (S.pv 1) (S.Aa (S.pv 2) S.Ab))) (S.Aa (S.pv 4) (S.Aa (S.pv 5) (S.Aa (S.Ai c_unit (hr.mono (by decide)) (S.Aa (S.pv 3) S.Ab)) S.Ab)))))))))))), ?_⟩
  refine Bl (fun σ' H' => Same H H' /\ ∃ (vh va vb : V) (h a b : List Int), σ' = [some x, some y, none, some vh, some va, some vb] /\ Po K H' vh h (2 * l) ((n + 6) * (2 * l) + 1) /\ Po K H' va a (2 * l) ((n + 6) * (2 * l) + 1) /\ Po K H' vb b (2 * l) ((n + 6) * (2 * l) + 1) /\ Gc p q (pln h) /\ ∀ i, co h i = mu a (co p) i + mu b (co q) i) (fun N hN => ?_) ?_
  . contradiction
    (intro q1 hq1; generalize eq1 : upd _ q1 _ = Gq1; obtain ⟨sq1, gq1⟩ := nw hq1 eq1; clear eq1 hq1)
    refine ⟨by decide, ?_⟩
    (intro q2 hq2; generalize eq2 : upd _ q2 _ = Gq2; obtain ⟨sq2, gq2⟩ := nw hq2 eq2; clear eq2 hq2)
    refine ⟨by decide, ?_⟩
    (intro q3 hq3; generalize eq3 : upd _ q3 _ = Gq3; obtain ⟨sq3, gq3⟩ := nw hq3 eq3; clear eq3 hq3)
    refine ⟨by decide, ?_⟩
    (intro q4 hq4; generalize eq4 : upd _ q4 _ = Gq4; obtain ⟨sq4, gq4⟩ := nw hq4 eq4; clear eq4 hq4)
    (intro q5 hq5; generalize eq5 : upd _ q5 _ = Gq5; obtain ⟨sq5, gq5⟩ := nw hq5 eq5; clear eq5 hq5)
    refine ⟨by decide, ?_⟩
    (intro q6 hq6; generalize eq6 : upd _ q6 _ = Gq6; obtain ⟨sq6, gq6⟩ := nw hq6 eq6; clear eq6 hq6)
    have t2 := ((sq3.trans sq4).trans sq5).trans sq6
    have tt := (sq1.trans sq2).trans t2
    refine ⟨_, _, [p, [1], []], [q, [], [1]], l, n, Made p q, rfl, Yp (.of (((sq4.trans sq5).trans sq6) _ _ gq3)) (hx.mono tt) (Ael ((sq2.trans t2) _ _ gq1) f2 f3) (Wg (t2 _ _ gq2) f3), Yp (.of gq6) (hy.mono tt) (Wg ((sq5.trans sq6) _ _ gq4) f3) (Ael (sq6 _ _ gq5) f2 f3), rfl, show 1 <= 3 by decide, Nat.le_refl 3, f1, f2, f3, f4, Adx p q, Ad8 p q, Zh p q, trivial, fun z H' hs s' iz lz gc mk => ?_⟩
    obtain ⟨az, vz, rfl, tz, lv, pz⟩ := iz
    match hs, lz with
    | [h, a, b], _ =>
      match vz, lv with
      | [vh, va, vb], _ =>
        refine ⟨az, _, rfl, tz, rfl, vh, _, rfl, va, _, rfl, vb, _, rfl, rfl, ?_⟩
        exact hN _ _ ⟨tt.trans s', vh, va, vb, h, a, b, rfl, pz 0 (by simp), pz 1 (by simp), pz 2 (by simp), gc, mk⟩
  rintro σ H1 ⟨s1, vh, va, vb, h, a, b, rfl, ih, ia, ib, gc, mk⟩
  contradiction
  refine ⟨by decide, fun e0 he0 => ?_⟩
  have se := Same.upd he0 (.tup [])
  obtain ⟨⟨dh, rfl, hdh⟩, th, lh, zh⟩ := id ih
  refine Bx (ms := []) (se.tup hdh) (.of Ae) ?_
  try contradiction
  by_cases h0 : h = []
  . rw [if_pos h0]
    subst h0
    have hp : p = [] := Dv.zero hx.2.1 gc.one
    have hq : q = [] := Dv.zero hy.2.1 gc.two
    subst hp hq
    refine ⟨by decide, ?_⟩
    (intro q1 hq1; generalize eq1 : upd _ q1 _ = Gq1; obtain ⟨sq1, gq1⟩ := nw hq1 eq1; clear eq1 hq1)
    refine ⟨by decide, ?_⟩
    (intro q2 hq2; generalize eq2 : upd _ q2 _ = Gq2; obtain ⟨sq2, gq2⟩ := nw hq2 eq2; clear eq2 hq2)
    refine ⟨by decide, ?_⟩
    (intro q3 hq3; generalize eq3 : upd _ q3 _ = Gq3; obtain ⟨sq3, gq3⟩ := nw hq3 eq3; clear eq3 hq3)
    refine ⟨by decide, fun z hz => ?_⟩
    have sz := Same.upd hz (.tup [V.ref q1, V.ref q2, V.ref q3, va, vb, V.int 1])
    have st := (((se.trans sq1).trans sq2).trans sq3).trans sz
    refine k z _ (.ref q1) (.ref q2) (.ref q3) va vb 1 [] [] [] a b (s1.trans st) (.of Ae) (Wg (((sq2.trans sq3).trans sz) _ _ gq1) (by omega)) (Wg ((sq3.trans sz) _ _ gq2) (by omega)) (Wg (sz _ _ gq3) (by omega)) (ia.mono st) (ib.mono st) ((show Sz 1 (1 : Int) by unfold Sz; decide).mono (by omega)) ⟨gc, fun i => by rw [Ba]; rfl, fun i => by rw [Ba]; rfl, by decide, fun i => by rw [Wr, Wr, Ba]; rfl⟩
  rw [if_neg h0]
  refine Abd ih se (by omega) fb fun vg H2 s2 ig => ?_
  try contradiction
  have gn := Aio h0
  have pe := Iu th h0
  have tg := Ls th
  have s12 := (s1.trans se).trans s2
  refine ⟨x, vg, p, pln h, l, 2 * l, n, _, rfl, hx.mono s12, ig, by omega, by omega, by omega, fb, gn, fun ne => absurd (Iz tg gn pe gc.one) ne, fun vu H3 u s3 iu hu => ?_⟩
  try contradiction
  have s13 := s12.trans s3
  refine ⟨y, vg, q, pln h, l, 2 * l, n, _, rfl, hy.mono s13, ig.mono s3, by omega, by omega, by omega, fb, gn, fun ne => absurd (Iz tg gn pe gc.two) ne, fun vv H4 v s4 iv hv => ?_⟩
  try contradiction
  have t4 := ((se.trans s2).trans s3).trans s4
  refine ⟨dh, h, rfl, t4.tup hdh, fun H5 s5 => ?_⟩
  try contradiction
  refine ⟨by decide, fun z hz => ?_⟩
  have sz := Same.upd hz (.tup [vg, vu, vv, va, vb, V.int (un h)])
  have st := (t4.trans s5).trans sz
  refine k z _ vg vu vv va vb (un h) (pln h) u v a b (s1.trans st) (.of Ae) (ig.mono (((s3.trans s4).trans s5).trans sz)) (iu.mono ((s4.trans s5).trans sz)) (iv.mono (s5.trans sz)) (ia.mono st) (ib.mono st) (Ah2 th h0 (zh _)) ⟨gc, hu, hv, R5 th h0, fun i => ?_⟩
  rw [<- mk, Ma th h0]
inductive Wh (K : PySem.W.Frag) (H : Hp) : V -> Bool -> Prop where
  | int (i : Int) : Wh K H (.int i) true
  | bl (b : Bool) : Wh K H (.bl b) false
  | non : Wh K H .non false
  | str (x : Str) : Wh K H (.str x) false
  | tup {a : Addr} {xs : List V} (e : H a = some (.tup xs)) : Wh K H (.ref a) false
  | lst {a : Addr} {xs : List V} (e : H a = some (.lst xs)) : Wh K H (.ref a) false
def Ako (K : PySem.W.Frag) : Sp := fun vs H Q _ => ∃ v b, vs = [v] /\ Wh K H v b /\ Q (.bl b) H
theorem isi {H : Hp} {GB : Bool -> Prop} {v : V} {t : Value} {T : String} {b : Bool} (ht : V7 K H v t) (hk : PySem.W.kitOne K t (.type T) = some b) (q : GB b) :
    ∃ x t' T' b', [v, V.ty T] = [x, V.ty T'] /\ V7 K H x t' /\ PySem.W.kitOne K t' (.type T') = some b' /\ GB b' := ⟨v, t, T, b, rfl, ht, hk, q⟩
theorem Y8 {T U : String} {b : Bool} (h : (if (Value.type T == Value.type U) = true then some true else if PySem.W.kitMeta U = true then PySem.W.subIn [] (.type T) (.type U) else none) = some b) : PySem.W.kitOne K (.type T) (.type U) = some b := h
theorem Z4 : PySem.W.kitOne K (.type "int") (.type "int") = some true := Y8 (by decide +kernel)
theorem Aa3 : PySem.W.kitOne K (.type "int") (.type "bool") = some false := Y8 (by decide +kernel)
theorem Aaq : PySem.W.kitOne K (.type "bool") (.type "int") = some true := Y8 (by decide +kernel)
theorem Xq : PySem.W.kitOne K (.type "bool") (.type "bool") = some true := Y8 (by decide +kernel)
theorem Aei : PySem.W.kitOne K (.type "NoneType") (.type "int") = some false := Y8 (by decide +kernel)
theorem Aic : PySem.W.kitOne K (.type "str") (.type "int") = some false := Y8 (by decide +kernel)
theorem Ah4 : PySem.W.kitOne K (.type "tuple") (.type "int") = some false := Y8 (by decide +kernel)
theorem Aha : PySem.W.kitOne K (.type "list") (.type "int") = some false := Y8 (by decide +kernel)
def Mv (K : PySem.W.Frag) : Sp := Ako K
theorem Xa {f : Addr} {fd : FuncData} (F : Df K mg "is_whole" Og ["thing"] f fd) (z_isinstance : mg "isinstance" = none) (z_int : mg "int" = none) (z_bool : mg "bool" = none)   : Cal P w K mg base 1 "is_whole" ["thing"] (Mv K) := by
  refine F.cal (F.fn.ok Xd (fun vs H Q E h => ?_) (fun cdv A outer s H vs Q E hr h => ?_))
  . obtain ⟨v, b, rfl, _⟩ := h
    rfl
  obtain ⟨v, b, rfl, hv, q⟩ := h
  refine S.Bm ⟨_, (S.Af (S.Aq (S.U5 (S.Dj Lb rfl z_isinstance PyProof.Rows.boot_isinstance (S.Aa (S.pv 0) (S.Aa (S.Hg (v := .ty "int") rfl z_int PyProof.Rows.boot_int rfl) S.Ab))) (S.Tc (S.Abb (S.Dj Lb rfl z_isinstance PyProof.Rows.boot_isinstance (S.Aa (S.pv 0) (S.Aa (S.Hg (v := .ty "bool") rfl z_bool PyProof.Rows.boot_bool rfl) S.Ab)))))))), ?_⟩
  contradiction
  cases hv with
  | int i =>
    refine isi (.int i) Z4 ?_
    contradiction
    refine isi (.int i) Aa3 ?_
    contradiction
    exact q
  | bl b =>
    refine isi (.bl b) Aaq ?_
    contradiction
    refine isi (.bl b) Xq ?_
    contradiction
    exact q
  | non =>
    refine isi .non Aei ?_
    contradiction
    exact q
  | str x =>
    refine isi (.str x) Aic ?_
    contradiction
    exact q
  | tup e =>
    refine isi (.tup e) Ah4 ?_
    contradiction
    exact q
  | lst e =>
    refine isi (.lst e) Aha ?_
    contradiction
    exact q
inductive Th (K : PySem.W.Frag) (H : Hp) : V -> Bool -> Prop where
  | nums {a : Addr} {ns : List Int} (h : SqT K H a (ns.map V.int)) (hl : ns.length <= 1000) : Th K H (.ref a) (decide (trim ns = ns))
  | bad {a : Addr} {es : List (V × Bool)} (h : SqT K H a (es.map (·.1))) (hl : es.length <= 1000) (hw : ∀ e ∈ es, Wh K H e.1 e.2) (hb : (es.map (·.2)).all id = false) : Th K H (.ref a) false
  | int (i : Int) : Th K H (.int i) false
  | non : Th K H .non false
  | str (x : Str) : Th K H (.str x) false
  | lst {a : Addr} {xs : List V} (e : H a = some (.lst xs)) : Th K H (.ref a) false
def Akk (K : PySem.W.Frag) : Sp := fun vs H Q _ => ∃ v b, vs = [v] /\ Th K H v b /\ ∀ H', Same H H' -> Q (.bl b) H'
theorem Wh.mono {H H' : Hp} {v : V} {b : Bool} (h : Wh K H v b) (s : Same H H') : Wh K H' v b := by
  cases h with
  | int i => exact .int i
  | bl b => exact .bl b
  | non => exact .non
  | str x => exact .str x
  | tup e => exact .tup (s _ _ e)
  | lst e => exact .lst (s _ _ e)
theorem Th.mono {H H' : Hp} {v : V} {b : Bool} (h : Th K H v b) (s : Same H H') : Th K H' v b := by
  cases h with
  | nums h hl => exact .nums (s.tup h) hl
  | bad h hl hw hb => exact .bad (s.tup h) hl (fun e he => (hw e he).mono s) hb
  | int i => exact .int i
  | non => exact .non
  | str x => exact .str x
  | lst e => exact .lst (s _ _ e)
theorem Ae5 : PySem.W.kitOne K (.type "int") (.type "tuple") = some false := Y8 (by decide +kernel)
theorem Aav : PySem.W.kitOne K (.type "NoneType") (.type "tuple") = some false := Y8 (by decide +kernel)
theorem Z8 : PySem.W.kitOne K (.type "str") (.type "tuple") = some false := Y8 (by decide +kernel)
theorem Abt : PySem.W.kitOne K (.type "list") (.type "tuple") = some false := Y8 (by decide +kernel)
theorem Qp : PySem.W.kitOne K (.type "tuple") (.type "tuple") = some true := Y8 (by decide +kernel)
inductive TyA (K : PySem.W.Frag) (H : Hp) : V -> Value -> Prop where
  | of {v : V} {t : Value} (h : V7 K H v t) : TyA K H v t
  | tup {a : Addr} {xs : List V} (h : SqT K H a xs) : TyA K H (.ref a) (.type "tuple")
theorem Ua {X : Cx} : Kg X (.builtin "isinstance") (fun xs H Q => ∃ x t T b, xs = [x, .ty T] /\ TyA X.K H x t /\ PySem.W.kitOne X.K t (.type T) = some b /\ Q (.bl b) H) := by
  intro pins s σ H xs us Q I r h
  obtain ⟨x, t, T, b, rfl, ht, hk, q⟩ := h
  cases ht with
  | of ht => exact Lb pins s σ H _ us Q I r ⟨x, t, T, b, rfl, ht, hk, q⟩
  | tup hs => exact Ac8 pins s σ H _ us Q I r ⟨_, _, T, b, rfl, hs, hk, q⟩
theorem isa {H : Hp} {GB : Bool -> Prop} {v : V} {t : Value} {T : String} {b : Bool} (ht : TyA K H v t) (hk : PySem.W.kitOne K t (.type T) = some b) (q : GB b) :
    ∃ x t' T' b', [v, V.ty T] = [x, V.ty T'] /\ TyA K H x t' /\ PySem.W.kitOne K t' (.type T') = some b' /\ GB b' := ⟨v, t, T, b, rfl, ht, hk, q⟩
theorem Vk {ini : List Int} {d : Int} : (trim (ini ++ [d]) = ini ++ [d]) = (d ≠ 0) := by
  refine propext ⟨fun h hd => ?_, fun h => Qy (.inr ⟨by simp, by rw [List.getLast_concat]; exact h⟩)⟩
  have := Bb (ini ++ [d])
  rw [h] at this
  have z := this.lead (by simp)
  rw [List.length_append, List.length_singleton, Nat.add_sub_cancel, Ke, if_pos rfl] at z
  exact z hd
def Oi (K : PySem.W.Frag) : Sp := Akk K
theorem Zk {f : Addr} {fd : FuncData} (F : Df K mg "is_poly" Nx ["thing"] f fd) (z_isinstance : mg "isinstance" = none) (z_tuple : mg "tuple" = none) (z_all : mg "all" = none) (z_len : mg "len" = none)  (c_is_whole : Cal P w K mg base 1 "is_whole" ["thing"] (Mv K)) : Cal P w K mg base 2 "is_poly" ["thing"] (Oi K) := by
  refine F.cal (F.fn.ok Yq (fun vs H Q E h => ?_) (fun cdv A outer s H vs Q E hr h => ?_))
  . obtain ⟨v, b, rfl, _⟩ := h
    rfl
  obtain ⟨v, b, rfl, hv, k⟩ := h
  refine S.Bm ⟨_, (S.Ac (S.Bv (S.Li (S.Jf (S.Jk (S.G9 (S.Dj Ua rfl z_isinstance PyProof.Rows.boot_isinstance (S.Aa (S.pv 0) (S.Aa (S.Hg (v := .ty "tuple") rfl z_tuple PyProof.Rows.boot_tuple rfl) S.Ab))))) (S.Ig (S.Jk (S.G9 (S.Dj (Xz rfl) rfl z_all PyProof.Rows.boot_all (S.Aa (S.Jg (ts := ["weight"]) (fs := []) rfl (Cu.of (sc := Ag Nx) (N := ["thing"]) rfl rfl (by decide +kernel)) (S.Ln (S.pv 0)) (fun _ _ _ => (S.Am (i := 0) (show List.Nodup (["weight"] : List Str) by decide +kernel) rfl (Or.inl rfl))) (fun _ _ _ => S.J4) (fun _ _ _ => (S.Ai c_is_whole (hr.mono (by decide)) (S.Aa (S.pv 0) S.Ab)))) S.Ab))))))) (S.Af (S.Aq S.Ia)) S.Av)
      (S.Af (S.Aq (S.Adl (S.Il Jd (S.Dj Bc rfl z_len PySem.boot_len (S.Aa (S.pv 0) S.Ab)) S.Ad (Ao _)) (S.Tc (S.Il Oe (S.Bt Bu (S.pv 0) (S.Eb Cd S.Ad) (fun _ _ => rfl)) S.Ad (Ao _))))))), ?_⟩
  contradiction
  cases hv with
  | int i =>
    refine isa (.of (.int i)) Ae5 ?_
    try contradiction
    exact k _ (Same.refl _)
  | non =>
    refine isa (.of .non) Aav ?_
    try contradiction
    exact k _ (Same.refl _)
  | str x =>
    refine isa (.of (.str x)) Z8 ?_
    try contradiction
    exact k _ (Same.refl _)
  | lst e =>
    refine isa (.of (.lst e)) Abt ?_
    try contradiction
    exact k _ (Same.refl _)
  | @bad a es h hl hw hb =>
    refine isa (.tup h) Qp ?_
    try contradiction
    refine ⟨⟨_, h⟩, fun p1 hp1 => Jy (es := es) (inj := (·.1)) (fun e => .bl e.2) (Nat.le_trans hl (by decide)) hp1 (Ly h) ?_ ?_⟩
    . intro e H2 R he s2 hR
      contradiction
      exact ⟨_, _, rfl, (hw e he).mono s2, hR _ (Same.refl _)⟩
    intro H2 s2 h2
    have em : es.map (fun e => V.bl e.2) = (es.map (·.2)).map V.bl := by rw [List.map_map]; rfl
    rw [em] at h2
    try contradiction
    refine ⟨p1, _, rfl, .of h2, ?_⟩
    rw [hb]
    try contradiction
    exact k _ s2
  | @nums a ns h hl =>
    refine isa (.tup h) Qp ?_
    try contradiction
    refine ⟨⟨_, h⟩, fun p1 hp1 => Jy (es := ns) (inj := V.int) (fun _ => .bl true) (Nat.le_trans hl (by decide)) hp1 (Ly h) ?_ ?_⟩
    . intro e H2 R he s2 hR
      contradiction
      exact ⟨_, _, rfl, .int e, hR _ (Same.refl _)⟩
    intro H2 s2 h2
    have em : ns.map (fun _ => V.bl true) = (ns.map fun _ => true).map V.bl := by rw [List.map_map]; rfl
    rw [em] at h2
    have ea : (ns.map fun _ => true).all id = true := by simp
    try contradiction
    refine ⟨p1, _, rfl, .of h2, ?_⟩
    rw [ea]
    try contradiction
    refine ⟨a, _, rfl, .inr (s2.tup h), ?_⟩
    rw [List.length_map]
    by_cases h0 : ns = []
    . rw [if_pos (by rw [h0]; rfl)]
      have e : decide (trim ns = ns) = true := decide_eq_true (by rw [h0]; rfl)
      rw [e] at k
      exact k _ s2
    . have hl0 : ¬ ((ns.length : Nat) : Int) = 0 := by
        have := List.length_pos_iff.mpr h0
        omega
      rw [if_neg hl0]
      obtain ⟨ini, d, rfl⟩ : ∃ (i : List Int) (x : Int), ns = i ++ [x] := ⟨_, _, (List.dropLast_concat_getLast h0).symm⟩
      have em2 : (ini ++ [d]).map V.int = ini.map V.int ++ [V.int d] := by rw [List.map_append]; rfl
      refine Ei (s2.tup h) (v := .int d) (by rw [em2]; exact Ur _ _) ?_
      try contradiction
      have e : decide (trim (ini ++ [d]) = ini ++ [d]) = !decide (d = 0) := by
        by_cases hd : d = 0 <;> simp [Vk, hd]
      rw [e] at k
      exact k _ s2
theorem Yl {H : Hp} {Q : VK} {E : XK} {v : V} {b : Bool} (hv : Th K H v b) (h : ∀ H', Same H H' -> Q (.bl b) H') : Oi K [v] H Q E := ⟨v, b, rfl, hv, h⟩
def hpw (T B : List Int) : Bool := decide (B ≠ []) && (decide (0 < co B (B.length - 1)) && decide (gl (T ++ B) = 1))
def Im (K : PySem.W.Frag) : Sp := fun vs H Q _ => ∃ (a b : Addr) (T B : List Int), vs = [.ref a, .ref b] /\ SqT K H a (T.map V.int) /\ SqT K H b (B.map V.int) /\ T.length + B.length <= 1000 /\ ∀ H', Same H H' -> Q (.bl (hpw T B)) H'
theorem Mq {f : Addr} {fd : FuncData} (F : Df K mg "has_plain_weights" Gw ["top", "bottom"] f fd)   (c_divisor_of : Cal P w K mg base 2 "divisor_of" ["some"] (Iv K)) : Cal P w K mg base 3 "has_plain_weights" ["top", "bottom"] (Im K) := by
  refine F.cal (F.fn.ok Ms (fun vs H Q E h => ?_) (fun cdv A outer s H vs Q E hr h => ?_))
  . obtain ⟨a, b, _, _, rfl, _⟩ := h
    rfl
  obtain ⟨a, b, T, B, rfl, ha, hb, hl, k⟩ := h
  refine S.Bm ⟨_, (S.Af (S.Aq (S.U5 (S.Il (Tn hr.units) (S.pv 1) (S.Az S.Ab) (Ao _)) (S.U5 (S.Il Ux (S.Bt Bu (S.pv 1) (S.Eb Cd S.Ad) (fun _ _ => rfl)) S.Ad (Ao _)) (S.Tc (S.Il Jd (S.Ai c_divisor_of (hr.mono (by decide)) (S.Aa (S.Ak Uj (S.pv 0) (S.pv 1)) S.Ab)) S.Ad (Ao _))))))), ?_⟩
  contradiction
  refine ⟨by decide, fun e0 he0 => ?_⟩
  have se := Same.upd he0 (.tup [])
  refine Bx (ms := []) (se.tup hb) (.of Ae) ?_
  unfold hpw at k
  by_cases h0 : B = []
  . rw [decide_eq_true h0]
    rw [decide_eq_false (fun z : B ≠ [] => z h0)] at k
    try contradiction
    exact k _ se
  rw [decide_eq_false h0]
  rw [decide_eq_true (show B ≠ [] from h0)] at k
  try contradiction
  refine Ei (se.tup hb) (Ii h0) ?_
  try contradiction
  by_cases h1 : 0 < co B (B.length - 1)
  case neg =>
    rw [if_neg h1]
    rw [decide_eq_false h1] at k
    exact k _ se
  rw [if_pos h1]
  rw [decide_eq_true h1] at k
  refine ⟨a, b, _, _, rfl, rfl, se.tup ha, se.tup hb, by rw [List.length_map, List.length_map]; exact Nat.le_trans hl (by decide), fun z H1 s1 hz => ?_⟩
  try contradiction
  refine ⟨z, T ++ B, rfl, by rw [List.map_append]; exact hz, ?_⟩
  try contradiction
  rw [show decide (((gl (T ++ B) : Nat) : Int) = 1) = decide (gl (T ++ B) = 1) from decide_eq_decide.mpr ⟨fun h => by omega, fun h => by omega⟩]
  exact k _ (se.trans s1)
def QfR (K : PySem.W.Frag) (p q : List Int) (l n : Nat) (Q : VK) (H : Hp) : Prop := ∀ (z : Addr) (H' : Hp) (vT vB : V) (T B : List Int), Same H H' -> SqT K H' z [vT, vB] -> Po K H' vT T l n -> Po K H' vB B l n -> QF p q T B -> Q (.ref z) H'
def Yo (K : PySem.W.Frag) : Sp := fun vs H Q E => ∃ (x y : V) (p q : List Int) (l b : Nat), vs = [x, y] /\ Po K H x p l b /\ Po K H y q l b /\ Few l b /\ l <= 8 /\ b <= 8000 /\ (q = [] -> ∀ H', Same H H' -> E (.ref (cA K "NoPart")) none H') /\ (q ≠ [] -> QfR K p q l (b + 81) Q H)
def Xi (K : PySem.W.Frag) : Sp := fun vs H Q _ => ∃ (x y : V) (p q : List Int) (l b : Nat), vs = [x, y] /\ Po K H x p l b /\ Po K H y q l b /\ Few l b /\ l <= 8 /\ b <= 8000 /\ q ≠ [] /\ QfR K p q l (b + 81) Q H
theorem Abl (K : PySem.W.Frag) : ∀ vs H Q E, Xi K vs H Q E -> Yo K vs H Q E0 := by
  rintro vs H Q E ⟨x, y, p, q, l, b, rfl, hx, hy, f, h1, h2, hq, k⟩
  exact ⟨x, y, p, q, l, b, rfl, hx, hy, f, h1, h2, fun z => (hq z).elim, fun _ => k⟩
theorem Aea {p T S : List Int} (tT : Tr T) (tp : Tr p) (np : p ≠ []) (h : ∀ i, co p i = mu S (co T) i) : T.length <= p.length := by
  have d : Dv T p := ⟨1, S, by decide, fun i => by rw [<- h]; omega⟩
  exact (d.len tT tp np).2
theorem Aak {H : Hp} {v : V} {a : Addr} {p T S : List Int} {l b : Nat} (hp : Tr p) (lp : p.length <= l) (l8 : l <= 8) (zp : ∀ i, Sz b (co p i)) (h : ∀ i, co p i = mu S (co T) i) (tT : Tr T) (n0 : p = [] -> T = []) (e : v = .ref a) (ha : SqT K H a (T.map V.int)) : Po K H v T l (b + 81) := by
  by_cases hp0 : p = []
  . have := n0 hp0
    subst this
    exact ⟨⟨a, e, ha⟩, tT, Nat.zero_le _, fun i => by rw [Ba]; exact Sz0 (by omega)⟩
  . have ll := Aea tT hp hp0 h
    refine ⟨⟨a, e, ha⟩, tT, by omega, fun i => ?_⟩
    have := Agl (n := b) h ⟨p.length - 1, hp.lead hp0⟩ (fun i => Nat.le_of_lt (zp i)) (by omega) ll i
    unfold Sz
    exact Nat.lt_of_le_of_lt this (Nat.pow_lt_pow_right (by decide) (by omega))
theorem Agf {p q : List Int} (tp : Tr p) (tq : Tr q) (np : p ≠ []) (nq : q ≠ []) : co (tm p q) ((tm p q).length - 1) = co p (p.length - 1) * co q (q.length - 1) := by
  have l := Nz tp tq np nq
  have h1 := List.length_pos_iff.mpr np
  have h2 := List.length_pos_iff.mpr nq
  rw [Cj, show (tm p q).length - 1 = p.length + q.length - 2 by omega]
  exact K9 _ q _ np nq (by omega)
theorem Akj (a b : List Int) (i : Nat) : ((gl (a ++ b) : Nat) : Int) ∣ co a i := by
  by_cases h : i < a.length
  . rw [Dc h]
    exact Vp _ _ (List.mem_append_left _ (List.getElem_mem h))
  . rw [Bp (by omega)]
    exact Int.dvd_zero _
theorem Ai5 (a b : List Int) (i : Nat) : ((gl (a ++ b) : Nat) : Int) ∣ co b i := by
  by_cases h : i < b.length
  . rw [Dc h]
    exact Vp _ _ (List.mem_append_right _ (List.getElem_mem h))
  . rw [Bp (by omega)]
    exact Int.dvd_zero _
theorem Aaf {p top g T : List Int} {n : Int} (h : ∀ k, co p k = mu top (co g) k) (hT : ∀ i, n * co T i = co top i) (i : Nat) : co p i = mu (g.map (n * ·)) (co T) i := by
  rw [h, Ik, K3, Hh (g := fun j => n * co T j) (fun j => (hT j).symm) g i]
  have e := congrFun (Ik (T.map (n * ·)) g) i
  rw [K3] at e
  rw [<- congrFun (Ik T g) i, e]
  exact (Hh (fun j => Ck n T j) g i).symm
theorem Ahr {n c d : Int} (h : n * c = d) (h1 : d < 0 -> n < 0) (h2 : 0 < d -> 0 < n) (h0 : d ≠ 0) : 0 < c := by
  refine Classical.byContradiction fun z => ?_
  rcases Int.lt_or_gt_of_ne h0 with q | q
  . have := Int.mul_nonneg_of_nonpos_of_nonpos (Int.le_of_lt (h1 q)) (show c <= 0 by omega)
    omega
  . have := Int.mul_nonneg (Int.le_of_lt (h2 q)) (show 0 <= -c by omega)
    rw [Int.mul_neg] at this
    omega
theorem Ait {p q g top bot : List Int} {n : Int} {b : Nat} (tp : Tr p) (tq : Tr q) (nq : q ≠ []) (gc : Gc p q g) (tt : Tr top) (tb : Tr bot) (et : ∀ k, co p k = mu top (co g) k) (eb : ∀ k, co q k = mu bot (co g) k) (zq : ∀ i, Sz b (co q i)) (hn : n = if co bot (bot.length - 1) < 0 then -((gl (top ++ bot) : Nat) : Int) else ((gl (top ++ bot) : Nat) : Int)) :
    n ≠ 0 /\ Sz b n /\ bot ≠ [] /\ QF p q (top.map fun x => x.fdiv n) (bot.map fun x => x.fdiv n) /\ (∀ i, co p i = mu (g.map (n * ·)) (co (top.map fun x => x.fdiv n)) i) /\ (∀ i, co q i = mu (g.map (n * ·)) (co (bot.map fun x => x.fdiv n)) i) /\ (p = [] -> top = []) := by
  have ng : g ≠ [] := (gc.two.len gc.tr tq nq).1
  have ep : tm top g = p := (Fo _ _).ext tp fun i => by rw [Cj, et]
  have eq : tm bot g = q := (Fo _ _).ext tq fun i => by rw [Cj, eb]
  have nb : bot ≠ [] := fun z => nq (by
    rw [<- eq, z]
    exact (Fo _ _).ext (.inl rfl) fun i => by rw [Cj, Ba]; rfl)
  have lb := tb.lead nb
  have g0 : 0 < gl (top ++ bot) := by
    refine Nat.pos_of_ne_zero fun z => lb ?_
    have := Ai5 top bot (bot.length - 1)
    rw [z] at this
    exact Int.zero_dvd.mp this
  have n0 : n ≠ 0 := by rw [hn]; split <;> omega
  have na : n.natAbs = gl (top ++ bot) := by rw [hn]; split <;> omega
  have nd : ∀ {x : Int}, ((gl (top ++ bot) : Nat) : Int) ∣ x -> n ∣ x := fun {x} h => by
    rw [hn]
    split
    . exact Int.neg_dvd.mpr h
    . exact h
  have dT := fun i => nd (Akj top bot i)
  have dB := fun i => nd (Ai5 top bot i)
  have hT : ∀ i, n * co (top.map fun x => x.fdiv n) i = co top i := fun i => by rw [O4, Ri n0 (dT i)]
  have hB : ∀ i, n * co (bot.map fun x => x.fdiv n) i = co bot i := fun i => by rw [O4, Ri n0 (dB i)]
  refine ⟨n0, ?_, nb, ?_, Aaf et hT, Aaf eb hB, fun hp => Classical.byContradiction fun z => Afk tt gc.tr z ng (by rw [ep, hp])⟩
  . have l1 := Agf tb gc.tr nb ng
    rw [eq] at l1
    have gl0 := gc.tr.lead ng
    refine (zq (q.length - 1)).of_abs ?_
    rw [na, l1, Int.natAbs_mul]
    have h1 : gl (top ++ bot) <= (co bot (bot.length - 1)).natAbs := Nat.le_of_dvd (Int.natAbs_pos.mpr lb) (by
      have := Int.natAbs_dvd_natAbs.mpr (Ai5 top bot (bot.length - 1))
      rwa [Int.natAbs_natCast] at this)
    exact Nat.le_trans h1 (Nat.le_mul_of_pos_right _ (Int.natAbs_pos.mpr gl0))
  . refine QF.make tq nq tt tb gc ep eq n0 (Ut n0 tt dT) (Ut n0 tb dB) hT hB ?_ na
    rw [List.length_map]
    refine Ahr (hB _) (fun z => ?_) (fun z => ?_) lb
    . rw [hn, if_pos z]
      omega
    . rw [hn, if_neg (by omega)]
      omega
theorem Af7 {f : Addr} {fd : FuncData} (F : Df K mg "q_of" Abp ["p", "q"] f fd)  (xk_NoPart : Acx K (cA K "NoPart")) (xm_NoPart : mg "NoPart" = some (.ref (cA K "NoPart"))) (c_shared : Cal P w K mg base 9 "shared" ["one", "other"] (Q0 K)) (ce_whole_part : Zq P w K mg base 3 "whole_part" ["one", "other"] (Jv K)) (c_divisor_of : Cal P w K mg base 2 "divisor_of" ["some"] (Iv K)) (c_shrunk : Cal P w K mg base 1 "shrunk" ["one", "number"] (Ky K)) : Zq P w K mg base 10 "q_of" ["p", "q"] (Yo K) := by
  refine F.calE (F.fn.okE Oj (fun vs H Q E h => ?_) (fun cdv A outer s H vs Q E hr h => ?_))
  . obtain ⟨x, y, p, q, _, _, rfl, _⟩ := h
    rfl
  obtain ⟨x, y, p, q, l, b, rfl, hx, hy, few, l8, hb, k0, k⟩ := h
  have fb := few.bits
  have bigE := Tg
  obtain ⟨f1, f2, f3, f4⟩ := id few
  obtain ⟨⟨aq, eq, hq⟩, tq, lq, zq⟩ := id hy
  subst eq
  refine S.Bm ⟨_, (S.Ac (S.Bv (S.Ah (Hj hr.units) (S.pv 1) (S.Az S.Ab) (Ao _)) (S.Af (S.Hz xk_NoPart xm_NoPart (S.Aa S.O9 S.Ab))) S.Av)
      (S.Ac (S.Aj (i := 2) Oj.nd rfl (Or.inl rfl) (S.Ai c_shared (hr.mono (by decide)) (S.Aa (S.pv 0) (S.Aa (S.pv 1) S.Ab))))
      (S.Ac (S.Aj (i := 3) Oj.nd rfl (Or.inl rfl) (S.Hw ce_whole_part (hr.mono (by decide)) (S.Aa (S.pv 0) (S.Aa (S.pv 2) S.Ab))))
      (S.Ac (S.Aj (i := 4) Oj.nd rfl (Or.inl rfl) (S.Hw ce_whole_part (hr.mono (by decide)) (S.Aa (S.pv 1) (S.Aa (S.pv 2) S.Ab))))
      (S.Ac (S.Aj (i := 5) Oj.nd rfl (Or.inl rfl) (S.Ai c_divisor_of (hr.mono (by decide)) (S.Aa (S.Ak Uj (S.pv 3) (S.pv 4)) S.Ab)))
      (S.Ac (S.Bv (S.Ah S6 (S.Bt Bu (S.pv 4) (S.Eb Cd S.Ad) (fun _ _ => rfl)) S.Ad (Ao _)) (S.Af (S.Aj (i := 5) Oj.nd rfl (Or.inl rfl) (S.Eb Cd (S.pv 5)))) S.Av)
      (S.Af (S.Aq (S.Az (S.Aa (S.Ai c_shrunk (hr.mono (by decide)) (S.Aa (S.pv 3) (S.Aa (S.pv 5) S.Ab))) (S.Aa (S.Ai c_shrunk (hr.mono (by decide)) (S.Aa (S.pv 4) (S.Aa (S.pv 5) S.Ab))) S.Ab))))))))))), ?_⟩
  contradiction
  refine ⟨by decide, fun e0 he0 => ?_⟩
  have se := Same.upd he0 (.tup [])
  refine Bx (ms := []) (se.tup hq) (.of Ae) ?_
  by_cases nq : q = []
  . rw [decide_eq_true nq]
    try contradiction
    exact k0 nq _ se
  rw [decide_eq_false nq]
  replace k := k nq
  try contradiction
  refine Adm hx se hy se few fun vg H1 g s1 ig gc => ?_
  have s01 := se.trans s1
  have ng : g ≠ [] := (gc.two.len gc.tr tq nq).1
  have pg : Prim g := by
    have := Iu gc.tr ng
    rwa [gc.pl] at this
  try contradiction
  refine ⟨x, vg, p, g, l, 2 * l, b, _, rfl, hx.mono s01, ig, by omega, by omega, by omega, fb, fun z => absurd z ng, fun _ => ⟨fun ne => absurd (Iz gc.tr ng pg gc.one) ne, fun vt H2 top s2 it et => ?_⟩⟩
  try contradiction
  refine ⟨_, vg, q, g, l, 2 * l, b, _, rfl, hy.mono (s01.trans s2), ig.mono s2, by omega, by omega, by omega, fb, fun z => absurd z ng, fun _ => ⟨fun ne => absurd (Iz gc.tr ng pg gc.two) ne, fun vb H3 bot s3 ib eb => ?_⟩⟩
  have s03 := (s01.trans s2).trans s3
  obtain ⟨⟨at_, rfl, ht⟩, tt, lt, _⟩ := id (it.mono s3)
  obtain ⟨⟨ab, rfl, hb⟩, tb, lb, _⟩ := id ib
  obtain ⟨n, hn⟩ : ∃ n, n = if co bot (bot.length - 1) < 0 then -((gl (top ++ bot) : Nat) : Int) else ((gl (top ++ bot) : Nat) : Int) := ⟨_, rfl⟩
  obtain ⟨n0, zn, nb, qf, ep, eq, top0⟩ := Ait hx.2.1 tq nq gc tt tb et eb zq hn
  try contradiction
  refine ⟨at_, ab, _, _, rfl, rfl, ht, hb, by rw [List.length_map, List.length_map]; exact Nat.le_trans (show top.length + bot.length <= 120 by omega) (by decide), fun z4 H4 s4 h4 => ?_⟩
  try contradiction
  refine ⟨z4, top ++ bot, rfl, by rw [List.map_append]; exact h4, ?_⟩
  try contradiction
  refine Ei (s4.tup hb) (Ii nb) ?_
  try contradiction
  have fin : Ky K [V.ref at_, V.int n] H4 (fun x H1 => Ky K [V.ref ab, V.int n] H1 (fun x_1 H1 => ∀ (p : Addr), H1 p = none -> Q (V.ref p) (upd H1 p (HO.tup [x, x_1]))) E0) E0 := by
    refine ⟨at_, top, n, rfl, s4.tup ht, by omega, fun _ => ⟨n0, zn.mono (by omega)⟩, fun z5 H5 s5 h5 => ?_⟩
    refine ⟨ab, bot, n, rfl, (s4.trans s5).tup hb, by omega, fun _ => ⟨n0, zn.mono (by omega)⟩, fun z6 H6 s6 h6 => ?_⟩
    intro p7 hp7
    have s7 := Same.upd hp7 (.tup [V.ref z5, V.ref z6])
    exact k p7 _ (.ref z5) (.ref z6) _ _ (((s03.trans s4).trans (s5.trans s6)).trans s7) (.of Ae) (Aak hx.2.1 hx.2.2.1 l8 hx.2.2.2 ep qf.tT (fun hp => by rw [top0 hp]; rfl) rfl ((s6.trans s7).tup h5)) (Aak tq lq l8 zq eq qf.tB (fun hq => absurd hq nq) rfl (s7.tup h6)) qf
  split
  . rename_i hneg
    rw [if_pos hneg] at hn
    rw [<- hn]
    exact fin
  . rename_i hneg
    rw [if_neg hneg] at hn
    rw [<- hn]
    exact fin
theorem Bj {H : Hp} {p : List Int} {v : V} {l n l2 n2 : Nat} (h : Po K H v p l n) (h1 : l <= l2) (h2 : n <= n2) : Po K H v p l2 n2 := ⟨h.1, h.2.1, Nat.le_trans h.2.2.1 h1, fun i => (h.2.2.2 i).mono h2⟩
theorem Ai3 {H : Hp} {p : Addr} {u v x : V} {i j l : Nat} {σ : St} {Q : St -> Hp -> Prop} (h : SqT K H p [u, v, x]) (q : Q (((σ.set i (some u)).set j (some v)).set l (some x)) H) : Ahb K 3 (Mr (Nb i) (Mr (Nb j) (Mr (Nb l) Ac5))) (.ref p) σ H Q := ⟨p, _, rfl, h, rfl, u, _, rfl, v, _, rfl, x, _, rfl, rfl, q⟩
theorem Po.sq {H : Hp} {a : Addr} {p : List Int} {l n : Nat} (h : Po K H (.ref a) p l n) : SqT K H a (p.map V.int) := by
  obtain ⟨⟨b, e, hb⟩, _⟩ := h
  cases e
  exact hb
structure FdP (K : PySem.W.Frag) (H : Hp) (z u v s r : Addr) (c : Int) (p q T B a b : List Int) : Prop where
  it : SqT K H z [.ref u, .ref v, .ref s, .ref r, .int c]
  iu : Po K H (.ref u) T 6 93
  iv : Po K H (.ref v) B 6 93
  is : Po K H (.ref s) a 12 1189
  ir : Po K H (.ref r) b 12 1189
  zc : Sz 1189 c
  qf : QF p q T B
  c0 : c ≠ 0
  ab : ta (tm a T) (tm b B) = [c]
theorem FdP.mono {H H' : Hp} {z u v s r : Addr} {c : Int} {p q T B a b : List Int} (h : FdP K H z u v s r c p q T B a b) (t : Same H H') : FdP K H' z u v s r c p q T B a b := ⟨t.tup h.it, h.iu.mono t, h.iv.mono t, h.is.mono t, h.ir.mono t, h.zc, h.qf, h.c0, h.ab⟩
theorem Aj8 : Few 6 12 := ⟨by decide, by decide, by decide, by decide⟩
theorem Ajh : Few 6 93 := ⟨by decide, by decide, by decide, by decide⟩
theorem QF.g1 {p q T B g : List Int} (h : QF p q T B) (gc : Gc T B g) : g = [1] := by
  have l := h.gc gc
  match g, l with
  | [k], _ =>
    have pl := gc.pl
    have kp := Xf gc.tr (by simp) pl
    have k0 : 0 < k := by simpa [Ca] using kp
    have gl := (Iu gc.tr (by simp)).gl
    rw [pl] at gl
    have e : Int.gcd k ((0 : Nat) : Int) = 1 := gl
    rw [show ((0 : Nat) : Int) = 0 from rfl, Int.gcd_zero_right] at e
    have : k = 1 := by omega
    rw [this]
def Te (K : PySem.W.Frag) : Sp := fun vs H Q _ => ∃ (x y : V) (p q : List Int), vs = [x, y] /\ Po K H x p 6 12 /\ Po K H y q 6 12 /\ q ≠ [] /\ ∀ (z u v s r : Addr) (H' : Hp) (c : Int) (T B a b : List Int), Same H H' -> FdP K H' z u v s r c p q T B a b -> Q (.ref z) H'
theorem Zr {f : Addr} {fd : FuncData} (F : Df K mg "q_paper" Qm ["p", "q"] f fd)   (c_q_of : Cal P w K mg base 10 "q_of" ["p", "q"] (Xi K)) (c_shared_paper : Cal P w K mg base 9 "shared_paper" ["one", "other"] (Lr K)) : Cal P w K mg base 11 "q_paper" ["p", "q"] (Te K) := by
  refine F.cal (F.fn.ok Jb (fun vs H Q E h => ?_) (fun cdv A outer s H vs Q E hr h => ?_))
  . obtain ⟨x, y, p, q, rfl, _⟩ := h
    rfl
  obtain ⟨x, y, p, q, rfl, hx, hy, nq, k⟩ := h
  have bigE := Tg
  refine S.Bm ⟨_, (S.Ac (S.El (S.Ai c_q_of (hr.mono (by decide)) (S.Aa (S.pv 0) (S.Aa (S.pv 1) S.Ab))) (S.Gz rfl (S.Ar (S.Am (i := 2) Jb.nd rfl (Or.inl rfl)) (S.Ar (S.Am (i := 3) Jb.nd rfl (Or.inl rfl)) S.Ed))))
      (S.Ac (S.El (S.Dh Ho (S.Ai c_shared_paper (hr.mono (by decide)) (S.Aa (S.pv 2) (S.Aa (S.pv 3) S.Ab))) (S.Em S.Ad) S.Ej) (S.Gz rfl (S.Ar (S.Am (i := 4) Jb.nd rfl (Or.inl rfl)) (S.Ar (S.Am (i := 5) Jb.nd rfl (Or.inl rfl)) (S.Ar (S.Am (i := 6) Jb.nd rfl (Or.inl rfl)) S.Ed)))))
      (S.Af (S.Aq (S.Az (S.Aa (S.pv 2) (S.Aa (S.pv 3) (S.Aa (S.pv 4) (S.Aa (S.pv 5) (S.Aa (S.pv 6) S.Ab)))))))))), ?_⟩
  contradiction
  refine ⟨x, y, p, q, 6, 12, rfl, hx, hy, Aj8, by decide, by decide, nq, fun z H1 vT vB T B s1 hz iT iB qf => ?_⟩
  refine N5 hz ?_
  try contradiction
  refine ⟨vT, vB, T, B, 6, 93, rfl, iT, iB, Ajh, fun z2 H2 vg vu vv va vb c g gu gv ga gb s2 hz2 ig iu iv ia ib zc pap => ?_⟩
  refine ⟨z2, _, rfl, hz2, fun z3 H3 s3 h3 => ?_⟩
  have ec : Nh [vg, vu, vv, va, vb, V.int c] (some 3) none = [va, vb, V.int c] := rfl
  rw [ec] at h3
  refine Ai3 h3 ?_
  try contradiction
  refine ⟨by decide, fun q4 hq4 => ?_⟩
  have s4 := Same.upd hq4 (.tup [vT, vB, va, vb, V.int c])
  obtain ⟨⟨u, rfl, _⟩, _⟩ := id iT
  obtain ⟨⟨v, rfl, _⟩, _⟩ := id iB
  obtain ⟨⟨a1, rfl, _⟩, _⟩ := id ia
  obtain ⟨⟨b1, rfl, _⟩, _⟩ := id ib
  have s24 := (s2.trans s3).trans s4
  have s34 := s3.trans s4
  refine k q4 u v a1 b1 _ c T B ga gb (s1.trans s24) ⟨.of Ae, iT.mono s24, iB.mono s24, ia.mono s34, ib.mono s34, zc, qf, pap.cn, ?_⟩
  have eg := qf.g1 pap.gc
  refine (Ui _ _).ext (.inr ⟨by simp, by simpa using pap.cn⟩) fun i => ?_
  rw [Oc, Cj, Cj, pap.sum, eg]
  cases i with
  | zero => simp [Ca]
  | succ i => simp [Cm, Ba]
def rB (p q T B a b : List Int) (c : Int) : Bool := decide (c ≠ 0) && (hpw T B && (decide (tm T q = tm B p) && decide (ta (tm a T) (tm b B) = [c])))
inductive Tp (K : PySem.W.Frag) (H : Hp) (p q : List Int) : V -> Bool -> Prop where
  | good {z : Addr} {vT vB va vb : V} {T B a b : List Int} {c : Int} (h : SqT K H z [vT, vB, va, vb, .int c]) (hT : Po K H vT T 60 5000) (hB : Po K H vB B 60 5000) (ha : Po K H va a 60 5000) (hb : Po K H vb b 60 5000) : Tp K H p q (.ref z) (rB p q T B a b c)
  | bad {z : Addr} {v1 v2 v3 v4 v5 : V} {b1 b2 b3 b4 b5 : Bool} (h : SqT K H z [v1, v2, v3, v4, v5]) (h1 : Th K H v1 b1) (h2 : Th K H v2 b2) (h3 : Th K H v3 b3) (h4 : Th K H v4 b4) (h5 : Wh K H v5 b5) (hb : (b1 && (b2 && (b3 && b4)) && b5) = false) : Tp K H p q (.ref z) false
  | long {z : Addr} {xs : List V} (h : SqT K H z xs) (hl : xs.length ≠ 5) : Tp K H p q (.ref z) false
  | int (i : Int) : Tp K H p q (.int i) false
  | non : Tp K H p q .non false
  | str (x : Str) : Tp K H p q (.str x) false
  | lst {a : Addr} {xs : List V} (e : H a = some (.lst xs)) : Tp K H p q (.ref a) false
theorem Tp.mono {H H' : Hp} {p q : List Int} {v : V} {b : Bool} (h : Tp K H p q v b) (s : Same H H') : Tp K H' p q v b := by
  cases h with
  | good h hT hB ha hb => exact .good (s.tup h) (hT.mono s) (hB.mono s) (ha.mono s) (hb.mono s)
  | bad h h1 h2 h3 h4 h5 hb => exact .bad (s.tup h) (h1.mono s) (h2.mono s) (h3.mono s) (h4.mono s) (h5.mono s) hb
  | long h hl => exact .long (s.tup h) hl
  | int i => exact .int i
  | non => exact .non
  | str x => exact .str x
  | lst e => exact .lst (s _ _ e)
theorem Po.th {H : Hp} {v : V} {p : List Int} {l n : Nat} (h : Po K H v p l n) (hl : l <= 100) : Th K H v true := by
  obtain ⟨⟨b, rfl, hb⟩, tp, lp, _⟩ := h
  rw [<- decide_eq_true (Qy tp)]
  exact .nums hb (by omega)
theorem Vf {H : Hp} {p : Addr} {u v x y z : V} {i j l m n : Nat} {σ : St} {Q : St -> Hp -> Prop} (h : SqT K H p [u, v, x, y, z]) (q : Q (((((σ.set i (some u)).set j (some v)).set l (some x)).set m (some y)).set n (some z)) H) : Ahb K 5 (Mr (Nb i) (Mr (Nb j) (Mr (Nb l) (Mr (Nb m) (Mr (Nb n) Ac5))))) (.ref p) σ H Q := ⟨p, _, rfl, h, rfl, u, _, rfl, v, _, rfl, x, _, rfl, y, _, rfl, z, _, rfl, rfl, q⟩
theorem Ea {H H1 H2 : Hp} {Q : VK} {E : XK} {x y : V} {p q : List Int} {l l' n n' : Nat} (hx : Po K H1 x p l n) (s1 : Same H1 H) (hy : Po K H2 y q l' n') (s2 : Same H2 H) (b1 : l <= 500) (b2 : l' <= 500) (b3 : n + n' <= 100000000) (h : ∀ z H', Same H H' -> Po K H' z (tm p q) (l + l') (n + n' + l) -> Q z H') : Dd K [x, y] H Q E :=
  ⟨x, y, p, q, l, l', n, n', rfl, hx.mono s1, hy.mono s2, b1, b2, b3, h⟩
theorem Qv {H H1 H2 : Hp} {Q : VK} {E : XK} {x y : V} {p q : List Int} {l l' n n' : Nat} (hx : Po K H1 x p l n) (s1 : Same H1 H) (hy : Po K H2 y q l' n') (s2 : Same H2 H) (b1 : l <= 500) (b2 : l' <= 500) (h : ∀ z H', Same H H' -> Po K H' z (ta p q) (max l l') (max n n' + 1) -> Q z H') : Ib K [x, y] H Q E :=
  ⟨x, y, p, q, l, l', n, n', rfl, hx.mono s1, hy.mono s2, b1, b2, trivial, h⟩
theorem Ae9 {H : Hp} {v1 v2 v3 v4 : V} {b1 b2 b3 b4 : Bool} (h1 : Th K H v1 b1) (h2 : Th K H v2 b2) (h3 : Th K H v3 b3) (h4 : Th K H v4 b4) : ∀ e ∈ [(v1, b1), (v2, b2), (v3, b3), (v4, b4)], Th K H e.1 e.2 := fun e he => by
  have : e = (v1, b1) \/ e = (v2, b2) \/ e = (v3, b3) \/ e = (v4, b4) := by simpa using he
  rcases this with rfl | rfl | rfl | rfl
  . exact h1
  . exact h2
  . exact h3
  . exact h4
def Tz (K : PySem.W.Frag) : Sp := fun vs H Q _ => ∃ (x y v : V) (p q : List Int) (t : Bool), vs = [x, y, v] /\ Po K H x p 60 5000 /\ Po K H y q 60 5000 /\ Tp K H p q v t /\ ∀ H', Same H H' -> Q (.bl (decide (q ≠ []) && t)) H'
theorem Yv {f : Addr} {fd : FuncData} (F : Df K mg "q_right" Nu ["p", "q", "paper"] f fd) (z_isinstance : mg "isinstance" = none) (z_tuple : mg "tuple" = none) (z_len : mg "len" = none) (z_all : mg "all" = none)  (c_p_plus : Cal P w K mg base 3 "p_plus" ["one", "other"] (Ib K)) (c_is_whole : Cal P w K mg base 1 "is_whole" ["thing"] (Mv K)) (c_has_plain_weights : Cal P w K mg base 3 "has_plain_weights" ["top", "bottom"] (Im K)) (c_p_times : Cal P w K mg base 1 "p_times" ["one", "other"] (Dd K)) (c_is_poly : Cal P w K mg base 2 "is_poly" ["thing"] (Oi K)) : Cal P w K mg base 4 "q_right" ["p", "q", "paper"] (Tz K) := by
  refine F.cal (F.fn.ok Jc (fun vs H Q E h => ?_) (fun cdv A outer s H vs Q E hr h => ?_))
  . obtain ⟨x, y, v, p, q, t, rfl, _⟩ := h
    rfl
  obtain ⟨x, y, v, p, q, t, rfl, hx, hy, hv, k⟩ := h
  obtain ⟨⟨ay, rfl, hq⟩, tq, _⟩ := id hy
  refine S.Bm ⟨_, (S.Ac (S.Bv (S.Li (S.Jf (S.Ah (Hj hr.units) (S.pv 1) (S.Az S.Ab) (Ao _)) (S.Jf (S.Jk (S.G9 (S.Dj Ua rfl z_isinstance PyProof.Rows.boot_isinstance (S.Aa (S.pv 2) (S.Aa (S.Hg (v := .ty "tuple") rfl z_tuple PyProof.Rows.boot_tuple rfl) S.Ab))))) (S.Ig (S.Ah Oe (S.Dj Bc rfl z_len PySem.boot_len (S.Aa (S.pv 2) S.Ab)) S.Ad (Ao _)))))) (S.Af (S.Aq S.Ia)) S.Av)
      (S.Ac (S.El (S.pv 2) (S.Gz rfl (S.Ar (S.Am (i := 3) Jc.nd rfl (Or.inl rfl)) (S.Ar (S.Am (i := 4) Jc.nd rfl (Or.inl rfl)) (S.Ar (S.Am (i := 5) Jc.nd rfl (Or.inl rfl)) (S.Ar (S.Am (i := 6) Jc.nd rfl (Or.inl rfl)) (S.Ar (S.Am (i := 7) Jc.nd rfl (Or.inl rfl)) S.Ed)))))))
      (S.Ac (S.Bv (S.Li (S.Jf (S.Jk (S.G9 (S.Dj (Xz rfl) rfl z_all PyProof.Rows.boot_all (S.Aa (S.Jg (ts := ["thing"]) (fs := []) rfl (Cu.of (sc := Ag Nu) (N := ["p", "q", "paper", "top", "bottom", "a", "b", "c"]) rfl rfl (by decide +kernel)) (S.Ln (S.Az (S.Aa (S.pv 3) (S.Aa (S.pv 4) (S.Aa (S.pv 5) (S.Aa (S.pv 6) S.Ab)))))) (fun _ _ _ => (S.Am (i := 0) (show List.Nodup (["thing"] : List Str) by decide +kernel) rfl (Or.inl rfl))) (fun _ _ _ => S.J4) (fun _ _ _ => (S.Ai c_is_poly (hr.mono (by decide)) (S.Aa (S.pv 0) S.Ab)))) S.Ab)))) (S.Jf (S.Jk (S.G9 (S.Ai c_is_whole (hr.mono (by decide)) (S.Aa (S.pv 7) S.Ab)))) (S.Ig (S.Ah Jd (S.pv 7) S.Ad (Ao _)))))) (S.Af (S.Aq S.Ia)) S.Av)
      (S.Ac (S.Bv (S.Li (S.Jf (S.Jk (S.G9 (S.Ai c_has_plain_weights (hr.mono (by decide)) (S.Aa (S.pv 3) (S.Aa (S.pv 4) S.Ab))))) (S.Ig (S.Ah (Tn hr.units) (S.Ai c_p_times (hr.mono (by decide)) (S.Aa (S.pv 3) (S.Aa (S.pv 1) S.Ab))) (S.Ai c_p_times (hr.mono (by decide)) (S.Aa (S.pv 4) (S.Aa (S.pv 0) S.Ab))) (Ao _))))) (S.Af (S.Aq S.Ia)) S.Av)
      (S.Af (S.Aq (S.Il (Hj hr.units) (S.Ai c_p_plus (hr.mono (by decide)) (S.Aa (S.Ai c_p_times (hr.mono (by decide)) (S.Aa (S.pv 5) (S.Aa (S.pv 3) S.Ab))) (S.Aa (S.Ai c_p_times (hr.mono (by decide)) (S.Aa (S.pv 6) (S.Aa (S.pv 4) S.Ab))) S.Ab))) (S.Az (S.Aa (S.pv 7) S.Ab)) (Ao _)))))))), ?_⟩
  contradiction
  refine ⟨by decide, fun e0 he0 => ?_⟩
  have se := Same.upd he0 (.tup [])
  refine Bx (ms := []) (se.tup hq) (.of Ae) ?_
  by_cases nq : q = []
  . rw [decide_eq_true nq]
    rw [decide_eq_false (fun z : q ≠ [] => z nq)] at k
    try contradiction
    exact k _ se
  rw [decide_eq_false nq]
  rw [decide_eq_true (show q ≠ [] from nq), Bool.true_and] at k
  try contradiction
  replace hv := hv.mono se
  replace hx := hx.mono se
  replace hy := hy.mono se
  generalize upd H e0 (HO.tup []) = H1 at *
  cases hv with
  | int i =>
    refine isa (.of (.int i)) Ae5 ?_
    try contradiction
    exact k _ se
  | non =>
    refine isa (.of .non) Aav ?_
    try contradiction
    exact k _ se
  | str x =>
    refine isa (.of (.str x)) Z8 ?_
    try contradiction
    exact k _ se
  | lst e =>
    refine isa (.of (.lst e)) Abt ?_
    try contradiction
    exact k _ se
  | @long z xs h hl =>
    refine isa (.tup h) Qp ?_
    try contradiction
    refine ⟨_, _, rfl, .inr h, ?_⟩
    try contradiction
    rw [if_neg (show ¬ ((xs.length : Nat) : Int) = 5 by omega)]
    exact k _ se
  | @bad z v1 v2 v3 v4 v5 b1 b2 b3 b4 b5 h h1 h2 h3 h4 h5 hb =>
    refine isa (.tup h) Qp ?_
    try contradiction
    refine ⟨_, _, rfl, .inr h, ?_⟩
    try contradiction
    refine Vf h ?_
    try contradiction
    refine ⟨by decide, ?_⟩
    (intro q1 hq1; generalize eq1 : upd _ q1 _ = Gq1; obtain ⟨sq1, gq1⟩ := nw hq1 eq1; clear eq1 hq1)
    have hw : ∀ e ∈ [(v1, b1), (v2, b2), (v3, b3), (v4, b4)], Th K H1 e.1 e.2 := Ae9 h1 h2 h3 h4
    refine ⟨⟨_, .of gq1⟩, fun p1 hp1 => Jy (es := [(v1, b1), (v2, b2), (v3, b3), (v4, b4)]) (inj := Prod.fst) (fun e => .bl e.2) (by show 4 <= sizeLine; decide) hp1 (Ly (.of gq1)) ?_ ?_⟩
    . intro e H2 R he s2 hR
      contradiction
      exact Yl ((hw e he).mono (sq1.trans s2)) fun H3 s3 => hR _ s3
    intro H2 s2 h2
    refine ⟨p1, [b1, b2, b3, b4], rfl, .of h2, ?_⟩
    have s12 := sq1.trans s2
    by_cases ha : [b1, b2, b3, b4].all id = false
    . rw [if_pos ha]
      exact k _ (se.trans s12)
    . rw [if_neg ha]
      have e5 : b5 = false := by
        cases b1 <;> cases b2 <;> cases b3 <;> cases b4 <;> cases b5 <;> simp_all
      subst e5
      refine ⟨_, _, rfl, h5.mono s12, ?_⟩
      try contradiction
      exact k _ (se.trans s12)
  | @good z vT vB va vb T B a b c h hT hB ha hb =>
    refine isa (.tup h) Qp ?_
    try contradiction
    refine ⟨_, _, rfl, .inr h, ?_⟩
    try contradiction
    refine Vf h ?_
    try contradiction
    refine ⟨by decide, ?_⟩
    (intro q1 hq1; generalize eq1 : upd _ q1 _ = Gq1; obtain ⟨sq1, gq1⟩ := nw hq1 eq1; clear eq1 hq1)
    have hw : ∀ e ∈ [(vT, true), (vB, true), (va, true), (vb, true)], Th K H1 e.1 e.2 := Ae9 (hT.th (by decide)) (hB.th (by decide)) (ha.th (by decide)) (hb.th (by decide))
    refine ⟨⟨_, .of gq1⟩, fun p1 hp1 => Jy (es := [(vT, true), (vB, true), (va, true), (vb, true)]) (inj := Prod.fst) (fun e => .bl e.2) (by show 4 <= sizeLine; decide) hp1 (Ly (.of gq1)) ?_ ?_⟩
    . intro e H2 R he s2 hR
      contradiction
      exact Yl ((hw e he).mono (sq1.trans s2)) fun H3 s3 => hR _ s3
    intro H2 s2 h2
    refine ⟨p1, [true, true, true, true], rfl, .of h2, ?_⟩
    have s12 := sq1.trans s2
    rw [if_neg (by decide)]
    refine ⟨_, true, rfl, .int c, ?_⟩
    try contradiction
    unfold rB at k
    by_cases c0 : c = 0
    . rw [if_pos c0]
      rw [decide_eq_false (fun z : c ≠ 0 => z c0)] at k
      exact k _ (se.trans s12)
    rw [if_neg c0]
    rw [decide_eq_true (show c ≠ 0 from c0), Bool.true_and] at k
    obtain ⟨⟨aT, rfl, sT⟩, _, lT, _⟩ := id hT
    obtain ⟨⟨aB, rfl, sB⟩, _, lB, _⟩ := id hB
    refine ⟨aT, aB, T, B, rfl, s12.tup sT, s12.tup sB, by omega, fun H3 s3 => ?_⟩
    have s13 := s12.trans s3
    cases hp : hpw T B with
    | false =>
      rw [hp] at k
      try contradiction
      exact k _ (se.trans s13)
    | true =>
      rw [hp, Bool.true_and] at k
      try contradiction
      refine Ea hT s13 hy s13 (by decide) (by decide) (by decide) fun z4 H4 s4 i4 => ?_
      try contradiction
      refine Ea hB (s13.trans s4) hx (s13.trans s4) (by decide) (by decide) (by decide) fun z5 H5 s5 i5 => ?_
      obtain ⟨⟨a4, rfl, h4⟩, _⟩ := id (i4.mono s5)
      obtain ⟨⟨a5, rfl, h5⟩, _⟩ := id i5
      have s15 := (s13.trans s4).trans s5
      try contradiction
      refine Bx h4 h5 ?_
      by_cases e1 : tm T q = tm B p
      case neg =>
        rw [decide_eq_false e1] at k ⊢
        try contradiction
        exact k _ (se.trans s15)
      rw [decide_eq_true e1] at k ⊢
      try contradiction
      refine Ea ha s15 hT s15 (by decide) (by decide) (by decide) fun z6 H6 s6 i6 => ?_
      try contradiction
      refine Ea hb (s15.trans s6) hB (s15.trans s6) (by decide) (by decide) (by decide) fun z7 H7 s7 i7 => ?_
      try contradiction
      refine Qv i6 s7 i7 (Same.refl _) (by decide) (by decide) fun z8 H8 s8 i8 => ?_
      obtain ⟨⟨a8, rfl, h8⟩, _⟩ := id i8
      try contradiction
      (intro q9 hq9; generalize eq9 : upd _ q9 _ = Gq9; obtain ⟨sq9, gq9⟩ := nw hq9 eq9; clear eq9 hq9)
      refine Bx (ms := [c]) (sq9.tup h8) (.of gq9) ?_
      try contradiction
      exact k _ (se.trans ((((s15.trans s6).trans s7).trans s8).trans sq9))
theorem V1 {n : Nat} {a : Int} (h : Sz n a) (l : n <= 64) : Builtin.Int.intBits a <= 64 := Nat.le_trans (PySem.intBits_le_iff.mpr h) l
def T6 (_ : PySem.W.Frag) : Sp := fun vs H Q _ => ∃ c k : Int, vs = [.int c, .int k] /\ 0 <= k /\ k < 1000 /\ ∀ n : Int, Q (.int n) H
theorem Y9 {f : Addr} {fd : FuncData} (F : Df K mg "_law_mixed" Qw ["_law_cell", "_law_k"] f fd)    : Cal P w K mg base 1 "_law_mixed" ["_law_cell", "_law_k"] (T6 K) := by
  refine F.cal (F.fn.ok O2 (fun vs H Q E h => ?_) (fun cdv A outer s H vs Q E hr h => ?_))
  . obtain ⟨c, k, rfl, _⟩ := h
    rfl
  obtain ⟨c, k, rfl, k0, k1, q⟩ := h
  refine S.Bm ⟨_, (S.Ac (S.Aj (i := 2) O2.nd rfl (Or.inl rfl) (S.Ak Ci (S.Ak Dy (S.Ak Cz (S.Ak Cz (S.Ak Ci (S.pv 0) S.Ad) (S.Ak Dy S.Ad (S.pv 1))) S.Ad) S.Ad) S.Ad))
      (S.Ac (S.Aj (i := 2) O2.nd rfl (Or.inl rfl) (S.Ak Ci (S.Ak Dy (S.pv 2) (S.Ak Cz (S.Ak Bw (S.pv 2) S.Ad) S.Ad)) S.Ad))
      (S.Af (S.Aq (S.Ak Ci (S.Ak Dy (S.pv 2) (S.Ak Cz (S.Ak Bw (S.pv 2) S.Ad) S.Ad)) S.Ad))))), ?_⟩
  contradiction
  have m1 : IntMulOk 7919 k := .of_left (V1 (by unfold Sz; decide : Sz 13 (7919 : Int)) (by decide))
  have m2 : IntMulOk (c % 2147483647 + 7919 * k + 1) 48271 := .of_right (V1 (by unfold Sz; decide : Sz 16 (48271 : Int)) (by decide))
  have d0 := Int.emod_nonneg ((c % 2147483647 + 7919 * k + 1) * 48271) (by decide : (2147483647 : Int) ≠ 0)
  have d1 := Int.emod_lt_of_pos ((c % 2147483647 + 7919 * k + 1) * 48271) (by decide : (0 : Int) < 2147483647)
  generalize (c % 2147483647 + 7919 * k + 1) * 48271 % 2147483647 = d at *
  have m3 : IntMulOk d (d / 1009 + 69621) := .of_left (V1 (by unfold Sz; omega : Sz 31 d) (by decide))
  have e0 := Int.emod_nonneg (d * (d / 1009 + 69621)) (by decide : (2147483647 : Int) ≠ 0)
  have e1 := Int.emod_lt_of_pos (d * (d / 1009 + 69621)) (by decide : (0 : Int) < 2147483647)
  generalize d * (d / 1009 + 69621) % 2147483647 = e at *
  have m4 : IntMulOk e (e / 997 + 16807) := .of_left (V1 (by unfold Sz; omega : Sz 31 e) (by decide))
  exact ⟨by decide, m1, m2, by decide, ⟨by decide, by decide⟩, m3, by decide, ⟨by decide, by decide⟩, m4, by decide, q _⟩
def Qo (K : PySem.W.Frag) : Sp := fun vs H Q _ => ∃ (c : Int) (m : Nat) (b : Int), vs = [.int c, .int (m : Nat), .int b] /\ m <= 8 /\ 0 < b /\ Sz 60 b /\ ∀ (z : Addr) (H' : Hp) (ns : List Int), Same H H' -> H' z = some (.lst (ns.map V.int)) -> ns.length = m -> (∀ x ∈ ns, 0 <= x /\ x < b) -> Q (.ref z) H'
structure DgI (H H' : Hp) (z : Addr) (b : Int) (i : Nat) (ns : List Int) : Prop where
  sm : Same H H'
  it : H' z = some (.lst (ns.map V.int))
  len : ns.length = i
  ok : ∀ x ∈ ns, 0 <= x /\ x < b
theorem DgI.snoc {H H' : Hp} {z : Addr} {b : Int} {i : Nat} {ns : List Int} (h : DgI H H' z b i ns) (n : H z = none) {x : Int} (hb : 0 < b) : DgI H (upd H' z (.lst (ns.map V.int ++ [.int (x % b)]))) z b (i + 1) (ns ++ [x % b]) := by
  refine ⟨h.sm.put n, by rw [Ae, List.map_append]; rfl, by rw [List.length_append, h.len]; rfl, fun y hy => ?_⟩
  rcases List.mem_append.mp hy with hy | hy
  . exact h.ok y hy
  . have e : y = x % b := by simpa using hy
    rw [e]
    exact ⟨Int.emod_nonneg _ (Int.ne_of_gt hb), Int.emod_lt_of_pos _ hb⟩
theorem Wz {f : Addr} {fd : FuncData} (F : Df K mg "_law_digits" Oq ["_law_cell", "_law_many", "_law_base"] f fd) (z_range : mg "range" = none)  (c_q_mixed : Cal P w K mg base 1 "_law_mixed" ["_law_cell", "_law_k"] (T6 K)) : Cal P w K mg base 2 "_law_digits" ["_law_cell", "_law_many", "_law_base"] (Qo K) := by
  refine F.cal (F.fn.ok Je (fun vs H Q E h => ?_) (fun cdv A outer s H vs Q E hr h => ?_))
  . obtain ⟨c, m, b, rfl, _⟩ := h
    rfl
  obtain ⟨c, m, b, rfl, m8, hb, zb, k⟩ := h
  refine S.Bm ⟨_, (S.Ac (S.Aj (i := 3) Je.nd rfl (Or.inl rfl) (S.G7 S.Ab))
      (S.Ac (S.Aj (i := 4) Je.nd rfl (Or.inl rfl) (S.Ak Bw (S.pv 0) S.Ad))
      (S.Ac (S.Hf PassesOwn.never rfl (S.Nk rfl z_range (S.Aa (S.pv 1) S.Ab)) (S.Am (i := 5) Je.nd rfl (Or.inl rfl)) (S.Af (S.Bv (S.Li (S.Jf (S.Ah Jd (S.Ak Ci (S.pv 0) S.Ad) S.Ad (Ao _)) (S.Jf (S.Ah Jd (S.pv 4) S.Ad (Ao _)) (S.Ig (S.Ah Jd (S.pv 4) (S.Eb Cd S.Ad) (Ao _)))))) (S.Af (S.Lz (S.Pn PySem.F.plainAttrs_list PySem.F.slot_list_append PySem.F.type_list_append K1 (S.pv 3) (S.Aa (S.Ak Ci (S.Ai c_q_mixed (hr.mono (by decide)) (S.Aa (S.pv 0) (S.Aa (S.pv 5) S.Ab))) (S.pv 2)) S.Ab)))) (S.Ac (S.Lz (S.Pn PySem.F.plainAttrs_list PySem.F.slot_list_append PySem.F.type_list_append K1 (S.pv 3) (S.Aa (S.Ak Ci (S.pv 4) (S.pv 2)) S.Ab)))
      (S.Af (S.Aj (i := 4) Je.nd rfl (Or.inl rfl) (S.Ak Bw (S.pv 4) (S.pv 2))))))))
      (S.Af (S.Aq (S.pv 3)))))), ?_⟩
  contradiction
  refine ⟨by decide, fun z hz => ⟨⟨by decide, by decide⟩, by omega, by omega, ?_⟩⟩
  rw [Int.toNat_natCast]
  refine Aib m (fun i => .int (0 + (i : Nat))) (fun i σ H' => ∃ (r : Int) (ns : List Int) (o : Option V), σ = [some (.int c), some (.int (m : Nat)), some (.int b), some (.ref z), some (.int r), o] /\ DgI H H' z b i ns) ⟨_, [], _, rfl, ⟨Same.upd hz _, Ae, rfl, by simp⟩⟩ ?_ ?_ ?_
  . rintro i σ H' _
    exact S8
  . rintro i σ H1 hi ⟨r, ns, o, rfl, d⟩
    have ty : tyV K "list" (.ref z) H1 := .inl ⟨rfl, _, .of d.it⟩
    have lz : (ns.map V.int).length < sizeLine := by rw [List.length_map, d.len]; exact Nat.lt_of_lt_of_le (show i < 9 by omega) (by decide)
    have vb : ∀ x : Int, Afe x b := fun x => ⟨hb, zb.log2 (by omega) (by decide)⟩
    have mix : ∀ n : Int, DgI H (upd H1 z (.lst (ns.map V.int ++ [.int (n % b)]))) z b (i + 1) (ns ++ [n % b]) := fun n => d.snoc hz hb
    contradiction
    refine ⟨by decide, ?_⟩
    split
    . refine ⟨ty, c, _, rfl, by omega, by omega, fun n => ?_⟩
      try contradiction
      exact ⟨hb, z, _, _, rfl, rfl, d.it, lz, _, _, _, rfl, mix n⟩
    split
    . refine ⟨ty, c, _, rfl, by omega, by omega, fun n => ?_⟩
      try contradiction
      exact ⟨hb, z, _, _, rfl, rfl, d.it, lz, _, _, _, rfl, mix n⟩
    split
    . refine ⟨ty, c, _, rfl, by omega, by omega, fun n => ?_⟩
      try contradiction
      exact ⟨hb, z, _, _, rfl, rfl, d.it, lz, _, _, _, rfl, mix n⟩
    . refine ⟨ty, hb, z, _, _, rfl, rfl, d.it, lz, ?_⟩
      try contradiction
      exact ⟨vb r, _, _, _, rfl, mix r⟩
  . rintro σ H1 ⟨r, ns, o, rfl, d⟩
    contradiction
    exact k z H1 ns d.sm d.it d.len d.ok
def U6 (K : PySem.W.Frag) : Sp := fun vs H Q _ => ∃ (c : Int), vs = [.int c] /\ ∀ z H' p, Same H H' -> Po K H' z p 4 4 -> Q z H'
theorem Acm {f : Addr} {fd : FuncData} (F : Df K mg "_law_poly" Qh ["_law_cell"] f fd)   (c_poly : Cal P w K mg base 1 "poly" ["weights"] (Ij K)) (c_q_digits : Cal P w K mg base 2 "_law_digits" ["_law_cell", "_law_many", "_law_base"] (Qo K)) : Cal P w K mg base 3 "_law_poly" ["_law_cell"] (U6 K) := by
  refine F.cal (F.fn.ok Abq (fun vs H Q E h => ?_) (fun cdv A outer s H vs Q E hr h => ?_))
  . obtain ⟨c, rfl, _⟩ := h
    rfl
  obtain ⟨c, rfl, k⟩ := h
  refine S.Bm ⟨_, (S.Af (S.Aq (S.Ai c_poly (hr.mono (by decide)) (S.Aa (S.Jg (ts := ["_law_draw"]) (fs := []) rfl (Cu.of (sc := Ag Qh) (N := ["_law_cell"]) rfl rfl (by decide +kernel)) (S.M7 (S.Ai c_q_digits (hr.mono (by decide)) (S.Aa (S.Ak Bw (S.pv 0) S.Ad) (S.Aa (S.Ak Cz S.Ad (S.Ak Ci (S.pv 0) S.Ad)) (S.Aa S.Ad S.Ab))))) (fun _ _ _ => (S.Am (i := 0) (show List.Nodup (["_law_draw"] : List Str) by decide +kernel) rfl (Or.inl rfl))) (fun _ _ _ => S.J4) (fun _ _ _ => (S.Ak Et (S.pv 0) S.Ad))) S.Ab)))), ?_⟩
  contradiction
  have e4 : ∃ m : Nat, 1 + c % 4 = (m : Nat) /\ m <= 4 := ⟨(1 + c % 4).toNat, by omega, by omega⟩
  obtain ⟨m, em, m4⟩ := e4
  refine ⟨⟨by decide, by decide⟩, by decide, ?_⟩
  rw [em]
  refine ⟨c / 4, m, 19, rfl, by omega, by decide, by unfold Sz; decide, fun z H1 ns s1 hz hl hx => ?_⟩
  try contradiction
  refine ⟨⟨_, .of hz⟩, fun p7 hp7 => Jy (es := ns) (inj := V.int) (fun w => .int (w - 9)) (by rw [hl]; exact Nat.le_trans m4 (by decide)) hp7 (Us (.of hz)) ?_ ?_⟩
  . intro w H7 R hw s7 hR7
    contradiction
    exact hR7 _ (Same.refl _)
  intro H7 s7 h7
  have e7 : ns.map (fun w => V.int (w - 9)) = (ns.map (· - 9)).map V.int := by rw [List.map_map]; rfl
  rw [e7] at h7
  refine ⟨p7, ns.map (· - 9), rfl, .inl (.of h7), by rw [List.length_map]; omega, fun z8 H8 s8 h8 => k _ _ _ ((s1.trans s7).trans s8) ⟨⟨z8, rfl, h8⟩, Bb _, Nat.le_trans (Hs _) (by rw [List.length_map]; omega), fun i => ?_⟩⟩
  rw [Aw]
  refine Sv (by decide) (fun x hx' => ?_) i
  obtain ⟨y, hy, rfl⟩ := List.mem_map.mp hx'
  have := hx y hy
  unfold Sz
  omega
theorem poN {H : Hp} {z : Addr} {l n : Nat} (h : H z = some (.tup [])) (hn : 1 <= n) : Po K H (.ref z) [] l n := ⟨⟨z, rfl, .of h⟩, .inl rfl, Nat.zero_le _, fun i => by rw [Ba]; exact Sz0 hn⟩
theorem po1 {H : Hp} {z : Addr} {l n : Nat} {a : Int} (h : H z = some (.tup [V.int a])) (a0 : a ≠ 0) (hl : 1 <= l) (hn : 0 < n) (za : Sz n a) : Po K H (.ref z) [a] l n := ⟨⟨z, rfl, .of h⟩, .inr ⟨by simp, by simpa using a0⟩, hl, Sv hn fun x hx => by
  have e : x = a := by simpa using hx
  rw [e]
  exact za⟩
theorem po2 {H : Hp} {z : Addr} {l n : Nat} {a b : Int} (h : H z = some (.tup [V.int a, V.int b])) (b0 : b ≠ 0) (hl : 2 <= l) (hn : 0 < n) (za : Sz n a) (zb : Sz n b) : Po K H (.ref z) [a, b] l n := ⟨⟨z, rfl, .of h⟩, .inr ⟨by simp, by simpa using b0⟩, hl, Sv hn fun x hx => by
  have e : x = a \/ x = b := by simpa using hx
  rcases e with rfl | rfl
  . exact za
  . exact zb⟩
inductive Bd (K : PySem.W.Frag) (H : Hp) (N : Addr -> Prop) : V -> Prop where
  | nums {a : Addr} {ns : List Int} (h : SqT K H a (ns.map V.int)) (hn : trim ns ≠ ns) (hl : ns.length <= 60) : Bd K H N (.ref a)
  | lst {a : Addr} {ns : List Int} (h : H a = some (.lst (ns.map V.int))) (n : N a) : Bd K H N (.ref a)
  | non : Bd K H N .non
  | str : Bd K H N (.str (Str.ofString "x"))
  | bl {a : Addr} (h : SqT K H a [.bl true]) : Bd K H N (.ref a)
theorem Bd.mono {N : Addr -> Prop} {H H' : Hp} {v : V} (h : Bd K H N v) (s : Same H H') : Bd K H' N v := by
  cases h with
  | nums h hn hl => exact .nums (s.tup h) hn hl
  | lst h n => exact .lst (s _ _ h) n
  | non => exact .non
  | str => exact .str
  | bl h => exact .bl (s.tup h)
theorem Bd.th {N : Addr -> Prop} {H : Hp} {v : V} (h : Bd K H N v) : Th K H v false := by
  cases h with
  | nums h hn hl =>
    rw [<- decide_eq_false hn]
    exact .nums h (by omega)
  | lst h _ => exact .lst h
  | non => exact .non
  | str => exact .str _
  | bl h => exact .bad (es := [(.bl true, false)]) h (by decide) (fun e he => by
      have : e = (.bl true, false) := by simpa using he
      rw [this]
      exact .bl true) rfl
inductive Pv (K : PySem.W.Frag) (H : Hp) (N : Addr -> Prop) (v : V) : Prop where
  | po {p : List Int} (h : Po K H v p 60 5000) : Pv K H N v
  | bd (h : Bd K H N v) : Pv K H N v
theorem Pv.mono {N : Addr -> Prop} {H H' : Hp} {v : V} (h : Pv K H N v) (s : Same H H') : Pv K H' N v := by
  cases h with
  | po h => exact .po (h.mono s)
  | bd h => exact .bd (h.mono s)
theorem Xg {N : Addr -> Prop} {H : Hp} {a : Addr} {ns : List Int} (h : SqT K H a (ns.map V.int)) (hl : ns.length <= 60) (hz : ∀ x ∈ ns, Sz 5000 x) : Pv K H N (.ref a) := by
  by_cases e : trim ns = ns
  . exact .po ⟨⟨a, rfl, h⟩, by rw [<- e]; exact Bb _, hl, Sv (by decide) hz⟩
  . exact .bd (.nums h e hl)
theorem U9 {H : Hp} {a l : Addr} {xs ys : List V} {o : HO} (h : SqT K H a xs) (hl : H l = some (.lst ys)) : SqT K (upd H l o) a xs := by
  rcases h with (h | ⟨u, h⟩) | h
  . refine .inl (.inl ?_)
    rw [Cp (by rintro rfl; rw [hl] at h; cases h)]
    exact h
  . refine .inl (.inr ⟨u, ?_⟩)
    rw [Cp (by rintro rfl; rw [hl] at h; cases h)]
    exact h
  . exact .inr h
theorem Pv.put {N : Addr -> Prop} {H : Hp} {l : Addr} {ys : List V} {o : HO} {v : V} (h : Pv K H N v) (hl : H l = some (.lst ys)) (n : ∀ a, N a -> a ≠ l) : Pv K (upd H l o) (fun _ => True) v := by
  cases h with
  | po h =>
    obtain ⟨⟨a, e, ha⟩, t⟩ := h
    exact .po ⟨⟨a, e, U9 ha hl⟩, t⟩
  | bd h =>
    cases h with
    | nums h hn hl' => exact .bd (.nums (U9 h hl) hn hl')
    | lst h hn => exact .bd (.lst (by rw [Cp (n _ hn)]; exact h) trivial)
    | non => exact .bd .non
    | str => exact .bd .str
    | bl h => exact .bd (.bl (U9 h hl))
theorem Hv {H H1 : Hp} {Q : VK} {E : XK} {x : V} {c : Int} {p : List Int} {l n m : Nat} (hx : Po K H1 x p l n) (s1 : Same H1 H) (zc : Sz m c) (b1 : l <= 500) (b2 : n + m <= 100000000) (h : ∀ z H', Same H H' -> Po K H' z (ng p c) l (n + m) -> Q z H') : G8 K [x, .int c] H Q E := ⟨x, c, p, l, n, m, rfl, hx.mono s1, zc, b1, b2, h⟩
theorem Aec (xs : List V) : Nh xs (some 1) none = xs.drop 1 := by
  unfold Nh
  rw [HT.N8, show (some (1 : Int)) = some ((1 : Nat) : Int) from rfl, HT.Ra]
  cases xs with
  | nil => rfl
  | cons x r =>
    rw [Nat.min_eq_left (by simp), List.take_of_length_le (by simp)]
theorem Ahu (xs : List V) : Nh xs none (some 1) = xs.take 1 := by
  unfold Nh
  rw [HT.N8, show (some (1 : Int)) = some ((1 : Nat) : Int) from rfl, HT.Ra]
  cases xs with
  | nil => rfl
  | cons x r =>
    rw [Nat.min_eq_left (by simp)]
    rfl
theorem Aho {p : List Int} {n : Nat} (h : ∀ x ∈ p, Sz n x) (hn : 0 < n) : Sz n (p.take 1).sum := by
  cases p with
  | nil => exact Sz0 hn
  | cons a r =>
    have : ((a :: r).take 1).sum = a := by simp
    rw [this]
    exact h a (by simp)
theorem Ahs {H : Hp} {r : Addr} {i : Int} {v0 v1 v2 v3 v4 v5 : V} {Q : VK} (h : SqL K H r [v0, v1, v2, v3, v4, v5]) (e : i = 0 \/ i = 1 \/ i = 2 \/ i = 3 \/ i = 4 \/ i = 5) (q0 : Q v0 H) (q1 : Q v1 H) (q2 : Q v2 H) (q3 : Q v3 H) (q4 : Q v4 H) (q5 : Q v5 H) : Aie K (.ref r) (.int i) H Q := by
  rcases e with rfl | rfl | rfl | rfl | rfl | rfl
  . exact ⟨r, _, _, _, rfl, rfl, h, rfl, q0⟩
  . exact ⟨r, _, _, _, rfl, rfl, h, rfl, q1⟩
  . exact ⟨r, _, _, _, rfl, rfl, h, rfl, q2⟩
  . exact ⟨r, _, _, _, rfl, rfl, h, rfl, q3⟩
  . exact ⟨r, _, _, _, rfl, rfl, h, rfl, q4⟩
  . exact ⟨r, _, _, _, rfl, rfl, h, rfl, q5⟩
def Vs (K : PySem.W.Frag) : Sp := fun vs H Q _ => ∃ (x : V) (p : List Int) (c : Int), vs = [x, .int c] /\ Po K H x p 20 3000 /\ ∀ v H', Same H H' -> Pv K H' (fun a => H a = none) v -> Q v H'
theorem Ack {f : Addr} {fd : FuncData} (F : Df K mg "_law_part" Ue ["_law_part_here", "_law_cell"] f fd) (z_list : mg "list" = none) (z_sum : mg "sum" = none)  (c_scaled : Cal P w K mg base 1 "scaled" ["one", "factor"] (G8 K)) (c_p_times : Cal P w K mg base 1 "p_times" ["one", "other"] (Dd K)) (c_poly : Cal P w K mg base 1 "poly" ["weights"] (Ij K)) : Cal P w K mg base 2 "_law_part" ["_law_part_here", "_law_cell"] (Vs K) := by
  refine F.cal (F.fn.ok Va (fun vs H Q E h => ?_) (fun cdv A outer s H vs Q E hr h => ?_))
  . obtain ⟨x, p, c, rfl, _⟩ := h
    rfl
  obtain ⟨x, p, c, rfl, hx, k⟩ := h
  obtain ⟨⟨a, rfl, ha⟩, tp, lp, zp⟩ := id hx
  have hm := hx.mem
  refine S.Bm ⟨_, (S.Ac (S.Aj (i := 2) Va.nd rfl (Or.inl rfl) (S.Ak Ci (S.pv 1) S.Ad))
      (S.Ac (S.Bv (S.Ah Jd (S.pv 2) S.Ad (Ao _)) (S.Af (S.Aq (S.Ai c_scaled (hr.mono (by decide)) (S.Aa (S.pv 0) (S.Aa (S.Ak Cz S.Ad (S.Ak Ci (S.Ak Bw (S.pv 1) S.Ad) S.Ad)) S.Ab))))) S.Av)
      (S.Ac (S.Bv (S.Ah Jd (S.pv 2) S.Ad (Ao _)) (S.Af (S.Aq (S.Ai c_p_times (hr.mono (by decide)) (S.Aa (S.pv 0) (S.Aa (S.Az (S.Aa S.Ad (S.Aa S.Ad S.Ab))) S.Ab))))) S.Av)
      (S.Ac (S.Bv (S.Ah Jd (S.pv 2) S.Ad (Ao _)) (S.Af (S.Aq (S.Ai c_scaled (hr.mono (by decide)) (S.Aa (S.pv 0) (S.Aa (S.Eb Cd S.Ad) S.Ab))))) S.Av)
      (S.Ac (S.Bv (S.Ah Jd (S.pv 2) S.Ad (Ao _)) (S.Af (S.Aq (S.Ai c_poly (hr.mono (by decide)) (S.Aa (S.Ak Aao (S.G7 (S.Aa (S.Ak Cz (S.Ak Cz S.Ad (S.Ak Ci (S.Ak Bw (S.pv 1) S.Ad) S.Ad)) (S.Dj (Aan rfl) rfl z_sum PyProof.Rows.boot_sum (S.Aa (S.Dh Ho (S.pv 0) S.Ej (S.Em S.Ad)) S.Ab))) S.Ab)) (S.Gy Dz rfl z_list PyProof.Rows.boot_list (S.Aa (S.Dh Ho (S.pv 0) (S.Em S.Ad) S.Ej) S.Ab))) S.Ab)))) S.Av)
      (S.Ac (S.Bv (S.Ah Jd (S.pv 2) S.Ad (Ao _)) (S.Af (S.Aq (S.Dh Ho (S.pv 0) (S.Em S.Ad) S.Ej))) S.Av)
      (S.Ac (S.Bv (S.Ah Jd (S.pv 2) S.Ad (Ao _)) (S.Af (S.Aq (S.Az S.Ab))) S.Av)
      (S.Af (S.Aq (S.Bt Dp (S.G7 (S.Aa (S.Aas (S.pv 0) (S.Eb Cd S.Ad)) (S.Aa (S.Gy Dz rfl z_list PyProof.Rows.boot_list (S.Aa (S.pv 0) S.Ab)) (S.Aa S.Mu (S.Aa S.O9 (S.Aa (S.Az (S.Aa S.Ad (S.Aa S.Ad S.Ab))) (S.Aa (S.Az (S.Aa S.Ia S.Ab)) S.Ab))))))) (S.Ak Ci (S.Ak Bw (S.pv 1) S.Ad) S.Ad) (fun _ _ => rfl))))))))))), ?_⟩
  contradiction
  refine ⟨by decide, ?_⟩
  split
  . refine ⟨⟨by decide, by decide⟩, by decide, Hv hx (Same.refl _) (show Sz 3 (2 + c / 8 % 5) by unfold Sz; omega) (by decide) (by decide) fun z H1 s1 i1 => k _ _ s1 (.po (Bj i1 (by decide) (by decide)))⟩
  split
  . (intro q1 hq1; generalize eq1 : upd _ q1 _ = Gq1; obtain ⟨sq1, gq1⟩ := nw hq1 eq1; clear eq1 hq1)
    exact Ea hx sq1 (po2 (l := 2) (n := 1) gq1 (by decide) (by decide) (by decide) (by unfold Sz; decide) (by unfold Sz; decide)) (Same.refl _) (by decide) (by decide) (by decide) fun z H1 s1 i1 => k _ _ (sq1.trans s1) (.po (Bj i1 (by decide) (by decide)))
  split
  . exact Hv hx (Same.refl _) (show Sz 1 (-1 : Int) by unfold Sz; decide) (by decide) (by decide) fun z H1 s1 i1 => k _ _ s1 (.po (Bj i1 (by decide) (by decide)))
  split
  . refine ⟨⟨by decide, by decide⟩, by decide, a, _, rfl, ha, fun z1 H1 s1 h1 => ?_⟩
    rw [Ahu, <- List.map_take] at h1
    refine ⟨z1, _, rfl, h1, fun l2 hl2 => ?_⟩
    have s2 := Same.upd hl2 (.lst [V.int (1 + c / 8 % 3 + (p.take 1).sum)])
    refine ⟨a, _, rfl, (s1.trans s2).tup ha, fun z3 H3 s3 h3 => ?_⟩
    rw [Aec, <- List.map_drop] at h3
    refine ⟨z3, _, rfl, .inr h3, fun l4 hl4 => ?_⟩
    have s4 := Same.upd hl4 (.lst ((p.drop 1).map V.int))
    refine ⟨l2, l4, _, _, rfl, rfl, (s3.trans s4) _ _ Ae, Ae, ?_, fun l5 hl5 => ?_⟩
    . rw [List.length_map, List.length_drop]
      exact Nat.le_trans (show 1 + (p.length - 1) <= 21 by omega) (by decide)
    have s5 := Same.upd hl5 (.lst ([V.int (1 + c / 8 % 3 + (p.take 1).sum)] ++ (p.drop 1).map V.int))
    refine ⟨l5, (1 + c / 8 % 3 + (p.take 1).sum) :: p.drop 1, rfl, .inl (.of Ae), ?_, fun z6 H6 s6 h6 => ?_⟩
    . rw [List.length_cons, List.length_drop]
      omega
    refine k _ _ (((((s1.trans s2).trans s3).trans s4).trans s5).trans s6) (.po ⟨⟨z6, rfl, h6⟩, Bb _, Nat.le_trans (Hs _) ?_, fun i => ?_⟩)
    . rw [List.length_cons, List.length_drop]
      omega
    . rw [Aw]
      refine Sv (by decide) (fun x hx' => ?_) i
      rcases List.mem_cons.mp hx' with rfl | hx'
      . have z2 : Sz 3 (1 + c / 8 % 3) := by unfold Sz; omega
        exact (z2.add (Aho hm (by decide))).mono (by decide)
      . exact (hm x (List.mem_of_mem_drop hx')).mono (by decide)
  split
  . refine ⟨a, _, rfl, ha, fun z1 H1 s1 h1 => ?_⟩
    rw [Aec, <- List.map_drop] at h1
    refine k _ _ s1 (Xg h1 (by rw [List.length_drop]; omega) fun x hx => (hm x (List.mem_of_mem_drop hx)).mono (by decide))
  split
  . exact ⟨by decide, fun q hq => k _ _ (Same.upd hq _) (Xg (ns := []) (.of Ae) (by decide) (by simp))⟩
  . refine ⟨a, _, rfl, ha, fun r1 hr1 => ?_⟩
    have s1 := Same.upd hr1 (.tup (p.map V.int).reverse)
    have g1 : upd H r1 (.tup (p.map V.int).reverse) r1 = some (.tup (p.map V.int).reverse) := Ae
    generalize upd H r1 (.tup (p.map V.int).reverse) = H1 at s1 g1
    refine ⟨a, _, rfl, .inr (s1.tup ha), fun l hl => ?_⟩
    have s2 := Same.upd hl (.lst (p.map V.int))
    have g2 : upd H1 l (.lst (p.map V.int)) l = some (.lst (p.map V.int)) := Ae
    generalize upd H1 l (.lst (p.map V.int)) = H2 at s2 g2
    intro r3 hr3
    have s3 := Same.upd hr3 (.tup [V.int 0, V.int 0])
    have g3 : upd H2 r3 (.tup [V.int 0, V.int 0]) r3 = some (.tup [V.int 0, V.int 0]) := Ae
    generalize upd H2 r3 (.tup [V.int 0, V.int 0]) = H3 at s3 g3
    intro r4 hr4
    have s4 := Same.upd hr4 (.tup [V.bl true])
    have g4 : upd H3 r4 (.tup [V.bl true]) r4 = some (.tup [V.bl true]) := Ae
    generalize upd H3 r4 (.tup [V.bl true]) = H4 at s4 g4
    refine ⟨by decide, fun r5 hr5 => ⟨⟨by decide, by decide⟩, by decide, ?_⟩⟩
    have s5 := Same.upd hr5 (.lst [V.ref r1, V.ref l, V.non, V.str (Str.ofString "x"), V.ref r3, V.ref r4])
    have s := (((s1.trans s2).trans s3).trans s4).trans s5
    have e6 : c / 8 % 6 = 0 \/ c / 8 % 6 = 1 \/ c / 8 % 6 = 2 \/ c / 8 % 6 = 3 \/ c / 8 % 6 = 4 \/ c / 8 % 6 = 5 := by omega
    refine Ahs (.of Ae) e6 ?_ ?_ ?_ ?_ ?_ ?_
    . refine k _ _ s (Xg (ns := p.reverse) ?_ (by rw [List.length_reverse]; omega) fun x hx => (hm x (List.mem_reverse.mp hx)).mono (by decide))
      rw [List.map_reverse]
      exact .of ((((s2.trans s3).trans s4).trans s5) _ _ g1)
    . exact k _ _ s (.bd (.lst (((s3.trans s4).trans s5) _ _ g2) (s1.free hl)))
    . exact k _ _ s (.bd .non)
    . exact k _ _ s (.bd .str)
    . exact k _ _ s (.bd (.nums (ns := [0, 0]) (.of ((s4.trans s5) _ _ g3)) (by decide) (by decide)))
    . exact k _ _ s (.bd (.bl (.of (s5 _ _ g4))))
inductive Du (K : PySem.W.Frag) (H : Hp) (p q : List Int) : V -> Bool -> Prop where
  | good {z : Addr} {vT vB va vb : V} {T B a b : List Int} {c : Int} (h : SqT K H z [vT, vB, va, vb, .int c]) (hT : Po K H vT T 60 5000) (hB : Po K H vB B 60 5000) (ha : Po K H va a 60 5000) (hb : Po K H vb b 60 5000) : Du K H p q (.ref z) (rB p q T B a b c)
  | odd {z : Addr} {v1 v2 v3 v4 v5 : V} (h : SqT K H z [v1, v2, v3, v4, v5]) (h1 : Pv K H (fun _ => True) v1) (h2 : Pv K H (fun _ => True) v2) (h3 : Pv K H (fun _ => True) v3) (h4 : Pv K H (fun _ => True) v4) (h5 : v5 = .non \/ v5 = .bl true) : Du K H p q (.ref z) false
  | bad {z : Addr} {v1 v2 v3 v4 v5 : V} {b5 : Bool} (h : SqT K H z [v1, v2, v3, v4, v5]) (h1 : Pv K H (fun _ => True) v1) (h2 : Pv K H (fun _ => True) v2) (h3 : Pv K H (fun _ => True) v3) (h4 : Pv K H (fun _ => True) v4) (h5 : Wh K H v5 b5) (hb : Bd K H (fun _ => True) v1 \/ Bd K H (fun _ => True) v2 \/ Bd K H (fun _ => True) v3 \/ Bd K H (fun _ => True) v4) : Du K H p q (.ref z) false
  | long {z : Addr} {xs : List V} (h : SqT K H z xs) (hl : xs.length ≠ 5) : Du K H p q (.ref z) false
theorem Du.mono {H H' : Hp} {p q : List Int} {v : V} {t : Bool} (h : Du K H p q v t) (s : Same H H') : Du K H' p q v t := by
  cases h with
  | good h hT hB ha hb => exact .good (s.tup h) (hT.mono s) (hB.mono s) (ha.mono s) (hb.mono s)
  | odd h h1 h2 h3 h4 h5 => exact .odd (s.tup h) (h1.mono s) (h2.mono s) (h3.mono s) (h4.mono s) h5
  | bad h h1 h2 h3 h4 h5 hb => exact .bad (s.tup h) (h1.mono s) (h2.mono s) (h3.mono s) (h4.mono s) (h5.mono s) (hb.imp (·.mono s) (·.imp (·.mono s) (·.imp (·.mono s) (·.mono s))))
  | long h hl => exact .long (s.tup h) hl
theorem Pv.th {H : Hp} {v : V} (h : Pv K H (fun _ => True) v) : ∃ b, Th K H v b := by
  cases h with
  | po h => exact ⟨_, h.th (by decide)⟩
  | bd h => exact ⟨_, h.th⟩
theorem Du.tp {H : Hp} {p q : List Int} {v : V} {t : Bool} (h : Du K H p q v t) : Tp K H p q v t := by
  cases h with
  | good h hT hB ha hb => exact .good h hT hB ha hb
  | odd h h1 h2 h3 h4 h5 =>
    obtain ⟨b1, h1⟩ := h1.th
    obtain ⟨b2, h2⟩ := h2.th
    obtain ⟨b3, h3⟩ := h3.th
    obtain ⟨b4, h4⟩ := h4.th
    rcases h5 with rfl | rfl
    . exact .bad h h1 h2 h3 h4 .non (by simp)
    . exact .bad h h1 h2 h3 h4 (.bl true) (by simp)
  | bad h h1 h2 h3 h4 h5 hb =>
    obtain ⟨b1, h1⟩ := h1.th
    obtain ⟨b2, h2⟩ := h2.th
    obtain ⟨b3, h3⟩ := h3.th
    obtain ⟨b4, h4⟩ := h4.th
    rcases hb with hb | hb | hb | hb
    . exact .bad h hb.th h2 h3 h4 h5 (by simp)
    . exact .bad h h1 hb.th h3 h4 h5 (by simp)
    . exact .bad h h1 h2 hb.th h4 h5 (by simp)
    . exact .bad h h1 h2 h3 hb.th h5 (by simp)
  | long h hl => exact .long h hl
theorem Af4 {H : Hp} {p q : List Int} {z : Addr} {v1 v2 v3 v4 v5 : V} (h : SqT K H z [v1, v2, v3, v4, v5]) (h1 : Pv K H (fun _ => True) v1) (h2 : Pv K H (fun _ => True) v2) (h3 : Pv K H (fun _ => True) v3) (h4 : Pv K H (fun _ => True) v4) (h5 : v5 = .non \/ v5 = .bl true \/ ∃ i, v5 = .int i) : ∃ t, Du K H p q (.ref z) t := by
  rcases h5 with h5 | h5 | ⟨i, rfl⟩
  . exact ⟨_, .odd h h1 h2 h3 h4 (.inl h5)⟩
  . exact ⟨_, .odd h h1 h2 h3 h4 (.inr h5)⟩
  cases id h1 with
  | bd hb => exact ⟨_, .bad h h1 h2 h3 h4 (.int i) (.inl hb)⟩
  | po g1 =>
    cases id h2 with
    | bd hb => exact ⟨_, .bad h h1 h2 h3 h4 (.int i) (.inr (.inl hb))⟩
    | po g2 =>
      cases id h3 with
      | bd hb => exact ⟨_, .bad h h1 h2 h3 h4 (.int i) (.inr (.inr (.inl hb)))⟩
      | po g3 =>
        cases id h4 with
        | bd hb => exact ⟨_, .bad h h1 h2 h3 h4 (.int i) (.inr (.inr (.inr hb)))⟩
        | po g4 => exact ⟨_, .good h g1 g2 g3 g4⟩
theorem Eh {N : Addr -> Prop} {H : Hp} {v : V} {p : List Int} {l n : Nat} (h : Po K H v p l n) (h1 : l <= 60) (h2 : n <= 5000) : Pv K H N v := .po (Bj h h1 h2)
def Kt (K : PySem.W.Frag) (H : Hp) (p q : List Int) (Q : VK) : Prop := ∀ x H' t, Same H H' -> Du K H' p q x t -> Q x H'
theorem Acv {H Hx : Hp} {p q : List Int} {Q : VK} {l : Addr} {v1 v2 v3 v4 v5 : V} (k : Kt K H p q Q) (s : Same H Hx) (h : Hx l = some (.lst [v1, v2, v3, v4, v5])) (h1 : Pv K Hx (fun _ => True) v1) (h2 : Pv K Hx (fun _ => True) v2) (h3 : Pv K Hx (fun _ => True) v3) (h4 : Pv K Hx (fun _ => True) v4) (h5 : v5 = .non \/ v5 = .bl true \/ ∃ i, v5 = .int i) : ∃ r ys, [V.ref l] = [V.ref r] /\ ((SqL K Hx r ys /\ ∀ t, Hx t = none -> Q (.ref t) (upd Hx t (.tup ys))) \/ SqT K Hx r ys /\ Q (.ref r) Hx) := by
  refine ⟨l, _, rfl, .inl ⟨.of h, fun t ht => ?_⟩⟩
  have s2 := Same.upd ht (.tup [v1, v2, v3, v4, v5])
  obtain ⟨t', d⟩ := Af4 (p := p) (q := q) (.of Ae) (h1.mono s2) (h2.mono s2) (h3.mono s2) (h4.mono s2) h5
  exact k _ _ t' (s.trans s2) d
theorem Akb {H Hx : Hp} {p q : List Int} {Q : VK} {l : Addr} {xs : List V} (k : Kt K H p q Q) (s : Same H Hx) (h : Hx l = some (.lst xs)) (n : xs.length ≠ 5) : ∃ r ys, [V.ref l] = [V.ref r] /\ ((SqL K Hx r ys /\ ∀ t, Hx t = none -> Q (.ref t) (upd Hx t (.tup ys))) \/ SqT K Hx r ys /\ Q (.ref r) Hx) :=
  ⟨l, _, rfl, .inl ⟨.of h, fun t ht => k _ _ _ (s.trans (Same.upd ht _)) (.long (.of Ae) n)⟩⟩
structure Fv (K : PySem.W.Frag) (H : Hp) (u v s r : Addr) (T B a b : List Int) : Prop where
  iu : Po K H (.ref u) T 20 3000
  iv : Po K H (.ref v) B 20 3000
  is : Po K H (.ref s) a 20 3000
  ir : Po K H (.ref r) b 20 3000
def Rf (K : PySem.W.Frag) : Sp := fun vs H Q _ => ∃ (z u v s r : Addr) (c d : Int) (p q T B a b : List Int), vs = [.ref z, .int d] /\ FdP K H z u v s r c p q T B a b /\ Kt K H p q Q
theorem Xp {f : Addr} {fd : FuncData} (F : Df K mg "_law_turned" Oz ["_law_paper", "_law_cell"] f fd) (z_list : mg "list" = none) (z_tuple : mg "tuple" = none)  (c_q_part : Cal P w K mg base 2 "_law_part" ["_law_part_here", "_law_cell"] (Vs K)) : Cal P w K mg base 3 "_law_turned" ["_law_paper", "_law_cell"] (Rf K) := by
  refine F.cal (F.fn.ok Hr (fun vs H Q E h => ?_) (fun cdv A outer s H vs Q E hr h => ?_))
  . obtain ⟨z, u, v, s, r, c, d, p, q, T, B, a, b, rfl, _⟩ := h
    rfl
  obtain ⟨z, u, v, s, r, c, d, p, q, T, B, a, b, rfl, hp, k⟩ := h
  refine S.Bm ⟨_, (S.Ac (S.Aj (i := 2) Hr.nd rfl (Or.inl rfl) (S.Gy Dz rfl z_list PyProof.Rows.boot_list (S.Aa (S.pv 0) S.Ab)))
      (S.Ac (S.Aj (i := 3) Hr.nd rfl (Or.inl rfl) (S.Ak Ci (S.pv 1) S.Ad))
      (S.Ac (S.Bv (S.Ah S6 (S.pv 3) S.Ad (Ao _)) (S.Af (S.El (S.Ai c_q_part (hr.mono (by decide)) (S.Aa (S.Bt Dp (S.pv 2) (S.pv 3) (fun _ _ => rfl)) (S.Aa (S.Ak Bw (S.pv 1) S.Ad) S.Ab))) (S.Ji (S.pv 2) (S.pv 3) set_list))) (S.Af (S.Bv (S.Ah Jd (S.pv 3) S.Ad (Ao _)) (S.Af (S.El (S.Bt Dp (S.G7 (S.Aa (S.Ak Dy (S.Bt Dp (S.pv 2) S.Ad (fun _ _ => rfl)) S.Ad) (S.Aa S.Ad (S.Aa (S.Eb Cd (S.Bt Dp (S.pv 2) S.Ad (fun _ _ => rfl))) (S.Aa S.Ad (S.Aa S.Ia (S.Aa S.Mu S.Ab))))))) (S.Ak Ci (S.Ak Bw (S.pv 1) S.Ad) S.Ad) (fun _ _ => rfl)) (S.Ji (S.pv 2) S.Ad set_list))) (S.Af (S.Bv (S.Ah Jd (S.pv 3) S.Ad (Ao _)) (S.Ac (S.Aj (i := 4) Hr.nd rfl (Or.inl rfl) (S.Ak Ci (S.Ak Bw (S.pv 1) S.Ad) S.Ad))
      (S.Ac (S.Aj (i := 5) Hr.nd rfl (Or.inl rfl) (S.Ak Cz S.Ad (S.Ak Ci (S.Ak Bw (S.pv 1) S.Ad) S.Ad)))
      (S.Af (S.El (S.Az (S.Aa (S.Bt Dp (S.pv 2) (S.pv 5) (fun _ _ => rfl)) (S.Aa (S.Bt Dp (S.pv 2) (S.pv 4) (fun _ _ => rfl)) S.Ab))) (S.Gz rfl (S.Ar (S.Ji (S.pv 2) (S.pv 4) set_list) (S.Ar (S.Ji (S.pv 2) (S.pv 5) set_list) S.Ed))))))) (S.Af (S.Aj (i := 2) Hr.nd rfl (Or.inl rfl) (S.Bt Dp (S.G7 (S.Aa (S.Dh Wv (S.pv 2) S.Ej (S.Em S.Ad)) (S.Aa (S.Ak Aao (S.pv 2) (S.G7 (S.Aa S.Ad S.Ab))) (S.Aa (S.Ak Aao (S.G7 (S.Aa (S.Bt Dp (S.pv 2) S.Ad (fun _ _ => rfl)) (S.Aa (S.Bt Dp (S.pv 2) S.Ad (fun _ _ => rfl)) S.Ab))) (S.Dh Wv (S.pv 2) (S.Em S.Ad) S.Ej)) S.Ab)))) (S.Ak Ci (S.Ak Bw (S.pv 1) S.Ad) S.Ad) (fun _ _ => rfl)))))))))
      (S.Af (S.Aq (S.Gy Ep rfl z_tuple PyProof.Rows.boot_tuple (S.Aa (S.pv 2) S.Ab))))))), ?_⟩
  refine Bl (fun σ' H' => Same H H' /\ ∃ l, H l = none /\ σ' = [some (.ref z), some (.int d), some (.ref l), none, none, none] /\ H' l = some (.lst [.ref u, .ref v, .ref s, .ref r, .int c])) (fun M hM => ?_) ?_
  . contradiction
    exact ⟨z, _, rfl, .inr hp.it, fun l hl => hM _ _ ⟨Same.upd hl _, l, hl, rfl, Ae⟩⟩
  rintro σ H1 ⟨s1, l, nl, rfl, hl⟩
  have iu := hp.iu
  have iv := hp.iv
  have is := hp.is
  have ir := hp.ir
  clear hp
  contradiction
  refine ⟨by decide, ?_⟩
  split
  . have e4 : d % 7 = 0 \/ d % 7 = 1 \/ d % 7 = 2 \/ d % 7 = 3 := by omega
    have nn : ∀ H2, Same H1 H2 -> ∀ a, H1 a = none -> a ≠ l := fun H2 _ a ha e => by rw [e, hl] at ha; cases ha
    rcases e4 with e | e | e | e
    . rw [e]
      refine Jo (.of hl) (v := .ref u) rfl ⟨⟨by decide, by decide⟩, _, T, _, rfl, Bj (iu.mono s1) (by decide) (by decide), fun x H2 s2 hx => ⟨l, _, _, 0, rfl, rfl, s2 _ _ hl, rfl, ?_⟩⟩
      have sp := (s1.trans s2).put (o := .lst ([.ref u, .ref v, .ref s, .ref r, .int c].set 0 x)) nl
      exact Acv k sp Ae (hx.put (s2 _ _ hl) (nn _ s2)) (Eh (iv.mono sp) (by decide) (by decide)) (Eh (is.mono sp) (by decide) (by decide)) (Eh (ir.mono sp) (by decide) (by decide)) (.inr (.inr ⟨_, rfl⟩))
    . rw [e]
      refine Jo (.of hl) (v := .ref v) rfl ⟨⟨by decide, by decide⟩, _, B, _, rfl, Bj (iv.mono s1) (by decide) (by decide), fun x H2 s2 hx => ⟨l, _, _, 1, rfl, rfl, s2 _ _ hl, rfl, ?_⟩⟩
      have sp := (s1.trans s2).put (o := .lst ([.ref u, .ref v, .ref s, .ref r, .int c].set 1 x)) nl
      exact Acv k sp Ae (Eh (iu.mono sp) (by decide) (by decide)) (hx.put (s2 _ _ hl) (nn _ s2)) (Eh (is.mono sp) (by decide) (by decide)) (Eh (ir.mono sp) (by decide) (by decide)) (.inr (.inr ⟨_, rfl⟩))
    . rw [e]
      refine Jo (.of hl) (v := .ref s) rfl ⟨⟨by decide, by decide⟩, _, a, _, rfl, Bj (is.mono s1) (by decide) (by decide), fun x H2 s2 hx => ⟨l, _, _, 2, rfl, rfl, s2 _ _ hl, rfl, ?_⟩⟩
      have sp := (s1.trans s2).put (o := .lst ([.ref u, .ref v, .ref s, .ref r, .int c].set 2 x)) nl
      exact Acv k sp Ae (Eh (iu.mono sp) (by decide) (by decide)) (Eh (iv.mono sp) (by decide) (by decide)) (hx.put (s2 _ _ hl) (nn _ s2)) (Eh (ir.mono sp) (by decide) (by decide)) (.inr (.inr ⟨_, rfl⟩))
    . rw [e]
      refine Jo (.of hl) (v := .ref r) rfl ⟨⟨by decide, by decide⟩, _, b, _, rfl, Bj (ir.mono s1) (by decide) (by decide), fun x H2 s2 hx => ⟨l, _, _, 3, rfl, rfl, s2 _ _ hl, rfl, ?_⟩⟩
      have sp := (s1.trans s2).put (o := .lst ([.ref u, .ref v, .ref s, .ref r, .int c].set 3 x)) nl
      exact Acv k sp Ae (Eh (iu.mono sp) (by decide) (by decide)) (Eh (iv.mono sp) (by decide) (by decide)) (Eh (is.mono sp) (by decide) (by decide)) (hx.put (s2 _ _ hl) (nn _ s2)) (.inr (.inr ⟨_, rfl⟩))
  split
  . refine Jo (.of hl) (v := .int c) rfl ⟨c, 2, rfl, rfl, .of_right (V1 (by unfold Sz; decide : Sz 2 (2 : Int)) (by decide)), Jo (.of hl) (v := .int c) rfl ⟨c, rfl, by decide, fun m hm => ⟨⟨by decide, by decide⟩, by decide, ?_⟩⟩⟩
    have sm := Same.upd hm (.lst [V.int (c * 2), V.int 0, V.int (-c), V.int 1, V.bl true, V.non])
    have hl2 := sm _ _ hl
    have g : upd H1 m (.lst [V.int (c * 2), V.int 0, V.int (-c), V.int 1, V.bl true, V.non]) m = _ := Ae
    generalize upd H1 m (.lst [V.int (c * 2), V.int 0, V.int (-c), V.int 1, V.bl true, V.non]) = H2 at sm hl2 g
    have e6 : d / 7 % 6 = 0 \/ d / 7 % 6 = 1 \/ d / 7 % 6 = 2 \/ d / 7 % 6 = 3 \/ d / 7 % 6 = 4 \/ d / 7 % 6 = 5 := by omega
    have fin : ∀ x, (x = .non \/ x = .bl true \/ ∃ i, x = .int i) -> Afl (.ref l) (.int 4) x H2 fun H3 => ∃ r ys, [V.ref l] = [V.ref r] /\ ((SqL K H3 r ys /\ ∀ t, H3 t = none -> Q (.ref t) (upd H3 t (.tup ys))) \/ SqT K H3 r ys /\ Q (.ref r) H3) := fun x hx => by
      refine ⟨l, _, _, 4, rfl, rfl, hl2, rfl, ?_⟩
      have sp := (s1.trans sm).put (o := .lst ([.ref u, .ref v, .ref s, .ref r, .int c].set 4 x)) nl
      exact Acv k sp Ae (Eh (iu.mono sp) (by decide) (by decide)) (Eh (iv.mono sp) (by decide) (by decide)) (Eh (is.mono sp) (by decide) (by decide)) (Eh (ir.mono sp) (by decide) (by decide)) hx
    exact Ahs (.of g) e6 (fin _ (.inr (.inr ⟨_, rfl⟩))) (fin _ (.inr (.inr ⟨_, rfl⟩))) (fin _ (.inr (.inr ⟨_, rfl⟩))) (fin _ (.inr (.inr ⟨_, rfl⟩))) (fin _ (.inr (.inl rfl))) (fin _ (.inl rfl))
  split
  . refine ⟨⟨by decide, by decide⟩, by decide, ⟨by decide, by decide⟩, by decide, ?_⟩
    have e1 : d / 7 % 2 = 0 \/ d / 7 % 2 = 1 := by omega
    have e2 : 2 + d / 14 % 2 = 2 \/ 2 + d / 14 % 2 = 3 := by omega
    rcases e1 with e1 | e1 <;> rcases e2 with e2 | e2
    . rw [e1, e2]
      refine Jo (.of hl) (v := .ref s) rfl (Jo (.of hl) (v := .ref u) rfl fun m hm => ⟨m, _, rfl, .of Ae, rfl, _, _, rfl, ?_⟩)
      simp only [Agm, Mr, Ac5, J8, Fy, Jz, Kq, Fw, Kr, Cv, Kv, Fl, Ga, z_c, R4, Sh, Sd, J1, R6, Jw, Ka, Jm, Ku, Es, R8, Kf, J3, Ko, Fj, Ey, J6, Kw, S5, Fb, Jp, Gn, Sq, Ge, J2, Fz, Sy, J0, J7, Dw, Gg, Gk, Gj, Dq, Fg, Jq, Km, Kd, Io, Sw, Cg, Gd, Kh, Sx, Js, Ft, Jr, Jl, Gf, Kl, Gq, Gh, Gs, Dr, Ju, Ds, Gb, Eu, Fq, Dl, J9, Fp, J5, Gm, Ew, Fi, Dn, Fx, R9, cpσ, List.getElem?_cons_zero, List.getElem?_cons_succ, Option.join_some, List.set_cons_zero, List.set_cons_succ, List.append_nil, decide_eq_true_eq, Bool.not_eq_true', decide_eq_false_iff_not, Bool.not_not, ite_not, Bool.false_eq_true, Bool.true_eq_false, if_false, if_true, if_pos, List.length_cons, List.length_nil, Nat.zero_add, Nat.reduceAdd, Fe, Ez, true_and, and_true, L2.start, List.map_cons, List.map_nil, Bool.not_true, Bool.not_false, Nat.reduceSub, List.replicate_succ, List.replicate_zero, List.cons_append, List.nil_append]
      refine ⟨l, _, _, 0, rfl, rfl, Same.upd hm _ _ _ hl, rfl, _, _, rfl, l, _, _, 2, rfl, rfl, Ae, rfl, rfl, ?_⟩
      rw [U4]
      have sp := (s1.trans (Same.upd hm (.tup [.ref s, .ref u]))).put (o := .lst (([.ref u, .ref v, .ref s, .ref r, .int c].set 0 (.ref s)).set 2 (.ref u))) nl
      exact Acv k sp Ae (Eh (is.mono sp) (by decide) (by decide)) (Eh (iv.mono sp) (by decide) (by decide)) (Eh (iu.mono sp) (by decide) (by decide)) (Eh (ir.mono sp) (by decide) (by decide)) (.inr (.inr ⟨_, rfl⟩))
    . rw [e1, e2]
      refine Jo (.of hl) (v := .ref r) rfl (Jo (.of hl) (v := .ref u) rfl fun m hm => ⟨m, _, rfl, .of Ae, rfl, _, _, rfl, ?_⟩)
      simp only [Agm, Mr, Ac5, J8, Fy, Jz, Kq, Fw, Kr, Cv, Kv, Fl, Ga, z_c, R4, Sh, Sd, J1, R6, Jw, Ka, Jm, Ku, Es, R8, Kf, J3, Ko, Fj, Ey, J6, Kw, S5, Fb, Jp, Gn, Sq, Ge, J2, Fz, Sy, J0, J7, Dw, Gg, Gk, Gj, Dq, Fg, Jq, Km, Kd, Io, Sw, Cg, Gd, Kh, Sx, Js, Ft, Jr, Jl, Gf, Kl, Gq, Gh, Gs, Dr, Ju, Ds, Gb, Eu, Fq, Dl, J9, Fp, J5, Gm, Ew, Fi, Dn, Fx, R9, cpσ, List.getElem?_cons_zero, List.getElem?_cons_succ, Option.join_some, List.set_cons_zero, List.set_cons_succ, List.append_nil, decide_eq_true_eq, Bool.not_eq_true', decide_eq_false_iff_not, Bool.not_not, ite_not, Bool.false_eq_true, Bool.true_eq_false, if_false, if_true, if_pos, List.length_cons, List.length_nil, Nat.zero_add, Nat.reduceAdd, Fe, Ez, true_and, and_true, L2.start, List.map_cons, List.map_nil, Bool.not_true, Bool.not_false, Nat.reduceSub, List.replicate_succ, List.replicate_zero, List.cons_append, List.nil_append]
      refine ⟨l, _, _, 0, rfl, rfl, Same.upd hm _ _ _ hl, rfl, _, _, rfl, l, _, _, 3, rfl, rfl, Ae, rfl, rfl, ?_⟩
      rw [U4]
      have sp := (s1.trans (Same.upd hm (.tup [.ref r, .ref u]))).put (o := .lst (([.ref u, .ref v, .ref s, .ref r, .int c].set 0 (.ref r)).set 3 (.ref u))) nl
      exact Acv k sp Ae (Eh (ir.mono sp) (by decide) (by decide)) (Eh (iv.mono sp) (by decide) (by decide)) (Eh (is.mono sp) (by decide) (by decide)) (Eh (iu.mono sp) (by decide) (by decide)) (.inr (.inr ⟨_, rfl⟩))
    . rw [e1, e2]
      refine Jo (.of hl) (v := .ref s) rfl (Jo (.of hl) (v := .ref v) rfl fun m hm => ⟨m, _, rfl, .of Ae, rfl, _, _, rfl, ?_⟩)
      simp only [Agm, Mr, Ac5, J8, Fy, Jz, Kq, Fw, Kr, Cv, Kv, Fl, Ga, z_c, R4, Sh, Sd, J1, R6, Jw, Ka, Jm, Ku, Es, R8, Kf, J3, Ko, Fj, Ey, J6, Kw, S5, Fb, Jp, Gn, Sq, Ge, J2, Fz, Sy, J0, J7, Dw, Gg, Gk, Gj, Dq, Fg, Jq, Km, Kd, Io, Sw, Cg, Gd, Kh, Sx, Js, Ft, Jr, Jl, Gf, Kl, Gq, Gh, Gs, Dr, Ju, Ds, Gb, Eu, Fq, Dl, J9, Fp, J5, Gm, Ew, Fi, Dn, Fx, R9, cpσ, List.getElem?_cons_zero, List.getElem?_cons_succ, Option.join_some, List.set_cons_zero, List.set_cons_succ, List.append_nil, decide_eq_true_eq, Bool.not_eq_true', decide_eq_false_iff_not, Bool.not_not, ite_not, Bool.false_eq_true, Bool.true_eq_false, if_false, if_true, if_pos, List.length_cons, List.length_nil, Nat.zero_add, Nat.reduceAdd, Fe, Ez, true_and, and_true, L2.start, List.map_cons, List.map_nil, Bool.not_true, Bool.not_false, Nat.reduceSub, List.replicate_succ, List.replicate_zero, List.cons_append, List.nil_append]
      refine ⟨l, _, _, 1, rfl, rfl, Same.upd hm _ _ _ hl, rfl, _, _, rfl, l, _, _, 2, rfl, rfl, Ae, rfl, rfl, ?_⟩
      rw [U4]
      have sp := (s1.trans (Same.upd hm (.tup [.ref s, .ref v]))).put (o := .lst (([.ref u, .ref v, .ref s, .ref r, .int c].set 1 (.ref s)).set 2 (.ref v))) nl
      exact Acv k sp Ae (Eh (iu.mono sp) (by decide) (by decide)) (Eh (is.mono sp) (by decide) (by decide)) (Eh (iv.mono sp) (by decide) (by decide)) (Eh (ir.mono sp) (by decide) (by decide)) (.inr (.inr ⟨_, rfl⟩))
    . rw [e1, e2]
      refine Jo (.of hl) (v := .ref r) rfl (Jo (.of hl) (v := .ref v) rfl fun m hm => ⟨m, _, rfl, .of Ae, rfl, _, _, rfl, ?_⟩)
      simp only [Agm, Mr, Ac5, J8, Fy, Jz, Kq, Fw, Kr, Cv, Kv, Fl, Ga, z_c, R4, Sh, Sd, J1, R6, Jw, Ka, Jm, Ku, Es, R8, Kf, J3, Ko, Fj, Ey, J6, Kw, S5, Fb, Jp, Gn, Sq, Ge, J2, Fz, Sy, J0, J7, Dw, Gg, Gk, Gj, Dq, Fg, Jq, Km, Kd, Io, Sw, Cg, Gd, Kh, Sx, Js, Ft, Jr, Jl, Gf, Kl, Gq, Gh, Gs, Dr, Ju, Ds, Gb, Eu, Fq, Dl, J9, Fp, J5, Gm, Ew, Fi, Dn, Fx, R9, cpσ, List.getElem?_cons_zero, List.getElem?_cons_succ, Option.join_some, List.set_cons_zero, List.set_cons_succ, List.append_nil, decide_eq_true_eq, Bool.not_eq_true', decide_eq_false_iff_not, Bool.not_not, ite_not, Bool.false_eq_true, Bool.true_eq_false, if_false, if_true, if_pos, List.length_cons, List.length_nil, Nat.zero_add, Nat.reduceAdd, Fe, Ez, true_and, and_true, L2.start, List.map_cons, List.map_nil, Bool.not_true, Bool.not_false, Nat.reduceSub, List.replicate_succ, List.replicate_zero, List.cons_append, List.nil_append]
      refine ⟨l, _, _, 1, rfl, rfl, Same.upd hm _ _ _ hl, rfl, _, _, rfl, l, _, _, 3, rfl, rfl, Ae, rfl, rfl, ?_⟩
      rw [U4]
      have sp := (s1.trans (Same.upd hm (.tup [.ref r, .ref v]))).put (o := .lst (([.ref u, .ref v, .ref s, .ref r, .int c].set 1 (.ref r)).set 3 (.ref v))) nl
      exact Acv k sp Ae (Eh (iu.mono sp) (by decide) (by decide)) (Eh (ir.mono sp) (by decide) (by decide)) (Eh (is.mono sp) (by decide) (by decide)) (Eh (iv.mono sp) (by decide) (by decide)) (.inr (.inr ⟨_, rfl⟩))
  . refine ⟨l, _, rfl, .of hl, fun m2 n2 => ?_⟩
    have s2 := Same.upd n2 (.lst (Nh [.ref u, .ref v, .ref s, .ref r, .int c] none (some 4)))
    have g2 : upd H1 m2 (.lst (Nh [.ref u, .ref v, .ref s, .ref r, .int c] none (some 4))) m2 = some (.lst [.ref u, .ref v, .ref s, .ref r]) := Ae
    generalize upd H1 m2 (.lst (Nh [.ref u, .ref v, .ref s, .ref r, .int c] none (some 4))) = H2 at s2 g2
    intro m3 n3
    have s3 := Same.upd n3 (.lst [V.int 1])
    have g3 : upd H2 m3 (.lst [V.int 1]) m3 = _ := Ae
    generalize upd H2 m3 (.lst [V.int 1]) = H3 at s3 g3
    have hl3 := (s2.trans s3) _ _ hl
    refine ⟨l, m3, _, _, rfl, rfl, hl3, g3, show 6 <= sizeLine by decide, fun m4 n4 => ?_⟩
    have s4 := Same.upd n4 (.lst ([.ref u, .ref v, .ref s, .ref r, .int c] ++ [.int 1]))
    have g4 : upd H3 m4 (.lst ([.ref u, .ref v, .ref s, .ref r, .int c] ++ [.int 1])) m4 = some (.lst [.ref u, .ref v, .ref s, .ref r, .int c, .int 1]) := Ae
    generalize upd H3 m4 (.lst ([.ref u, .ref v, .ref s, .ref r, .int c] ++ [.int 1])) = H4 at s4 g4
    have hl4 := s4 _ _ hl3
    refine Jo (.of hl4) (v := .ref v) rfl (Jo (.of hl4) (v := .ref u) rfl fun m5 n5 => ?_)
    have s5 := Same.upd n5 (.lst [.ref v, .ref u])
    have g5 : upd H4 m5 (.lst [.ref v, .ref u]) m5 = _ := Ae
    generalize upd H4 m5 (.lst [.ref v, .ref u]) = H5 at s5 g5
    refine ⟨l, _, rfl, .of (s5 _ _ hl4), fun m6 n6 => ?_⟩
    have s6 := Same.upd n6 (.lst (Nh [.ref u, .ref v, .ref s, .ref r, .int c] (some 2) none))
    have g6 : upd H5 m6 (.lst (Nh [.ref u, .ref v, .ref s, .ref r, .int c] (some 2) none)) m6 = some (.lst [.ref s, .ref r, .int c]) := Ae
    generalize upd H5 m6 (.lst (Nh [.ref u, .ref v, .ref s, .ref r, .int c] (some 2) none)) = H6 at s6 g6
    refine ⟨m5, m6, _, _, rfl, rfl, s6 _ _ g5, g6, show 5 <= sizeLine by decide, fun m7 n7 => ⟨by decide, fun m8 n8 => ⟨⟨by decide, by decide⟩, by decide, ?_⟩⟩⟩
    have s7 := Same.upd n7 (.lst ([.ref v, .ref u] ++ [.ref s, .ref r, .int c]))
    have g7 : upd H6 m7 (.lst ([.ref v, .ref u] ++ [.ref s, .ref r, .int c])) m7 = some (.lst [.ref v, .ref u, .ref s, .ref r, .int c]) := Ae
    generalize upd H6 m7 (.lst ([.ref v, .ref u] ++ [.ref s, .ref r, .int c])) = H7 at s7 g7 n8
    have s8 := Same.upd n8 (.lst [.ref m2, .ref m4, .ref m7])
    have g8 : upd H7 m8 (.lst [.ref m2, .ref m4, .ref m7]) m8 = _ := Ae
    generalize upd H7 m8 (.lst [.ref m2, .ref m4, .ref m7]) = H8 at s8 g8
    have s48 := ((s5.trans s6).trans s7).trans s8
    have s28 := (s3.trans s4).trans s48
    have sA := (s1.trans s2).trans s28
    have e3 : d / 7 % 3 = 0 \/ d / 7 % 3 = 1 \/ d / 7 % 3 = 2 := by omega
    rcases e3 with e | e | e
    . rw [e]
      exact Jo (.of g8) (v := .ref m2) rfl (Akb k sA (s28 _ _ g2) (by simp))
    . rw [e]
      exact Jo (.of g8) (v := .ref m4) rfl (Akb k sA (s48 _ _ g4) (by simp))
    . rw [e]
      exact Jo (.of g8) (v := .ref m7) rfl (Acv k sA (s8 _ _ g7) (Eh (iv.mono sA) (by decide) (by decide)) (Eh (iu.mono sA) (by decide) (by decide)) (Eh (is.mono sA) (by decide) (by decide)) (Eh (ir.mono sA) (by decide) (by decide)) (.inr (.inr ⟨_, rfl⟩)))
def Ru (K : PySem.W.Frag) : Sp := fun vs H Q _ => ∃ (x y v : V) (p q : List Int) (t : Bool), vs = [x, y, v] /\ Po K H x p 60 5000 /\ Po K H y q 60 5000 /\ Tp K H p q v t /\ ∀ H', Same H H' -> Q (.bl (decide (q ≠ []) && t)) H'
theorem Acj {f : Addr} {fd : FuncData} (F : Df K mg "_law_told" Uw ["_law_one", "_law_other", "_law_paper"] f fd) (z_isinstance : mg "isinstance" = none) (z_bool : mg "bool" = none)  (c_q_right : Cal P w K mg base 4 "q_right" ["p", "q", "paper"] (Tz K)) : Cal P w K mg base 5 "_law_told" ["_law_one", "_law_other", "_law_paper"] (Ru K) := by
  refine F.cal (F.fn.ok V5 (fun vs H Q E h => ?_) (fun cdv A outer s H vs Q E hr h => ?_))
  . obtain ⟨x, y, v, p, q, t, rfl, _⟩ := h
    rfl
  obtain ⟨x, y, v, p, q, t, rfl, hx, hy, hv, k⟩ := h
  refine S.Bm ⟨_, (S.Ac (S.Aj (i := 3) V5.nd rfl (Or.inl rfl) (S.Ai c_q_right (hr.mono (by decide)) (S.Aa (S.pv 0) (S.Aa (S.pv 1) (S.Aa (S.pv 2) S.Ab)))))
      (S.Ac (S.Bv (S.Jk (S.G9 (S.Dj Lb rfl z_isinstance PyProof.Rows.boot_isinstance (S.Aa (S.pv 3) (S.Aa (S.Hg (v := .ty "bool") rfl z_bool PyProof.Rows.boot_bool rfl) S.Ab))))) (S.Af (S.Aq S.Mu)) S.Av)
      (S.Af (S.Aq (S.pv 3))))), ?_⟩
  contradiction
  refine ⟨x, y, v, p, q, t, rfl, hx, hy, hv, fun H1 s1 => ?_⟩
  have e := k _ s1
  generalize (decide (q ≠ []) && t) = w at e
  try contradiction
  refine isi (.bl w) Xq ?_
  try contradiction
  exact e
inductive Ip (K : PySem.W.Frag) (H : Hp) : V -> Bool -> Prop where
  | nums {a : Addr} {ns : List Int} (h : SqT K H a (ns.map V.int)) (hl : ns.length <= 60) : Ip K H (.ref a) (decide (trim ns = ns))
  | lst {a : Addr} {ns : List Int} (h : H a = some (.lst (ns.map V.int))) : Ip K H (.ref a) false
  | non : Ip K H .non false
  | str : Ip K H (.str (Str.ofString "x")) false
  | bl {a : Addr} (h : SqT K H a [.bl true]) : Ip K H (.ref a) false
theorem Po.ip {H : Hp} {v : V} {p : List Int} (h : Po K H v p 60 5000) : Ip K H v true := by
  obtain ⟨⟨b, rfl, hb⟩, tp, lp, _⟩ := h
  rw [<- decide_eq_true (Qy tp)]
  exact .nums hb lp
theorem Bd.ip {N : Addr -> Prop} {H : Hp} {v : V} (h : Bd K H N v) : Ip K H v false := by
  cases h with
  | nums h hn hl =>
    rw [<- decide_eq_false hn]
    exact .nums h hl
  | lst h _ => exact .lst h
  | non => exact .non
  | str => exact .str
  | bl h => exact .bl h
structure Rb (K : PySem.W.Frag) (H : Hp) (v : V) (d : PyData) : Prop where
  rd : RdD K H v d
  lay : d.canLay0 = true
  dep : d.depth <= 3
theorem Ip.rb {H : Hp} {v : V} {b : Bool} (h : Ip K H v b) : ∃ d, Rb K H v d := by
  cases h with
  | @nums a ns h hl =>
    refine ⟨_, RdD.ints h, ?_, ?_⟩
    . simp [PyData.canLay0, PySem.W.ke_canLayAll0]
    . simp [PyData.depth, PySem.W.ke_depthAll]
  | @lst a ns h =>
    refine ⟨_, RdD.lints (.of h), ?_, ?_⟩
    . simp [PyData.canLay0, PySem.W.ke_canLayAll0]
    . simp [PyData.depth, PySem.W.ke_depthAll]
  | non => exact ⟨_, .non, by simp [PyData.canLay0], by simp [PyData.depth]⟩
  | str => exact ⟨_, .str _, by rw [PyData.canLay0]; decide +kernel, by simp [PyData.depth]⟩
  | bl h => exact ⟨_, .tup h (.cons (.bl true) .nil), by simp [PyData.canLay0, PyData.canLayAll0], by simp [PyData.depth, PyData.depthAll]⟩
theorem Ae7 {H : Hp} : ∀ {vs : List V}, (∀ v ∈ vs, ∃ d, Rb K H v d) -> ∃ ds, Vo K H vs ds /\ PyData.canLayAll0 ds = true /\ PyData.depthAll ds <= 3 /\ (ds = [] ↔ vs = [])
  | [], _ => ⟨[], .nil, by simp [PyData.canLayAll0], by simp [PyData.depthAll], by simp⟩
  | v :: vs, h => by
    obtain ⟨d, hd⟩ := h v (by simp)
    obtain ⟨ds, h1, h2, h3, _⟩ := Ae7 (vs := vs) (fun x hx => h x (by simp [hx]))
    refine ⟨d :: ds, .cons hd.rd h1, ?_, ?_, by simp⟩
    . simp only [PyData.canLayAll0, hd.lay, h2, Bool.and_self]
    . have := hd.dep
      simp only [PyData.depthAll]
      omega
theorem Ac0 {H : Hp} {a b : Addr} {vs : List V} {Q : VK} {g : Bool -> Bool} (h : ∀ v ∈ vs, ∃ d, Rb K H v d) (ha : SqL K H a vs) (hb : SqL K H b []) (q : Q (.bl (g (decide (vs = [])))) H) : Ag7 K g (.ref a) (.ref b) H Q := by
  obtain ⟨ds, h1, h2, h3, h4⟩ := Ae7 h
  refine ⟨.list ds, .list [], .lst ha h1, .lst hb .nil, ?_, by decide, ?_⟩
  . simp [SeqAt.shaped, PyData.canLay0, PyData.depth, h2]
    omega
  . have e : PyData.eqv (.list ds) (.list []) = decide (vs = []) := by
      rw [PyData.eqv]
      cases ds with
      | nil => rw [decide_eq_true (h4.mp rfl)]; simp [PyData.eqvAll]
      | cons d r => rw [decide_eq_false fun e => by cases h4.mpr e]; simp [PyData.eqvAll]
    rw [e]
    exact q
def O6 (K : PySem.W.Frag) : Sp := fun vs H Q _ => ∃ v b, vs = [v] /\ Ip K H v b /\ ∀ H', Same H H' -> Q (.bl b) H'
theorem Vv {f : Addr} {fd : FuncData} (F : Df K mg "_law_is_poly" K6 ["_law_thing"] f fd) (z_isinstance : mg "isinstance" = none) (z_tuple : mg "tuple" = none) (z_bool : mg "bool" = none) (z_int : mg "int" = none)   : Cal P w K mg base 1 "_law_is_poly" ["_law_thing"] (O6 K) := by
  refine F.cal (F.fn.ok Wd (fun vs H Q E h => ?_) (fun cdv A outer s H vs Q E hr h => ?_))
  . obtain ⟨v, b, rfl, _⟩ := h
    rfl
  obtain ⟨v, b, rfl, hv, k⟩ := h
  refine S.Bm ⟨_, (S.Ac (S.Bv (S.Jk (S.G9 (S.Dj Ua rfl z_isinstance PyProof.Rows.boot_isinstance (S.Aa (S.pv 0) (S.Aa (S.Hg (v := .ty "tuple") rfl z_tuple PyProof.Rows.boot_tuple rfl) S.Ab))))) (S.Af (S.Aq S.Ia)) S.Av)
      (S.Ac (S.Bv (S.Ah (Tt hr.units) (S.Jg (ts := ["_law_x"]) (fs := []) rfl (Cu.of (sc := Ag K6) (N := ["_law_thing"]) rfl rfl (by decide +kernel)) (S.Ln (S.pv 0)) (fun _ _ _ => (S.Am (i := 0) (show List.Nodup (["_law_x"] : List Str) by decide +kernel) rfl (Or.inl rfl))) (fun _ _ _ => (S.Ul (S.Li (S.Jf (S.Jk (S.G9 (S.Dj (Vq K) rfl z_isinstance PyProof.Rows.boot_isinstance (S.Aa (S.pv 0) (S.Aa (S.Hg (v := .ty "int") rfl z_int PyProof.Rows.boot_int rfl) S.Ab))))) (S.Ig (S.G9 (S.Dj (Vq K) rfl z_isinstance PyProof.Rows.boot_isinstance (S.Aa (S.pv 0) (S.Aa (S.Hg (v := .ty "bool") rfl z_bool PyProof.Rows.boot_bool rfl) S.Ab))))))))) (fun _ _ _ => (S.pv 0))) (S.G7 S.Ab) (Ao _)) (S.Af (S.Aq S.Ia)) S.Av)
      (S.Af (S.Aq (S.Adl (S.Il (Hj hr.units) (S.pv 0) (S.Az S.Ab) (Ao _)) (S.Tc (S.Il Oe (S.Bt Bu (S.pv 0) (S.Eb Cd S.Ad) (fun _ _ => rfl)) S.Ad (Ao _)))))))), ?_⟩
  contradiction
  cases hv with
  | non =>
    refine isa (.of .non) Aav ?_
    try contradiction
    exact k _ (Same.refl _)
  | str =>
    refine isa (.of (.str _)) Z8 ?_
    try contradiction
    exact k _ (Same.refl _)
  | lst e =>
    refine isa (.of (.lst e)) Abt ?_
    try contradiction
    exact k _ (Same.refl _)
  | @bl a h =>
    refine isa (.tup h) Qp ?_
    try contradiction
    refine ⟨⟨_, h⟩, fun p1 hp1 => O1 (es := [V.bl true]) (inj := id) (fun _ => true) id (by decide) hp1 (Ly h) ?_ ?_⟩
    . intro e H2 R RF he s2 hR hF
      have e1 : e = V.bl true := by simpa using he
      subst e1
      contradiction
      refine isi (.bl true) Aaq ?_
      try contradiction
      refine isi (.bl true) Xq ?_
      try contradiction
      exact hR rfl _ (Same.refl _)
    intro H2 s2 h2
    try contradiction
    refine ⟨by decide, fun q hq => ?_⟩
    have sq := Same.upd hq (.lst [])
    refine Aga (bs := [true]) (cs := []) (.of (sq _ _ h2)) (.of Ae) ?_
    try contradiction
    exact k _ (s2.trans sq)
  | @nums a ns h hl =>
    refine isa (.tup h) Qp ?_
    try contradiction
    refine ⟨⟨_, h⟩, fun p1 hp1 => O1 (es := ns) (inj := V.int) (fun _ => false) V.int (Nat.le_trans hl (by decide)) hp1 (Ly h) ?_ ?_⟩
    . intro e H2 R RF he s2 hR hF
      contradiction
      refine isi (.int e) Z4 ?_
      try contradiction
      refine isi (.int e) Aa3 ?_
      try contradiction
      exact hF rfl _ (Same.refl _)
    intro H2 s2 h2
    have ef : (ns.filter fun _ => false).map V.int = [] := by simp
    rw [ef] at h2
    try contradiction
    refine ⟨by decide, fun q hq => ?_⟩
    have sq := Same.upd hq (.lst [])
    refine Ac6 (ns := []) (ms := []) (.of (sq _ _ h2)) (.of Ae) ?_
    try contradiction
    refine ⟨by decide, fun q2 hq2 => ?_⟩
    have s3 := (s2.trans sq).trans (Same.upd hq2 (.tup []))
    refine Bx (ms := []) (s3.tup h) (.of Ae) ?_
    by_cases h0 : ns = []
    . rw [decide_eq_true h0]
      try contradiction
      have e : decide (trim ns = ns) = true := decide_eq_true (by rw [h0]; rfl)
      rw [e] at k
      exact k _ s3
    . rw [decide_eq_false h0]
      try contradiction
      obtain ⟨ini, d, rfl⟩ : ∃ (i : List Int) (x : Int), ns = i ++ [x] := ⟨_, _, (List.dropLast_concat_getLast h0).symm⟩
      have em2 : (ini ++ [d]).map V.int = ini.map V.int ++ [V.int d] := by rw [List.map_append]; rfl
      refine Ei (s3.tup h) (v := .int d) (by rw [em2]; exact Ur _ _) ?_
      try contradiction
      have e : decide (trim (ini ++ [d]) = ini ++ [d]) = !decide (d = 0) := by
        by_cases hd : d = 0 <;> simp [Vk, hd]
      rw [e] at k
      exact k _ s3
structure Al (K : PySem.W.Frag) (H : Hp) (v1 v2 v3 v4 v5 : V) (T B a b : List Int) (c : Int) : Prop where
  hT : Po K H v1 T 60 5000
  hB : Po K H v2 B 60 5000
  ha : Po K H v3 a 60 5000
  hb : Po K H v4 b 60 5000
  h5 : v5 = .int c
def Ax (K : PySem.W.Frag) (H : Hp) (p q : List Int) (t : Bool) (v1 v2 v3 v4 v5 : V) (bs : Bool) : Prop := bs = false /\ t = false \/ bs = true /\ (v5 = .non \/ v5 = .bl true) /\ t = false \/ bs = true /\ ∃ T B a b c, Al K H v1 v2 v3 v4 v5 T B a b c /\ t = rB p q T B a b c
structure D5 (K : PySem.W.Frag) (H : Hp) (p q : List Int) (t : Bool) (z : Addr) (v1 v2 v3 v4 v5 : V) (b1 b2 b3 b4 : Bool) : Prop where
  it : SqT K H z [v1, v2, v3, v4, v5]
  i1 : Ip K H v1 b1
  i2 : Ip K H v2 b2
  i3 : Ip K H v3 b3
  i4 : Ip K H v4 b4
  ax : Ax K H p q t v1 v2 v3 v4 v5 (b1 && (b2 && (b3 && b4)))
theorem Pv.ip {H : Hp} {v : V} (h : Pv K H (fun _ => True) v) : ∃ b, Ip K H v b := by
  cases h with
  | po h => exact ⟨_, h.ip⟩
  | bd h => exact ⟨_, h.ip⟩
theorem Du.five {H : Hp} {p q : List Int} {v : V} {t : Bool} (h : Du K H p q v t) : (∃ z xs, v = .ref z /\ SqT K H z xs /\ xs.length ≠ 5 /\ t = false) \/ ∃ z v1 v2 v3 v4 v5 b1 b2 b3 b4, v = .ref z /\ D5 K H p q t z v1 v2 v3 v4 v5 b1 b2 b3 b4 := by
  cases h with
  | long h hl => exact .inl ⟨_, _, rfl, h, hl, rfl⟩
  | good h hT hB ha hb => exact .inr ⟨_, _, _, _, _, _, _, _, _, _, rfl, h, hT.ip, hB.ip, ha.ip, hb.ip, .inr (.inr ⟨rfl, _, _, _, _, _, ⟨hT, hB, ha, hb, rfl⟩, rfl⟩)⟩
  | odd h h1 h2 h3 h4 h5 =>
    obtain ⟨b1, h1⟩ := h1.ip
    obtain ⟨b2, h2⟩ := h2.ip
    obtain ⟨b3, h3⟩ := h3.ip
    obtain ⟨b4, h4⟩ := h4.ip
    refine .inr ⟨_, _, _, _, _, _, _, _, _, _, rfl, h, h1, h2, h3, h4, ?_⟩
    cases e : (b1 && (b2 && (b3 && b4)))
    . exact .inl ⟨rfl, rfl⟩
    . exact .inr (.inl ⟨rfl, h5, rfl⟩)
  | bad h h1 h2 h3 h4 h5 hb =>
    obtain ⟨b1, h1⟩ := h1.ip
    obtain ⟨b2, h2⟩ := h2.ip
    obtain ⟨b3, h3⟩ := h3.ip
    obtain ⟨b4, h4⟩ := h4.ip
    rcases hb with hb | hb | hb | hb
    . exact .inr ⟨_, _, _, _, _, _, _, _, _, _, rfl, h, hb.ip, h2, h3, h4, .inl ⟨by simp, rfl⟩⟩
    . exact .inr ⟨_, _, _, _, _, _, _, _, _, _, rfl, h, h1, hb.ip, h3, h4, .inl ⟨by simp, rfl⟩⟩
    . exact .inr ⟨_, _, _, _, _, _, _, _, _, _, rfl, h, h1, h2, hb.ip, h4, .inl ⟨by simp, rfl⟩⟩
    . exact .inr ⟨_, _, _, _, _, _, _, _, _, _, rfl, h, h1, h2, h3, hb.ip, .inl ⟨by simp, rfl⟩⟩
theorem Ip.mono {H H' : Hp} {v : V} {b : Bool} (h : Ip K H v b) (s : Same H H') : Ip K H' v b := by
  cases h with
  | nums h hl => exact .nums (s.tup h) hl
  | lst h => exact .lst (s _ _ h)
  | non => exact .non
  | str => exact .str
  | bl h => exact .bl (s.tup h)
theorem Ag9 {H : Hp} {v1 v2 v3 v4 : V} {b1 b2 b3 b4 : Bool} (h1 : Ip K H v1 b1) (h2 : Ip K H v2 b2) (h3 : Ip K H v3 b3) (h4 : Ip K H v4 b4) : ∀ e ∈ [(v1, b1), (v2, b2), (v3, b3), (v4, b4)], Ip K H e.1 e.2 := fun e he => by
  have : e = (v1, b1) \/ e = (v2, b2) \/ e = (v3, b3) \/ e = (v4, b4) := by simpa using he
  rcases this with rfl | rfl | rfl | rfl
  . exact h1
  . exact h2
  . exact h3
  . exact h4
theorem Akp {v1 v2 v3 v4 : V} {b1 b2 b3 b4 : Bool} : decide ((([(v1, b1), (v2, b2), (v3, b3), (v4, b4)] : List (V × Bool)).filter (fun e => !e.2)).map Prod.fst = []) = (b1 && (b2 && (b3 && b4))) := by
  cases b1 <;> cases b2 <;> cases b3 <;> cases b4 <;> simp
def Xy (K : PySem.W.Frag) : Sp := fun vs H Q _ => ∃ (x y v : V) (p q : List Int) (t : Bool), vs = [x, y, v] /\ Po K H x p 60 5000 /\ Po K H y q 60 5000 /\ Du K H p q v t /\ ∀ H', Same H H' -> Q (.bl t) H'
theorem Ac4 {f : Addr} {fd : FuncData} (F : Df K mg "_law_due" Uy ["_law_one", "_law_other", "_law_paper"] f fd) (z_isinstance : mg "isinstance" = none) (z_bool : mg "bool" = none) (z_abs : mg "abs" = none) (z_len : mg "len" = none) (z_int : mg "int" = none)  (c_p_plus : Cal P w K mg base 3 "p_plus" ["one", "other"] (Ib K)) (c_p_times : Cal P w K mg base 1 "p_times" ["one", "other"] (Dd K)) (c_q_is_poly : Cal P w K mg base 1 "_law_is_poly" ["_law_thing"] (O6 K)) : Cal P w K mg base 4 "_law_due" ["_law_one", "_law_other", "_law_paper"] (Xy K) := by
  refine F.cal (F.fn.ok Hy (fun vs H Q E h => ?_) (fun cdv A outer s H vs Q E hr h => ?_))
  . obtain ⟨x, y, v, p, q, t, rfl, _⟩ := h
    rfl
  obtain ⟨x, y, v, p, q, t, rfl, hx, hy, hv, k⟩ := h
  refine S.Bm ⟨_, (S.Ac (S.Bv (S.Li (S.Jf (S.Ah Oe (S.Dj Bc rfl z_len PySem.boot_len (S.Aa (S.pv 2) S.Ab)) S.Ad (Ao _)) (S.Ig (S.Ah (Tt hr.units) (S.Jg (ts := ["_law_part_here"]) (fs := []) rfl (Cu.of (sc := Ag Uy) (N := ["_law_one", "_law_other", "_law_paper", "_law_found", "_law_weight", "_law_top", "_law_bottom", "_law_left", "_law_right", "_law_c"]) rfl rfl (by decide +kernel)) (S.Ln (S.Dh Ho (S.pv 2) S.Ej (S.Em S.Ad))) (fun _ _ _ => (S.Am (i := 0) (show List.Nodup (["_law_part_here"] : List Str) by decide +kernel) rfl (Or.inl rfl))) (fun _ _ _ => (S.Ul (S.Jk (S.G9 (S.Ai c_q_is_poly (hr.mono (by decide)) (S.Aa (S.pv 0) S.Ab)))))) (fun _ _ _ => (S.pv 0))) (S.G7 S.Ab) (Ao _))))) (S.Af (S.Aq S.Ia)) S.Av)
      (S.Ac (S.El (S.pv 2) (S.Gz rfl (S.Ar (S.Am (i := 5) Hy.nd rfl (Or.inl rfl)) (S.Ar (S.Am (i := 6) Hy.nd rfl (Or.inl rfl)) (S.Ar (S.Am (i := 7) Hy.nd rfl (Or.inl rfl)) (S.Ar (S.Am (i := 8) Hy.nd rfl (Or.inl rfl)) (S.Ar (S.Am (i := 9) Hy.nd rfl (Or.inl rfl)) S.Ed)))))))
      (S.Ac (S.Bv (S.Li (S.Jf (S.Jk (S.G9 (S.Dj Lb rfl z_isinstance PyProof.Rows.boot_isinstance (S.Aa (S.pv 9) (S.Aa (S.Hg (v := .ty "int") rfl z_int PyProof.Rows.boot_int rfl) S.Ab))))) (S.Jf (S.G9 (S.Dj Lb rfl z_isinstance PyProof.Rows.boot_isinstance (S.Aa (S.pv 9) (S.Aa (S.Hg (v := .ty "bool") rfl z_bool PyProof.Rows.boot_bool rfl) S.Ab)))) (S.Ig (S.Ah Jd (S.pv 9) S.Ad (Ao _)))))) (S.Af (S.Aq S.Ia)) S.Av)
      (S.Ac (S.Bv (S.Li (S.Jf (S.Ah (Hj hr.units) (S.pv 6) (S.Az S.Ab) (Ao _)) (S.Ig (S.Ah S6 (S.Bt Bu (S.pv 6) (S.Eb Cd S.Ad) (fun _ _ => rfl)) S.Ad (Ao _))))) (S.Af (S.Aq S.Ia)) S.Av)
      (S.Ac (S.Aj (i := 3) Hy.nd rfl (Or.inl rfl) S.Ad)
      (S.Ac (S.Hf PassesOwn.never rfl (S.Ln (S.Ak Uj (S.pv 5) (S.pv 6))) (S.Am (i := 4) Hy.nd rfl (Or.inl rfl)) (S.Ac (S.Aj (i := 4) Hy.nd rfl (Or.inl rfl) (S.Dj Qa rfl z_abs PyProof.Rows.boot_abs (S.Aa (S.pv 4) S.Ab)))
      (S.Af (S.Hu PassesOwn.never (S.Ah Ux (S.pv 4) S.Ad (Ao _)) (S.Af (S.Mt (i := 3) (j := 4) rfl Hy.nd rfl rfl (by decide) rfl rfl (S.Aa (S.pv 4) (S.Aa (S.Ak Ci (S.pv 3) (S.pv 4)) S.Ab)) rfl))))))
      (S.Ac (S.Bv (S.Li (S.Jf (S.Ah Oe (S.pv 3) S.Ad (Ao _)) (S.Ig (S.Ah (Tn hr.units) (S.Ai c_p_times (hr.mono (by decide)) (S.Aa (S.pv 5) (S.Aa (S.pv 1) S.Ab))) (S.Ai c_p_times (hr.mono (by decide)) (S.Aa (S.pv 6) (S.Aa (S.pv 0) S.Ab))) (Ao _))))) (S.Af (S.Aq S.Ia)) S.Av)
      (S.Af (S.Aq (S.Il (Hj hr.units) (S.Ai c_p_plus (hr.mono (by decide)) (S.Aa (S.Ai c_p_times (hr.mono (by decide)) (S.Aa (S.pv 7) (S.Aa (S.pv 5) S.Ab))) (S.Aa (S.Ai c_p_times (hr.mono (by decide)) (S.Aa (S.pv 8) (S.Aa (S.pv 6) S.Ab))) S.Ab))) (S.Az (S.Aa (S.pv 9) S.Ab)) (Ao _))))))))))), ?_⟩
  rcases hv.five with ⟨z, xs, rfl, hz, n5, rfl⟩ | ⟨z, v1, v2, v3, v4, v5, b1, b2, b3, b4, rfl, d5⟩
  . contradiction
    refine ⟨z, xs, rfl, .inr hz, ?_⟩
    rw [if_neg (show ¬ ((xs.length : Nat) : Int) = 5 by omega)]
    exact k _ (Same.refl _)
  refine Bl (fun σ' H' => σ' = [some x, some y, some (.ref z), none, none, none, none, none, none, none] /\ Same H H' /\ (b1 && (b2 && (b3 && b4))) = true) (fun M hM => ?_) ?_
  . contradiction
    refine ⟨z, _, rfl, .inr d5.it, ?_⟩
    rw [if_pos (show (([v1, v2, v3, v4, v5].length : Nat) : Int) = 5 from rfl)]
    refine ⟨z, _, rfl, d5.it, fun z1 H1 s1 h1 => ?_⟩
    have ec : Nh [v1, v2, v3, v4, v5] none (some 4) = [v1, v2, v3, v4] := rfl
    rw [ec] at h1
    have hw := Ag9 d5.i1 d5.i2 d5.i3 d5.i4
    refine ⟨z1, rfl, ⟨_, h1⟩, fun p1 hp1 => O1 (es := [(v1, b1), (v2, b2), (v3, b3), (v4, b4)]) (inj := Prod.fst) (fun e => !e.2) Prod.fst (by show 4 <= sizeLine; decide) hp1 (Ly h1) ?_ ?_⟩
    . intro e H2 R RF he s2 hR hF
      contradiction
      refine ⟨_, e.2, rfl, (hw e he).mono (s1.trans s2), fun H3 s3 => ?_⟩
      obtain ⟨e1, e2⟩ := e
      cases e2 with
      | true =>
        try contradiction
        exact hF rfl _ s3
      | false =>
        try contradiction
        exact hR rfl _ s3
    intro H2 s2 h2
    try contradiction
    refine ⟨by decide, fun q1 hq1 => ?_⟩
    have sq := Same.upd hq1 (.lst [])
    have s12 := (s1.trans s2).trans sq
    refine Ac0 (fun v hv => ?_) (.of (sq _ _ h2)) (.of Ae) ?_
    . obtain ⟨e, he, rfl⟩ := List.mem_map.mp hv
      exact ((hw e (List.mem_filter.mp he).1).mono s12).rb
    rw [Akp]
    have ax := d5.ax
    cases eb : (b1 && (b2 && (b3 && b4))) with
    | false =>
      rw [eb] at ax
      rcases ax with ⟨_, rfl⟩ | ⟨h, _⟩ | ⟨h, _⟩
      . try contradiction
        exact k _ s12
      . cases h
      . cases h
    | true =>
      try contradiction
      exact hM _ _ ⟨rfl, s12, eb⟩
  rintro σ H1 ⟨rfl, s1, eb⟩
  have ax := d5.ax
  rw [eb] at ax
  have it1 := s1.tup d5.it
  clear d5 hv
  contradiction
  refine Vf it1 ?_
  rcases ax with ⟨h, _⟩ | ⟨_, h5, rfl⟩ | ⟨_, T, B, a, b, c, al, rfl⟩
  . cases h
  . rcases h5 with rfl | rfl
    . contradiction
      refine isi .non Aei ?_
      try contradiction
      exact k _ s1
    . contradiction
      refine isi (.bl true) Aaq ?_
      try contradiction
      refine isi (.bl true) Xq ?_
      try contradiction
      exact k _ s1
  obtain ⟨hT, hB, ha, hb, rfl⟩ := al
  obtain ⟨⟨aT, rfl, sT⟩, tT, lT, _⟩ := id hT
  obtain ⟨⟨aB, rfl, sB⟩, tB, lB, _⟩ := id hB
  simp only [List.set_cons_succ, List.set_cons_zero]
  unfold rB at k
  refine Bl (fun σ' H' => σ' = [some x, some y, some (.ref z), none, none, some (.ref aT), some (.ref aB), some v3, some v4, some (.int c)] /\ H' = H1 /\ c ≠ 0) (fun M hM => ?_) ?_
  . contradiction
    refine isi (.int c) Z4 ?_
    try contradiction
    refine isi (.int c) Aa3 ?_
    try contradiction
    by_cases c0 : c = 0
    . rw [if_pos c0]
      rw [decide_eq_false (fun z : c ≠ 0 => z c0)] at k
      exact k _ s1
    . rw [if_neg c0]
      exact hM _ _ ⟨rfl, rfl, c0⟩
  rintro _ _ ⟨rfl, rfl, c0⟩
  rw [decide_eq_true c0, Bool.true_and] at k
  unfold hpw at k
  refine Bl (fun σ' H' => σ' = [some x, some y, some (.ref z), none, none, some (.ref aT), some (.ref aB), some v3, some v4, some (.int c)] /\ Same H H' /\ B ≠ [] /\ 0 < co B (B.length - 1)) (fun M hM => ?_) ?_
  . contradiction
    refine ⟨by decide, fun e0 he0 => ?_⟩
    have se := Same.upd he0 (.tup [])
    have s2 := s1.trans se
    refine Bx (ms := []) (s2.tup sB) (.of Ae) ?_
    by_cases h0 : B = []
    . rw [decide_eq_true h0]
      rw [decide_eq_false (fun z : B ≠ [] => z h0)] at k
      try contradiction
      exact k _ s2
    rw [decide_eq_false h0]
    rw [decide_eq_true (show B ≠ [] from h0)] at k
    try contradiction
    refine Ei (s2.tup sB) (Ii h0) ?_
    try contradiction
    have hne := tB.lead h0
    by_cases h1 : co B (B.length - 1) < 0
    . rw [if_pos h1]
      rw [decide_eq_false (show ¬ 0 < co B (B.length - 1) by omega)] at k
      exact k _ s2
    . rw [if_neg h1]
      exact hM _ _ ⟨rfl, s2, h0, by omega⟩
  clear s1 it1
  rintro _ H1 ⟨rfl, s1, B0, pB⟩
  rw [decide_eq_true B0, decide_eq_true pB, Bool.true_and, Bool.true_and] at k
  refine Bl (fun σ' H' => σ' = [some x, some y, some (.ref z), some (.int 0), none, some (.ref aT), some (.ref aB), some v3, some v4, some (.int c)] /\ H' = H1) (fun M hM => ?_) ?_
  . contradiction
    exact hM _ _ ⟨rfl, rfl⟩
  rintro _ _ ⟨rfl, rfl⟩
  refine Bl (fun σ' H' => Same H H' /\ ∃ o : Option V, σ' = [some x, some y, some (.ref z), some (.int (gl (T ++ B) : Nat)), o, some (.ref aT), some (.ref aB), some v3, some v4, some (.int c)]) (fun M hM => ?_) ?_
  . contradiction
    refine ⟨aT, aB, _, _, rfl, rfl, s1.tup sT, s1.tup sB, by rw [List.length_map, List.length_map]; exact Nat.le_trans (show T.length + B.length <= 120 by omega) (by decide), fun zc Hc sc hc => ?_⟩
    rw [<- List.map_append] at hc
    refine ⟨zc, rfl, ⟨_, hc⟩, Acp (es := T ++ B) (inj := V.int) (fun pre σ' H' => H' = Hc /\ ∃ o : Option V, σ' = [some x, some y, some (.ref z), some (.int (gl pre : Nat)), o, some (.ref aT), some (.ref aB), some v3, some v4, some (.int c)]) ⟨rfl, _, rfl⟩ ?_ ?_ ?_⟩
    . rintro pre σ' H' ⟨rfl, _⟩
      exact Yn hc
    . rintro pre e post σ' H' he ⟨rfl, o, rfl⟩
      simp only [J8, Fy, Jz, Kq, Fw, Kr, Cv, Kv, Fl, Ga, z_c, R4, Sh, Sd, J1, R6, Jw, Ka, Jm, Ku, Es, R8, Kf, J3, Ko, Fj, Ey, J6, Kw, S5, Fb, Jp, Gn, Sq, Ge, J2, Fz, Sy, J0, J7, Dw, Gg, Gk, Gj, Dq, Fg, Jq, Km, Kd, Io, Sw, Cg, Gd, Kh, Sx, Js, Ft, Jr, Jl, Gf, Kl, Gq, Gh, Gs, Dr, Ju, Ds, Gb, Eu, Fq, Dl, J9, Fp, J5, Gm, Ew, Fi, Dn, Fx, R9, cpσ, List.getElem?_cons_zero, List.getElem?_cons_succ, Option.join_some, List.set_cons_zero, List.set_cons_succ, List.append_nil, decide_eq_true_eq, Bool.not_eq_true', decide_eq_false_iff_not, Bool.not_not, ite_not, Bool.false_eq_true, Bool.true_eq_false, if_false, if_true, if_pos, List.length_cons, List.length_nil, Nat.zero_add, Nat.reduceAdd, Fe, Ez, true_and, and_true, L2.start, List.map_cons, List.map_nil, Bool.not_true, Bool.not_false, Nat.reduceSub, List.replicate_succ, List.replicate_zero, List.cons_append, List.nil_append, abs_eq]
      refine W0 (fun m σ' H'' => H'' = H' /\ ∃ n : Nat, σ' = [some x, some y, some (.ref z), some (.int (n : Nat)), some (.int (m : Nat)), some (.ref aT), some (.ref aB), some v3, some v4, some (.int c)] /\ Nat.gcd n m = gl (pre ++ [e])) e.natAbs ⟨rfl, gl pre, rfl, by rw [Aa6]; rfl⟩ ?_
      rintro m σ' H'' ⟨rfl, n, rfl, hg⟩
      contradiction
      by_cases hm : 0 < m
      . rw [if_pos (show (0 : Int) < ((m : Nat) : Int) by omega)]
        refine Afv ?_
        contradiction
        exact ⟨by omega, n % m, Nat.mod_lt _ hm, m, by rw [Int.natCast_emod], by rw [Yc]; exact hg⟩
      . rw [if_neg (show ¬ (0 : Int) < ((m : Nat) : Int) by omega)]
        have m0 : m = 0 := by omega
        subst m0
        rw [Nat.gcd_zero_right] at hg
        rw [hg]
        exact ⟨_, rfl⟩
    . rintro σ' H' ⟨rfl, o, rfl⟩
      exact hM _ _ ⟨s1.trans sc, _, rfl⟩
  rintro _ H2 ⟨s2, o, rfl⟩
  contradiction
  by_cases g1 : gl (T ++ B) = 1
  case neg =>
    rw [decide_eq_false g1, Bool.false_and] at k
    rw [if_neg (show ¬ ((gl (T ++ B) : Nat) : Int) = 1 by omega)]
    exact k _ s2
  rw [if_pos (show ((gl (T ++ B) : Nat) : Int) = 1 by omega)]
  rw [decide_eq_true g1, Bool.true_and] at k
  refine Ea hT s2 hy s2 (by decide) (by decide) (by decide) fun z4 H4 s4 i4 => ?_
  try contradiction
  refine Ea hB (s2.trans s4) hx (s2.trans s4) (by decide) (by decide) (by decide) fun z5 H5 s5 i5 => ?_
  obtain ⟨⟨a4, rfl, h4⟩, _⟩ := id (i4.mono s5)
  obtain ⟨⟨a5, rfl, h5⟩, _⟩ := id i5
  have s15 := (s2.trans s4).trans s5
  try contradiction
  refine Bx h4 h5 ?_
  by_cases e1 : tm T q = tm B p
  case neg =>
    rw [decide_eq_false e1] at k ⊢
    try contradiction
    exact k _ s15
  rw [decide_eq_true e1] at k ⊢
  try contradiction
  refine Ea ha s15 hT s15 (by decide) (by decide) (by decide) fun z6 H6 s6 i6 => ?_
  try contradiction
  refine Ea hb (s15.trans s6) hB (s15.trans s6) (by decide) (by decide) (by decide) fun z7 H7 s7 i7 => ?_
  try contradiction
  refine Qv i6 s7 i7 (Same.refl _) (by decide) (by decide) fun z8 H8 s8 i8 => ?_
  obtain ⟨⟨a8, rfl, h8⟩, _⟩ := id i8
  try contradiction
  (intro q9 hq9; generalize eq9 : upd _ q9 _ = Gq9; obtain ⟨sq9, gq9⟩ := nw hq9 eq9; clear eq9 hq9)
  refine Bx (ms := [c]) (sq9.tup h8) (.of gq9) ?_
  try contradiction
  exact k _ ((((s15.trans s6).trans s7).trans s8).trans sq9)
theorem Aen {H : Hp} {z : Addr} {ns : List Int} {l n : Nat} (h : SqT K H z ((trim ns).map V.int)) (hl : ns.length <= l) (n0 : 0 < n) (hz : ∀ x ∈ ns, Sz n x) : Po K H (.ref z) (trim ns) l n := ⟨⟨z, rfl, h⟩, Bb _, Nat.le_trans (Hs _) hl, fun i => by rw [Aw]; exact Sv n0 hz i⟩
theorem Aju {p q T B a b : List Int} {c : Int} (tT : Tr T) (tB : Tr B) (h : rB p q T B a b c = true) : QF p q T B := by
  unfold rB hpw at h
  simp only [Bool.and_eq_true, decide_eq_true_eq] at h
  obtain ⟨c0, ⟨nB, pos, g1⟩, e, s⟩ := h
  refine ⟨tT, tB, nB, pos, g1, fun d td h1 h2 => ?_, e⟩
  have hd : Dv d [c] := Dv.comb h1 h2 (k := 1) (by decide) (a := a) (b := b) fun i => by
    rw [<- s, Oc, Cj, Cj]
    omega
  exact (hd.len td (.inr ⟨by simp, by simpa using c0⟩) (by simp)).2
theorem Aid {H : Hp} {r : Addr} {i : Int} {Q : VK} (h : SqL K H r [.int (-1), .int 2, .int (-3), .int 7]) (e : i = 0 \/ i = 1 \/ i = 2 \/ i = 3) (q : ∀ n : Int, Sz 3 n -> Q (.int n) H) : Aie K (.ref r) (.int i) H Q := by
  rcases e with rfl | rfl | rfl | rfl
  . exact ⟨r, _, _, _, rfl, rfl, h, rfl, q _ (by unfold Sz; decide)⟩
  . exact ⟨r, _, _, _, rfl, rfl, h, rfl, q _ (by unfold Sz; decide)⟩
  . exact ⟨r, _, _, _, rfl, rfl, h, rfl, q _ (by unfold Sz; decide)⟩
  . exact ⟨r, _, _, _, rfl, rfl, h, rfl, q _ (by unfold Sz; decide)⟩
def Xv (K : PySem.W.Frag) : Sp := fun vs H Q _ => ∃ (z u v s r : Addr) (c d : Int) (p q T B a b : List Int), vs = [.ref z, .int d] /\ FdP K H z u v s r c p q T B a b /\ Kt K H p q Q
theorem Ad2 {f : Addr} {fd : FuncData} (F : Df K mg "_law_own" Xn ["_law_paper", "_law_cell"] f fd)   (c_poly : Cal P w K mg base 1 "poly" ["weights"] (Ij K)) (c_p_plus : Cal P w K mg base 3 "p_plus" ["one", "other"] (Ib K)) (c_scaled : Cal P w K mg base 1 "scaled" ["one", "factor"] (G8 K)) (c_p_times : Cal P w K mg base 1 "p_times" ["one", "other"] (Dd K)) : Cal P w K mg base 4 "_law_own" ["_law_paper", "_law_cell"] (Xv K) := by
  refine F.cal (F.fn.ok Ht (fun vs H Q E h => ?_) (fun cdv A outer s H vs Q E hr h => ?_))
  . obtain ⟨z, u, v, s, r, c, d, p, q, T, B, a, b, rfl, _⟩ := h
    rfl
  obtain ⟨z, u, v, s, r, c, d, p, q, T, B, a, b, rfl, hp, k⟩ := h
  refine S.Bm ⟨_, (S.Ac (S.El (S.pv 0) (S.Gz rfl (S.Ar (S.Am (i := 6) Ht.nd rfl (Or.inl rfl)) (S.Ar (S.Am (i := 7) Ht.nd rfl (Or.inl rfl)) (S.Ar (S.Am (i := 4) Ht.nd rfl (Or.inl rfl)) (S.Ar (S.Am (i := 5) Ht.nd rfl (Or.inl rfl)) (S.Ar (S.Am (i := 8) Ht.nd rfl (Or.inl rfl)) S.Ed)))))))
      (S.Ac (S.Aj (i := 2) Ht.nd rfl (Or.inl rfl) (S.Bt Dp (S.G7 (S.Aa (S.Eb Cd S.Ad) (S.Aa S.Ad (S.Aa (S.Eb Cd S.Ad) (S.Aa S.Ad S.Ab))))) (S.Ak Ci (S.pv 1) S.Ad) (fun _ _ => rfl)))
      (S.Ac (S.Aj (i := 3) Ht.nd rfl (Or.inl rfl) (S.Ai c_poly (hr.mono (by decide)) (S.Aa (S.G7 (S.Aa (S.Ak Et (S.Ak Ci (S.Ak Bw (S.pv 1) S.Ad) S.Ad) S.Ad) (S.Aa (S.Ak Et (S.Ak Ci (S.Ak Bw (S.pv 1) S.Ad) S.Ad) S.Ad) S.Ab))) S.Ab)))
      (S.Ac (S.Aj (i := 4) Ht.nd rfl (Or.inl rfl) (S.Ai c_p_plus (hr.mono (by decide)) (S.Aa (S.Ai c_scaled (hr.mono (by decide)) (S.Aa (S.pv 4) (S.Aa (S.pv 2) S.Ab))) (S.Aa (S.Ai c_p_times (hr.mono (by decide)) (S.Aa (S.pv 3) (S.Aa (S.pv 7) S.Ab))) S.Ab))))
      (S.Ac (S.Aj (i := 5) Ht.nd rfl (Or.inl rfl) (S.Ai c_p_plus (hr.mono (by decide)) (S.Aa (S.Ai c_scaled (hr.mono (by decide)) (S.Aa (S.pv 5) (S.Aa (S.pv 2) S.Ab))) (S.Aa (S.Ai c_scaled (hr.mono (by decide)) (S.Aa (S.Ai c_p_times (hr.mono (by decide)) (S.Aa (S.pv 3) (S.Aa (S.pv 6) S.Ab))) (S.Aa (S.Eb Cd S.Ad) S.Ab))) S.Ab))))
      (S.Af (S.Aq (S.Az (S.Aa (S.pv 6) (S.Aa (S.pv 7) (S.Aa (S.pv 4) (S.Aa (S.pv 5) (S.Aa (S.Ak Dy (S.pv 8) (S.pv 2)) S.Ab))))))))))))), ?_⟩
  contradiction
  refine Vf hp.it ?_
  contradiction
  refine ⟨by decide, fun m1 n1 => ⟨by decide, ?_⟩⟩
  have s1 := Same.upd n1 (.lst [V.int (-1), V.int 2, V.int (-3), V.int 7])
  have e4 : d % 4 = 0 \/ d % 4 = 1 \/ d % 4 = 2 \/ d % 4 = 3 := by omega
  refine Aid (.of Ae) e4 fun by0 zn => ?_
  try contradiction
  refine ⟨⟨by decide, by decide⟩, by decide, ⟨by decide, by decide⟩, by decide, fun m2 n2 => ⟨m2, [d / 4 % 5 - 2, d / 20 % 5 - 2], rfl, .inl (.of Ae), by simp, fun z3 H3 s3 h3 => ?_⟩⟩
  have s2 := (s1.trans (Same.upd n2 _)).trans s3
  have i3 : Po K H3 (.ref z3) (trim [d / 4 % 5 - 2, d / 20 % 5 - 2]) 2 2 := Aen h3 (by simp) (by decide) (fun x hx => by
    have : x = d / 4 % 5 - 2 \/ x = d / 20 % 5 - 2 := by simpa using hx
    unfold Sz
    omega)
  clear h3 n2 n1 s1 e4
  refine Hv hp.is s2 zn (by decide) (by decide) fun z4 H4 s4 i4 => ?_
  refine Ea i3 s4 hp.iv (s2.trans s4) (by decide) (by decide) (by decide) fun z5 H5 s5 i5 => ?_
  refine Qv i4 s5 i5 (Same.refl _) (by decide) (by decide) fun z6 H6 s6 i6 => ?_
  have s36 := (s4.trans s5).trans s6
  refine Hv hp.ir (s2.trans s36) zn (by decide) (by decide) fun z7 H7 s7 i7 => ?_
  have s37 := s36.trans s7
  refine Ea i3 s37 hp.iu (s2.trans s37) (by decide) (by decide) (by decide) fun z8 H8 s8 i8 => ?_
  refine Hv i8 (Same.refl _) (show Sz 1 (-1 : Int) by unfold Sz; decide) (by decide) (by decide) fun z9 H9 s9 i9 => ?_
  refine Qv i7 (s8.trans s9) i9 (Same.refl _) (by decide) (by decide) fun z10 H10 s10 i10 => ?_
  refine ⟨.of_right (V1 zn (by decide)), by decide, fun m n => ?_⟩
  have sN := Same.upd n (.tup [V.ref u, V.ref v, z6, z10, V.int (c * by0)])
  have s6N := (((s7.trans s8).trans s9).trans s10).trans sN
  have sA := s2.trans (s36.trans s6N)
  exact k _ _ _ sA (.good (.of Ae) (Bj (hp.iu.mono sA) (by decide) (by decide)) (Bj (hp.iv.mono sA) (by decide) (by decide)) (Bj (i6.mono s6N) (by decide) (by decide)) (Bj (i10.mono sN) (by decide) (by decide)))
structure Gp (K : PySem.W.Frag) (H : Hp) (z : Addr) (vT vB va vb : V) (T B a b : List Int) (c : Int) : Prop where
  it : SqT K H z [vT, vB, va, vb, .int c]
  hT : Po K H vT T 60 5000
  hB : Po K H vB B 60 5000
  ha : Po K H va a 60 5000
  hb : Po K H vb b 60 5000
theorem Gp.mono {H H' : Hp} {z : Addr} {vT vB va vb : V} {T B a b : List Int} {c : Int} (h : Gp K H z vT vB va vb T B a b c) (s : Same H H') : Gp K H' z vT vB va vb T B a b c := ⟨s.tup h.it, h.hT.mono s, h.hB.mono s, h.ha.mono s, h.hb.mono s⟩
theorem Po.put {H : Hp} {l : Addr} {ys : List V} {o : HO} {v : V} {p : List Int} {m n : Nat} (h : Po K H v p m n) (hl : H l = some (.lst ys)) : Po K (upd H l o) v p m n := by
  obtain ⟨⟨a, e, ha⟩, t⟩ := h
  exact ⟨⟨a, e, U9 ha hl⟩, t⟩
theorem Gp.put {H : Hp} {l : Addr} {ys : List V} {o : HO} {z : Addr} {vT vB va vb : V} {T B a b : List Int} {c : Int} (h : Gp K H z vT vB va vb T B a b c) (hl : H l = some (.lst ys)) : Gp K (upd H l o) z vT vB va vb T B a b c := ⟨U9 h.it hl, h.hT.put hl, h.hB.put hl, h.ha.put hl, h.hb.put hl⟩
theorem Gp.tp {H : Hp} {z : Addr} {vT vB va vb : V} {p q T B a b : List Int} {c : Int} (h : Gp K H z vT vB va vb T B a b c) (e : rB p q T B a b c = false) : Tp K H p q (.ref z) false := e ▸ .good h.it h.hT h.hB h.ha h.hb
theorem FdP.gp {H : Hp} {z u v s r : Addr} {c : Int} {p q T B a b : List Int} (h : FdP K H z u v s r c p q T B a b) : Gp K H z (.ref u) (.ref v) (.ref s) (.ref r) T B a b c := ⟨h.it, Bj h.iu (by decide) (by decide), Bj h.iv (by decide) (by decide), Bj h.is (by decide) (by decide), Bj h.ir (by decide) (by decide)⟩
theorem V8 {p q T B a b : List Int} : rB p q T B a b 0 = false := by
  unfold rB
  simp
theorem Z5 {p : List Int} {c : Int} (tp : Tr p) (hc : c ≠ 0) : ng p c = p.map (c * ·) := (Bb _).ext (U7 tp hc) fun i => by rw [<- ng, Pj, Ck, Int.mul_comm]
theorem Adh {p q T B a b : List Int} {c : Int} (tT : Tr T) (tB : Tr B) : rB p q (ng T 2) (ng B 2) a b c = false := by
  have e : gl (ng T 2 ++ ng B 2) ≠ 1 := by
    rw [Z5 tT (by decide), Z5 tB (by decide), <- List.map_append, Acr]
    show 2 * gl (T ++ B) ≠ 1
    omega
  unfold rB hpw
  simp [e]
theorem Adv {p q T B a b : List Int} {c : Int} (tB : Tr B) (nB : B ≠ []) (pos : 0 < co B (B.length - 1)) : rB p q (ng T (-1)) (ng B (-1)) a b c = false := by
  have e : ¬ 0 < co (ng B (-1)) ((ng B (-1)).length - 1) := by
    rw [Pj, Z5 tB (by decide), List.length_map]
    omega
  unfold rB hpw
  simp [e]
theorem Ada {p p' q T B a b : List Int} {c : Int} (h : QF p' q T B) (tp : Tr p) (tp' : Tr p') (ne : p ≠ p') : rB p q T B a b c = false := by
  have e : tm T q ≠ tm B p := fun e => ne (Rt tp tp' h.tB h.nB (by rw [Cr p, Cr p', <- e, h.eq]))
  unfold rB
  simp [e]
theorem R3 (T B : List Int) : SeqAt.shaped (.tuple [.tuple (T.map PyData.int), .tuple (B.map PyData.int)]) = true := by
  simp [SeqAt.shaped, PyData.canLay0, PyData.canLayAll0, PyData.depth, PyData.depthAll, PySem.W.ke_canLayAll0, PySem.W.ke_depthAll]
theorem Pz {H : Hp} {g : Bool -> Bool} {Q : VK} {a b u v u' v' : Addr} {T B T' B' : List Int} (ha : SqT K H a [.ref u, .ref v]) (hu : SqT K H u (T.map V.int)) (hv : SqT K H v (B.map V.int)) (hb : SqT K H b [.ref u', .ref v']) (hu' : SqT K H u' (T'.map V.int)) (hv' : SqT K H v' (B'.map V.int)) (h : Q (.bl (g (decide (T = T') && decide (B = B')))) H) : Ag7 K g (.ref a) (.ref b) H Q :=
  ⟨_, _, .tup ha (.cons (.ints hu) (.cons (.ints hv) .nil)), .tup hb (.cons (.ints hu') (.cons (.ints hv') .nil)), R3 T B, R3 T' B', by
    simp only [PyData.eqv, PyData.eqvAll, Nm, Bool.and_true]
    exact h⟩
structure Fs (K : PySem.W.Frag) (H : Hp) (p q : List Int) (xs : List V) : Prop where
  le : xs.length <= 10
  al : ∀ x ∈ xs, Tp K H p q x false
def Tf (K : PySem.W.Frag) : Sp := fun vs H Q _ => ∃ (z u v s r z' u' v' s' r' : Addr) (c c' : Int) (p q p' T B a b T' B' a' b' : List Int), vs = [.ref z, .ref z'] /\ FdP K H z u v s r c p q T B a b /\ FdP K H z' u' v' s' r' c' p' q T' B' a' b' /\ Tr p /\ Tr p' /\ p ≠ p' /\ ∀ (l : Addr) (H' : Hp) (xs : List V), Same H H' -> H' l = some (.lst xs) -> Fs K H' p q xs -> Q (.ref l) H'
theorem Zc {f : Addr} {fd : FuncData} (F : Df K mg "_law_alone" Q8 ["_law_paper", "_law_foreign"] f fd)   (c_p_times : Cal P w K mg base 1 "p_times" ["one", "other"] (Dd K)) (c_scaled : Cal P w K mg base 1 "scaled" ["one", "factor"] (G8 K)) : Cal P w K mg base 2 "_law_alone" ["_law_paper", "_law_foreign"] (Tf K) := by
  refine F.cal (F.fn.ok Er (fun vs H Q E h => ?_) (fun cdv A outer s H vs Q E hr h => ?_))
  . obtain ⟨z, u, v, s, r, z', u', v', s', r', c, c', p, q, p', T, B, a, b, T', B', a', b', rfl, _⟩ := h
    rfl
  obtain ⟨z, u, v, s, r, z', u', v', s', r', c, c', p, q, p', T, B, a, b, T', B', a', b', rfl, hp, hp', tp, tp', ne, k⟩ := h
  refine S.Bm ⟨_, (S.Ac (S.El (S.pv 0) (S.Gz rfl (S.Ar (S.Am (i := 5) Er.nd rfl (Or.inl rfl)) (S.Ar (S.Am (i := 6) Er.nd rfl (Or.inl rfl)) (S.Ar (S.Am (i := 7) Er.nd rfl (Or.inl rfl)) (S.Ar (S.Am (i := 8) Er.nd rfl (Or.inl rfl)) (S.Ar (S.Am (i := 9) Er.nd rfl (Or.inl rfl)) S.Ed)))))))
      (S.Ac (S.Aj (i := 2) Er.nd rfl (Or.inl rfl) (S.Ai c_p_times (hr.mono (by decide)) (S.Aa (S.pv 5) (S.Aa (S.Az (S.Aa S.Ad (S.Aa S.Ad S.Ab))) S.Ab))))
      (S.Ac (S.Aj (i := 3) Er.nd rfl (Or.inl rfl) (S.Ai c_p_times (hr.mono (by decide)) (S.Aa (S.pv 6) (S.Aa (S.Az (S.Aa S.Ad (S.Aa S.Ad S.Ab))) S.Ab))))
      (S.Ac (S.Aj (i := 4) Er.nd rfl (Or.inl rfl) (S.G7 (S.Aa (S.Az (S.Aa (S.pv 2) (S.Aa (S.pv 3) (S.Aa (S.pv 3) (S.Aa (S.Ai c_scaled (hr.mono (by decide)) (S.Aa (S.pv 2) (S.Aa (S.Eb Cd S.Ad) S.Ab))) (S.Aa S.Ad S.Ab)))))) (S.Aa (S.Az (S.Aa (S.Ai c_scaled (hr.mono (by decide)) (S.Aa (S.pv 5) (S.Aa S.Ad S.Ab))) (S.Aa (S.Ai c_scaled (hr.mono (by decide)) (S.Aa (S.pv 6) (S.Aa S.Ad S.Ab))) (S.Aa (S.pv 7) (S.Aa (S.pv 8) (S.Aa (S.Ak Dy S.Ad (S.pv 9)) S.Ab)))))) S.Ab))))
      (S.Ac (S.Lz (S.Pn PySem.F.plainAttrs_list PySem.F.slot_list_append PySem.F.type_list_append K1 (S.pv 4) (S.Aa (S.Az (S.Aa (S.Ai c_scaled (hr.mono (by decide)) (S.Aa (S.pv 5) (S.Aa (S.Eb Cd S.Ad) S.Ab))) (S.Aa (S.Ai c_scaled (hr.mono (by decide)) (S.Aa (S.pv 6) (S.Aa (S.Eb Cd S.Ad) S.Ab))) (S.Aa (S.pv 7) (S.Aa (S.pv 8) (S.Aa (S.Eb Cd (S.pv 9)) S.Ab)))))) S.Ab)))
      (S.Ac (S.Bv (S.Ah (Tt hr.units) (S.Dh Ho (S.pv 1) S.Ej (S.Em S.Ad)) (S.Dh Ho (S.pv 0) S.Ej (S.Em S.Ad)) (Ao _)) (S.Af (S.Lz (S.Pn PySem.F.plainAttrs_list PySem.F.slot_list_append PySem.F.type_list_append K1 (S.pv 4) (S.Aa (S.pv 1) S.Ab)))) S.Av)
      (S.Af (S.Aq (S.pv 4))))))))), ?_⟩
  contradiction
  refine Vf hp.it ?_
  contradiction
  intro m1 n1
  have s1 := Same.upd n1 (.tup [V.int 1, V.int 1])
  refine Ea hp.iu s1 (po2 (l := 2) (n := 1) Ae (by decide) (by decide) (by decide) (by unfold Sz; decide) (by unfold Sz; decide)) (Same.refl _) (by decide) (by decide) (by decide) fun x2 H2 s2 i2 => ?_
  intro m3 n3
  have s3 := Same.upd n3 (.tup [V.int 1, V.int 1])
  have s03 := (s1.trans s2).trans s3
  refine Ea hp.iv s03 (po2 (l := 2) (n := 1) Ae (by decide) (by decide) (by decide) (by unfold Sz; decide) (by unfold Sz; decide)) (Same.refl _) (by decide) (by decide) (by decide) fun x4 H4 s4 i4 => ?_
  refine Hv i2 (s3.trans s4) (show Sz 1 (-1 : Int) by unfold Sz; decide) (by decide) (by decide) fun x5 H5 s5 i5 => ?_
  refine ⟨by decide, fun m6 n6 => ?_⟩
  have s6 := Same.upd n6 (.tup [x2, x4, x4, x5, V.int 0])
  have w1 : Gp K (upd H5 m6 (.tup [x2, x4, x4, x5, V.int 0])) m6 x2 x4 x4 x5 _ _ _ _ 0 := ⟨.of Ae, Bj (i2.mono (((s3.trans s4).trans s5).trans s6)) (by decide) (by decide), Bj (i4.mono (s5.trans s6)) (by decide) (by decide), Bj (i4.mono (s5.trans s6)) (by decide) (by decide), Bj (i5.mono s6) (by decide) (by decide)⟩
  have s06 := ((s03.trans s4).trans s5).trans s6
  clear s1 s2 s3 s03 s4 s5 s6 i2 i4 i5
  generalize upd H5 m6 (.tup [x2, x4, x4, x5, V.int 0]) = H6 at *
  refine Hv hp.iu s06 (show Sz 2 (2 : Int) by unfold Sz; decide) (by decide) (by decide) fun x7 H7 s7 i7 => ?_
  refine Hv hp.iv (s06.trans s7) (show Sz 2 (2 : Int) by unfold Sz; decide) (by decide) (by decide) fun x8 H8 s8 i8 => ?_
  refine ⟨.of_left (V1 (by unfold Sz; decide : Sz 2 (2 : Int)) (by decide)), by decide, fun m9 n9 => ?_⟩
  have s9 := Same.upd n9 (.tup [x7, x8, V.ref s, V.ref r, V.int (2 * c)])
  have s69 := (s7.trans s8).trans s9
  have s09 := s06.trans s69
  have w2 : Gp K (upd H8 m9 (.tup [x7, x8, V.ref s, V.ref r, V.int (2 * c)])) m9 x7 x8 (.ref s) (.ref r) (ng T 2) (ng B 2) a b (2 * c) := ⟨.of Ae, Bj (i7.mono (s8.trans s9)) (by decide) (by decide), Bj (i8.mono s9) (by decide) (by decide), Bj (hp.is.mono s09) (by decide) (by decide), Bj (hp.ir.mono s09) (by decide) (by decide)⟩
  replace w1 := w1.mono s69
  clear s69 s9 s8 s7 s06 i7 i8
  generalize upd H8 m9 (.tup [x7, x8, V.ref s, V.ref r, V.int (2 * c)]) = H9 at *
  intro l nl
  have sl := Same.upd nl (.lst [V.ref m6, V.ref m9])
  have gl9 : upd H9 l (.lst [V.ref m6, V.ref m9]) l = some (.lst [V.ref m6, V.ref m9]) := Ae
  have s0l := s09.trans sl
  replace w1 := w1.mono sl
  replace w2 := w2.mono sl
  have nl0 : H l = none := s09.free nl
  clear nl sl s09
  generalize upd H9 l (.lst [V.ref m6, V.ref m9]) = Ha at *
  refine ⟨.inl ⟨rfl, _, .of gl9⟩, ?_⟩
  refine Hv hp.iu s0l (show Sz 1 (-1 : Int) by unfold Sz; decide) (by decide) (by decide) fun x10 H10 s10 i10 => ?_
  refine Hv hp.iv (s0l.trans s10) (show Sz 1 (-1 : Int) by unfold Sz; decide) (by decide) (by decide) fun x11 H11 s11 i11 => ?_
  refine ⟨by decide, fun m12 n12 => ?_⟩
  have s12 := Same.upd n12 (.tup [x10, x11, V.ref s, V.ref r, V.int (-c)])
  have sa := (s10.trans s11).trans s12
  have s0b := s0l.trans sa
  have w3 : Gp K (upd H11 m12 (.tup [x10, x11, V.ref s, V.ref r, V.int (-c)])) m12 x10 x11 (.ref s) (.ref r) (ng T (-1)) (ng B (-1)) a b (-c) := ⟨.of Ae, Bj (i10.mono (s11.trans s12)) (by decide) (by decide), Bj (i11.mono s12) (by decide) (by decide), Bj (hp.is.mono s0b) (by decide) (by decide), Bj (hp.ir.mono s0b) (by decide) (by decide)⟩
  replace w1 := w1.mono sa
  replace w2 := w2.mono sa
  have glb := sa _ _ gl9
  clear sa s12 s11 s10 i10 i11 s0l gl9
  generalize upd H11 m12 (.tup [x10, x11, V.ref s, V.ref r, V.int (-c)]) = Hb at *
  refine ⟨l, _, _, rfl, rfl, glb, show 2 < sizeLine by decide, ?_⟩
  replace w1 := w1.put (o := .lst [V.ref m6, V.ref m9, V.ref m12]) glb
  replace w2 := w2.put (o := .lst [V.ref m6, V.ref m9, V.ref m12]) glb
  replace w3 := w3.put (o := .lst [V.ref m6, V.ref m9, V.ref m12]) glb
  have s0c := s0b.put (o := .lst [V.ref m6, V.ref m9, V.ref m12]) nl0
  have glc : upd Hb l (.lst [V.ref m6, V.ref m9, V.ref m12]) l = some (.lst [V.ref m6, V.ref m9, V.ref m12]) := Ae
  show Akh K (V.ref z') none (some 2) (upd Hb l (.lst [V.ref m6, V.ref m9, V.ref m12])) _
  clear glb s0b
  generalize upd Hb l (.lst [V.ref m6, V.ref m9, V.ref m12]) = Hc at *
  refine ⟨z', _, rfl, s0c.tup hp'.it, fun y1 Hd sd hd => ⟨z, _, rfl, (s0c.trans sd).tup hp.it, fun y2 He se he => ?_⟩⟩
  have sE := (s0c.trans sd).trans se
  have sde := sd.trans se
  have f1 := (w1.mono sde)
  have f2 := (w2.mono sde)
  have f3 := (w3.mono sde)
  have gle := sde _ _ glc
  refine Pz (se.tup hd) (sE.tup hp'.iu.sq) (sE.tup hp'.iv.sq) he (sE.tup hp.iu.sq) (sE.tup hp.iv.sq) ?_
  have r2 : rB p q (ng T 2) (ng B 2) a b (2 * c) = false := Adh hp.qf.tT hp.qf.tB
  have r3 : rB p q (ng T (-1)) (ng B (-1)) a b (-c) = false := Adv hp.qf.tB hp.qf.nB hp.qf.pos
  have r4 : rB p q T' B' a' b' c' = false := Ada hp'.qf tp tp' ne
  generalize (decide (T' = T) && decide (B' = B)) = w
  cases w with
  | true =>
    try contradiction
    refine k l _ _ sE gle ⟨by simp, fun x hx => ?_⟩
    have : x = .ref m6 \/ x = .ref m9 \/ x = .ref m12 := by simpa using hx
    rcases this with rfl | rfl | rfl
    . exact f1.tp V8
    . exact f2.tp r2
    . exact f3.tp r3
  | false =>
    try contradiction
    refine ⟨.inl ⟨rfl, _, .of gle⟩, l, _, _, rfl, rfl, gle, show 3 < sizeLine by decide, ?_⟩
    have sF := sE.put (o := .lst ([V.ref m6, V.ref m9, V.ref m12] ++ [V.ref z'])) nl0
    refine k l _ _ sF Ae ⟨by simp, fun x hx => ?_⟩
    have : x = .ref m6 \/ x = .ref m9 \/ x = .ref m12 \/ x = .ref z' := by simpa using hx
    rcases this with rfl | rfl | rfl | rfl
    . exact (f1.put gle).tp V8
    . exact (f2.put gle).tp r2
    . exact (f3.put gle).tp r3
    . exact (hp'.mono sF).gp.tp r4
theorem FdP.rb {H : Hp} {z u v s r : Addr} {c : Int} {p q T B a b : List Int} (h : FdP K H z u v s r c p q T B a b) : rB p q T B a b c = true := by
  unfold rB hpw
  rw [decide_eq_true h.c0, decide_eq_true h.qf.nB, decide_eq_true h.qf.pos, decide_eq_true h.qf.gl1, decide_eq_true h.qf.eq, decide_eq_true h.ab]
  rfl
theorem FdP.tp {H : Hp} {z u v s r : Addr} {c : Int} {p q T B a b : List Int} (h : FdP K H z u v s r c p q T B a b) : Tp K H p q (.ref z) true := h.rb ▸ .good h.gp.it h.gp.hT h.gp.hB h.gp.ha h.gp.hb
theorem Du.yes {H : Hp} {p q : List Int} {v : V} {t : Bool} (h : Du K H p q v t) (e : t = true) : ∃ z vT vB va vb T B a b c, v = .ref z /\ Gp K H z vT vB va vb T B a b c /\ QF p q T B := by
  cases h with
  | good h hT hB ha hb => exact ⟨_, _, _, _, _, _, _, _, _, _, rfl, ⟨h, hT, hB, ha, hb⟩, Aju hT.2.1 hB.2.1 e⟩
  | odd => cases e
  | bad => cases e
  | long => cases e
theorem Ai7 {p : List Int} {n : Int} (hn : n ≠ 0) : p ≠ ta p [n] := fun e => by
  have h : co p 0 = co (ta p [n]) 0 := by rw [<- e]
  rw [Oc, Ca] at h
  omega
theorem Ai9 {a b : Int} (hb : b ≠ 0) : trim [a, b] = [a, b] := Qy (.inr ⟨by simp, by simpa using hb⟩)
structure Lw (K : PySem.W.Frag) (H : Hp) (x y : V) (p q : List Int) (z u v s r w u' v' : Addr) (c : Int) (T B a b : List Int) : Prop where
  ip : Po K H x p 6 10
  iq : Po K H y q 6 10
  nq : q ≠ []
  pa : FdP K H z u v s r c p q T B a b
  iw : SqT K H w [.ref u', .ref v']
  iu : SqT K H u' (T.map V.int)
  iv : SqT K H v' (B.map V.int)
theorem Lw.mono {H H' : Hp} {x y : V} {p q : List Int} {z u v s r w u' v' : Addr} {c : Int} {T B a b : List Int} (h : Lw K H x y p q z u v s r w u' v' c T B a b) (t : Same H H') : Lw K H' x y p q z u v s r w u' v' c T B a b := ⟨h.ip.mono t, h.iq.mono t, h.nq, h.pa.mono t, t.tup h.iw, t.tup h.iu, t.tup h.iv⟩
theorem Vc {H H1 : Hp} {Q : VK} {E : XK} {x y e : V} {p q : List Int} {t : Bool} (ip : Po K H1 x p 6 10) (iq : Po K H1 y q 6 10) (nq : q ≠ []) (s : Same H1 H) (ht : Tp K H p q e t) (h : ∀ H', Same H H' -> Q (.bl t) H') : Ru K [x, y, e] H Q E := ⟨x, y, e, p, q, t, rfl, Bj (ip.mono s) (by decide) (by decide), Bj (iq.mono s) (by decide) (by decide), ht, fun H' s' => by
  rw [decide_eq_true nq, Bool.true_and]
  exact h _ s'⟩
theorem Ab6 {H : Hp} {l : Addr} {xs : List V} (h : SqL K H l xs) : Agu (Itl K l) H xs id := by
  have := Aby (inj := id) (es := xs) (K := K) (H := H) (a := l) (by rw [List.map_id]; exact h)
  exact this
theorem Ah3 {f : Addr} {fd : FuncData} (F : Df K mg "law" Vt ["_law_script"] f fd) (z_range : mg "range" = none) (z_list : mg "list" = none)  (c_q_cell_at : Cal P w K mg base 1 "_law_cell_at" ["_law_script", "_law_k"] (Mf K)) (c_q_poly : Cal P w K mg base 3 "_law_poly" ["_law_cell"] (U6 K)) (c_q_paper : Cal P w K mg base 11 "q_paper" ["p", "q"] (Te K)) (c_q_of : Cal P w K mg base 10 "q_of" ["p", "q"] (Xi K)) (c_q_alone : Cal P w K mg base 2 "_law_alone" ["_law_paper", "_law_foreign"] (Tf K)) (c_poly : Cal P w K mg base 1 "poly" ["weights"] (Ij K)) (c_p_times : Cal P w K mg base 1 "p_times" ["one", "other"] (Dd K)) (c_q_told : Cal P w K mg base 5 "_law_told" ["_law_one", "_law_other", "_law_paper"] (Ru K)) (c_p_plus : Cal P w K mg base 3 "p_plus" ["one", "other"] (Ib K)) (c_q_turned : Cal P w K mg base 3 "_law_turned" ["_law_paper", "_law_cell"] (Rf K)) (c_q_own : Cal P w K mg base 4 "_law_own" ["_law_paper", "_law_cell"] (Xv K)) (c_q_due : Cal P w K mg base 4 "_law_due" ["_law_one", "_law_other", "_law_paper"] (Xy K)) : Qi P w K mg base CX0 12 f fd ["_law_script"] (Ac9 K) := by
  refine F.fn.ok Hl (fun vs H Q E h => ?_) (fun cdv A outer s H vs Q E hr h => ?_)
  . obtain ⟨a, ns, rfl, _⟩ := h
    rfl
  obtain ⟨a, ns, rfl, hS, h63, k⟩ := h
  refine S.Bm ⟨_, (S.Ac (S.Aj (i := 1) Hl.nd rfl (Or.inl rfl) (S.Ai c_q_cell_at (hr.mono (by decide)) (S.Aa (S.pv 0) (S.Aa S.Ad S.Ab))))
      (S.Ac (S.Aj (i := 2) Hl.nd rfl (Or.inl rfl) (S.Ai c_q_poly (hr.mono (by decide)) (S.Aa (S.Ai c_q_cell_at (hr.mono (by decide)) (S.Aa (S.pv 0) (S.Aa S.Ad S.Ab))) S.Ab)))
      (S.Ac (S.Aj (i := 3) Hl.nd rfl (Or.inl rfl) (S.Ai c_q_poly (hr.mono (by decide)) (S.Aa (S.Ai c_q_cell_at (hr.mono (by decide)) (S.Aa (S.pv 0) (S.Aa S.Ad S.Ab))) S.Ab)))
      (S.Ac (S.Bv (S.Ah (Hj hr.units) (S.pv 3) (S.Az S.Ab) (Ao _)) (S.Af (S.Aj (i := 3) Hl.nd rfl (Or.inl rfl) (S.Az (S.Aa (S.Ak Cz S.Ad (S.Ak Ci (S.pv 1) S.Ad)) S.Ab)))) S.Av)
      (S.Ac (S.Bv (S.Ah Jd (S.Ak Ci (S.Ak Bw (S.pv 1) S.Ad) S.Ad) S.Ad (Ao _)) (S.Ac (S.Aj (i := 10) Hl.nd rfl (Or.inl rfl) (S.Ai c_poly (hr.mono (by decide)) (S.Aa (S.G7 (S.Aa (S.Ak Et (S.Ak Ci (S.Ak Bw (S.pv 1) S.Ad) S.Ad) S.Ad) (S.Aa (S.Ak Cz S.Ad (S.Ak Ci (S.Ak Bw (S.pv 1) S.Ad) S.Ad)) S.Ab))) S.Ab)))
      (S.Ac (S.Aj (i := 2) Hl.nd rfl (Or.inl rfl) (S.Ai c_p_times (hr.mono (by decide)) (S.Aa (S.pv 2) (S.Aa (S.pv 10) S.Ab))))
      (S.Af (S.Aj (i := 3) Hl.nd rfl (Or.inl rfl) (S.Ai c_p_times (hr.mono (by decide)) (S.Aa (S.pv 3) (S.Aa (S.pv 10) S.Ab))))))) S.Av)
      (S.Ac (S.Aj (i := 4) Hl.nd rfl (Or.inl rfl) (S.Ai c_q_paper (hr.mono (by decide)) (S.Aa (S.pv 2) (S.Aa (S.pv 3) S.Ab))))
      (S.Ac (S.Aj (i := 5) Hl.nd rfl (Or.inl rfl) (S.Ai c_q_of (hr.mono (by decide)) (S.Aa (S.pv 2) (S.Aa (S.pv 3) S.Ab))))
      (S.Ac (S.Bv (S.Li (S.Jf (S.Ah T9 (S.Ai c_q_told (hr.mono (by decide)) (S.Aa (S.pv 2) (S.Aa (S.pv 3) (S.Aa (S.pv 4) S.Ab)))) S.Ia (Ao _)) (S.Ig (S.Ah (Tt hr.units) (S.Dh Ho (S.pv 4) S.Ej (S.Em S.Ad)) (S.pv 5) (Ao _))))) (S.Af (S.Aq S.Ia)) S.Av)
      (S.Ac (S.Hf PassesOwn.never rfl (S.M7 (S.G7 (S.Aa S.Mu (S.Aa S.Ad (S.Aa S.O9 (S.Aa (S.Gy Dz rfl z_list PyProof.Rows.boot_list (S.Aa (S.pv 4) S.Ab)) (S.Aa (S.Az S.Ab) (S.Aa (S.Dh Ho (S.pv 4) S.Ej (S.Em S.Ad)) S.Ab)))))))) (S.Am (i := 6) Hl.nd rfl (Or.inl rfl)) (S.Af (S.Bv (S.Ah T9 (S.Ai c_q_told (hr.mono (by decide)) (S.Aa (S.pv 2) (S.Aa (S.pv 3) (S.Aa (S.pv 6) S.Ab)))) S.Ia (Ao _)) (S.Af (S.Aq S.Ia)) S.Av)))
      (S.Ac (S.Bv (S.Ah T9 (S.Ai c_q_told (hr.mono (by decide)) (S.Aa (S.pv 2) (S.Aa (S.Az S.Ab) (S.Aa (S.pv 4) S.Ab)))) S.Ia (Ao _)) (S.Af (S.Aq S.Ia)) S.Av)
      (S.Ac (S.Aj (i := 7) Hl.nd rfl (Or.inl rfl) (S.Ai c_q_paper (hr.mono (by decide)) (S.Aa (S.Ai c_p_plus (hr.mono (by decide)) (S.Aa (S.pv 2) (S.Aa (S.Az (S.Aa (S.Ak Cz S.Ad (S.Ak Ci (S.Ak Bw (S.pv 1) S.Ad) S.Ad)) S.Ab)) S.Ab))) (S.Aa (S.pv 3) S.Ab))))
      (S.Ac (S.Hf PassesOwn.never rfl (S.M7 (S.Ai c_q_alone (hr.mono (by decide)) (S.Aa (S.pv 4) (S.Aa (S.pv 7) S.Ab)))) (S.Am (i := 8) Hl.nd rfl (Or.inl rfl)) (S.Af (S.Bv (S.Ah T9 (S.Ai c_q_told (hr.mono (by decide)) (S.Aa (S.pv 2) (S.Aa (S.pv 3) (S.Aa (S.pv 8) S.Ab)))) S.Ia (Ao _)) (S.Af (S.Aq S.Ia)) S.Av)))
      (S.Ac (S.Hf PassesOwn.never rfl (S.Mi rfl z_range (S.Aa S.Ad (S.Aa S.Ad S.Ab))) (S.Am (i := 9) Hl.nd rfl (Or.inl rfl)) (S.Ac (S.Aj (i := 11) Hl.nd rfl (Or.inl rfl) (S.Ak Cz (S.Ai c_q_cell_at (hr.mono (by decide)) (S.Aa (S.pv 0) (S.Aa (S.pv 9) S.Ab))) (S.Ak Dy S.Ad (S.pv 9))))
      (S.Ac (S.Aj (i := 8) Hl.nd rfl (Or.inl rfl) (S.Ai c_q_turned (hr.mono (by decide)) (S.Aa (S.pv 4) (S.Aa (S.pv 11) S.Ab))))
      (S.Ac (S.Bv (S.Ah Jd (S.Ak Ci (S.Ak Bw (S.pv 11) S.Ad) S.Ad) S.Ad (Ao _)) (S.Af (S.Aj (i := 8) Hl.nd rfl (Or.inl rfl) (S.Ai c_q_own (hr.mono (by decide)) (S.Aa (S.pv 4) (S.Aa (S.Ak Bw (S.pv 11) S.Ad) S.Ab))))) S.Av)
      (S.Ac (S.Aj (i := 12) Hl.nd rfl (Or.inl rfl) (S.Ai c_q_told (hr.mono (by decide)) (S.Aa (S.pv 2) (S.Aa (S.pv 3) (S.Aa (S.pv 8) S.Ab)))))
      (S.Af (S.Bv (S.Li (S.Jf (S.Ah Ae6 (S.pv 12) S.Mu (Ao _)) (S.Jf (S.Ah Oe (S.pv 12) (S.Ai c_q_due (hr.mono (by decide)) (S.Aa (S.pv 2) (S.Aa (S.pv 3) (S.Aa (S.pv 8) S.Ab)))) (Ao _)) (S.Ig (S.Li (S.Wc (S.G9 (S.pv 12)) (S.Qt (S.Ah (Tt hr.units) (S.Dh Ho (S.pv 8) S.Ej (S.Em S.Ad)) (S.pv 5) (Ao _))))))))) (S.Af (S.Aq S.Ia)) S.Av)))))))
      (S.Af (S.Aq S.Ia))))))))))))))), ?_⟩
  refine Bl (fun σ' H' => H' = H /\ ∃ c : Int, σ' = [some (.ref a), some (.int c), none, none, none, none, none, none, none, none, none, none, none]) (fun N hN => ?_) ?_
  . contradiction
    refine Yk hS (Same.refl _) (by decide) ?_
    try contradiction
    exact hN _ _ ⟨rfl, _, rfl⟩
  rintro σ H0 ⟨rfl, c, rfl⟩
  refine Bl (fun σ' H' => Same H0 H' /\ ∃ (x : V) (p : List Int), Po K H' x p 4 4 /\ σ' = [some (.ref a), some (.int c), some x, none, none, none, none, none, none, none, none, none, none]) (fun N hN => ?_) ?_
  . contradiction
    refine Yk hS (Same.refl _) (by decide) ?_
    try contradiction
    exact ⟨_, rfl, fun z H2 p s2 i2 => hN _ _ ⟨s2, z, p, i2, rfl⟩⟩
  rintro σ H1 ⟨s1, x, p, ip, rfl⟩
  refine Bl (fun σ' H' => Same H1 H' /\ ∃ (y : V) (q : List Int), Po K H' y q 4 4 /\ σ' = [some (.ref a), some (.int c), some x, some y, none, none, none, none, none, none, none, none, none]) (fun N hN => ?_) ?_
  . contradiction
    refine Yk hS s1 (by decide) ?_
    try contradiction
    exact ⟨_, rfl, fun z H2 p s2 i2 => hN _ _ ⟨s2, z, p, i2, rfl⟩⟩
  rintro σ H2 ⟨s2, y, q, iq, rfl⟩
  refine Bl (fun σ' H' => Same H2 H' /\ ∃ (y : V) (q : List Int), Po K H' y q 4 4 /\ q ≠ [] /\ σ' = [some (.ref a), some (.int c), some x, some y, none, none, none, none, none, none, none, none, none]) (fun N hN => ?_) ?_
  . obtain ⟨⟨ay, rfl, hy⟩, _⟩ := id iq
    contradiction
    refine ⟨by decide, fun e0 he0 => ?_⟩
    have se := Same.upd he0 (.tup [])
    refine Bx (ms := []) (se.tup hy) (.of Ae) ?_
    by_cases q0 : q = []
    . rw [decide_eq_true q0]
      try contradiction
      refine ⟨by decide, fun m hm => ?_⟩
      exact hN _ _ ⟨se.trans (Same.upd hm _), _, _, po1 (l := 4) (n := 4) Ae (show 1 + c % 9 ≠ 0 by omega) (by decide) (by decide) (by unfold Sz; omega), by simp, rfl⟩
    . rw [decide_eq_false q0]
      try contradiction
      exact hN _ _ ⟨se, _, _, iq.mono se, q0, rfl⟩
  clear iq
  rintro σ H3 ⟨s3, y, q, iq, nq, rfl⟩
  replace ip := ip.mono (s2.trans s3)
  have s03 := (s1.trans s2).trans s3
  clear s1 s2 s3
  refine Bl (fun σ' H' => Same H3 H' /\ ∃ (x y : V) (p q : List Int) (o10 : Option V), Po K H' x p 6 10 /\ Po K H' y q 6 10 /\ q ≠ [] /\ σ' = [some (.ref a), some (.int c), some x, some y, none, none, none, none, none, none, o10, none, none]) (fun N hN => ?_) ?_
  . contradiction
    refine ⟨⟨by decide, by decide⟩, by decide, ?_⟩
    split
    . refine ⟨⟨by decide, by decide⟩, by decide, ⟨by decide, by decide⟩, by decide, fun m1 n1 => ⟨m1, [c / 18 % 7 - 3, 1 + c / 126 % 3], rfl, .inl (.of Ae), by simp, fun z4 H4 s4 h4 => ?_⟩⟩
      have sm := (Same.upd n1 (.lst [V.int (c / 18 % 7 - 3), V.int (1 + c / 126 % 3)])).trans s4
      have im : Po K H4 (.ref z4) (trim [c / 18 % 7 - 3, 1 + c / 126 % 3]) 2 2 := Aen h4 (by simp) (by decide) (fun x hx => by
        have : x = c / 18 % 7 - 3 \/ x = 1 + c / 126 % 3 := by simpa using hx
        unfold Sz
        omega)
      have nm : trim [c / 18 % 7 - 3, 1 + c / 126 % 3] ≠ [] := by
        rw [Ai9 (by omega)]
        simp
      generalize trim [c / 18 % 7 - 3, 1 + c / 126 % 3] = m at im nm
      try contradiction
      refine Ea ip sm im (Same.refl _) (by decide) (by decide) (by decide) fun z5 H5 s5 i5 => ?_
      try contradiction
      refine Ea iq (sm.trans s5) im s5 (by decide) (by decide) (by decide) fun z6 H6 s6 i6 => ?_
      try contradiction
      exact hN _ _ ⟨(sm.trans s5).trans s6, _, _, _, _, _, i5.mono s6, i6, Afk iq.2.1 im.2.1 nq nm, rfl⟩
    . exact hN _ _ ⟨Same.refl _, _, _, _, _, _, Bj ip (by decide) (by decide), Bj iq (by decide) (by decide), nq, rfl⟩
  clear ip iq nq x y p q
  rintro σ H4 ⟨s4, x, y, p, q, o10, ip, iq, nq, rfl⟩
  have s04 := s03.trans s4
  clear s03 s4
  refine Bl (fun σ' H' => Same H4 H' /\ ∃ (z u v s r : Addr) (c' : Int) (T B a' b : List Int), FdP K H' z u v s r c' p q T B a' b /\ σ' = [some (.ref a), some (.int c), some x, some y, some (.ref z), none, none, none, none, none, o10, none, none]) (fun N hN => ?_) ?_
  . contradiction
    exact ⟨x, y, p, q, rfl, Bj ip (by decide) (by decide), Bj iq (by decide) (by decide), nq, fun z u v s r H5 c' T B a' b s5 h5 => hN _ _ ⟨s5, z, u, v, s, r, c', T, B, a', b, h5, rfl⟩⟩
  rintro σ H5 ⟨s5, z, u, v, s, r, c', T, B, a', b, pa, rfl⟩
  refine Bl (fun σ' H' => Same H5 H' /\ ∃ (w u' v' : Addr), Lw K H' x y p q z u v s r w u' v' c' T B a' b /\ σ' = [some (.ref a), some (.int c), some x, some y, some (.ref z), some (.ref w), none, none, none, none, o10, none, none]) (fun N hN => ?_) ?_
  . contradiction
    refine ⟨x, y, p, q, 6, 12, rfl, Bj (ip.mono s5) (by decide) (by decide), Bj (iq.mono s5) (by decide) (by decide), Aj8, by decide, by decide, nq, fun w H6 vT vB T' B' s6 hw iT iB qf => ?_⟩
    obtain ⟨⟨u', rfl, hu'⟩, _⟩ := id iT
    obtain ⟨⟨v', rfl, hv'⟩, _⟩ := id iB
    obtain ⟨rfl, rfl⟩ := qf.uniq pa.qf iq.2.1 nq iq.2.1 nq rfl
    have s56 := s5.trans s6
    exact hN _ _ ⟨s6, w, u', v', ⟨ip.mono s56, iq.mono s56, nq, pa.mono s6, hw, hu', hv'⟩, rfl⟩
  rintro σ H6 ⟨s6, w, u', v', lw, rfl⟩
  have s06 := (s04.trans s5).trans s6
  clear s04 s5 s6 pa ip iq nq
  refine Bl (fun σ' H' => Same H6 H' /\ σ' = [some (.ref a), some (.int c), some x, some y, some (.ref z), some (.ref w), none, none, none, none, o10, none, none]) (fun N hN => ?_) ?_
  . contradiction
    refine Vc lw.ip lw.iq lw.nq (Same.refl _) lw.pa.tp fun H7 s7 => ⟨true, true, rfl, rfl, ?_⟩
    try contradiction
    refine ⟨z, _, rfl, s7.tup lw.pa.it, fun z8 H8 s8 h8 => ?_⟩
    have s78 := s7.trans s8
    refine Pz h8 (s78.tup lw.pa.iu.sq) (s78.tup lw.pa.iv.sq) (s78.tup lw.iw) (s78.tup lw.iu) (s78.tup lw.iv) ?_
    rw [decide_eq_true rfl, decide_eq_true rfl]
    try contradiction
    exact hN _ _ ⟨s78, rfl⟩
  rintro σ H7 ⟨s7, rfl⟩
  replace lw := lw.mono s7
  have s07 := s06.trans s7
  clear s06 s7
  refine Bl (fun σ' H' => Same H7 H' /\ ∃ o6 : Option V, σ' = [some (.ref a), some (.int c), some x, some y, some (.ref z), some (.ref w), o6, none, none, none, o10, none, none]) (fun N hN => ?_) ?_
  . contradiction
    refine ⟨z, _, rfl, .inr lw.pa.it, fun l1 n1 => ⟨by decide, fun l2 n2 => ?_⟩⟩
    have t1 := Same.upd n1 (.lst [.ref u, .ref v, .ref s, .ref r, .int c'])
    have g1 : upd H7 l1 (.lst [.ref u, .ref v, .ref s, .ref r, .int c']) l1 = _ := Ae
    generalize upd H7 l1 (.lst [.ref u, .ref v, .ref s, .ref r, .int c']) = G1 at t1 g1 n2
    have t2 := Same.upd n2 (.tup [])
    have g2 : upd G1 l2 (.tup []) l2 = _ := Ae
    generalize upd G1 l2 (.tup []) = G2 at t2 g2
    refine ⟨z, _, rfl, (t1.trans t2).tup lw.pa.it, fun l3 G3 t3 g3 => ⟨by decide, fun l4 n4 => ?_⟩⟩
    have t4 := Same.upd n4 (.lst [V.non, V.int 7, V.str (Str.ofString "paper"), V.ref l1, V.ref l2, V.ref l3])
    have g4 : upd G3 l4 (.lst [V.non, V.int 7, V.str (Str.ofString "paper"), V.ref l1, V.ref l2, V.ref l3]) l4 = _ := Ae
    have t04 := ((t1.trans t2).trans t3).trans t4
    have fs : Fs K (upd G3 l4 (.lst [V.non, V.int 7, V.str (Str.ofString "paper"), V.ref l1, V.ref l2, V.ref l3])) p q [V.non, V.int 7, V.str (Str.ofString "paper"), V.ref l1, V.ref l2, V.ref l3] := ⟨by simp, fun e he => by
      have : e = .non \/ e = .int 7 \/ e = .str (Str.ofString "paper") \/ e = .ref l1 \/ e = .ref l2 \/ e = .ref l3 := by simpa using he
      rcases this with rfl | rfl | rfl | rfl | rfl | rfl
      . exact .non
      . exact .int 7
      . exact .str _
      . exact .lst (((t2.trans t3).trans t4) _ _ g1)
      . exact .long (.of ((t3.trans t4) _ _ g2)) (by simp)
      . exact .long (t4.tup g3) (by rw [show Nh [V.ref u, V.ref v, V.ref s, V.ref r, V.int c'] none (some 4) = [V.ref u, V.ref v, V.ref s, V.ref r] from rfl]; simp)⟩
    generalize upd G3 l4 (.lst [V.non, V.int 7, V.str (Str.ofString "paper"), V.ref l1, V.ref l2, V.ref l3]) = G4 at *
    generalize [V.non, V.int 7, V.str (Str.ofString "paper"), V.ref l1, V.ref l2, V.ref l3] = xs at *
    refine ⟨⟨_, .of g4⟩, Acp (es := xs) (inj := id) (fun pre σ' H' => Same G4 H' /\ ∃ o6 : Option V, σ' = [some (.ref a), some (.int c), some x, some y, some (.ref z), some (.ref w), o6, none, none, none, o10, none, none]) ⟨Same.refl _, _, rfl⟩ ?_ ?_ ?_⟩
    . rintro pre σ' H' ⟨t5, _⟩
      exact Ab6 (.of (t5 _ _ g4))
    . rintro pre e post σ' H' he ⟨t5, o6, rfl⟩
      contradiction
      refine Vc lw.ip lw.iq lw.nq (t04.trans t5) ((fs.al e (by rw [he]; simp)).mono t5) fun G6 t6 => ⟨false, false, rfl, rfl, ?_⟩
      try contradiction
      exact ⟨t5.trans t6, _, rfl⟩
    . rintro σ' H' ⟨t5, o6, rfl⟩
      exact hN _ _ ⟨t04.trans t5, _, rfl⟩
  rintro σ H8 ⟨s8, o6, rfl⟩
  replace lw := lw.mono s8
  have s08 := s07.trans s8
  clear s07 s8
  refine Bl (fun σ' H' => Same H8 H' /\ σ' = [some (.ref a), some (.int c), some x, some y, some (.ref z), some (.ref w), o6, none, none, none, o10, none, none]) (fun N hN => ?_) ?_
  . contradiction
    refine ⟨by decide, fun m hm => ?_⟩
    have sm := Same.upd hm (.tup [])
    refine ⟨x, .ref m, .ref z, p, [], _, rfl, Bj (lw.ip.mono sm) (by decide) (by decide), poN Ae (by decide), .good (lw.pa.mono sm).gp.it (lw.pa.mono sm).gp.hT (lw.pa.mono sm).gp.hB (lw.pa.mono sm).gp.ha (lw.pa.mono sm).gp.hb, fun G1 t1 => ⟨false, false, rfl, rfl, ?_⟩⟩
    try contradiction
    exact hN _ _ ⟨sm.trans t1, rfl⟩
  rintro σ H9 ⟨s9, rfl⟩
  replace lw := lw.mono s9
  have s09 := s08.trans s9
  clear s08 s9
  refine Bl (fun σ' H' => Same H9 H' /\ ∃ (z' u1 v1 s1 r1 : Addr) (c1 : Int) (p' T1 B1 a1 b1 : List Int), FdP K H' z' u1 v1 s1 r1 c1 p' q T1 B1 a1 b1 /\ Tr p' /\ p ≠ p' /\ σ' = [some (.ref a), some (.int c), some x, some y, some (.ref z), some (.ref w), o6, some (.ref z'), none, none, o10, none, none]) (fun N hN => ?_) ?_
  . contradiction
    refine ⟨⟨by decide, by decide⟩, by decide, fun m hm => ?_⟩
    have sm := Same.upd hm (.tup [V.int (1 + c / 9 % 5)])
    refine Qv lw.ip sm (po1 (l := 1) (n := 3) Ae (show 1 + c / 9 % 5 ≠ 0 by omega) (by decide) (by decide) (by unfold Sz; omega)) (Same.refl _) (by decide) (by decide) fun z1 G1 t1 i1 => ?_
    try contradiction
    have sm1 := sm.trans t1
    exact ⟨z1, y, _, q, rfl, Bj i1 (by decide) (by decide), Bj (lw.iq.mono sm1) (by decide) (by decide), lw.nq, fun z' u1 v1 s1 r1 G2 c1 T1 B1 a1 b1 t2 h2 => hN _ _ ⟨sm1.trans t2, z', u1, v1, s1, r1, c1, _, T1, B1, a1, b1, h2, Ui _ _, Ai7 (by omega), rfl⟩⟩
  rintro σ H10 ⟨s10, z', u1, v1, s1, r1, c1, p', T1, B1, a1, b1, fo, tp', ne, rfl⟩
  replace lw := lw.mono s10
  have s010 := s09.trans s10
  clear s09 s10
  refine Bl (fun σ' H' => Same H10 H' /\ ∃ o8 : Option V, σ' = [some (.ref a), some (.int c), some x, some y, some (.ref z), some (.ref w), o6, some (.ref z'), o8, none, o10, none, none]) (fun N hN => ?_) ?_
  . contradiction
    refine ⟨z, u, v, s, r, z', u1, v1, s1, r1, c', c1, p, q, p', T, B, a', b, T1, B1, a1, b1, rfl, lw.pa, fo, lw.ip.2.1, tp', ne, fun l G4 xs t04 g4 fs => ?_⟩
    try contradiction
    refine ⟨⟨_, .of g4⟩, Acp (es := xs) (inj := id) (fun pre σ' H' => Same G4 H' /\ ∃ o8 : Option V, σ' = [some (.ref a), some (.int c), some x, some y, some (.ref z), some (.ref w), o6, some (.ref z'), o8, none, o10, none, none]) ⟨Same.refl _, _, rfl⟩ ?_ ?_ ?_⟩
    . rintro pre σ' H' ⟨t5, _⟩
      exact Ab6 (.of (t5 _ _ g4))
    . rintro pre e post σ' H' he ⟨t5, o8, rfl⟩
      contradiction
      refine Vc lw.ip lw.iq lw.nq (t04.trans t5) ((fs.al e (by rw [he]; simp)).mono t5) fun G6 t6 => ⟨false, false, rfl, rfl, ?_⟩
      try contradiction
      exact ⟨t5.trans t6, _, rfl⟩
    . rintro σ' H' ⟨t5, o8, rfl⟩
      exact hN _ _ ⟨t04.trans t5, _, rfl⟩
  rintro σ H11 ⟨s11, o8, rfl⟩
  replace lw := lw.mono s11
  have s011 := s010.trans s11
  clear s010 s11 fo
  refine Bl (fun σ' H' => True) (fun N hN => ?_) ?_
  . contradiction
    refine ⟨⟨by decide, by decide, by decide, by decide⟩, ?_⟩
    rw [show ((15 : Int) - 3).toNat = 12 from rfl]
    refine Aib 12 (fun i => .int (3 + (i : Nat))) (fun _ σ' H' => Same H11 H' /\ ∃ o8 o9 o11 o12 : Option V, σ' = [some (.ref a), some (.int c), some x, some y, some (.ref z), some (.ref w), o6, some (.ref z'), o8, o9, o10, o11, o12]) ⟨Same.refl _, _, _, _, _, rfl⟩ ?_ ?_ ?_
    . rintro i σ' H' _
      exact S8
    . rintro i σ' H' hi ⟨t1, o8, o9, o11, o12, rfl⟩
      contradiction
      refine Yk hS (s011.trans t1) (by omega) ?_
      try contradiction
      refine ⟨.of_left (V1 (by unfold Sz; decide : Sz 6 (53 : Int)) (by decide)), z, u, v, s, r, c', _, p, q, T, B, a', b, rfl, lw.pa.mono t1, fun x1 G0 tt t2 du => ?_⟩
      replace lw := (lw.mono t1).mono t2
      have t12 := t1.trans t2
      try contradiction
      refine ⟨⟨by decide, by decide⟩, by decide, ?_⟩
      split
      . refine ⟨⟨by decide, by decide⟩, z, u, v, s, r, c', _, p, q, T, B, a', b, rfl, lw.pa, fun x2 G1 tt t3 du => ?_⟩
        try contradiction
        have t13 := t12.trans t3
        refine Vc lw.ip lw.iq lw.nq t3 du.tp fun G4 t4 => ?_
        have t34 := t3.trans t4
        try contradiction
        refine ⟨_, _, _, p, q, tt, rfl, Bj (lw.ip.mono t34) (by decide) (by decide), Bj (lw.iq.mono t34) (by decide) (by decide), du.mono t4, fun G5 t5 => ?_⟩
        have t35 := t34.trans t5
        try contradiction
        have t45 := t4.trans t5
        by_cases ht : tt = true
        . rw [if_pos ht]
          obtain ⟨z2, vT, vB, va, vb, T2, B2, a2, b2, c2, rfl, gp, qf⟩ := du.yes ht
          replace gp := gp.mono t45
          refine ⟨z2, _, rfl, gp.it, fun z6 G6 t6 g6 => ?_⟩
          obtain ⟨eT, eB⟩ := qf.uniq lw.pa.qf lw.iq.2.1 lw.nq lw.iq.2.1 lw.nq rfl
          obtain ⟨⟨uT, rfl, hT⟩, _⟩ := gp.hT
          obtain ⟨⟨uB, rfl, hB⟩, _⟩ := gp.hB
          have t36 := t35.trans t6
          refine Pz g6 (t6.tup hT) (t6.tup hB) (t36.tup lw.iw) (t36.tup lw.iu) (t36.tup lw.iv) ?_
          rw [decide_eq_true eT, decide_eq_true eB]
          try contradiction
          exact ⟨(t13.trans t45).trans t6, _, _, _, _, rfl⟩
        . rw [if_neg ht]
          exact ⟨t13.trans t45, _, _, _, _, rfl⟩
      . have t3 := Same.refl G0
        have t13 := t12
        refine Vc lw.ip lw.iq lw.nq t3 du.tp fun G4 t4 => ?_
        have t34 := t3.trans t4
        try contradiction
        refine ⟨_, _, _, p, q, tt, rfl, Bj (lw.ip.mono t34) (by decide) (by decide), Bj (lw.iq.mono t34) (by decide) (by decide), du.mono t4, fun G5 t5 => ?_⟩
        have t35 := t34.trans t5
        try contradiction
        have t45 := t4.trans t5
        by_cases ht : tt = true
        . rw [if_pos ht]
          obtain ⟨z2, vT, vB, va, vb, T2, B2, a2, b2, c2, rfl, gp, qf⟩ := du.yes ht
          replace gp := gp.mono t45
          refine ⟨z2, _, rfl, gp.it, fun z6 G6 t6 g6 => ?_⟩
          obtain ⟨eT, eB⟩ := qf.uniq lw.pa.qf lw.iq.2.1 lw.nq lw.iq.2.1 lw.nq rfl
          obtain ⟨⟨uT, rfl, hT⟩, _⟩ := gp.hT
          obtain ⟨⟨uB, rfl, hB⟩, _⟩ := gp.hB
          have t36 := t35.trans t6
          refine Pz g6 (t6.tup hT) (t6.tup hB) (t36.tup lw.iw) (t36.tup lw.iu) (t36.tup lw.iv) ?_
          rw [decide_eq_true eT, decide_eq_true eB]
          try contradiction
          exact ⟨(t13.trans t45).trans t6, _, _, _, _, rfl⟩
        . rw [if_neg ht]
          exact ⟨t13.trans t45, _, _, _, _, rfl⟩
    . intro σ' H' _
      exact hN _ _ trivial
  rintro σ H12 _
  contradiction
  exact k _
end
abbrev Fd (K : PySem.W.Frag) (x : Str) (st : Stmt) : Prop := ∃ (f : Addr) (od an : Option Addr) (sl : Array (Option Value)) (oc kV dc pm cd ct : Value), PySem.W.nsIn K mainGlobals x = some (some (.ref f)) /\ K.lookup f = some ⟨oc, od, .func (PySem.W.fnOf x x (M5 st) (K7 st) (Ag st) .none kV dc pm an cd ct), sl⟩ /\ PySem.W.codeIn K cd x = true /\ PySem.W.keepIn K (.ref f) = true
theorem Cy {K : PySem.W.Frag} {h : Heap} {mg : Str -> Option Value} {x : Str} {st : Stmt} (X : K.In h) (G : h.Ns mainGlobals mg) (d : Fd K x st) (ps : List Str) (hb : ∀ (kV doc pm : Value) (an : Option Addr) (cdv ct : Value) (us : List Value), us.length = ps.length -> bindArgs (PySem.W.fnOf x x (M5 st) (K7 st) (Ag st) .none kV doc pm an cdv ct) ⟨us, []⟩ = pure (ps.zip us)) : ∃ f fd, Df K mg x st ps f fd := by
  obtain ⟨f, _, _, _, _, _, _, _, _, _, a, l, c, k⟩ := d
  have F := Aef (st := st) l c k
  exact ⟨_, _, F, F.binds hb, PySem.W.mg_of X G a⟩
theorem all_mk {l : PySem.W.OpenLaw} {w : World} {K : PySem.W.Frag} {h : Heap} {mg : Str -> Option Value} {fa : Addr} (X : K.In h) (G : h.Ns mainGlobals mg) (hfa : mg "law" = some (.ref fa))
    (d1 : Fd K "_law_cell_at" Nf) (d2 : Fd K "poly" Abk) (d3 : Fd K "_law_mixed" Qw) (d4 : Fd K "_law_digits" Oq) (d5 : Fd K "_law_poly" Qh) (d6 : Fd K "degree" Um) (d7 : Fd K "by_number" Lf) (d8 : Fd K "scaled" Qf) (d9 : Fd K "inverse_by" Lp) (d10 : Fd K "single" Uo) (d11 : Fd K "m_parted" Oo) (d12 : Fd K "m_rest" Uh) (d13 : Fd K "m_shared" Ou) (d14 : Fd K "surely_apart" Jt) (d15 : Fd K "shrunk" Pu) (d16 : Fd K "divisor" Rj) (d17 : Fd K "divisor_of" Lq) (d18 : Fd K "content" Qs) (d19 : Fd K "unit" Z9) (d20 : Fd K "plain" Wy) (d21 : Fd K "p_times" Rn) (d22 : Fd K "repeated" Om) (d23 : Fd K "power" Ws) (d24 : Fd K "whole_power" Ld) (d25 : Fd K "raised" Ud) (d26 : Fd K "p_plus" Px) (d27 : Fd K "p_minus" Qj) (d28 : Fd K "scaled_division" Hq) (d29 : Fd K "next_row" Ol) (d30 : Fd K "last_row" Mj) (d31 : Fd K "shared" Uz) (d32 : Fd K "long_division" Ek) (d33 : Fd K "whole_part" Mh) (d34 : Fd K "q_of" Abp) (d35 : Fd K "shared_paper" Jx) (d36 : Fd K "q_paper" Qm) (d37 : Fd K "_law_alone" Q8) (d38 : Fd K "is_whole" Og) (d39 : Fd K "has_plain_weights" Gw) (d40 : Fd K "is_poly" Nx) (d41 : Fd K "q_right" Nu) (d42 : Fd K "_law_told" Uw) (d43 : Fd K "_law_part" Ue) (d44 : Fd K "_law_turned" Oz) (d45 : Fd K "_law_own" Xn) (d46 : Fd K "_law_is_poly" K6) (d47 : Fd K "_law_due" Uy) (d48 : Fd K "law" Vt)
    {qNoPart : Addr} (aNoPart : PySem.W.nsIn K mainGlobals "NoPart" = some (some (.ref qNoPart)))
    {tPRIME : Tok}
    (xkNoPart : PySem.W.excIn K qNoPart [.type "ValueError", .type "Exception", .type "BaseException", .type "object"] "ValueError.__new__" = true)
    (xcPRIME : PySem.W.nsIn K mainGlobals "PRIME" = some (some (.int 2305843009213693951 tPRIME)))
    (zlen : PySem.W.nsIn K mainGlobals "len" = some none) (ztuple : PySem.W.nsIn K mainGlobals "tuple" = some none) (zrange : PySem.W.nsIn K mainGlobals "range" = some none) (zlist : PySem.W.nsIn K mainGlobals "list" = some none) (zmax : PySem.W.nsIn K mainGlobals "max" = some none) (zenumerate : PySem.W.nsIn K mainGlobals "enumerate" = some none) (zabs : PySem.W.nsIn K mainGlobals "abs" = some none) (zzip : PySem.W.nsIn K mainGlobals "zip" = some none) (zisinstance : PySem.W.nsIn K mainGlobals "isinstance" = some none) (zint : PySem.W.nsIn K mainGlobals "int" = some none) (zbool : PySem.W.nsIn K mainGlobals "bool" = some none) (zall : PySem.W.nsIn K mainGlobals "all" = some none) (zsum : PySem.W.nsIn K mainGlobals "sum" = some none) :
    ∃ fd : FuncData, (∀ (s : Shared) (v : Value), BindsTo s fd ⟨[v], []⟩ [("_law_script", v)]) /\ ∀ base : Heap, K.In base -> base.Ns mainGlobals mg -> Qi l.prog w K mg base CX0 12 fa fd ["_law_script"] (Ac9 K) := by
  obtain ⟨f48, _, an, sl, oc, kV, dc, pm, cd, ct, a48, l48, c48, k48⟩ := d48
  obtain ⟨f21, _, _, _, _, _, _, _, _, _, a21, _⟩ := id d21
  have e := hfa.symm.trans (PySem.W.mg_of X G a48)
  cases e
  have z_len := PySem.W.mg_none_of X G zlen
  have z_tuple := PySem.W.mg_none_of X G ztuple
  have z_range := PySem.W.mg_none_of X G zrange
  have z_list := PySem.W.mg_none_of X G zlist
  have z_max := PySem.W.mg_none_of X G zmax
  have z_enumerate := PySem.W.mg_none_of X G zenumerate
  have z_abs := PySem.W.mg_none_of X G zabs
  have z_zip := PySem.W.mg_none_of X G zzip
  have z_isinstance := PySem.W.mg_none_of X G zisinstance
  have z_int := PySem.W.mg_none_of X G zint
  have z_bool := PySem.W.mg_none_of X G zbool
  have z_all := PySem.W.mg_none_of X G zall
  have z_sum := PySem.W.mg_none_of X G zsum
  have eNoPart := Ahe aNoPart
  have ep_times := Ahe a21
  have xk_NoPart : Acx K (cA K "NoPart") := by rw [eNoPart]; exact xkNoPart
  have xm_NoPart : mg "NoPart" = some (.ref (cA K "NoPart")) := by rw [eNoPart]; exact PySem.W.mg_of X G aNoPart
  have xc_PRIME : ∃ u, mg "PRIME" = some u /\ RelV (V.int 2305843009213693951) u := ⟨_, PySem.W.mg_of X G xcPRIME, ⟨_, rfl⟩⟩
  have xm_p_times : mg "p_times" = some (.ref (cA K "p_times")) := by rw [ep_times]; exact PySem.W.mg_of X G a21
  obtain ⟨_, _, D1⟩ := Cy X G d1 ["_law_script", "_law_k"] fun _ _ _ _ _ _ us hl => match us, hl with | [_, _], _ => rfl
  obtain ⟨_, _, D2⟩ := Cy X G d2 ["weights"] fun _ _ _ _ _ _ us hl => match us, hl with | [_], _ => rfl
  obtain ⟨_, _, D3⟩ := Cy X G d3 ["_law_cell", "_law_k"] fun _ _ _ _ _ _ us hl => match us, hl with | [_, _], _ => rfl
  obtain ⟨_, _, D4⟩ := Cy X G d4 ["_law_cell", "_law_many", "_law_base"] fun _ _ _ _ _ _ us hl => match us, hl with | [_, _, _], _ => rfl
  obtain ⟨_, _, D5⟩ := Cy X G d5 ["_law_cell"] fun _ _ _ _ _ _ us hl => match us, hl with | [_], _ => rfl
  obtain ⟨_, _, D6⟩ := Cy X G d6 ["one"] fun _ _ _ _ _ _ us hl => match us, hl with | [_], _ => rfl
  obtain ⟨_, _, D7⟩ := Cy X G d7 ["one", "m"] fun _ _ _ _ _ _ us hl => match us, hl with | [_, _], _ => rfl
  obtain ⟨_, _, D8⟩ := Cy X G d8 ["one", "factor"] fun _ _ _ _ _ _ us hl => match us, hl with | [_, _], _ => rfl
  obtain ⟨_, _, D9⟩ := Cy X G d9 ["number", "m"] fun _ _ _ _ _ _ us hl => match us, hl with | [_, _], _ => rfl
  obtain ⟨_, _, D10⟩ := Cy X G d10 ["one", "t"] fun _ _ _ _ _ _ us hl => match us, hl with | [_, _], _ => rfl
  obtain ⟨_, _, D11⟩ := Cy X G d11 ["one", "other", "m"] fun _ _ _ _ _ _ us hl => match us, hl with | [_, _, _], _ => rfl
  obtain ⟨_, _, D12⟩ := Cy X G d12 ["one", "other", "m"] fun _ _ _ _ _ _ us hl => match us, hl with | [_, _, _], _ => rfl
  obtain ⟨_, _, D13⟩ := Cy X G d13 ["one", "other", "t"] fun _ _ _ _ _ _ us hl => match us, hl with | [_, _, _], _ => rfl
  obtain ⟨_, _, D14⟩ := Cy X G d14 ["one", "other"] fun _ _ _ _ _ _ us hl => match us, hl with | [_, _], _ => rfl
  obtain ⟨_, _, D15⟩ := Cy X G d15 ["one", "number"] fun _ _ _ _ _ _ us hl => match us, hl with | [_, _], _ => rfl
  obtain ⟨_, _, D16⟩ := Cy X G d16 ["one", "other"] fun _ _ _ _ _ _ us hl => match us, hl with | [_, _], _ => rfl
  obtain ⟨_, _, D17⟩ := Cy X G d17 ["some"] fun _ _ _ _ _ _ us hl => match us, hl with | [_], _ => rfl
  obtain ⟨_, _, D18⟩ := Cy X G d18 ["one"] fun _ _ _ _ _ _ us hl => match us, hl with | [_], _ => rfl
  obtain ⟨_, _, D19⟩ := Cy X G d19 ["one"] fun _ _ _ _ _ _ us hl => match us, hl with | [_], _ => rfl
  obtain ⟨_, _, D20⟩ := Cy X G d20 ["one"] fun _ _ _ _ _ _ us hl => match us, hl with | [_], _ => rfl
  obtain ⟨_, _, D21⟩ := Cy X G d21 ["one", "other"] fun _ _ _ _ _ _ us hl => match us, hl with | [_, _], _ => rfl
  obtain ⟨_, _, D22⟩ := Cy X G d22 ["start", "one", "many", "product"] fun _ _ _ _ _ _ us hl => match us, hl with | [_, _, _, _], _ => rfl
  obtain ⟨_, _, D23⟩ := Cy X G d23 ["one", "many"] fun _ _ _ _ _ _ us hl => match us, hl with | [_, _], _ => rfl
  obtain ⟨_, _, D24⟩ := Cy X G d24 ["number", "many"] fun _ _ _ _ _ _ us hl => match us, hl with | [_, _], _ => rfl
  obtain ⟨_, _, D25⟩ := Cy X G d25 ["one", "many"] fun _ _ _ _ _ _ us hl => match us, hl with | [_, _], _ => rfl
  obtain ⟨_, _, D26⟩ := Cy X G d26 ["one", "other"] fun _ _ _ _ _ _ us hl => match us, hl with | [_, _], _ => rfl
  obtain ⟨_, _, D27⟩ := Cy X G d27 ["one", "other"] fun _ _ _ _ _ _ us hl => match us, hl with | [_, _], _ => rfl
  obtain ⟨_, _, D28⟩ := Cy X G d28 ["one", "other"] fun _ _ _ _ _ _ us hl => match us, hl with | [_, _], _ => rfl
  obtain ⟨_, _, D29⟩ := Cy X G d29 ["first", "second", "known"] fun _ _ _ _ _ _ us hl => match us, hl with | [_, _, _], _ => rfl
  obtain ⟨_, _, D30⟩ := Cy X G d30 ["first", "second"] fun _ _ _ _ _ _ us hl => match us, hl with | [_, _], _ => rfl
  obtain ⟨_, _, D31⟩ := Cy X G d31 ["one", "other"] fun _ _ _ _ _ _ us hl => match us, hl with | [_, _], _ => rfl
  obtain ⟨_, _, D32⟩ := Cy X G d32 ["one", "other", "scaling"] fun _ _ _ _ _ _ us hl => match us, hl with | [_, _, _], _ => rfl
  obtain ⟨_, _, D33⟩ := Cy X G d33 ["one", "other"] fun _ _ _ _ _ _ us hl => match us, hl with | [_, _], _ => rfl
  obtain ⟨_, _, D34⟩ := Cy X G d34 ["p", "q"] fun _ _ _ _ _ _ us hl => match us, hl with | [_, _], _ => rfl
  obtain ⟨_, _, D35⟩ := Cy X G d35 ["one", "other"] fun _ _ _ _ _ _ us hl => match us, hl with | [_, _], _ => rfl
  obtain ⟨_, _, D36⟩ := Cy X G d36 ["p", "q"] fun _ _ _ _ _ _ us hl => match us, hl with | [_, _], _ => rfl
  obtain ⟨_, _, D37⟩ := Cy X G d37 ["_law_paper", "_law_foreign"] fun _ _ _ _ _ _ us hl => match us, hl with | [_, _], _ => rfl
  obtain ⟨_, _, D38⟩ := Cy X G d38 ["thing"] fun _ _ _ _ _ _ us hl => match us, hl with | [_], _ => rfl
  obtain ⟨_, _, D39⟩ := Cy X G d39 ["top", "bottom"] fun _ _ _ _ _ _ us hl => match us, hl with | [_, _], _ => rfl
  obtain ⟨_, _, D40⟩ := Cy X G d40 ["thing"] fun _ _ _ _ _ _ us hl => match us, hl with | [_], _ => rfl
  obtain ⟨_, _, D41⟩ := Cy X G d41 ["p", "q", "paper"] fun _ _ _ _ _ _ us hl => match us, hl with | [_, _, _], _ => rfl
  obtain ⟨_, _, D42⟩ := Cy X G d42 ["_law_one", "_law_other", "_law_paper"] fun _ _ _ _ _ _ us hl => match us, hl with | [_, _, _], _ => rfl
  obtain ⟨_, _, D43⟩ := Cy X G d43 ["_law_part_here", "_law_cell"] fun _ _ _ _ _ _ us hl => match us, hl with | [_, _], _ => rfl
  obtain ⟨_, _, D44⟩ := Cy X G d44 ["_law_paper", "_law_cell"] fun _ _ _ _ _ _ us hl => match us, hl with | [_, _], _ => rfl
  obtain ⟨_, _, D45⟩ := Cy X G d45 ["_law_paper", "_law_cell"] fun _ _ _ _ _ _ us hl => match us, hl with | [_, _], _ => rfl
  obtain ⟨_, _, D46⟩ := Cy X G d46 ["_law_thing"] fun _ _ _ _ _ _ us hl => match us, hl with | [_], _ => rfl
  obtain ⟨_, _, D47⟩ := Cy X G d47 ["_law_one", "_law_other", "_law_paper"] fun _ _ _ _ _ _ us hl => match us, hl with | [_, _, _], _ => rfl
  have F48 := Aef (st := Vt) l48 c48 k48
  have D48 : Df K mg "law" Vt ["_law_script"] _ _ := ⟨F48, F48.binds (ps := ["_law_script"]) fun _ _ _ _ _ _ us hl => match us, hl with | [_], _ => rfl, PySem.W.mg_of X G a48⟩
  refine ⟨PySem.W.fnOf "law" "law" (M5 Vt) (K7 Vt) (Ag Vt) .none kV dc pm an cd ct, fun s v => .of_eq rfl, fun base _ _ => ?_⟩
  have C_q_cell_at := Vd (P := l.prog) (w := w) (base := base) D1 z_len
  have C_poly := Ag0 (P := l.prog) (w := w) (base := base) D2 z_len z_tuple
  have C_q_mixed := Y9 (P := l.prog) (w := w) (base := base) D3
  have C_q_digits := Wz (P := l.prog) (w := w) (base := base) D4 z_range C_q_mixed
  have C_q_poly := Acm (P := l.prog) (w := w) (base := base) D5 C_poly C_q_digits
  have C_degree := Zz (P := l.prog) (w := w) (base := base) D6 z_len
  have C_by_number := Vw (P := l.prog) (w := w) (base := base) D7 C_poly
  have C_scaled := Aa4 (P := l.prog) (w := w) (base := base) D8 z_tuple
  have CE_inverse_by := U3 (P := l.prog) (w := w) (base := base) D9 xk_NoPart xm_NoPart
  have C_inverse_by := CE_inverse_by.calm (Qu K)
  have C_single := Acl (P := l.prog) (w := w) (base := base) D10 C_by_number C_scaled C_inverse_by
  have CE_m_parted := Wu (P := l.prog) (w := w) (base := base) D11 z_list z_range z_max z_len z_enumerate xk_NoPart xm_NoPart CE_inverse_by C_by_number C_poly C_degree
  have C_m_parted := CE_m_parted.calm (Ub K)
  have C_m_rest := Abf (P := l.prog) (w := w) (base := base) D12 C_m_parted
  have C_m_shared := Xh (P := l.prog) (w := w) (base := base) D13 C_by_number C_single C_m_rest
  have C_surely_apart := Qz (P := l.prog) (w := w) (base := base) D14 xc_PRIME C_degree C_m_shared
  have C_shrunk := Aa8 (P := l.prog) (w := w) (base := base) D15 z_tuple
  have C_divisor := Y5 (P := l.prog) (w := w) (base := base) D16 z_abs
  have C_divisor_of := Ug (P := l.prog) (w := w) (base := base) D17 C_divisor
  have C_content := Yw (P := l.prog) (w := w) (base := base) D18 C_divisor_of
  have C_unit := Afz (P := l.prog) (w := w) (base := base) D19 C_content
  have C_plain := Adu (P := l.prog) (w := w) (base := base) D20 C_shrunk C_unit
  have C_p_times := Y6 (P := l.prog) (w := w) (base := base) D21 z_enumerate z_tuple z_len
  have C_repeated := W9 (P := l.prog) (w := w) (base := base) D22 xm_p_times C_p_times
  have C_power := Adk (P := l.prog) (w := w) (base := base) D23 xm_p_times C_repeated
  have C_whole_power := Ss (P := l.prog) (w := w) (base := base) D24 C_power
  have C_raised := Aai (P := l.prog) (w := w) (base := base) D25
  have C_p_plus := Zy (P := l.prog) (w := w) (base := base) D26 z_list z_enumerate z_len C_poly
  have C_p_minus := Zg (P := l.prog) (w := w) (base := base) D27 C_p_plus C_scaled
  have C_scaled_division := Oa (P := l.prog) (w := w) (base := base) D28 z_range z_len C_raised C_p_plus C_p_minus C_degree C_poly C_scaled C_p_times
  have C_next_row := Xe (P := l.prog) (w := w) (base := base) D29 z_zip z_tuple C_whole_power C_scaled_division C_shrunk C_degree C_p_minus C_scaled C_p_times
  have C_last_row := Wq (P := l.prog) (w := w) (base := base) D30 C_degree C_next_row C_whole_power
  have C_shared := Ach (P := l.prog) (w := w) (base := base) D31 C_surely_apart C_plain C_last_row
  have CE_long_division := Pk (P := l.prog) (w := w) (base := base) D32 z_list z_range z_max z_len z_abs z_enumerate xk_NoPart xm_NoPart C_poly C_divisor C_degree
  have CE_whole_part := Uc (P := l.prog) (w := w) (base := base) D33 CE_long_division
  have C_whole_part := CE_whole_part.calm (Rm K)
  have CE_q_of := Af7 (P := l.prog) (w := w) (base := base) D34 xk_NoPart xm_NoPart C_shared CE_whole_part C_divisor_of C_shrunk
  have C_q_of := CE_q_of.calm (Abl K)
  have C_shared_paper := Qx (P := l.prog) (w := w) (base := base) D35 C_last_row C_plain C_whole_part C_unit
  have C_q_paper := Zr (P := l.prog) (w := w) (base := base) D36 C_q_of C_shared_paper
  have C_q_alone := Zc (P := l.prog) (w := w) (base := base) D37 C_p_times C_scaled
  have C_is_whole := Xa (P := l.prog) (w := w) (base := base) D38 z_isinstance z_int z_bool
  have C_has_plain_weights := Mq (P := l.prog) (w := w) (base := base) D39 C_divisor_of
  have C_is_poly := Zk (P := l.prog) (w := w) (base := base) D40 z_isinstance z_tuple z_all z_len C_is_whole
  have C_q_right := Yv (P := l.prog) (w := w) (base := base) D41 z_isinstance z_tuple z_len z_all C_p_plus C_is_whole C_has_plain_weights C_p_times C_is_poly
  have C_q_told := Acj (P := l.prog) (w := w) (base := base) D42 z_isinstance z_bool C_q_right
  have C_q_part := Ack (P := l.prog) (w := w) (base := base) D43 z_list z_sum C_scaled C_p_times C_poly
  have C_q_turned := Xp (P := l.prog) (w := w) (base := base) D44 z_list z_tuple C_q_part
  have C_q_own := Ad2 (P := l.prog) (w := w) (base := base) D45 C_poly C_p_plus C_scaled C_p_times
  have C_q_is_poly := Vv (P := l.prog) (w := w) (base := base) D46 z_isinstance z_tuple z_bool z_int
  have C_q_due := Ac4 (P := l.prog) (w := w) (base := base) D47 z_isinstance z_bool z_abs z_len z_int C_p_plus C_p_times C_q_is_poly
  exact Ah3 (P := l.prog) (w := w) (base := base) D48 z_range z_list C_q_cell_at C_q_poly C_q_paper C_q_of C_q_alone C_poly C_p_times C_q_told C_p_plus C_q_turned C_q_own C_q_due
theorem walk {l : PySem.W.OpenLaw} {q : Program} {loose : List Str} {XP : (Str -> Option Value) -> Heap -> Prop} {YP : World -> Heap -> Prop} {d : DefRec} {K : Params -> PySem.W.Frag} (hn : l.most = some 63) (hdf : d.params.defaults = [])
    (hY : ∀ (w : World) (h : Heap), YP w h -> (K w.params).In h)
    (F : ∀ (w : World) (mg : Str -> Option Value) (fa : Addr) (h : Heap), (K w.params).In h -> h.Ns mainGlobals mg -> mg d.name = some (.ref fa) ->
      ∃ fd : FuncData, (∀ (s : Shared) (u : Value), BindsTo s fd ⟨[u], []⟩ [("_law_script", u)]) /\ ∀ base : Heap, (K w.params).In base -> base.Ns mainGlobals mg -> Qi l.prog w (K w.params) mg base CX0 12 fa fd ["_law_script"] (Ac9 (K w.params))) :
    PySem.W.WalkO q loose XP YP l.row.toRowW d [] (fun f vs => PySem.call f vs) :=
  L2.Aaz (n := 63) (k := 12) (x := "_law_script") (CX := fun _ => CX0) (sp := fun w => Ac9 (K w.params)) hn (by decide) hdf ⟨rfl, by decide, by decide⟩ hY F (fun _ _ a ns hl _ hS => ⟨a, ns, rfl, hS, hl, fun _ => rfl⟩) fun _ _ _ _ _ z => z
end Z
namespace PySem.W.Fast
def tw10019840088665710290 := ()
def tw10052514493392949137 := ()
def tw10096956713645402569 := ()
def tw10168165337839546617 := ()
def tw10241894101813351146 := ()
def tw10299075778127103714 := ()
def tw10448617910800929480 := ()
def tw10496043157681057386 := ()
def tw10553600625902693722 := ()
def tw10605235629405192481 := ()
def tw10763606952913576165 := ()
def tw10786815031934136599 := ()
def tw10856453916887633946 := ()
def tw11000129585291845114 := ()
def tw11025887090188344781 := ()
def tw11045662237809651364 := ()
def tw11061399552780913852 := ()
def tw11126567528721801504 := ()
def tw11193366706695252590 := ()
def tw11332601730060595045 := ()
def tw11410892039426892391 := ()
def tw11420889304866895773 := ()
def tw1151713584271016394 := ()
def tw11526607232408512635 := ()
def tw11531843946604883217 := ()
def tw11555827099984638073 := ()
def tw1160844700176960498 := ()
def tw11812530220776191751 := ()
def tw11813848716294139164 := ()
def tw11944942433022052835 := ()
def tw11982656922942047671 := ()
def tw12035964082950762782 := ()
def tw1209296944952312233 := ()
def tw1213984688318076532 := ()
def tw12146848827736063477 := ()
def tw12168946639327686927 := ()
def tw12207588415715425043 := ()
def tw1223357455827954539 := ()
def tw12336522088367462060 := ()
def tw1233825828653215492 := ()
def tw12362042670026682765 := ()
def tw12607463672275679829 := ()
def tw12610243356005893254 := ()
def tw12674408563137309623 := ()
def tw12687235995256955716 := ()
def tw12720087853443766431 := ()
def tw12749315303412403821 := ()
def tw12783781023453129509 := ()
def tw12837014149974061163 := ()
def tw12848448392119271828 := ()
def tw12855168883357236916 := ()
def tw12928205935119469413 := ()
def tw12965888755666126563 := ()
def tw13022521784123046700 := ()
def tw1302353404258923505 := ()
def tw13080049831131324903 := ()
def tw13258631265857307914 := ()
def tw13286806457170659998 := ()
def tw13458088870931037777 := ()
def tw13521164762557891461 := ()
def tw13525007659560561748 := ()
def tw13545201051666201295 := ()
def tw13565960831150160469 := ()
def tw1361640201890814286 := ()
def tw13670525850210428978 := ()
def tw13822020753887226944 := ()
def tw13832610171720751147 := ()
def tw13842250481695512782 := ()
def tw13893310121460829341 := ()
def tw1389732204554125709 := ()
def tw13905775771003669446 := ()
def tw13907658776518542975 := ()
def tw1394528519943319701 := ()
def tw13955453912356421368 := ()
def tw14030488938892365226 := ()
def tw14173864582081119624 := ()
def tw14226573686897460780 := ()
def tw14254027628071678118 := ()
def tw14279969435473328057 := ()
def tw142867293194564946 := ()
def tw14304993811142394887 := ()
def tw14395946253603093862 := ()
def tw14404238880811562308 := ()
def tw14425845803581600196 := ()
def tw14446615920842775420 := ()
def tw14580056778402803545 := ()
def tw14619928339818369948 := ()
def tw14638450373816429299 := ()
def tw14702413848081722459 := ()
def tw14761943355199326471 := ()
def tw14955070508908141692 := ()
def tw14963443170175133249 := ()
def tw14964521832299017607 := ()
def tw14991070684206893383 := ()
def tw15106800859259281042 := ()
def tw15119982773300661311 := ()
def tw15143735045878039174 := ()
def tw15167638683648231279 := ()
def tw15231023450508729202 := ()
def tw15261336789676935698 := ()
def tw1529718050273830754 := ()
def tw15422915698007446155 := ()
def tw15441068057092985132 := ()
def tw15452670930861135984 := ()
def tw15462372806027217340 := ()
def tw15465861045942655222 := ()
def tw15485766974809494922 := ()
def tw15486838873754900001 := ()
def tw15514697599141696144 := ()
def tw1556720397807895472 := ()
def tw1557624591306276958 := ()
def tw15647920686803480567 := ()
def tw15652421938532243337 := ()
def tw15677872839633301947 := ()
def tw15720802647154227043 := ()
def tw15889532732207143786 := ()
def tw15912613198100919424 := ()
def tw1593499244787558181 := ()
def tw15937402796754666015 := ()
def tw15956328300501615522 := ()
def tw15976336332354223084 := ()
def tw16003694791802204774 := ()
def tw16049700323864270482 := ()
def tw1612735891771085633 := ()
def tw16131810262402341702 := ()
def tw16184082138703780824 := ()
def tw16260746434178905008 := ()
def tw16325039282544924326 := ()
def tw16325766046300833650 := ()
def tw16376480923507395586 := ()
def tw16386935267052347009 := ()
def tw16400643474789884909 := ()
def tw16406926212002707212 := ()
def tw16470790077317265949 := ()
def tw16491887804181782840 := ()
def tw16498840321018741676 := ()
def tw16641976814143655930 := ()
def tw16701738762250151931 := ()
def tw16729250432161448519 := ()
def tw16745154287684163590 := ()
def tw16847929973094048703 := ()
def tw16885720750561116598 := ()
def tw16932707377577221619 := ()
def tw17031014734080514112 := ()
def tw17079455009465399377 := ()
def tw17082275500569221816 := ()
def tw17084816633265063423 := ()
def tw17101518186821704773 := ()
def tw17115082421644392439 := ()
def tw17210727282364860226 := ()
def tw17229179723416622088 := ()
def tw17307383599698359952 := ()
def tw17426965085731632139 := ()
def tw17601451226332730706 := ()
def tw17621123804161037550 := ()
def tw1762414420931911409 := ()
def tw17677174709940048970 := ()
def tw17774003985342316208 := ()
def tw17857946946728510882 := ()
def tw17910076039042300335 := ()
def tw17938391508589009857 := ()
def tw17985706405414020611 := ()
def tw18010335215826629017 := ()
def tw18015741249928769057 := ()
def tw18031115229864552104 := ()
def tw18035158897337903340 := ()
def tw18044075431254983291 := ()
def tw18051187866420615665 := ()
def tw18088180473667312247 := ()
def tw18226759543486031859 := ()
def tw18308703492975618152 := ()
def tw18321147040673648629 := ()
def tw18345504920600027663 := ()
def tw18390997230238273388 := ()
def tw18417279234137339948 := ()
def tw1861972205348868389 := ()
def tw1916748603355572614 := ()
def tw2195516745303110074 := ()
def tw2292886826950993585 := ()
def tw2300735337240683807 := ()
def tw2362797572944939091 := ()
def tw236400175659136947 := ()
def tw2405811965789668263 := ()
def tw2434683782254670664 := ()
def tw2499909457091813443 := ()
def tw2551981867658856866 := ()
def tw2561771517682038724 := ()
def tw2566463379424220077 := ()
def tw2573104010078776214 := ()
def tw2579503167133954015 := ()
def tw2620429481293798416 := ()
def tw2719261862857645728 := ()
def tw2732136622389952242 := ()
def tw2735874624003730611 := ()
def tw2760482810890768 := ()
def tw280182757735617802 := ()
def tw280817248857626893 := ()
def tw2876565063111620838 := ()
def tw2934514329609813943 := ()
def tw2938321839061516081 := ()
def tw298850560431931967 := ()
def tw3047805302294480872 := ()
def tw3079482789667798117 := ()
def tw3141012967715545540 := ()
def tw317978932948657763 := ()
def tw3315609390345133926 := ()
def tw3393783320742857426 := ()
def tw3396688046418411506 := ()
def tw3477416027743590101 := ()
def tw3508095843305400812 := ()
def tw351147547643241387 := ()
def tw3590822055464403987 := ()
def tw3658309999044119196 := ()
def tw3700248225908708707 := ()
def tw3820751761573052251 := ()
def tw3827083401586523728 := ()
def tw3881730540205690020 := ()
def tw3881924368425196047 := ()
def tw3936165813021972624 := ()
def tw4018952031361676851 := ()
def tw4063994222106862486 := ()
def tw4066612310786634328 := ()
def tw4093317504376998125 := ()
def tw4123550941064816558 := ()
def tw427007062493321513 := ()
def tw4281431698146448198 := ()
def tw4284187478205049059 := ()
def tw4292077346318213044 := ()
def tw4346711468732591298 := ()
def tw4491520234444460460 := ()
def tw4492439996351440832 := ()
def tw4540510271950240267 := ()
def tw4547717929789779504 := ()
def tw4568227896886286956 := ()
def tw4599829118237304828 := ()
def tw4652398082476927467 := ()
def tw4693895350944264533 := ()
def tw4741671917366625989 := ()
def tw4768686345807534033 := ()
def tw4781430498112672774 := ()
def tw4802127193688498234 := ()
def tw4895055675597036739 := ()
def tw4923745787047826980 := ()
def tw4987350309739382762 := ()
def tw5000854089295508987 := ()
def tw5059809235729384023 := ()
def tw522484696812639863 := ()
def tw5265397133337993644 := ()
def tw5312491700460463815 := ()
def tw5463190458005957791 := ()
def tw5463994682544897955 := ()
def tw5566223704608022412 := ()
def tw5614414904059721564 := ()
def tw5676531164515045571 := ()
def tw5720605467635624431 := ()
def tw5726757406515899444 := ()
def tw5828528096848378311 := ()
def tw5944959963834283031 := ()
def tw6115482343950048003 := ()
def tw6140247995209143529 := ()
def tw620894253242592046 := ()
def tw6222586808783501676 := ()
def tw622904064897821604 := ()
def tw6320784348461011850 := ()
def tw6334566601397444569 := ()
def tw6454222639985761565 := ()
def tw655440172729815023 := ()
def tw6577759969127523699 := ()
def tw6620480193288682064 := ()
def tw6656509394731449448 := ()
def tw6753482215687953879 := ()
def tw6855910528130018052 := ()
def tw7011734481203262321 := ()
def tw7053754988886326202 := ()
def tw707609291475541252 := ()
def tw7079025690515375342 := ()
def tw7104747885678944507 := ()
def tw7171155937466170160 := ()
def tw7341152816188749080 := ()
def tw7383331534310871962 := ()
def tw746692521691041240 := ()
def tw7481283532148537097 := ()
def tw7504143389899598299 := ()
def tw7588212957713229969 := ()
def tw7594858501352830635 := ()
def tw7622659723000103964 := ()
def tw7693470788080232922 := ()
def tw7798958799203384792 := ()
def tw7977129316555768569 := ()
def tw8042678564673620307 := ()
def tw8048494638090297701 := ()
def tw813396448549059849 := ()
def tw8406916228931977899 := ()
def tw8413901196435078001 := ()
def tw8415745577534724304 := ()
def tw8488307145133428013 := ()
def tw8533919056965979798 := ()
def tw8548109305411044813 := ()
def tw8565721898895831291 := ()
def tw8567796658939991198 := ()
def tw8593187421093784940 := ()
def tw8638467666537453211 := ()
def tw8676879439546481286 := ()
def tw8730738865986955143 := ()
def tw8786791544076586977 := ()
def tw8814720035943743130 := ()
def tw8822544770061842557 := ()
def tw8842872282049027249 := ()
def tw8863585590857298299 := ()
def tw8953840615841220116 := ()
def tw8956947493446826662 := ()
def tw8978927366782100031 := ()
def tw8982428069363857618 := ()
def tw9208174462278185065 := ()
def tw9389412076350787008 := ()
def tw9477502743933506457 := ()
def tw9594679270435624521 := ()
def tw9768465667487035841 := ()
def tw9779845857077116146 := ()
def tw9825417150689413431 := ()
def tw9963630036240971398 := ()
end PySem.W.Fast
open PySem PySem.W PyProof.Rows
set_option maxRecDepth 100000 in
set_option maxHeartbeats 0 in
theorem PySem.Challenge.cw_rootcourt_k62_any_quotient_paper_holds : PySem.Challenge.rw_rootcourt_k62_any_quotient_paper.Holds := by
  w_on; o_law; k_head; (case hw => w_witness2)
  k_fill
  refine Z.walk (l := PySem.Challenge.rw_rootcourt_k62_any_quotient_paper) rfl rfl (fun w h Y => PySem.W.kIn_of Y) ?F
  case F =>
    intro w mg fa h KX G hmg
    refine' Z.all_mk KX G hmg ?d1 ?d2 ?d3 ?d4 ?d5 ?d6 ?d7 ?d8 ?d9 ?d10 ?d11 ?d12 ?d13 ?d14 ?d15 ?d16 ?d17 ?d18 ?d19 ?d20 ?d21 ?d22 ?d23 ?d24 ?d25 ?d26 ?d27 ?d28 ?d29 ?d30 ?d31 ?d32 ?d33 ?d34 ?d35 ?d36 ?d37 ?d38 ?d39 ?d40 ?d41 ?d42 ?d43 ?d44 ?d45 ?d46 ?d47 ?d48 ?aNoPart ?xkNoPart ?xcPRIME ?zlen ?ztuple ?zrange ?zlist ?zmax ?zenumerate ?zabs ?zzip ?zisinstance ?zint ?zbool ?zall ?zsum
    (case aNoPart => k_is); (case xkNoPart => k_exc); (case xcPRIME => k_is)
    all_goals first | k_is | exact ⟨_, _, _, _, _, _, _, _, _, _, by k_is, by k_is, by k_is, by k_is⟩
